import PyProof.Rows.All
import Wide.All
import OpenK.AllK
import Wide.FinOn
import HandS.Base
import HandS.Call
import HandS.List
import HandS.Comp
import HandS.Ends
import HandS.Dict
import HandS.Iter
import HandS.Text
import HandS.Words
import HandS.WordsList
import HandS.WordsDict
import HandS.Conv
import HandS.Walk
import HandS.IsInst
import HandS.MakeKw
import HandS.MakeKwOnly
import HandS.Flow
import HandS.TupAny
import HandS.TupMul
import HandS.FStr
import HandS.Zip
import HandS.Style
import HandS.Codes
import HandS.TupLe
import HandS.SetKeys
import HandS.Strs
import HandS.SetFor
import HandS.Deep
import HandS.SortInts
import HandS.More
import HandS.CallLocal
import HandS.HeadHook3
import KE.GoesMore
import KE.GoesZip
import KE.KUnpack
import PyProof.TupleOfStr
import PySem.Challenge.RW_shownshort_k12_whole_views
set_option Elab.async false
set_option linter.all false
set_option maxRecDepth 100000
namespace Gu
open PySem PySem.Spec PyProof.Rows L2
/-! the text, by places -/
def topS (i : Nat) : Stmt := PySem.Challenge.pw_shownshort_k12_whole_views.main.body.getD i (.Pass ⟨0, 0, 0, 0⟩)
abbrev s_InvalidNumber_init : Stmt := inClass (topS 2) 0
abbrev ps_InvalidNumber_init : List Str := ["self", "value"]
theorem sc_InvalidNumber_init : FnScope ["self", "value"] ps_InvalidNumber_init (defScope s_InvalidNumber_init) := ⟨rfl, rfl, rfl, by decide +kernel, rfl, by decide +kernel, by decide +kernel⟩
abbrev s_InvalidMark_init : Stmt := inClass (topS 3) 0
abbrev ps_InvalidMark_init : List Str := ["self", "value"]
theorem sc_InvalidMark_init : FnScope ["self", "value"] ps_InvalidMark_init (defScope s_InvalidMark_init) := ⟨rfl, rfl, rfl, by decide +kernel, rfl, by decide +kernel, by decide +kernel⟩
abbrev s_InvalidLength_init : Stmt := inClass (topS 4) 0
abbrev ps_InvalidLength_init : List Str := ["self", "value"]
theorem sc_InvalidLength_init : FnScope ["self", "value"] ps_InvalidLength_init (defScope s_InvalidLength_init) := ⟨rfl, rfl, rfl, by decide +kernel, rfl, by decide +kernel, by decide +kernel⟩
abbrev s_InvalidViews_init : Stmt := inClass (topS 5) 0
abbrev ps_InvalidViews_init : List Str := ["self", "index"]
theorem sc_InvalidViews_init : FnScope ["self", "index"] ps_InvalidViews_init (defScope s_InvalidViews_init) := ⟨rfl, rfl, rfl, by decide +kernel, rfl, by decide +kernel, by decide +kernel⟩
abbrev s_is_integer : Stmt := topS 14
abbrev ps_is_integer : List Str := ["value", "least", "most"]
theorem sc_is_integer : FnScope ["value", "least", "most"] ps_is_integer (defScope s_is_integer) := ⟨rfl, rfl, rfl, by decide +kernel, rfl, by decide +kernel, by decide +kernel⟩
abbrev s_is_tuple : Stmt := topS 15
abbrev ps_is_tuple : List Str := ["value", "least", "most"]
theorem sc_is_tuple : FnScope ["value", "least", "most"] ps_is_tuple (defScope s_is_tuple) := ⟨rfl, rfl, rfl, by decide +kernel, rfl, by decide +kernel, by decide +kernel⟩
abbrev s_is_text : Stmt := topS 16
abbrev ps_is_text : List Str := ["value", "most"]
theorem sc_is_text : FnScope ["value", "most", "character"] ps_is_text (defScope s_is_text) := ⟨rfl, rfl, rfl, by decide +kernel, rfl, by decide +kernel, by decide +kernel⟩
abbrev s_check_mark : Stmt := topS 17
abbrev ps_check_mark : List Str := ["mark"]
theorem sc_check_mark : FnScope ["mark"] ps_check_mark (defScope s_check_mark) := ⟨rfl, rfl, rfl, by decide +kernel, rfl, by decide +kernel, by decide +kernel⟩
abbrev s_check_length : Stmt := topS 18
abbrev ps_check_length : List Str := ["length"]
theorem sc_check_length : FnScope ["length"] ps_check_length (defScope s_check_length) := ⟨rfl, rfl, rfl, by decide +kernel, rfl, by decide +kernel, by decide +kernel⟩
abbrev s_Shortener_init : Stmt := inClass (topS 20) 0
abbrev ps_Shortener_init : List Str := ["self", "limit", "head", "tail", "mark"]
theorem sc_Shortener_init : FnScope ["self", "limit", "head", "tail", "mark", "number"] ps_Shortener_init (defScope s_Shortener_init) := ⟨rfl, rfl, rfl, by decide +kernel, rfl, by decide +kernel, by decide +kernel⟩
abbrev s_Shortener_eq : Stmt := inClass (topS 20) 1
abbrev ps_Shortener_eq : List Str := ["self", "other"]
theorem sc_Shortener_eq : FnScope ["self", "other"] ps_Shortener_eq (defScope s_Shortener_eq) := ⟨rfl, rfl, rfl, by decide +kernel, rfl, by decide +kernel, by decide +kernel⟩
abbrev s_Shortener_repr : Stmt := inClass (topS 20) 2
abbrev ps_Shortener_repr : List Str := ["self"]
theorem sc_Shortener_repr : FnScope ["self"] ps_Shortener_repr (defScope s_Shortener_repr) := ⟨rfl, rfl, rfl, by decide +kernel, rfl, by decide +kernel, by decide +kernel⟩
abbrev s_is_row : Stmt := topS 21
abbrev ps_is_row : List Str := ["value"]
theorem sc_is_row : FnScope ["value", "part"] ps_is_row (defScope s_is_row) := ⟨rfl, rfl, rfl, by decide +kernel, rfl, by decide +kernel, by decide +kernel⟩
abbrev s_shortened : Stmt := topS 22
abbrev ps_shortened : List Str := ["shortener", "whole", "mark"]
theorem sc_shortened : FnScope ["shortener", "whole", "mark", "tail_start"] ps_shortened (defScope s_shortened) := ⟨rfl, rfl, rfl, by decide +kernel, rfl, by decide +kernel, by decide +kernel⟩
abbrev s_planned : Stmt := topS 23
abbrev ps_planned : List Str := ["row", "length"]
theorem sc_planned : FnScope ["row", "length", "sources", "shortener"] ps_planned (defScope s_planned) := ⟨rfl, rfl, rfl, by decide +kernel, rfl, by decide +kernel, by decide +kernel⟩
abbrev s_telling_lengths : Stmt := topS 24
abbrev ps_telling_lengths : List Str := []
theorem sc_telling_lengths : FnScope [] ps_telling_lengths (defScope s_telling_lengths) := ⟨rfl, rfl, rfl, by decide +kernel, rfl, by decide +kernel, by decide +kernel⟩
abbrev s_is_view : Stmt := topS 27
abbrev ps_is_view : List Str := ["value"]
theorem sc_is_view : FnScope ["value"] ps_is_view (defScope s_is_view) := ⟨rfl, rfl, rfl, by decide +kernel, rfl, by decide +kernel, by decide +kernel⟩
abbrev s_check_views : Stmt := topS 28
abbrev ps_check_views : List Str := ["views"]
theorem sc_check_views : FnScope ["views", "place", "view"] ps_check_views (defScope s_check_views) := ⟨rfl, rfl, rfl, by decide +kernel, rfl, by decide +kernel, by decide +kernel⟩
abbrev s_known_signs : Stmt := topS 29
abbrev ps_known_signs : List Str := ["views", "length"]
theorem sc_known_signs : FnScope ["views", "length", "known", "row", "shown", "sources", "source", "sign", "told"] ps_known_signs (defScope s_known_signs) := ⟨rfl, rfl, rfl, by decide +kernel, rfl, by decide +kernel, by decide +kernel⟩
abbrev s_written_out : Stmt := topS 30
abbrev ps_written_out : List Str := ["known", "length", "other"]
theorem sc_written_out : FnScope ["known", "length", "other", "place"] ps_written_out (defScope s_written_out) := ⟨rfl, rfl, rfl, by decide +kernel, rfl, by decide +kernel, by decide +kernel⟩
abbrev s_lengths : Stmt := topS 31
abbrev ps_lengths : List Str := ["views"]
theorem sc_lengths : FnScope ["views", "tried", "possible", "beyond", "length"] ps_lengths (defScope s_lengths) := ⟨rfl, rfl, rfl, by decide +kernel, rfl, by decide +kernel, by decide +kernel⟩
abbrev s_signs : Stmt := topS 32
abbrev ps_signs : List Str := ["views", "length"]
theorem sc_signs : FnScope ["views", "length", "known"] ps_signs (defScope s_signs) := ⟨rfl, rfl, rfl, by decide +kernel, rfl, by decide +kernel, by decide +kernel⟩
abbrev s_number_of : Stmt := topS 33
abbrev ps_number_of : List Str := ["views", "length"]
theorem sc_number_of : FnScope ["views", "length", "told", "number", "sign"] ps_number_of (defScope s_number_of) := ⟨rfl, rfl, rfl, by decide +kernel, rfl, by decide +kernel, by decide +kernel⟩
abbrev s_only_text : Stmt := topS 34
abbrev ps_only_text : List Str := ["views"]
theorem sc_only_text : FnScope ["views", "some", "beyond", "told"] ps_only_text (defScope s_only_text) := ⟨rfl, rfl, rfl, by decide +kernel, rfl, by decide +kernel, by decide +kernel⟩
abbrev s_least_text : Stmt := topS 35
abbrev ps_least_text : List Str := ["views"]
theorem sc_least_text : FnScope ["views", "some", "beyond", "least"] ps_least_text (defScope s_least_text) := ⟨rfl, rfl, rfl, by decide +kernel, rfl, by decide +kernel, by decide +kernel⟩
abbrev s_law_pot : Stmt := topS 37
abbrev ps_law_pot : List Str := ["_law_script", "_law_k"]
theorem sc_law_pot : FnScope ["_law_script", "_law_k", "_law_own", "_law_mixed", "_law_entry"] ps_law_pot (defScope s_law_pot) := ⟨rfl, rfl, rfl, by decide +kernel, rfl, by decide +kernel, by decide +kernel⟩
abbrev s_law_ladle : Stmt := topS 38
abbrev ps_law_ladle : List Str := ["_law_pot_here", "_law_many"]
theorem sc_law_ladle : FnScope ["_law_pot_here", "_law_many", "_law_digit"] ps_law_ladle (defScope s_law_ladle) := ⟨rfl, rfl, rfl, by decide +kernel, rfl, by decide +kernel, by decide +kernel⟩
abbrev s_law_one_of : Stmt := topS 39
abbrev ps_law_one_of : List Str := ["_law_pot_here", "_law_some"]
theorem sc_law_one_of : FnScope ["_law_pot_here", "_law_some"] ps_law_one_of (defScope s_law_one_of) := ⟨rfl, rfl, rfl, by decide +kernel, rfl, by decide +kernel, by decide +kernel⟩
abbrev s_law_told : Stmt := topS 40
abbrev ps_law_told : List Str := ["_law_pot_here"]
theorem sc_law_told : FnScope ["_law_pot_here", "_law_sign", "_law_way", "_law_bound", "_law_low", "_law_high"] ps_law_told (defScope s_law_told) := ⟨rfl, rfl, rfl, by decide +kernel, rfl, by decide +kernel, by decide +kernel⟩
abbrev s_law_tolds : Stmt := topS 41
abbrev ps_law_tolds : List Str := ["_law_pot_here"]
theorem sc_law_tolds : FnScope ["_law_pot_here", "_law_k"] ps_law_tolds (defScope s_law_tolds) := ⟨rfl, rfl, rfl, by decide +kernel, rfl, by decide +kernel, by decide +kernel⟩
abbrev s_law_made : Stmt := topS 42
abbrev ps_law_made : List Str := ["_law_tolds_here"]
theorem sc_law_made : FnScope ["_law_tolds_here", "_law_a", "_law_b", "_law_c", "_law_d"] ps_law_made (defScope s_law_made) := ⟨rfl, rfl, rfl, by decide +kernel, rfl, by decide +kernel, by decide +kernel⟩
abbrev s_law_cut : Stmt := topS 43
abbrev ps_law_cut : List Str := ["_law_tolds_here", "_law_things"]
theorem sc_law_cut : FnScope ["_law_tolds_here", "_law_things", "_law_bound", "_law_low", "_law_high", "_law_sign", "_law_front", "_law_back", "_law_each"] ps_law_cut (defScope s_law_cut) := ⟨rfl, rfl, rfl, by decide +kernel, rfl, by decide +kernel, by decide +kernel⟩
abbrev s_law_seen : Stmt := topS 44
abbrev ps_law_seen : List Str := ["_law_tolds_here", "_law_line_here"]
theorem sc_law_seen : FnScope ["_law_tolds_here", "_law_line_here", "_law_each"] ps_law_seen (defScope s_law_seen) := ⟨rfl, rfl, rfl, by decide +kernel, rfl, by decide +kernel, by decide +kernel⟩
abbrev s_law_line : Stmt := topS 45
abbrev ps_law_line : List Str := ["_law_pot_here", "_law_many"]
theorem sc_law_line : FnScope ["_law_pot_here", "_law_many", "_law_signs_here", "_law_k"] ps_law_line (defScope s_law_line) := ⟨rfl, rfl, rfl, by decide +kernel, rfl, by decide +kernel, by decide +kernel⟩
abbrev s_law_known : Stmt := topS 46
abbrev ps_law_known : List Str := ["_law_views_here", "_law_many"]
theorem sc_law_known : FnScope ["_law_views_here", "_law_many", "_law_found", "_law_tolds_here", "_law_seen_here", "_law_plan_here", "_law_k", "_law_at"] ps_law_known (defScope s_law_known) := ⟨rfl, rfl, rfl, by decide +kernel, rfl, by decide +kernel, by decide +kernel⟩
abbrev s_law_some_views : Stmt := topS 47
abbrev ps_law_some_views : List Str := ["_law_pot_here"]
theorem sc_law_some_views : FnScope ["_law_pot_here", "_law_line_here", "_law_found", "_law_k", "_law_tolds_here", "_law_seen_here", "_law_at"] ps_law_some_views (defScope s_law_some_views) := ⟨rfl, rfl, rfl, by decide +kernel, rfl, by decide +kernel, by decide +kernel⟩
abbrev s_law_due_lengths : Stmt := topS 48
abbrev ps_law_due_lengths : List Str := ["_law_views_here"]
theorem sc_law_due_lengths : FnScope ["_law_views_here", "_law_good", "_law_low", "_law_many"] ps_law_due_lengths (defScope s_law_due_lengths) := ⟨rfl, rfl, rfl, by decide +kernel, rfl, by decide +kernel, by decide +kernel⟩
abbrev s_law_due_texts : Stmt := topS 49
abbrev ps_law_due_texts : List Str := ["_law_views_here", "_law_due"]
theorem sc_law_due_texts : FnScope ["_law_views_here", "_law_due", "_law_firsts", "_law_known_here", "_law_least_here", "_law_alone", "_law_each"] ps_law_due_texts (defScope s_law_due_texts) := ⟨rfl, rfl, rfl, by decide +kernel, rfl, by decide +kernel, by decide +kernel⟩
abbrev s_law_right : Stmt := topS 50
abbrev ps_law_right : List Str := ["_law_pot_here"]
theorem sc_law_right : FnScope ["_law_pot_here", "_law_again", "_law_views_here", "_law_made_here", "_law_due", "_law_turn", "_law_far", "_law_many", "_law_known_here", "_law_line_here", "_law_ways", "_law_each", "_law_tolds_here", "_law_seen_here"] ps_law_right (defScope s_law_right) := ⟨rfl, rfl, rfl, by decide +kernel, rfl, by decide +kernel, by decide +kernel⟩
abbrev s_law : Stmt := topS 51
abbrev ps_law : List Str := ["_law_script"]
theorem sc_law : FnScope ["_law_script", "_law_k"] ps_law (defScope s_law) := ⟨rfl, rfl, rfl, by decide +kernel, rfl, by decide +kernel, by decide +kernel⟩
/-- names that the module leaves to Python -/
structure Bi (mg : Str → Option Value) : Prop where
  ValueError : mg "ValueError" = none
  abs : mg "abs" = none
  all : mg "all" = none
  bool : mg "bool" = none
  divmod : mg "divmod" = none
  enumerate : mg "enumerate" = none
  int : mg "int" = none
  isinstance : mg "isinstance" = none
  len : mg "len" = none
  list : mg "list" = none
  max : mg "max" = none
  min : mg "min" = none
  range : mg "range" = none
  repr : mg "repr" = none
  str : mg "str" = none
  tuple : mg "tuple" = none
  zip : mg "zip" = none
  MOST_SIGNS : ∃ u, mg "MOST_SIGNS" = some u ∧ RelV (.int 40) u
  MOST_MARK : ∃ u, mg "MOST_MARK" = some u ∧ RelV (.int 3) u
  MOST_ROW : ∃ u, mg "MOST_ROW" = some u ∧ RelV (.int 4) u
  MOST_VIEWS : ∃ u, mg "MOST_VIEWS" = some u ∧ RelV (.int 4) u
  MOST_TEXT : ∃ u, mg "MOST_TEXT" = some u ∧ RelV (.int 200) u
  MOST_LENGTH : ∃ u, mg "MOST_LENGTH" = some u ∧ RelV (.int 500) u
  SIGNS : ∃ u, mg "SIGNS" = some u ∧ RelV (.str ".0123456789abcdefghijklmnopqrstuvwxyz~") u
  SEVERAL : ∃ u, mg "SEVERAL" = some u ∧ RelV (.str "?") u
end Gu
namespace Gu
open PySem PySem.Spec PyProof.Rows L2
/-! cuts -/
/-- from a middle state on -/
def tHalt (t u : TS) : TS := fun D σ H => ∃ M : L2.St → Hp → Prop, t { D with nx := M } σ H ∧ ∀ σ1 H1, M σ1 H1 → u D σ1 H1
/-! defs as they stand behind the top -/
structure At (K : PySem.W.Frag) (mg : Str → Option Value) (x : Str) (st : Stmt) (ps : List Str) : Prop where
  ex : ∃ (f : Addr) (fd : FuncData), Fun K x x st f fd ∧ Binds K fd ps [] ∧ mg x = some (.ref f)
structure Cal (P : Program) (w : World) (K : PySem.W.Frag) (mg : Str → Option Value) (base : Heap) (k : Nat) (x : Str) (ps : List Str) (sp : Sp) : Prop where
  ex : ∃ (f : Addr) (fd : FuncData), FnOk P w K mg base CX0 k f fd ps sp ∧ mg x = some (.ref f) ∧ PySem.W.keepIn K (.ref f) = true ∧ Binds K fd ps [] ∧ ∃ oc od sl, K.lookup f = some ⟨oc, od, .func fd, sl⟩
theorem At.cal {P : Program} {w : World} {K : PySem.W.Frag} {mg : Str → Option Value} {base : Heap} {x : Str} {st : Stmt} {N ps : List Str} {k : Nat} {sp : Sp} (D : At K mg x st ps) (S : FnScope N ps (defScope st)) (len : ∀ vs H Q E, sp vs H Q E → vs.length = ps.length)
    (body : ∀ (f : Addr) (cdv : Value) (A : Around) (outer : List Env) (s : Shared) (H : Hp) (vs : List V) (Q : VK) (E : XK), Room k (A.deeper (envOfC x (defScope st) s.heap.objs.size f cdv)) → sp vs H Q E →
      ∃ t, PSs (cxOf CX0 P w K mg base N x (defScope st) f cdv A outer s H E).nox (defBody st) t ∧ t { nx := fun _ H' => Q .non H', rt := Q } (start N vs) H) : Cal P w K mg base (k + 1) x ps sp := by
  obtain ⟨f, fd, F, b, g⟩ := D.ex
  obtain ⟨oc, od, kV, doc, pm, an, cdv, ct, osl, e, lk, hcd⟩ := F.ex
  exact ⟨f, fd, F.ok S len (body f), g, F.kp, b, oc, od, osl, lk⟩
section
variable {X : Cx} {k j : Nat} {x : Str} {ps : List Str} {sp : Sp} {p pos : Pos} {e : Expr} {es : List Expr} {t : TA}
theorem pe_own (c : Cal X.prog X.w X.K X.mg X.base k x ps sp) (hr : Room j X.A) (hk : k ≤ j) (hg : Gl X x) (ha : PA X (e :: es) t)
    (hdb : (x == ("__debug__" : Str)) = false := by decide) (he : starEach (e :: es) X.env = (false, eval e X.env) :: starEach es X.env := by rfl) (hpl : (backTo pos (starEach es X.env)).any (·.1) = false := by rfl) :
    PE X (.Call (.Name x p) (e :: es) [] pos) (tCall sp [] E0 t) := by
  obtain ⟨f, fd, F, hm, kp, b, _⟩ := c.ex
  exact pe_call F (hr.mono hk) hg hm kp b .nil pass0 ha hdb he hpl
theorem pe_cst {v : V} (h : ∃ u, X.mg x = some u ∧ RelV v u) (hg : Gl X x) (hdb : (x == ("__debug__" : Str)) = false := by decide) : PE X (.Name x pos) (tC v) := by
  obtain ⟨u, hm, r⟩ := h
  exact pe_glob hg hm r hdb
end
def tMid (t : TE) : TE := fun σ H Q => ∃ M : VK, t σ H M ∧ ∀ v G, M v G → Q v G
theorem pe_mid {X : Cx} {e : Expr} {t : TE} (d : PE X e t) : PE X e (tMid t) := ⟨fun pins s σ H Q I ⟨M, m, k⟩ => thn (d.run pins s σ H M I m) fun u s1 ⟨v, G, I1, r1, m1⟩ => ⟨v, G, I1, r1, k v G m1⟩⟩
/-! ### heaps -/
theorem same_new {H : Hp} {p : Addr} {o : HO} (h : H p = none) : Same H (upd H p o) := fun b x e => by
  rw [upd_ne (ne_of_none e h)]
  exact e
/-- a pot of three ints stands at p -/
def Pot (H : Hp) (p : Addr) : Prop := ∃ x y z : Int, H p = some (.lst [.int x, .int y, .int z])
/-- from H to G the pot at p may have changed, the rest stands -/
structure Ladled (p : Addr) (H G : Hp) : Prop where
  pot : Pot G p
  keep : ∀ b o, H b = some o → b ≠ p → G b = some o
theorem Pot.some {H : Hp} {p : Addr} (h : Pot H p) : ∃ o, H p = some o := by
  obtain ⟨x, y, z, e⟩ := h
  exact ⟨_, e⟩
theorem Pot.same {H G : Hp} {p : Addr} (s : Same H G) (h : Pot H p) : Pot G p := by
  obtain ⟨x, y, z, e⟩ := h
  exact ⟨x, y, z, s _ _ e⟩
theorem Ladled.refl {H : Hp} {p : Addr} (h : Pot H p) : Ladled p H H := ⟨h, fun _ _ e _ => e⟩
theorem Ladled.trans {H G J : Hp} {p : Addr} (a : Ladled p H G) (b : Ladled p G J) : Ladled p H J := ⟨b.pot, fun c o e n => b.keep c o (a.keep c o e n) n⟩
theorem Ladled.same {H G J : Hp} {p : Addr} (a : Ladled p H G) (b : Same G J) : Ladled p H J := ⟨a.pot.same b, fun c o e n => b _ _ (a.keep c o e n)⟩
theorem Ladled.ofSame {H G : Hp} {p : Addr} (h : Pot H p) (b : Same H G) : Ladled p H G := ⟨h.same b, fun c o e _ => b _ _ e⟩
theorem Ladled.new {H G : Hp} {p q : Addr} {o : HO} (a : Ladled p H G) (h : G q = none) : Ladled p H (upd G q o) := a.same (same_new h)
theorem Ladled.free {H G : Hp} {p l : Addr} (a : Ladled p H G) (h : G l = none) : H l = none := by
  cases q : H l with
  | none => rfl
  | some o =>
    by_cases e : l = p
    · subst e
      obtain ⟨u, hu⟩ := a.pot.some
      rw [hu] at h
      cases h
    · rw [a.keep l o q e] at h
      cases h
/-- what is not known at first may change -/
theorem Ladled.mut {H G : Hp} {p q : Addr} {o : HO} (a : Ladled p H G) (h : H q = none) (n : q ≠ p) : Ladled p H (upd G q o) := by
  refine ⟨?_, fun b u e nb => ?_⟩
  · obtain ⟨x, y, z, e⟩ := a.pot
    exact ⟨x, y, z, by rw [upd_ne (Ne.symm n)]; exact e⟩
  · rw [upd_ne (ne_of_none e h)]
    exact a.keep b u e nb
end Gu
namespace Gu
open PySem PySem.Spec PyProof.Rows L2
section
variable {P : Program} {w : World} {K : PySem.W.Frag} {mg : Str → Option Value} {base : Heap}
/-! ### _law_ladle -/
def spLadle : Sp := fun vs H Q _ => ∃ (p : Addr) (m : Int), vs = [.ref p, .int m] ∧ Pot H p ∧ 0 < m ∧ m < 1000000 ∧ ∀ d G, 0 ≤ d → d < m → Ladled p H G → Q (.int d) G
theorem cal_ladle (B : Bi mg) (D : At K mg "_law_ladle" s_law_ladle ps_law_ladle) : Cal P w K mg base 1 "_law_ladle" ps_law_ladle spLadle := by
  refine D.cal sc_law_ladle (fun vs H Q E h => ?_) (fun f cdv A outer s H vs Q E hr h => ?_)
  · obtain ⟨p, m, rfl, _⟩ := h
    rfl
  · obtain ⟨p, m, rfl, ⟨x, y, z, hp⟩, m0, m1, k⟩ := h
    refine ⟨_, (pss_cons (ps_asg (pe_op op_add (pe_ix ix_list (pv 0) pe_int (fun _ _ => rfl)) pe_int) (pg_sub (pv 0) pe_int set_list))
      (pss_cons (ps_if (pt_cmpR op_gt (pe_ix ix_list (pv 0) pe_int (fun _ _ => rfl)) pe_int (nomark _)) (pss_cons (ps_asg (pe_callB call_divmod (by rfl) B.divmod (by decide +kernel) (pa_cons (pe_callTy call_int1 (by rfl) B.int (by decide +kernel) (pa_cons (pe_ix ix_list (pv 0) pe_int (fun _ _ => rfl)) pa_nil)) (pa_cons (pv 1) pa_nil))) (pg_tup rfl (pgs_cons (pg_sub (pv 0) pe_int set_list) (pgs_cons (pg_name (i := 2) sc_law_ladle.nd rfl (.inl rfl)) pgs_nil))))
      (pss_one (ps_ret (pv 2)))) pss_nil)
      (pss_cons (ps_asg (pe_op op_mod (pe_callTy call_int1 (by rfl) B.int (by decide +kernel) (pa_cons (pe_op op_add (pe_op op_add (pe_op op_mul (pe_ix ix_list (pv 0) pe_int (fun _ _ => rfl)) pe_int) (pe_op op_mul (pe_ix ix_list (pv 0) pe_int (fun _ _ => rfl)) pe_int)) (pe_op op_mul (pe_op op_fdiv (pe_ix ix_list (pv 0) pe_int (fun _ _ => rfl)) pe_int) pe_int)) pa_nil)) pe_int) (pg_sub (pv 0) pe_int set_list))
      (pss_one (ps_ret (pe_op op_mod (pe_callTy call_int1 (by rfl) B.int (by decide +kernel) (pa_cons (pe_op op_fdiv (pe_ix ix_list (pv 0) pe_int (fun _ _ => rfl)) pe_int) pa_nil)) (pv 1))))))), ?_⟩
    refine ⟨_, rfl, p, _, _, _, rfl, rfl, .inl (.inl hp), (rfl : atI [V.int x, V.int y, V.int z] 1 = some (V.int y)), _, _, rfl, rfl, _, rfl, p, _, _, 1, rfl, rfl, hp, rfl, ?_⟩
    have h1 : upd H p (.lst ([V.int x, V.int y, V.int z].set 1 (.int (y + 3)))) p = some (.lst [.int x, .int (y + 3), .int z]) := upd_same
    refine ⟨_, rfl, p, _, _, _, rfl, rfl, .inl (.inl h1), (rfl : atI [V.int x, V.int (y + 3), V.int z] 0 = some (V.int x)), _, _, rfl, rfl, _, rfl, ite2 (fun _ => ?_) (fun _ => ?_)⟩
    · refine ⟨_, rfl, p, _, _, _, rfl, rfl, .inl (.inl h1), (rfl : atI [V.int x, V.int (y + 3), V.int z] 0 = some (V.int x)), .inl ⟨_, rfl, _, rfl, _, _, rfl, ⟨m0, by omega⟩, fun q hq => ?_⟩⟩
      have npq : p ≠ q := ne_of_none h1 hq
      refine ⟨q, _, rfl, .inl (.inl upd_same), rfl, _, _, rfl, ⟨_, rfl, p, _, _, 0, rfl, rfl, (by rw [upd_ne npq]; exact h1), rfl, _, _, rfl, rfl, ?_⟩⟩
      refine ⟨_, rfl, ?_⟩
      refine k (x % m) _ (Int.emod_nonneg _ (by omega)) (Int.emod_lt_of_pos _ m0) ⟨⟨_, _, _, upd_same⟩, fun b o e n => ?_⟩
      have hb : upd H p (.lst ([V.int x, V.int y, V.int z].set 1 (.int (y + 3)))) b = some o := by rw [upd_ne n]; exact e
      rw [upd_ne n, upd_ne (ne_of_none hb hq), upd_ne n]
      exact e
    · refine ⟨_, rfl, p, _, _, _, rfl, rfl, .inl (.inl h1), (rfl : atI [V.int x, V.int (y + 3), V.int z] 2 = some (V.int z)), _, _, rfl, rfl, .inr ⟨by decide, by decide⟩, _, rfl, p, _, _, _, rfl, rfl, .inl (.inl h1), (rfl : atI [V.int x, V.int (y + 3), V.int z] 1 = some (V.int (y + 3))), _, _, rfl, rfl, .inr ⟨by decide, by decide⟩, _, _, rfl, rfl, ?_⟩
      refine ⟨_, rfl, p, _, _, _, rfl, rfl, .inl (.inl h1), (rfl : atI [V.int x, V.int (y + 3), V.int z] 2 = some (V.int z)), _, _, rfl, rfl, ⟨by decide, by decide⟩, _, _, rfl, rfl, .inr ⟨by decide, by decide⟩, _, _, rfl, rfl, .inl ⟨_, rfl, _, _, rfl, rfl, (by decide : (0 : Int) < 1999999889), ?_⟩⟩
      refine ⟨_, rfl, p, _, _, 2, rfl, rfl, h1, rfl, ?_⟩
      refine ⟨_, rfl, p, _, _, _, rfl, rfl, .inl (.inl upd_same), rfl, _, _, rfl, rfl, ⟨by decide, by decide⟩, .inl ⟨_, rfl, _, rfl, _, _, rfl, rfl, m0, ?_⟩⟩
      refine k _ _ (Int.emod_nonneg _ (by omega)) (Int.emod_lt_of_pos _ m0) ⟨⟨_, _, _, upd_same⟩, fun b o e n => ?_⟩
      rw [upd_ne n, upd_ne n]
      exact e
/-! ### _law_one_of: of a list or of a text -/
def spOneOf (K : PySem.W.Frag) : Sp := fun vs H Q _ => ∃ (p : Addr), Pot H p ∧
  ((∃ (l : Addr) (xs : List V), vs = [.ref p, .ref l] ∧ SqL K H l xs ∧ l ≠ p ∧ 0 < xs.length ∧ xs.length < 1000 ∧ ∀ v G, v ∈ xs → Ladled p H G → Q v G) ∨
   (∃ (z : Str), vs = [.ref p, .str z] ∧ 0 < z.cps.toList.length ∧ z.cps.toList.length < 1000 ∧ ∀ c G, c ∈ z.cps.toList → Ladled p H G → Q (.str ⟨#[c]⟩) G))
theorem Ladled.seq {K : PySem.W.Frag} {H G : Hp} {p l : Addr} {xs : List V} (a : Ladled p H G) (n : l ≠ p) (h : SqL K H l xs) : SqL K G l xs := by
  rcases h with (h | ⟨o, h⟩) | h
  · exact .inl (.inl (a.keep _ _ h n))
  · exact .inl (.inr ⟨o, a.keep _ _ h n⟩)
  · exact .inr h
theorem at_in {α : Type} {xs : List α} {d : Int} (h0 : 0 ≤ d) (h1 : d < (xs.length : Int)) : ∃ v, v ∈ xs ∧ atI xs d = some v := by
  obtain ⟨j, rfl⟩ := Int.eq_ofNat_of_zero_le h0
  have hj : j < xs.length := by omega
  exact ⟨xs[j], List.getElem_mem hj, atI_nat (List.getElem?_eq_getElem hj)⟩
theorem cal_oneOf (B : Bi mg) (D : At K mg "_law_one_of" s_law_one_of ps_law_one_of) (C_law_ladle : Cal P w K mg base 1 "_law_ladle" ps_law_ladle spLadle) : Cal P w K mg base 2 "_law_one_of" ps_law_one_of (spOneOf K) := by
  refine D.cal sc_law_one_of (fun vs H Q E h => ?_) (fun f cdv A outer s H vs Q E hr h => ?_)
  · obtain ⟨p, _, ⟨l, xs, rfl, _⟩ | ⟨z, rfl, _⟩⟩ := h
    · rfl
    · rfl
  · refine ⟨_, (pss_one (ps_ret (pe_ix ix_seq (pv 1) (pe_own C_law_ladle hr (by decide) (by rfl) (pa_cons (pv 0) (pa_cons (pe_callB call_len (by rfl) B.len (by decide +kernel) (pa_cons (pv 1) pa_nil)) pa_nil))) (fun _ _ => rfl)))), ?_⟩
    obtain ⟨p, hp, ⟨l, xs, rfl, hl, np, l0, l1, k⟩ | ⟨z, rfl, l0, l1, k⟩⟩ := h
    · refine ⟨_, rfl, _, rfl, _, rfl, _, _, rfl, .inl ⟨_, hl, rfl⟩, p, _, rfl, hp, by omega, by omega, fun d G d0 d1 L => ?_⟩
      obtain ⟨v, hv, ha⟩ := at_in (xs := xs) d0 d1
      exact .inl ⟨l, xs, d, v, rfl, rfl, L.seq np hl, ha, k v G hv L⟩
    · have ez : z.length = z.cps.toList.length := rfl
      refine ⟨_, rfl, _, rfl, _, rfl, _, _, rfl, ⟨Nat.le_of_lt (small1000 (by omega)), rfl⟩, p, _, rfl, hp, by omega, by omega, fun d G d0 d1 L => ?_⟩
      obtain ⟨c, hc, ha⟩ := at_in (xs := z.cps.toList) d0 (by omega)
      exact .inr (.inr ⟨z, d, c, rfl, rfl, Nat.le_of_lt (small1000 (by omega)), ha, k c G hc L⟩)
/-! ### _law_pot -/
def spPot (K : PySem.W.Frag) : Sp := fun vs H Q _ => ∃ (a : Addr) (k : Nat) (ns : List Int), vs = [.ref a, .int (k : Int)] ∧ SqL K H a (ns.map V.int) ∧ k < 1000 ∧ ∀ p G, H p = none → Pot G p → Same H G → Q (.ref p) G
theorem cal_pot (B : Bi mg) (D : At K mg "_law_pot" s_law_pot ps_law_pot) : Cal P w K mg base 1 "_law_pot" ps_law_pot (spPot K) := by
  refine D.cal sc_law_pot (fun vs H Q E h => ?_) (fun f cdv A outer s H vs Q E hr h => ?_)
  · obtain ⟨a, k, ns, rfl, _⟩ := h
    rfl
  · obtain ⟨a, k, ns, rfl, hS, hk, q⟩ := h
    refine ⟨_, (pss_cons (ps_set (i := 2) sc_law_pot.nd rfl (.inl rfl) (pe_mid (pe_ifExp (pt_cmpR op_lt (pv 1) (pe_callB call_len_seq (by rfl) B.len (by decide +kernel) (pa_cons (pv 0) pa_nil)) (nomark _)) (pe_callTy call_int1 (by rfl) B.int (by decide +kernel) (pa_cons (pe_ix ix_list (pv 0) (pv 1) (fun _ _ => rfl)) pa_nil)) (pe_op op_add (pe_op op_mul pe_int (pv 1)) pe_int))))
      (pss_cons (ps_set (i := 3) sc_law_pot.nd rfl (.inl rfl) (pe_op op_add pe_int (pe_op op_mul pe_int (pv 1))))
      (pss_cons (ps_for PassesOwn.never rfl (pi_list (pe_slice sl_list (pv 0) po_none (po_some pe_int))) (pg_name (i := 4) sc_law_pot.nd rfl (.inl rfl))
      (pss_one (ps_set (i := 3) sc_law_pot.nd rfl (.inl rfl) (pe_op op_mod (pe_callTy call_int1 (by rfl) B.int (by decide +kernel) (pa_cons (pe_op op_add (pe_op op_mul (pv 3) pe_int) (pe_op op_mod (pe_callTy call_int1 (by rfl) B.int (by decide +kernel) (pa_cons (pv 4) pa_nil)) pe_int)) pa_nil)) pe_int))))
      (pss_one (ps_ret (pe_lst (pa_cons (pe_mid (pe_ifExp (PW.pt (pw_or (pt_cmpR op_lt (pv 2) pe_int (nomark _)) (pw_or1 (pt_cmpR op_ge (pv 2) (pe_op op_pow pe_int pe_int) (nomark _))))) (pe_callB call_abs (by rfl) B.abs (by decide +kernel) (pa_cons (pv 2) pa_nil)) pe_int)) (pa_cons pe_int (pa_cons (pe_op op_mod (pe_callTy call_int1 (by rfl) B.int (by decide +kernel) (pa_cons (pe_op op_add (pe_op op_mul (pv 3) pe_int) (pe_op op_mod (pv 2) pe_int)) pa_nil)) pe_int) pa_nil))))))))), ?_⟩
    refine ⟨fun v G => (∃ i : Int, v = .int i) ∧ G = H, ?_, ?_⟩
    · refine ⟨_, rfl, _, rfl, a, _, rfl, .inl hS, _, _, rfl, rfl, _, rfl, ite2 (fun e => ?_) (fun _ => ?_)⟩
      · have hlt := of_decide_eq_true e
        have hj : k < ns.length := by
          rw [List.length_map] at hlt
          omega
        refine ⟨_, rfl, _, rfl, a, _, _, _, rfl, rfl, hS, atI_nat (j := k) (v := .int ns[k]) (by rw [List.getElem?_map, List.getElem?_eq_getElem hj]; rfl), .inl ⟨_, rfl, ⟨_, rfl⟩, rfl⟩⟩
      · refine ⟨_, rfl, _, _, rfl, rfl, .inl ⟨by decide, by decide⟩, _, _, rfl, rfl, ⟨_, rfl⟩, rfl⟩
    · rintro _ H0 ⟨⟨own, rfl⟩, eH⟩
      subst eH
      refine ⟨_, rfl, _, _, rfl, rfl, .inl ⟨by decide, by decide⟩, _, _, rfl, rfl, ?_⟩
      refine ⟨_, rfl, 14, rfl, a, _, rfl, hS, fun c nc => ?_⟩
      have sc : Same H0 (upd H0 c (.lst (cutV (ns.map V.int) none (some 14)))) := same_new nc
      have hC : cutV (ns.map V.int) none (some 14) = (ns.take 14).map V.int := by
        unfold cutV
        rw [HT.sIx_none, show HT.sIx (ns.map V.int).length (ns.map V.int).length (some 14) = min 14 (ns.map V.int).length from HT.sIx_nat _ _ 14, List.drop_zero, Nat.sub_zero, List.map_take, List.take_eq_take_iff]
        omega
      refine ⟨c, rfl, ⟨_, .inl (.inl upd_same)⟩, for_list (K := K) (a := c) (xs := (ns.take 14).map V.int) (fun i σ J => ∃ (mx : Int) (u : Option V), σ = [some (.ref a), some (.int (k : Int)), some (.int own), some (.int mx), u] ∧ Same H0 J ∧ J c = some (.lst ((ns.take 14).map V.int)))
        ⟨_, none, rfl, sc, by rw [upd_same, hC]⟩ (fun i σ J _ ⟨_, _, _, _, e⟩ => .inl (.inl e)) ?_ ?_⟩
      · rintro i v σ J hi ⟨mx, u, rfl, sJ, eJ⟩
        obtain ⟨t, rfl⟩ : ∃ t, v = V.int t := by
          rw [List.getElem?_map] at hi
          cases e : (ns.take 14)[i]? with
          | none =>
            rw [e] at hi
            cases hi
          | some t =>
            rw [e] at hi
            exact ⟨t, (Option.some.inj hi).symm⟩
        refine ⟨_, rfl, _, _, rfl, rfl, .inr ⟨by decide, by decide⟩, _, rfl, .inl ⟨_, rfl, _, _, rfl, rfl, (by decide : (0 : Int) < 1999999889), _, _, rfl, rfl, .inl ⟨_, rfl, _, _, rfl, rfl, (by decide : (0 : Int) < 1999999889), ?_⟩⟩⟩
        exact ⟨_, _, rfl, sJ, eJ⟩
      · rintro σ J ⟨mx, u, rfl, sJ, eJ⟩
        refine ⟨fun v J1 => (∃ i : Int, v = .int i) ∧ J1 = J, ?_, ?_⟩
        · refine ⟨_, rfl, _, _, rfl, rfl, _, rfl, ite2 (fun _ => ?_) (fun _ => ?_)⟩
          · refine iteT ⟨_, rfl, _, rfl, ⟨_, rfl⟩, rfl⟩
          · refine ⟨_, rfl, _, _, rfl, rfl, ⟨by decide, by decide, by decide⟩, _, _, rfl, rfl, _, rfl, ite2 (fun _ => ⟨_, rfl, _, rfl, ⟨_, rfl⟩, rfl⟩) (fun _ => ⟨⟨_, rfl⟩, rfl⟩)⟩
        · rintro _ _ ⟨⟨x, rfl⟩, rfl⟩
          refine ⟨_, rfl, _, _, rfl, rfl, .inr ⟨by decide, by decide⟩, _, rfl, _, _, rfl, rfl, (by decide : (0 : Int) < 1999999889), _, _, rfl, rfl, .inl ⟨_, rfl, _, _, rfl, rfl, (by decide : (0 : Int) < 1999999889), ?_⟩⟩
          refine ⟨by show 3 ≤ sizeLine; decide, fun p np => ?_⟩
          exact q p _ (sJ.free np) ⟨_, _, _, upd_same⟩ (sJ.trans (same_new np))
end
end Gu
namespace Gu
open PySem PySem.Spec PyProof.Rows L2
/-! ### _law_told -/
def marks : List Str := ["", "~", "..", "...", "a.b", "~"]
/-- four things as they are drawn -/
structure Four (l h t : Int) (z : Str) : Prop where
  l0 : 0 ≤ l
  l1 : l ≤ 40
  h0 : 0 ≤ h
  h1 : h ≤ 40
  t0 : 0 ≤ t
  t1 : t ≤ 40
  z : z ∈ marks
theorem marks_len {z : Str} (h : z ∈ marks) : z.cps.toList.length ≤ 3 := by
  have a : ∀ y ∈ marks, y.cps.toList.length ≤ 3 := by decide +kernel
  exact a z h
end Gu
namespace Gu
open PySem PySem.Spec PyProof.Rows L2
section
variable {P : Program} {w : World} {K : PySem.W.Frag} {mg : Str → Option Value} {base : Heap}
def spTold : Sp := fun vs H Q _ => ∃ (p : Addr), vs = [.ref p] ∧ Pot H p ∧ ∀ (q : Addr) (G : Hp) (l h t : Int) (z : Str), H q = none → G q = some (.tup [.int l, .int h, .int t, .str z]) → Four l h t z → Ladled p H G → Q (.ref q) G
theorem cal_told (B : Bi mg) (D : At K mg "_law_told" s_law_told ps_law_told) (C_law_ladle : Cal P w K mg base 1 "_law_ladle" ps_law_ladle spLadle) (C_law_one_of : Cal P w K mg base 2 "_law_one_of" ps_law_one_of (spOneOf K)) : Cal P w K mg base 3 "_law_told" ps_law_told spTold := by
  refine D.cal sc_law_told (fun vs H Q E h => ?_) (fun f cdv A outer s H vs Q E hr h => ?_)
  · obtain ⟨p, rfl, _⟩ := h
    rfl
  · obtain ⟨p, rfl, hp, k⟩ := h
    refine ⟨_, (pss_cons (ps_set (i := 1) sc_law_told.nd rfl (.inl rfl) (pe_own C_law_one_of hr (by decide) (by rfl) (pa_cons (pv 0) (pa_cons (pe_lst (pa_cons pe_str (pa_cons pe_str (pa_cons pe_str (pa_cons pe_str (pa_cons pe_str (pa_cons pe_str pa_nil))))))) pa_nil))))
      (pss_cons (ps_par (i := 2) (j := 3) (by rfl) sc_law_told.nd rfl rfl (by decide) rfl rfl (pa_cons (pe_own C_law_ladle hr (by decide) (by rfl) (pa_cons (pv 0) (pa_cons pe_int pa_nil))) (pa_cons (pe_own C_law_one_of hr (by decide) (by rfl) (pa_cons (pv 0) (pa_cons (pe_lst (pa_cons pe_int (pa_cons pe_int (pa_cons pe_int (pa_cons pe_int pa_nil))))) pa_nil))) pa_nil)) (by rfl))
      (pss_cons (ps_par (i := 4) (j := 5) (by rfl) sc_law_told.nd rfl rfl (by decide) rfl rfl (pa_cons (pe_own C_law_ladle hr (by decide) (by rfl) (pa_cons (pv 0) (pa_cons (pv 3) pa_nil))) (pa_cons (pe_own C_law_ladle hr (by decide) (by rfl) (pa_cons (pv 0) (pa_cons (pv 3) pa_nil))) pa_nil)) (by rfl))
      (pss_cons (ps_if (pt_cmpR op_eq (pv 2) pe_int (nomark _)) (pss_one (ps_ret (pe_tup (pa_cons (pe_callB (call_min2 rfl) (by rfl) B.min (by decide +kernel) (pa_cons pe_int (pa_cons (pe_op op_add (pe_op op_add (pv 4) (pv 5)) (pe_callB call_len (by rfl) B.len (by decide +kernel) (pa_cons (pv 1) pa_nil))) pa_nil))) (pa_cons (pv 4) (pa_cons (pv 5) (pa_cons (pv 1) pa_nil))))))) pss_nil)
      (pss_cons (ps_if (pt_cmpR op_eq (pv 2) pe_int (nomark _)) (pss_one (ps_ret (pe_tup (pa_cons (pe_own C_law_ladle hr (by decide) (by rfl) (pa_cons (pv 0) (pa_cons (pv 3) pa_nil))) (pa_cons (pv 4) (pa_cons pe_int (pa_cons (pv 1) pa_nil))))))) pss_nil)
      (pss_one (ps_ret (pe_tup (pa_cons (pe_own C_law_ladle hr (by decide) (by rfl) (pa_cons (pv 0) (pa_cons (pv 3) pa_nil))) (pa_cons (pv 4) (pa_cons (pv 5) (pa_cons (pv 1) pa_nil)))))))))))), ?_⟩
    -- the sign
    refine ⟨_, rfl, by show 6 ≤ sizeLine; decide, fun q0 n0 => ?_⟩
    have hp0 : Pot (upd H q0 (.lst [.str "", .str "~", .str "..", .str "...", .str "a.b", .str "~"])) p := hp.same (same_new n0)
    have L0 : Ladled p H (upd H q0 (.lst [.str "", .str "~", .str "..", .str "...", .str "a.b", .str "~"])) := .ofSame hp (same_new n0)
    have np0 : q0 ≠ p := fun e => by
      subst e
      obtain ⟨o, ho⟩ := hp.some
      rw [n0] at ho
      cases ho
    refine ⟨p, hp0, .inl ⟨q0, _, rfl, .inl (.inl upd_same), np0, by decide, by decide, fun v G1 hv L1 => ?_⟩⟩
    obtain ⟨z, hz, rfl⟩ : ∃ z, z ∈ marks ∧ v = .str z := by
      have e : ([.str "", .str "~", .str "..", .str "...", .str "a.b", .str "~"] : List V) = marks.map V.str := rfl
      rw [e] at hv
      obtain ⟨z, h1, h2⟩ := List.mem_map.mp hv
      exact ⟨z, h1, h2.symm⟩
    have M1 : Ladled p H G1 := L0.trans L1
    -- the way, the bound
    refine ⟨_, rfl, p, 4, rfl, M1.pot, by decide, by decide, fun way G2 w0 w1 L2 => ?_⟩
    have M2 : Ladled p H G2 := M1.trans L2
    refine ⟨_, rfl, by show 4 ≤ sizeLine; decide, fun q1 n1 => ?_⟩
    have np1 : q1 ≠ p := fun e => by
      subst e
      obtain ⟨o, ho⟩ := M2.pot.some
      rw [n1] at ho
      cases ho
    refine ⟨p, M2.pot.same (same_new n1), .inl ⟨q1, _, rfl, .inl (.inl upd_same), np1, by decide, by decide, fun v G3 hv L3 => ?_⟩⟩
    obtain ⟨b, b0, b1, rfl⟩ : ∃ b : Int, 0 < b ∧ b ≤ 41 ∧ v = .int b := by
      rcases List.mem_cons.mp hv with rfl | hv
      · exact ⟨3, by decide, by decide, rfl⟩
      rcases List.mem_cons.mp hv with rfl | hv
      · exact ⟨6, by decide, by decide, rfl⟩
      rcases List.mem_cons.mp hv with rfl | hv
      · exact ⟨12, by decide, by decide, rfl⟩
      rcases List.mem_cons.mp hv with rfl | hv
      · exact ⟨41, by decide, by decide, rfl⟩
      cases hv
    have M3 : Ladled p H G3 := (M2.new n1).trans L3
    refine ⟨_, _, rfl, ?_⟩
    -- low, high
    refine ⟨_, rfl, _, rfl, p, b, rfl, M3.pot, b0, by omega, fun low G4 x0 x1 L4 => ?_⟩
    have M4 : Ladled p H G4 := M3.trans L4
    refine ⟨_, rfl, _, rfl, p, b, rfl, M4.pot, b0, by omega, fun high G5 y0 y1 L5 => ?_⟩
    have M5 : Ladled p H G5 := M4.trans L5
    refine ⟨_, _, rfl, ?_⟩
    have zl := marks_len hz
    have ez : z.length = z.cps.toList.length := rfl
    -- if way == 0
    refine ⟨_, rfl, rfl, _, rfl, ite2 (fun _ => ?_) (fun _ => ?_)⟩
    · refine ⟨_, rfl, _, rfl, _, _, rfl, rfl, _, rfl, _, _, rfl, ⟨Nat.le_of_lt (small1000 (by omega)), rfl⟩, _, _, rfl, rfl, _, _, rfl, _, rfl, _, rfl, _, rfl, by show 4 ≤ sizeLine; decide, fun q nq => ?_⟩
      refine k q _ _ _ _ _ (M5.free nq) upd_same ⟨?_, ?_, x0, by omega, y0, by omega, hz⟩ (M5.new nq)
      · split <;> omega
      · split <;> omega
    -- if way == 1
    refine ⟨_, rfl, rfl, _, rfl, ite2 (fun _ => ?_) (fun _ => ?_)⟩
    · refine ⟨_, rfl, _, rfl, p, b, rfl, M5.pot, b0, by omega, fun lim G6 u0 u1 L6 => ?_⟩
      have M6 : Ladled p H G6 := M5.trans L6
      refine ⟨_, rfl, _, rfl, by show 4 ≤ sizeLine; decide, fun q nq => ?_⟩
      exact k q _ _ _ _ _ (M6.free nq) upd_same ⟨u0, by omega, x0, by omega, by decide, by decide, hz⟩ (M6.new nq)
    · refine ⟨_, rfl, _, rfl, p, b, rfl, M5.pot, b0, by omega, fun lim G6 u0 u1 L6 => ?_⟩
      have M6 : Ladled p H G6 := M5.trans L6
      refine ⟨_, rfl, _, rfl, _, rfl, by show 4 ≤ sizeLine; decide, fun q nq => ?_⟩
      exact k q _ _ _ _ _ (M6.free nq) upd_same ⟨u0, by omega, x0, by omega, y0, by omega, hz⟩ (M6.new nq)
end
end Gu
namespace Gu
open PySem PySem.Spec PyProof.Rows L2
/-! ### _law_tolds -/
structure Rec where
  l : Int
  h : Int
  t : Int
  z : Str
def Rec.vs (r : Rec) : List V := [.int r.l, .int r.h, .int r.t, .str r.z]
def Rec.ok (r : Rec) : Prop := Four r.l r.h r.t r.z
theorem Pot.ne {H : Hp} {p q : Addr} (h : Pot H p) (n : H q = none) : q ≠ p := fun e => by
  subst e
  obtain ⟨o, ho⟩ := h.some
  rw [n] at ho
  cases ho
theorem yes {σ : L2.St} {H : Hp} {Q : Bool → Hp → Prop} (h : Q true H) : tYes σ H Q := h
section
variable {P : Program} {w : World} {K : PySem.W.Frag} {mg : Str → Option Value} {base : Heap}
/-- told tuples: a list of them at D -/
structure ToldsAt (G : Hp) (D : Addr) (ps : List (Addr × Rec)) : Prop where
  ls : G D = some (.lst (ps.map fun q => V.ref q.1))
  tp : ∀ q ∈ ps, G q.1 = some (.tup q.2.vs) ∧ q.2.ok
def spTolds : Sp := fun vs H Q _ => ∃ (p : Addr), vs = [.ref p] ∧ Pot H p ∧ ∀ (D : Addr) (G : Hp) (ps : List (Addr × Rec)), H D = none → ToldsAt G D ps → (∀ q ∈ ps, H q.1 = none) → 1 ≤ ps.length → ps.length ≤ 4 → Ladled p H G → Q (.ref D) G
theorem cal_tolds (B : Bi mg) (D : At K mg "_law_tolds" s_law_tolds ps_law_tolds) (C_law_told : Cal P w K mg base 3 "_law_told" ps_law_told spTold) (C_law_one_of : Cal P w K mg base 2 "_law_one_of" ps_law_one_of (spOneOf K)) : Cal P w K mg base 4 "_law_tolds" ps_law_tolds spTolds := by
  refine D.cal sc_law_tolds (fun vs H Q E h => ?_) (fun f cdv A outer s H vs Q E hr h => ?_)
  · obtain ⟨p, rfl, _⟩ := h
    rfl
  · obtain ⟨p, rfl, hp, k⟩ := h
    refine ⟨_, (pss_one (ps_ret (pe_lc (own := [("_law_k", 1)]) (by rfl) sc_law_tolds.nd (pi_range1 (by rfl) B.range (pa_cons (pe_own C_law_one_of hr (by decide) (by rfl) (pa_cons (pv 0) (pa_cons (pe_lst (pa_cons pe_int (pa_cons pe_int (pa_cons pe_int (pa_cons pe_int (pa_cons pe_int (pa_cons pe_int pa_nil))))))) pa_nil))) pa_nil)) (blkOk_by (own := [("_law_k", 1)]) (N := ["_law_pot_here", "_law_k"]) (sc := defScope s_law_tolds) (by decide +kernel)) (fun _ _ _ _ _ => pg_name (i := 1) sc_law_tolds.nd rfl (.inl rfl)) (fun _ _ _ _ _ => pts_nil) (fun _ _ _ _ _ => (pe_own C_law_told hr (by decide) (by rfl) (pa_cons (pv 0) pa_nil)))))), ?_⟩
    refine ⟨_, rfl, by show 6 ≤ sizeLine; decide, fun q0 n0 => ?_⟩
    have L0 : Ladled p H (upd H q0 (.lst [.int 1, .int 1, .int 2, .int 2, .int 3, .int 4])) := .ofSame hp (same_new n0)
    refine ⟨p, L0.pot, .inl ⟨q0, _, rfl, .inl (.inl upd_same), hp.ne n0, by decide, by decide, fun v G1 hv L1 => ?_⟩⟩
    obtain ⟨n, e0, e1, rfl⟩ : ∃ n : Int, 1 ≤ n ∧ n ≤ 4 ∧ v = .int n := by
      have a : ∀ v ∈ ([.int 1, .int 1, .int 2, .int 2, .int 3, .int 4] : List V), ∃ n : Int, 1 ≤ n ∧ n ≤ 4 ∧ v = .int n := by
        intro v hv
        simp only [List.mem_cons, List.not_mem_nil, or_false] at hv
        rcases hv with rfl | rfl | rfl | rfl | rfl | rfl <;> exact ⟨_, by decide, by decide, rfl⟩
      exact a v hv
    have M1 : Ladled p H G1 := L0.trans L1
    refine ⟨n, rfl, by omega, by omega, fun D nD => lc_range (lo := 0) (n := n.toNat) (fun i J => ∃ ps : List (Addr × Rec), ps.length = i ∧ ToldsAt J D ps ∧ (∀ q ∈ ps, H q.1 = none) ∧ Ladled p H J)
      ⟨[], rfl, ⟨upd_same, (fun q hq => by cases hq)⟩, (fun q hq => by cases hq), M1.mut (M1.free nD) (M1.pot.ne nD)⟩ ?_ ?_⟩
    · rintro i J hi ⟨ps, rfl, T, nw, M⟩
      have hD : H D = none := M1.free nD
      refine ⟨rfl, yes (iteT ?_)⟩
      refine ⟨_, rfl, p, rfl, M.pot, fun q G l h t z nq eq ok L => ?_⟩
      have GD : G D = some (.lst (ps.map fun q => V.ref q.1)) := L.keep _ _ T.ls (hp.ne hD)
      refine ⟨_, GD, small1000 (by rw [List.length_map]; omega), ps ++ [(q, ⟨l, h, t, z⟩)], by rw [List.length_append]; rfl, ⟨?_, fun r hr => ?_⟩, fun r hr => ?_, (M.trans L).mut hD (hp.ne hD)⟩
      · rw [upd_same, List.map_append]
        rfl
      · rcases List.mem_append.mp hr with hr | hr
        · obtain ⟨g1, g2⟩ := T.tp r hr
          have ne1 : r.1 ≠ D := ne_of g1 T.ls (by intro z; cases z)
          have ne2 : r.1 ≠ p := hp.ne (nw r hr)
          exact ⟨by rw [upd_ne ne1]; exact L.keep _ _ g1 ne2, g2⟩
        · rw [List.mem_singleton.mp hr]
          have ne1 : q ≠ D := ne_of eq GD (by intro z; cases z)
          exact ⟨by rw [upd_ne ne1]; exact eq, ok⟩
      · rcases List.mem_append.mp hr with hr | hr
        · exact nw r hr
        · rw [List.mem_singleton.mp hr]
          exact M.free nq
    · rintro J ⟨ps, e, T, nw, M⟩
      exact k D J ps (M1.free nD) T nw (by omega) (by omega) M
end
end Gu
namespace Gu
open PySem PySem.Spec PyProof.Rows L2
/-! ### is_integer, is_text -/
/-- isinstance(x, T) is b -/
def Isa (K : PySem.W.Frag) (H : Hp) (x : V) (T : String) (b : Bool) : Prop := ∃ t, TyX K H x t ∧ PySem.W.kitOne K t (.type T) = some b
def signs : Str := ".0123456789abcdefghijklmnopqrstuvwxyz~"
def isTxt (z : Str) (m : Int) : Bool := decide ((z.length : Int) ≤ m) && z.cps.toList.all fun c => decide (c ∈ signs.cps.toList)
section
variable {P : Program} {w : World} {K : PySem.W.Frag} {mg : Str → Option Value} {base : Heap}
theorem Isa.int_int {H : Hp} {i : Int} : Isa K H (.int i) "int" true := ⟨_, .base (.int i), kit_ty (by decide +kernel)⟩
theorem Isa.int_bool {H : Hp} {i : Int} : Isa K H (.int i) "bool" false := ⟨_, .base (.int i), kit_ty (by decide +kernel)⟩
theorem Isa.str_str {H : Hp} {z : Str} : Isa K H (.str z) "str" true := ⟨_, .base (.str z), kit_ty (by decide +kernel)⟩
def spIsInteger (K : PySem.W.Frag) : Sp := fun vs H Q _ => ∃ (x : V) (a b : Int), vs = [x, .int a, .int b] ∧
  ((∃ v, x = .int v ∧ Q (.bl (decide (a ≤ v ∧ v ≤ b))) H) ∨ (Isa K H x "int" false ∧ Q (.bl false) H) ∨ (Isa K H x "int" true ∧ Isa K H x "bool" true ∧ Q (.bl false) H))
theorem cal_isInteger (B : Bi mg) (D : At K mg "is_integer" s_is_integer ps_is_integer) : Cal P w K mg base 1 "is_integer" ps_is_integer (spIsInteger K) := by
  refine D.cal sc_is_integer (fun vs H Q E h => ?_) (fun f cdv A outer s H vs Q E hr h => ?_)
  · obtain ⟨x, a, b, rfl, _⟩ := h
    rfl
  · obtain ⟨x, a, b, rfl, h⟩ := h
    refine ⟨_, (pss_cons (ps_if (PW.pt (pw_or (pt_not (pt_val (pe_callB call_isi (by rfl) B.isinstance (by decide +kernel) (pa_cons (pv 0) (pa_cons (pe_bltn (v := .ty "int") (by rfl) B.int (by decide +kernel) rfl) pa_nil))))) (pw_or1 (pt_val (pe_callB call_isi (by rfl) B.isinstance (by decide +kernel) (pa_cons (pv 0) (pa_cons (pe_bltn (v := .ty "bool") (by rfl) B.bool (by decide +kernel) rfl) pa_nil))))))) (pss_one (ps_ret pe_bl)) pss_nil)
      (pss_one (ps_ret (pe_chain op_le op_le (pv 1) (pv 0) (pv 2))))), ?_⟩
    rcases h with ⟨v, rfl, k⟩ | ⟨⟨t, i1, i2⟩, k⟩ | ⟨⟨t, i1, i2⟩, ⟨t', j1, j2⟩, k⟩
    · obtain ⟨t, i1, i2⟩ := Isa.int_int (K := K) (H := H) (i := v)
      obtain ⟨t', j1, j2⟩ := Isa.int_bool (K := K) (H := H) (i := v)
      refine ⟨_, rfl, _, _, t, _, true, rfl, .ty _, i1, i2, _, rfl, iteF ⟨_, rfl, _, _, t', _, false, rfl, .ty _, j1, j2, _, rfl, iteF ?_⟩⟩
      refine ⟨_, rfl, _, rfl, _, _, rfl, rfl, _, rfl, ?_⟩
      by_cases e1 : a ≤ v
      · rw [decide_eq_true e1]
        refine iteT ⟨_, rfl, _, _, rfl, rfl, ?_⟩
        have e : decide (a ≤ v ∧ v ≤ b) = decide (v ≤ b) := by simp only [e1, true_and]
        rw [e] at k
        exact k
      · rw [decide_eq_false e1]
        refine iteF ?_
        have e : decide (a ≤ v ∧ v ≤ b) = false := by simp only [e1, false_and, decide_false]
        rw [e] at k
        exact k
    · refine ⟨_, rfl, _, _, t, _, false, rfl, .ty _, i1, i2, _, rfl, iteT (iteT k)⟩
    · refine ⟨_, rfl, _, _, t, _, true, rfl, .ty _, i1, i2, _, rfl, iteF ⟨_, rfl, _, _, t', _, true, rfl, .ty _, j1, j2, _, rfl, iteT k⟩⟩
def spIsText (K : PySem.W.Frag) : Sp := fun vs H Q _ => ∃ (x : V) (m : Int), vs = [x, .int m] ∧
  ((∃ z : Str, x = .str z ∧ z.length ≤ 1000 ∧ ∀ G, Same H G → Q (.bl (isTxt z m)) G) ∨ (Isa K H x "str" false ∧ Q (.bl false) H))
theorem cal_isText (B : Bi mg) (D : At K mg "is_text" s_is_text ps_is_text) : Cal P w K mg base 1 "is_text" ps_is_text (spIsText K) := by
  refine D.cal sc_is_text (fun vs H Q E h => ?_) (fun f cdv A outer s H vs Q E hr h => ?_)
  · obtain ⟨x, m, rfl, _⟩ := h
    rfl
  · obtain ⟨x, m, rfl, h⟩ := h
    refine ⟨_, (pss_cons (ps_if (PW.pt (pw_or (pt_not (pt_val (pe_callB call_isi (by rfl) B.isinstance (by decide +kernel) (pa_cons (pv 0) (pa_cons (pe_bltn (v := .ty "str") (by rfl) B.str (by decide +kernel) rfl) pa_nil))))) (pw_or1 (pt_cmpR op_gt (pe_callB call_len (by rfl) B.len (by decide +kernel) (pa_cons (pv 0) pa_nil)) (pv 1) (nomark _))))) (pss_one (ps_ret pe_bl)) pss_nil)
      (pss_one (ps_ret (pe_callB (cr_all rfl) (by rfl) B.all (by decide +kernel) (pa_cons (pe_lc (own := [("character", 2)]) (by rfl) sc_is_text.nd (pi_str (pv 0)) (blkOk_by (own := [("character", 2)]) (N := ["value", "most", "character"]) (sc := defScope s_is_text) (by decide +kernel)) (fun _ _ _ _ _ => pg_name (i := 2) sc_is_text.nd rfl (.inl rfl)) (fun _ _ _ _ _ => pts_nil) (fun _ _ _ _ _ => (pe_cmpR op_in_sign (pv 2) (pe_cst B.SIGNS (by rfl)) (by rfl)))) pa_nil))))), ?_⟩
    rcases h with ⟨z, rfl, zl, k⟩ | ⟨⟨t, i1, i2⟩, k⟩
    · obtain ⟨t, i1, i2⟩ := Isa.str_str (K := K) (H := H) (z := z)
      refine ⟨_, rfl, _, _, t, _, true, rfl, .ty _, i1, i2, _, rfl, iteF ⟨_, rfl, _, _, rfl, ⟨Nat.le_of_lt (small1000 zl), rfl⟩, _, rfl, _, _, rfl, rfl, _, rfl, ite2 (fun e => ?_) (fun e => ?_)⟩⟩
      · have e1 : ¬ (z.length : Int) ≤ m := by
          have := of_decide_eq_true e
          omega
        have e2 : isTxt z m = false := by
          unfold isTxt
          rw [decide_eq_false e1, Bool.false_and]
        rw [e2] at k
        exact k H (Same.refl H)
      · have e1 : (z.length : Int) ≤ m := by
          have h2 : ¬ m < (z.length : Int) := fun h3 => e (decide_eq_true h3)
          omega
        refine ⟨_, rfl, z, rfl, fun D nD => lc_it walk_str (fun i J => Same H J ∧ J D = some (.lst (((z.cps.toList.take i).map fun c => decide (c ∈ signs.cps.toList)).map V.bl)))
          ⟨same_new nD, by rw [upd_same]; rfl⟩ (fun _ _ _ _ => trivial) ?_ ?_⟩
        · rintro i v J _ hi ⟨sJ, eJ⟩ ⟨rfl, c, hc, rfl⟩
          refine ⟨rfl, yes (iteT ?_)⟩
          refine ⟨_, rfl, c, signs, rfl, rfl, _, eJ, small1000 ?_, ?_, ?_⟩
          · rw [List.length_map, List.length_map, List.length_take]
            have : z.length = z.cps.toList.length := rfl
            omega
          · exact fun b o e => by
              rw [upd_ne (ne_of_none e nD)]
              exact sJ b o e
          · rw [upd_same]
            have hc' : z.cps.toList[i]? = some c := by
              rw [← Array.getElem?_toList] at hc
              exact hc
            rw [List.take_add_one, hc', List.map_append, List.map_append]
            rfl
        · rintro J ⟨sJ, eJ⟩
          refine ⟨D, ((z.cps.toList.take z.cps.size).map fun c => decide (c ∈ signs.cps.toList)), rfl, .inl (.inl eJ), ?_⟩
          have e2 : ((z.cps.toList.take z.cps.size).map fun c => decide (c ∈ signs.cps.toList)).all id = isTxt z m := by
            unfold isTxt
            rw [decide_eq_true e1, Bool.true_and, List.take_of_length_le (show z.cps.toList.length ≤ z.cps.size from Nat.le_refl _), List.all_map]
            rfl
          rw [e2]
          exact k J sJ
    · refine ⟨_, rfl, _, _, t, _, false, rfl, .ty _, i1, i2, _, rfl, iteT (iteT k)⟩
end
end Gu
namespace Gu
open PySem PySem.Spec PyProof.Rows L2
/-! ### is_tuple -/
theorem isaTupP {K : PySem.W.Frag} {H : Hp} {l : Addr} {xs : List V} (h : SqT K H l xs) : Isa K H (.ref l) "tuple" true := by
  rcases h with (h | ⟨o, h⟩) | ⟨o, its, n, e, c, _⟩
  · exact ⟨_, .base (.tup h), kit_ty (by decide +kernel)⟩
  · exact ⟨_, .fTuple h, kit_ty (by decide +kernel)⟩
  · exact ⟨_, .kTuple e c, kit_ty (by decide +kernel)⟩
section
variable {P : Program} {w : World} {K : PySem.W.Frag} {mg : Str → Option Value} {base : Heap} {C : Addr}
def spIsTuple (K : PySem.W.Frag) : Sp := fun vs H Q _ => ∃ (x : V) (a b : Int), vs = [x, .int a, .int b] ∧
  ((∃ (l : Addr) (xs : List V), x = .ref l ∧ SqT K H l xs ∧ Q (.bl (decide (a ≤ (xs.length : Int) ∧ (xs.length : Int) ≤ b))) H) ∨ (Isa K H x "tuple" false ∧ Q (.bl false) H))
theorem cal_isTuple (B : Bi mg) (D : At K mg "is_tuple" s_is_tuple ps_is_tuple) : Cal P w K mg base 1 "is_tuple" ps_is_tuple (spIsTuple K) := by
  refine D.cal sc_is_tuple (fun vs H Q E h => ?_) (fun f cdv A outer s H vs Q E hr h => ?_)
  · obtain ⟨x, a, b, rfl, _⟩ := h
    rfl
  · obtain ⟨x, a, b, rfl, h⟩ := h
    refine ⟨_, (pss_one (ps_ret (pe_and (pe_callB call_isi (by rfl) B.isinstance (by decide +kernel) (pa_cons (pv 0) (pa_cons (pe_bltn (v := .ty "tuple") (by rfl) B.tuple (by decide +kernel) rfl) pa_nil))) (pe_one (pe_chain op_le op_le (pv 1) (pe_callB call_len (by rfl) B.len (by decide +kernel) (pa_cons (pv 0) pa_nil)) (pv 2)))))), ?_⟩
    rcases h with ⟨l, xs, rfl, hT, k⟩ | ⟨⟨t, i1, i2⟩, k⟩
    · obtain ⟨t, i1, i2⟩ := isaTupP hT
      refine ⟨_, rfl, _, _, t, _, true, rfl, .ty _, i1, i2, _, rfl, iteT ?_⟩
      refine ⟨_, rfl, _, rfl, _, _, rfl, .inr ⟨_, hT, rfl⟩, _, _, rfl, rfl, _, rfl, ?_⟩
      by_cases e1 : a ≤ (xs.length : Int)
      · rw [decide_eq_true e1]
        refine iteT ⟨_, rfl, _, _, rfl, rfl, ?_⟩
        have e : decide (a ≤ (xs.length : Int) ∧ (xs.length : Int) ≤ b) = decide ((xs.length : Int) ≤ b) := by simp only [e1, true_and]
        rw [e] at k
        exact k
      · rw [decide_eq_false e1]
        refine iteF ?_
        have e : decide (a ≤ (xs.length : Int) ∧ (xs.length : Int) ≤ b) = false := by simp only [e1, false_and, decide_false]
        rw [e] at k
        exact k
    · exact ⟨_, rfl, _, _, t, _, false, rfl, .ty _, i1, i2, _, rfl, iteF k⟩
end
end Gu
namespace Gu
open PySem PySem.Spec PyProof.Rows L2
/-! ### the class Shortener, its __init__ -/
def flds (r : Rec) (b : Addr) : List (Str × V) := putF "told" (.ref b) (putF "mark" (.str r.z) (putF "tail" (.int r.t) (putF "head" (.int r.h) (putF "limit" (.int r.l) []))))
theorem flds_limit (r : Rec) (b : Addr) : (flds r b).lookup ("limit" : Str) = some (.int r.l) := by
  unfold flds
  rw [lookup_putF, if_neg (by decide +kernel), lookup_putF, if_neg (by decide +kernel), lookup_putF, if_neg (by decide +kernel), lookup_putF, if_neg (by decide +kernel), lookup_putF, if_pos rfl]
theorem flds_head (r : Rec) (b : Addr) : (flds r b).lookup ("head" : Str) = some (.int r.h) := by
  unfold flds
  rw [lookup_putF, if_neg (by decide +kernel), lookup_putF, if_neg (by decide +kernel), lookup_putF, if_neg (by decide +kernel), lookup_putF, if_pos rfl]
theorem flds_tail (r : Rec) (b : Addr) : (flds r b).lookup ("tail" : Str) = some (.int r.t) := by
  unfold flds
  rw [lookup_putF, if_neg (by decide +kernel), lookup_putF, if_neg (by decide +kernel), lookup_putF, if_pos rfl]
theorem flds_mark (r : Rec) (b : Addr) : (flds r b).lookup ("mark" : Str) = some (.str r.z) := by
  unfold flds
  rw [lookup_putF, if_neg (by decide +kernel), lookup_putF, if_pos rfl]
theorem flds_told (r : Rec) (b : Addr) : (flds r b).lookup ("told" : Str) = some (.ref b) := by
  unfold flds
  rw [lookup_putF, if_pos rfl]
/-- what a Shortener may be made of -/
structure Rec.fit (r : Rec) : Prop where
  l : 0 ≤ r.l ∧ r.l ≤ 40
  h : 0 ≤ r.h ∧ r.h ≤ 40
  t : 0 ≤ r.t ∧ r.t ≤ 40
  z : isTxt r.z 3 = true
theorem isTxt_len {z : Str} {m : Int} (h : isTxt z m = true) : (z.length : Int) ≤ m := by
  unfold isTxt at h
  rw [Bool.and_eq_true] at h
  exact of_decide_eq_true h.1
theorem Rec.ok.fit {r : Rec} (o : r.ok) : r.fit := by
  have a : ∀ y ∈ marks, isTxt y 3 = true := by decide +kernel
  exact ⟨⟨o.l0, o.l1⟩, ⟨o.h0, o.h1⟩, ⟨o.t0, o.t1⟩, a _ o.z⟩
/-- the class as the top has left it -/
structure ShC (K : PySem.W.Frag) (mg : Str → Option Value) (C : Addr) : Prop where
  cl : Cls K C
  nL : NoAttr K C "limit"
  nH : NoAttr K C "head"
  nT : NoAttr K C "tail"
  nM : NoAttr K C "mark"
  nD : NoAttr K C "told"
  g : mg "Shortener" = some (.ref C)
  ha : PySem.W.findIn K (.ref C) "__class__" = some (some (.builtin "object.__class__"))
  hn : PySem.W.specialIn K (.builtin "object.__class__") "__get__" = some (some (.builtin "getset_descriptor.__get__"))
  ht : PySem.W.takesIn K (.builtin "object.__class__") = some true
  hm : PySem.W.mroIn K C (.type "object") = some true
  kk : PySem.W.kitOne K (.ref C) (.ref C) = some true
structure InitAt (K : PySem.W.Frag) (C : Addr) : Prop where
  ex : ∃ (f : Addr) (fd : FuncData), Mk K C f ∧ Fun K "__init__" "Shortener.__init__" s_Shortener_init f fd ∧ Binds K fd ps_Shortener_init []
structure Mak (P : Program) (w : World) (K : PySem.W.Frag) (mg : Str → Option Value) (base : Heap) (k : Nat) (x : Str) (C : Addr) (sp : Sp) : Prop where
  ex : ∃ (f : Addr) (fd : FuncData) (ps : List Str), Mk K C f ∧ FnOk P w K mg base CX0 k f fd ps sp ∧ mg x = some (.ref C) ∧ Binds K fd ps []
section
variable {X : Cx} {k j : Nat} {x : Str} {C : Addr} {sp : Sp} {p pos : Pos} {e : Expr} {es : List Expr} {t : TA}
theorem pe_new (c : Mak X.prog X.w X.K X.mg X.base k x C sp) (hr : Room j X.A) (hk : k + 1 ≤ j) (hg : Gl X x) (ha : PA X (e :: es) t)
    (hdb : (x == ("__debug__" : Str)) = false := by decide) (he : starEach (e :: es) X.env = (false, eval e X.env) :: starEach es X.env := by rfl) (hpl : (backTo pos (starEach es X.env)).any (·.1) = false := by rfl) :
    PE X (.Call (.Name x p) (e :: es) [] pos) (tMake C sp [] E0 t) := by
  obtain ⟨f, fd, ps, M, F, hm, b⟩ := c.ex
  exact pe_make M F (hr.mono hk) hg hm b .nil pass0 ha hdb he hpl
end
section
variable {P : Program} {w : World} {K : PySem.W.Frag} {mg : Str → Option Value} {base : Heap} {C : Addr}
def spCheckMark : Sp := fun vs H Q _ => ∃ (z : Str), vs = [.str z] ∧ isTxt z 3 = true ∧ ∀ G, Same H G → Q .non G
theorem cal_checkMark (B : Bi mg) (D : At K mg "check_mark" s_check_mark ps_check_mark) (C_is_text : Cal P w K mg base 1 "is_text" ps_is_text (spIsText K)) : Cal P w K mg base 2 "check_mark" ps_check_mark spCheckMark := by
  refine D.cal sc_check_mark (fun vs H Q E h => ?_) (fun f cdv A outer s H vs Q E hr h => ?_)
  · obtain ⟨z, rfl, _⟩ := h
    rfl
  · obtain ⟨z, rfl, hz, k⟩ := h
    have zl := isTxt_len hz
    refine ⟨_, (pss_one (ps_if (pt_not (pt_val (pe_own C_is_text hr (by decide) (by rfl) (pa_cons (pv 0) (pa_cons (pe_cst B.MOST_MARK (by rfl)) pa_nil))))) pss_never pss_nil)), ?_⟩
    refine ⟨_, rfl, _, _, rfl, .inl ⟨z, rfl, by omega, fun G sG => ⟨_, rfl, ?_⟩⟩⟩
    rw [hz]
    exact iteF (k G sG)
def spInit (C : Addr) : Sp := fun vs H Q _ => ∃ (x dx : Addr) (r : Rec), vs = [.ref x, .int r.l, .int r.h, .int r.t, .str r.z] ∧ H x = some (.ins C dx []) ∧ r.fit ∧
  ∀ (b : Addr) (G : Hp), H b = none → G x = some (.ins C dx (flds r b)) → G b = some (.tup r.vs) → (∀ c o, H c = some o → c ≠ x → G c = some o) → Q .non G
theorem ok_init {f : Addr} {fd : FuncData} (B : Bi mg) (S : ShC K mg C) (F : Fun K "__init__" "Shortener.__init__" s_Shortener_init f fd) (C_is_integer : Cal P w K mg base 1 "is_integer" ps_is_integer (spIsInteger K)) (C_check_mark : Cal P w K mg base 2 "check_mark" ps_check_mark spCheckMark) : FnOk P w K mg base CX0 3 f fd ps_Shortener_init (spInit C) := by
  refine F.ok sc_Shortener_init (fun vs H Q E h => ?_) (fun cdv A outer s H vs Q E hr h => ?_)
  · obtain ⟨x, dx, r, rfl, _⟩ := h
    rfl
  · obtain ⟨x, dx, r, rfl, hx, fit, k⟩ := h
    refine ⟨_, (pss_cons (ps_for PassesOwn.never rfl (pi_tup (pe_tup (pa_cons (pv 1) (pa_cons (pv 2) (pa_cons (pv 3) pa_nil))))) (pg_name (i := 5) sc_Shortener_init.nd rfl (.inl rfl))
      (pss_one (ps_if (pt_not (pt_val (pe_own C_is_integer hr (by decide) (by rfl) (pa_cons (pv 5) (pa_cons pe_int (pa_cons (pe_cst B.MOST_SIGNS (by rfl)) pa_nil)))))) pss_never pss_nil)))
      (pss_cons (ps_expr (pe_own C_check_mark hr (by decide) (by rfl) (pa_cons (pv 4) pa_nil)))
      (pss_cons (ps_fld (pv 0) (pv 1) rfl)
      (pss_cons (ps_fld (pv 0) (pv 2) rfl)
      (pss_cons (ps_fld (pv 0) (pv 3) rfl)
      (pss_cons (ps_fld (pv 0) (pv 4) rfl)
      (pss_one (ps_fld (pv 0) (pe_tup (pa_cons (pv 1) (pa_cons (pv 2) (pa_cons (pv 3) (pa_cons (pv 4) pa_nil))))) rfl)))))))), ?_⟩
    refine ⟨_, rfl, _, rfl, _, rfl, by show 3 ≤ sizeLine; decide, fun T nT => ?_⟩
    have nxT : x ≠ T := ne_of_none hx nT
    have hxT : upd H T (.tup [.int r.l, .int r.h, .int r.t]) x = some (.ins C dx []) := by rw [upd_ne nxT]; exact hx
    refine ⟨T, rfl, ⟨_, .inl (.inl upd_same)⟩, for_tup (K := K) (a := T) (xs := [.int r.l, .int r.h, .int r.t]) (fun i σ J => ∃ u, σ = [some (.ref x), some (.int r.l), some (.int r.h), some (.int r.t), some (.str r.z), u] ∧ J = upd H T (.tup [.int r.l, .int r.h, .int r.t]))
      ⟨none, rfl, rfl⟩ (fun i σ J _ ⟨_, _, e⟩ => by rw [e]; exact .inl (.inl upd_same)) ?_ ?_⟩
    · rintro i v σ J hi ⟨u, rfl, rfl⟩
      obtain ⟨n, n0, n1, rfl⟩ : ∃ n : Int, 0 ≤ n ∧ n ≤ 40 ∧ v = .int n := by
        have hv := List.mem_of_getElem? hi
        simp only [List.mem_cons, List.not_mem_nil, or_false] at hv
        rcases hv with rfl | rfl | rfl
        · exact ⟨_, fit.l.1, fit.l.2, rfl⟩
        · exact ⟨_, fit.h.1, fit.h.2, rfl⟩
        · exact ⟨_, fit.t.1, fit.t.2, rfl⟩
      refine ⟨_, rfl, _, _, _, rfl, .inl ⟨_, rfl, _, rfl, ?_⟩⟩
      rw [decide_eq_true ⟨n0, n1⟩]
      exact iteF ⟨_, rfl, rfl⟩
    · rintro σ J ⟨u, rfl, rfl⟩
      refine ⟨_, rfl, _, rfl, fit.z, fun G sG => ?_⟩
      have g0 : G x = some (.ins C dx []) := sG _ _ hxT
      refine ⟨_, rfl, _, rfl, x, C, dx, [], rfl, g0, S.cl, S.nL, by decide, ?_⟩
      refine ⟨_, rfl, _, rfl, x, C, dx, _, rfl, upd_same, S.cl, S.nH, by exact Nat.lt_of_le_of_lt (length_putF _ _ _) (by decide), ?_⟩
      rw [upd_upd]
      refine ⟨_, rfl, _, rfl, x, C, dx, _, rfl, upd_same, S.cl, S.nT, by exact Nat.lt_of_le_of_lt (length_putF _ _ _) (Nat.lt_of_le_of_lt (Nat.succ_le_succ (length_putF _ _ _)) (by decide)), ?_⟩
      rw [upd_upd]
      refine ⟨_, rfl, _, rfl, x, C, dx, _, rfl, upd_same, S.cl, S.nM, by exact Nat.lt_of_le_of_lt (length_putF _ _ _) (Nat.lt_of_le_of_lt (Nat.succ_le_succ (Nat.le_trans (length_putF _ _ _) (Nat.succ_le_succ (length_putF _ _ _)))) (by decide)), ?_⟩
      rw [upd_upd]
      refine ⟨_, rfl, _, rfl, _, rfl, _, rfl, by show 4 ≤ sizeLine; decide, fun b nb => ?_⟩
      have nxb : x ≠ b := ne_of_none upd_same nb
      refine ⟨_, rfl, x, C, dx, _, rfl, (by rw [upd_ne nxb, upd_same]), S.cl, S.nD, by exact Nat.lt_of_le_of_lt (length_putF _ _ _) (Nat.lt_of_le_of_lt (Nat.succ_le_succ (Nat.le_trans (length_putF _ _ _) (Nat.succ_le_succ (Nat.le_trans (length_putF _ _ _) (Nat.succ_le_succ (length_putF _ _ _)))))) (by decide)), ?_⟩
      have nb1 : G b = none := by rw [upd_ne nxb.symm] at nb; exact nb
      have nb0 : H b = none := (same_new nT).free (sG.free nb1)
      refine k b _ nb0 upd_same (by rw [upd_ne nxb.symm, upd_same]; rfl) fun c o e nc => ?_
      rw [upd_ne nc, upd_ne (ne_of_none e nb0), upd_ne nc]
      exact sG _ _ (same_new nT _ _ e)
theorem mak_sh (B : Bi mg) (S : ShC K mg C) (D : InitAt K C) (C_is_integer : Cal P w K mg base 1 "is_integer" ps_is_integer (spIsInteger K)) (C_check_mark : Cal P w K mg base 2 "check_mark" ps_check_mark spCheckMark) : Mak P w K mg base 3 "Shortener" C (spInit C) := by
  obtain ⟨f, fd, M, F, b⟩ := D.ex
  exact ⟨f, fd, ps_Shortener_init, M, ok_init B S F C_is_integer C_check_mark, S.g, b⟩
end
end Gu
namespace PySem
open Sem (wp)
open AutoSeq1 (wpAny_loadPart')
theorem gu_new_enum (a : Addr) (vs : Array Value) (n : Nat) (dt : Option Addr) (sl : Array (Option Value)) : Meets (Builtin.«enumerate.__new__» ⟨[.type "enumerate", .ref a], []⟩) (fun _ R s =>
    s.heap.get? a = some ⟨.type "tuple", dt, .seq vs n, sl⟩ ∧ R (.ok (.ret (.ref (s.heap.push { cls := .type "tuple_iterator", data := .fields #[.ref a, .int 0 0] }).objs.size))) { s with heap := (s.heap.push { cls := .type "tuple_iterator", data := .fields #[.ref a, .int 0 0] }).push { cls := .type "enumerate", data := .fields #[.none, .bool false, .ref s.heap.objs.size, rawInt 0, .none, .none] } }) :=
  .of_wp fun prog w A R s h => by
    obtain ⟨s1, s2, s3, s4, s5⟩ := s
    obtain ⟨ha, h⟩ := h
    have sb := sub_enumerate
    have hT : Heap.IsTuple (Shared.heap ⟨s1, s2, s3, s4, s5⟩) a vs := ⟨_, ha, rfl, n, rfl⟩
    wp_walk using wpAny_loadPart' ha
    refine wpAny_stack_any fun fr => wpAny_pure ?_
    split
    · next c _ _ _ _ _ =>
      cases (c == Value.type "enumerate") <;> (wp_walk using wpAny_loadPart' ha, wpAny_pyIter_tuple hT; exact ⟨_, rfl, h⟩)
    · wp_walk using wpAny_loadPart' ha, wpAny_pyIter_tuple hT
      exact ⟨_, rfl, h⟩
section
variable {prog : Program} {w : World} {A : Around} {E : Value → Shared → Prop} {s : Shared}
theorem gu_call_enum {a : Addr} {vs : Array Value} {Q : Value → Shared → Prop} (hT : s.heap.IsTuple a vs)
    (h : ∀ g, IsEnum g (s.heap.objs.size + 1) s.heap.objs.size 0 .none → g.IsTupleIter s.heap.objs.size a 0 → (∀ b o, s.heap.get? b = some o → g.get? b = some o) → Q (.ref (s.heap.objs.size + 1)) { s with heap := g }) :
    wpAny (model prog w) A (call (.type "enumerate") [.ref a]) Q E s := by
  obtain ⟨⟨oc, od, dd, sl⟩, ha, hc, n, hd⟩ := hT
  cases (show oc = .type "tuple" from hc)
  cases (show dd = .seq vs n from hd)
  refine callType_new F.called_enumerate (by decide) (F.typeCall_enumerate_1 _) (F.newCall_enumerate_1 _) (fun o => F.args_object_init_2 o _) F.entry_enumerate_new (gu_new_enum a vs n od sl) ⟨ha, ?_⟩
  have z1 : (s.heap.push { cls := .type "tuple_iterator", data := .fields #[.ref a, .int 0 0] }).objs.size = s.heap.objs.size + 1 := Heap.size_push ..
  show _ ∧ _
  rw [z1]
  have en : IsEnum ((s.heap.push { cls := .type "tuple_iterator", data := .fields #[.ref a, .int 0 0] }).push { cls := .type "enumerate", data := .fields #[.none, .bool false, .ref s.heap.objs.size, rawInt 0, .none, .none] }) (s.heap.objs.size + 1) s.heap.objs.size 0 .none := by
    have q := Heap.get?_push_size (s.heap.push { cls := .type "tuple_iterator", data := .fields #[.ref a, .int 0 0] }) (o := { cls := .type "enumerate", data := .fields #[.none, .bool false, .ref s.heap.objs.size, rawInt 0, .none, .none] }) rfl
    rw [z1] at q
    exact q
  exact ⟨⟨_, en, rfl⟩, h _ en ⟨_, Heap.get?_push_of_some _ (Heap.get?_push_size _ rfl), rfl, rfl⟩ fun b o x => Heap.get?_push_of_some _ (Heap.get?_push_of_some _ x)⟩
end
end PySem
namespace Gu
open PySem PySem.Spec PyProof.Rows L2
/-- the tuple at a, each item in a new pair with its place -/
def EnT (K : PySem.W.Frag) (a : Addr) : It where
  go := fun i H => ∃ (xs : List V) (x : V), SqT K H a xs ∧ xs[i]? = some x
  yld := fun i H v G => ∃ T x, v = .ref T ∧ H T = none ∧ G = upd H T (.tup [.int (i : Nat), x]) ∧ ∀ xs, SqT K H a xs → xs[i]? = some x
  stop := fun i H => ∃ xs : List V, SqT K H a xs ∧ xs.length = i
theorem turn_enT {P : Program} {w : World} {K : PySem.W.Frag} {es : List Expr} {kk : Nat} {tp : Pos} (a e it : Addr) :
    Turn P w K (.Tuple es kk tp) (EnT K a) [e, it] e (fun i h => (∃ old, IsEnum h e it ((i : Nat) : Int) old) ∧ h.IsTupleIter it a i ∧ e ≠ it) where
  mem := List.mem_cons_self ..
  obj := fun i h st b hb => by
    obtain ⟨⟨old, he⟩, ⟨o, ho, hc, hd⟩, _⟩ := st
    simp only [List.mem_cons, List.not_mem_nil, or_false] at hb
    rcases hb with rfl | rfl
    · exact ⟨_, he, fun v q => nomatch q⟩
    · exact ⟨o, ho, fun v q => by rw [hd] at q; cases q⟩
  keep := fun i h g st k => by
    obtain ⟨⟨old, he⟩, hi, ne⟩ := st
    exact ⟨⟨old, k e (by simp) _ he⟩, hi.at fun o q => k it (by simp) o q, ne⟩
  item := by
    intro X hP hw hK hc i pins s σ H E I hf st hg
    subst hP hw hK
    obtain ⟨⟨old, he⟩, hit, ne⟩ := st
    obtain ⟨xs, x, hq, hx⟩ := hg
    obtain ⟨its, rv, tp, hz⟩ := I.tuple hq
    obtain ⟨u, hu, ru⟩ := rv.get hx
    have el : e < s.heap.objs.size := Heap.lt_size he
    have il : it < s.heap.objs.size := by
      obtain ⟨_, q, _⟩ := hit
      exact Heap.lt_size q
    have tp' : s.heap.IsTuple a its.toArray := tp
    have nai : a ≠ it := fun z => by
      obtain ⟨o1, g1, c1, _⟩ := tp'
      obtain ⟨o2, g2, c2, _⟩ := hit
      rw [z] at g1
      cases g1.symm.trans g2
      exact absurd (Value.type.inj (c1.symm.trans c2)) (by decide)
    have nea : e ≠ a := fun z => by
      obtain ⟨o1, g1, c1, _⟩ := tp'
      have g2 := he
      rw [z] at g2
      cases g1.symm.trans g2
      exact absurd (Value.type.inj c1) (by decide)
    have hd : X.A.in1.handled = none := I.ok.hd hc
    refine wpAny_pyNext_enum_itemD (Draws.tuple hd it a nai its.toArray) he ⟨hit, tp'⟩ (i := i) (by
      have := (List.getElem?_eq_some_iff.mp hu).1
      simpa using this) ne (by simp [ne, nea]) fun y g tk hy ho st' hT hsz hk => ?_
    have ey : y = u := by
      have : its[i]? = some y := by simpa using hy
      rw [hu] at this
      exact (Option.some.inj this).symm
    subst ey
    refine ⟨_, rfl, wpAny_letOwnedTupleGo_enum (s := { s with heap := g, toks := tk + 1 }) ho fun g2 he' sb => ?_⟩
    have hT2 : g2.get? s.heap.objs.size = some { cls := .type "tuple", data := .seq #[.int i tk, y] } := (sb.2 _ (Nat.ne_of_gt el)).trans hT
    have nw : ObjOk X.prog X.w (upd H s.heap.objs.size (.tup [.int (i : Nat), x])) g2 s.heap.objs.size (.tup [.int (i : Nat), x]) := ⟨by show 2 ≤ sizeLine; decide, [.int i tk, y], .cons ⟨_, rfl⟩ (.cons ru .nil), ⟨_, hT2, rfl, _, rfl⟩⟩
    have I1 : Inv X pins σ (upd H s.heap.objs.size (.tup [.int (i : Nat), x])) { s with heap := g2, toks := tk + 1 } :=
      I.turnedNew (ch := [e, it]) (fun b ob hb q => (sb.2 b (fun z => hb (by simp [z]))).trans (hk b ob (fun z => hb (by simp [z])) (fun z => hb (by simp [z])) q)) hf (Nat.le_refl _) nw
    refine ⟨.ref s.heap.objs.size, _, I1, rfl, ⟨_, x, rfl, I.hok.fresh (Nat.le_refl _), rfl, fun ys hy => by rw [I.tuple_inj hy hq]; exact hx⟩, ⟨⟨y, ?_⟩, st'.1.at fun o q => (sb.2 it (Ne.symm ne)).trans q, ne⟩, fun b hb => ?_⟩
    · rw [show ((i + 1 : Nat) : Int) = (i : Int) + 1 by omega]
      exact he'
    · have hb' : b < s.heap.objs.size := by
        simp only [List.mem_cons, List.not_mem_nil, or_false] at hb
        rcases hb with rfl | rfl
        · exact el
        · exact il
      rw [upd_ne (Nat.ne_of_lt hb')]
      exact (hf b hb).1
  done := by
    intro X hP hw hK hc i pins s σ H E I hf st hg
    subst hP hw hK
    obtain ⟨⟨old, he⟩, hit, ne⟩ := st
    obtain ⟨xs, hq, hx⟩ := hg
    obtain ⟨its, rv, tp, hz⟩ := I.tuple hq
    have tp' : s.heap.IsTuple a its.toArray := tp
    have nai : a ≠ it := fun z => by
      obtain ⟨o1, g1, c1, _⟩ := tp'
      obtain ⟨o2, g2, c2, _⟩ := hit
      rw [z] at g1
      cases g1.symm.trans g2
      exact absurd (Value.type.inj (c1.symm.trans c2)) (by decide)
    have hd : X.A.in1.handled = none := I.ok.hd hc
    have en : its.toArray.size = i := by
      have := rv.length
      simp only [List.size_toArray]
      omega
    obtain ⟨f0, f1, f2, f3, f4, f5⟩ := hf it (by simp)
    exact wpAny_pyNext_enum_endD (Draws.tuple hd it a nai its.toArray) he ⟨by rw [en]; exact hit, tp'⟩ fun g eb => ⟨rfl, I.turned (t' := s.toks) (fun b o hb q => eb b o hb q) f0 f1 f3 f4 f5⟩
  self := fun A i s Q E st h => by
    obtain ⟨⟨_, he⟩, _⟩ := st
    exact wpAny_pyIter_enum he h
def iEnT (K : PySem.W.Frag) (ta : TA) : TI := fun σ H R => ta σ H fun vs G => ∃ a xs, vs = [.ref a] ∧ SqT K G a xs ∧ R (EnT K a) G
theorem pi_enT {X : Cx} {e : Expr} {ta : TA} {p pos tp : Pos} {es : List Expr} {kk : Nat} (hg : Gl X "enumerate") (hm : X.mg "enumerate" = none) (ha : PA X [e] ta) (hs : starEach [e] X.env = [(false, eval e X.env)] := by rfl) :
    PI X (.Tuple es kk tp) (.Call (.Name "enumerate" p) [e] [] pos) (iEnT X.K ta) := by
  refine ⟨fun pins s σ H R I h => ?_⟩
  refine Call_ (ld_blt I hg hm boot_enumerate (PyProof.Rows.callWith_type1 (thn (ha.run pos pins s σ H _ I h) fun us s1 ⟨vs, G, I1, r1, q1⟩ => ?_) hs rfl))
  obtain ⟨a, xs, ex, hq, q⟩ := q1
  subst ex
  cases r1 with
  | cons r rr =>
    cases rr
    cases r
    obtain ⟨its, rv, tq, hz⟩ := I1.tuple hq
    refine gu_call_enum (show s1.heap.IsTuple a its.toArray from tq) fun g he hit hk => wpAny_pyIter_enum he ?_
    have I2 : Inv X pins σ G { s1 with heap := g } := I1.kept (t' := s1.toks) hk
    refine ⟨s1.heap.objs.size + 1, [s1.heap.objs.size + 1, s1.heap.objs.size], _, _, G, rfl, I2, turn_enT a (s1.heap.objs.size + 1) s1.heap.objs.size, ⟨⟨.none, he⟩, hit, Nat.succ_ne_self _⟩, fun b hb => ?_, q⟩
    have le : s1.heap.objs.size ≤ b := by
      simp only [List.mem_cons, List.not_mem_nil, or_false] at hb
      rcases hb with rfl | rfl
      · exact Nat.le_add_right _ _
      · exact Nat.le_refl _
    exact I1.fpOk le (I1.hok.fresh le)
/-- the walk of such a loop: a new pair each turn -/
theorem walk_enT {K : PySem.W.Frag} {a : Addr} {xs : List V} : Walk (EnT K a) xs.length (fun H => SqT K H a xs) (fun i H v G => ∃ T x, xs[i]? = some x ∧ v = .ref T ∧ H T = none ∧ G = upd H T (.tup [.int (i : Nat), x])) where
  goes := fun i H hi h => ⟨xs, xs[i], h, List.getElem?_eq_getElem hi⟩
  stops := fun H h => ⟨xs, h, rfl⟩
  yields := fun i H v G hi h ⟨T, x, e1, e2, e3, e4⟩ => ⟨T, x, e4 xs h, e1, e2, e3⟩
end Gu
namespace Gu
open PySem PySem.Spec PyProof.Rows L2
/-! ### what is cut, as lists -/
def cut {α : Type} (l h t : Nat) (m xs : List α) : List α := if xs.length ≤ l then xs else xs.take h ++ m ++ xs.drop (xs.length - t)
theorem cut_front {α : Type} (xs : List α) {h : Int} (h0 : 0 ≤ h) : (xs.drop (HT.sIx xs.length 0 none)).take (HT.sIx xs.length xs.length (some h) - HT.sIx xs.length 0 none) = xs.take h.toNat := by
  obtain ⟨k, rfl⟩ := Int.eq_ofNat_of_zero_le h0
  rw [HT.sIx_none, HT.sIx_nat, List.drop_zero, Nat.sub_zero, Int.toNat_natCast, List.take_eq_take_iff]
  omega
theorem cut_back {α : Type} (xs : List α) {h : Int} (h0 : 0 ≤ h) : (xs.drop (HT.sIx xs.length 0 (some h))).take (HT.sIx xs.length xs.length none - HT.sIx xs.length 0 (some h)) = xs.drop h.toNat := by
  obtain ⟨k, rfl⟩ := Int.eq_ofNat_of_zero_le h0
  rw [HT.sIx_none, HT.sIx_nat, Int.toNat_natCast]
  rw [List.take_of_length_le (by rw [List.length_drop]; omega)]
  by_cases e : k ≤ xs.length
  · rw [Nat.min_eq_left e]
  · rw [Nat.min_eq_right (by omega), List.drop_length, List.drop_eq_nil_of_le (by omega)]
theorem cut_length {α : Type} {l h t : Nat} {m xs : List α} : (cut l h t m xs).length ≤ max xs.length (h + m.length + t) := by
  unfold cut
  split
  · omega
  · rw [List.length_append, List.length_append, List.length_take, List.length_drop]
    omega
theorem app_cps (a b : Str) : (a ++ b).cps.toList = a.cps.toList ++ b.cps.toList := by
  show (a.cps ++ b.cps).toList = _
  rw [Array.toList_append]
def Rec.cut (r : Rec) (xs : List Nat) : List Nat := Gu.cut r.l.toNat r.h.toNat r.t.toNat r.z.cps.toList xs
def cuts (rs : List Rec) (xs : List Nat) : List Nat := rs.foldl (fun acc r => r.cut acc) xs
theorem Rec.fit.zl {r : Rec} (f : r.fit) : r.z.cps.toList.length ≤ 3 := by
  have h := isTxt_len f.z
  have e : r.z.length = r.z.cps.toList.length := rfl
  omega
theorem Rec.fit.cut_len {r : Rec} (f : r.fit) {xs : List Nat} (h : xs.length ≤ 200) : (r.cut xs).length ≤ 200 := by
  have a : (r.cut xs).length ≤ _ := cut_length
  have b := f.zl
  have c := f.h
  have d := f.t
  omega
/-! ### shorteners and rows in the heap -/
def ShAt (C : Addr) (H : Hp) (x : Addr) (r : Rec) : Prop := ∃ dx b, H x = some (.ins C dx (flds r b)) ∧ H b = some (.tup r.vs)
structure RowAt (C : Addr) (H : Hp) (a : Addr) (rs : List (Addr × Rec)) : Prop where
  tp : H a = some (.tup (rs.map fun q => V.ref q.1))
  sh : ∀ q ∈ rs, ShAt C H q.1 q.2 ∧ q.2.fit
theorem ShAt.same {C : Addr} {H G : Hp} {x : Addr} {r : Rec} (s : Same H G) (h : ShAt C H x r) : ShAt C G x r := by
  obtain ⟨dx, b, h1, h2⟩ := h
  exact ⟨dx, b, s _ _ h1, s _ _ h2⟩
theorem RowAt.same {C : Addr} {H G : Hp} {a : Addr} {rs : List (Addr × Rec)} (s : Same H G) (h : RowAt C H a rs) : RowAt C G a rs := ⟨s _ _ h.tp, fun q hq => ⟨(h.sh q hq).1.same s, (h.sh q hq).2⟩⟩
section
variable {P : Program} {w : World} {K : PySem.W.Frag} {mg : Str → Option Value} {base : Heap} {C : Addr}
/-! ### check_row, check_text -/
def spCheckRow (C : Addr) : Sp := fun vs H Q _ => ∃ (a : Addr) (rs : List (Addr × Rec)), vs = [.ref a] ∧ RowAt C H a rs ∧ 1 ≤ rs.length ∧ rs.length ≤ 4 ∧ ∀ G, Same H G → Q .non G
def spCheckText : Sp := fun vs H Q _ => ∃ (z : Str), vs = [.str z] ∧ isTxt z 200 = true ∧ ∀ G, Same H G → Q .non G
/-! ### shortened: of a text -/
def spShortS (C : Addr) : Sp := fun vs H Q _ => ∃ (x : Addr) (r : Rec) (z : Str), vs = [.ref x, .str z, .str r.z] ∧ ShAt C H x r ∧ r.fit ∧ z.length ≤ 1000 ∧ ∀ y : Str, y.cps.toList = r.cut z.cps.toList → Q (.str y) H
theorem cal_shortS (B : Bi mg) (S : ShC K mg C) (D : At K mg "shortened" s_shortened ps_shortened) : Cal P w K mg base 1 "shortened" ps_shortened (spShortS C) := by
  refine D.cal sc_shortened (fun vs H Q E h => ?_) (fun f cdv A outer s H vs Q E hr h => ?_)
  · obtain ⟨x, r, z, rfl, _⟩ := h
    rfl
  · obtain ⟨x, r, z, rfl, ⟨dx, b, hx, _⟩, fit, zl, k⟩ := h
    have ez : z.length = z.cps.toList.length := rfl
    have zs : z.length ≤ sizeLine := Nat.le_of_lt (small1000 zl)
    have f1 := fit.l
    have f2 := fit.h
    have f3 := fit.t
    have f4 := fit.zl
    refine ⟨_, (pss_cons (ps_if (pt_cmpR op_le (pe_callB call_len (by rfl) B.len (by decide +kernel) (pa_cons (pv 1) pa_nil)) (pe_fld (pv 0) rfl) (nomark _)) (pss_one (ps_ret (pv 1))) pss_nil)
      (pss_cons (ps_set (i := 3) sc_shortened.nd rfl (.inl rfl) (pe_callB (call_max2 rfl) (by rfl) B.max (by decide +kernel) (pa_cons pe_int (pa_cons (pe_op op_sub (pe_callB call_len (by rfl) B.len (by decide +kernel) (pa_cons (pv 1) pa_nil)) (pe_fld (pv 0) rfl)) pa_nil))))
      (pss_one (ps_ret (pe_op op_add_str (pe_op op_add_str (pe_slice sl_str (pv 1) po_none (po_some (pe_fld (pv 0) rfl))) (pv 2)) (pe_slice sl_str (pv 1) (po_some (pv 3)) po_none)))))), ?_⟩
    refine ⟨_, rfl, _, _, rfl, ⟨zs, rfl⟩, _, rfl, x, C, dx, _, _, rfl, hx, S.cl, S.nL, flds_limit _ _, _, _, rfl, rfl, _, rfl, ite2 (fun e => ?_) (fun e => ?_)⟩
    · have e1 := of_decide_eq_true e
      refine ⟨_, rfl, k z ?_⟩
      unfold Rec.cut cut
      rw [if_pos (by omega)]
    · have e1 : ¬ (z.length : Int) ≤ r.l := fun h => e (decide_eq_true h)
      refine ⟨_, rfl, _, _, rfl, ⟨zs, rfl⟩, _, rfl, x, C, dx, _, _, rfl, hx, S.cl, S.nT, flds_tail _ _, _, _, rfl, rfl, _, _, rfl, ?_⟩
      refine ⟨_, rfl, _, rfl, x, C, dx, _, _, rfl, hx, S.cl, S.nH, flds_head _ _, _, rfl, z, rfl, zs, _, rfl, _, _, rfl, rfl, ?_, _, rfl, _, rfl, _, rfl, z, rfl, zs, _, _, rfl, rfl, ?_, k _ ?_⟩
      · have a := cutS_length z none (some r.h)
        have b : r.z.length = r.z.cps.toList.length := rfl
        exact Nat.le_of_lt (Nat.lt_of_le_of_lt (show _ ≤ 2000 by omega) (by decide))
      · have a := cutS_length z none (some r.h)
        have b : r.z.length = r.z.cps.toList.length := rfl
        have c := cutS_length z (some (if (z.length : Int) - r.t > 0 then (z.length : Int) - r.t else 0)) none
        have d : (cutS z none (some r.h) ++ r.z).length = (cutS z none (some r.h)).length + r.z.length := by
          show (cutS z none (some r.h) ++ r.z).cps.toList.length = _
          rw [app_cps, List.length_append]
          rfl
        exact Nat.le_of_lt (Nat.lt_of_le_of_lt (show _ ≤ 4000 by omega) (by decide))
      · rw [app_cps, app_cps]
        have a : (cutS z none (some r.h)).cps.toList = z.cps.toList.take r.h.toNat := by
          show ((z.cps.toList.drop _).take _).toArray.toList = _
          rw [List.toList_toArray]
          exact cut_front z.cps.toList f2.1
        have c : (cutS z (some (if (z.length : Int) - r.t > 0 then (z.length : Int) - r.t else 0)) none).cps.toList = z.cps.toList.drop (z.cps.toList.length - r.t.toNat) := by
          show ((z.cps.toList.drop _).take _).toArray.toList = _
          rw [List.toList_toArray]
          have q := cut_back z.cps.toList (h := if (z.length : Int) - r.t > 0 then (z.length : Int) - r.t else 0) (by split <;> omega)
          have n : (if (z.length : Int) - r.t > 0 then (z.length : Int) - r.t else 0).toNat = z.cps.toList.length - r.t.toNat := by split <;> omega
          rw [n] at q
          exact q
        rw [a, c]
        unfold Rec.cut cut
        rw [if_neg (show ¬ z.cps.toList.length ≤ r.l.toNat by omega)]
/-! ### shown_by, show -/
theorem Rec.fit.cut_lenW {r : Rec} (f : r.fit) {xs : List Nat} (h : xs.length ≤ 600) : (r.cut xs).length ≤ 600 := by
  have a : (r.cut xs).length ≤ _ := cut_length
  have b := f.zl
  have c := f.h
  have d := f.t
  omega
def spShownBy (C : Addr) : Sp := fun vs H Q _ => ∃ (a : Addr) (rs : List (Addr × Rec)) (z : Str), vs = [.ref a, .str z] ∧ RowAt C H a rs ∧ z.cps.toList.length ≤ 600 ∧ ∀ (y : Str), y.cps.toList = cuts (rs.map (·.2)) z.cps.toList → Q (.str y) H
def spShow (C : Addr) : Sp := fun vs H Q _ => ∃ (a : Addr) (rs : List (Addr × Rec)) (z : Str), vs = [.ref a, .str z] ∧ RowAt C H a rs ∧ 1 ≤ rs.length ∧ rs.length ≤ 4 ∧ isTxt z 200 = true ∧ ∀ (y : Str) (G : Hp), Same H G → y.cps.toList = cuts (rs.map (·.2)) z.cps.toList → Q (.str y) G
end
end Gu
namespace Gu
open PySem PySem.Spec PyProof.Rows L2
/-! ### texts of single signs -/
def one (c : Nat) : Str := ⟨#[c]⟩
def ones (cs : List Nat) : List V := cs.map fun c => V.str (one c)
theorem join_ones : ∀ cs : List Nat, (Str.join ⟨#[]⟩ (cs.map one)).cps.toList = cs
  | [] => rfl
  | c :: r => by
    rw [List.map_cons, join_nil_cons, app_cps, join_ones r]
    rfl
theorem tjoin_ones (cs : List Nat) : (Txt.join "" (cs.map one)).cps.toList = cs := by
  have e : (("" : String) : Str) = ⟨#[]⟩ := by decide +kernel
  show (Builtin.Str.glued _ _).cps.toList = cs
  rw [e, StrLaws.glued_eq_join]
  exact join_ones cs
theorem ones_len (cs : List Nat) : ((cs.map one).map (·.length)).sum = cs.length := by
  induction cs with
  | nil => rfl
  | cons c r ih =>
    rw [List.map_cons, List.map_cons, List.sum_cons, ih]
    show 1 + r.length = r.length + 1
    omega
theorem ones_map (cs : List Nat) : ones cs = (cs.map one).map V.str := by
  unfold ones
  rw [List.map_map]
  rfl
def cutsV (rs : List Rec) (xs : List V) : List V := rs.foldl (fun acc r => cut r.l.toNat r.h.toNat r.t.toNat (ones r.z.cps.toList) acc) xs
theorem cut_map {α β : Type} (f : α → β) (l h t : Nat) (m xs : List α) : cut l h t (m.map f) (xs.map f) = (cut l h t m xs).map f := by
  unfold cut
  rw [List.length_map]
  split
  · rfl
  · rw [List.map_append, List.map_append, List.map_take, List.map_drop]
theorem cutsV_ones : ∀ (rs : List Rec) (cs : List Nat), cutsV rs (ones cs) = ones (cuts rs cs)
  | [], _ => rfl
  | r :: rs, cs => by
    show cutsV rs (cut r.l.toNat r.h.toNat r.t.toNat (ones r.z.cps.toList) (ones cs)) = ones (cuts rs (r.cut cs))
    unfold ones
    rw [cut_map]
    exact cutsV_ones rs (r.cut cs)
theorem cuts_len : ∀ (rs : List Rec) {xs : List Nat}, (∀ r ∈ rs, r.fit) → xs.length ≤ 200 → (cuts rs xs).length ≤ 200
  | [], _, _, h => h
  | r :: rs, xs, hf, h => cuts_len rs (xs := r.cut xs) (fun q hq => hf q (List.mem_cons_of_mem _ hq)) ((hf r (List.mem_cons_self ..)).cut_len h)
theorem ShAt.list {C : Addr} {H : Hp} {x M : Addr} {r : Rec} {acc ys : List V} (h : ShAt C H x r) (e : H M = some (.lst acc)) : ShAt C (upd H M (.lst ys)) x r := by
  obtain ⟨dx, b, h1, h2⟩ := h
  exact ⟨dx, b, by rw [upd_ne (ne_of h1 e (by intro z; cases z))]; exact h1, by rw [upd_ne (ne_of h2 e (by intro z; cases z))]; exact h2⟩
theorem ToldsAt.same {H G : Hp} {D : Addr} {ps : List (Addr × Rec)} (s : Same H G) (h : ToldsAt H D ps) : ToldsAt G D ps := ⟨s _ _ h.ls, fun q hq => ⟨s _ _ (h.tp q hq).1, (h.tp q hq).2⟩⟩
section
variable {P : Program} {w : World} {K : PySem.W.Frag} {mg : Str → Option Value} {base : Heap} {C : Addr}
/-! ### _law_made -/
def spMade (C : Addr) : Sp := fun vs H Q _ => ∃ (D : Addr) (ps : List (Addr × Rec)), vs = [.ref D] ∧ ToldsAt H D ps ∧ ps.length ≤ 4 ∧ ∀ (a : Addr) (G : Hp) (rs : List (Addr × Rec)), H a = none → RowAt C G a rs → rs.map (·.2) = ps.map (·.2) → Same H G → Q (.ref a) G
theorem cal_made (B : Bi mg) (D : At K mg "_law_made" s_law_made ps_law_made) (M_sh : Mak P w K mg base 3 "Shortener" C (spInit C)) : Cal P w K mg base 5 "_law_made" ps_law_made (spMade C) := by
  refine D.cal sc_law_made (fun vs H Q E h => ?_) (fun f cdv A outer s H vs Q E hr h => ?_)
  · obtain ⟨D, ps, rfl, _⟩ := h
    rfl
  · obtain ⟨D, ps, rfl, hT, l4, k⟩ := h
    refine ⟨_, (pss_one (ps_ret (pe_callTy call_tuple_of (by rfl) B.tuple (by decide +kernel) (pa_cons (pe_lc (g := gTup K 4 (gCons (gName 1) (gCons (gName 2) (gCons (gName 3) (gCons (gName 4) gNil))))) (own := [("_law_a", 1), ("_law_b", 2), ("_law_c", 3), ("_law_d", 4)]) (by rfl) sc_law_made.nd (pi_list (pv 0)) (blkOk_by (own := [("_law_a", 1), ("_law_b", 2), ("_law_c", 3), ("_law_d", 4)]) (N := ["_law_tolds_here", "_law_a", "_law_b", "_law_c", "_law_d"]) (sc := defScope s_law_made) (by decide +kernel)) (fun _ _ _ _ _ => (pg_tup rfl (pgs_cons (pg_name (i := 1) sc_law_made.nd rfl (.inl rfl)) (pgs_cons (pg_name (i := 2) sc_law_made.nd rfl (.inl rfl)) (pgs_cons (pg_name (i := 3) sc_law_made.nd rfl (.inl rfl)) (pgs_cons (pg_name (i := 4) sc_law_made.nd rfl (.inl rfl)) pgs_nil)))))) (fun _ _ _ _ _ => pts_nil) (fun _ _ _ _ _ => (pe_new M_sh hr (by decide) (by rfl) (pa_cons (pv 1) (pa_cons (pv 2) (pa_cons (pv 3) (pa_cons (pv 4) pa_nil))))))) pa_nil)))), ?_⟩
    refine ⟨_, rfl, D, rfl, ⟨_, .inl (.inl hT.ls)⟩, fun M nM => lc_list (K := K) (a := D) (xs := ps.map fun q => V.ref q.1) (fun i J => ∃ rs : List (Addr × Rec), rs.length = i ∧ J M = some (.lst (rs.map fun q => V.ref q.1)) ∧ (∀ q ∈ rs, ShAt C J q.1 q.2 ∧ q.2.fit) ∧ rs.map (·.2) = (ps.take i).map (·.2) ∧ Same H J)
      ⟨[], rfl, upd_same, (fun q hq => by cases hq), rfl, same_new nM⟩ (fun i J _ ⟨_, _, _, _, _, sJ⟩ => .inl (.inl (sJ _ _ hT.ls))) ?_ ?_⟩
    · rintro i v J hi ⟨rs, rfl, eM, hs, er, sJ⟩
      rw [List.getElem?_map] at hi
      cases hq : ps[rs.length]? with
      | none =>
        rw [hq] at hi
        cases hi
      | some q =>
        rw [hq] at hi
        cases hi
        have mq : q ∈ ps := List.mem_of_getElem? hq
        obtain ⟨tq, oq⟩ := hT.tp q mq
        have il : rs.length < ps.length := (List.getElem?_eq_some_iff.mp hq).1
        refine ⟨q.1, q.2.vs, rfl, .inl (.inl (sJ _ _ tq)), rfl, _, _, rfl, _, _, rfl, _, _, rfl, _, _, rfl, rfl, rfl, yes (iteT ?_)⟩
        refine ⟨_, rfl, _, rfl, _, rfl, _, rfl, fun x dx nx ndx nex => ⟨x, dx, q.2, rfl, upd_same, oq.fit, fun b G nb gx gb keep => ⟨rfl, ?_⟩⟩⟩
        have sG : Same J G := fun c o e => keep c o (by rw [upd_ne (ne_of_none e nx), upd_ne (ne_of_none e ndx)]; exact e) (ne_of_none e nx)
        have gM := sG _ _ eM
        refine ⟨_, gM, small1000 (by rw [List.length_map]; omega), rs ++ [(x, q.2)], by rw [List.length_append]; rfl, ?_, fun r hr => ?_, ?_, ?_⟩
        · rw [upd_same, List.map_append]
          rfl
        · rcases List.mem_append.mp hr with hr | hr
          · obtain ⟨h1, h2⟩ := hs r hr
            exact ⟨(h1.same sG).list gM, h2⟩
          · rw [List.mem_singleton.mp hr]
            exact ⟨ShAt.list ⟨dx, b, gx, gb⟩ gM, oq.fit⟩
        · rw [List.map_append, er, List.take_add_one, hq, List.map_append]
          rfl
        · intro c o e
          rw [upd_ne (ne_of_none e nM)]
          exact sG _ _ (sJ _ _ e)
    · rintro J ⟨rs, el, eM, hs, er, sJ⟩
      refine ⟨M, _, rfl, .inl ⟨.inl (.inl eM), fun a na => ?_⟩⟩
      rw [List.length_map, List.take_length] at er
      have s1 : Same J (upd J a (.tup (rs.map fun q => V.ref q.1))) := same_new na
      exact k a _ rs (sJ.free na) ⟨upd_same, fun q hq => ⟨(hs q hq).1.same s1, (hs q hq).2⟩⟩ er (sJ.trans s1)
/-! ### _law_cut -/
theorem neg_back {α : Type} (xs : List α) {h : Int} (h0 : 0 < h) : (xs.drop (HT.sIx xs.length 0 (some (-h)))).take (HT.sIx xs.length xs.length none - HT.sIx xs.length 0 (some (-h))) = xs.drop (xs.length - h.toNat) := by
  have e : HT.sIx xs.length 0 (some (-h)) = xs.length - h.toNat := by
    show (if -h < 0 then (-h + (xs.length : Int)).toNat else min (-h).toNat xs.length) = _
    rw [if_pos (by omega)]
    omega
  rw [e, HT.sIx_none, List.take_of_length_le (by rw [List.length_drop]; omega)]
theorem cutsV_snoc (ps : List (Addr × Rec)) {i : Nat} {q : Addr × Rec} (h : ps[i]? = some q) (xs : List V) :
    cutsV ((ps.take (i + 1)).map (·.2)) xs = cut q.2.l.toNat q.2.h.toNat q.2.t.toNat (ones q.2.z.cps.toList) (cutsV ((ps.take i).map (·.2)) xs) := by
  rw [List.take_add_one, h, List.map_append]
  unfold cutsV
  rw [List.foldl_append]
  rfl
def spCut : Sp := fun vs H Q _ => ∃ (D T : Addr) (ps : List (Addr × Rec)) (xs : List V), vs = [.ref D, .ref T] ∧ ToldsAt H D ps ∧ H T = some (.lst xs) ∧ xs.length ≤ 600 ∧ ∀ (U : Addr) (G : Hp), Same H G → G U = some (.lst (cutsV (ps.map (·.2)) xs)) → Q (.ref U) G
theorem cal_cut (B : Bi mg) (D : At K mg "_law_cut" s_law_cut ps_law_cut) : Cal P w K mg base 1 "_law_cut" ps_law_cut spCut := by
  refine D.cal sc_law_cut (fun vs H Q E h => ?_) (fun f cdv A outer s H vs Q E hr h => ?_)
  · obtain ⟨D, T, ps, xs, rfl, _⟩ := h
    rfl
  · obtain ⟨D, T, ps, xs, rfl, hT, hx, lx, k⟩ := h
    refine ⟨_, (pss_cons (ps_for PassesOwn.never rfl (pi_list (pv 0)) (pg_tup rfl (pgs_cons (pg_name (i := 2) sc_law_cut.nd rfl (.inl rfl)) (pgs_cons (pg_name (i := 3) sc_law_cut.nd rfl (.inl rfl)) (pgs_cons (pg_name (i := 4) sc_law_cut.nd rfl (.inl rfl)) (pgs_cons (pg_name (i := 5) sc_law_cut.nd rfl (.inl rfl)) pgs_nil)))))
      (pss_one (ps_if (pt_cmpR op_gt (pe_callB call_len (by rfl) B.len (by decide +kernel) (pa_cons (pv 1) pa_nil)) (pv 2) (nomark _)) (pss_cons (ps_par (i := 6) (j := 7) (by rfl) sc_law_cut.nd rfl rfl (by decide) rfl rfl (pa_cons (pe_slice sl_list (pv 1) po_none (po_some (pv 3))) (pa_cons (pe_mid (pe_ifExp (pt_cmpR op_gt (pv 4) pe_int (nomark _)) (pe_slice sl_list (pv 1) (po_some (pe_un un_neg (pv 4))) po_none) (pe_lst pa_nil))) pa_nil)) (by rfl))
      (pss_one (ps_set (i := 1) sc_law_cut.nd rfl (.inl rfl) (pe_op op_cat (pe_op op_cat (pv 6) (pe_lc (own := [("_law_each", 8)]) (by rfl) sc_law_cut.nd (pi_str (pv 5)) (blkOk_by (own := [("_law_each", 8)]) (N := ["_law_tolds_here", "_law_things", "_law_bound", "_law_low", "_law_high", "_law_sign", "_law_front", "_law_back", "_law_each"]) (sc := defScope s_law_cut) (by decide +kernel)) (fun _ _ _ _ _ => pg_name (i := 8) sc_law_cut.nd rfl (.inl rfl)) (fun _ _ _ _ _ => pts_nil) (fun _ _ _ _ _ => (pv 8)))) (pv 7))))) pss_nil)))
      (pss_one (ps_ret (pv 1)))), ?_⟩
    refine ⟨_, rfl, D, rfl, ⟨_, .inl (.inl hT.ls)⟩, for_list (K := K) (a := D) (xs := ps.map fun q => V.ref q.1) (fun i σ J => ∃ (U : Addr) (a b c d e f g : Option V), σ = [some (.ref D), some (.ref U), a, b, c, d, e, f, g] ∧ Same H J ∧ J U = some (.lst (cutsV ((ps.take i).map (·.2)) xs)) ∧ (cutsV ((ps.take i).map (·.2)) xs).length ≤ 600)
      ⟨T, none, none, none, none, none, none, none, rfl, Same.refl H, hx, lx⟩ (fun i σ J _ ⟨_, _, _, _, _, _, _, _, _, sJ, _⟩ => .inl (.inl (sJ _ _ hT.ls))) ?_ ?_⟩
    · rintro i v σ J hi ⟨U, a, b, c, d, e, f, g, rfl, sJ, eU, lU⟩
      rw [List.getElem?_map] at hi
      cases hq : ps[i]? with
      | none =>
        rw [hq] at hi
        cases hi
      | some q =>
        rw [hq] at hi
        cases hi
        obtain ⟨tq, oq⟩ := hT.tp q (List.mem_of_getElem? hq)
        have zl := oq.fit.zl
        have es := cutsV_snoc ps hq xs
        generalize hys : cutsV ((ps.take i).map (·.2)) xs = ys at eU lU es
        have o1 := oq.l0
        have o2 := oq.h0
        have o3 := oq.t0
        have o4 := oq.h1
        have o5 := oq.t1
        refine ⟨q.1, q.2.vs, rfl, .inl (.inl (sJ _ _ tq)), rfl, _, _, rfl, _, _, rfl, _, _, rfl, _, _, rfl, rfl, ?_⟩
        refine ⟨_, rfl, _, _, rfl, .inl ⟨_, .inl (.inl eU), rfl⟩, _, rfl, _, _, rfl, rfl, _, rfl, ite2 (fun e1 => ?_) (fun e1 => ?_)⟩
        · have e2 : q.2.l < (ys.length : Int) := of_decide_eq_true e1
          refine ⟨_, rfl, _, rfl, _, rfl, U, ys, rfl, .inl (.inl eU), fun F nF => ?_⟩
          have s1 : Same J (upd J F (.lst (cutV ys none (some q.2.h)))) := same_new nF
          refine ⟨fun v G => ∃ bk, v = .ref bk ∧ Same (upd J F (.lst (cutV ys none (some q.2.h)))) G ∧ G bk = some (.lst (ys.drop (ys.length - q.2.t.toNat))), ?_, ?_⟩
          · refine ⟨_, rfl, _, _, rfl, rfl, _, rfl, ite2 (fun e3 => ?_) (fun e3 => ?_)⟩
            · have e4 : 0 < q.2.t := of_decide_eq_true e3
              refine ⟨_, rfl, _, rfl, _, rfl, _, rfl, U, ys, rfl, .inl (.inl (s1 _ _ eU)), fun R nR => ⟨R, rfl, same_new nR, ?_⟩⟩
              rw [upd_same]
              exact congrArg (fun l => some (HO.lst l)) (neg_back ys e4)
            · have e4 : ¬ 0 < q.2.t := fun h => e3 (decide_eq_true h)
              have e5 : q.2.t.toNat = 0 := by omega
              refine ⟨Nat.zero_le _, fun R nR => ⟨R, rfl, same_new nR, ?_⟩⟩
              rw [upd_same, e5, Nat.sub_zero, List.drop_length]
          · rintro _ G ⟨bk, rfl, s2, eB⟩
            refine ⟨_, _, rfl, ?_⟩
            have eF : G F = some (.lst (ys.take q.2.h.toNat)) := by
              rw [s2 F _ upd_same]
              exact congrArg (fun l => some (HO.lst l)) (cut_front ys o2)
            refine ⟨_, rfl, _, rfl, q.2.z, rfl, fun M nM => lc_it walk_str (fun j G1 => Same G G1 ∧ G1 M = some (.lst (ones (q.2.z.cps.toList.take j)))) ⟨same_new nM, by rw [upd_same]; rfl⟩ (fun _ _ _ _ => trivial) ?_ ?_⟩
            · rintro j v G1 _ hj ⟨sG1, eM⟩ ⟨rfl, ch, hch, rfl⟩
              refine ⟨rfl, yes (iteT ⟨_, rfl, _, eM, small1000 ?_, ?_, ?_⟩)⟩
              · unfold ones
                rw [List.length_map, List.length_take]
                omega
              · intro c2 o e
                rw [upd_ne (ne_of_none e nM)]
                exact sG1 _ _ e
              · rw [upd_same]
                have hc' : q.2.z.cps.toList[j]? = some ch := by
                  rw [← Array.getElem?_toList] at hch
                  exact hch
                unfold ones
                rw [List.take_add_one, hc', List.map_append]
                rfl
            · rintro G1 ⟨sG1, eM⟩
              rw [List.take_of_length_le (show q.2.z.cps.toList.length ≤ q.2.z.cps.size from Nat.le_refl _)] at eM
              have le1 : (ones q.2.z.cps.toList).length ≤ 3 := by
                unfold ones
                rw [List.length_map]
                exact zl
              refine ⟨F, M, _, _, rfl, rfl, sG1 _ _ eF, eM, Nat.le_of_lt (small1000 (by rw [List.length_take]; omega)), fun R1 nR1 => ?_⟩
              have s3 : Same G1 (upd G1 R1 (.lst (ys.take q.2.h.toNat ++ ones q.2.z.cps.toList))) := same_new nR1
              refine ⟨_, rfl, R1, bk, _, _, rfl, rfl, upd_same, s3 _ _ (sG1 _ _ eB), Nat.le_of_lt (small1000 (by rw [List.length_append, List.length_take, List.length_drop]; omega)), fun R2 nR2 => ?_⟩
              refine ⟨R2, _, _, _, _, _, _, _, rfl, (sJ.trans s1).trans (s2.trans (sG1.trans (s3.trans (same_new nR2)))), ?_, ?_⟩
              · rw [upd_same, es]
                unfold cut
                rw [if_neg (show ¬ ys.length ≤ q.2.l.toNat by omega)]
              · rw [es]
                refine Nat.le_trans cut_length ?_
                omega
        · have e2 : ¬ q.2.l < (ys.length : Int) := fun h => e1 (decide_eq_true h)
          have e3 : cut q.2.l.toNat q.2.h.toNat q.2.t.toNat (ones q.2.z.cps.toList) ys = ys := by
            unfold cut
            rw [if_pos (by omega)]
          refine ⟨U, _, _, _, _, _, _, _, rfl, sJ, ?_, ?_⟩
          · rw [es, e3]
            exact eU
          · rw [es, e3]
            exact lU
    · rintro σ J ⟨U, a, b, c, d, e, f, g, rfl, sJ, eU, lU⟩
      rw [List.length_map, List.take_length] at eU
      exact ⟨_, rfl, k U J sJ eU⟩
end
end Gu
namespace Gu
open PySem PySem.Spec PyProof.Rows L2
/-! ### calls by keywords alone -/
structure CalK (P : Program) (w : World) (K : PySem.W.Frag) (mg : Str → Option Value) (base : Heap) (k : Nat) (x : Str) (ks : List Str) (gV : List V → List V) (sp : Sp) : Prop where
  ex : ∃ (f : Addr) (fd : FuncData) (ps : List Str) (g : List Value → List Value), FnOk P w K mg base CX0 k f fd ps sp ∧ mg x = some (.ref f) ∧ PySem.W.keepIn K (.ref f) = true ∧ KBn K fd ps 0 ks (fun _ ws => g ws) (fun _ zs => gV zs)
theorem Cal.kw {P : Program} {w : World} {K : PySem.W.Frag} {mg : Str → Option Value} {base : Heap} {k : Nat} {x : Str} {st : Stmt} {ps ks : List Str} {sp : Sp} (g : {α : Type} → List α → List α) (c : Cal P w K mg base k x ps sp) (D : At K mg x st ps)
    (hv : ∀ {zs : List V} {ws : List Value}, Vals zs ws → Vals (g zs) (g ws))
    (hb : ∀ (kV doc pm : Value) (an : Option Addr) (cdv ct : Value) (ws : List Value), ws.length = ks.length → bindArgs (PySem.W.fnOf x x (defArgs st) (defBody st) (defScope st) .none kV doc pm an cdv ct) ⟨[], ks.zip ws⟩ = pure (ps.zip (g ws))) : CalK P w K mg base k x ks g sp := by
  obtain ⟨f, fd, F, hm, kp, b, oc, od, sl, lk⟩ := c.ex
  obtain ⟨f2, fd2, F2, b2, hm2⟩ := D.ex
  cases hm.symm.trans hm2
  obtain ⟨oc2, od2, kV, doc, pm, an, cdv, ct, sl2, e, lk2, hcd⟩ := F2.ex
  cases lk.symm.trans lk2
  refine ⟨f, fd, ps, g, F, hm, kp, ⟨fun s us ws I l1 l2 => ?_, fun _ r => hv r⟩⟩
  cases us with
  | nil =>
    rw [e]
    exact BindsTo.of_eq (hb kV doc pm an cdv ct ws l2)
  | cons u r => cases l1
def tKw (m : Nat) (gV : List V → List V) (sp : Sp) (tk : TA) : TE := fun σ H Q => tk σ H fun zs G => zs.length = m ∧ sp (gV zs) G Q E0
section
variable {X : Cx} {k j : Nat} {x : Str} {ks : List Str} {gV : List V → List V} {sp : Sp} {p pos : Pos} {kws : List Keyword} {tk : TA}
theorem pe_kw (c : CalK X.prog X.w X.K X.mg X.base k x ks gV sp) (hr : Room j X.A) (hk : k ≤ j) (hg : Gl X x) (hkw : PK X kws tk) (hall : (backToKw pos (keywordEach kws X.env)).all (·.1.isSome) = true := by rfl)
    (hks : (backToKw pos (keywordEach kws X.env)).filterMap (·.1) = ks := by rfl) (hdb : (x == ("__debug__" : Str)) = false := by decide)
    (hpl : ((backTo pos (starEach [] X.env)).any (·.1) || (backToKw pos (keywordEach kws X.env)).any (·.1.isNone)) = false := by rfl) : PE X (.Call (.Name x p) [] kws pos) (tKw ks.length gV sp tk) := by
  obtain ⟨f, fd, ps, g, F, hm, kp, b⟩ := c.ex
  refine ⟨fun pins s σ H Q I h => ?_⟩
  refine wpAny_Call_Name_kw (ld_glob I hg hm ?_ hdb)
  refine PySem.W.callWith_KW0 (h₀ := X.base) I.ok.mod.kin kp hall ?_ hpl
  refine thn (hkw.run pos pins s σ H _ I h) fun ws s2 ⟨zs, G, I2, rz, l2, q2⟩ => ⟨I2.kIn, ?_⟩
  rw [hks]
  exact run_fnN (us := []) (vs := []) F (hr.mono hk) b pass0 I2 .nil rz rfl l2 q2
end
def swap2 {α : Type} : List α → List α
  | [a, b] => [b, a]
  | l => l
theorem swap2_vals {zs : List V} {ws : List Value} (r : Vals zs ws) : Vals (swap2 zs) (swap2 ws) := by
  cases r with
  | nil => exact .nil
  | cons a r =>
    cases r with
    | nil => exact .cons a .nil
    | cons b r =>
      cases r with
      | nil => exact .cons b (.cons a .nil)
      | cons c r => exact .cons a (.cons b (.cons c r))
theorem str_ext {a b : Str} (h : a.cps.toList = b.cps.toList) : a = b := by
  cases a
  cases b
  exact congrArg Str.mk (Array.ext' h)
end Gu
namespace Gu
open PySem PySem.Spec PyProof.Rows L2
section
variable {P : Program} {w : World} {K : PySem.W.Frag} {mg : Str → Option Value} {base : Heap} {C : Addr}
def spSeen : Sp := fun vs H Q _ => ∃ (D : Addr) (ps : List (Addr × Rec)) (z : Str), vs = [.ref D, .str z] ∧ ToldsAt H D ps ∧ z.cps.toList.length ≤ 200 ∧ ∀ (y : Str) (G : Hp), Same H G → y.cps.toList = cuts (ps.map (·.2)) z.cps.toList → Q (.str y) G
theorem cal_seen (B : Bi mg) (D : At K mg "_law_seen" s_law_seen ps_law_seen) (C_law_cut : Cal P w K mg base 1 "_law_cut" ps_law_cut spCut) : Cal P w K mg base 2 "_law_seen" ps_law_seen spSeen := by
  refine D.cal sc_law_seen (fun vs H Q E h => ?_) (fun f cdv A outer s H vs Q E hr h => ?_)
  · obtain ⟨D, ps, z, rfl, _⟩ := h
    rfl
  · obtain ⟨D, ps, z, rfl, hT, zl, k⟩ := h
    refine ⟨_, (pss_one (ps_ret (pe_join pe_str (pe_own C_law_cut hr (by decide) (by rfl) (pa_cons (pv 0) (pa_cons (pe_lc (own := [("_law_each", 2)]) (by rfl) sc_law_seen.nd (pi_str (pv 1)) (blkOk_by (own := [("_law_each", 2)]) (N := ["_law_tolds_here", "_law_line_here", "_law_each"]) (sc := defScope s_law_seen) (by decide +kernel)) (fun _ _ _ _ _ => pg_name (i := 2) sc_law_seen.nd rfl (.inl rfl)) (fun _ _ _ _ _ => pts_nil) (fun _ _ _ _ _ => (pv 2))) pa_nil)))))), ?_⟩
    refine ⟨⟨_, rfl⟩, _, rfl, _, rfl, z, rfl, fun M nM => lc_it walk_str (fun j G => Same H G ∧ G M = some (.lst (ones (z.cps.toList.take j)))) ⟨same_new nM, by rw [upd_same]; rfl⟩ (fun _ _ _ _ => trivial) ?_ ?_⟩
    · rintro j v G _ hj ⟨sG, eM⟩ ⟨rfl, ch, hch, rfl⟩
      refine ⟨rfl, yes (iteT ⟨_, rfl, _, eM, small1000 ?_, ?_, ?_⟩)⟩
      · unfold ones
        rw [List.length_map, List.length_take]
        omega
      · intro c2 o e
        rw [upd_ne (ne_of_none e nM)]
        exact sG _ _ e
      · rw [upd_same]
        have hc' : z.cps.toList[j]? = some ch := by
          rw [← Array.getElem?_toList] at hch
          exact hch
        unfold ones
        rw [List.take_add_one, hc', List.map_append]
        rfl
    · rintro G ⟨sG, eM⟩
      rw [List.take_of_length_le (show z.cps.toList.length ≤ z.cps.size from Nat.le_refl _)] at eM
      refine ⟨D, M, ps, _, rfl, hT.same sG, eM, ?_, fun U G2 s2 eU => ?_⟩
      · unfold ones
        rw [List.length_map]
        omega
      · rw [cutsV_ones, ones_map] at eU
        have lc := cuts_len (ps.map (·.2)) (xs := z.cps.toList) (fun r hr => by
          obtain ⟨q, hq, rfl⟩ := List.mem_map.mp hr
          exact (hT.tp q hq).2.fit) zl
        refine ⟨_, U, _, rfl, rfl, .inl (.inl (.inl eU)), ?_, k _ G2 (sG.trans s2) (tjoin_ones _)⟩
        rw [ones_len, List.length_map]
        have e0 : (("" : String) : Str).length = 0 := by decide +kernel
        rw [e0]
        omega
end
end Gu
namespace Gu
open PySem PySem.Spec PyProof.Rows L2
section
variable {P : Program} {w : World} {K : PySem.W.Frag} {mg : Str → Option Value} {base : Heap} {C : Addr}
def spLine : Sp := fun vs H Q _ => ∃ (p : Addr) (n : Int), vs = [.ref p, .int n] ∧ Pot H p ∧ 0 ≤ n ∧ n ≤ 200 ∧ ∀ (y : Str) (G : Hp), Ladled p H G → y.cps.toList.length = n.toNat → isTxt y 200 = true → Q (.str y) G
theorem cal_line (B : Bi mg) (D : At K mg "_law_line" s_law_line ps_law_line) (C_law_one_of : Cal P w K mg base 2 "_law_one_of" ps_law_one_of (spOneOf K)) : Cal P w K mg base 3 "_law_line" ps_law_line spLine := by
  refine D.cal sc_law_line (fun vs H Q E h => ?_) (fun f cdv A outer s H vs Q E hr h => ?_)
  · obtain ⟨p, n, rfl, _⟩ := h
    rfl
  · obtain ⟨p, n, rfl, hp, n0, n1, k⟩ := h
    refine ⟨_, (pss_cons (ps_set (i := 2) sc_law_line.nd rfl (.inr rfl) (pe_own C_law_one_of hr (by decide) (by rfl) (pa_cons (pv 0) (pa_cons (pe_lst (pa_cons pe_str (pa_cons pe_str (pa_cons pe_str pa_nil)))) pa_nil))))
      (pss_one (ps_ret (pe_join pe_str (pe_lc (own := [("_law_k", 3)]) (by rfl) sc_law_line.nd (pi_range1 (by rfl) B.range (pa_cons (pv 1) pa_nil)) (blkOk_by (own := [("_law_k", 3)]) (N := ["_law_pot_here", "_law_many", "_law_signs_here", "_law_k"]) (sc := defScope s_law_line) (by decide +kernel)) (fun _ _ _ _ _ => pg_name (i := 3) sc_law_line.nd rfl (.inl rfl)) (fun _ _ _ _ _ => pts_nil) (fun _ _ _ _ _ => (pe_own C_law_one_of hr (by decide) (by rfl) (pa_cons (pv 0) (pa_cons (pv 2) pa_nil))))))))), ?_⟩
    refine ⟨_, rfl, by show 3 ≤ sizeLine; decide, fun q0 m0 => ?_⟩
    have L0 : Ladled p H (upd H q0 (.lst [.str ".0", .str "ab~", .str ".0123456789abcdefghijklmnopqrstuvwxyz~"])) := .ofSame hp (same_new m0)
    refine ⟨p, L0.pot, .inl ⟨q0, _, rfl, .inl (.inl upd_same), hp.ne m0, by decide, by decide, fun v G1 hv L1 => ?_⟩⟩
    obtain ⟨g, rfl, g0, g1, gs⟩ : ∃ g : Str, v = .str g ∧ 0 < g.cps.toList.length ∧ g.cps.toList.length < 1000 ∧ ∀ c ∈ g.cps.toList, c ∈ signs.cps.toList := by
      have a : ∀ g ∈ ([".0", "ab~", ".0123456789abcdefghijklmnopqrstuvwxyz~"] : List Str), 0 < g.cps.toList.length ∧ g.cps.toList.length < 1000 ∧ ∀ c ∈ g.cps.toList, c ∈ signs.cps.toList := by decide +kernel
      have e : ([.str ".0", .str "ab~", .str ".0123456789abcdefghijklmnopqrstuvwxyz~"] : List V) = ([".0", "ab~", ".0123456789abcdefghijklmnopqrstuvwxyz~"] : List Str).map V.str := rfl
      rw [e] at hv
      obtain ⟨g, h1, h2⟩ := List.mem_map.mp hv
      exact ⟨g, h2.symm, a g h1⟩
    have M1 : Ladled p H G1 := L0.trans L1
    refine ⟨⟨_, rfl⟩, _, rfl, n, rfl, by omega, by omega, fun M nM => lc_range (lo := 0) (n := n.toNat) (fun i J => ∃ cs : List Nat, cs.length = i ∧ (∀ c ∈ cs, c ∈ signs.cps.toList) ∧ J M = some (.lst (ones cs)) ∧ Ladled p H J)
      ⟨[], rfl, (fun c hc => by cases hc), upd_same, M1.mut (M1.free nM) (M1.pot.ne nM)⟩ ?_ ?_⟩
    · rintro i J hi ⟨cs, rfl, hc, eM, L⟩
      have hM : H M = none := M1.free nM
      refine ⟨rfl, yes (iteT ⟨_, rfl, _, rfl, p, L.pot, .inr ⟨g, rfl, g0, g1, fun c G c1 L2 => ?_⟩⟩)⟩
      have gM := L2.keep _ _ eM (hp.ne hM)
      refine ⟨_, gM, small1000 (by unfold ones; rw [List.length_map]; omega), cs ++ [c], by rw [List.length_append]; rfl, fun d hd => ?_, ?_, (L.trans L2).mut hM (hp.ne hM)⟩
      · rcases List.mem_append.mp hd with hd | hd
        · exact hc d hd
        · rw [List.mem_singleton.mp hd]
          exact gs c c1
      · rw [upd_same]
        unfold ones
        rw [List.map_append]
        rfl
    · rintro J ⟨cs, el, hc, eM, L⟩
      rw [ones_map] at eM
      refine ⟨_, M, _, rfl, rfl, .inl (.inl (.inl eM)), ?_, k _ J L ?_ ?_⟩
      · rw [ones_len, List.length_map]
        have e0 : (("" : String) : Str).length = 0 := by decide +kernel
        rw [e0]
        omega
      · rw [tjoin_ones]
        exact el
      · unfold isTxt
        rw [tjoin_ones, Bool.and_eq_true, List.all_eq_true]
        refine ⟨decide_eq_true ?_, fun c h => decide_eq_true (hc c h)⟩
        show ((Txt.join "" (cs.map one)).cps.toList.length : Int) ≤ 200
        rw [tjoin_ones]
        omega
end
end Gu
namespace Gu
open PySem PySem.Spec PyProof.Rows L2
section
variable {P : Program} {w : World} {K : PySem.W.Frag} {mg : Str → Option Value} {base : Heap} {C : Addr}
theorem Ladled.row {C : Addr} {H G : Hp} {p a : Addr} {rs : List (Addr × Rec)} (L : Ladled p H G) (hp : Pot H p) (h : RowAt C H a rs) : RowAt C G a rs := by
  obtain ⟨x, y, z, e⟩ := hp
  refine ⟨L.keep _ _ h.tp (ne_of h.tp e (by intro z; cases z)), fun q hq => ⟨?_, (h.sh q hq).2⟩⟩
  obtain ⟨dx, b, h1, h2⟩ := (h.sh q hq).1
  exact ⟨dx, b, L.keep _ _ h1 (ne_of h1 e (by intro z; cases z)), L.keep _ _ h2 (ne_of h2 e (by intro z; cases z))⟩
theorem Ladled.tolds {H G : Hp} {p D : Addr} {ps : List (Addr × Rec)} (L : Ladled p H G) (n : D ≠ p) (nq : ∀ q ∈ ps, q.1 ≠ p) (h : ToldsAt H D ps) : ToldsAt G D ps := ⟨L.keep _ _ h.ls n, fun q hq => ⟨L.keep _ _ (h.tp q hq).1 (nq q hq), (h.tp q hq).2⟩⟩
/-! ### signs stay signs -/
def Signs (xs : List Nat) : Prop := ∀ c ∈ xs, c ∈ signs.cps.toList
theorem isTxt_signs {z : Str} {m : Int} (h : isTxt z m = true) : Signs z.cps.toList := by
  unfold isTxt at h
  rw [Bool.and_eq_true, List.all_eq_true] at h
  exact fun c hc => of_decide_eq_true (h.2 c hc)
theorem cut_signs {l h t : Nat} {m xs : List Nat} (hm : Signs m) (hx : Signs xs) : Signs (cut l h t m xs) := by
  unfold cut
  split
  · exact hx
  · intro c hc
    rcases List.mem_append.mp hc with hc | hc
    · rcases List.mem_append.mp hc with hc | hc
      · exact hx c (List.mem_of_mem_take hc)
      · exact hm c hc
    · exact hx c (List.mem_of_mem_drop hc)
theorem cuts_signs : ∀ (rs : List Rec) {xs : List Nat}, (∀ r ∈ rs, r.fit) → Signs xs → Signs (cuts rs xs)
  | [], _, _, h => h
  | r :: rs, xs, hf, h => cuts_signs rs (xs := r.cut xs) (fun q hq => hf q (List.mem_cons_of_mem _ hq)) (cut_signs (isTxt_signs (hf r (List.mem_cons_self ..)).z) h)
theorem signs_ok {y : Str} (h : Signs y.cps.toList) : (PyData.str y).canLay0 = true := by
  have a : ∀ c ∈ signs.cps.toList, c < 0x110000 := by decide +kernel
  show y.cps.all _ = true
  rw [← Array.all_toList, List.all_eq_true]
  exact fun c hc => decide_eq_true (a c (h c hc))
theorem shaped_two {y z : Str} (hy : Signs y.cps.toList) (hz : Signs z.cps.toList) : SeqAt.shaped (.list [.str y, .str z]) = true := by
  have a := signs_ok hy
  have b := signs_ok hz
  show ((PyData.str y).canLay0 && ((PyData.str z).canLay0 && true) && true) = true
  rw [a, b]
  rfl
end
end Gu
namespace Gu
open PySem PySem.Spec PyProof.Rows L2
/-! ### defs that are called where no container is being written out -/
structure FnG (P : Program) (w : World) (K : PySem.W.Frag) (mg : Str → Option Value) (base : Heap) (k : Nat) (f : Addr) (fd : FuncData) (ps : List Str) (sp : Sp) : Prop where
  len : ∀ vs H Q E, sp vs H Q E → vs.length = ps.length
  run : ∀ (A : Around) (outer : List Env) (s : Shared) (H : Hp) (args : Args) (us : List Value) (vs : List V) (Q : VK) (E : XK), Room k A → A.guards = some [] → Env0 P w K mg base A outer s H → BindsTo s fd args (ps.zip us) → Vals vs us → sp vs H Q E →
    codeAny (model P w) A (.call (.ref f) args) (CR CX0 outer P w H s Q E) s
section
variable {P : Program} {w : World} {K : PySem.W.Frag} {mg : Str → Option Value} {base : Heap}
theorem okG {x qual : Str} {st : Stmt} {f : Addr} {fd : FuncData} {N ps : List Str} {k : Nat} {sp : Sp} (F : Fun K x qual st f fd) (S : FnScope N ps (defScope st)) (len : ∀ vs H Q E, sp vs H Q E → vs.length = ps.length)
    (body : ∀ (cdv : Value) (A : Around) (outer : List Env) (s : Shared) (H : Hp) (vs : List V) (Q : VK) (E : XK), Room k (A.deeper (envOfC qual (defScope st) s.heap.objs.size f cdv)) → A.guards = some [] → sp vs H Q E →
      ∃ t, PSs (cxOf CX0 P w K mg base N qual (defScope st) f cdv A outer s H E).nox (defBody st) t ∧ t { nx := fun _ G => Q .non G, rt := Q } (start N vs) H) : FnG P w K mg base (k + 1) f fd ps sp := by
  obtain ⟨oc, od, kV, doc, pm, an, cdv, ct, osl, rfl, lk, hcd⟩ := F.ex
  refine ⟨len, fun A outer s H args us vs Q E room quiet env binds rel want => ?_⟩
  have stays : ∀ b o, base.get? b = some o → s.heap.get? b = some o := fun b o e => (env.bs b o e).1
  have inK : K.In s.heap := env.mod.kin.keeps stays
  have free : s.heap.NoLimit := env.mod.nolimit.keeps stays
  refine codeAny_call_function room.depth (inK _ _ lk) rfl S.co S.gen rfl (PySem.W.codeRec_of inK hcd) (binds _ _ _ _ ?_)
  refine wpAny_newFunctionEnv_cells S.kind (fun ⟨n, v⟩ hy => (S.par n (List.of_mem_zip hy).1).imp id fun q => ⟨q, PySem.W.cellsFrom_some _ _ _ (.inl q)⟩) fun env1 e1 s1 c1 => ?_
  subst e1
  refine ⟨free.keeps c1.toInCall.keep, codeAny_func ?_⟩
  obtain ⟨t, d, q⟩ := body cdv A outer s H vs Q E (room.deeper _) quiet want
  refine wpAny_mono (d.nox.run [] s1 (start N vs) H _ (inv_start S room.hd env (len _ _ _ _ want) rel c1) q) (fun fl s2 h2 => ?_) fun e s2 h2 => h2
  cases fl with
  | ret u =>
    obtain ⟨v, σ2, G, J, rv, r⟩ := h2
    exact ⟨v, G, J.os, J.bare, J.base, J.hok, rv, r⟩
  | next =>
    obtain ⟨σ2, G, J, r⟩ := h2
    exact ⟨V.non, G, J.os, J.bare, J.base, J.hok, rfl, r⟩
  | brk => exact (h2.choose_spec.choose_spec.2 : False).elim
  | cont => exact (h2.choose_spec.choose_spec.2 : False).elim
structure CalG (P : Program) (w : World) (K : PySem.W.Frag) (mg : Str → Option Value) (base : Heap) (k : Nat) (x : Str) (ps : List Str) (sp : Sp) : Prop where
  ex : ∃ (f : Addr) (fd : FuncData), FnG P w K mg base k f fd ps sp ∧ mg x = some (.ref f) ∧ PySem.W.keepIn K (.ref f) = true ∧ Binds K fd ps []
theorem At.calG {x : Str} {st : Stmt} {N ps : List Str} {k : Nat} {sp : Sp} (D : At K mg x st ps) (S : FnScope N ps (defScope st)) (len : ∀ vs H Q E, sp vs H Q E → vs.length = ps.length)
    (body : ∀ (f : Addr) (cdv : Value) (A : Around) (outer : List Env) (s : Shared) (H : Hp) (vs : List V) (Q : VK) (E : XK), Room k (A.deeper (envOfC x (defScope st) s.heap.objs.size f cdv)) → A.guards = some [] → sp vs H Q E →
      ∃ t, PSs (cxOf CX0 P w K mg base N x (defScope st) f cdv A outer s H E).nox (defBody st) t ∧ t { nx := fun _ G => Q .non G, rt := Q } (start N vs) H) : CalG P w K mg base (k + 1) x ps sp := by
  obtain ⟨f, fd, F, b, g⟩ := D.ex
  exact ⟨f, fd, okG F S len (body f), g, F.kp, b⟩
end
def tCallG (sp : Sp) (t : TA) : TE := fun σ H Q => t σ H fun vs G => sp vs G Q E0
section
variable {X : Cx} {k j : Nat} {x : Str} {ps : List Str} {sp : Sp} {p pos : Pos} {e : Expr} {es : List Expr} {t : TA}
theorem pe_ownG (c : CalG X.prog X.w X.K X.mg X.base k x ps sp) (hr : Room j X.A) (hk : k ≤ j) (quiet : X.A.guards = some []) (hg : Gl X x) (ha : PA X (e :: es) t)
    (hdb : (x == ("__debug__" : Str)) = false := by decide) (he : starEach (e :: es) X.env = (false, eval e X.env) :: starEach es X.env := by rfl) (hpl : (backTo pos (starEach es X.env)).any (·.1) = false := by rfl) :
    PE X (.Call (.Name x p) (e :: es) [] pos) (tCallG sp t) := by
  obtain ⟨f, fd, F, hm, kp, b⟩ := c.ex
  refine ⟨fun pins s σ H Q I h => wpAny_Call_Name_kw (ld_glob I hg hm (PySem.W.callWith_K (h₀ := X.base) I.ok.mod.kin kp (thn (ha.run pos pins s σ H _ I h) fun us s1 ⟨vs, G, I1, r, q⟩ => ⟨I1.kIn, ?_⟩) he hpl) hdb)⟩
  have ll : (us ++ []).length = ps.length := by
    rw [List.append_nil, ← r.length]
    exact F.len _ _ _ _ q
  have bt := b s1 us I1.kIn ll
  rw [List.append_nil] at bt
  refine wpAny_call (codeAny_mono (F.run X.A X.stack s1 G ⟨us, []⟩ us vs Q E0 (hr.mono hk) quiet I1.env0 bt r q) fun rr s2 h2 => ?_)
  cases rr with
  | error e => exact (h2 : False).elim
  | ok fl =>
    cases fl with
    | ret u => exact I1.after h2
    | next => exact (h2 : False).elim
    | brk => exact (h2 : False).elim
    | cont => exact (h2 : False).elim
end
end Gu
namespace Gu
open PySem PySem.Spec PyProof.Rows L2
/-- a heap in which nothing is tracked but, at most, the script at a, which stands still there -/
theorem quiet_end {P : Program} {w : World} {K : PySem.W.Frag} {mg mb : Str → Option Value} {k : Nat} {fa a : Addr} {fd : FuncData} {x : Str} {sp : Sp} {s : Shared} {us : List Value} {H : Hp} (inK : K.In s.heap) (nsG : s.heap.Ns mainGlobals mg) (nsB : s.heap.Ns builtinsNs mb)
    (bb : ∀ x : Str, x ≠ "__name__" → mb x = bootBuiltins x) (nl : s.heap.NoLimit) (ng : s.gens = #[]) (at_a : s.heap.get? a = some { cls := .type "list", data := .seq us.toArray }) (room : Room k callerA)
    (F : ∀ base : Heap, K.In base → base.Ns mainGlobals mg → FnG P w K mg base k fa fd [x] sp) (bind : ∀ (s : Shared) (u : Value), BindsTo s fd ⟨[u], []⟩ [(x, u)]) (want : sp [.ref a] H (fun v _ => v = .bl true) fun _ _ _ => False)
    (only : Only H) (ok : HOk P w H s.heap) (one : ∀ b, H b ≠ none → b = a ∧ K.lookup a = none) :
    codeAny (model P w) callerA (.call (.ref fa) ⟨[.ref a], []⟩) (fun r s2 => r = .ok (.ret (.bool true)) ∧ OldK s.heap s2.heap ∧ s2.os = s.os ∧ AllBare s2.gens) s := by
  have dictFree : ∀ (b : Addr) (o : Obj) (es : Array DictEntry) (ep : Nat), s.heap.get? b = some o → o.data = .dict es ep → H b = none := fun b o es ep e d =>
    Classical.byContradiction fun z => by
      have hb := (one b z).1
      rw [hb, at_a] at e
      cases e
      exact Data.noConfusion d
  have hiddenNs : ∀ (b : Addr) (m : Str → Option Value), s.heap.Ns b m → (hidT s.heap H).Ns b m := fun b m h => by
    obtain ⟨o, es, ep, e, d, r⟩ := h
    exact ⟨o, es, ep, hidT_get e (dictFree b o es ep e d), d, r⟩
  have hiddenK : K.In (hidT s.heap H) := fun b o e => hidT_get (inK b o e) (Classical.byContradiction fun z => by
    obtain ⟨h1, h2⟩ := one b z
    rw [h1, h2] at e
    cases e)
  have env : Env0 P w K mg (hidT s.heap H) callerA [] s H := by
    refine ⟨rfl, ⟨hiddenK, hiddenNs _ _ nsG, ⟨mb, hiddenNs _ _ nsB, bb⟩, ?_⟩, fun b o e => of_hidT e, Nat.le_of_eq (hidT_size _ _), trivial, fun b hb => absurd (show b ∈ ([] : List Addr) from hb) List.not_mem_nil, ok, .of_eq ng⟩
    obtain ⟨mc, h1, h2⟩ := nl
    exact ⟨mc, hiddenNs _ _ h1, h2⟩
  refine codeAny_mono ((F _ hiddenK (hiddenNs _ _ nsG)).run callerA [] s H ⟨[.ref a], []⟩ [.ref a] [.ref a] _ _ room rfl env (bind s (.ref a)) (.cons rfl .nil) want) fun r s2 h2 => ?_
  cases r with
  | error e => exact (h2 : False).elim
  | ok fl =>
    cases fl with
    | next => exact (h2 : False).elim
    | brk => exact (h2 : False).elim
    | cont => exact (h2 : False).elim
    | ret u =>
      obtain ⟨v, G, os, bare, un, ok2, rv, hv⟩ := h2
      cases (show v = .bl true from hv)
      cases (show u = Value.bool true from rv)
      refine ⟨rfl, OldK.of_keep fun b o e => ?_, os, bare⟩
      rcases only b with z | ⟨ob, xs, z⟩
      · exact un.keep b o e z (fun y => absurd (show b ∈ ([] : List Addr) from y) List.not_mem_nil) (by simp)
      · have e1 := (ok b _ z).1
        have e2 := (ok2 b _ (un.frzs b ob _ z)).1
        rw [e] at e1
        cases e1
        exact e2
/-- the law's call, by its promise -/
theorem quiet_call {P : Program} {w : World} {K : PySem.W.Frag} {mg mb : Str → Option Value} {k : Nat} {fa a : Addr} {fd : FuncData} {x : Str} {sp : Sp} {s : Shared} {us : List Value} {ns : List Int} (inK : K.In s.heap) (nsG : s.heap.Ns mainGlobals mg) (nsB : s.heap.Ns builtinsNs mb)
    (bb : ∀ x : Str, x ≠ "__name__" → mb x = bootBuiltins x) (nl : s.heap.NoLimit) (ng : s.gens = #[]) (at_a : s.heap.get? a = some { cls := .type "list", data := .seq us.toArray }) (nums : IntsAre us ns) (small : ns.length ≤ sizeLine) (room : Room k callerA)
    (F : ∀ base : Heap, K.In base → base.Ns mainGlobals mg → FnG P w K mg base k fa fd [x] sp) (bind : ∀ (s : Shared) (u : Value), BindsTo s fd ⟨[u], []⟩ [(x, u)])
    (want : ∀ H : Hp, SqL K H a (ns.map V.int) → sp [.ref a] H (fun v _ => v = .bl true) fun _ _ _ => False) :
    codeAny (model P w) callerA (.call (.ref fa) ⟨[.ref a], []⟩) (fun r s2 => r = .ok (.ret (.bool true)) ∧ OldK s.heap s2.heap ∧ s2.os = s.os ∧ AllBare s2.gens) s := by
  have rel := vals_ints nums
  cases hk : K.lookup a with
  | some o =>
    have e := inK a o hk
    rw [at_a] at e
    cases e
    refine quiet_end (H := fun _ => none) inK nsG nsB bb nl ng at_a room F bind (want _ (.inr ⟨_, us.toArray, _, hk, rfl, rfl, rfl, ?_, rel⟩)) (fun _ => .inl rfl) (fun b u z => nomatch (show (none : Option HO) = some u from z)) fun b z => absurd rfl z
    rw [List.size_toArray, nums.length]
    exact small
  | none =>
    refine quiet_end (H := upd (fun _ => none) a (.frz { cls := .type "list", data := .seq us.toArray } (.lst (ns.map V.int)))) inK nsG nsB bb nl ng at_a room F bind (want _ (.inl (.inr ⟨_, upd_same⟩))) (fun b => ?_) (fun b u z => ?_) fun b z => ?_
    · by_cases hb : b = a
      · exact .inr ⟨_, _, by rw [hb]; exact upd_same⟩
      · exact .inl (upd_ne hb)
    · by_cases hb : b = a
      · subst hb
        rw [upd_same] at z
        cases z
        exact ⟨at_a, by rw [List.length_map]; exact small, us, _, rel, at_a⟩
      · rw [upd_ne hb] at z
        cases z
    · by_cases hb : b = a
      · exact ⟨hb, hk⟩
      · exact absurd (upd_ne hb) z
theorem walkG {l : PySem.W.OpenLaw} {n k : Nat} {q : Program} {loose : List Str} {XP : (Str → Option Value) → Heap → Prop} {YP : World → Heap → Prop} {d : DefRec} {K : Params → PySem.W.Frag} {x : Str} {sp : PySem.W.Frag → Sp} (most : l.most = some n) (small : n ≤ sizeLine) (plain : d.params.defaults = []) (room : Room k callerA)
    (left : ∀ (w : World) (h : Heap), YP w h → (K w.params).In h)
    (F : ∀ (w : World) (mg : Str → Option Value) (fa : Addr) (h : Heap), (K w.params).In h → h.Ns mainGlobals mg → mg d.name = some (.ref fa) → ∃ fd : FuncData, (∀ (s : Shared) (u : Value), BindsTo s fd ⟨[u], []⟩ [(x, u)]) ∧
      ∀ base : Heap, (K w.params).In base → base.Ns mainGlobals mg → FnG l.prog w (K w.params) mg base k fa fd [x] (sp (K w.params)))
    (want : ∀ (w : World) (H : Hp) (a : Addr) (ns : List Int), ns.length ≤ n → SqL (K w.params) H a (ns.map V.int) → sp (K w.params) [.ref a] H (fun v _ => v = .bl true) fun _ _ _ => False) :
    PySem.W.WalkO q loose XP YP l.row.toRowW d [] (fun f vs => PySem.call f vs) := by
  refine Att.attach_call most plain fun w s0 s mg mb fa o pm cd doc a us ns G Y ho hd hcd hmg at_a nums le ng => ?_
  obtain ⟨fd, bind, fn⟩ := F w mg fa _ (left w _ Y) G.T.g hmg
  exact quiet_call (left w _ Y) G.T.g G.T.b G.T.builtins G.T.nolimit ng at_a nums (Nat.le_trans le small) room fn bind fun H hS => want w H a ns le hS
end Gu
namespace Gu
open PySem PySem.Spec PyProof.Rows L2
/-! ### what can be written out -/
structure Fine (n W : Nat) (d : PyData) : Prop where
  nd : d.hasDict = false
  sh : d.showable = true
  ls : d.leavesShort 80 = true
  dp : d.depth ≤ n
  wt : d.weight ≤ W
structure FineAll (n W : Nat) (ds : List PyData) : Prop where
  nd : PyData.hasDictAll ds = false
  sh : PyData.showableAll ds = true
  ls : PyData.leavesShortAll 80 ds = true
  dp : PyData.depthAll ds ≤ n
  wt : PyData.weightAll ds ≤ ds.length * (W + 1)
theorem FineAll.of {n W : Nat} : ∀ {ds : List PyData}, (∀ d ∈ ds, Fine n W d) → FineAll n W ds
  | [], _ => ⟨rfl, rfl, rfl, Nat.zero_le _, Nat.zero_le _⟩
  | d :: ds, h => by
    have a := h d (List.mem_cons_self ..)
    have b := FineAll.of (ds := ds) fun e he => h e (List.mem_cons_of_mem _ he)
    refine ⟨?_, ?_, ?_, Nat.max_le.mpr ⟨a.dp, b.dp⟩, ?_⟩
    · show (d.hasDict || PyData.hasDictAll ds) = false
      rw [a.nd, b.nd]
      rfl
    · show (d.showable && PyData.showableAll ds) = true
      rw [a.sh, b.sh]
      rfl
    · show (d.leavesShort 80 && PyData.leavesShortAll 80 ds) = true
      rw [a.ls, b.ls]
      rfl
    · show d.weight + 1 + PyData.weightAll ds ≤ (ds.length + 1) * (W + 1)
      have := a.wt
      have := b.wt
      rw [Nat.succ_mul]
      omega
theorem FineAll.list {n W : Nat} {ds : List PyData} (a : FineAll n W ds) : Fine (n + 1) (ds.length * (W + 1)) (.list ds) := ⟨a.nd, a.sh, a.ls, Nat.succ_le_succ a.dp, a.wt⟩
theorem FineAll.tup {n W : Nat} {ds : List PyData} (a : FineAll n W ds) : Fine (n + 1) (ds.length * (W + 1)) (.tuple ds) := ⟨a.nd, a.sh, a.ls, Nat.succ_le_succ a.dp, a.wt⟩
theorem Fine.mono {n m W Z : Nat} {d : PyData} (h : Fine n W d) (a : n ≤ m) (b : W ≤ Z) : Fine m Z d := ⟨h.nd, h.sh, h.ls, Nat.le_trans h.dp a, Nat.le_trans h.wt b⟩
theorem Fine.bool (b : Bool) : Fine 0 0 (.bool b) := ⟨rfl, rfl, rfl, Nat.le_refl _, Nat.le_refl _⟩
theorem Fine.none : Fine 0 0 .none := ⟨rfl, rfl, rfl, Nat.le_refl _, Nat.le_refl _⟩
theorem Fine.int {i : Int} (h : i.natAbs < 2 ^ 70) : Fine 0 70 (.int i) := by
  have l : i.natAbs.log2 < 70 := PySem.Flt.log2_lt_of (by decide) h
  refine ⟨rfl, decide_eq_true (by omega), decide_eq_true ?_, Nat.le_refl _, ?_⟩
  · have e := int_text_length_le (a := i) (k := 70) (by decide) l
    show (Str.ofString (toString i)).length ≤ 80
    rw [PySem.ofString_length]
    omega
  · show (if i == 0 then 0 else i.natAbs.log2 + 1) ≤ 70
    split <;> omega
theorem Fine.str {z : Str} {W : Nat} (h : ∀ c ∈ z.cps.toList, c < 16 ^ 8) (w : z.cps.toList.length ≤ W) : Fine 0 W (.str z) := by
  refine ⟨rfl, rfl, ?_, Nat.le_refl _, w⟩
  show (z.cps.toList.all fun c => decide (c < 16 ^ 8)) = true
  rw [List.all_eq_true]
  exact fun c hc => decide_eq_true (h c hc)
theorem Fine.fits {d : PyData} (h : Fine 60 100000 d) : d.shown.length ≤ sizeLine := by
  have a := PyData.shown_le 80 (by decide) d h.ls
  have b := h.wt
  have c : (80 + 2) * d.weight ≤ 82 * 100000 := Nat.mul_le_mul_left _ b
  have e : sizeLine = 16777216 := by decide
  omega
section
variable {X : Cx}
/-- repr of a list or tuple, where none is being written out -/
theorem call_reprD (quiet : X.A.guards = some []) (hu : X.A.units + 64 < cLine) : CallR X (.builtin "repr") (fun xs H Q => ∃ (a : Addr) (d : PyData), xs = [.ref a] ∧ Dp X.K H (.ref a) d ∧ Fine 60 100000 d ∧ Q (.str d.shown) H) := by
  intro pins s σ H xs us Q I r h
  obtain ⟨a, d, rfl, hd, fine, q⟩ := h
  cases r with
  | cons r rr =>
    cases rr
    cases (show _ = Value.ref a from r)
    obtain ⟨as, rd⟩ := Dp.reads I d (.ref a) (.ref a) hd rfl
    have dp := fine.dp
    exact repr_of_reads' rd fine.sh (PyData.noDict_hsm fine.nd) quiet (by omega) (fun _ _ e => e) (fun g u tk keep => ⟨.str d.shown, H, I.kept (t' := tk) keep, ⟨_, rfl⟩, q⟩) fine.fits
end
end Gu
namespace Gu
open PySem PySem.Spec PyProof.Rows L2
/-! ### tuples: cut, joined, made of a text -/
section
variable {K : PySem.W.Frag} {H : Hp} {a b : Addr} {xs ys : List V} {Q : VK}
theorem cat_ok (ha : H a = some (.tup xs)) (hb : H b = some (.tup ys)) (hl : xs.length + ys.length ≤ sizeLine) (q : ∀ U G, Same H G → G U = some (.tup (xs ++ ys)) → Q (.ref U) G) : rCatA K (.ref a) (.ref b) H Q := by
  refine ⟨a, b, xs, ys, rfl, rfl, .inl (.inl ha), .inl (.inl hb), hl, fun e => q b H (Same.refl H) ?_, fun _ e => q a H (Same.refl H) ?_, fun _ _ p np => q p _ (same_new np) upd_same⟩
  · rw [e]
    exact hb
  · rw [e, List.append_nil]
    exact ha
theorem sl_ok {lo hi : Option Int} (ha : H a = some (.tup xs)) (q : ∀ U G, Same H G → G U = some (.tup (cutV xs lo hi)) → Q (.ref U) G) : rSlA K (.ref a) lo hi H Q := by
  refine ⟨a, xs, rfl, .inl (.inl ha), fun ⟨e1, e2⟩ => q a H (Same.refl H) ?_, fun _ p np => q p _ (same_new np) upd_same⟩
  unfold cutV
  rw [e1, e2, List.drop_zero, Nat.sub_zero, List.take_length]
  exact ha
end
theorem noPart {σ : L2.St} {H : Hp} {Q : Option Int → Hp → Prop} (h : Q none H) : tNoPart σ H Q := h
theorem call_tupS {X : Cx} (hc : X.calm = true) : CallR X (.type "tuple") (fun vs H Q => ∃ z : Str, vs = [.str z] ∧ z.cps.toList.length ≤ 1000 ∧ ∀ q, H q = none → Q (.ref q) (upd H q (.tup (ones z.cps.toList)))) := by
  intro pins s σ H vs us Q I r h
  obtain ⟨z, rfl, hz, q⟩ := h
  cases r with
  | cons r rr =>
    cases rr
    obtain ⟨t, rfl⟩ := r
    have zs : z.cps.size ≤ sizeLine := Nat.le_of_lt (small1000 hz)
    refine call_tuple_str (I.ok.hd hc) z t (fun g tk acc keep its => ?_) zs
    have I2 : Inv X pins σ H { s with heap := g, toks := tk } := I.kept keep
    have rel : Vals (ones z.cps.toList) acc.toList := by
      have el : acc.toList.length = z.cps.toList.length := its.1
      have e : ones z.cps.toList = (List.range acc.toList.length).map fun j => V.str (one (z.cps.toList.getD j 0)) := by
        unfold ones
        rw [el]
        refine List.ext_getElem? fun j => ?_
        rw [List.getElem?_map, List.getElem?_map]
        by_cases hj : j < z.cps.toList.length
        · rw [List.getElem?_eq_getElem hj, List.getElem?_range hj]
          show some (V.str (one z.cps.toList[j])) = some (V.str (one (z.cps.toList.getD j 0)))
          rw [List.getD_eq_getElem?_getD, List.getElem?_eq_getElem hj]
          rfl
        · rw [List.getElem?_eq_none (by omega), List.getElem?_eq_none (by rw [List.length_range]; omega)]
          rfl
      rw [e]
      refine vals_of_get acc.toList _ fun j u hj => ?_
      obtain ⟨c, tt, hc1, rfl⟩ := its.2 j u (by rw [← hj, Array.getElem?_toList])
      refine ⟨tt, ?_⟩
      rw [List.getD_eq_getElem?_getD, Array.getElem?_toList, hc1]
      rfl
    refine ⟨.ref g.objs.size, upd H g.objs.size (.tup (ones z.cps.toList)), I2.laid (t' := tk) (fun c o e => Heap.get?_push_of_some _ e) (Nat.le_refl _) (show ObjOk X.prog X.w _ _ _ (.tup (ones z.cps.toList)) from ⟨?_, acc.toList, rel, ?_⟩), rfl, q _ (I2.hok.fresh (Nat.le_refl _))⟩
    · unfold ones
      rw [List.length_map]
      exact zs
    · rw [Array.toArray_toList]
      exact IsTup.new _ _
def rLenK (K : PySem.W.Frag) : List V → Hp → VK → Prop := fun xs H Q => ∃ (x : V) (n : Nat), xs = [x] ∧ LenV K x H n ∧ Q (.int n) H
/-! ### lengths of what is cut -/
def Rec.len (r : Rec) (n : Nat) : Nat := if n ≤ r.l.toNat then n else min r.h.toNat n + r.z.cps.toList.length + min r.t.toNat n
def lens (rs : List Rec) (n : Nat) : Nat := rs.foldl (fun n r => r.len n) n
theorem cut_len (r : Rec) (xs : List V) : (cut r.l.toNat r.h.toNat r.t.toNat (ones r.z.cps.toList) xs).length = r.len xs.length := by
  unfold cut Rec.len
  split
  · rfl
  · rw [List.length_append, List.length_append, List.length_take, List.length_drop]
    unfold ones
    rw [List.length_map]
    omega
theorem cutsV_length : ∀ (rs : List Rec) (xs : List V), (cutsV rs xs).length = lens rs xs.length
  | [], _ => rfl
  | r :: rs, xs => by
    show (cutsV rs (cut r.l.toNat r.h.toNat r.t.toNat (ones r.z.cps.toList) xs)).length = lens rs (r.len xs.length)
    rw [cutsV_length rs, cut_len]
theorem Rec.fit.len_le {r : Rec} (f : r.fit) {n : Nat} (h : n ≤ 500) : r.len n ≤ 500 := by
  have a := f.zl
  have b := f.h
  have c := f.t
  unfold Rec.len
  split <;> omega
theorem lens_le : ∀ (rs : List Rec) {n : Nat}, (∀ r ∈ rs, r.fit) → n ≤ 500 → lens rs n ≤ 500
  | [], _, _, h => h
  | r :: rs, n, hf, h => lens_le rs (n := r.len n) (fun q hq => hf q (List.mem_cons_of_mem _ hq)) ((hf r (List.mem_cons_self ..)).len_le h)
/-- from 41 signs on all is as for 41 -/
theorem lens_far {rs : List Rec} (hf : ∀ r ∈ rs, r.fit) (h1 : 1 ≤ rs.length) {n : Nat} (h : 41 ≤ n) : lens rs n = lens rs 41 := by
  cases rs with
  | nil => cases h1
  | cons r rs =>
    have f := hf r (List.mem_cons_self ..)
    have a := f.l
    have b := f.h
    have c := f.t
    have e : r.len n = r.len 41 := by
      unfold Rec.len
      rw [if_neg (by omega), if_neg (by omega)]
      omega
    show lens rs (r.len n) = lens rs (r.len 41)
    rw [e]
section
variable {P : Program} {w : World} {K : PySem.W.Frag} {mg : Str → Option Value} {base : Heap} {C : Addr}
/-! ### shortened: of a tuple -/
def spShortT (C : Addr) : Sp := fun vs H Q _ => ∃ (x W M : Addr) (r : Rec) (xs : List V), vs = [.ref x, .ref W, .ref M] ∧ ShAt C H x r ∧ r.fit ∧ H W = some (.tup xs) ∧ xs.length ≤ 1000 ∧ H M = some (.tup (ones r.z.cps.toList)) ∧
  ∀ U G, Same H G → G U = some (.tup (cut r.l.toNat r.h.toNat r.t.toNat (ones r.z.cps.toList) xs)) → Q (.ref U) G
theorem cal_shortT (B : Bi mg) (S : ShC K mg C) (D : At K mg "shortened" s_shortened ps_shortened) : Cal P w K mg base 1 "shortened" ps_shortened (spShortT C) := by
  refine D.cal sc_shortened (fun vs H Q E h => ?_) (fun f cdv A outer s H vs Q E hr h => ?_)
  · obtain ⟨x, W, M, r, xs, rfl, _⟩ := h
    rfl
  · obtain ⟨x, W, M, r, xs, rfl, ⟨dx, b, hx, _⟩, fit, hW, xl, hM, k⟩ := h
    have f1 := fit.l
    have f2 := fit.h
    have f3 := fit.t
    have f4 := fit.zl
    have ol : (ones r.z.cps.toList).length = r.z.cps.toList.length := by
      unfold ones
      rw [List.length_map]
    refine ⟨_, (pss_cons (ps_if (pt_cmpR op_le (pe_callB call_len (by rfl) B.len (by decide +kernel) (pa_cons (pv 1) pa_nil)) (pe_fld (pv 0) rfl) (nomark _)) (pss_one (ps_ret (pv 1))) pss_nil)
      (pss_cons (ps_set (i := 3) sc_shortened.nd rfl (.inl rfl) (pe_callB (call_max2 rfl) (by rfl) B.max (by decide +kernel) (pa_cons pe_int (pa_cons (pe_op op_sub (pe_callB call_len (by rfl) B.len (by decide +kernel) (pa_cons (pv 1) pa_nil)) (pe_fld (pv 0) rfl)) pa_nil))))
      (pss_one (ps_ret (pe_op op_catA (pe_op op_catA (pe_slice sl_tupA (pv 1) po_none (po_some (pe_fld (pv 0) rfl))) (pv 2)) (pe_slice sl_tupA (pv 1) (po_some (pv 3)) po_none)))))), ?_⟩
    refine ⟨_, rfl, _, _, rfl, .inr ⟨_, .inl (.inl hW), rfl⟩, _, rfl, x, C, dx, _, _, rfl, hx, S.cl, S.nL, flds_limit _ _, _, _, rfl, rfl, _, rfl, ite2 (fun e => ?_) (fun e => ?_)⟩
    · have e1 := of_decide_eq_true e
      refine ⟨_, rfl, k W H (Same.refl H) ?_⟩
      unfold cut
      rw [if_pos (by omega)]
      exact hW
    · have e1 : ¬ (xs.length : Int) ≤ r.l := fun h => e (decide_eq_true h)
      refine ⟨_, rfl, _, _, rfl, .inr ⟨_, .inl (.inl hW), rfl⟩, _, rfl, x, C, dx, _, _, rfl, hx, S.cl, S.nT, flds_tail _ _, _, _, rfl, rfl, _, _, rfl, ?_⟩
      refine ⟨_, rfl, _, rfl, x, C, dx, _, _, rfl, hx, S.cl, S.nH, flds_head _ _, _, rfl, sl_ok hW fun U1 G1 s1 e1 => ?_⟩
      have c1 : cutV xs none (some r.h) = xs.take r.h.toNat := cut_front xs f2.1
      rw [c1] at e1
      refine ⟨_, rfl, cat_ok e1 (s1 _ _ hM) (Nat.le_of_lt (Nat.lt_of_le_of_lt (show _ ≤ 2000 by rw [List.length_take]; omega) (by decide))) fun U2 G2 s2 e2 => ?_⟩
      refine ⟨_, rfl, _, rfl, _, rfl, ?_⟩
      refine noPart ?_
      refine sl_ok (s2 _ _ (s1 _ _ hW)) fun U3 G3 s3 e3 => ?_
      have c3 : cutV xs (some (if (xs.length : Int) - r.t > 0 then (xs.length : Int) - r.t else 0)) none = xs.drop (xs.length - r.t.toNat) := by
        have q := cut_back xs (h := if (xs.length : Int) - r.t > 0 then (xs.length : Int) - r.t else 0) (by split <;> omega)
        have n : (if (xs.length : Int) - r.t > 0 then (xs.length : Int) - r.t else 0).toNat = xs.length - r.t.toNat := by split <;> omega
        rw [n] at q
        exact q
      rw [c3] at e3
      refine cat_ok (s3 _ _ e2) e3 (Nat.le_of_lt (Nat.lt_of_le_of_lt (show _ ≤ 4000 by rw [List.length_append, List.length_take, List.length_drop]; omega) (by decide))) fun U4 G4 s4 e4 => k U4 G4 (s1.trans (s2.trans (s3.trans s4))) ?_
      rw [e4]
      unfold cut
      rw [if_neg (show ¬ xs.length ≤ r.l.toNat by omega)]
/-! ### planned, check_length, plan, widest -/
theorem cutsV_snoc' (rs : List (Addr × Rec)) {i : Nat} {q : Addr × Rec} (h : rs[i]? = some q) (xs : List V) :
    cutsV ((rs.take (i + 1)).map (·.2)) xs = cut q.2.l.toNat q.2.h.toNat q.2.t.toNat (ones q.2.z.cps.toList) (cutsV ((rs.take i).map (·.2)) xs) := cutsV_snoc rs h xs
def spPlanned (C : Addr) : Sp := fun vs H Q _ => ∃ (a : Addr) (n : Nat) (rs : List (Addr × Rec)), vs = [.ref a, .int (n : Int)] ∧ RowAt C H a rs ∧ n ≤ 500 ∧ ∀ U G, Same H G → G U = some (.tup (cutsV (rs.map (·.2)) (rgV 0 n))) → Q (.ref U) G
theorem cal_planned (B : Bi mg) (S : ShC K mg C) (D : At K mg "planned" s_planned ps_planned) (C_shortened : Cal P w K mg base 1 "shortened" ps_shortened (spShortT C)) : Cal P w K mg base 2 "planned" ps_planned (spPlanned C) := by
  refine D.cal sc_planned (fun vs H Q E h => ?_) (fun f cdv A outer s H vs Q E hr h => ?_)
  · obtain ⟨a, n, rs, rfl, _⟩ := h
    rfl
  · obtain ⟨a, n, rs, rfl, hR, hn, k⟩ := h
    refine ⟨_, (pss_cons (ps_set (i := 2) sc_planned.nd rfl (.inl rfl) (pe_tupRg (by rfl) (by rfl) B.tuple (prg_1 (by rfl) B.range (pv 1))))
      (pss_cons (ps_for PassesOwn.never rfl (pi_tup (pv 0)) (pg_name (i := 3) sc_planned.nd rfl (.inl rfl))
      (pss_one (ps_set (i := 2) sc_planned.nd rfl (.inl rfl) (pe_own C_shortened hr (by decide) (by rfl) (pa_cons (pv 3) (pa_cons (pv 2) (pa_cons (pe_callTy (call_tupS rfl) (by rfl) B.tuple (by decide +kernel) (pa_cons (pe_fld (pv 3) rfl) pa_nil)) pa_nil)))))))
      (pss_one (ps_ret (pv 2))))), ?_⟩
    refine ⟨_, rfl, _, rfl, RgOk.of_le (by omega) (by omega) (by omega) (by omega), fun T nT => ?_⟩
    have s0 : Same H (upd H T (.tup (rgV 0 n))) := same_new nT
    have R0 := hR.same s0
    refine ⟨_, rfl, a, rfl, ⟨_, .inl (.inl R0.tp)⟩, for_tup (K := K) (a := a) (xs := rs.map fun q => V.ref q.1) (fun i σ J => ∃ (U : Addr) (u : Option V), σ = [some (.ref a), some (.int (n : Int)), some (.ref U), u] ∧ Same H J ∧ J U = some (.tup (cutsV ((rs.take i).map (·.2)) (rgV 0 n))))
      ⟨T, none, rfl, s0, upd_same⟩ (fun i σ J _ ⟨_, _, _, sJ, _⟩ => .inl (.inl (sJ _ _ hR.tp))) ?_ ?_⟩
    · rintro i v σ J hi ⟨U, u, rfl, sJ, eU⟩
      rw [List.getElem?_map] at hi
      cases hq : rs[i]? with
      | none =>
        rw [hq] at hi
        cases hi
      | some q =>
        rw [hq] at hi
        cases hi
        obtain ⟨sq, fq⟩ := (hR.same sJ).sh q (List.mem_of_getElem? hq)
        obtain ⟨dx, b, e1, e2⟩ := id sq
        refine ⟨_, rfl, _, rfl, _, rfl, q.1, C, dx, _, _, rfl, e1, S.cl, S.nM, flds_mark _ _, q.2.z, rfl, by have := fq.zl; omega, fun M nM => ?_⟩
        have s1 : Same J (upd J M (.tup (ones q.2.z.cps.toList))) := same_new nM
        refine ⟨q.1, U, M, q.2, _, rfl, sq.same s1, fq, s1 _ _ eU, ?_, upd_same, fun U2 G s2 e3 => ⟨U2, _, rfl, sJ.trans (s1.trans s2), ?_⟩⟩
        · rw [cutsV_length]
          have := lens_le ((rs.take i).map (·.2)) (n := (rgV 0 n).length) (fun r hr => by
            obtain ⟨p, hp, rfl⟩ := List.mem_map.mp hr
            exact (hR.sh p (List.mem_of_mem_take hp)).2) (by rw [rgV_length]; omega)
          omega
        · rw [e3, cutsV_snoc' rs hq]
    · rintro σ J ⟨U, u, rfl, sJ, eU⟩
      rw [List.length_map, List.take_length] at eU
      exact ⟨_, rfl, k U J sJ eU⟩
def spCheckLength : Sp := fun vs H Q _ => ∃ (n : Nat), vs = [.int (n : Int)] ∧ n ≤ 500 ∧ Q .non H
theorem cal_checkLength (B : Bi mg) (D : At K mg "check_length" s_check_length ps_check_length) (C_is_integer : Cal P w K mg base 1 "is_integer" ps_is_integer (spIsInteger K)) : Cal P w K mg base 2 "check_length" ps_check_length spCheckLength := by
  refine D.cal sc_check_length (fun vs H Q E h => ?_) (fun f cdv A outer s H vs Q E hr h => ?_)
  · obtain ⟨n, rfl, _⟩ := h
    rfl
  · obtain ⟨n, rfl, hn, k⟩ := h
    refine ⟨_, (pss_one (ps_if (pt_not (pt_val (pe_own C_is_integer hr (by decide) (by rfl) (pa_cons (pv 0) (pa_cons pe_int (pa_cons (pe_cst B.MOST_LENGTH (by rfl)) pa_nil)))))) pss_never pss_nil)), ?_⟩
    refine ⟨_, rfl, _, _, _, rfl, .inl ⟨_, rfl, _, rfl, ?_⟩⟩
    rw [decide_eq_true (show (0 : Int) ≤ (n : Int) ∧ (n : Int) ≤ 500 by omega)]
    exact iteF k
def spPlan (C : Addr) : Sp := fun vs H Q _ => ∃ (a : Addr) (n : Nat) (rs : List (Addr × Rec)), vs = [.ref a, .int (n : Int)] ∧ RowAt C H a rs ∧ 1 ≤ rs.length ∧ rs.length ≤ 4 ∧ n ≤ 500 ∧ ∀ U G, Same H G → G U = some (.tup (cutsV (rs.map (·.2)) (rgV 0 n))) → Q (.ref U) G
def wides (rs : List Rec) (n : Nat) : List Int := (List.range n).map fun i => (lens rs i : Int)
def Top (m : Int) (ns : List Int) : Prop := m ∈ ns ∧ ∀ y ∈ ns, y ≤ m
theorem Top.one {m k : Int} {ns : List Int} (a : Top m ns) (b : Top k ns) : m = k := Int.le_antisymm (b.2 m a.1) (a.2 k b.1)
theorem wides_top {rs : List Rec} (hf : ∀ r ∈ rs, r.fit) (h1 : 1 ≤ rs.length) {m : Int} {n : Nat} (hn : 42 ≤ n) (h : Top m (wides rs 42)) : Top m (wides rs n) := by
  obtain ⟨a, b⟩ := h
  unfold wides at a b ⊢
  obtain ⟨i, hi, rfl⟩ := List.mem_map.mp a
  refine ⟨List.mem_map.mpr ⟨i, List.mem_range.mpr (by have := List.mem_range.mp hi; omega), rfl⟩, fun y hy => ?_⟩
  obtain ⟨j, hj, rfl⟩ := List.mem_map.mp hy
  by_cases hj2 : j < 42
  · exact b _ (List.mem_map.mpr ⟨j, List.mem_range.mpr hj2, rfl⟩)
  · rw [lens_far hf h1 (show 41 ≤ j by omega)]
    exact b _ (List.mem_map.mpr ⟨41, List.mem_range.mpr (by decide), rfl⟩)
def spWidest (C : Addr) : Sp := fun vs H Q _ => ∃ (a : Addr) (rs : List (Addr × Rec)), vs = [.ref a] ∧ RowAt C H a rs ∧ 1 ≤ rs.length ∧ rs.length ≤ 4 ∧ ∀ m G, Same H G → Top m (wides (rs.map (·.2)) 42) → Q (.int m) G
end
end Gu
namespace Gu
open PySem PySem.Spec PyProof.Rows L2
/-! ### plans as data, and filled in -/
def dat : V → PyData
  | .int i => .int i
  | .str z => .str z
  | _ => .none
/-- a place or a single sign -/
def Plain (n : Nat) (x : V) : Prop := (∃ i : Int, x = .int i ∧ 0 ≤ i ∧ i < (n : Int)) ∨ ∃ c : Nat, x = .str (one c) ∧ c < 128
theorem Plain.fine {n : Nat} {x : V} (hn : n ≤ 500) (h : Plain n x) : Fine 0 70 (dat x) := by
  rcases h with ⟨i, rfl, h0, h1⟩ | ⟨c, rfl, hc⟩
  · exact Fine.int (by omega)
  · exact (Fine.str (z := one c) (W := 1) (fun d hd => by
      rw [List.mem_singleton.mp (show d ∈ [c] from hd)]
      exact Nat.lt_of_lt_of_le hc (by decide)) (Nat.le_refl _)).mono (Nat.le_refl _) (by decide)
theorem Plain.dp {K : PySem.W.Frag} {H : Hp} {n : Nat} {x : V} (h : Plain n x) : Dp K H x (dat x) := by
  rcases h with ⟨i, rfl, _⟩ | ⟨c, rfl, _⟩
  · exact .int i
  · exact .str _
theorem dp_all {K : PySem.W.Frag} {H : Hp} {n : Nat} : ∀ {xs : List V}, (∀ x ∈ xs, Plain n x) → DpAll K H xs (xs.map dat)
  | [], _ => .nil
  | x :: xs, h => .cons (h x (List.mem_cons_self ..)).dp (dp_all fun y hy => h y (List.mem_cons_of_mem _ hy))
theorem ones_plain {n : Nat} {cs : List Nat} (h : Signs cs) : ∀ x ∈ ones cs, Plain n x := by
  intro x hx
  obtain ⟨c, hc, rfl⟩ := List.mem_map.mp hx
  have a : ∀ c ∈ signs.cps.toList, c < 128 := by decide +kernel
  exact .inr ⟨c, rfl, a c (h c hc)⟩
theorem cutsV_all {p : V → Prop} : ∀ (rs : List Rec) {xs : List V}, (∀ r ∈ rs, ∀ x ∈ ones r.z.cps.toList, p x) → (∀ x ∈ xs, p x) → ∀ x ∈ cutsV rs xs, p x
  | [], _, _, h => h
  | r :: rs, xs, hz, h => by
    refine cutsV_all rs (xs := cut r.l.toNat r.h.toNat r.t.toNat (ones r.z.cps.toList) xs) (fun q hq => hz q (List.mem_cons_of_mem _ hq)) fun x hx => ?_
    unfold cut at hx
    split at hx
    · exact h x hx
    · rcases List.mem_append.mp hx with hx | hx
      · rcases List.mem_append.mp hx with hx | hx
        · exact h x (List.mem_of_mem_take hx)
        · exact hz r (List.mem_cons_self ..) x hx
      · exact h x (List.mem_of_mem_drop hx)
theorem plan_plain {rs : List Rec} (hf : ∀ r ∈ rs, r.fit) {n : Nat} : ∀ x ∈ cutsV rs (rgV 0 n), Plain n x :=
  cutsV_all rs (fun r hr => ones_plain (isTxt_signs (hf r hr).z)) fun x hx => by
    unfold rgV at hx
    obtain ⟨i, hi, rfl⟩ := List.mem_map.mp hx
    have := List.mem_range.mp hi
    exact .inl ⟨_, rfl, by omega, by omega⟩
theorem plan_fine {rs : List Rec} (hf : ∀ r ∈ rs, r.fit) {n : Nat} (hn : n ≤ 500) : Fine 60 100000 (.list [.tuple ((cutsV rs (rgV 0 n)).map dat), .tuple ((cutsV rs (rgV 0 n)).map dat)]) := by
  have a : FineAll 0 70 ((cutsV rs (rgV 0 n)).map dat) := .of fun d hd => by
    obtain ⟨x, hx, rfl⟩ := List.mem_map.mp hd
    exact (plan_plain hf x hx).fine hn
  have l : ((cutsV rs (rgV 0 n)).map dat).length ≤ 500 := by
    rw [List.length_map, cutsV_length, rgV_length]
    exact lens_le rs hf (by omega)
  have b := a.tup
  have c : Fine 1 35500 (.tuple ((cutsV rs (rgV 0 n)).map dat)) := b.mono (Nat.le_refl _) (by omega)
  have d : FineAll 1 35500 [.tuple ((cutsV rs (rgV 0 n)).map dat), .tuple ((cutsV rs (rgV 0 n)).map dat)] := .of fun e he => by
    simp only [List.mem_cons, List.not_mem_nil, or_false, or_self] at he
    rw [he]
    exact c
  exact d.list.mono (by decide) (by show 2 * 35501 ≤ 100000; decide)
def fill (cs : List Nat) : V → V
  | .int i => .str (one (cs.getD i.toNat 0))
  | v => v
theorem fill_ones (cs ds : List Nat) : (ones ds).map (fill cs) = ones ds := by
  unfold ones
  rw [List.map_map]
  rfl
theorem fill_cuts (cs : List Nat) : ∀ (rs : List Rec) (xs : List V), (cutsV rs xs).map (fill cs) = cutsV rs (xs.map (fill cs))
  | [], _ => rfl
  | r :: rs, xs => by
    show (cutsV rs (cut r.l.toNat r.h.toNat r.t.toNat (ones r.z.cps.toList) xs)).map (fill cs) = cutsV rs (cut r.l.toNat r.h.toNat r.t.toNat (ones r.z.cps.toList) (xs.map (fill cs)))
    rw [fill_cuts cs rs, ← cut_map, fill_ones]
theorem fill_range (cs : List Nat) : (rgV 0 (cs.length : Nat)).map (fill cs) = ones cs := by
  unfold rgV ones
  rw [List.map_map]
  refine List.ext_getElem? fun j => ?_
  rw [List.getElem?_map, List.getElem?_map]
  simp only [Int.sub_zero, Int.toNat_natCast]
  by_cases hj : j < cs.length
  · rw [List.getElem?_range hj, List.getElem?_eq_getElem hj]
    show some (V.str (one (cs.getD (0 + (j : Int)).toNat 0))) = some (V.str (one cs[j]))
    rw [Int.zero_add, Int.toNat_natCast, List.getD_eq_getElem?_getD, List.getElem?_eq_getElem hj]
    rfl
  · rw [List.getElem?_eq_none (by rw [List.length_range]; omega), List.getElem?_eq_none (by omega)]
    rfl
theorem at_of' {α : Type} {xs : List α} {i : Int} {j : Nat} {v : α} (e : i = (j : Int)) (h : xs[j]? = some v) : atI xs i = some v := by
  rw [e]
  exact atI_nat h
def idl {α : Type} (l : List α) : List α := l
end Gu
namespace Gu
open PySem PySem.Spec PyProof.Rows L2
/-! ### plans that differ, and the least text that tells -/
def planV (rs : List Rec) (n : Nat) : List V := cutsV rs (rgV 0 (n : Int))
theorem fill_plan (rs : List Rec) (cs : List Nat) : (planV rs cs.length).map (fill cs) = ones (cuts rs cs) := by
  unfold planV
  rw [fill_cuts, fill_range, cutsV_ones]
theorem map_injL {α β : Type} {f : α → β} (h : ∀ x y, f x = f y → x = y) : ∀ {xs ys : List α}, xs.map f = ys.map f → xs = ys
  | [], [], _ => rfl
  | [], _ :: _, e => nomatch e
  | _ :: _, [], e => nomatch e
  | x :: xs, y :: ys, e => by
    have e := List.cons.inj e
    rw [h _ _ e.1, map_injL h e.2]
theorem ones_inj {cs ds : List Nat} (h : ones cs = ones ds) : cs = ds := by
  refine map_injL (fun a b e => ?_) h
  have := congrArg (fun z : Str => z.cps.toList) (V.str.inj e)
  exact List.singleton_inj.mp this
theorem shown_iff (rs ss : List Rec) (cs : List Nat) : cuts rs cs = cuts ss cs ↔ (planV rs cs.length).map (fill cs) = (planV ss cs.length).map (fill cs) := by
  rw [fill_plan, fill_plan]
  exact ⟨fun h => by rw [h], ones_inj⟩
theorem map_cuts {f : V → V} (hf : ∀ z, f (.str z) = .str z) : ∀ (rs : List Rec) (xs : List V), cutsV rs (xs.map f) = (cutsV rs xs).map f
  | [], _ => rfl
  | r :: rs, xs => by
    have e : ones r.z.cps.toList = (ones r.z.cps.toList).map f := by
      unfold ones
      rw [List.map_map]
      refine List.map_congr_left fun c _ => ?_
      exact (hf _).symm
    show cutsV rs (cut r.l.toNat r.h.toNat r.t.toNat (ones r.z.cps.toList) (xs.map f)) = (cutsV rs (cut r.l.toNat r.h.toNat r.t.toNat (ones r.z.cps.toList) xs)).map f
    conv => lhs; rw [e]
    rw [cut_map, map_cuts hf rs]
/-! far lengths -/
def far (n : Nat) : V → V
  | .int i => .int (if i < 40 then i else i + ((n : Int) - 80))
  | v => v
theorem far_inj {n : Nat} (h : 80 ≤ n) {x y : V} (e : far n x = far n y) : x = y := by
  cases x <;> cases y <;> first | exact e | cases e | skip
  have e := V.int.inj e
  congr 1
  split at e <;> split at e <;> omega
theorem rg_get (n j : Nat) : (rgV 0 (n : Int))[j]? = if j < n then some (V.int (j : Int)) else none := by
  unfold rgV
  rw [List.getElem?_map, Int.sub_zero, Int.toNat_natCast]
  split
  · next h =>
    rw [List.getElem?_range h]
    show some (V.int (0 + (j : Int))) = _
    rw [Int.zero_add]
  · next h =>
    rw [List.getElem?_eq_none (by rw [List.length_range]; omega)]
    rfl
theorem rg_len (n : Nat) : (rgV 0 (n : Int)).length = n := by
  rw [rgV_length]
  omega
theorem cut_far {r : Rec} (f : r.fit) {n : Nat} (hn : 80 ≤ n) : cut r.l.toNat r.h.toNat r.t.toNat (ones r.z.cps.toList) (rgV 0 (n : Int)) = (cut r.l.toNat r.h.toNat r.t.toNat (ones r.z.cps.toList) (rgV 0 ((80 : Nat) : Int))).map (far n) := by
  have f1 := f.l
  have f2 := f.h
  have f3 := f.t
  unfold cut
  rw [rg_len, rg_len, if_neg (by omega), if_neg (by omega), List.map_append, List.map_append]
  congr 1
  · congr 1
    · refine List.ext_getElem? fun j => ?_
      rw [List.getElem?_map, List.getElem?_take, List.getElem?_take]
      split
      · rw [rg_get, rg_get, if_pos (by omega), if_pos (by omega)]
        show _ = some (V.int _)
        rw [if_pos (by omega)]
      · rfl
    · unfold ones
      rw [List.map_map]
      rfl
  · refine List.ext_getElem? fun j => ?_
    rw [List.getElem?_map, List.getElem?_drop, List.getElem?_drop, rg_get, rg_get]
    by_cases hj : j < r.t.toNat
    · rw [if_pos (by omega), if_pos (by omega)]
      show _ = some (V.int _)
      rw [if_neg (by omega)]
      congr 2
      omega
    · rw [if_neg (by omega), if_neg (by omega)]
      rfl
theorem plan_far {rs : List Rec} (hf : ∀ r ∈ rs, r.fit) (h1 : 1 ≤ rs.length) {n : Nat} (hn : 80 ≤ n) : planV rs n = (planV rs 80).map (far n) := by
  cases rs with
  | nil => cases h1
  | cons r rs =>
    show cutsV rs (cut r.l.toNat r.h.toNat r.t.toNat (ones r.z.cps.toList) (rgV 0 (n : Int))) = (cutsV rs (cut r.l.toNat r.h.toNat r.t.toNat (ones r.z.cps.toList) (rgV 0 ((80 : Nat) : Int)))).map (far n)
    rw [cut_far (hf r (List.mem_cons_self ..)) hn, map_cuts (fun z => rfl)]
theorem map_inj {f : V → V} (h : ∀ x y, f x = f y → x = y) {xs ys : List V} (e : xs.map f = ys.map f) : xs = ys := map_injL h e
/-- what is so up to 80 is so for all lengths -/
theorem alike_all {rs ss : List Rec} (hr : ∀ r ∈ rs, r.fit) (hs : ∀ r ∈ ss, r.fit) (r1 : 1 ≤ rs.length) (s1 : 1 ≤ ss.length) (h : ∀ n, n ≤ 80 → planV rs n = planV ss n) (n : Nat) : planV rs n = planV ss n := by
  rcases Nat.lt_or_ge 80 n with hn | hn
  · rw [plan_far hr r1 (by omega), plan_far hs s1 (by omega), h 80 (by omega)]
  · exact h n hn
/-! least texts -/
def dots (n : Nat) : List Nat := List.replicate n 46
def dotp (n p : Nat) : List Nat := List.replicate p 46 ++ 48 :: List.replicate (n - p - 1) 46
theorem dots_len (n : Nat) : (dots n).length = n := List.length_replicate ..
theorem dotp_len {n p : Nat} (h : p < n) : (dotp n p).length = n := by
  unfold dotp
  rw [List.length_append, List.length_cons, List.length_replicate, List.length_replicate]
  omega
theorem dots_at {n i : Nat} (h : i < n) : (dots n).getD i 0 = 46 := by
  unfold dots
  rw [List.getD_eq_getElem?_getD, List.getElem?_replicate, if_pos h]
  rfl
theorem dotp_at {n p i : Nat} (hp : p < n) (h : i < n) : (dotp n p).getD i 0 = if i = p then 48 else 46 := by
  unfold dotp
  rw [List.getD_eq_getElem?_getD]
  rcases Nat.lt_trichotomy i p with h1 | h1 | h1
  · rw [List.getElem?_append_left (by rw [List.length_replicate]; exact h1), List.getElem?_replicate, if_pos h1, if_neg (by omega)]
    rfl
  · rw [List.getElem?_append_right (by rw [List.length_replicate]; omega), List.length_replicate, h1, Nat.sub_self, if_pos rfl]
    rfl
  · rw [List.getElem?_append_right (by rw [List.length_replicate]; omega), List.length_replicate, if_neg (by omega)]
    obtain ⟨k, hk⟩ : ∃ k, i - p = k + 1 := ⟨i - p - 1, by omega⟩
    rw [hk, List.getElem?_cons_succ, List.getElem?_replicate, if_pos (by omega)]
    rfl
/-- at some place one has the sign p and the other something else -/
def Diff (xs ys : List V) (p : Nat) : Prop := ∃ (i : Nat) (x y : V), xs[i]? = some x ∧ ys[i]? = some y ∧ x ≠ y ∧ (x = V.int (p : Int) ∨ y = V.int (p : Int))
def flat0 : V → V
  | .int _ => .str (one 46)
  | v => v
theorem fill_dots {n : Nat} {x : V} (h : Plain n x) : fill (dots n) x = flat0 x := by
  rcases h with ⟨i, rfl, h0, h1⟩ | ⟨c, rfl, _⟩
  · show V.str (one _) = V.str (one 46)
    rw [dots_at (by omega)]
  · rfl
theorem fill_dotp {n p : Nat} (hp : p < n) {x : V} (h : Plain n x) (ne : x ≠ .int (p : Int)) : fill (dotp n p) x = fill (dots n) x := by
  rcases h with ⟨i, rfl, h0, h1⟩ | ⟨c, rfl, _⟩
  · show V.str (one _) = V.str (one _)
    rw [dots_at (by omega), dotp_at hp (by omega), if_neg]
    intro e
    exact ne (by rw [← e, Int.toNat_of_nonneg h0])
  · rfl
theorem fill_here {n p : Nat} (hp : p < n) : fill (dotp n p) (.int (p : Int)) = .str (one 48) := by
  show V.str (one _) = _
  rw [Int.toNat_natCast, dotp_at hp hp, if_pos rfl]
theorem one_ne : ¬ V.str (one 48) = V.str (one 46) := by
  intro h
  have := congrArg (fun z : Str => z.cps.toList) (V.str.inj h)
  exact absurd this (by decide)
section
variable {n : Nat} {xs ys : List V} (px : ∀ x ∈ xs, Plain n x) (py : ∀ y ∈ ys, Plain n y) (e0 : xs.map (fill (dots n)) = ys.map (fill (dots n)))
include px py e0
theorem same_at {i : Nat} {x y : V} (hx : xs[i]? = some x) (hy : ys[i]? = some y) : fill (dots n) x = fill (dots n) y := by
  have a := congrArg (fun l : List V => l[i]?) e0
  simp only [List.getElem?_map, hx, hy, Option.map_some] at a
  exact Option.some.inj a
theorem not_diff {p : Nat} (hp : p < n) (h : ¬ Diff xs ys p) : xs.map (fill (dotp n p)) = ys.map (fill (dotp n p)) := by
  have el : xs.length = ys.length := by
    have := congrArg List.length e0
    rw [List.length_map, List.length_map] at this
    exact this
  refine List.ext_getElem? fun i => ?_
  rw [List.getElem?_map, List.getElem?_map]
  by_cases hi : i < xs.length
  · have hx := List.getElem?_eq_getElem hi
    have hi2 : i < ys.length := by omega
    have hy := List.getElem?_eq_getElem hi2
    rw [hx, hy]
    show some _ = some _
    by_cases e : xs[i] = ys[i]
    · rw [e]
    · have n1 : xs[i] ≠ .int (p : Int) := fun q => h ⟨i, _, _, hx, hy, e, .inl q⟩
      have n2 : ys[i] ≠ .int (p : Int) := fun q => h ⟨i, _, _, hx, hy, e, .inr q⟩
      rw [fill_dotp hp (px _ (List.getElem_mem hi)) n1, fill_dotp hp (py _ (List.getElem_mem hi2)) n2, same_at px py e0 hx hy]
  · rw [List.getElem?_eq_none (by omega), List.getElem?_eq_none (by omega)]
theorem is_diff {p : Nat} (hp : p < n) (h : Diff xs ys p) : xs.map (fill (dotp n p)) ≠ ys.map (fill (dotp n p)) := by
  intro e
  obtain ⟨i, x, y, hx, hy, ne, h⟩ := h
  have a := congrArg (fun l : List V => l[i]?) e
  simp only [List.getElem?_map, hx, hy, Option.map_some] at a
  have a := Option.some.inj a
  have b := same_at px py e0 hx hy
  have qx := px x (List.mem_of_getElem? hx)
  have qy := py y (List.mem_of_getElem? hy)
  rcases h with rfl | rfl
  · rw [fill_here hp, fill_dotp hp qy (fun q => ne q.symm), ← b, fill_dots qx] at a
    exact one_ne a
  · rw [fill_here hp, fill_dotp hp qx ne, b, fill_dots qy] at a
    exact one_ne a.symm
theorem some_diff (ne : xs ≠ ys) : ∃ p, p < n ∧ Diff xs ys p := by
  have el : xs.length = ys.length := by
    have := congrArg List.length e0
    rw [List.length_map, List.length_map] at this
    exact this
  obtain ⟨i, hi, h⟩ : ∃ i, ∃ hi : i < xs.length, ¬ xs[i] = ys[i] := Decidable.byContradiction fun q => ne (List.ext_getElem el fun i h1 h2 => Decidable.byContradiction fun z => q ⟨i, h1, z⟩)
  have hx := List.getElem?_eq_getElem hi
  have hi2 : i < ys.length := by omega
  have hy := List.getElem?_eq_getElem hi2
  have b := same_at px py e0 hx hy
  have qx := px _ (List.getElem_mem hi)
  have qy := py _ (List.getElem_mem hi2)
  rcases id qx with ⟨j, ej, j0, j1⟩ | ⟨c, ec, _⟩
  · exact ⟨j.toNat, by omega, i, _, _, hx, hy, h, .inl (by rw [ej, Int.toNat_of_nonneg j0])⟩
  · rcases id qy with ⟨j, ej, j0, j1⟩ | ⟨d, ed, _⟩
    · exact ⟨j.toNat, by omega, i, _, _, hx, hy, h, .inr (by rw [ej, Int.toNat_of_nonneg j0])⟩
    · rw [fill_dots qx, fill_dots qy, ec, ed] at b
      exact absurd (by rw [ec, ed]; exact b) h
end
/-! the places that differ, as they are gathered -/
def isI : V → List Int
  | .int i => [i]
  | _ => []
def dpl : List V → List V → List Int
  | x :: xs, y :: ys => (if x = y then [] else isI x ++ isI y) ++ dpl xs ys
  | _, _ => []
theorem dpl_snoc : ∀ {xs ys : List V} (x y : V), xs.length = ys.length → dpl (xs ++ [x]) (ys ++ [y]) = dpl xs ys ++ (if x = y then [] else isI x ++ isI y)
  | [], [], x, y, _ => by
    show (if x = y then [] else isI x ++ isI y) ++ dpl [] [] = [] ++ _
    show _ ++ [] = [] ++ _
    rw [List.append_nil, List.nil_append]
  | a :: xs, b :: ys, x, y, h => by
    show (if a = b then [] else isI a ++ isI b) ++ dpl (xs ++ [x]) (ys ++ [y]) = ((if a = b then [] else isI a ++ isI b) ++ dpl xs ys) ++ _
    rw [dpl_snoc x y (by simpa using h), List.append_assoc]
theorem mem_isI {x : V} {i : Int} : i ∈ isI x ↔ x = .int i := by
  cases x <;> simp [isI, eq_comm]
theorem mem_dpl : ∀ {xs ys : List V} {i : Int}, i ∈ dpl xs ys ↔ ∃ (j : Nat) (x y : V), xs[j]? = some x ∧ ys[j]? = some y ∧ x ≠ y ∧ (x = V.int i ∨ y = V.int i)
  | [], ys, i => by
    refine ⟨fun h => ?_, fun ⟨j, x, y, hx, _⟩ => by simp at hx⟩
    unfold dpl at h
    cases h
  | a :: xs, [], i => by
    refine ⟨fun h => ?_, fun ⟨j, x, y, _, hy, _⟩ => by simp at hy⟩
    unfold dpl at h
    cases h
  | a :: xs, b :: ys, i => by
    show i ∈ (if a = b then [] else isI a ++ isI b) ++ dpl xs ys ↔ _
    rw [List.mem_append, mem_dpl (xs := xs) (ys := ys)]
    constructor
    · rintro (h | ⟨j, x, y, hx, hy, h⟩)
      · split at h
        · cases h
        · next ne => exact ⟨0, a, b, rfl, rfl, ne, (List.mem_append.mp h).imp mem_isI.mp mem_isI.mp⟩
      · exact ⟨j + 1, x, y, hx, hy, h⟩
    · rintro ⟨j, x, y, hx, hy, ne, h⟩
      cases j with
      | zero =>
        cases (Option.some.inj hx : a = x)
        cases (Option.some.inj hy : b = y)
        refine .inl ?_
        rw [if_neg ne]
        exact List.mem_append.mpr (h.imp mem_isI.mpr mem_isI.mpr)
      | succ j => exact .inr ⟨j, x, y, hx, hy, ne, h⟩
/-- the least text of n signs that two rows show differently -/
def LeastAt (rs ss : List Rec) (n : Nat) (cs : List Nat) : Prop :=
  (cs = dots n ∧ cuts rs (dots n) ≠ cuts ss (dots n)) ∨ ∃ p, p < n ∧ cs = dotp n p ∧ cuts rs (dots n) = cuts ss (dots n) ∧ cuts rs (dotp n p) ≠ cuts ss (dotp n p) ∧ ∀ q, p < q → q < n → cuts rs (dotp n q) = cuts ss (dotp n q)
theorem LeastAt.one {rs ss : List Rec} {n : Nat} {cs ds : List Nat} (a : LeastAt rs ss n cs) (b : LeastAt rs ss n ds) : cs = ds := by
  rcases a with ⟨rfl, a⟩ | ⟨p, hp, rfl, a0, a1, a2⟩
  · rcases b with ⟨rfl, _⟩ | ⟨q, _, _, b0, _⟩
    · rfl
    · exact absurd b0 a
  · rcases b with ⟨_, b⟩ | ⟨q, hq, rfl, b0, b1, b2⟩
    · exact absurd a0 b
    · rcases Nat.lt_trichotomy p q with h | h | h
      · exact absurd (a2 q h hq) b1
      · rw [h]
      · exact absurd (b2 p h hp) a1
theorem LeastAt.len {rs ss : List Rec} {n : Nat} {cs : List Nat} (a : LeastAt rs ss n cs) : cs.length = n := by
  rcases a with ⟨rfl, _⟩ | ⟨p, hp, rfl, _⟩
  · exact dots_len n
  · exact dotp_len hp
theorem LeastAt.ne {rs ss : List Rec} {n : Nat} {cs : List Nat} (a : LeastAt rs ss n cs) : cuts rs cs ≠ cuts ss cs := by
  rcases a with ⟨rfl, h⟩ | ⟨p, hp, rfl, _, h, _⟩ <;> exact h
theorem LeastAt.sg {rs ss : List Rec} {n : Nat} {cs : List Nat} (a : LeastAt rs ss n cs) : Signs cs := by
  have d : 46 ∈ signs.cps.toList := by decide +kernel
  have z : 48 ∈ signs.cps.toList := by decide +kernel
  rcases a with ⟨rfl, _⟩ | ⟨p, hp, rfl, _⟩
  · intro c hc
    rw [(List.mem_replicate.mp hc).2]
    exact d
  · intro c hc
    rcases List.mem_append.mp hc with hc | hc
    · rw [(List.mem_replicate.mp hc).2]
      exact d
    · rcases List.mem_cons.mp hc with rfl | hc
      · exact z
      · rw [(List.mem_replicate.mp hc).2]
        exact d
theorem LeastAt.symm {rs ss : List Rec} {n : Nat} {cs : List Nat} (a : LeastAt rs ss n cs) : LeastAt ss rs n cs := by
  rcases a with ⟨rfl, h⟩ | ⟨p, hp, rfl, a0, a1, a2⟩
  · exact .inl ⟨rfl, fun e => h e.symm⟩
  · exact .inr ⟨p, hp, rfl, a0.symm, fun e => a1 e.symm, fun q h1 h2 => (a2 q h1 h2).symm⟩
section
variable {rs ss : List Rec} (hr : ∀ r ∈ rs, r.fit) (hs : ∀ r ∈ ss, r.fit) {n : Nat}
include hr hs
theorem dots_iff : cuts rs (dots n) = cuts ss (dots n) ↔ (planV rs n).map (fill (dots n)) = (planV ss n).map (fill (dots n)) := by
  have := shown_iff rs ss (dots n)
  rw [dots_len] at this
  exact this
theorem dotp_iff {p : Nat} (hp : p < n) : cuts rs (dotp n p) = cuts ss (dotp n p) ↔ (planV rs n).map (fill (dotp n p)) = (planV ss n).map (fill (dotp n p)) := by
  have := shown_iff rs ss (dotp n p)
  rw [dotp_len hp] at this
  exact this
/-- the last place that differs tells it -/
theorem least_last (e0 : cuts rs (dots n) = cuts ss (dots n)) {m : Int} (h : Top m (dpl (planV rs n) (planV ss n))) : ∃ p : Nat, m = (p : Int) ∧ p < n ∧ LeastAt rs ss n (dotp n p) := by
  have px : ∀ x ∈ planV rs n, Plain n x := plan_plain hr
  have py : ∀ y ∈ planV ss n, Plain n y := plan_plain hs
  have f0 := (dots_iff hr hs).mp e0
  obtain ⟨j, x, y, hx, hy, ne, h1⟩ := mem_dpl.mp h.1
  obtain ⟨p, rfl, hp⟩ : ∃ p : Nat, m = (p : Int) ∧ p < n := by
    have a : Plain n (.int m) := by
      rcases h1 with rfl | rfl
      · exact px _ (List.mem_of_getElem? hx)
      · exact py _ (List.mem_of_getElem? hy)
    rcases a with ⟨i, e, i0, i1⟩ | ⟨c, e, _⟩
    · cases e
      exact ⟨m.toNat, by omega, by omega⟩
    · cases e
  refine ⟨p, rfl, hp, .inr ⟨p, hp, rfl, e0, fun e => is_diff px py f0 hp ⟨j, x, y, hx, hy, ne, h1⟩ ((dotp_iff hr hs hp).mp e), fun q h2 h3 => (dotp_iff hr hs h3).mpr (not_diff px py f0 h3 fun ⟨i, u, v, hu, hv, nuv, hh⟩ => ?_)⟩⟩
  have := h.2 (q : Int) (mem_dpl.mpr ⟨i, u, v, hu, hv, nuv, hh⟩)
  omega
theorem dpl_some (e0 : cuts rs (dots n) = cuts ss (dots n)) (ne : planV rs n ≠ planV ss n) : dpl (planV rs n) (planV ss n) ≠ [] := by
  obtain ⟨p, hp, i, x, y, hx, hy, h⟩ := some_diff (plan_plain hr) (plan_plain hs) ((dots_iff hr hs).mp e0) ne
  intro e
  have : (p : Int) ∈ dpl (planV rs n) (planV ss n) := mem_dpl.mpr ⟨i, x, y, hx, hy, h⟩
  rw [e] at this
  cases this
/-- rows whose plans are the same show the same -/
theorem plan_show {cs : List Nat} (h : planV rs cs.length = planV ss cs.length) : cuts rs cs = cuts ss cs := (shown_iff rs ss cs).mpr (by rw [h])
end
/-- the first length at which the plans differ -/
structure First (rs ss : List Rec) (n : Nat) : Prop where
  ne : planV rs n ≠ planV ss n
  eq : ∀ m, m < n → planV rs m = planV ss m
theorem First.one {rs ss : List Rec} {n m : Nat} (a : First rs ss n) (b : First rs ss m) : n = m := by
  rcases Nat.lt_trichotomy n m with h | h | h
  · exact absurd (b.eq n h) a.ne
  · exact h
  · exact absurd (a.eq m h) b.ne
theorem First.symm {rs ss : List Rec} {n : Nat} (a : First rs ss n) : First ss rs n := ⟨fun e => a.ne e.symm, fun m h => (a.eq m h).symm⟩
/-- what is told of two rows -/
def Told (rs ss : List Rec) (v : V) : Prop := (v = .non ∧ ∀ n, planV rs n = planV ss n) ∨ ∃ n y, v = .str y ∧ n ≤ 80 ∧ First rs ss n ∧ LeastAt rs ss n y.cps.toList
theorem Told.one {rs ss : List Rec} {u v : V} (a : Told rs ss u) (b : Told rs ss v) : u = v := by
  rcases a with ⟨rfl, a⟩ | ⟨n, y, rfl, _, a, a1⟩
  · rcases b with ⟨rfl, _⟩ | ⟨m, z, _, _, b, _⟩
    · rfl
    · exact absurd (a m) b.ne
  · rcases b with ⟨_, b⟩ | ⟨m, z, rfl, _, b, b1⟩
    · exact absurd (b n) a.ne
    · cases a.one b
      rw [str_ext (a1.one b1)]
theorem Told.symm {rs ss : List Rec} {v : V} (a : Told rs ss v) : Told ss rs v := by
  rcases a with ⟨rfl, a⟩ | ⟨n, y, rfl, h, a, a1⟩
  · exact .inl ⟨rfl, fun n => (a n).symm⟩
  · exact .inr ⟨n, y, rfl, h, a.symm, a1.symm⟩
/-! signs of what is filled in -/
def fillN (cs : List Nat) : V → Nat
  | .int i => cs.getD i.toNat 0
  | .str z => z.cps.toList.getD 0 0
  | _ => 0
theorem fillN_one {n : Nat} {cs : List Nat} {x : V} (h : Plain n x) : fill cs x = .str (one (fillN cs x)) := by
  rcases h with ⟨i, rfl, _⟩ | ⟨c, rfl, _⟩
  · rfl
  · rfl
theorem fillN_map {n : Nat} {cs : List Nat} {xs : List V} (h : ∀ x ∈ xs, Plain n x) : xs.map (fill cs) = ones (xs.map (fillN cs)) := by
  unfold ones
  rw [List.map_map]
  exact List.map_congr_left fun x hx => fillN_one (h x hx)
end Gu
namespace Gu
open PySem PySem.Spec PyProof.Rows L2
theorem stF_same {K : PySem.W.Frag} {H G : Hp} {l : Addr} {xs : List V} (a : Same H G) (h : SqT K H l xs) : SqT K G l xs := by
  rcases h with (h | ⟨o, h⟩) | h
  · exact .inl (.inl (a _ _ h))
  · exact .inl (.inr ⟨o, a _ _ h⟩)
  · exact .inr h
theorem same_offF {H J : Hp} {M : Addr} {o : HO} (s : Same H J) (n : H M = none) : Same H (upd J M o) := fun b x e => by
  rw [upd_ne (ne_of_none e n)]
  exact s b x e
theorem takeF_next {α : Type} {qs : List α} {i : Nat} {q : α} (h : qs[i]? = some q) : qs.take (i + 1) = qs.take i ++ [q] := by
  rw [List.take_add_one, h]
  rfl
theorem RowAt.fits {C : Addr} {H : Hp} {a : Addr} {rs : List (Addr × Rec)} (h : RowAt C H a rs) : ∀ r ∈ rs.map (·.2), r.fit := fun r hr => by
  obtain ⟨q, hq, rfl⟩ := List.mem_map.mp hr
  exact (h.sh q hq).2
end Gu
namespace Gu
open PySem PySem.Spec PyProof.Rows L2
/-! text * int, however often -/
def rRepN : R2 := fun x y H Q => ∃ z k, x = .str z ∧ y = .int k ∧ 0 ≤ k ∧ k ≤ 1000 ∧ z.length ≤ 1000 ∧ ∀ y : Str, y.cps.toList = (List.replicate k.toNat z.cps.toList).flatten → Q (.str y) H
theorem fold_repN (z : Array Nat) : ∀ (k : Nat) (acc : Array Nat), ((List.replicate k z).foldl (· ++ ·) acc).toList = acc.toList ++ (List.replicate k z.toList).flatten
  | 0, acc => by simp
  | k + 1, acc => by
    rw [List.replicate_succ, List.foldl_cons, fold_repN z k, List.replicate_succ, List.flatten_cons, Array.toList_append, List.append_assoc]
theorem op_mul_strN {X : Cx} : OpR X (binaryOp .Mult) rRepN := by
  intro pins s σ H x y v u Q I rx ry h
  obtain ⟨z, k, rfl, rfl, k0, k1, z1, q⟩ := h
  obtain ⟨t, rfl⟩ := rx
  obtain ⟨t', rfl⟩ := ry
  refine PySem.P.mul_str ?_ (fun h1 _ => Int.not_lt.mpr ((Int.le_ediv_iff_mul_le (by omega)).mpr ?_)) (fun _ _ => decide_eq_false ?_) ?_
  · rw [Bool.or_eq_false_iff]
    exact ⟨decide_eq_false (by omega), decide_eq_false (by omega)⟩
  · have m1 : (z.length : Int) * k ≤ 1000 * 1000 := Int.mul_le_mul (by omega) k1 (by omega) (by omega)
    omega
  · have m2 : z.length * k.toNat ≤ 1000 * 1000 := Nat.mul_le_mul z1 (by omega)
    rw [sizeLine_eq]
    omega
  · split
    · next h1 =>
      refine ⟨by decide, .str Str.empty, H, I.tok _, ⟨_, rfl⟩, q _ ?_⟩
      rw [show k.toNat = 0 by omega]
      rfl
    · split
      · next h1 h2 =>
        refine ⟨.str z, H, I, ⟨_, rfl⟩, q _ ?_⟩
        rcases Bool.or_eq_true _ _ ▸ h2 with e | e
        · have e := eq_of_beq e
          rw [e]
          simp
        · have e : z.cps.toList.length = 0 := eq_of_beq e
          rw [List.eq_nil_of_length_eq_zero e]
          simp
      · have m2 : z.length * k.toNat ≤ 1000 * 1000 := Nat.mul_le_mul z1 (by omega)
        have e : ((List.replicate k.toNat z.cps).foldl (· ++ ·) #[]).toList = (List.replicate k.toNat z.cps.toList).flatten := by
          rw [fold_repN]
          rfl
        refine ⟨?_, .str ⟨(List.replicate k.toNat z.cps).foldl (· ++ ·) #[]⟩, H, I.tok _, ⟨_, rfl⟩, q _ e⟩
        show ((List.replicate k.toNat z.cps).foldl (· ++ ·) #[]).size ≤ _
        rw [← Array.length_toList, e, PyProof.Rows.lm_len_rep_flat]
        show k.toNat * z.length ≤ sizeLine
        rw [Nat.mul_comm, sizeLine_eq]
        omega
/-- a call without arguments -/
theorem pe_own0 {X : Cx} {k j : Nat} {x : Str} {sp : Sp} {p pos : Pos} (c : Cal X.prog X.w X.K X.mg X.base k x [] sp) (hr : Room j X.A) (hk : k ≤ j) (hg : Gl X x) (hdb : (x == ("__debug__" : Str)) = false := by decide) : PE X (.Call (.Name x p) [] [] pos) (tCall sp [] E0 tNil) := by
  obtain ⟨f, fd, F, hm, kp, b, _⟩ := c.ex
  exact pe_call0 F (hr.mono hk) hg hm kp b .nil pass0 hdb
def rIsiK (K : PySem.W.Frag) : List V → Hp → VK → Prop := rIsi K
section
variable {P : Program} {w : World} {K : PySem.W.Frag} {mg : Str → Option Value} {base : Heap} {C : Addr}
theorem Isa.str_int {H : Hp} {z : Str} : Isa K H (.str z) "int" false := ⟨_, .base (.str z), kit_ty (by decide +kernel)⟩
/-! ### telling_lengths -/
def spTelling : Sp := fun vs H Q _ => vs = [] ∧ ∀ (T : Addr), H T = none → Q (.ref T) (upd H T (.lst (rgV 0 ((81 : Nat) : Int))))
theorem cal_telling (B : Bi mg) (D : At K mg "telling_lengths" s_telling_lengths ps_telling_lengths) : Cal P w K mg base 1 "telling_lengths" ps_telling_lengths spTelling := by
  refine D.cal sc_telling_lengths (fun vs H Q E h => ?_) (fun f cdv A outer s H vs Q E hr h => ?_)
  · obtain ⟨rfl, _⟩ := h
    rfl
  · obtain ⟨rfl, k⟩ := h
    refine ⟨_, (pss_one (ps_ret (pe_listRg (by rfl) (by rfl) B.list (prg_1 (by rfl) B.range (pe_op op_add (pe_op op_mul pe_int (pe_cst B.MOST_SIGNS (by rfl))) pe_int))))), ?_⟩
    exact ⟨_, _, rfl, rfl, .inl ⟨by decide, by decide⟩, _, _, rfl, rfl, _, rfl, RgOk.of_le (by decide) (by decide) (by decide) (by decide), fun T nT => k T nT⟩
/-! ### filled_in -/
def spFilled (K : PySem.W.Frag) : Sp := fun vs H Q _ => ∃ (a : Addr) (xs : List V) (z : Str), vs = [.ref a, .str z] ∧ SqT K H a xs ∧ (∀ x ∈ xs, Plain z.cps.toList.length x) ∧ xs.length ≤ 600 ∧ z.cps.toList.length ≤ 600 ∧ ∀ (y : Str) (G : Hp), Same H G → y.cps.toList = xs.map (fillN z.cps.toList) → Q (.str y) G
/-! ### differing_places -/
def spDiffP (K : PySem.W.Frag) : Sp := fun vs H Q _ => ∃ (a b : Addr) (xs ys : List V) (n : Nat), vs = [.ref a, .ref b] ∧ SqT K H a xs ∧ SqT K H b ys ∧ xs.length = ys.length ∧ xs.length ≤ 600 ∧ (∀ x ∈ xs, Plain n x) ∧ (∀ y ∈ ys, Plain n y) ∧ ∀ (p : Addr) (G : Hp), G p = some (.lst ((dpl xs ys).map V.int)) → Same H G → Q (.ref p) G
theorem scal_plain {n m : Nat} {x y : V} (hx : Plain n x) (hy : Plain m y) : scal x y = true := by
  rcases hx with ⟨i, rfl, _⟩ | ⟨c, rfl, _⟩ <;> rcases hy with ⟨j, rfl, _⟩ | ⟨d, rfl, _⟩ <;> rfl
theorem isI_len (x : V) : (isI x).length ≤ 1 := by
  cases x <;> simp [isI]
theorem dpl_len : ∀ xs ys : List V, (dpl xs ys).length ≤ 2 * xs.length
  | [], _ => Nat.le_refl _
  | _ :: _, [] => Nat.zero_le _
  | x :: xs, y :: ys => by
    have a := isI_len x
    have b := isI_len y
    have c := dpl_len xs ys
    show ((if x = y then [] else isI x ++ isI y) ++ dpl xs ys).length ≤ 2 * (xs.length + 1)
    rw [List.length_append]
    split
    · rw [List.length_nil]
      omega
    · rw [List.length_append]
      omega
/-! ### least_difference -/
def spLeastD (K : PySem.W.Frag) : Sp := fun vs H Q _ => ∃ (a b : Addr) (rs ss : List Rec) (n : Nat), vs = [.ref a, .ref b, .int (n : Int)] ∧ SqT K H a (planV rs n) ∧ SqT K H b (planV ss n) ∧ (∀ r ∈ rs, r.fit) ∧ (∀ r ∈ ss, r.fit) ∧ n ≤ 80 ∧ planV rs n ≠ planV ss n ∧ ∀ (y : Str) (G : Hp), Same H G → LeastAt rs ss n y.cps.toList → Q (.str y) G
theorem plan_len {rs : List Rec} (hf : ∀ r ∈ rs, r.fit) {n : Nat} (hn : n ≤ 500) : (planV rs n).length ≤ 500 := by
  unfold planV
  rw [cutsV_length, rg_len]
  exact lens_le rs hf hn
theorem rep_dot {z y : Str} (hz : z.cps.toList = [46]) {k : Nat} (e : y.cps.toList = (List.replicate k z.cps.toList).flatten) : y.cps.toList = List.replicate k 46 := by
  rw [e, hz]
  clear e
  induction k with
  | zero => rfl
  | succ k ih => rw [List.replicate_succ, List.flatten_cons, ih]; rfl
end
end Gu
namespace Gu
open PySem PySem.Spec PyProof.Rows L2
def spRight : Sp := fun vs H Q _ => ∃ (p : Addr), vs = [.ref p] ∧ Pot H p ∧ ∀ G, Ladled p H G → Q (.bl true) G
end Gu
namespace Gu
open PySem PySem.Spec PyProof.Rows L2
/-! ### answers written out -/
/-- None, a bool, or a short text of signs -/
inductive Ans : V → Prop
  | non : Ans .non
  | bl (b : Bool) : Ans (.bl b)
  | str {y : Str} (l : y.cps.toList.length ≤ 500) (s : Signs y.cps.toList) : Ans (.str y)
def adat : V → PyData
  | .bl b => .bool b
  | .str y => .str y
  | _ => .none
theorem Ans.dp {K : PySem.W.Frag} {H : Hp} {v : V} (h : Ans v) : Dp K H v (adat v) := by
  cases h with
  | non => exact .non
  | bl b => exact .bl b
  | str l s => exact .str _
theorem Ans.fine {v : V} (h : Ans v) : Fine 0 500 (adat v) := by
  cases h with
  | non => exact Fine.none.mono (Nat.le_refl _) (by decide)
  | bl b => exact (Fine.bool b).mono (Nat.le_refl _) (by decide)
  | str l s =>
    have a : ∀ c ∈ signs.cps.toList, c < 16 ^ 8 := by decide +kernel
    exact Fine.str (fun c hc => a c (s c hc)) l
theorem ans_all {K : PySem.W.Frag} {H : Hp} : ∀ {vs : List V}, (∀ v ∈ vs, Ans v) → DpAll K H vs (vs.map adat)
  | [], _ => .nil
  | v :: vs, h => .cons (h v (List.mem_cons_self ..)).dp (ans_all fun u hu => h u (List.mem_cons_of_mem _ hu))
theorem ans_fine {vs : List V} (l : vs.length ≤ 100) (h : ∀ v ∈ vs, Ans v) : Fine 60 100000 (.list (vs.map adat)) := by
  have a : FineAll 0 500 (vs.map adat) := .of fun d hd => by
    obtain ⟨v, hv, rfl⟩ := List.mem_map.mp hd
    exact (h v hv).fine
  refine a.list.mono (by decide) ?_
  rw [List.length_map]
  have := Nat.mul_le_mul_right (500 + 1) l
  omega
theorem Told.ans {rs ss : List Rec} {v : V} (h : Told rs ss v) : Ans v := by
  rcases h with ⟨rfl, _⟩ | ⟨n, y, rfl, hn, _, L⟩
  · exact .non
  · exact .str (by rw [L.len]; omega) L.sg
theorem Told.self {rs : List Rec} {v : V} (h : Told rs rs v) : v = .non := by
  rcases h with ⟨rfl, _⟩ | ⟨n, y, rfl, _, f, _⟩
  · rfl
  · exact absurd rfl f.ne
end Gu
namespace Gu
open PySem PySem.Spec PyProof.Rows L2
/-! ### (number, text) < (number, text) -/
def pairLt (m n : Int) (y z : Str) : Bool := if (m == n) = true then (if (y == z) = true then false else decide (y.cps.toList < z.cps.toList)) else decide (m < n)
def rLtP (K : PySem.W.Frag) : R2 := fun x y H Q => ∃ (a b : Addr) (m n : Int) (u v : Str), x = .ref a ∧ y = .ref b ∧ SqT K H a [.int m, .str u] ∧ SqT K H b [.int n, .str v] ∧ Q (.bl (pairLt m n u v)) H
theorem op_ltP {X : Cx} (hu : X.A.units < cLine) : OpR X (compareOp .Lt) (rLtP X.K) := by
  intro pins s σ H x y v u Q I rx ry h
  obtain ⟨a, b, m, n, y1, z1, rfl, rfl, ha, hb, q⟩ := h
  cases rx
  cases ry
  obtain ⟨its, r1, p1, _⟩ := I.tuple ha
  obtain ⟨its2, r2, p2, _⟩ := I.tuple hb
  cases r1 with
  | cons a1 r1 =>
    cases r1 with
    | cons a2 r1 =>
      cases r1
      cases r2 with
      | cons b1 r2 =>
        cases r2 with
        | cons b2 r2 =>
          cases r2
          obtain ⟨t1, rfl⟩ := a1
          obtain ⟨t2, rfl⟩ := a2
          obtain ⟨t3, rfl⟩ := b1
          obtain ⟨t4, rfl⟩ := b2
          have R := Ob.RcOp.tuples_lt (A := X.A) (s := s) (e := fun j => if j = 0 then (m == n) else (y1 == z1)) (r := fun j => if j = 0 then decide (m < n) else decide (y1.cps.toList < z1.cps.toList)) p1 p2 hu (fun j h1 h2 => by
            match j, h1, h2 with
            | 0, _, _ => exact SeqAt.EqAt.int_int _ _ _ _
            | 1, _, _ => exact SeqAt.EqAt.str_str _ _ _ _) (fun j h1 h2 _ => by
            match j, h1, h2 with
            | 0, _, _ => exact Ob.RcOp.lt_int _ _ _ _
            | 1, _, _ => exact fun _ _ _ _ h => PyProof.Rows.lt_str h)
          have e : Ob.lexAt (fun j => if j = 0 then (m == n) else (y1 == z1)) (fun j => if j = 0 then decide (m < n) else decide (y1.cps.toList < z1.cps.toList)) (decide ((#[Value.int m t1, Value.str y1 t2] : Array Value).size < (#[Value.int n t3, Value.str z1 t4] : Array Value).size)) 0 2 = pairLt m n y1 z1 := by
            rw [Ob.lexAt_succ, Ob.lexAt_succ, Ob.lexAt_zero]
            rfl
          exact R X.prog X.w X.xe (EP X pins σ Q) (by
            show EP X pins σ Q (.bool (Ob.lexAt _ _ _ 0 2)) s
            rw [e]
            exact ⟨.bl _, H, I, rfl, q⟩)
theorem pairLt_iff {m n : Int} {y z : Str} (h : pairLt m n y z = true) : m < n ∨ (m = n ∧ y.cps.toList < z.cps.toList) := by
  unfold pairLt at h
  split at h
  · next e =>
    split at h
    · cases h
    · exact .inr ⟨eq_of_beq e, of_decide_eq_true h⟩
  · exact .inl (of_decide_eq_true h)
/-! ### smaller texts are shown alike -/
theorem sign_low {c : Nat} (h : c ∈ signs.cps.toList) : c = 46 ∨ 48 ≤ c := by
  have a : ∀ c ∈ signs.cps.toList, c = 46 ∨ 48 ≤ c := by decide +kernel
  exact a c h
theorem not_dots : ∀ (n : Nat) (ds : List Nat), Signs ds → ds.length = n → ¬ ds < List.replicate n 46
  | 0, ds, _, l, h => by
    rw [List.eq_nil_of_length_eq_zero l] at h
    exact absurd h (by decide)
  | n + 1, [], _, l, _ => by cases l
  | n + 1, d :: ds, sd, l, h => by
    rw [List.replicate_succ, List.cons_lt_cons_iff] at h
    have a := sign_low (sd d (List.mem_cons_self ..))
    rcases h with h | ⟨_, h⟩
    · omega
    · exact not_dots n ds (fun c hc => sd c (List.mem_cons_of_mem _ hc)) (by simpa using l) h
theorem low_dotp : ∀ (p k : Nat) (ds : List Nat), Signs ds → ds.length = p + 1 + k → ds < List.replicate p 46 ++ 48 :: List.replicate k 46 → ∀ i, i ≤ p → ds[i]? = some 46
  | 0, k, [], _, l, _, _, _ => by
    rw [List.length_nil] at l
    omega
  | 0, k, d :: ds, sd, l, h, i, hi => by
    have a := sign_low (sd d (List.mem_cons_self ..))
    have h : d :: ds < 48 :: List.replicate k 46 := h
    rw [List.cons_lt_cons_iff] at h
    rcases h with h | ⟨_, h⟩
    · rw [show i = 0 by omega, show d = 46 by omega]
      rfl
    · exact absurd h (not_dots k ds (fun c hc => sd c (List.mem_cons_of_mem _ hc)) (by rw [List.length_cons] at l; omega))
  | p + 1, k, [], _, l, _, _, _ => by
    rw [List.length_nil] at l
    omega
  | p + 1, k, d :: ds, sd, l, h, i, hi => by
    have a := sign_low (sd d (List.mem_cons_self ..))
    rw [List.replicate_succ, List.cons_append, List.cons_lt_cons_iff] at h
    rcases h with h | ⟨rfl, h⟩
    · omega
    · cases i with
      | zero => rfl
      | succ i =>
        rw [List.getElem?_cons_succ]
        exact low_dotp p k ds (fun c hc => sd c (List.mem_cons_of_mem _ hc)) (by rw [List.length_cons] at l; omega) h i (by omega)
theorem smaller_same {rs ss : List Rec} (hr : ∀ r ∈ rs, r.fit) (hs : ∀ r ∈ ss, r.fit) {n : Nat} {cs ds : List Nat} (L : LeastAt rs ss n cs) (dl : ds.length = n) (sd : Signs ds) (lt : ds < cs) : cuts rs ds = cuts ss ds := by
  rcases L with ⟨rfl, _⟩ | ⟨p, hp, rfl, e0, _, high⟩
  · exact absurd lt (not_dots n ds sd dl)
  · have low := low_dotp p (n - p - 1) ds sd (by omega) lt
    have px : ∀ x ∈ planV rs n, Plain n x := plan_plain hr
    have py : ∀ y ∈ planV ss n, Plain n y := plan_plain hs
    have f0 := (dots_iff hr hs).mp e0
    have el : (planV rs n).length = (planV ss n).length := by
      have := congrArg List.length f0
      rw [List.length_map, List.length_map] at this
      exact this
    have few : ∀ q : Nat, q < n → Diff (planV rs n) (planV ss n) q → q ≤ p := fun q hq d => Decidable.byContradiction fun z => is_diff px py f0 hq d ((dotp_iff hr hs hq).mp (high q (by omega) hq))
    have at46 : ∀ i : Int, 0 ≤ i → i.toNat ≤ p → fill ds (.int i) = fill (dots n) (.int i) := fun i i0 ip => by
      show V.str (one _) = V.str (one _)
      rw [dots_at (by omega), List.getD_eq_getElem?_getD, low i.toNat ip]
      rfl
    rw [shown_iff, dl]
    refine List.ext_getElem? fun i => ?_
    rw [List.getElem?_map, List.getElem?_map]
    by_cases hi : i < (planV rs n).length
    · have hx := List.getElem?_eq_getElem hi
      have hi2 : i < (planV ss n).length := by omega
      have hy := List.getElem?_eq_getElem hi2
      rw [hx, hy]
      show some _ = some _
      have b := same_at px py f0 hx hy
      have qx := px _ (List.getElem_mem hi)
      have qy := py _ (List.getElem_mem hi2)
      generalize (planV rs n)[i] = x at hx b qx
      generalize (planV ss n)[i] = y at hy b qy
      by_cases e : x = y
      · rw [e]
      · have fx : fill ds x = fill (dots n) x := by
          rcases qx with ⟨j, rfl, j0, j1⟩ | ⟨c, rfl, _⟩
          · exact at46 j j0 (few j.toNat (by omega) ⟨i, _, _, hx, hy, e, .inl (by rw [Int.toNat_of_nonneg j0])⟩)
          · rfl
        have fy : fill ds y = fill (dots n) y := by
          rcases qy with ⟨j, rfl, j0, j1⟩ | ⟨c, rfl, _⟩
          · exact at46 j j0 (few j.toNat (by omega) ⟨i, _, _, hx, hy, e, .inr (by rw [Int.toNat_of_nonneg j0])⟩)
          · rfl
        rw [fx, fy, b]
    · rw [List.getElem?_eq_none (by omega), List.getElem?_eq_none (by omega)]
/-- what is told, of a smaller text -/
theorem Told.smaller {rs ss : List Rec} (hr : ∀ r ∈ rs, r.fit) (hs : ∀ r ∈ ss, r.fit) {y z : Str} (h : Told rs ss (.str y)) (sz : Signs z.cps.toList) (lt : pairLt z.length y.length z y = true) : cuts rs z.cps.toList = cuts ss z.cps.toList := by
  rcases h with ⟨e, _⟩ | ⟨n, y', e, _, f, L⟩
  · cases e
  · cases e
    have yl : y.length = n := L.len
    have zl : z.length = z.cps.toList.length := rfl
    rcases pairLt_iff lt with h | ⟨h1, h2⟩
    · exact plan_show hr hs (f.eq _ (by omega))
    · exact smaller_same hr hs L (by omega) sz h2
/-- rows that are alike are unlike a third one for the same text -/
theorem Told.alike {rs ss os : List Rec} (hr : ∀ r ∈ rs, r.fit) (hs : ∀ r ∈ ss, r.fit) (e : ∀ n, planV rs n = planV ss n) {v : V} (h : Told rs os v) : Told ss os v := by
  have c : ∀ cs : List Nat, cuts ss cs = cuts rs cs := fun cs => (plan_show hr hs (e cs.length)).symm
  rcases h with ⟨rfl, h⟩ | ⟨n, y, rfl, hn, f, L⟩
  · exact .inl ⟨rfl, fun n => (e n).symm.trans (h n)⟩
  · refine .inr ⟨n, y, rfl, hn, ⟨fun q => f.ne ((e n).trans q), fun m hm => (e m).symm.trans (f.eq m hm)⟩, ?_⟩
    rcases L with ⟨a, b⟩ | ⟨p, hp, a, b0, b1, b2⟩
    · exact .inl ⟨a, by rw [c]; exact b⟩
    · exact .inr ⟨p, hp, a, by rw [c]; exact b0, by rw [c]; exact b1, fun q h1 h2 => by rw [c]; exact b2 q h1 h2⟩
theorem Told.non_all {rs ss : List Rec} {v : V} (h : Told rs ss v) (e : v = .non) : ∀ n, planV rs n = planV ss n := by
  rcases h with ⟨_, h⟩ | ⟨n, y, rfl, _⟩
  · exact h
  · cases e
end Gu
namespace Gu
open PySem PySem.Spec PyProof.Rows L2
theorem ToldsAt.off {H : Hp} {D p : Addr} {ps : List (Addr × Rec)} (h : ToldsAt H D ps) (hp : Pot H p) (l : 1 ≤ ps.length) : D ≠ p := fun e => by
  subst e
  obtain ⟨x, y, z, e⟩ := hp
  have a := h.ls.symm.trans e
  cases ps with
  | nil => cases l
  | cons q ps => cases a
theorem same_len {ps rs : List (Addr × Rec)} (e : rs.map (·.2) = ps.map (·.2)) : rs.length = ps.length := by
  have := congrArg List.length e
  rw [List.length_map, List.length_map] at this
  exact this
end Gu
namespace Gu
open PySem PySem.Spec PyProof.Rows L2
/-! ### zip of a tuple and a text -/
/-- the tuple at a as it stands at each turn, with the signs of y, in new pairs -/
def ItzS (K : PySem.W.Frag) (a : Addr) (y : Str) : It where
  go := fun i H => ∃ (xs : List V) (x : V) (c : Nat), SqT K H a xs ∧ xs[i]? = some x ∧ y.cps[i]? = some c
  yld := fun i H v G => ∃ T x c, v = .ref T ∧ H T = none ∧ G = upd H T (.tup [x, .str ⟨#[c]⟩]) ∧ (∀ xs, SqT K H a xs → xs[i]? = some x) ∧ y.cps[i]? = some c
  stop := fun i H => ∃ xs : List V, SqT K H a xs ∧ i ≤ xs.length ∧ i ≤ y.cps.size ∧ (i = xs.length ∨ i = y.cps.size)
theorem turn_zipS {P : Program} {w : World} {K : PySem.W.Frag} {es : List Expr} {kk : Nat} {tp : Pos} {a z TI TO i1 i2 : Addr} {y : Str} {t : Tok} (S : ZipSep2 z TI TO i1 i2 [i1, a] [i2]) :
    Turn P w K (.Tuple es kk tp) (ItzS K a y) [z, TI, TO, i1, i2] z (fun i h => IsZip h z TI TO .none ∧ IsTupOf2 h TI (.ref i1) (.ref i2) ∧ (∃ u v, IsTupOf2 h TO u v) ∧ h.IsTupleIter i1 a i ∧ h.IsStrIter i2 (strIterType y) y t i) where
  mem := List.mem_cons_self ..
  obj := fun i h st c hc => by
    obtain ⟨hz, hTI, ⟨u, v, hTO⟩, ⟨o1, e1, _, d1⟩, ⟨o2, e2, _, d2⟩⟩ := st
    simp only [List.mem_cons, List.not_mem_nil, or_false] at hc
    rcases hc with rfl | rfl | rfl | rfl | rfl
    · exact ⟨_, hz, fun v q => nomatch q⟩
    · exact ⟨_, hTI, fun v q => nomatch q⟩
    · exact ⟨_, hTO, fun v q => nomatch q⟩
    · exact ⟨o1, e1, fun v q => by rw [d1] at q; cases q⟩
    · exact ⟨o2, e2, fun v q => by rw [d2] at q; cases q⟩
  keep := fun i h g st k => by
    obtain ⟨hz, hTI, ⟨u, v, hTO⟩, h1, h2⟩ := st
    exact ⟨k z (by simp) _ hz, k TI (by simp) _ hTI, ⟨u, v, k TO (by simp) _ hTO⟩, h1.at fun o q => k i1 (by simp) o q, by
      obtain ⟨o, e, c, d⟩ := h2
      exact ⟨o, k i2 (by simp) o e, c, d⟩⟩
  item := by
    intro X hP hw hK hc i pins s σ H E I hf st hg
    subst hP hw hK
    obtain ⟨hz, hTI, ⟨u0, v0, hTO⟩, h1, h2⟩ := st
    obtain ⟨xs, x, c, hq, hx, hc0⟩ := hg
    obtain ⟨its, rv, p1, _⟩ := I.tuple hq
    obtain ⟨u, hu, ru⟩ := rv.get hx
    have p1' : s.heap.IsTuple a its.toArray := p1
    have nai : a ≠ i1 := fun e => by
      obtain ⟨o1, g1, c1, _⟩ := p1'
      obtain ⟨o2, g2, c2, _⟩ := h1
      rw [e] at g1
      cases g1.symm.trans g2
      exact absurd (Value.type.inj (c1.symm.trans c2)) (by decide)
    have hd : X.A.in1.handled = none := I.ok.hd hc
    have hzl : z < s.heap.objs.size := Heap.lt_size hz
    have il : i < its.toArray.size := by
      have := (List.getElem?_eq_some_iff.mp hu).1
      simpa using this
    have iy : i < y.cps.size := (Array.getElem?_eq_some_iff.mp hc0).1
    refine wpAny_pyNext_zipD2_item S (Draws.tuple hd i1 a nai its.toArray) (Draws.text hd i2 y t) hz hTI hTO ⟨h1, p1'⟩ h2 il iy fun x1 x2 h' tk y1 y2 b1 b2 d1 d2 b5 b6 b7 => ?_
    obtain rfl : x1 = u := by
      have : its[i]? = some x1 := by simpa using y1
      rw [hu] at this
      exact (Option.some.inj this).symm
    obtain ⟨c', tc, hc1, rfl⟩ := y2
    obtain rfl : c' = c := Option.some.inj (hc1.symm.trans hc0)
    refine ⟨_, rfl, wpAny_letOwnedTupleGo_zip (s := { s with heap := h', toks := tk }) b1 fun h'' z'' sb => ?_⟩
    have hT2 : h''.get? s.heap.objs.size = some { cls := .type "tuple", data := .seq #[x1, .str ⟨#[c']⟩ tc] } := (sb.2 _ (Nat.ne_of_gt hzl)).trans b5
    have nw : ObjOk X.prog X.w (upd H s.heap.objs.size (.tup [x, .str ⟨#[c']⟩])) h'' s.heap.objs.size (.tup [x, .str ⟨#[c']⟩]) := ⟨by show 2 ≤ sizeLine; decide, [x1, .str ⟨#[c']⟩ tc], .cons ru (.cons ⟨_, rfl⟩ .nil), ⟨_, hT2, rfl, _, rfl⟩⟩
    have I1 : Inv X pins σ (upd H s.heap.objs.size (.tup [x, .str ⟨#[c']⟩])) { s with heap := h'', toks := tk } :=
      I.turnedNew (ch := [z, TI, TO, i1, i2]) (fun c o hb q => (sb.2 c (fun q' => hb (by simp [q']))).trans (b7 c o (fun q' => hb (by simp [q'])) (fun q' => hb (by simp [q'])) (fun q' => hb (by simp [q'])) (fun q' => hb (by simp [q'])) q)) hf (Nat.le_refl _) nw
    refine ⟨.ref s.heap.objs.size, _, I1, rfl, ⟨_, x, c', rfl, I.hok.fresh (Nat.le_refl _), rfl, fun l hl => by rw [I.tuple_inj hl hq]; exact hx, hc0⟩, ⟨z'', ?_, ⟨x1, .str ⟨#[c']⟩ tc, ?_⟩, ?_, ?_⟩, fun c hcm => ?_⟩
    · exact (sb.2 _ S.TIz).trans (b7 _ _ S.TIz S.TITO S.TIi1 S.TIi2 hTI)
    · exact (sb.2 _ S.TOz).trans b2
    · exact d1.1.at fun o q => (sb.2 _ (Ne.symm S.zi1)).trans q
    · obtain ⟨o, e, cc, dd⟩ := d2
      exact ⟨o, (sb.2 _ (Ne.symm S.zi2)).trans e, cc, dd⟩
    · have hlt : c < s.heap.objs.size := by
        simp only [List.mem_cons, List.not_mem_nil, or_false] at hcm
        rcases hcm with rfl | rfl | rfl | rfl | rfl
        · exact hzl
        · exact Heap.lt_size hTI
        · exact Heap.lt_size hTO
        · obtain ⟨_, e1, _⟩ := h1
          exact Heap.lt_size e1
        · obtain ⟨_, e2, _⟩ := h2
          exact Heap.lt_size e2
      rw [upd_ne (Nat.ne_of_lt hlt)]
      exact (hf c hcm).1
  done := by
    intro X hP hw hK hc i pins s σ H E I hf st hg
    subst hP hw hK
    obtain ⟨hz, hTI, ⟨u0, v0, hTO⟩, h1, h2⟩ := st
    obtain ⟨xs, hq, l1, l2, hend⟩ := hg
    obtain ⟨its, rv, p1, _⟩ := I.tuple hq
    have p1' : s.heap.IsTuple a its.toArray := p1
    have nai : a ≠ i1 := fun e => by
      obtain ⟨o1, g1, c1, _⟩ := p1'
      obtain ⟨o2, g2, c2, _⟩ := h1
      rw [e] at g1
      cases g1.symm.trans g2
      exact absurd (Value.type.inj (c1.symm.trans c2)) (by decide)
    have hd : X.A.in1.handled = none := I.ok.hd hc
    have el : its.toArray.size = xs.length := by
      rw [List.size_toArray]
      exact rv.length.symm
    exact wpAny_pyNext_zipD2_end S (Draws.tuple hd i1 a nai its.toArray) (Draws.text hd i2 y t) hz hTI hTO ⟨h1, p1'⟩ h2 (by omega) l2 (by omega) fun h' tk hk => ⟨rfl, I.turnedL (t' := tk) (ch := [z, TI, TO, i1, i2]) (fun c o hb q =>
      hk c o (fun q' => hb (by simp [q'])) (fun q' => hb (by simp [q'])) (fun q' => hb (by simp [q'])) (fun q' => hb (by simp [q'])) q) hf⟩
  self := fun A i s Q E st h => wpAny_pyIter_zip st.1 h
theorem sepS (n a : Nat) (h : a < n) : ZipSep2 (n + 4) (n + 2) (n + 3) n (n + 1) [n, a] [n + 1] where
  TIz := by show (n + 2 : Nat) ≠ n + 4; omega
  TOz := by show (n + 3 : Nat) ≠ n + 4; omega
  TITO := by show (n + 2 : Nat) ≠ n + 3; omega
  TIi1 := by show (n + 2 : Nat) ≠ n; omega
  mem1 := List.mem_cons_self ..
  zf1 := by simp only [List.mem_cons, List.not_mem_nil, or_false]; show ¬ ((n + 4 : Nat) = n ∨ (n + 4 : Nat) = a); omega
  Tf1 := by simp only [List.mem_cons, List.not_mem_nil, or_false]; show ¬ ((n + 3 : Nat) = n ∨ (n + 3 : Nat) = a); omega
  TIi2 := by show (n + 2 : Nat) ≠ n + 1; omega
  mem2 := List.mem_cons_self ..
  zf2 := by simp only [List.mem_cons, List.not_mem_nil, or_false]; show ¬ (n + 4 : Nat) = n + 1; omega
  Tf2 := by simp only [List.mem_cons, List.not_mem_nil, or_false]; show ¬ (n + 3 : Nat) = n + 1; omega
  sep1_2 := by simp only [List.mem_cons, List.not_mem_nil, or_false]; show ¬ (n : Nat) = n + 1; omega
  sep2_1 := by simp only [List.mem_cons, List.not_mem_nil, or_false]; show ¬ ((n + 1 : Nat) = n ∨ (n + 1 : Nat) = a); omega
def iZipS (K : PySem.W.Frag) (ta : TA) : TI := fun σ H R => ta σ H fun vs G => ∃ (a : Addr) (y : Str) (xs : List V), vs = [.ref a, .str y] ∧ SqT K G a xs ∧ R (ItzS K a y) G
theorem pi_zipS {X : Cx} {e e2 : Expr} {ta : TA} {p pos tp : Pos} {es : List Expr} {kk : Nat} (hg : Gl X "zip") (hm : X.mg "zip" = none) (ha : PA X [e, e2] ta)
    (hs : starEach [e, e2] X.env = (false, eval e X.env) :: starEach [e2] X.env := by rfl) (hpl : (backTo pos (starEach [e2] X.env)).any (·.1) = false := by rfl) :
    PI X (.Tuple es kk tp) (.Call (.Name "zip" p) [e, e2] [] pos) (iZipS X.K ta) := by
  refine ⟨fun pins s σ H R I h => ?_⟩
  refine Call_ (ld_blt I hg hm PyProof.Rows.boot_zip (PyProof.Rows.callWith_type1 (thn (ha.run pos pins s σ H _ I h) fun us s1 ⟨vs, G, I1, r1, q1⟩ => ?_) hs hpl))
  obtain ⟨a, y, xs, ex, hq, q⟩ := q1
  subst ex
  cases r1 with
  | cons r rr =>
    cases rr with
    | cons r' rr =>
      cases rr
      cases r
      obtain ⟨t, rfl⟩ := r'
      obtain ⟨its, rv, p1, _⟩ := I1.tuple hq
      have p1' : s1.heap.IsTuple a its.toArray := p1
      have al : a < s1.heap.objs.size := by
        obtain ⟨o, ho, _⟩ := p1'
        exact Heap.lt_size ho
      refine zip_begins2 (begins_tuple a its.toArray) (begins_text y t) p1' trivial fun h' hz hTI hTO e1 e2 hsz hk => wpAny_pyIter_zip hz ?_
      have I2 : Inv X pins σ G { s1 with heap := h' } := I1.kept (t' := s1.toks) hk
      have S := sepS s1.heap.objs.size a al
      refine ⟨s1.heap.objs.size + 4, [s1.heap.objs.size + 4, s1.heap.objs.size + 2, s1.heap.objs.size + 3, s1.heap.objs.size, s1.heap.objs.size + 1], _, _, G, rfl, I2, turn_zipS S, ⟨hz, hTI, ⟨_, _, hTO⟩, ⟨_, e1, rfl, rfl⟩, ⟨_, e2, rfl, rfl⟩⟩, fun c hcm => ?_, q⟩
      have le : s1.heap.objs.size ≤ c := by
        simp only [List.mem_cons, List.not_mem_nil, or_false] at hcm
        rcases hcm with rfl | rfl | rfl | rfl | rfl
        · exact Nat.le_add_right _ _
        · exact Nat.le_add_right _ _
        · exact Nat.le_add_right _ _
        · exact Nat.le_refl _
        · exact Nat.le_add_right _ _
      exact I1.fpOk le (I1.hok.fresh le)
theorem walk_zipS {K : PySem.W.Frag} {a : Addr} {y : Str} {xs : List V} (el : xs.length = y.cps.size) : Walk (ItzS K a y) xs.length (fun H => SqT K H a xs) (fun i H v G => ∃ T x c, xs[i]? = some x ∧ y.cps[i]? = some c ∧ v = .ref T ∧ H T = none ∧ G = upd H T (.tup [x, .str ⟨#[c]⟩])) where
  goes := fun i H hi h => ⟨xs, xs[i], y.cps[i]'(by omega), h, List.getElem?_eq_getElem hi, Array.getElem?_eq_getElem (by omega)⟩
  stops := fun H h => ⟨xs, h, Nat.le_refl _, by omega, .inl rfl⟩
  yields := fun i H v G hi h ⟨T, x, c, e1, e2, e3, e4, e5⟩ => ⟨T, x, c, e4 xs h, e5, e1, e2, e3⟩
end Gu
namespace Gu
open PySem PySem.Spec PyProof.Rows L2
/-! ### views in the heap -/
structure VW where
  pr : Addr
  rw : Addr
  rs : List (Addr × Rec)
  y : Str
def VW.recs (v : VW) : List Rec := v.rs.map (·.2)
def VW.cs (v : VW) : List Nat := v.y.cps.toList
structure ViewAt (C : Addr) (H : Hp) (v : VW) : Prop where
  pr : H v.pr = some (.tup [.ref v.rw, .str v.y])
  row : RowAt C H v.rw v.rs
  l1 : 1 ≤ v.rs.length
  l4 : v.rs.length ≤ 4
  tx : isTxt v.y 200 = true
structure ViewsAt (C : Addr) (H : Hp) (a : Addr) (vs : List VW) : Prop where
  tp : H a = some (.tup (vs.map fun v => V.ref v.pr))
  el : ∀ v ∈ vs, ViewAt C H v
  l1 : 1 ≤ vs.length
  l4 : vs.length ≤ 4
theorem ViewAt.same {C : Addr} {H G : Hp} {v : VW} (s : Same H G) (h : ViewAt C H v) : ViewAt C G v := ⟨s _ _ h.pr, h.row.same s, h.l1, h.l4, h.tx⟩
theorem ViewsAt.same {C : Addr} {H G : Hp} {a : Addr} {vs : List VW} (s : Same H G) (h : ViewsAt C H a vs) : ViewsAt C G a vs := ⟨s _ _ h.tp, fun v hv => (h.el v hv).same s, h.l1, h.l4⟩
/-- a text fits the views -/
def Fits (vs : List VW) (cs : List Nat) : Prop := ∀ v ∈ vs, cuts v.recs cs = v.cs
/-! what is known, by places -/
def Agree (kvs : List (Key × V)) (cs : List Nat) : Prop := ∀ (p c : Nat), valV kvs (Sum.inl (p : Int)) = some (.str (one c)) → cs[p]? = some c
structure Knows (n : Nat) (kvs : List (Key × V)) (Pd : List Nat → Prop) : Prop where
  ks : ∀ k v, valV kvs k = some v → ∃ p c : Nat, k = Sum.inl (p : Int) ∧ p < n ∧ v = .str (one c) ∧ c ∈ signs.cps.toList
  iff : ∀ cs : List Nat, cs.length = n → (Pd cs ↔ Agree kvs cs)
theorem Knows.imp {n : Nat} {kvs : List (Key × V)} {Pd Qd : List Nat → Prop} (h : Knows n kvs Pd) (e : ∀ cs : List Nat, cs.length = n → (Pd cs ↔ Qd cs)) : Knows n kvs Qd := ⟨h.ks, fun cs l => (e cs l).symm.trans (h.iff cs l)⟩
theorem Knows.start (n : Nat) : Knows n [] (fun _ => True) := ⟨fun k v h => (by cases h), fun cs l => ⟨fun _ p c h => (by cases h), fun _ => trivial⟩⟩
theorem one_inj {c d : Nat} (h : V.str (one c) = V.str (one d)) : c = d := by
  have := congrArg (fun z : Str => z.cps.toList) (V.str.inj h)
  exact List.singleton_inj.mp this
/-- one more place is known -/
theorem Knows.put {n p c : Nat} {kvs : List (Key × V)} {Pd : List Nat → Prop} (h : Knows n kvs Pd) (hp : p < n) (hc : c ∈ signs.cps.toList) (e : valV kvs (Sum.inl (p : Int)) = none) : Knows n (putK kvs (Sum.inl (p : Int)) (.str (one c))) (fun cs => Pd cs ∧ cs[p]? = some c) := by
  refine ⟨fun k v q => ?_, fun cs l => ?_⟩
  · rw [valV_put] at q
    split at q
    · next ek => exact ⟨p, c, ek, hp, (Option.some.inj q).symm, hc⟩
    · exact h.ks k v q
  · rw [h.iff cs l]
    constructor
    · rintro ⟨a, b⟩ q d hq
      rw [valV_put] at hq
      split at hq
      · next ek =>
        have ek : q = p := by have := Sum.inl.inj ek; omega
        rw [ek, b, one_inj (Option.some.inj hq)]
      · exact a q d hq
    · intro a
      refine ⟨fun q d hq => a q d ?_, a p c ?_⟩
      · rw [valV_put]
        split
        · next ek =>
          rw [ek, e] at hq
          cases hq
        · exact hq
      · rw [valV_put, if_pos rfl]
theorem fillN_int {cs : List Nat} {p c : Nat} (hp : p < cs.length) : fillN cs (.int (p : Int)) = c ↔ cs[p]? = some c := by
  show cs.getD (p : Int).toNat 0 = c ↔ _
  rw [Int.toNat_natCast, List.getD_eq_getElem?_getD, List.getElem?_eq_getElem hp]
  exact ⟨fun h => congrArg some h, fun h => Option.some.inj h⟩
/-- a row shows a text as y: sign by sign -/
theorem shown_each {rs : List Rec} (hf : ∀ r ∈ rs, r.fit) {cs ys : List Nat} : cuts rs cs = ys ↔ (planV rs cs.length).map (fillN cs) = ys := by
  have e := fill_plan rs cs
  have px : ∀ x ∈ planV rs cs.length, Plain cs.length x := plan_plain hf
  rw [fillN_map px] at e
  rw [ones_inj e]
section
variable {P : Program} {w : World} {K : PySem.W.Frag} {mg : Str → Option Value} {base : Heap} {C : Addr}
theorem Isa.str_intV {H : Hp} {z : Str} : Isa K H (.str z) "int" false := ⟨_, .base (.str z), kit_ty (by decide +kernel)⟩
/-! ### is_row, is_view, check_views -/
def spIsRow (C : Addr) : Sp := fun vs H Q _ => ∃ (a : Addr) (rs : List (Addr × Rec)), vs = [.ref a] ∧ RowAt C H a rs ∧ 1 ≤ rs.length ∧ rs.length ≤ 4 ∧ ∀ G, Same H G → Q (.bl true) G
theorem cal_isRow (B : Bi mg) (S : ShC K mg C) (D : At K mg "is_row" s_is_row ps_is_row) (C_is_tuple : Cal P w K mg base 1 "is_tuple" ps_is_tuple (spIsTuple K)) : Cal P w K mg base 2 "is_row" ps_is_row (spIsRow C) := by
  refine D.cal sc_is_row (fun vs H Q E h => ?_) (fun f cdv A outer s H vs Q E hr h => ?_)
  · obtain ⟨a, rs, rfl, _⟩ := h
    rfl
  · obtain ⟨a, rs, rfl, hR, l1, l4, k⟩ := h
    refine ⟨_, (pss_one (ps_ret (pe_and (pe_own C_is_tuple hr (by decide) (by rfl) (pa_cons (pv 0) (pa_cons pe_int (pa_cons (pe_cst B.MOST_ROW (by rfl)) pa_nil)))) (pe_one (pe_callB (cr_all rfl) (by rfl) B.all (by decide +kernel) (pa_cons (pe_lc (own := [("part", 1)]) (by rfl) sc_is_row.nd (pi_tup (pv 0)) (blkOk_by (own := [("part", 1)]) (N := ["value", "part"]) (sc := defScope s_is_row) (by decide +kernel)) (fun _ _ _ _ _ => pg_name (i := 1) sc_is_row.nd rfl (.inl rfl)) (fun _ _ _ _ _ => pts_nil) (fun _ _ _ _ _ => (pe_callB (id := "isinstance") (r := rIsi K) call_isi (by rfl) B.isinstance (by decide +kernel) (pa_cons (pv 1) (pa_cons (pe_glob (v := .ref C) (by rfl) S.g rfl) pa_nil))))) pa_nil)))))), ?_⟩
    refine ⟨_, rfl, _, _, _, rfl, .inl ⟨a, _, rfl, .inl (.inl hR.tp), _, rfl, ?_⟩⟩
    rw [decide_eq_true (show (1 : Int) ≤ ((rs.map fun q => V.ref q.1).length : Int) ∧ ((rs.map fun q => V.ref q.1).length : Int) ≤ 4 by rw [List.length_map]; omega)]
    refine iteT ⟨_, rfl, a, rfl, ⟨_, .inl (.inl hR.tp)⟩, fun M nM => lc_tup (K := K) (a := a) (xs := rs.map fun q => V.ref q.1) (fun i J => (∃ bs : List Bool, bs.length = i ∧ bs.all id = true ∧ J M = some (.lst (bs.map V.bl))) ∧ Same H J)
      ⟨⟨[], rfl, rfl, upd_same⟩, same_new nM⟩ (fun i J _ ⟨_, sJ⟩ => .inl (.inl (sJ _ _ hR.tp))) ?_ ?_⟩
    · rintro i v J hi ⟨⟨bs, rfl, ha, eM⟩, sJ⟩
      have il := (List.getElem?_eq_some_iff.mp hi).1
      rw [List.length_map] at il
      obtain ⟨q, hq, rfl⟩ : ∃ q ∈ rs, v = .ref q.1 := by
        obtain ⟨q, h1, h2⟩ := List.mem_map.mp (List.mem_of_getElem? hi)
        exact ⟨q, h1, h2.symm⟩
      obtain ⟨dx, b, e1, _⟩ := ((hR.sh q hq).1).same sJ
      refine ⟨rfl, yes (iteT ⟨_, rfl, _, _, _, _, true, rfl, .own C, .base (.ins e1 S.cl S.ha S.hn S.ht S.hm), S.kk, _, eM, small1000 (by rw [List.length_map]; omega), ⟨bs ++ [true], by rw [List.length_append]; rfl, by rw [List.all_append, ha]; rfl, ?_⟩, same_offF sJ nM⟩)⟩
      rw [upd_same, List.map_append]
      rfl
    · rintro J ⟨⟨bs, el, ha, eM⟩, sJ⟩
      refine ⟨M, bs, rfl, .inl (.inl eM), ?_⟩
      rw [ha]
      exact k J sJ
def spIsView (C : Addr) : Sp := fun vs H Q _ => ∃ (v : VW), vs = [.ref v.pr] ∧ ViewAt C H v ∧ ∀ G, Same H G → Q (.bl true) G
theorem cal_isView (B : Bi mg) (D : At K mg "is_view" s_is_view ps_is_view) (C_is_tuple : Cal P w K mg base 1 "is_tuple" ps_is_tuple (spIsTuple K)) (C_is_text : Cal P w K mg base 1 "is_text" ps_is_text (spIsText K)) (C_is_row : Cal P w K mg base 2 "is_row" ps_is_row (spIsRow C)) : Cal P w K mg base 3 "is_view" ps_is_view (spIsView C) := by
  refine D.cal sc_is_view (fun vs H Q E h => ?_) (fun f cdv A outer s H vs Q E hr h => ?_)
  · obtain ⟨v, rfl, _⟩ := h
    rfl
  · obtain ⟨v, rfl, hv, k⟩ := h
    have yl := isTxt_len hv.tx
    refine ⟨_, (pss_one (ps_ret (pe_and (pe_own C_is_tuple hr (by decide) (by rfl) (pa_cons (pv 0) (pa_cons pe_int (pa_cons pe_int pa_nil)))) (pe_and (pe_own C_is_row hr (by decide) (by rfl) (pa_cons (pe_ix ix_tup (pv 0) pe_int (fun _ _ => rfl)) pa_nil)) (pe_one (pe_own C_is_text hr (by decide) (by rfl) (pa_cons (pe_ix ix_tup (pv 0) pe_int (fun _ _ => rfl)) (pa_cons (pe_cst B.MOST_TEXT (by rfl)) pa_nil)))))))), ?_⟩
    refine ⟨_, rfl, _, _, _, rfl, .inl ⟨v.pr, _, rfl, .inl (.inl hv.pr), _, rfl, ?_⟩⟩
    rw [decide_eq_true (show (2 : Int) ≤ (([V.ref v.rw, V.str v.y] : List V).length : Int) ∧ (([V.ref v.rw, V.str v.y] : List V).length : Int) ≤ 2 from ⟨by show (2 : Int) ≤ 2; decide, by show (2 : Int) ≤ 2; decide⟩)]
    refine iteT ⟨_, rfl, v.pr, _, _, _, rfl, rfl, .inl (.inl hv.pr), (rfl : atI [V.ref v.rw, V.str v.y] 0 = some (V.ref v.rw)), ?_⟩
    refine ⟨v.rw, v.rs, rfl, hv.row, hv.l1, hv.l4, fun G sG => ⟨_, rfl, iteT ?_⟩⟩
    refine ⟨_, rfl, v.pr, _, _, _, rfl, rfl, .inl (.inl (sG _ _ hv.pr)), (rfl : atI [V.ref v.rw, V.str v.y] 1 = some (V.str v.y)), ?_⟩
    refine ⟨_, _, rfl, .inl ⟨v.y, rfl, by omega, fun G2 s2 => ?_⟩⟩
    rw [show isTxt v.y 200 = true from hv.tx]
    exact k G2 (sG.trans s2)
def spCheckViews (C : Addr) : Sp := fun vs H Q _ => ∃ (a : Addr) (ws : List VW), vs = [.ref a] ∧ ViewsAt C H a ws ∧ ∀ G, Same H G → Q .non G
theorem cal_checkViews (B : Bi mg) (D : At K mg "check_views" s_check_views ps_check_views) (C_is_tuple : Cal P w K mg base 1 "is_tuple" ps_is_tuple (spIsTuple K)) (C_is_view : Cal P w K mg base 3 "is_view" ps_is_view (spIsView C)) : Cal P w K mg base 4 "check_views" ps_check_views (spCheckViews C) := by
  refine D.cal sc_check_views (fun vs H Q E h => ?_) (fun f cdv A outer s H vs Q E hr h => ?_)
  · obtain ⟨a, ws, rfl, _⟩ := h
    rfl
  · obtain ⟨a, ws, rfl, hV, k⟩ := h
    have l1 := hV.l1
    have l4 := hV.l4
    refine ⟨_, (pss_cons (ps_if (pt_not (pt_val (pe_own C_is_tuple hr (by decide) (by rfl) (pa_cons (pv 0) (pa_cons pe_int (pa_cons (pe_cst B.MOST_VIEWS (by rfl)) pa_nil)))))) pss_never pss_nil)
      (pss_one (ps_for PassesOwn.never rfl (pi_enT (by rfl) B.enumerate (pa_cons (pv 0) pa_nil)) (pg_tup rfl (pgs_cons (pg_name (i := 1) sc_check_views.nd rfl (.inl rfl)) (pgs_cons (pg_name (i := 2) sc_check_views.nd rfl (.inl rfl)) pgs_nil)))
      (pss_one (ps_if (pt_not (pt_val (pe_own C_is_view hr (by decide) (by rfl) (pa_cons (pv 2) pa_nil)))) pss_never pss_nil))))), ?_⟩
    refine ⟨_, rfl, _, _, _, rfl, .inl ⟨a, _, rfl, .inl (.inl hV.tp), _, rfl, ?_⟩⟩
    rw [decide_eq_true (show (1 : Int) ≤ ((ws.map fun v => V.ref v.pr).length : Int) ∧ ((ws.map fun v => V.ref v.pr).length : Int) ≤ 4 by rw [List.length_map]; omega)]
    refine iteF ⟨_, rfl, a, _, rfl, .inl (.inl hV.tp), for_it walk_enT (fun i σ J => ∃ u v, σ = [some (.ref a), u, v] ∧ Same H J) ⟨none, none, rfl, Same.refl H⟩ (fun i σ J _ ⟨_, _, _, sJ⟩ => .inl (.inl (sJ _ _ hV.tp))) ?_ ?_⟩
    · rintro i x σ J J1 hi ⟨u, v2, rfl, sJ⟩ ⟨T, z, hz, rfl, nT, rfl⟩
      obtain ⟨v, hv, rfl⟩ : ∃ v ∈ ws, z = .ref v.pr := by
        obtain ⟨q, h1, h2⟩ := List.mem_map.mp (List.mem_of_getElem? hz)
        exact ⟨q, h1, h2.symm⟩
      have sT : Same H (upd J T (.tup [.int (i : Nat), .ref v.pr])) := sJ.trans (same_new nT)
      refine ⟨T, _, rfl, .inl (.inl upd_same), rfl, _, _, rfl, _, _, rfl, rfl, ?_⟩
      exact ⟨_, rfl, v, rfl, (hV.el v hv).same sT, fun G sG => ⟨_, rfl, iteF ⟨_, _, rfl, sT.trans sG⟩⟩⟩
    · rintro σ J ⟨u, v, rfl, sJ⟩
      exact k J sJ
/-! ### known_signs -/
def spKnown (C : Addr) : Sp := fun vs H Q _ => ∃ (a : Addr) (n : Nat) (ws : List VW), vs = [.ref a, .int (n : Int)] ∧ ViewsAt C H a ws ∧ n ≤ 500 ∧ ((∀ cs : List Nat, cs.length = n → ¬ Fits ws cs) → ∀ G, Same H G → Q .non G) ∧ ∀ (d : Addr) (kvs : List (Key × V)) (G : Hp), H d = none → Same H G → G d = some (.dK kvs) → Knows n kvs (Fits ws) → Q (.ref d) G
/-- the signs of one view, up to i -/
def Upto (n : Nat) (rs : List Rec) (ys : List Nat) (i : Nat) (cs : List Nat) : Prop := ∀ j x c, j < i → (planV rs n)[j]? = some x → ys[j]? = some c → fillN cs x = c
theorem upto_all {n : Nat} {rs : List Rec} (hf : ∀ r ∈ rs, r.fit) {ys cs : List Nat} (l : cs.length = n) (e : (planV rs n).length = ys.length) : Upto n rs ys ys.length cs ↔ cuts rs cs = ys := by
  rw [shown_each hf, l]
  constructor
  · intro h
    refine List.ext_getElem (by rw [List.length_map]; exact e) fun j h1 h2 => ?_
    rw [List.getElem_map]
    exact h j _ _ h2 (List.getElem?_eq_getElem _) (List.getElem?_eq_getElem h2)
  · intro h j x c hj hx hc
    rw [← h, List.getElem?_map, hx] at hc
    exact Option.some.inj hc
theorem upto_next {n : Nat} {rs : List Rec} {ys cs : List Nat} {i : Nat} {x : V} {c : Nat} (hx : (planV rs n)[i]? = some x) (hc : ys[i]? = some c) : Upto n rs ys (i + 1) cs ↔ Upto n rs ys i cs ∧ fillN cs x = c := by
  constructor
  · exact fun h => ⟨fun j x c hj => h j x c (by omega), h i x c (by omega) hx hc⟩
  · rintro ⟨h, e⟩ j u d hj hu hd
    rcases Nat.lt_or_ge j i with q | q
    · exact h j u d q hu hd
    · obtain rfl : j = i := by omega
      rw [hx] at hu
      rw [hc] at hd
      cases hu
      cases hd
      exact e
theorem fits_take {ws : List VW} {i : Nat} {v : VW} {cs : List Nat} (h : ws[i]? = some v) : Fits (ws.take (i + 1)) cs ↔ Fits (ws.take i) cs ∧ cuts v.recs cs = v.cs := by
  rw [takeF_next h]
  constructor
  · exact fun q => ⟨fun u hu => q u (List.mem_append.mpr (.inl hu)), q v (List.mem_append.mpr (.inr (List.mem_singleton.mpr rfl)))⟩
  · rintro ⟨a, b⟩ u hu
    rcases List.mem_append.mp hu with hu | hu
    · exact a u hu
    · rw [List.mem_singleton.mp hu]
      exact b
set_option maxHeartbeats 1000000 in
theorem cal_known (B : Bi mg) (D : At K mg "known_signs" s_known_signs ps_known_signs) (C_planned : Cal P w K mg base 2 "planned" ps_planned (spPlanned C)) : Cal P w K mg base 3 "known_signs" ps_known_signs (spKnown C) := by
  refine D.cal sc_known_signs (fun vs H Q E h => ?_) (fun f cdv A outer s H vs Q E hr h => ?_)
  · obtain ⟨a, n, ws, rfl, _⟩ := h
    rfl
  · obtain ⟨a, n, ws, rfl, hV, hn, kN, kS⟩ := h
    refine ⟨_, (pss_cons (ps_set (i := 2) sc_known_signs.nd rfl (.inl rfl) pe_dnewK)
      (pss_cons (ps_for PassesOwn.never rfl (pi_tup (pv 0)) (pg_tup rfl (pgs_cons (pg_name (i := 3) sc_known_signs.nd rfl (.inl rfl)) (pgs_cons (pg_name (i := 4) sc_known_signs.nd rfl (.inl rfl)) pgs_nil)))
      (pss_cons (ps_set (i := 5) sc_known_signs.nd rfl (.inl rfl) (pe_own C_planned hr (by decide) (by rfl) (pa_cons (pv 3) (pa_cons (pv 1) pa_nil))))
      (pss_cons (ps_if (pt_cmpR op_ne (pe_callB call_len (by rfl) B.len (by decide +kernel) (pa_cons (pv 5) pa_nil)) (pe_callB call_len (by rfl) B.len (by decide +kernel) (pa_cons (pv 4) pa_nil)) (nomark _)) (pss_one (ps_ret pe_non)) pss_nil)
      (pss_one (ps_for PassesOwn.never rfl (pi_zipS (by rfl) B.zip (pa_cons (pv 5) (pa_cons (pv 4) pa_nil))) (pg_tup rfl (pgs_cons (pg_name (i := 6) sc_known_signs.nd rfl (.inl rfl)) (pgs_cons (pg_name (i := 7) sc_known_signs.nd rfl (.inl rfl)) pgs_nil)))
      (pss_cons (ps_set (i := 8) sc_known_signs.nd rfl (.inl rfl) (pe_mid (pe_ifExp (pt_val (pe_callB call_isi (by rfl) B.isinstance (by decide +kernel) (pa_cons (pv 6) (pa_cons (pe_bltn (v := .ty "int") (by rfl) B.int (by decide +kernel) rfl) pa_nil)))) (pe_dsetd (pv 2) (pv 6) (pv 7) ⟨rfl, rfl, rfl, rfl⟩) (pv 6))))
      (pss_one (ps_if (pt_cmpR op_ne (pv 8) (pv 7) (nomark _)) (pss_one (ps_ret pe_non)) pss_nil))))))))
      (pss_one (ps_ret (pv 2))))), ?_⟩
    refine fun d nd => ?_
    have s0 : Same H (upd H d (.dK [])) := same_new nd
    refine ⟨_, rfl, a, rfl, ⟨_, .inl (.inl (s0 _ _ hV.tp))⟩, for_tup (K := K) (a := a) (xs := ws.map fun v => V.ref v.pr) (fun i σ J => ∃ (kvs : List (Key × V)) (b1 b2 b3 b4 b5 b6 : Option V), σ = [some (.ref a), some (.int (n : Int)), some (.ref d), b1, b2, b3, b4, b5, b6] ∧ Same H J ∧ J d = some (.dK kvs) ∧ Knows n kvs (Fits (ws.take i)) ∧ kvs.length ≤ 1000 * i)
      ⟨[], none, none, none, none, none, none, rfl, s0, upd_same, (Knows.start n).imp (fun cs _ => ⟨fun _ v hv => (by cases hv), fun _ => trivial⟩), Nat.zero_le _⟩ (fun i σ J _ ⟨_, _, _, _, _, _, _, _, sJ, _⟩ => .inl (.inl (sJ _ _ hV.tp))) ?_ ?_⟩
    · rintro i x σ J hi ⟨kvs, b1, b2, b3, b4, b5, b6, rfl, sJ, eD, kn, kl⟩
      rw [List.getElem?_map] at hi
      cases hv : ws[i]? with
      | none =>
        rw [hv] at hi
        cases hi
      | some v =>
        rw [hv] at hi
        cases hi
        have mv : v ∈ ws := List.mem_of_getElem? hv
        have il : i < ws.length := (List.getElem?_eq_some_iff.mp hv).1
        have w4 := hV.l4
        have vw := (hV.el v mv).same sJ
        have fr : ∀ r ∈ v.recs, r.fit := vw.row.fits
        have yl := isTxt_len vw.tx
        have ys : Signs v.cs := isTxt_signs vw.tx
        have yL : v.y.length = v.cs.length := rfl
        have yZ : v.y.cps.size = v.cs.length := rfl
        refine ⟨v.pr, _, rfl, .inl (.inl vw.pr), rfl, _, _, rfl, _, _, rfl, rfl, ?_⟩
        refine ⟨_, rfl, _, rfl, v.rw, n, v.rs, rfl, vw.row, hn, fun U G1 s1 e1 => ?_⟩
        have e1 : G1 U = some (.tup (planV v.recs n)) := e1
        have pl := plan_len fr (n := n) hn
        refine ⟨_, rfl, _, _, rfl, .inr ⟨_, .inl (.inl e1), rfl⟩, _, rfl, _, _, rfl, ⟨Nat.le_of_lt (small1000 (by omega)), rfl⟩, rfl, _, rfl, ?_⟩
        by_cases el : (planV v.recs n).length = v.cs.length
        · rw [decide_eq_true (show V.int ((planV v.recs n).length : Int) = V.int (v.y.length : Int) by rw [el, yL])]
          refine iteF ⟨_, rfl, _, rfl, U, v.y, _, rfl, .inl (.inl e1), for_it (walk_zipS (by rw [el, yZ])) (fun j σ J1 => ∃ (kvs : List (Key × V)) (c1 c2 c3 : Option V), σ = [some (.ref a), some (.int (n : Int)), some (.ref d), some (.ref v.rw), some (.str v.y), some (.ref U), c1, c2, c3] ∧ Same H J1 ∧ J1 U = some (.tup (planV v.recs n)) ∧ J1 d = some (.dK kvs) ∧ Knows n kvs (fun cs => Fits (ws.take i) cs ∧ Upto n v.recs v.cs j cs) ∧ kvs.length ≤ 1000 * i + j)
            ⟨kvs, b4, b5, b6, rfl, sJ.trans s1, e1, s1 _ _ eD, kn.imp (fun cs _ => ⟨fun h => ⟨h, fun j x c hj => absurd hj (by omega)⟩, fun h => h.1⟩), by omega⟩ (fun j σ J1 _ ⟨_, _, _, _, _, _, h, _⟩ => .inl (.inl h)) ?_ ?_⟩
          · rintro j z σ1 J1 _ hj ⟨kvs1, c1, c2, c3, rfl, s2, e2, eD1, kn1, kl1⟩ ⟨T, sx, c, hx, hc, rfl, nT, rfl⟩
            have hc : v.cs[j]? = some c := by
              rw [← Array.getElem?_toList] at hc
              exact hc
            have cs1 : c ∈ signs.cps.toList := ys c (List.mem_of_getElem? hc)
            have sT : Same J1 (upd J1 T (.tup [sx, .str ⟨#[c]⟩])) := same_new nT
            have eD2 := sT _ _ eD1
            have e3 := sT _ _ e2
            have s3 := s2.trans sT
            refine ⟨T, _, rfl, .inl (.inl upd_same), rfl, _, _, rfl, _, _, rfl, rfl, ?_⟩
            generalize upd J1 T (.tup [sx, .str ⟨#[c]⟩]) = J2 at eD2 e3 s3
            have px : Plain n sx := plan_plain fr sx (List.mem_of_getElem? hx)
            rcases px with ⟨q, rfl, q0, qn⟩ | ⟨g, rfl, _⟩
            · obtain ⟨q, rfl⟩ := Int.eq_ofNat_of_zero_le q0
              have qn : q < n := by omega
              cases eq : valV kvs1 (Sum.inl (q : Int)) with
              | some u =>
                obtain ⟨q', g, ek, _, rfl, _⟩ := kn1.ks _ _ eq
                refine ⟨fun t J3 => t = .str (one g) ∧ J2 = J3, ?_, ?_⟩
                · obtain ⟨t, i1, i2⟩ := Isa.int_int (K := K) (H := J2) (i := (q : Int))
                  refine ⟨_, rfl, _, _, t, _, true, rfl, .ty _, i1, i2, _, rfl, iteT ⟨_, rfl, d, rfl, .inl ⟨_, .inl eD2⟩, _, rfl, _, rfl, kvs1, Sum.inl (q : Int), eD2, rfl, Nat.lt_of_le_of_lt (show _ ≤ 6000 by omega) (by decide), fun v hv => ?_, fun hv => ?_⟩⟩
                  · rw [eq] at hv
                    cases hv
                    exact ⟨rfl, rfl⟩
                  · rw [eq] at hv
                    cases hv
                · rintro _ _ ⟨rfl, rfl⟩
                  refine ⟨_, rfl, _, rfl, rfl, _, rfl, ?_⟩
                  by_cases gc : g = c
                  · subst gc
                    rw [decide_eq_true (show V.str (one g) = V.str ⟨#[g]⟩ from rfl)]
                    refine iteF ⟨kvs1, _, _, _, rfl, s3, e3, eD2, kn1.imp (fun cs l => ?_), by omega⟩
                    rw [upto_next hx hc]
                    constructor
                    · rintro h
                      exact ⟨h.1, h.2, (fillN_int (by omega)).mpr ((kn1.iff cs l).mp h q g eq)⟩
                    · exact fun h => ⟨h.1, h.2.1⟩
                  · rw [decide_eq_false (show ¬ V.str (one g) = V.str ⟨#[c]⟩ from fun h => gc (one_inj h))]
                    refine iteT (kN (fun cs l ft => gc ?_) J2 s3)
                    have f1 := (fits_take hv).mp (fun u hu => ft u (List.mem_of_mem_take hu))
                    have up := (upto_all fr l el).mpr f1.2
                    have a1 := (kn1.iff cs l).mp ⟨f1.1, fun m x c hm => up m x c (by omega)⟩ q g eq
                    have jl : j < v.cs.length := (List.getElem?_eq_some_iff.mp hc).1
                    have a2 := (fillN_int (by omega)).mp (up j _ c jl hx hc)
                    exact Option.some.inj (a1.symm.trans a2)
              | none =>
                refine ⟨fun t J3 => t = .str (one c) ∧ J3 = upd J2 d (.dK (putK kvs1 (Sum.inl (q : Int)) (.str (one c)))), ?_, ?_⟩
                · obtain ⟨t, i1, i2⟩ := Isa.int_int (K := K) (H := J2) (i := (q : Int))
                  refine ⟨_, rfl, _, _, t, _, true, rfl, .ty _, i1, i2, _, rfl, iteT ⟨_, rfl, d, rfl, .inl ⟨_, .inl eD2⟩, _, rfl, _, rfl, kvs1, Sum.inl (q : Int), eD2, rfl, Nat.lt_of_le_of_lt (show _ ≤ 6000 by omega) (by decide), fun v hv => ?_, fun hv => ⟨rfl, rfl⟩⟩⟩
                  rw [eq] at hv
                  cases hv
                · rintro _ _ ⟨rfl, rfl⟩
                  refine ⟨_, rfl, _, rfl, rfl, _, rfl, ?_⟩
                  rw [decide_eq_true (show V.str (one c) = V.str ⟨#[c]⟩ from rfl)]
                  have kl2 := length_putK kvs1 (Sum.inl (q : Int)) (.str (one c))
                  have nUd : U ≠ d := ne_of e3 eD2 (by intro z; cases z)
                  refine iteF ⟨_, _, _, _, rfl, same_offF s3 nd, by rw [upd_ne nUd]; exact e3, upd_same, (kn1.put qn cs1 eq).imp (fun cs l => ?_), by omega⟩
                  rw [upto_next hx hc, fillN_int (by omega)]
                  exact ⟨fun h => ⟨h.1.1, h.1.2, h.2⟩, fun h => ⟨⟨h.1, h.2.1⟩, h.2.2⟩⟩
            · refine ⟨fun t J3 => t = .str (one g) ∧ J2 = J3, ?_, ?_⟩
              · obtain ⟨t, i1, i2⟩ := Isa.str_intV (K := K) (H := J2) (z := one g)
                exact ⟨_, rfl, _, _, t, _, false, rfl, .ty _, i1, i2, _, rfl, iteF ⟨_, rfl, rfl, rfl⟩⟩
              · rintro _ _ ⟨rfl, rfl⟩
                refine ⟨_, rfl, _, rfl, rfl, _, rfl, ?_⟩
                by_cases gc : g = c
                · subst gc
                  rw [decide_eq_true (show V.str (one g) = V.str ⟨#[g]⟩ from rfl)]
                  refine iteF ⟨kvs1, _, _, _, rfl, s3, e3, eD2, kn1.imp (fun cs l => ?_), by omega⟩
                  rw [upto_next hx hc]
                  exact ⟨fun h => ⟨h.1, h.2, rfl⟩, fun h => ⟨h.1, h.2.1⟩⟩
                · rw [decide_eq_false (show ¬ V.str (one g) = V.str ⟨#[c]⟩ from fun h => gc (one_inj h))]
                  refine iteT (kN (fun cs l ft => gc ?_) J2 s3)
                  have f1 := (fits_take hv).mp (fun u hu => ft u (List.mem_of_mem_take hu))
                  have jl : j < v.cs.length := (List.getElem?_eq_some_iff.mp hc).1
                  exact (upto_all fr l el).mpr f1.2 j _ c jl hx hc
          · rintro σ1 J1 ⟨kvs1, c1, c2, c3, rfl, s2, e2, eD1, kn1, kl1⟩
            refine ⟨kvs1, _, _, _, _, _, _, rfl, s2, eD1, kn1.imp (fun cs l => ?_), by omega⟩
            rw [fits_take hv, ← upto_all fr l el, el]
        · rw [decide_eq_false (fun h => el (by have := V.int.inj h; omega))]
          refine iteT (kN (fun cs l ft => el ?_) G1 (sJ.trans s1))
          have := ft v mv
          rw [shown_each fr, l] at this
          rw [← this, List.length_map]
    · rintro σ J ⟨kvs, b1, b2, b3, b4, b5, b6, rfl, sJ, eD, kn, kl⟩
      rw [List.length_map, List.take_length] at kn
      exact ⟨_, rfl, kS d kvs J nd sJ eD kn⟩
end
end Gu
namespace Gu
open PySem PySem.Spec PyProof.Rows L2
/-! ### what is written out -/
/-- the sign at a place, o where it is open -/
def sgn (kvs : List (Key × V)) (o p : Nat) : Nat := match valV kvs (Sum.inl (p : Int)) with
  | some (.str z) => z.cps.toList.getD 0 0
  | _ => o
theorem sgn_some {kvs : List (Key × V)} {o p c : Nat} (h : valV kvs (Sum.inl (p : Int)) = some (.str (one c))) : sgn kvs o p = c := by
  unfold sgn
  rw [h]
  rfl
theorem sgn_none {kvs : List (Key × V)} {o p : Nat} (h : valV kvs (Sum.inl (p : Int)) = none) : sgn kvs o p = o := by
  unfold sgn
  rw [h]
def wrote (kvs : List (Key × V)) (o n : Nat) : List Nat := (List.range n).map (sgn kvs o)
theorem wrote_len (kvs : List (Key × V)) (o n : Nat) : (wrote kvs o n).length = n := by
  unfold wrote
  rw [List.length_map, List.length_range]
theorem wrote_at {kvs : List (Key × V)} {o n p : Nat} (h : p < n) : (wrote kvs o n)[p]? = some (sgn kvs o p) := by
  unfold wrote
  rw [List.getElem?_map, List.getElem?_range h]
  rfl
theorem wrote_agree {n o : Nat} {kvs : List (Key × V)} {Pd : List Nat → Prop} (h : Knows n kvs Pd) : Agree kvs (wrote kvs o n) := fun p c hc => by
  obtain ⟨p', c', ek, hp, _, _⟩ := h.ks _ _ hc
  have ek : p = p' := by have := Sum.inl.inj ek; omega
  rw [wrote_at (by omega), sgn_some hc]
theorem wrote_fits {n o : Nat} {kvs : List (Key × V)} {Pd : List Nat → Prop} (h : Knows n kvs Pd) : Pd (wrote kvs o n) := (h.iff _ (wrote_len ..)).mpr (wrote_agree h)
theorem wrote_signs {n o : Nat} {kvs : List (Key × V)} {Pd : List Nat → Prop} (h : Knows n kvs Pd) (ho : o ∈ signs.cps.toList) : Signs (wrote kvs o n) := fun c hc => by
  obtain ⟨p, hp, rfl⟩ := List.mem_map.mp hc
  cases e : valV kvs (Sum.inl (p : Int)) with
  | none =>
    rw [sgn_none e]
    exact ho
  | some v =>
    obtain ⟨p', c', ek, _, rfl, hs⟩ := h.ks _ _ e
    rw [sgn_some e]
    exact hs
def natV (l : List Nat) : List V := l.map fun a : Nat => V.int (a : Int)
theorem in_natV (i : Int) (l : List Nat) : inV (.int i) (natV l) = decide (0 ≤ i ∧ i.toNat ∈ l) := by
  unfold inV natV
  rw [List.any_map]
  by_cases e : 0 ≤ i ∧ i.toNat ∈ l
  · rw [decide_eq_true e, List.any_eq_true]
    refine ⟨i.toNat, e.2, ?_⟩
    show ((i.toNat : Int) == i) = true
    rw [Int.toNat_of_nonneg e.1]
    exact beq_self_eq_true _
  · rw [decide_eq_false e, List.any_eq_false]
    intro y hy h
    have h : ((y : Int)) = i := eq_of_beq (show ((y : Int) == i) = true from h)
    exact e ⟨by omega, by rw [← h, Int.toNat_natCast]; exact hy⟩
theorem flat_natV (l : List Nat) : (natV l).all flatV = true := by
  unfold natV
  rw [List.all_map, List.all_eq_true]
  exact fun _ _ => rfl
/-- some text of this length fits -/
def Poss (ws : List VW) (n : Nat) : Prop := ∃ cs : List Nat, cs.length = n ∧ Fits ws cs
noncomputable instance decPoss (ws : List VW) (n : Nat) : Decidable (Poss ws n) := Classical.propDecidable _
noncomputable def possL (ws : List VW) (m : Nat) : List Nat := (List.range m).filter fun n => decide (Poss ws n)
theorem mem_possL {ws : List VW} {m n : Nat} : n ∈ possL ws m ↔ n < m ∧ Poss ws n := by
  unfold possL
  rw [List.mem_filter, List.mem_range]
  exact ⟨fun h => ⟨h.1, of_decide_eq_true h.2⟩, fun h => ⟨h.1, decide_eq_true h.2⟩⟩
theorem possL_yes {ws : List VW} {m : Nat} (h : Poss ws m) : possL ws (m + 1) = possL ws m ++ [m] := by
  unfold possL
  rw [List.range_succ, List.filter_append, List.filter_cons, decide_eq_true h]
  rfl
theorem possL_no {ws : List VW} {m : Nat} (h : ¬ Poss ws m) : possL ws (m + 1) = possL ws m := by
  unfold possL
  rw [List.range_succ, List.filter_append, List.filter_cons, decide_eq_false h]
  simp only [Bool.false_eq_true, if_false, List.filter_nil, List.append_nil]
theorem possL_len (ws : List VW) (m : Nat) : (possL ws m).length ≤ m := by
  unfold possL
  exact Nat.le_trans (List.length_filter_le ..) (Nat.le_of_eq List.length_range)
theorem possL_lt (ws : List VW) {b m : Nat} (h : b ≤ m) : (possL ws m).filter (fun n => decide (n < b)) = possL ws b := by
  induction m with
  | zero =>
    obtain rfl : b = 0 := by omega
    rfl
  | succ m ih =>
    by_cases e : b = m + 1
    · subst e
      refine List.filter_eq_self.mpr fun n hn => decide_eq_true ?_
      exact (mem_possL.mp hn).1
    · have z : decide (m < b) = false := decide_eq_false (by omega)
      by_cases p : Poss ws m
      · rw [possL_yes p, List.filter_append, ih (by omega), List.filter_cons, z]
        simp only [Bool.false_eq_true, if_false, List.filter_nil, List.append_nil]
      · rw [possL_no p, ih (by omega)]
/-- what lengths tells -/
def Lens (ws : List VW) (sm : List Nat) (b : V) : Prop := (b = .non ∧ sm = possL ws 81 ∧ ¬ Poss ws 80) ∨ ∃ m : Nat, b = .int (m : Int) ∧ m ≤ 80 ∧ sm = possL ws m ∧ (∀ n, m ≤ n → n ≤ 80 → Poss ws n) ∧ (m = 0 ∨ ¬ Poss ws (m - 1))
/-- what signs tells -/
def Sgn (ws : List VW) (n : Nat) (v : V) : Prop := (v = .non ∧ ∀ cs : List Nat, cs.length = n → ¬ Fits ws cs) ∨ ∃ kvs y, v = .str y ∧ Knows n kvs (Fits ws) ∧ y.cps.toList = wrote kvs 63 n
section
variable {P : Program} {w : World} {K : PySem.W.Frag} {mg : Str → Option Value} {base : Heap} {C : Addr}
def spWritten : Sp := fun vs H Q _ => ∃ (d : Addr) (n o : Nat) (kvs : List (Key × V)) (z : Str) (Pd : List Nat → Prop), vs = [.ref d, .int (n : Int), .str z] ∧ z.cps.toList = [o] ∧ H d = some (.dK kvs) ∧ Knows n kvs Pd ∧ n ≤ 500 ∧ ∀ (y : Str) (G : Hp), Same H G → y.cps.toList = wrote kvs o n → Q (.str y) G
theorem cal_written (B : Bi mg) (D : At K mg "written_out" s_written_out ps_written_out) : Cal P w K mg base 1 "written_out" ps_written_out spWritten := by
  refine D.cal sc_written_out (fun vs H Q E h => ?_) (fun f cdv A outer s H vs Q E hr h => ?_)
  · obtain ⟨d, n, o, kvs, z, Pd, rfl, _⟩ := h
    rfl
  · obtain ⟨d, n, o, kvs, z, Pd, rfl, ez, eD, kn, hn, k⟩ := h
    obtain rfl : z = one o := str_ext ez
    refine ⟨_, (pss_one (ps_ret (pe_join pe_str (pe_lc (own := [("place", 3)]) (by rfl) sc_written_out.nd (pi_range1 (by rfl) B.range (pa_cons (pv 1) pa_nil)) (blkOk_by (own := [("place", 3)]) (N := ["known", "length", "other", "place"]) (sc := defScope s_written_out) (by decide +kernel)) (fun _ _ _ _ _ => pg_name (i := 3) sc_written_out.nd rfl (.inl rfl)) (fun _ _ _ _ _ => pts_nil) (fun _ _ _ _ _ => (pe_dget2 (Nat.lt_of_le_of_lt (Nat.add_le_add_left (by decide) _) hr.units) (pv 0) (pv 3) (pv 2) ⟨rfl, rfl, rfl, rfl⟩)))))), ?_⟩
    refine ⟨⟨_, rfl⟩, _, rfl, _, rfl, by omega, by omega, fun M nM => lc_range (lo := 0) (n := (n : Int).toNat) (fun i J => J M = some (.lst (ones (wrote kvs o i))) ∧ Same H J) ⟨upd_same, same_new nM⟩ ?_ ?_⟩
    · rintro i J hi ⟨eM, sJ⟩
      rw [Int.toNat_natCast] at hi
      refine ⟨rfl, yes (iteT ⟨_, rfl, d, rfl, .inl ⟨_, .inl (sJ _ _ eD)⟩, _, rfl, _, rfl, _, DGet.k (k := Sum.inl (0 + (i : Int))) (sJ _ _ eD), _, eM, small1000 ?_, ?_, same_offF sJ nM⟩)⟩
      · unfold ones
        rw [List.length_map, wrote_len]
        omega
      · rw [upd_same, Int.zero_add]
        have e1 : wrote kvs o (i + 1) = wrote kvs o i ++ [sgn kvs o i] := by
          unfold wrote
          rw [List.range_succ, List.map_append]
          rfl
        have e2 : (valV kvs (Sum.inl (i : Int))).getD (.str (one o)) = .str (one (sgn kvs o i)) := by
          cases e : valV kvs (Sum.inl (i : Int)) with
          | none =>
            rw [sgn_none e]
            rfl
          | some v =>
            obtain ⟨p', c', ek, _, rfl, hs⟩ := kn.ks _ _ e
            rw [sgn_some e]
            rfl
        rw [e2, e1]
        unfold ones
        rw [List.map_append]
        rfl
    · rintro J ⟨eM, sJ⟩
      rw [Int.toNat_natCast, ones_map] at eM
      refine ⟨_, M, _, rfl, rfl, .inl (.inl (.inl eM)), ?_, k _ J sJ (tjoin_ones _)⟩
      rw [ones_len, List.length_map, wrote_len]
      have e0 : (("" : String) : Str).length = 0 := by decide +kernel
      rw [e0]
      omega
def spSigns (C : Addr) : Sp := fun vs H Q _ => ∃ (a : Addr) (n : Nat) (ws : List VW), vs = [.ref a, .int (n : Int)] ∧ ViewsAt C H a ws ∧ n ≤ 500 ∧ ∀ (v : V) (G : Hp), Same H G → Sgn ws n v → Q v G
theorem several : (("?" : String) : Str).cps.toList = [63] := by decide +kernel
theorem cal_signs (B : Bi mg) (D : At K mg "signs" s_signs ps_signs) (C_check_views : Cal P w K mg base 4 "check_views" ps_check_views (spCheckViews C)) (C_check_length : Cal P w K mg base 2 "check_length" ps_check_length spCheckLength) (C_known_signs : Cal P w K mg base 3 "known_signs" ps_known_signs (spKnown C)) (C_written_out : Cal P w K mg base 1 "written_out" ps_written_out spWritten) : Cal P w K mg base 5 "signs" ps_signs (spSigns C) := by
  refine D.cal sc_signs (fun vs H Q E h => ?_) (fun f cdv A outer s H vs Q E hr h => ?_)
  · obtain ⟨a, n, ws, rfl, _⟩ := h
    rfl
  · obtain ⟨a, n, ws, rfl, hV, hn, k⟩ := h
    refine ⟨_, (pss_cons (ps_expr (pe_own C_check_views hr (by decide) (by rfl) (pa_cons (pv 0) pa_nil)))
      (pss_cons (ps_expr (pe_own C_check_length hr (by decide) (by rfl) (pa_cons (pv 1) pa_nil)))
      (pss_cons (ps_set (i := 2) sc_signs.nd rfl (.inl rfl) (pe_own C_known_signs hr (by decide) (by rfl) (pa_cons (pv 0) (pa_cons (pv 1) pa_nil))))
      (pss_cons (ps_if (pt_cmpR op_isN (pv 2) pe_non (nomark _)) (pss_one (ps_ret pe_non)) pss_nil)
      (pss_one (ps_ret (pe_own C_written_out hr (by decide) (by rfl) (pa_cons (pv 2) (pa_cons (pv 1) (pa_cons (pe_cst B.SEVERAL (by rfl)) pa_nil)))))))))), ?_⟩
    refine ⟨_, rfl, a, ws, rfl, hV, fun G1 s1 => ?_⟩
    refine ⟨_, rfl, n, rfl, hn, ?_⟩
    refine ⟨_, rfl, _, rfl, a, n, ws, rfl, hV.same s1, hn, fun no G2 s2 => ?_, fun d kvs G2 nd s2 eD kn => ?_⟩
    · exact ⟨_, rfl, rfl, _, rfl, iteT (k _ G2 (s1.trans s2) (.inl ⟨rfl, no⟩))⟩
    · refine ⟨_, rfl, rfl, _, rfl, iteF ⟨_, rfl, _, rfl, d, n, 63, kvs, _, _, rfl, several, eD, kn, hn, fun y G3 s3 ey => ?_⟩⟩
      exact k _ G3 (s1.trans (s2.trans s3)) (.inr ⟨kvs, y, rfl, kn, ey⟩)
/-! ### number_of -/
def manyOf : V → Int
  | .str y => (38 : Int) ^ (y.cps.toList.count 63)
  | _ => 0
def spNumber (C : Addr) : Sp := fun vs H Q _ => ∃ (a : Addr) (n : Nat) (ws : List VW), vs = [.ref a, .int (n : Int)] ∧ ViewsAt C H a ws ∧ n ≤ 500 ∧ ∀ (v : V) (G : Hp), Same H G → Sgn ws n v → Q (.int (manyOf v)) G
theorem cal_number (B : Bi mg) (D : At K mg "number_of" s_number_of ps_number_of) (C_signs : Cal P w K mg base 5 "signs" ps_signs (spSigns C)) : Cal P w K mg base 6 "number_of" ps_number_of (spNumber C) := by
  refine D.cal sc_number_of (fun vs H Q E h => ?_) (fun f cdv A outer s H vs Q E hr h => ?_)
  · obtain ⟨a, n, ws, rfl, _⟩ := h
    rfl
  · obtain ⟨a, n, ws, rfl, hV, hn, k⟩ := h
    refine ⟨_, (pss_cons (ps_set (i := 2) sc_number_of.nd rfl (.inl rfl) (pe_own C_signs hr (by decide) (by rfl) (pa_cons (pv 0) (pa_cons (pv 1) pa_nil))))
      (pss_cons (ps_if (pt_cmpR op_isN (pv 2) pe_non (nomark _)) (pss_one (ps_ret pe_int)) pss_nil)
      (pss_cons (ps_set (i := 3) sc_number_of.nd rfl (.inl rfl) pe_int)
      (pss_cons (ps_for PassesOwn.never rfl (pi_str (pv 2)) (pg_name (i := 4) sc_number_of.nd rfl (.inl rfl))
      (pss_one (ps_if (pt_cmpR op_eq (pv 4) (pe_cst B.SEVERAL (by rfl)) (nomark _)) (pss_one (ps_aug (i := 3) sc_number_of.nd rfl (.inl rfl) (pe_callB call_len (by rfl) B.len (by decide +kernel) (pa_cons (pe_cst B.SIGNS (by rfl)) pa_nil)) iop_mul)) pss_nil)))
      (pss_one (ps_ret (pv 3))))))), ?_⟩
    refine ⟨_, rfl, _, rfl, a, n, ws, rfl, hV, hn, fun v G1 s1 hv => ?_⟩
    refine ⟨_, rfl, rfl, _, rfl, ?_⟩
    have kk := k v G1 s1 hv
    rcases hv with ⟨rfl, _⟩ | ⟨kvs, y, rfl, kn, ey⟩
    · exact iteT kk
    · refine iteF ⟨_, rfl, y, rfl, for_it walk_str (fun i σ J => ∃ u, σ = [some (.ref a), some (.int (n : Int)), some (.str y), some (.int ((38 : Int) ^ ((y.cps.toList.take i).count 63))), u] ∧ J = G1) ⟨none, rfl, rfl⟩ (fun _ _ _ _ _ => trivial) ?_ ?_⟩
      · rintro i v2 σ J _ hi ⟨u, rfl, rfl⟩ ⟨rfl, c, hc, rfl⟩
        have hc' : y.cps.toList[i]? = some c := by
          rw [← Array.getElem?_toList] at hc
          exact hc
        have e63 : (("?" : String) : Str) = ⟨#[63]⟩ := by decide +kernel
        refine ⟨_, rfl, rfl, _, rfl, ?_⟩
        by_cases h63 : c = 63
        · subst h63
          rw [decide_eq_true (show V.str ⟨#[63]⟩ = V.str ("?" : String) by rw [e63])]
          refine iteT ⟨_, rfl, _, _, rfl, ⟨by decide +kernel, rfl⟩, _, _, rfl, rfl, .inr ⟨by decide +kernel, by decide +kernel⟩, ?_⟩
          refine ⟨some (.str ⟨#[63]⟩), ?_, rfl⟩
          rw [takeF_next hc', List.count_append]
          show [_, _, _, some (V.int ((38 : Int) ^ ((y.cps.toList.take i).count 63) * ((signs.length : Nat) : Int))), _] = _
          rw [show (signs.length : Nat) = 38 by decide +kernel, show List.count 63 [63] = 1 by decide, Int.pow_succ]
          rfl
        · rw [decide_eq_false (show ¬ V.str ⟨#[c]⟩ = V.str ("?" : String) by
            rw [e63]
            exact fun h => h63 (one_inj h))]
          refine iteF ⟨some (.str ⟨#[c]⟩), ?_, rfl⟩
          rw [takeF_next hc', List.count_append, List.count_singleton, if_neg (by simpa using fun h => h63 h), Nat.add_zero]
          rfl
      · rintro σ J ⟨u, rfl, rfl⟩
        rw [List.take_of_length_le (show y.cps.toList.length ≤ y.cps.size from Nat.le_refl _)]
        exact ⟨_, rfl, kk⟩
/-! ### lengths -/
def spLengths (C : Addr) : Sp := fun vs H Q _ => ∃ (a : Addr) (ws : List VW), vs = [.ref a] ∧ ViewsAt C H a ws ∧ ∀ (T S : Addr) (sm : List Nat) (b : V) (G : Hp), Same H G → G T = some (.tup [.ref S, b]) → G S = some (.tup (natV sm)) → Lens ws sm b → Q (.ref T) G
theorem cal_lengths (B : Bi mg) (D : At K mg "lengths" s_lengths ps_lengths) (C_check_views : Cal P w K mg base 4 "check_views" ps_check_views (spCheckViews C)) (C_telling_lengths : Cal P w K mg base 1 "telling_lengths" [] spTelling) (C_known_signs : Cal P w K mg base 3 "known_signs" ps_known_signs (spKnown C)) : Cal P w K mg base 5 "lengths" ps_lengths (spLengths C) := by
  refine D.cal sc_lengths (fun vs H Q E h => ?_) (fun f cdv A outer s H vs Q E hr h => ?_)
  · obtain ⟨a, ws, rfl, _⟩ := h
    rfl
  · obtain ⟨a, ws, rfl, hV, k⟩ := h
    have last : atI (rgV 0 ((81 : Nat) : Int)) (-1) = some (V.int 80) := by decide +kernel
    refine ⟨_, (pss_cons (ps_expr (pe_own C_check_views hr (by decide) (by rfl) (pa_cons (pv 0) pa_nil)))
      (pss_cons (ps_set (i := 1) sc_lengths.nd rfl (.inl rfl) (pe_own0 C_telling_lengths hr (by decide) (by rfl)))
      (pss_cons (ps_setLc (i := 2) (own := [("length", 4)]) (by rfl) sc_lengths.nd rfl rfl (sw_true rfl rfl rfl (by decide +kernel)) (pi_list (pv 1)) (blkOk_by (own := [("length", 4)]) (N := ["views", "tried", "possible", "beyond", "length"]) (sc := defScope s_lengths) (by decide +kernel)) (fun _ _ _ _ _ => pg_name (i := 4) sc_lengths.nd rfl (.inl rfl)) (fun _ _ _ _ _ => (pts_one (pt_cmpR op_notN (pe_own C_known_signs hr (by decide) (by rfl) (pa_cons (pv 0) (pa_cons (pv 4) pa_nil))) pe_non (nomark _)))) (fun _ _ _ _ _ => (pv 4)))
      (pss_cons (ps_if (pt_cmpR op_notIn_seq (pe_ix ix_list (pv 1) (pe_un un_neg pe_int) (fun _ _ => rfl)) (pv 2) (by rfl)) (pss_one (ps_ret (pe_tup (pa_cons (pe_callTy call_tuple_of (by rfl) B.tuple (by decide +kernel) (pa_cons (pv 2) pa_nil)) (pa_cons pe_non pa_nil))))) pss_nil)
      (pss_cons (ps_set (i := 3) sc_lengths.nd rfl (.inr rfl) (pe_ix ix_list (pv 1) (pe_un un_neg pe_int) (fun _ _ => rfl)))
      (pss_cons (ps_while PassesOwn.never (pt_cmpR op_in_seq (pe_op op_sub (pv 3) pe_int) (pv 2) (by rfl))
      (pss_one (ps_aug (i := 3) sc_lengths.nd rfl (.inr rfl) pe_int ip_sub)))
      (pss_one (ps_ret (pe_tup (pa_cons (pe_callTy call_tuple_of (by rfl) B.tuple (by decide +kernel) (pa_cons (pe_lc (own := [("length", 4)]) (by rfl) sc_lengths.nd (pi_list (pv 2)) (blkOk_by (own := [("length", 4)]) (N := ["views", "tried", "possible", "beyond", "length"]) (sc := defScope s_lengths) (by decide +kernel)) (fun _ _ _ _ _ => pg_name (i := 4) sc_lengths.nd rfl (.inl rfl)) (fun _ _ _ _ _ => (pts_one (pt_cmpR op_lt (pv 4) (pv 3) (nomark _)))) (fun _ _ _ _ _ => (pv 4))) pa_nil)) (pa_cons (pv 3) pa_nil))))))))))), ?_⟩
    refine ⟨_, rfl, a, ws, rfl, hV, fun G1 s1 => ?_⟩
    refine ⟨rfl, fun T nT => ?_⟩
    have sT : Same G1 (upd G1 T (.lst (rgV 0 ((81 : Nat) : Int)))) := same_new nT
    have eT : upd G1 T (.lst (rgV 0 ((81 : Nat) : Int))) T = some (.lst (rgV 0 ((81 : Nat) : Int))) := upd_same
    generalize upd G1 T (.lst (rgV 0 ((81 : Nat) : Int))) = G2 at sT eT
    have hV2 := hV.same (s1.trans sT)
    refine ⟨_, rfl, T, rfl, ⟨_, .inl (.inl eT)⟩, fun M nM => lc_list (K := K) (a := T) (xs := rgV 0 ((81 : Nat) : Int)) (fun i J => J M = some (.lst (natV (possL ws i))) ∧ Same G2 J)
      ⟨upd_same, same_new nM⟩ (fun i J _ ⟨_, sJ⟩ => .inl (.inl (sJ _ _ eT))) ?_ ?_⟩
    · rintro i x J hi ⟨eM, sJ⟩
      rw [rg_get] at hi
      have i81 : i < 81 := Decidable.byContradiction fun h => by
        rw [if_neg h] at hi
        cases hi
      rw [if_pos i81] at hi
      cases hi
      have pl := possL_len ws i
      refine ⟨rfl, _, rfl, _, rfl, a, i, ws, rfl, hV2.same sJ, by omega, fun no G sG => ⟨rfl, _, rfl, iteNS rfl ?_⟩, fun d kvs G nd sG eD kn => ⟨rfl, _, rfl, ?_⟩⟩
      · refine ⟨?_, sJ.trans sG⟩
        rw [possL_no (fun ⟨cs, l, h⟩ => no cs l h)]
        exact sG _ _ eM
      · rw [decide_eq_false (fun h => by cases h)]
        refine iteT ⟨_, rfl, _, sG _ _ eM, small1000 ?_, ?_, same_offF (sJ.trans sG) nM⟩
        · unfold natV
          rw [List.length_map]
          omega
        · rw [upd_same, possL_yes ⟨wrote kvs 46 i, wrote_len .., wrote_fits kn⟩]
          unfold natV
          rw [List.map_append]
          rfl
    · rintro J ⟨eM, sJ⟩
      rw [rg_len] at eM
      have s2 := s1.trans (sT.trans sJ)
      refine ⟨_, rfl, _, rfl, T, _, _, _, rfl, rfl, .inl (.inl (sJ _ _ eT)), last, _, rfl, M, _, rfl, .inl (.inl (.inl eM)), rfl, flat_natV _, _, rfl, ?_⟩
      rw [in_natV]
      by_cases p80 : Poss ws 80
      · rw [decide_eq_true (show (0 : Int) ≤ 80 ∧ (80 : Int).toNat ∈ possL ws 81 from ⟨by decide, mem_possL.mpr ⟨by decide, p80⟩⟩)]
        refine iteF ⟨_, rfl, _, rfl, T, _, _, _, rfl, rfl, .inl (.inl (sJ _ _ eT)), last, ?_⟩
        refine ⟨fun m σ J1 => ∃ (b : Nat) (u v : Option V), m = b ∧ b ≤ 80 ∧ σ = [some (.ref a), some (.ref T), some (.ref M), some (.int (b : Int)), u] ∧ J1 = J ∧ ∀ n, b ≤ n → n ≤ 80 → Poss ws n, ⟨80, 80, none, none, rfl, Nat.le_refl _, rfl, rfl, fun n h1 h2 => by rw [show n = 80 by omega]; exact p80⟩, ?_⟩
        rintro m σ J1 ⟨b, u, v, rfl, b80, rfl, rfl, hb⟩
        refine ⟨_, rfl, _, _, rfl, rfl, _, rfl, M, _, rfl, .inl (.inl (.inl eM)), rfl, flat_natV _, _, rfl, ?_⟩
        rw [in_natV]
        by_cases hq : (0 : Int) ≤ (m : Int) - 1 ∧ ((m : Int) - 1).toNat ∈ possL ws 81
        · rw [decide_eq_true hq]
          refine iteT ⟨_, fun σ' H' h => h, _, rfl, _, _, rfl, rfl, ?_⟩
          refine ⟨m - 1, by omega, m - 1, u, none, rfl, by omega, ?_, rfl, fun n h1 h2 => ?_⟩
          · have : ((m : Int) - 1) = ((m - 1 : Nat) : Int) := by omega
            show [_, _, _, some (V.int ((m : Int) - 1)), _] = _
            rw [this]
          · rcases Nat.lt_or_ge n m with h | h
            · have e : ((m : Int) - 1).toNat = n := by omega
              rw [e] at hq
              exact (mem_possL.mp hq.2).2
            · exact hb n h h2
        · rw [decide_eq_false hq]
          refine iteF ?_
          refine ⟨_, rfl, M, rfl, ⟨_, .inl (.inl eM)⟩, fun N nN => lc_list (K := K) (a := M) (xs := natV (possL ws 81)) (fun i J2 => J2 N = some (.lst (natV (((possL ws 81).take i).filter fun n => decide (n < m)))) ∧ Same J1 J2)
            ⟨upd_same, same_new nN⟩ (fun i J2 _ ⟨_, s3⟩ => .inl (.inl (s3 _ _ eM))) ?_ ?_⟩
          · rintro i x J2 hi ⟨eN, s3⟩
            unfold natV at hi
            rw [List.getElem?_map] at hi
            cases hx : (possL ws 81)[i]? with
            | none =>
              rw [hx] at hi
              cases hi
            | some q =>
              rw [hx] at hi
              cases hi
              have pl := possL_len ws 81
              refine ⟨rfl, _, rfl, _, rfl, _, _, rfl, rfl, _, rfl, ?_⟩
              by_cases qm : q < m
              · rw [decide_eq_true (show (q : Int) < (m : Int) by omega)]
                refine iteT ⟨_, rfl, _, eN, small1000 ?_, ?_, same_offF s3 nN⟩
                · unfold natV
                  rw [List.length_map]
                  refine Nat.le_trans (List.length_filter_le ..) ?_
                  rw [List.length_take]
                  omega
                · rw [upd_same, takeF_next hx, List.filter_append, List.filter_cons, decide_eq_true qm]
                  unfold natV
                  rw [List.map_append]
                  rfl
              · rw [decide_eq_false (show ¬ (q : Int) < (m : Int) by omega)]
                refine iteF ⟨?_, s3⟩
                rw [eN, takeF_next hx, List.filter_append, List.filter_cons, decide_eq_false qm]
                simp only [Bool.false_eq_true, if_false, List.filter_nil, List.append_nil]
          · rintro J2 ⟨eN, s3⟩
            have ll : (natV (possL ws 81)).length = (possL ws 81).length := by
              unfold natV
              rw [List.length_map]
            rw [ll, List.take_length, possL_lt ws (show m ≤ 81 by omega)] at eN
            refine ⟨N, _, rfl, .inl ⟨.inl (.inl eN), fun S nS => ?_⟩⟩
            have sS : Same J2 (upd J2 S (.tup (natV (possL ws m)))) := same_new nS
            refine ⟨_, rfl, by show 2 ≤ sizeLine; decide, fun R nR => ?_⟩
            have sR : Same (upd J2 S (.tup (natV (possL ws m)))) (upd (upd J2 S (.tup (natV (possL ws m)))) R (.tup [.ref S, .int (m : Int)])) := same_new nR
            refine k R S (possL ws m) _ _ (s2.trans (s3.trans (sS.trans sR))) upd_same (sR _ _ upd_same) (.inr ⟨m, rfl, b80, rfl, hb, ?_⟩)
            by_cases m0 : m = 0
            · exact .inl m0
            · refine .inr fun h => hq ⟨by omega, mem_possL.mpr ⟨by omega, ?_⟩⟩
              rw [show ((m : Int) - 1).toNat = m - 1 by omega]
              exact h
      · rw [decide_eq_false (show ¬ ((0 : Int) ≤ 80 ∧ (80 : Int).toNat ∈ possL ws 81) from fun h => p80 (mem_possL.mp h.2).2)]
        refine iteT ⟨_, rfl, M, _, rfl, .inl ⟨.inl (.inl eM), fun S nS => ?_⟩⟩
        have sS : Same J (upd J S (.tup (natV (possL ws 81)))) := same_new nS
        refine ⟨by show 2 ≤ sizeLine; decide, fun R nR => ?_⟩
        have sR : Same (upd J S (.tup (natV (possL ws 81)))) (upd (upd J S (.tup (natV (possL ws 81)))) R (.tup [.ref S, .non])) := same_new nR
        exact k R S (possL ws 81) _ _ (s2.trans (sS.trans sR)) upd_same (sR _ _ upd_same) (.inl ⟨rfl, rfl, p80⟩)
/-! ### only_text, least_text -/
/-- the least text -/
def Least (ws : List VW) (v : V) : Prop := (v = .non ∧ possL ws 81 = []) ∨ ∃ n kvs y, v = .str y ∧ n ≤ 80 ∧ Poss ws n ∧ (∀ m, m < n → ¬ Poss ws m) ∧ Knows n kvs (Fits ws) ∧ y.cps.toList = wrote kvs 46 n
def spLeast (C : Addr) : Sp := fun vs H Q _ => ∃ (a : Addr) (ws : List VW), vs = [.ref a] ∧ ViewsAt C H a ws ∧ ∀ (v : V) (G : Hp), Same H G → Least ws v → Q v G
theorem possL_head {ws : List VW} {m q : Nat} {l : List Nat} (h : possL ws m = q :: l) : q < m ∧ Poss ws q ∧ ∀ k, k < q → ¬ Poss ws k := by
  have hq := mem_possL.mp (show q ∈ possL ws m by rw [h]; exact List.mem_cons_self ..)
  refine ⟨hq.1, hq.2, fun k hk hp => ?_⟩
  have mk : k ∈ possL ws m := mem_possL.mpr ⟨by omega, hp⟩
  have pw : (possL ws m).Pairwise (· < ·) := by
    unfold possL
    exact List.Pairwise.filter _ List.pairwise_lt_range
  rw [h] at mk pw
  rcases List.mem_cons.mp mk with e | e
  · omega
  · have := (List.pairwise_cons.mp pw).1 k e
    omega
theorem dot1 : (⟨#[46]⟩ : Str).cps.toList = [46] := rfl
theorem cal_least (B : Bi mg) (D : At K mg "least_text" s_least_text ps_least_text) (C_lengths : Cal P w K mg base 5 "lengths" ps_lengths (spLengths C)) (C_known_signs : Cal P w K mg base 3 "known_signs" ps_known_signs (spKnown C)) (C_written_out : Cal P w K mg base 1 "written_out" ps_written_out spWritten) : Cal P w K mg base 6 "least_text" ps_least_text (spLeast C) := by
  refine D.cal sc_least_text (fun vs H Q E h => ?_) (fun f cdv A outer s H vs Q E hr h => ?_)
  · obtain ⟨a, ws, rfl, _⟩ := h
    rfl
  · obtain ⟨a, ws, rfl, hV, k⟩ := h
    have s0 : atI signs.cps.toList 0 = some 46 := by decide +kernel
    refine ⟨_, (pss_cons (ps_asg (pe_own C_lengths hr (by decide) (by rfl) (pa_cons (pv 0) pa_nil)) (pg_tup rfl (pgs_cons (pg_name (i := 1) sc_least_text.nd rfl (.inl rfl)) (pgs_cons (pg_name (i := 2) sc_least_text.nd rfl (.inl rfl)) pgs_nil))))
      (pss_cons (ps_set (i := 3) sc_least_text.nd rfl (.inl rfl) (pe_mid (pe_ifExp (pt_truth (pv 1) (fun _ => rfl)) (pe_ix ix_tup (pv 1) pe_int (fun _ _ => rfl)) (pv 2))))
      (pss_cons (ps_if (pt_cmpR op_isN (pv 3) pe_non (nomark _)) (pss_one (ps_ret pe_non)) pss_nil)
      (pss_one (ps_ret (pe_own C_written_out hr (by decide) (by rfl) (pa_cons (pe_own C_known_signs hr (by decide) (by rfl) (pa_cons (pv 0) (pa_cons (pv 3) pa_nil))) (pa_cons (pv 3) (pa_cons (pe_ix ix_str (pe_cst B.SIGNS (by rfl)) pe_int (fun _ _ => rfl)) pa_nil))))))))), ?_⟩
    refine ⟨_, rfl, a, ws, rfl, hV, fun T S sm b G1 s1 eT eS L => ?_⟩
    refine ⟨T, _, rfl, .inl (.inl eT), rfl, _, _, rfl, _, _, rfl, rfl, ?_⟩
    -- the least length
    refine ⟨fun v J => J = G1 ∧ ((v = .non ∧ possL ws 81 = []) ∨ ∃ n : Nat, v = .int (n : Int) ∧ n ≤ 80 ∧ Poss ws n ∧ ∀ m, m < n → ¬ Poss ws m), ?_, ?_⟩
    · refine ⟨_, rfl, _, .inr (.inl ⟨_, .inl (.inl eS), rfl⟩), ?_⟩
      cases sm with
      | nil =>
        refine iteF ⟨_, rfl, rfl, ?_⟩
        rcases L with ⟨rfl, e, _⟩ | ⟨m, rfl, m80, e, hb, _⟩
        · exact .inl ⟨rfl, e.symm⟩
        · refine .inr ⟨m, rfl, m80, hb m (Nat.le_refl _) m80, fun q hq hp => ?_⟩
          have := mem_possL.mpr ⟨hq, hp⟩
          rw [← e] at this
          cases this
      | cons q l =>
        refine iteT ⟨_, rfl, S, _, _, _, rfl, rfl, .inl (.inl eS), at_of' (xs := natV (q :: l)) (j := 0) rfl rfl, rfl, .inr ⟨q, rfl, ?_⟩⟩
        rcases L with ⟨_, e, _⟩ | ⟨m, _, m80, e, _, _⟩
        · obtain ⟨h1, h2, h3⟩ := possL_head e.symm
          exact ⟨by omega, h2, h3⟩
        · obtain ⟨h1, h2, h3⟩ := possL_head e.symm
          exact ⟨by omega, h2, h3⟩
    · rintro v _ ⟨rfl, hv⟩
      refine ⟨_, rfl, rfl, _, rfl, ?_⟩
      rcases hv with ⟨rfl, e⟩ | ⟨n, rfl, n80, hp, hl⟩
      · exact iteT (k _ _ s1 (.inl ⟨rfl, e⟩))
      · refine iteF ⟨_, rfl, _, rfl, a, n, ws, rfl, hV.same s1, by omega, fun no => ?_, fun d kvs G2 nd s2 eD kn => ?_⟩
        · obtain ⟨cs, l, h⟩ := hp
          exact absurd h (no cs l)
        · refine ⟨_, rfl, signs, 0, 46, rfl, rfl, by decide +kernel, s0, d, n, 46, kvs, _, _, rfl, rfl, eD, kn, by omega, fun y G3 s3 ey => ?_⟩
          exact k _ G3 (s1.trans (s2.trans s3)) (.inr ⟨n, kvs, y, rfl, n80, hp, hl, kn, ey⟩)
/-- what only_text tells: None, or a text that fits, at a length that alone is possible up to 80, with no open place -/
def Sole (ws : List VW) (v : V) : Prop := v = .non ∨ ∃ n kvs y, v = .str y ∧ possL ws 81 = [n] ∧ ¬ Poss ws 80 ∧ Knows n kvs (Fits ws) ∧ y.cps.toList = wrote kvs 63 n ∧ 63 ∉ y.cps.toList
def spOnly (C : Addr) : Sp := fun vs H Q _ => ∃ (a : Addr) (ws : List VW), vs = [.ref a] ∧ ViewsAt C H a ws ∧ ∀ (v : V) (G : Hp), Same H G → Sole ws v → Q v G
theorem cal_only (B : Bi mg) (D : At K mg "only_text" s_only_text ps_only_text) (C_lengths : Cal P w K mg base 5 "lengths" ps_lengths (spLengths C)) (C_signs : Cal P w K mg base 5 "signs" ps_signs (spSigns C)) : Cal P w K mg base 6 "only_text" ps_only_text (spOnly C) := by
  refine D.cal sc_only_text (fun vs H Q E h => ?_) (fun f cdv A outer s H vs Q E hr h => ?_)
  · obtain ⟨a, ws, rfl, _⟩ := h
    rfl
  · obtain ⟨a, ws, rfl, hV, k⟩ := h
    refine ⟨_, (pss_cons (ps_asg (pe_own C_lengths hr (by decide) (by rfl) (pa_cons (pv 0) pa_nil)) (pg_tup rfl (pgs_cons (pg_name (i := 1) sc_only_text.nd rfl (.inl rfl)) (pgs_cons (pg_name (i := 2) sc_only_text.nd rfl (.inl rfl)) pgs_nil))))
      (pss_cons (ps_if (PW.pt (pw_or (pt_cmpR op_notN (pv 2) pe_non (nomark _)) (pw_or1 (pt_cmpR op_ne (pe_callB call_len (by rfl) B.len (by decide +kernel) (pa_cons (pv 1) pa_nil)) pe_int (nomark _))))) (pss_one (ps_ret pe_non)) pss_nil)
      (pss_cons (ps_set (i := 3) sc_only_text.nd rfl (.inl rfl) (pe_own C_signs hr (by decide) (by rfl) (pa_cons (pv 0) (pa_cons (pe_ix ix_tup (pv 1) pe_int (fun _ _ => rfl)) pa_nil))))
      (pss_one (ps_ret (pe_mid (pe_ifExp (pt_cmpR op_in_sign (pe_cst B.SEVERAL (by rfl)) (pv 3) (by rfl)) pe_non (pv 3)))))))), ?_⟩
    refine ⟨_, rfl, a, ws, rfl, hV, fun T S sm b G1 s1 eT eS L => ?_⟩
    refine ⟨T, _, rfl, .inl (.inl eT), rfl, _, _, rfl, _, _, rfl, rfl, ?_⟩
    refine ⟨_, rfl, rfl, _, rfl, ?_⟩
    rcases L with ⟨rfl, e, n80⟩ | ⟨m, rfl, _⟩
    · refine iteNS rfl ⟨_, rfl, _, _, rfl, .inr ⟨_, .inl (.inl eS), rfl⟩, rfl, _, rfl, ?_⟩
      have ll : (natV sm).length = sm.length := by
        unfold natV
        rw [List.length_map]
      rw [ll]
      by_cases h1 : sm.length = 1
      · rw [decide_eq_true (show V.int (sm.length : Int) = V.int 1 by rw [h1]; rfl)]
        obtain ⟨n, rfl⟩ := List.length_eq_one_iff.mp h1
        have hn := (possL_head e.symm).1
        refine iteF ⟨_, rfl, _, rfl, S, _, _, _, rfl, rfl, .inl (.inl eS), (rfl : atI (natV [n]) 0 = some (V.int (n : Int))), a, n, ws, rfl, hV.same s1, by omega, fun v G2 s2 hv => ?_⟩
        rcases hv with ⟨rfl, no⟩ | ⟨kvs, y, rfl, kn, ey⟩
        · obtain ⟨cs, l, h⟩ := (possL_head e.symm).2.1
          exact absurd h (no cs l)
        · refine ⟨fun v J => J = G2 ∧ Sole ws v, ?_, ?_⟩
          · refine ⟨_, rfl, 63, y, by decide +kernel, rfl, _, rfl, ?_⟩
            by_cases h63 : 63 ∈ y.cps.toList
            · rw [decide_eq_true h63]
              exact iteT ⟨rfl, .inl rfl⟩
            · rw [decide_eq_false h63]
              exact iteF ⟨_, rfl, rfl, .inr ⟨n, kvs, y, rfl, e.symm, n80, kn, ey, h63⟩⟩
          · rintro v _ ⟨rfl, hv⟩
            exact k v _ (s1.trans s2) hv
      · rw [decide_eq_false (show ¬ V.int (sm.length : Int) = V.int 1 from fun h => h1 (by have := V.int.inj h; omega))]
        exact iteT (k _ _ s1 (.inl rfl))
    · rw [decide_eq_false (fun h => by cases h)]
      exact iteT (iteT (k _ _ s1 (.inl rfl)))
end
end Gu
namespace Gu
open PySem PySem.Spec PyProof.Rows L2
/-! ### views: what follows -/
theorem far_cut {r : Rec} (f : r.fit) {cs : List Nat} (l : 80 ≤ cs.length) : r.cut (cs.take 40 ++ cs.drop (cs.length - 40)) = r.cut cs := by
  have f1 := f.l
  have f2 := f.h
  have f3 := f.t
  have el : (cs.take 40 ++ cs.drop (cs.length - 40)).length = 80 := by
    rw [List.length_append, List.length_take, List.length_drop]
    omega
  unfold Rec.cut cut
  rw [el, if_neg (by omega), if_neg (by omega)]
  congr 1
  · congr 1
    rw [List.take_append_of_le_length (by rw [List.length_take]; omega), List.take_take]
    congr 1
    omega
  · refine List.ext_getElem? fun j => ?_
    rw [List.getElem?_drop, List.getElem?_drop, List.getElem?_append_right (by rw [List.length_take]; omega), List.length_take, List.getElem?_drop]
    congr 1
    omega
theorem far_cuts {rs : List Rec} (hf : ∀ r ∈ rs, r.fit) (h1 : 1 ≤ rs.length) {cs : List Nat} (l : 80 ≤ cs.length) : cuts rs (cs.take 40 ++ cs.drop (cs.length - 40)) = cuts rs cs := by
  cases rs with
  | nil => cases h1
  | cons r rs =>
    show cuts rs (r.cut _) = cuts rs (r.cut cs)
    rw [far_cut (hf r (List.mem_cons_self ..)) l]
/-- views as they are: rows of fitting shorteners -/
def Vw (ws : List VW) : Prop := ∀ v ∈ ws, (∀ r ∈ v.recs, r.fit) ∧ 1 ≤ v.recs.length
theorem ViewsAt.vw {C : Addr} {H : Hp} {a : Addr} {ws : List VW} (h : ViewsAt C H a ws) : Vw ws := fun v hv => ⟨(h.el v hv).row.fits, by
  unfold VW.recs
  rw [List.length_map]
  exact (h.el v hv).l1⟩
theorem poss_far {ws : List VW} (h : Vw ws) {n : Nat} (hn : 80 ≤ n) (p : Poss ws n) : Poss ws 80 := by
  obtain ⟨cs, rfl, f⟩ := p
  refine ⟨cs.take 40 ++ cs.drop (cs.length - 40), ?_, fun v hv => ?_⟩
  · rw [List.length_append, List.length_take, List.length_drop]
    omega
  · rw [far_cuts (h v hv).1 (h v hv).2 hn]
    exact f v hv
theorem no63 : 63 ∉ signs.cps.toList := by decide +kernel
theorem Knows.val {n p : Nat} {kvs : List (Key × V)} {Pd : List Nat → Prop} (h : Knows n kvs Pd) {v : V} (e : valV kvs (Sum.inl (p : Int)) = some v) : ∃ c, v = .str (one c) ∧ c ∈ signs.cps.toList ∧ p < n := by
  obtain ⟨p', c, ek, hp, rfl, hc⟩ := h.ks _ _ e
  have ek : p = p' := by have := Sum.inl.inj ek; omega
  exact ⟨c, rfl, hc, by omega⟩
/-- told signs agree with a text that fits -/
theorem told_agrees {ws : List VW} {n : Nat} {kvs : List (Key × V)} (k : Knows n kvs (Fits ws)) {cs : List Nat} (l : cs.length = n) (f : Fits ws cs) {i c d : Nat} (hc : cs[i]? = some c) (hd : (wrote kvs 63 n)[i]? = some d) : d = 63 ∨ d = c := by
  have il : i < n := by rw [← l]; exact (List.getElem?_eq_some_iff.mp hc).1
  rw [wrote_at il] at hd
  cases e : valV kvs (Sum.inl (i : Int)) with
  | none =>
    rw [sgn_none e] at hd
    exact .inl (Option.some.inj hd).symm
  | some v =>
    obtain ⟨g, rfl, _, _⟩ := k.val e
    rw [sgn_some e] at hd
    have := (k.iff cs l).mp f i g e
    rw [hc] at this
    exact .inr ((Option.some.inj hd).symm.trans (Option.some.inj this).symm)
/-- a text filled in where it is open -/
theorem filled_fits {ws : List VW} {n : Nat} {kvs : List (Key × V)} (k : Knows n kvs (Fits ws)) {cs : List Nat} (l : cs.length = n) (h : ∀ (i d : Nat), (wrote kvs 63 n)[i]? = some d → d ≠ 63 → cs[i]? = some d) : Fits ws cs := (k.iff cs l).mpr fun p c e => by
  obtain ⟨g, eg, hg, hp⟩ := k.val e
  obtain rfl := one_inj eg
  exact h p c (by rw [wrote_at hp, sgn_some e]) (fun z => no63 (z ▸ hg))
/-- what fewer views know, more views know -/
theorem more_knows {ws us : List VW} {n : Nat} {kvs jvs : List (Key × V)} (k : Knows n kvs (Fits ws)) (j : Knows n jvs (Fits us)) (sub : ∀ cs, Fits ws cs → Fits us cs) {p c : Nat} (e : valV jvs (Sum.inl (p : Int)) = some (.str (one c))) : valV kvs (Sum.inl (p : Int)) = some (.str (one c)) := by
  obtain ⟨_, _, _, hp⟩ := j.val e
  have a : ∀ o, (wrote kvs o n)[p]? = some c := fun o => (j.iff _ (wrote_len ..)).mp (sub _ (wrote_fits k)) p c e
  cases ev : valV kvs (Sum.inl (p : Int)) with
  | none =>
    have a1 := a 46
    have a2 := a 48
    rw [wrote_at hp, sgn_none ev] at a1 a2
    have := (Option.some.inj a1).trans (Option.some.inj a2).symm
    exact absurd this (by decide)
  | some v =>
    obtain ⟨g, rfl, _, _⟩ := k.val ev
    have a1 := a 46
    rw [wrote_at hp, sgn_some ev] at a1
    rw [Option.some.inj a1]
theorem count_le {α : Type} (f g : α → Nat) : ∀ l : List α, (∀ a ∈ l, f a = 63 → g a = 63) → (l.map f).count 63 ≤ (l.map g).count 63
  | [], _ => Nat.le_refl _
  | a :: l, h => by
    have ih := count_le f g l fun b hb => h b (List.mem_cons_of_mem _ hb)
    have ha := h a (List.mem_cons_self ..)
    rw [List.map_cons, List.map_cons, List.count_cons, List.count_cons]
    by_cases e : f a = 63
    · rw [e, ha e]
      omega
    · rw [if_neg (show ¬ (f a == 63) = true by simpa using e)]
      omega
theorem more_count {ws us : List VW} {n : Nat} {kvs jvs : List (Key × V)} (k : Knows n kvs (Fits ws)) (j : Knows n jvs (Fits us)) (sub : ∀ cs, Fits ws cs → Fits us cs) : (wrote kvs 63 n).count 63 ≤ (wrote jvs 63 n).count 63 := by
  unfold wrote
  refine count_le _ _ _ fun p hp h => ?_
  cases e : valV jvs (Sum.inl (p : Int)) with
  | none => exact sgn_none e
  | some v =>
    obtain ⟨c, rfl, hc, _⟩ := j.val e
    rw [sgn_some (more_knows k j sub e)] at h
    exact absurd (h ▸ hc) no63
theorem more_agrees {ws us : List VW} {n : Nat} {kvs jvs : List (Key × V)} (k : Knows n kvs (Fits ws)) (j : Knows n jvs (Fits us)) (sub : ∀ cs, Fits ws cs → Fits us cs) {i c d : Nat} (hc : (wrote kvs 63 n)[i]? = some c) (hd : (wrote jvs 63 n)[i]? = some d) : d = 63 ∨ d = c := by
  have il : i < n := by
    have := (List.getElem?_eq_some_iff.mp hd).1
    rw [wrote_len] at this
    exact this
  rw [wrote_at il] at hc hd
  cases e : valV jvs (Sum.inl (i : Int)) with
  | none =>
    rw [sgn_none e] at hd
    exact .inl (Option.some.inj hd).symm
  | some v =>
    obtain ⟨g, rfl, _, _⟩ := j.val e
    rw [sgn_some e] at hd
    rw [sgn_some (more_knows k j sub e)] at hc
    exact .inr ((Option.some.inj hd).symm.trans (Option.some.inj hc))
/-- texts place by place not greater -/
theorem not_less : ∀ {zs cs : List Nat}, zs.length = cs.length → (∀ (i a b : Nat), zs[i]? = some a → cs[i]? = some b → a ≤ b) → ¬ cs < zs
  | [], [], _, _, h => absurd h (by decide)
  | a :: zs, b :: cs, l, le, h => by
    rw [List.cons_lt_cons_iff] at h
    have ab := le 0 a b rfl rfl
    rcases h with h | ⟨_, h⟩
    · omega
    · exact not_less (by simpa using l) (fun i x y hx hy => le (i + 1) x y hx hy) h
theorem least_le {ws : List VW} {n : Nat} {kvs : List (Key × V)} (k : Knows n kvs (Fits ws)) {cs : List Nat} (l : cs.length = n) (sc : Signs cs) (f : Fits ws cs) : ¬ cs < wrote kvs 46 n := not_less (by rw [wrote_len, l]) fun i a b ha hb => by
  have il : i < n := by rw [← l]; exact (List.getElem?_eq_some_iff.mp hb).1
  rw [wrote_at il] at ha
  cases e : valV kvs (Sum.inl (i : Int)) with
  | none =>
    rw [sgn_none e] at ha
    have := sign_low (sc b (List.mem_of_getElem? hb))
    have := Option.some.inj ha
    omega
  | some v =>
    obtain ⟨g, rfl, _, _⟩ := k.val e
    rw [sgn_some e] at ha
    have := (k.iff cs l).mp f i g e
    rw [hb] at this
    have h1 := Option.some.inj this
    have h2 := Option.some.inj ha
    omega
/-- the only text is this one -/
theorem sole_is {ws : List VW} {n : Nat} {kvs : List (Key × V)} (k : Knows n kvs (Fits ws)) (open0 : 63 ∉ wrote kvs 63 n) {cs : List Nat} (l : cs.length = n) (f : Fits ws cs) : wrote kvs 63 n = cs := by
  refine List.ext_getElem? fun i => ?_
  by_cases il : i < n
  · have hc : cs[i]? = some (cs[i]'(by omega)) := List.getElem?_eq_getElem (by omega)
    have hw : (wrote kvs 63 n)[i]? = some (sgn kvs 63 i) := wrote_at il
    rcases told_agrees k l f hc hw with e | e
    · rw [e] at hw
      exact absurd (List.mem_of_getElem? hw) open0
    · rw [hw, hc, e]
  · rw [List.getElem?_eq_none (by rw [wrote_len]; omega), List.getElem?_eq_none (by omega)]
end Gu
namespace Gu
open PySem PySem.Spec PyProof.Rows L2
/-! ### what is known, as a list -/
def kl (kvs : List (Key × V)) (n : Nat) : List V := (List.range n).map fun p : Nat => (valV kvs (Sum.inl (p : Int))).getD .non
theorem kl_len (kvs : List (Key × V)) (n : Nat) : (kl kvs n).length = n := by
  unfold kl
  rw [List.length_map, List.length_range]
theorem kl_at {kvs : List (Key × V)} {n p : Nat} (h : p < n) : (kl kvs n)[p]? = some ((valV kvs (Sum.inl (p : Int))).getD .non) := by
  unfold kl
  rw [List.getElem?_map, List.getElem?_range h]
  rfl
theorem kl_nil (n : Nat) : (List.replicate n [V.non]).flatten = kl [] n := by
  unfold kl
  induction n with
  | zero => rfl
  | succ n ih =>
    rw [List.range_succ, List.map_append, ← ih, List.replicate_succ', List.flatten_append]
    rfl
theorem kl_put {kvs : List (Key × V)} {n p : Nat} {v : V} : (kl kvs n).set p v = kl (putK kvs (Sum.inl (p : Int)) v) n := by
  refine List.ext_getElem? fun j => ?_
  rw [List.getElem?_set, kl_len]
  by_cases hj : j < n
  · rw [kl_at hj, kl_at hj, valV_put]
    by_cases e : p = j
    · subst e
      rw [if_pos rfl, if_pos hj, if_pos rfl]
      rfl
    · rw [if_neg e, if_neg (fun h => e (by have := Sum.inl.inj h; omega))]
  · rw [List.getElem?_eq_none (l := kl kvs n) (by rw [kl_len]; omega), List.getElem?_eq_none (l := kl _ n) (by rw [kl_len]; omega)]
    split
    · rw [if_neg (by omega)]
    · rfl
theorem kl_same {kvs : List (Key × V)} {n p : Nat} {v : V} (e : valV kvs (Sum.inl (p : Int)) = some v) : (kl kvs n).set p v = kl kvs n := by
  refine List.ext_getElem? fun j => ?_
  rw [List.getElem?_set, kl_len]
  by_cases hj : j < n
  · by_cases ej : p = j
    · subst ej
      rw [if_pos rfl, if_pos hj, kl_at hj, e]
      rfl
    · rw [if_neg ej]
  · rw [List.getElem?_eq_none (l := kl kvs n) (by rw [kl_len]; omega)]
    split
    · rw [if_neg (by omega)]
    · rfl
/-! ### the law's views -/
theorem told_fits {H : Hp} {D : Addr} {ps : List (Addr × Rec)} (h : ToldsAt H D ps) : ∀ r ∈ ps.map (·.2), r.fit := fun r hr => by
  obtain ⟨q, hq, rfl⟩ := List.mem_map.mp hr
  exact (h.tp q hq).2.fit
structure LViewAt (H : Hp) (v : VW) : Prop where
  pr : H v.pr = some (.tup [.ref v.rw, .str v.y])
  tl : ToldsAt H v.rw v.rs
  l1 : 1 ≤ v.rs.length
  l4 : v.rs.length ≤ 4
  tx : isTxt v.y 200 = true
structure LViewsAt (H : Hp) (a : Addr) (vs : List VW) : Prop where
  ls : H a = some (.lst (vs.map fun v => V.ref v.pr))
  el : ∀ v ∈ vs, LViewAt H v
  l1 : 1 ≤ vs.length
  l4 : vs.length ≤ 4
theorem LViewAt.same {H G : Hp} {v : VW} (s : Same H G) (h : LViewAt H v) : LViewAt G v := ⟨s _ _ h.pr, h.tl.same s, h.l1, h.l4, h.tx⟩
theorem LViewsAt.same {H G : Hp} {a : Addr} {vs : List VW} (s : Same H G) (h : LViewsAt H a vs) : LViewsAt G a vs := ⟨s _ _ h.ls, fun v hv => (h.el v hv).same s, h.l1, h.l4⟩
theorem LViewAt.fits {H : Hp} {v : VW} (h : LViewAt H v) : ∀ r ∈ v.recs, r.fit := told_fits h.tl
theorem LViewsAt.vw {H : Hp} {a : Addr} {ws : List VW} (h : LViewsAt H a ws) : Vw ws := fun v hv => ⟨(h.el v hv).fits, by
  unfold VW.recs
  rw [List.length_map]
  exact (h.el v hv).l1⟩
theorem ixN_nat {n q : Nat} (h : q < n) : ixN n (q : Int) = some q := by
  unfold ixN
  rw [if_pos (by omega), if_pos (by omega), Int.toNat_natCast]
section
variable {P : Program} {w : World} {K : PySem.W.Frag} {mg : Str → Option Value} {base : Heap} {C : Addr}
theorem Isa.int_strL {H : Hp} {i : Int} : Isa K H (.int i) "str" false := ⟨_, .base (.int i), kit_ty (by decide +kernel)⟩
def spLKnown : Sp := fun vs H Q _ => ∃ (a : Addr) (n : Nat) (ws : List VW), vs = [.ref a, .int (n : Int)] ∧ LViewsAt H a ws ∧ n ≤ 500 ∧ ((∀ cs : List Nat, cs.length = n → ¬ Fits ws cs) → ∀ G, Same H G → Q .non G) ∧ ∀ (d : Addr) (kvs : List (Key × V)) (G : Hp), H d = none → Same H G → G d = some (.lst (kl kvs n)) → Knows n kvs (Fits ws) → Q (.ref d) G
set_option maxHeartbeats 1000000 in
theorem cal_lknown (B : Bi mg) (D : At K mg "_law_known" s_law_known ps_law_known) (C_law_cut : Cal P w K mg base 1 "_law_cut" ps_law_cut spCut) : Cal P w K mg base 2 "_law_known" ps_law_known spLKnown := by
  refine D.cal sc_law_known (fun vs H Q E h => ?_) (fun f cdv A outer s H vs Q E hr h => ?_)
  · obtain ⟨a, n, ws, rfl, _⟩ := h
    rfl
  · obtain ⟨a, n, ws, rfl, hV, hn, kN, kS⟩ := h
    refine ⟨_, (pss_cons (ps_set (i := 2) sc_law_known.nd rfl (.inl rfl) (pe_op op_rep (pe_lst (pa_cons pe_non pa_nil)) (pv 1)))
      (pss_cons (ps_for PassesOwn.never rfl (pi_list (pv 0)) (pg_tup rfl (pgs_cons (pg_name (i := 3) sc_law_known.nd rfl (.inl rfl)) (pgs_cons (pg_name (i := 4) sc_law_known.nd rfl (.inl rfl)) pgs_nil)))
      (pss_cons (ps_set (i := 5) sc_law_known.nd rfl (.inl rfl) (pe_own C_law_cut hr (by decide) (by rfl) (pa_cons (pv 3) (pa_cons (pe_listRg (by rfl) (by rfl) B.list (prg_1 (by rfl) B.range (pv 1))) pa_nil))))
      (pss_cons (ps_if (pt_cmpR op_ne (pe_callB call_len (by rfl) B.len (by decide +kernel) (pa_cons (pv 5) pa_nil)) (pe_callB call_len (by rfl) B.len (by decide +kernel) (pa_cons (pv 4) pa_nil)) (nomark _)) (pss_one (ps_ret pe_non)) pss_nil)
      (pss_one (ps_for PassesOwn.never rfl (pi_range1 (by rfl) B.range (pa_cons (pe_callB call_len (by rfl) B.len (by decide +kernel) (pa_cons (pv 5) pa_nil)) pa_nil)) (pg_name (i := 6) sc_law_known.nd rfl (.inl rfl))
      (pss_cons (ps_set (i := 7) sc_law_known.nd rfl (.inl rfl) (pe_ix ix_list (pv 5) (pv 6) (fun _ _ => rfl)))
      (pss_one (ps_if (pt_val (pe_callB (id := "isinstance") (r := rIsi K) call_isi (by rfl) B.isinstance (by decide +kernel) (pa_cons (pv 7) (pa_cons (pe_bltn (v := .ty "str") (by rfl) B.str (by decide +kernel) rfl) pa_nil)))) (pss_one (ps_if (pt_cmpR op_ne (pv 7) (pe_ix ix_str (pv 4) (pv 6) (fun _ _ => rfl)) (nomark _)) (pss_one (ps_ret pe_non)) pss_nil)) (pss_one (ps_if (pt_cmpR op_notIn_seq (pe_ix ix_list (pv 2) (pv 7) (fun _ _ => rfl)) (pe_lst (pa_cons pe_non (pa_cons (pe_ix ix_str (pv 4) (pv 6) (fun _ _ => rfl)) pa_nil))) (by rfl)) (pss_one (ps_ret pe_non)) (pss_one (ps_asg (pe_ix ix_str (pv 4) (pv 6) (fun _ _ => rfl)) (pg_sub (pv 2) (pv 7) set_list)))))))))))))
      (pss_one (ps_ret (pv 2))))), ?_⟩
    refine ⟨by show 1 ≤ sizeLine; decide, fun d0 n0 => ?_⟩
    refine ⟨_, rfl, d0, n, _, rfl, rfl, upd_same, by omega, by omega, ?_, fun d nd1 => ?_⟩
    · show 1 * (n : Int).toNat ≤ sizeLine
      have : sizeLine = 16777216 := by decide
      omega
    rw [Int.toNat_natCast, kl_nil]
    have nd : H d = none := (same_new n0).free nd1
    have s0 : Same H (upd (upd H d0 (.lst [.non])) d (.lst (kl [] n))) := (same_new n0).trans (same_new nd1)
    have e0 : upd (upd H d0 (.lst [.non])) d (.lst (kl [] n)) d = some (.lst (kl [] n)) := upd_same
    generalize upd (upd H d0 (.lst [.non])) d (.lst (kl [] n)) = H0 at s0 e0
    refine ⟨_, rfl, a, rfl, ⟨_, .inl (.inl (s0 _ _ hV.ls))⟩, for_list (K := K) (a := a) (xs := ws.map fun v => V.ref v.pr) (fun i σ J => ∃ (kvs : List (Key × V)) (b1 b2 b3 b4 b5 : Option V), σ = [some (.ref a), some (.int (n : Int)), some (.ref d), b1, b2, b3, b4, b5] ∧ Same H J ∧ J d = some (.lst (kl kvs n)) ∧ Knows n kvs (Fits (ws.take i)))
      ⟨[], none, none, none, none, none, rfl, s0, e0, (Knows.start n).imp (fun cs _ => ⟨fun _ v hv => (by cases hv), fun _ => trivial⟩)⟩ (fun i σ J _ ⟨_, _, _, _, _, _, _, sJ, _⟩ => .inl (.inl (sJ _ _ hV.ls))) ?_ ?_⟩
    · rintro i x σ J hi ⟨kvs, b1, b2, b3, b4, b5, rfl, sJ, eD, kn⟩
      rw [List.getElem?_map] at hi
      cases hv : ws[i]? with
      | none =>
        rw [hv] at hi
        cases hi
      | some v =>
        rw [hv] at hi
        cases hi
        have mv : v ∈ ws := List.mem_of_getElem? hv
        have vw := (hV.el v mv).same sJ
        have fr : ∀ r ∈ v.recs, r.fit := vw.fits
        have yl := isTxt_len vw.tx
        have ys : Signs v.cs := isTxt_signs vw.tx
        have yL : v.y.length = v.cs.length := rfl
        refine ⟨v.pr, _, rfl, .inl (.inl vw.pr), rfl, _, _, rfl, _, _, rfl, rfl, ?_⟩
        refine ⟨_, rfl, _, rfl, _, rfl, RgOk.of_le (by omega) (by omega) (by omega) (by omega), fun T nT => ?_⟩
        have sT : Same J (upd J T (.lst (rgV 0 (n : Int)))) := same_new nT
        refine ⟨v.rw, T, v.rs, _, rfl, vw.tl.same sT, upd_same, by rw [rg_len]; omega, fun U G1 s1 e1 => ?_⟩
        have e1 : G1 U = some (.lst (planV v.recs n)) := e1
        have pl := plan_len fr (n := n) hn
        refine ⟨_, rfl, _, _, rfl, .inl ⟨_, .inl (.inl e1), rfl⟩, _, rfl, _, _, rfl, ⟨Nat.le_of_lt (small1000 (by omega)), rfl⟩, rfl, _, rfl, ?_⟩
        by_cases el : (planV v.recs n).length = v.cs.length
        · rw [decide_eq_true (show V.int ((planV v.recs n).length : Int) = V.int (v.y.length : Int) by rw [el, yL])]
          refine iteF ⟨_, rfl, _, _, rfl, .inl ⟨_, .inl (.inl e1), rfl⟩, _, rfl, by omega, by omega, for_range (lo := 0) (n := ((planV v.recs n).length : Int).toNat) (fun j σ J1 => ∃ (kvs : List (Key × V)) (c1 c2 : Option V), σ = [some (.ref a), some (.int (n : Int)), some (.ref d), some (.ref v.rw), some (.str v.y), some (.ref U), c1, c2] ∧ Same H J1 ∧ J1 U = some (.lst (planV v.recs n)) ∧ J1 d = some (.lst (kl kvs n)) ∧ Knows n kvs (fun cs => Fits (ws.take i) cs ∧ Upto n v.recs v.cs j cs))
            ⟨kvs, b4, b5, rfl, sJ.trans (sT.trans s1), e1, s1 _ _ (sT _ _ eD), kn.imp (fun cs _ => ⟨fun h => ⟨h, fun j x c hj => absurd hj (by omega)⟩, fun h => h.1⟩)⟩ ?_ ?_⟩
          · rintro j σ1 J1 hj ⟨kvs1, c1, c2, rfl, s2, e2, eD1, kn1⟩
            rw [Int.toNat_natCast] at hj
            rw [Int.zero_add]
            have hx : (planV v.recs n)[j]? = some (planV v.recs n)[j] := List.getElem?_eq_getElem hj
            have hc : v.cs[j]? = some (v.cs[j]'(by omega)) := List.getElem?_eq_getElem (by omega)
            generalize (planV v.recs n)[j] = sx at hx
            generalize (v.cs[j]'(by omega)) = c at hc
            have cs1 : c ∈ signs.cps.toList := ys c (List.mem_of_getElem? hc)
            refine ⟨_, rfl, _, rfl, U, _, _, _, rfl, rfl, .inl (.inl e2), at_of' (xs := planV v.recs n) (j := j) rfl hx, ?_⟩
            have px : Plain n sx := plan_plain fr sx (List.mem_of_getElem? hx)
            rcases px with ⟨q, rfl, q0, qn⟩ | ⟨g, rfl, _⟩
            · obtain ⟨q, rfl⟩ := Int.eq_ofNat_of_zero_le q0
              have qn : q < n := by omega
              obtain ⟨t, i1, i2⟩ := Isa.int_strL (K := K) (H := J1) (i := (q : Int))
              refine ⟨_, rfl, _, _, t, _, false, rfl, .ty _, i1, i2, _, rfl, iteF ?_⟩
              refine ⟨_, rfl, _, rfl, d, _, _, _, rfl, rfl, .inl (.inl eD1), at_of' (xs := kl kvs1 n) (j := q) rfl (kl_at qn), ?_⟩
              refine ⟨_, rfl, _, rfl, v.y, (j : Int), c, rfl, rfl, Nat.le_of_lt (small1000 (by omega)), at_of' (xs := v.cs) (j := j) rfl hc, by show 2 ≤ sizeLine; decide, fun F nF => ?_⟩
              have sF : Same J1 (upd J1 F (.lst [.non, .str ⟨#[c]⟩])) := same_new nF
              have eF := upd_same (H := J1) (a := F) (o := .lst [.non, .str ⟨#[c]⟩])
              have eD2 := sF _ _ eD1
              have e3 := sF _ _ e2
              have s3 := s2.trans sF
              generalize upd J1 F (.lst [.non, .str ⟨#[c]⟩]) = J2 at sF eF eD2 e3 s3
              have nUd : U ≠ d := fun h => by
                rw [h] at e2
                have pk : planV v.recs n = kl kvs1 n := HO.lst.inj (Option.some.inj (e2.symm.trans eD1))
                rw [pk] at hx
                obtain ⟨m, _, hm⟩ := List.mem_map.mp (List.mem_of_getElem? hx)
                cases e5 : valV kvs1 (Sum.inl (m : Int)) with
                | none =>
                  rw [e5] at hm
                  cases hm
                | some u =>
                  obtain ⟨_, _, _, _, rfl, _⟩ := kn1.ks _ _ e5
                  rw [e5] at hm
                  cases hm
              have ixq : ixN (kl kvs1 n).length (q : Int) = some q := by
                rw [kl_len]
                exact ixN_nat qn
              cases eq : valV kvs1 (Sum.inl (q : Int)) with
              | some u =>
                obtain ⟨q', g, ek, _, rfl, _⟩ := kn1.ks _ _ eq
                refine ⟨F, _, rfl, .inl (.inl (.inl eF)), rfl, rfl, _, rfl, ?_⟩
                have ei : inV (.str (one g)) [.non, .str ⟨#[c]⟩] = decide (g = c) := by
                  show (false || ((⟨#[c]⟩ : Str) == one g || false)) = _
                  rw [Bool.false_or, Bool.or_false]
                  by_cases gc : g = c
                  · subst gc
                    rw [decide_eq_true rfl]
                    exact beq_self_eq_true _
                  · rw [decide_eq_false gc]
                    exact beq_eq_false_iff_ne.mpr fun h => gc (one_inj (congrArg V.str h)).symm
                show (if (!inV (.str (one g)) [.non, .str ⟨#[c]⟩]) = true then _ else _)
                rw [ei]
                by_cases gc : g = c
                · subst gc
                  rw [decide_eq_true rfl]
                  refine iteF ?_
                  refine ⟨_, rfl, _, rfl, v.y, (j : Int), g, rfl, rfl, Nat.le_of_lt (small1000 (by omega)), at_of' (xs := v.cs) (j := j) rfl hc, _, rfl, _, rfl, d, _, _, q, rfl, rfl, eD2, ixq, ?_⟩
                  rw [show (V.str ⟨#[g]⟩) = .str (one g) from rfl, kl_same eq]
                  refine ⟨kvs1, _, _, rfl, same_offF s3 nd, by rw [upd_ne nUd]; exact e3, upd_same, kn1.imp (fun cs l => ?_)⟩
                  rw [upto_next hx hc]
                  constructor
                  · rintro h
                    exact ⟨h.1, h.2, (fillN_int (by omega)).mpr ((kn1.iff cs l).mp h q g eq)⟩
                  · exact fun h => ⟨h.1, h.2.1⟩
                · rw [decide_eq_false gc]
                  refine iteT (kN (fun cs l ft => gc ?_) J2 s3)
                  have f1 := (fits_take hv).mp (fun u hu => ft u (List.mem_of_mem_take hu))
                  have up := (upto_all fr l el).mpr f1.2
                  have a1 := (kn1.iff cs l).mp ⟨f1.1, fun m x c hm => up m x c (by omega)⟩ q g eq
                  have jl : j < v.cs.length := (List.getElem?_eq_some_iff.mp hc).1
                  have a2 := (fillN_int (by omega)).mp (up j _ c jl hx hc)
                  exact Option.some.inj (a1.symm.trans a2)
              | none =>
                refine ⟨F, _, rfl, .inl (.inl (.inl eF)), rfl, rfl, _, rfl, iteF ?_⟩
                refine ⟨_, rfl, _, rfl, v.y, (j : Int), c, rfl, rfl, Nat.le_of_lt (small1000 (by omega)), at_of' (xs := v.cs) (j := j) rfl hc, _, rfl, _, rfl, d, _, _, q, rfl, rfl, eD2, ixq, ?_⟩
                rw [show (V.str ⟨#[c]⟩) = .str (one c) from rfl, kl_put]
                refine ⟨_, _, _, rfl, same_offF s3 nd, by rw [upd_ne nUd]; exact e3, upd_same, (kn1.put qn cs1 eq).imp (fun cs l => ?_)⟩
                rw [upto_next hx hc, fillN_int (by omega)]
                exact ⟨fun h => ⟨h.1.1, h.1.2, h.2⟩, fun h => ⟨⟨h.1, h.2.1⟩, h.2.2⟩⟩
            · obtain ⟨t, i1, i2⟩ := Isa.str_str (K := K) (H := J1) (z := one g)
              refine ⟨_, rfl, _, _, t, _, true, rfl, .ty _, i1, i2, _, rfl, iteT ?_⟩
              refine ⟨_, rfl, _, rfl, _, rfl, v.y, (j : Int), c, rfl, rfl, Nat.le_of_lt (small1000 (by omega)), at_of' (xs := v.cs) (j := j) rfl hc, rfl, _, rfl, ?_⟩
              by_cases gc : g = c
              · subst gc
                rw [decide_eq_true (show V.str (one g) = V.str ⟨#[g]⟩ from rfl)]
                refine iteF ⟨kvs1, _, _, rfl, s2, e2, eD1, kn1.imp (fun cs l => ?_)⟩
                rw [upto_next hx hc]
                exact ⟨fun h => ⟨h.1, h.2, rfl⟩, fun h => ⟨h.1, h.2.1⟩⟩
              · rw [decide_eq_false (show ¬ V.str (one g) = V.str ⟨#[c]⟩ from fun h => gc (one_inj h))]
                refine iteT (kN (fun cs l ft => gc ?_) J1 s2)
                have f1 := (fits_take hv).mp (fun u hu => ft u (List.mem_of_mem_take hu))
                have jl : j < v.cs.length := (List.getElem?_eq_some_iff.mp hc).1
                exact (upto_all fr l el).mpr f1.2 j _ c jl hx hc
          · rintro σ1 J1 ⟨kvs1, c1, c2, rfl, s2, e2, eD1, kn1⟩
            refine ⟨kvs1, _, _, _, _, _, rfl, s2, eD1, kn1.imp (fun cs l => ?_)⟩
            rw [Int.toNat_natCast, fits_take hv, ← upto_all fr l el, el]
        · rw [decide_eq_false (fun h => el (by have := V.int.inj h; omega))]
          refine iteT (kN (fun cs l ft => el ?_) G1 (sJ.trans (sT.trans s1)))
          have := ft v mv
          rw [shown_each fr, l] at this
          rw [← this, List.length_map]
    · rintro σ J ⟨kvs, b1, b2, b3, b4, b5, rfl, sJ, eD, kn⟩
      rw [List.length_map, List.take_length] at kn
      exact ⟨_, rfl, kS d kvs J nd sJ eD kn⟩
end
end Gu
namespace Gu
open PySem PySem.Spec PyProof.Rows L2
theorem cutS_sub {z : Str} {lo hi : Option Int} {c : Nat} (h : c ∈ (cutS z lo hi).cps.toList) : c ∈ z.cps.toList := by
  have h : c ∈ ((z.cps.toList.drop (HT.sIx z.cps.toList.length 0 lo)).take (HT.sIx z.cps.toList.length z.cps.toList.length hi - HT.sIx z.cps.toList.length 0 lo)).toArray.toList := h
  rw [List.toList_toArray] at h
  exact List.mem_of_mem_drop (List.mem_of_mem_take h)
theorem cuts_len100 : ∀ (rs : List Rec) {xs : List Nat}, (∀ r ∈ rs, r.fit) → xs.length ≤ 90 → (cuts rs xs).length ≤ 90
  | [], _, _, h => h
  | r :: rs, xs, hf, h => cuts_len100 rs (xs := r.cut xs) (fun q hq => hf q (List.mem_cons_of_mem _ hq)) (by
    have f := hf r (List.mem_cons_self ..)
    have a : (r.cut xs).length ≤ _ := cut_length
    have b := f.zl
    have c := f.h
    have d := f.t
    omega)
theorem txt_of {y : Str} (s : Signs y.cps.toList) (l : y.cps.toList.length ≤ 200) : isTxt y 200 = true := by
  unfold isTxt
  rw [Bool.and_eq_true, List.all_eq_true]
  refine ⟨decide_eq_true ?_, fun c h => decide_eq_true (s c h)⟩
  show (y.cps.toList.length : Int) ≤ 200
  omega
theorem LViewAt.lst {H : Hp} {X : Addr} {v : VW} {acc ys : List V} (h : LViewAt H v) (n : v.rw ≠ X) (e : H X = some (.lst acc)) : LViewAt (upd H X (.lst ys)) v := ⟨by rw [upd_ne (ne_of h.pr e (by intro z; cases z))]; exact h.pr, ⟨by rw [upd_ne n]; exact h.tl.ls, fun q hq => ⟨by rw [upd_ne (ne_of (h.tl.tp q hq).1 e (by intro z; cases z))]; exact (h.tl.tp q hq).1, (h.tl.tp q hq).2⟩⟩, h.l1, h.l4, h.tx⟩
theorem LViewAt.ladled {H G : Hp} {p : Addr} {v : VW} (L : Ladled p H G) (hp : Pot H p) (h : LViewAt H v) : LViewAt G v := by
  have o := h.tl.off hp h.l1
  obtain ⟨x, y, z, e⟩ := hp
  exact ⟨L.keep _ _ h.pr (ne_of h.pr e (by intro z; cases z)), L.tolds o (fun q hq => ne_of (h.tl.tp q hq).1 e (by intro z; cases z)) h.tl, h.l1, h.l4, h.tx⟩
theorem LViewsAt.ladled {H G : Hp} {p a : Addr} {ws : List VW} (L : Ladled p H G) (hp : Pot H p) (h : LViewsAt H a ws) : LViewsAt G a ws := by
  refine ⟨?_, fun v hv => (h.el v hv).ladled L hp, h.l1, h.l4⟩
  have l1 := h.l1
  have ls := h.ls
  obtain ⟨x, y, z, e⟩ := hp
  refine L.keep _ _ ls (ne_of ls e (fun z => ?_))
  cases ws with
  | nil => cases l1
  | cons q ws => cases z
section
variable {P : Program} {w : World} {K : PySem.W.Frag} {mg : Str → Option Value} {base : Heap} {C : Addr}
def spSomeViews : Sp := fun vs H Q _ => ∃ (p : Addr), vs = [.ref p] ∧ Pot H p ∧ ∀ (a : Addr) (ws : List VW) (G : Hp), LViewsAt G a ws → ws.length ≤ 3 → Ladled p H G → Q (.ref a) G
set_option maxHeartbeats 2000000 in
theorem cal_someViews (B : Bi mg) (D : At K mg "_law_some_views" s_law_some_views ps_law_some_views) (C_law_ladle : Cal P w K mg base 1 "_law_ladle" ps_law_ladle spLadle) (C_law_one_of : Cal P w K mg base 2 "_law_one_of" ps_law_one_of (spOneOf K)) (C_law_line : Cal P w K mg base 3 "_law_line" ps_law_line spLine) (C_law_tolds : Cal P w K mg base 4 "_law_tolds" ps_law_tolds spTolds) (C_law_seen : Cal P w K mg base 2 "_law_seen" ps_law_seen spSeen) : Cal P w K mg base 5 "_law_some_views" ps_law_some_views spSomeViews := by
  refine D.cal sc_law_some_views (fun vs H Q E h => ?_) (fun f cdv A outer s H vs Q E hr h => ?_)
  · obtain ⟨p, rfl, _⟩ := h
    rfl
  · obtain ⟨p, rfl, hp, k⟩ := h
    refine ⟨_, (pss_cons (ps_par (i := 1) (j := 2) (by rfl) sc_law_some_views.nd rfl rfl (by decide) rfl rfl (pa_cons (pe_own C_law_line hr (by decide) (by rfl) (pa_cons (pv 0) (pa_cons (pe_own C_law_ladle hr (by decide) (by rfl) (pa_cons (pv 0) (pa_cons (pe_own C_law_one_of hr (by decide) (by rfl) (pa_cons (pv 0) (pa_cons (pe_lst (pa_cons pe_int (pa_cons pe_int (pa_cons pe_int pa_nil)))) pa_nil))) pa_nil))) pa_nil))) (pa_cons (pe_lst pa_nil) pa_nil)) (by rfl))
      (pss_cons (ps_for PassesOwn.never rfl (pi_range1 (by rfl) B.range (pa_cons (pe_own C_law_one_of hr (by decide) (by rfl) (pa_cons (pv 0) (pa_cons (pe_lst (pa_cons pe_int (pa_cons pe_int (pa_cons pe_int (pa_cons pe_int pa_nil))))) pa_nil))) pa_nil)) (pg_name (i := 3) sc_law_some_views.nd rfl (.inl rfl))
      (pss_cons (ps_set (i := 4) sc_law_some_views.nd rfl (.inl rfl) (pe_own C_law_tolds hr (by decide) (by rfl) (pa_cons (pv 0) pa_nil)))
      (C8.pss_cut (ps_if (pt_cmpR op_eq (pe_own C_law_ladle hr (by decide) (by rfl) (pa_cons (pv 0) (pa_cons pe_int pa_nil))) pe_int (nomark _)) (pss_one (ps_set (i := 1) sc_law_some_views.nd rfl (.inl rfl) (pe_own C_law_line hr (by decide) (by rfl) (pa_cons (pv 0) (pa_cons (pe_own C_law_ladle hr (by decide) (by rfl) (pa_cons (pv 0) (pa_cons pe_int pa_nil))) pa_nil))))) pss_nil)
      (pss_cons (ps_set (i := 5) sc_law_some_views.nd rfl (.inl rfl) (pe_own C_law_seen hr (by decide) (by rfl) (pa_cons (pv 4) (pa_cons (pv 1) pa_nil))))
      (C8.pss_cut (ps_if (pt_cmpR op_eq (pe_own C_law_ladle hr (by decide) (by rfl) (pa_cons (pv 0) (pa_cons pe_int pa_nil))) pe_int (nomark _)) (pss_cons (ps_set (i := 6) sc_law_some_views.nd rfl (.inl rfl) (pe_own C_law_ladle hr (by decide) (by rfl) (pa_cons (pv 0) (pa_cons (pe_op op_add (pe_callB call_len (by rfl) B.len (by decide +kernel) (pa_cons (pv 5) pa_nil)) pe_int) pa_nil))))
      (pss_one (ps_set (i := 5) sc_law_some_views.nd rfl (.inl rfl) (pe_op op_add_str (pe_op op_add_str (pe_slice sl_str (pv 5) po_none (po_some (pv 6))) (pe_own C_law_one_of hr (by decide) (by rfl) (pa_cons (pv 0) (pa_cons (pe_lst (pa_cons pe_str (pa_cons pe_str (pa_cons pe_str (pa_cons pe_str pa_nil))))) pa_nil)))) (pe_slice sl_str (pv 5) (po_some (pe_op op_add (pv 6) (pe_own C_law_ladle hr (by decide) (by rfl) (pa_cons (pv 0) (pa_cons pe_int pa_nil))))) po_none))))) pss_nil)
      (pss_one (ps_expr (pe_bm PySem.F.plainAttrs_list PySem.F.slot_list_append PySem.F.type_list_append mt_append (pv 2) (pa_cons (pe_tup (pa_cons (pv 4) (pa_cons (pv 5) pa_nil))) pa_nil)))))))))
      (pss_one (ps_ret (pv 2))))), ?_⟩
    refine ⟨_, rfl, _, rfl, _, rfl, by show 3 ≤ sizeLine; decide, fun q nq => ?_⟩
    have Mq := (Ladled.refl hp).new (o := .lst [.int 6, .int 14, .int 60]) nq
    refine ⟨p, Mq.pot, .inl ⟨q, _, rfl, .inl (.inl upd_same), hp.ne nq, by decide, by decide, fun v1 K1 hv1 c1 => ?_⟩⟩
    obtain ⟨b, b0, bl, rfl⟩ : ∃ b : Int, 0 < b ∧ b ≤ 60 ∧ v1 = .int b := by
      simp only [List.mem_cons, List.not_mem_nil, or_false] at hv1
      rcases hv1 with rfl | rfl | rfl <;> exact ⟨_, by decide, by decide, rfl⟩
    have M1 := Mq.trans c1
    refine ⟨p, b, rfl, M1.pot, b0, by omega, fun n0 K2 m0 m1 c2 => ?_⟩
    have M2 := M1.trans c2
    refine ⟨p, n0, rfl, M2.pot, m0, by omega, fun y K3 c3 yl yt => ?_⟩
    have M3 := M2.trans c3
    refine ⟨Nat.zero_le _, fun X nX => ?_⟩
    have nXH : H X = none := M3.free nX
    have nXp : X ≠ p := M3.pot.ne nX
    have M4 := M3.new (o := .lst []) nX
    refine ⟨_, _, rfl, ?_⟩
    refine ⟨_, rfl, by show 4 ≤ sizeLine; decide, fun q2 nq2 => ?_⟩
    have M5 := M4.new (o := .lst [.int 1, .int 1, .int 2, .int 3]) nq2
    have eX5 : upd (upd K3 X (.lst [])) q2 (.lst [.int 1, .int 1, .int 2, .int 3]) X = some (.lst []) := (same_new nq2) _ _ upd_same
    refine ⟨p, M5.pot, .inl ⟨q2, _, rfl, .inl (.inl upd_same), M4.pot.ne nq2, by decide, by decide, fun v2 K4 hv2 c4 => ?_⟩⟩
    obtain ⟨m, m1', m3, rfl⟩ : ∃ m : Int, 1 ≤ m ∧ m ≤ 3 ∧ v2 = .int m := by
      simp only [List.mem_cons, List.not_mem_nil, or_false] at hv2
      rcases hv2 with rfl | rfl | rfl | rfl <;> exact ⟨_, by decide, by decide, rfl⟩
    have M6 := M5.trans c4
    have eX6 := c4.keep _ _ eX5 nXp
    refine ⟨_, rfl, by omega, by omega, for_range (lo := 0) (n := m.toNat) (fun i σ J => ∃ (ws : List VW) (y : Str) (c1 c2 c3 c4 : Option V), σ = [some (.ref p), some (.str y), some (.ref X), c1, c2, c3, c4] ∧ ws.length = i ∧ J X = some (.lst (ws.map fun v => V.ref v.pr)) ∧ (∀ v ∈ ws, LViewAt J v ∧ v.rw ≠ X) ∧ Signs y.cps.toList ∧ y.cps.toList.length ≤ 60 ∧ Ladled p H J)
      ⟨[], y, none, none, none, none, rfl, rfl, eX6, (fun v hv => by cases hv), isTxt_signs yt, by omega, M6⟩ ?_ ?_⟩
    · rintro i σ J hi ⟨ws, y, c1, c2, c3, c4, rfl, rfl, eX, hws, ys, yl, L⟩
      refine ⟨_, rfl, p, rfl, L.pot, fun D1 G1 ps nD1 t1 nq1 p1 p4 L1 => ?_⟩
      have nDX : D1 ≠ X := fun e => by
        rw [e, eX] at nD1
        cases nD1
      have gX := L1.keep _ _ eX nXp
      have L2 := L.trans L1
      have hws1 : ∀ v ∈ ws, LViewAt G1 v ∧ v.rw ≠ X := fun v hv => ⟨(hws v hv).1.ladled L1 L.pot, (hws v hv).2⟩
      clear hws eX nD1
      refine ⟨fun σ J => ∃ (y : Str), σ = [some (.ref p), some (.str y), some (.ref X), some (.int (0 + (ws.length : Int))), some (.ref D1), c3, c4] ∧ J X = some (.lst (ws.map fun v => V.ref v.pr)) ∧ (∀ v ∈ ws, LViewAt J v ∧ v.rw ≠ X) ∧ Signs y.cps.toList ∧ y.cps.toList.length ≤ 60 ∧ ToldsAt J D1 ps ∧ Ladled p H J, ?_, ?_⟩
      · refine ⟨_, rfl, p, 6, rfl, L2.pot, by decide, by decide, fun d1 G2 _ _ L3 => ?_⟩
        have gX := L3.keep _ _ gX nXp
        have hws2 : ∀ v ∈ ws, LViewAt G2 v ∧ v.rw ≠ X := fun v hv => ⟨(hws1 v hv).1.ladled L3 L2.pot, (hws1 v hv).2⟩
        have t2 : ToldsAt G2 D1 ps := L3.tolds (t1.off L2.pot p1) (fun q hq => by
          obtain ⟨x, y, z, e⟩ := L2.pot
          exact ne_of (t1.tp q hq).1 e (by intro z; cases z)) t1
        have L4 := L2.trans L3
        refine ⟨rfl, _, rfl, ite2 (fun _ => ?_) (fun _ => ?_)⟩
        · refine ⟨_, rfl, _, rfl, p, 14, rfl, L4.pot, by decide, by decide, fun d2 G3 e0 e1 L5 => ?_⟩
          have L6 := L4.trans L5
          refine ⟨p, d2, rfl, L6.pot, e0, by omega, fun y2 G4 L7 yl2 yt2 => ?_⟩
          have L57 := L5.trans L7
          exact ⟨y2, rfl, L57.keep _ _ gX nXp, fun v hv => ⟨(hws2 v hv).1.ladled L57 L4.pot, (hws2 v hv).2⟩, isTxt_signs yt2, by omega, L57.tolds (t2.off L4.pot p1) (fun q hq => by
            obtain ⟨x, y, z, e⟩ := L4.pot
            exact ne_of (t2.tp q hq).1 e (by intro z; cases z)) t2, L4.trans L57⟩
        · exact ⟨y, rfl, gX, hws2, ys, yl, t2, L4⟩
      rintro σ J ⟨y, rfl, gX, hws2, ys, yl, t2, L4⟩
      refine ⟨_, rfl, _, rfl, D1, ps, y, rfl, t2, by omega, fun z G2 s2 ez => ?_⟩
      have zs : Signs z.cps.toList := by
        rw [ez]
        exact cuts_signs _ (told_fits t2) ys
      have zl : z.cps.toList.length ≤ 90 := by
        rw [ez]
        exact cuts_len100 _ (told_fits t2) (by omega)
      have gX := s2 _ _ gX
      have hws3 : ∀ v ∈ ws, LViewAt G2 v ∧ v.rw ≠ X := fun v hv => ⟨(hws2 v hv).1.same s2, (hws2 v hv).2⟩
      have t3 := t2.same s2
      have L5 := L4.same s2
      clear hws1 hws2 t2 t1 s2 ez L4 L2 L1 L
      refine ⟨fun σ J => ∃ (z : Str) (c : Option V), σ = [some (.ref p), some (.str y), some (.ref X), some (.int (0 + (ws.length : Int))), some (.ref D1), some (.str z), c] ∧ J X = some (.lst (ws.map fun v => V.ref v.pr)) ∧ (∀ v ∈ ws, LViewAt J v ∧ v.rw ≠ X) ∧ Signs z.cps.toList ∧ z.cps.toList.length ≤ 200 ∧ ToldsAt J D1 ps ∧ Ladled p H J, ?_, ?_⟩
      · refine ⟨_, rfl, p, 5, rfl, L5.pot, by decide, by decide, fun d1 G3 _ _ L6 => ?_⟩
        have zL : z.length = z.cps.toList.length := rfl
        refine ⟨rfl, _, rfl, ite2 (fun _ => ?_) (fun _ => ?_)⟩
        · have L7 := L5.trans L6
          refine ⟨_, rfl, _, rfl, _, _, rfl, ⟨Nat.le_of_lt (small1000 (by omega)), rfl⟩, _, _, rfl, rfl, p, _, rfl, L7.pot, by omega, by omega, fun d2 G4 e0 e1 L8 => ?_⟩
          have L9 := L7.trans L8
          refine ⟨_, rfl, _, rfl, _, rfl, z, rfl, Nat.le_of_lt (small1000 (by omega)), _, rfl, by show 4 ≤ sizeLine; decide, fun q nq => ?_⟩
          have L10 := L9.new (o := .lst [.str "", .str "a", .str ".", .str "~"]) nq
          refine ⟨p, L10.pot, .inl ⟨q, _, rfl, .inl (.inl upd_same), L9.pot.ne nq, by decide, by decide, fun u G5 hu L11 => ?_⟩⟩
          obtain ⟨g, gl, gs, rfl⟩ : ∃ g : Str, g.cps.toList.length ≤ 1 ∧ Signs g.cps.toList ∧ u = .str g := by
            have a : ∀ g ∈ (["", "a", ".", "~"] : List Str), g.cps.toList.length ≤ 1 ∧ ∀ c ∈ g.cps.toList, c ∈ signs.cps.toList := by decide +kernel
            have e : ([.str "", .str "a", .str ".", .str "~"] : List V) = (["", "a", ".", "~"] : List Str).map V.str := rfl
            rw [e] at hu
            obtain ⟨g, h1, h2⟩ := List.mem_map.mp hu
            exact ⟨g, (a g h1).1, (a g h1).2, h2.symm⟩
          have L12 := L10.trans L11
          have gL : g.length = g.cps.toList.length := rfl
          have la := cutS_length z none (some d2)
          have lb : (cutS z none (some d2) ++ g).length = (cutS z none (some d2)).length + g.length := by
            show (cutS z none (some d2) ++ g).cps.toList.length = _
            rw [app_cps, List.length_append]
            rfl
          refine ⟨_, _, rfl, rfl, Nat.le_of_lt (small1000 (by omega)), _, rfl, _, rfl, _, rfl, p, 2, rfl, L12.pot, by decide, by decide, fun d3 G6 _ _ L13 => ?_⟩
          have lc := cutS_length z (some (d2 + d3)) none
          refine ⟨_, _, rfl, rfl, _, rfl, z, rfl, Nat.le_of_lt (small1000 (by omega)), _, _, rfl, rfl, Nat.le_of_lt (small1000 (by omega)), ?_⟩
          have A1 : Ladled p G2 G6 := L6.trans (L8.trans ((Ladled.ofSame (L9.pot) (same_new nq)).trans (L11.trans L13)))
          refine ⟨_, _, rfl, A1.keep _ _ gX nXp, fun v hv => ⟨(hws3 v hv).1.ladled A1 L5.pot, (hws3 v hv).2⟩, fun c hc => ?_, ?_, A1.tolds (t3.off L5.pot p1) (fun q hq => by
            obtain ⟨x, y, z, e⟩ := L5.pot
            exact ne_of (t3.tp q hq).1 e (by intro z; cases z)) t3, L5.trans A1⟩
          · rw [app_cps, app_cps] at hc
            rcases List.mem_append.mp hc with hc | hc
            · rcases List.mem_append.mp hc with hc | hc
              · exact zs c (cutS_sub hc)
              · exact gs c hc
            · exact zs c (cutS_sub hc)
          · rw [app_cps, List.length_append]
            show (cutS z none (some d2) ++ g).length + (cutS z (some (d2 + d3)) none).length ≤ 200
            omega
        · exact ⟨z, c4, rfl, L6.keep _ _ gX nXp, fun v hv => ⟨(hws3 v hv).1.ladled L6 L5.pot, (hws3 v hv).2⟩, zs, by omega, L6.tolds (t3.off L5.pot p1) (fun q hq => by
            obtain ⟨x, y, z, e⟩ := L5.pot
            exact ne_of (t3.tp q hq).1 e (by intro z; cases z)) t3, L5.trans L6⟩
      rintro σ J ⟨z, c, rfl, gX, hws2, zs, zl, t2, L4⟩
      refine ⟨_, rfl, .inl ⟨rfl, _, .inl (.inl gX)⟩, _, rfl, _, rfl, by show 2 ≤ sizeLine; decide, fun T nT => ?_⟩
      have sT : Same J (upd J T (.tup [.ref D1, .str z])) := same_new nT
      have eT := upd_same (H := J) (a := T) (o := .tup [.ref D1, .str z])
      have gX2 := sT _ _ gX
      generalize upd J T (.tup [.ref D1, .str z]) = J2 at sT eT gX2
      have wl : (ws.map fun v => V.ref v.pr).length < sizeLine := small1000 (by rw [List.length_map]; omega)
      refine ⟨X, _, _, rfl, rfl, gX2, wl, ws ++ [⟨T, D1, ps, z⟩], y, _, _, _, _, rfl, by rw [List.length_append]; rfl, ?_, fun v hv => ?_, ys, yl, (L4.same sT).mut nXH nXp⟩
      · rw [upd_same, List.map_append]
        rfl
      · rcases List.mem_append.mp hv with hv | hv
        · exact ⟨((hws2 v hv).1.same sT).lst (hws2 v hv).2 gX2, (hws2 v hv).2⟩
        · rw [List.mem_singleton.mp hv]
          exact ⟨LViewAt.lst ⟨eT, t2.same sT, p1, p4, txt_of zs zl⟩ nDX gX2, nDX⟩
    · rintro σ J ⟨ws, y, c1, c2, c3, c4, rfl, el, eX, hws, ys, yl, L⟩
      exact ⟨_, rfl, k X ws J ⟨eX, fun v hv => (hws v hv).1, by omega, by omega⟩ (by omega) L⟩
end
end Gu
namespace Gu
open PySem PySem.Spec PyProof.Rows L2
/-! ### views: far lengths, the same views -/
theorem poss_near {ws : List VW} (h : Vw ws) {n : Nat} (hn : 80 ≤ n) (p : Poss ws 80) : Poss ws n := by
  obtain ⟨cs, l, f⟩ := p
  have e : (cs.take 40 ++ (List.replicate (n - 80) 46 ++ cs.drop 40)).length = n := by
    rw [List.length_append, List.length_append, List.length_take, List.length_replicate, List.length_drop]
    omega
  refine ⟨_, e, fun v hv => ?_⟩
  rw [← far_cuts (h v hv).1 (h v hv).2 (by rw [e]; exact hn), e, ← f v hv]
  congr 1
  have a : (cs.take 40 ++ (List.replicate (n - 80) 46 ++ cs.drop 40)).take 40 = cs.take 40 := by
    rw [List.take_append_of_le_length (by rw [List.length_take]; omega), List.take_take]
    rfl
  have b : (cs.take 40 ++ (List.replicate (n - 80) 46 ++ cs.drop 40)).drop (n - 40) = cs.drop 40 := by
    refine List.ext_getElem? fun j => ?_
    rw [List.getElem?_drop, List.getElem?_append_right (by rw [List.length_take]; omega), List.length_take, List.getElem?_append_right (by rw [List.length_replicate]; omega), List.length_replicate]
    congr 1
    omega
  rw [a, b]
  exact List.take_append_drop 40 cs
def Alike (ws us : List VW) : Prop := ws.map (fun v => (v.recs, v.cs)) = us.map (fun v => (v.recs, v.cs))
theorem fits_all {ws : List VW} {cs : List Nat} : Fits ws cs ↔ ∀ x ∈ ws.map (fun v => (v.recs, v.cs)), cuts x.1 cs = x.2 := by
  constructor
  · intro h x hx
    obtain ⟨v, hv, rfl⟩ := List.mem_map.mp hx
    exact h v hv
  · exact fun h v hv => h _ (List.mem_map.mpr ⟨v, hv, rfl⟩)
theorem Alike.fits {ws us : List VW} (h : Alike ws us) (cs : List Nat) : Fits ws cs ↔ Fits us cs := by
  rw [fits_all, fits_all, show ws.map (fun v => (v.recs, v.cs)) = us.map (fun v => (v.recs, v.cs)) from h]
theorem Alike.poss {ws us : List VW} (h : Alike ws us) (n : Nat) : Poss ws n ↔ Poss us n := ⟨fun ⟨cs, l, f⟩ => ⟨cs, l, (h.fits cs).mp f⟩, fun ⟨cs, l, f⟩ => ⟨cs, l, (h.fits cs).mpr f⟩⟩
theorem Alike.possL {ws us : List VW} (h : Alike ws us) (m : Nat) : possL ws m = possL us m := by
  unfold Gu.possL
  exact List.filter_congr fun n _ => decide_eq_decide.mpr (h.poss n)
theorem Alike.lens {ws us : List VW} (h : Alike ws us) {sm : List Nat} {b : V} (L : Lens ws sm b) : Lens us sm b := by
  rcases L with ⟨e1, e2, e3⟩ | ⟨m, e1, e2, e3, e4, e5⟩
  · exact .inl ⟨e1, by rw [← h.possL]; exact e2, fun p => e3 ((h.poss _).mpr p)⟩
  · exact .inr ⟨m, e1, e2, by rw [← h.possL]; exact e3, fun n a b => (h.poss n).mp (e4 n a b), e5.imp id fun e p => e ((h.poss _).mpr p)⟩
theorem lens_one {ws : List VW} {sm tm : List Nat} {b c : V} (L : Lens ws sm b) (M : Lens ws tm c) : sm = tm ∧ b = c := by
  rcases L with ⟨e1, e2, e3⟩ | ⟨m, e1, e2, e3, e4, e5⟩
  · rcases M with ⟨f1, f2, f3⟩ | ⟨k, f1, f2, f3, f4, f5⟩
    · exact ⟨e2.trans f2.symm, e1.trans f1.symm⟩
    · exact absurd (f4 80 f2 (Nat.le_refl _)) e3
  · rcases M with ⟨f1, f2, f3⟩ | ⟨k, f1, f2, f3, f4, f5⟩
    · exact absurd (e4 80 e2 (Nat.le_refl _)) f3
    · have mk : m = k := by
        rcases Nat.lt_trichotomy m k with h | h | h
        · rcases f5 with z | z
          · omega
          · exact absurd (e4 (k - 1) (by omega) (by omega)) z
        · exact h
        · rcases e5 with z | z
          · omega
          · exact absurd (f4 (m - 1) (by omega) (by omega)) z
      subst mk
      exact ⟨e3.trans f3.symm, e1.trans f1.symm⟩
theorem knows_val {ws us : List VW} {n : Nat} {kvs jvs : List (Key × V)} (k : Knows n kvs (Fits ws)) (j : Knows n jvs (Fits us)) (s : ∀ cs, Fits ws cs ↔ Fits us cs) (p : Nat) : valV kvs (Sum.inl (p : Int)) = valV jvs (Sum.inl (p : Int)) := by
  cases e : valV jvs (Sum.inl (p : Int)) with
  | some v =>
    obtain ⟨c, rfl, _, _⟩ := j.val e
    exact more_knows k j (fun cs => (s cs).mp) e
  | none =>
    cases e2 : valV kvs (Sum.inl (p : Int)) with
    | none => rfl
    | some v =>
      obtain ⟨c, rfl, _, _⟩ := k.val e2
      rw [more_knows j k (fun cs => (s cs).mpr) e2] at e
      cases e
theorem wrote_same {ws us : List VW} {n : Nat} {kvs jvs : List (Key × V)} (k : Knows n kvs (Fits ws)) (j : Knows n jvs (Fits us)) (s : ∀ cs, Fits ws cs ↔ Fits us cs) (o : Nat) : wrote kvs o n = wrote jvs o n := by
  unfold wrote
  refine List.map_congr_left fun p _ => ?_
  unfold sgn
  rw [knows_val k j s p]
/-- possible lengths up to 130 -/
theorem lens130 {ws : List VW} (h : Vw ws) : (¬ Poss ws 80 → possL ws 131 = possL ws 81) ∧ (Poss ws 80 → ∀ n, 80 ≤ n → Poss ws n) := by
  refine ⟨fun no => ?_, fun p n hn => poss_near h hn p⟩
  have a : ∀ k, possL ws (81 + k) = possL ws 81 := fun k => by
    induction k with
    | zero => rfl
    | succ k ih =>
      rw [← ih]
      exact possL_no (m := 81 + k) fun p => no (poss_far h (show 80 ≤ 81 + k by omega) p)
  exact a 50
end Gu
namespace Gu
open PySem PySem.Spec PyProof.Rows L2
noncomputable def goodL (ws : List VW) (m : Nat) : List V := (List.range m).map fun n => V.bl (decide (Poss ws n))
theorem goodL_next (ws : List VW) (m : Nat) : goodL ws (m + 1) = goodL ws m ++ [V.bl (decide (Poss ws m))] := by
  unfold goodL
  rw [List.range_succ, List.map_append]
  rfl
theorem goodL_len (ws : List VW) (m : Nat) : (goodL ws m).length = m := by
  unfold goodL
  rw [List.length_map, List.length_range]
theorem goodL_at {ws : List VW} {m n : Nat} (h : n < m) : (goodL ws m)[n]? = some (V.bl (decide (Poss ws n))) := by
  unfold goodL
  rw [List.getElem?_map, List.getElem?_range h]
  rfl
section
variable {P : Program} {w : World} {K : PySem.W.Frag} {mg : Str → Option Value} {base : Heap} {C : Addr}
def spDueLengths : Sp := fun vs H Q _ => ∃ (a : Addr) (ws : List VW), vs = [.ref a] ∧ LViewsAt H a ws ∧ ∀ (T S : Addr) (sm : List Nat) (b : V) (G : Hp), Same H G → G T = some (.tup [.ref S, b]) → G S = some (.tup (natV sm)) → Lens ws sm b → Q (.ref T) G
set_option maxHeartbeats 1000000 in
theorem cal_dueLengths (B : Bi mg) (D : At K mg "_law_due_lengths" s_law_due_lengths ps_law_due_lengths) (C_law_known : Cal P w K mg base 2 "_law_known" ps_law_known spLKnown) : Cal P w K mg base 3 "_law_due_lengths" ps_law_due_lengths spDueLengths := by
  refine D.cal sc_law_due_lengths (fun vs H Q E h => ?_) (fun f cdv A outer s H vs Q E hr h => ?_)
  · obtain ⟨a, ws, rfl, _⟩ := h
    rfl
  · obtain ⟨a, ws, rfl, hV, k⟩ := h
    refine ⟨_, (pss_cons (ps_set (i := 1) sc_law_due_lengths.nd rfl (.inr rfl) (pe_lc (own := [("_law_many", 3)]) (by rfl) sc_law_due_lengths.nd (pi_range1 (by rfl) B.range (pa_cons pe_int pa_nil)) (blkOk_by (own := [("_law_many", 3)]) (N := ["_law_views_here", "_law_good", "_law_low", "_law_many"]) (sc := defScope s_law_due_lengths) (by decide +kernel)) (fun _ _ _ _ _ => pg_name (i := 3) sc_law_due_lengths.nd rfl (.inl rfl)) (fun _ _ _ _ _ => pts_nil) (fun _ _ _ _ _ => (pe_cmpR op_notN (pe_own C_law_known hr (by decide) (by rfl) (pa_cons (pv 0) (pa_cons (pv 3) pa_nil))) pe_non (nomark _)))))
      (pss_cons (ps_set (i := 2) sc_law_due_lengths.nd rfl (.inl rfl) pe_int)
      (pss_cons (ps_while PassesOwn.never (PW.pt (pw_and (pt_cmpR op_gt (pv 2) pe_int (nomark _)) (pw_and1 (pt_val (pe_ix ix_list (pv 1) (pe_op op_sub (pv 2) pe_int) (fun _ _ => rfl))))))
      (pss_one (ps_set (i := 2) sc_law_due_lengths.nd rfl (.inl rfl) (pe_op op_sub (pv 2) pe_int))))
      (pss_one (ps_ret (pe_tup (pa_cons (pe_callTy call_tuple_of (by rfl) B.tuple (by decide +kernel) (pa_cons (pe_lc (own := [("_law_many", 3)]) (by rfl) sc_law_due_lengths.nd (pi_range1 (by rfl) B.range (pa_cons (pv 2) pa_nil)) (blkOk_by (own := [("_law_many", 3)]) (N := ["_law_views_here", "_law_good", "_law_low", "_law_many"]) (sc := defScope s_law_due_lengths) (by decide +kernel)) (fun _ _ _ _ _ => pg_name (i := 3) sc_law_due_lengths.nd rfl (.inl rfl)) (fun _ _ _ _ _ => (pts_one (pt_val (pe_ix (r := rIxL K) ix_list (pv 1) (pv 3) (fun _ _ => rfl))))) (fun _ _ _ _ _ => (pv 3))) pa_nil)) (pa_cons (pe_mid (pe_ifExp (pt_cmpR op_lt (pv 2) pe_int (nomark _)) (pv 2) pe_non)) pa_nil)))))))), ?_⟩
    refine ⟨131, rfl, by decide, by decide, fun M nM => lc_range (lo := 0) (n := 131) (fun i J => J M = some (.lst (goodL ws i)) ∧ Same H J) ⟨upd_same, same_new nM⟩ ?_ ?_⟩
    · rintro i J hi ⟨eM, sJ⟩
      rw [Int.zero_add]
      have gl := goodL_len ws i
      refine ⟨rfl, yes (iteT ?_)⟩
      refine ⟨_, rfl, _, rfl, a, i, ws, rfl, hV.same sJ, by omega, fun no G sG => ⟨rfl, _, sG _ _ eM, small1000 (by omega), ?_, same_offF (sJ.trans sG) nM⟩, fun d kvs G nd sG eD kn => ⟨rfl, _, sG _ _ eM, small1000 (by omega), ?_, same_offF (sJ.trans sG) nM⟩⟩
      · rw [upd_same, goodL_next, decide_eq_false (show ¬ Poss ws i from fun ⟨cs, l, h⟩ => no cs l h)]
        rfl
      · rw [upd_same, goodL_next, decide_eq_true (show Poss ws i from ⟨wrote kvs 46 i, wrote_len .., wrote_fits kn⟩)]
        rfl
    · rintro J ⟨eM, sJ⟩
      have lv := lens130 hV.vw
      refine ⟨fun m σ J1 => ∃ (b : Nat) (u : Option V), m = b ∧ b ≤ 131 ∧ σ = [some (.ref a), some (.ref M), some (.int (b : Int)), u] ∧ J1 = J ∧ ∀ n, b ≤ n → n < 131 → Poss ws n, ⟨131, 131, none, rfl, Nat.le_refl _, rfl, rfl, fun n h1 h2 => absurd h2 (by omega)⟩, ?_⟩
      rintro m σ J1 ⟨b, u, rfl, b80, rfl, rfl, hb⟩
      refine ⟨_, rfl, _, _, rfl, rfl, _, rfl, ite2 (fun e => ?_) (fun e => ?_)⟩
      · have m0 : 0 < m := by have := of_decide_eq_true e; omega
        refine ⟨_, rfl, _, rfl, _, _, rfl, rfl, M, _, _, _, rfl, rfl, .inl (.inl eM), at_of' (xs := goodL ws 131) (j := m - 1) (by omega) (goodL_at (by omega)), _, rfl, ?_⟩
        by_cases hp : Poss ws (m - 1)
        · rw [decide_eq_true hp]
          refine iteT ⟨_, fun σ' H' h => h, _, rfl, _, _, rfl, rfl, ?_⟩
          refine ⟨m - 1, by omega, m - 1, u, rfl, by omega, ?_, rfl, fun n h1 h2 => ?_⟩
          · rw [show ((m - 1 : Nat) : Int) = (m : Int) - 1 by omega]
            rfl
          · by_cases q : n = m - 1
            · rw [q]
              exact hp
            · exact hb n (by omega) h2
        · rw [decide_eq_false hp]
          have hm : m = 0 ∨ ¬ Poss ws (m - 1) := .inr hp
          refine iteF ?_
          refine ⟨_, rfl, _, rfl, by omega, by omega, fun M2 nM2 => lc_range (lo := 0) (n := (m : Int).toNat) (fun i J2 => J2 M2 = some (.lst (natV (possL ws i))) ∧ Same J1 J2) ⟨upd_same, same_new nM2⟩ ?_ ?_⟩
          · rintro i J2 hi ⟨eM2, sJ2⟩
            rw [Int.toNat_natCast] at hi
            rw [Int.zero_add]
            have pl := possL_len ws i
            refine ⟨rfl, _, rfl, _, rfl, M, _, _, _, rfl, rfl, .inl (.inl (sJ2 _ _ eM)), at_of' (xs := goodL ws 131) (j := i) rfl (goodL_at (by omega)), _, rfl, ?_⟩
            by_cases hp : Poss ws i
            · rw [decide_eq_true hp]
              refine iteT ⟨_, rfl, _, eM2, small1000 ?_, ?_, same_offF sJ2 nM2⟩
              · unfold natV
                rw [List.length_map]
                omega
              · rw [upd_same, possL_yes hp]
                unfold natV
                rw [List.map_append]
                rfl
            · rw [decide_eq_false hp]
              refine iteF ⟨?_, sJ2⟩
              rw [possL_no hp]
              exact eM2
          · rintro J2 ⟨eM2, sJ2⟩
            rw [Int.toNat_natCast] at eM2
            refine ⟨M2, _, rfl, .inl ⟨.inl (.inl eM2), fun S nS => ?_⟩⟩
            have sS : Same J2 (upd J2 S (.tup (natV (possL ws m)))) := same_new nS
            have eS := upd_same (H := J2) (a := S) (o := .tup (natV (possL ws m)))
            generalize upd J2 S (.tup (natV (possL ws m))) = J3 at sS eS
            refine ⟨fun v G => G = J3 ∧ Lens ws (possL ws m) v, ?_, ?_⟩
            · refine ⟨_, rfl, _, _, rfl, rfl, _, rfl, ite2 (fun e1 => ?_) (fun e1 => ?_)⟩
              · have ml : m < 131 := by have := of_decide_eq_true e1; omega
                have m80 : m ≤ 80 := Decidable.byContradiction fun h => by
                  rcases hm with z | z
                  · omega
                  · exact z (poss_near hV.vw (by omega) (poss_far hV.vw (by omega) (hb m (Nat.le_refl _) ml)))
                exact ⟨_, rfl, rfl, .inr ⟨m, rfl, m80, rfl, fun n a b => hb n a (by omega), hm⟩⟩
              · have ml : m = 131 := by
                  have : ¬ (m : Int) < 131 := fun h => e1 (decide_eq_true h)
                  omega
                subst ml
                have no : ¬ Poss ws 80 := fun h => by
                  rcases hm with z | z
                  · omega
                  · exact z (poss_near hV.vw (by decide) h)
                exact ⟨rfl, .inl ⟨rfl, lv.1 no, no⟩⟩
            · rintro v G3 ⟨rfl, hL⟩
              refine ⟨by show 2 ≤ sizeLine; decide, fun R nR => ?_⟩
              have sR : Same G3 (upd G3 R (.tup [.ref S, v])) := same_new nR
              exact k R S _ v _ (sJ.trans (sJ2.trans (sS.trans sR))) upd_same (sR _ _ eS) hL
      · have m0 : m = 0 := by
          have : ¬ (0 : Int) < (m : Int) := fun h => e (decide_eq_true h)
          omega
        have hm : m = 0 ∨ ¬ Poss ws (m - 1) := .inl m0
        refine iteF ?_
        refine ⟨_, rfl, _, rfl, by omega, by omega, fun M2 nM2 => lc_range (lo := 0) (n := (m : Int).toNat) (fun i J2 => J2 M2 = some (.lst (natV (possL ws i))) ∧ Same J1 J2) ⟨upd_same, same_new nM2⟩ ?_ ?_⟩
        · rintro i J2 hi ⟨eM2, sJ2⟩
          rw [Int.toNat_natCast] at hi
          rw [Int.zero_add]
          have pl := possL_len ws i
          refine ⟨rfl, _, rfl, _, rfl, M, _, _, _, rfl, rfl, .inl (.inl (sJ2 _ _ eM)), at_of' (xs := goodL ws 131) (j := i) rfl (goodL_at (by omega)), _, rfl, ?_⟩
          by_cases hp : Poss ws i
          · rw [decide_eq_true hp]
            refine iteT ⟨_, rfl, _, eM2, small1000 ?_, ?_, same_offF sJ2 nM2⟩
            · unfold natV
              rw [List.length_map]
              omega
            · rw [upd_same, possL_yes hp]
              unfold natV
              rw [List.map_append]
              rfl
          · rw [decide_eq_false hp]
            refine iteF ⟨?_, sJ2⟩
            rw [possL_no hp]
            exact eM2
        · rintro J2 ⟨eM2, sJ2⟩
          rw [Int.toNat_natCast] at eM2
          refine ⟨M2, _, rfl, .inl ⟨.inl (.inl eM2), fun S nS => ?_⟩⟩
          have sS : Same J2 (upd J2 S (.tup (natV (possL ws m)))) := same_new nS
          have eS := upd_same (H := J2) (a := S) (o := .tup (natV (possL ws m)))
          generalize upd J2 S (.tup (natV (possL ws m))) = J3 at sS eS
          refine ⟨fun v G => G = J3 ∧ Lens ws (possL ws m) v, ?_, ?_⟩
          · refine ⟨_, rfl, _, _, rfl, rfl, _, rfl, ite2 (fun e1 => ?_) (fun e1 => ?_)⟩
            · have ml : m < 131 := by have := of_decide_eq_true e1; omega
              have m80 : m ≤ 80 := Decidable.byContradiction fun h => by
                rcases hm with z | z
                · omega
                · exact z (poss_near hV.vw (by omega) (poss_far hV.vw (by omega) (hb m (Nat.le_refl _) ml)))
              exact ⟨_, rfl, rfl, .inr ⟨m, rfl, m80, rfl, fun n a b => hb n a (by omega), hm⟩⟩
            · have ml : m = 131 := by
                have : ¬ (m : Int) < 131 := fun h => e1 (decide_eq_true h)
                omega
              subst ml
              have no : ¬ Poss ws 80 := fun h => by
                rcases hm with z | z
                · omega
                · exact z (poss_near hV.vw (by decide) h)
              exact ⟨rfl, .inl ⟨rfl, lv.1 no, no⟩⟩
          · rintro v G3 ⟨rfl, hL⟩
            refine ⟨by show 2 ≤ sizeLine; decide, fun R nR => ?_⟩
            have sR : Same G3 (upd G3 R (.tup [.ref S, v])) := same_new nR
            exact k R S _ v _ (sJ.trans (sJ2.trans (sS.trans sR))) upd_same (sR _ _ eS) hL
end
end Gu
namespace Gu
open PySem PySem.Spec PyProof.Rows L2
/-! ### only_text: both ways -/
def SoleIs (ws : List VW) (n : Nat) (kvs : List (Key × V)) (y : Str) : Prop := possL ws 81 = [n] ∧ ¬ Poss ws 80 ∧ Knows n kvs (Fits ws) ∧ y.cps.toList = wrote kvs 63 n ∧ 63 ∉ y.cps.toList
def SoleX (ws : List VW) (v : V) : Prop := (v = .non ∧ ∀ n kvs y, ¬ SoleIs ws n kvs y) ∨ ∃ n kvs y, v = .str y ∧ SoleIs ws n kvs y
theorem SoleIs.same {ws us : List VW} {n m : Nat} {kvs jvs : List (Key × V)} {y z : Str} (s : ∀ cs, Fits ws cs ↔ Fits us cs) (a : SoleIs ws n kvs y) (k : Knows m jvs (Fits us)) (e : m = n) : wrote jvs 63 m = y.cps.toList := by
  subst e
  rw [a.2.2.2.1]
  exact (wrote_same a.2.2.1 k s 63).symm
theorem SoleX.one {ws : List VW} {u v : V} (a : SoleX ws u) (b : SoleX ws v) : u = v := by
  rcases a with ⟨rfl, a⟩ | ⟨n, kvs, y, rfl, a⟩
  · rcases b with ⟨rfl, _⟩ | ⟨n, kvs, y, rfl, b⟩
    · rfl
    · exact absurd b (a n kvs y)
  · rcases b with ⟨rfl, b⟩ | ⟨m, jvs, z, rfl, b⟩
    · exact absurd a (b n kvs y)
    · have e : m = n := by
        have := a.1.symm.trans b.1
        exact (List.cons.inj this).1.symm
      have q : z.cps.toList = y.cps.toList := by rw [b.2.2.2.1]; exact a.same (z := z) (fun _ => Iff.rfl) b.2.2.1 e
      rw [str_ext q]
theorem Least.one {ws : List VW} {u v : V} (a : Least ws u) (b : Least ws v) : u = v := by
  rcases a with ⟨rfl, a⟩ | ⟨n, kvs, y, rfl, n80, p, no, k, e⟩
  · rcases b with ⟨rfl, _⟩ | ⟨m, jvs, z, rfl, m80, p, _⟩
    · rfl
    · have : m ∈ possL ws 81 := mem_possL.mpr ⟨by omega, p⟩
      rw [a] at this
      cases this
  · rcases b with ⟨rfl, b⟩ | ⟨m, jvs, z, rfl, m80, q, no2, j, e2⟩
    · have : n ∈ possL ws 81 := mem_possL.mpr ⟨by omega, p⟩
      rw [b] at this
      cases this
    · have en : n = m := by
        rcases Nat.lt_trichotomy n m with h | h | h
        · exact absurd p (no2 n h)
        · exact h
        · exact absurd q (no m h)
      subst en
      have : y = z := str_ext (by rw [e, e2]; exact wrote_same k j (fun _ => Iff.rfl) 46)
      rw [this]
section
variable {P : Program} {w : World} {K : PySem.W.Frag} {mg : Str → Option Value} {base : Heap} {C : Addr}
def spOnlyX (C : Addr) : Sp := fun vs H Q _ => ∃ (a : Addr) (ws : List VW), vs = [.ref a] ∧ ViewsAt C H a ws ∧ ∀ (v : V) (G : Hp), Same H G → SoleX ws v → Q v G
theorem cal_onlyX (B : Bi mg) (D : At K mg "only_text" s_only_text ps_only_text) (C_lengths : Cal P w K mg base 5 "lengths" ps_lengths (spLengths C)) (C_signs : Cal P w K mg base 5 "signs" ps_signs (spSigns C)) : Cal P w K mg base 6 "only_text" ps_only_text (spOnlyX C) := by
  refine D.cal sc_only_text (fun vs H Q E h => ?_) (fun f cdv A outer s H vs Q E hr h => ?_)
  · obtain ⟨a, ws, rfl, _⟩ := h
    rfl
  · obtain ⟨a, ws, rfl, hV, k⟩ := h
    refine ⟨_, (pss_cons (ps_asg (pe_own C_lengths hr (by decide) (by rfl) (pa_cons (pv 0) pa_nil)) (pg_tup rfl (pgs_cons (pg_name (i := 1) sc_only_text.nd rfl (.inl rfl)) (pgs_cons (pg_name (i := 2) sc_only_text.nd rfl (.inl rfl)) pgs_nil))))
      (pss_cons (ps_if (PW.pt (pw_or (pt_cmpR op_notN (pv 2) pe_non (nomark _)) (pw_or1 (pt_cmpR op_ne (pe_callB call_len (by rfl) B.len (by decide +kernel) (pa_cons (pv 1) pa_nil)) pe_int (nomark _))))) (pss_one (ps_ret pe_non)) pss_nil)
      (pss_cons (ps_set (i := 3) sc_only_text.nd rfl (.inl rfl) (pe_own C_signs hr (by decide) (by rfl) (pa_cons (pv 0) (pa_cons (pe_ix ix_tup (pv 1) pe_int (fun _ _ => rfl)) pa_nil))))
      (pss_one (ps_ret (pe_mid (pe_ifExp (pt_cmpR op_in_sign (pe_cst B.SEVERAL (by rfl)) (pv 3) (by rfl)) pe_non (pv 3)))))))), ?_⟩
    refine ⟨_, rfl, a, ws, rfl, hV, fun T S sm b G1 s1 eT eS L => ?_⟩
    refine ⟨T, _, rfl, .inl (.inl eT), rfl, _, _, rfl, _, _, rfl, rfl, ?_⟩
    refine ⟨_, rfl, rfl, _, rfl, ?_⟩
    rcases L with ⟨rfl, e, n80⟩ | ⟨m, rfl, m80, _, all, _⟩
    · refine iteNS rfl ⟨_, rfl, _, _, rfl, .inr ⟨_, .inl (.inl eS), rfl⟩, rfl, _, rfl, ?_⟩
      have ll : (natV sm).length = sm.length := by
        unfold natV
        rw [List.length_map]
      rw [ll]
      by_cases h1 : sm.length = 1
      · rw [decide_eq_true (show V.int (sm.length : Int) = V.int 1 by rw [h1]; rfl)]
        obtain ⟨n, rfl⟩ := List.length_eq_one_iff.mp h1
        have hn := (possL_head e.symm).1
        refine iteF ⟨_, rfl, _, rfl, S, _, _, _, rfl, rfl, .inl (.inl eS), (rfl : atI (natV [n]) 0 = some (V.int (n : Int))), a, n, ws, rfl, hV.same s1, by omega, fun v G2 s2 hv => ?_⟩
        rcases hv with ⟨rfl, no⟩ | ⟨kvs, y, rfl, kn, ey⟩
        · obtain ⟨cs, l, h⟩ := (possL_head e.symm).2.1
          exact absurd h (no cs l)
        · refine ⟨fun v J => J = G2 ∧ SoleX ws v, ?_, ?_⟩
          · refine ⟨_, rfl, 63, y, by decide +kernel, rfl, _, rfl, ?_⟩
            by_cases h63 : 63 ∈ y.cps.toList
            · rw [decide_eq_true h63]
              refine iteT ⟨rfl, .inl ⟨rfl, fun m jvs z q => ?_⟩⟩
              have em : n = m := by
                have := e.trans q.1
                exact (List.cons.inj this).1
              have := q.same (z := z) (fun _ => Iff.rfl) kn em
              rw [← ey] at this
              rw [this] at h63
              exact q.2.2.2.2 h63
            · rw [decide_eq_false h63]
              exact iteF ⟨_, rfl, rfl, .inr ⟨n, kvs, y, rfl, e.symm, n80, kn, ey, h63⟩⟩
          · rintro v _ ⟨rfl, hv⟩
            exact k v _ (s1.trans s2) hv
      · rw [decide_eq_false (show ¬ V.int (sm.length : Int) = V.int 1 from fun h => h1 (by have := V.int.inj h; omega))]
        refine iteT (k _ _ s1 (.inl ⟨rfl, fun m jvs z q => h1 ?_⟩))
        rw [e, q.1]
        rfl
    · rw [decide_eq_false (fun h => by cases h)]
      exact iteT (iteT (k _ _ s1 (.inl ⟨rfl, fun n jvs z q => q.2.1 (all 80 m80 (Nat.le_refl _))⟩)))
end
end Gu
namespace Gu
open PySem PySem.Spec PyProof PyProof.Rows L2
/-! ### numbers of up to 4,300 digits written out -/
section
variable {prog : Program} {w : World}
theorem call_int_big {A : Around} {E : Value → Shared → Prop} {s : Shared} {Q : Value → Shared → Prop} {a : Int} {t : Tok} (hn : s.heap.NoDigits) (hlt : a.natAbs < 10 ^ 4300) (h : Q (.str (toString a) s.toks) { s with toks := s.toks + 1 }) : wpAny (model prog w) A (call (.builtin "int.__repr__") [.int a t]) Q E s := by
  refine wpAny_call (codeAny_call_builtin F.slot_int_repr.plain F.entry_int_repr (F.slot_int_repr.check _ _ _ _ _ _ _ _ (typeIs_int s a t) (F.args_int_repr_1 _) ?_))
  unfold Builtin.«int.__repr__»
  show wpAny _ _ (do let r ← Builtin.overDigitLimit? a; _) _ _ s
  refine wpAny_bind (overDigitLimit_any hn (fun _ => ?_) (fun hge => absurd hlt (Nat.not_lt.mpr hge)))
  exact wpAny_bind (wpAny_mkStr (wpAny_pure h) (int_text_fits10 hlt))
theorem reprK_big {as : List Addr} {h₀ : Heap} {d : Nat} {a : Int} {t : Tok} (hn : h₀.NoDigits) (hlt : a.natAbs < 10 ^ 4300) : ReprK prog w as h₀ (d + 1) (.int a t) (Str.ofString (toString a)) := fun base hz A g E s Q hg hcl hu hk hQ => by
  have hn' : base ≤ sizeLine := by omega
  rw [pyReprUnder_leaf (v := .int a t) hn' (fun _ e => nomatch e)]
  unfold pyRepr
  refine wpAny_bind (wpAny_pyReprObj_slot (by omega) (typeIs_int s a t) F.slot_int_repr.toG (call_int_big (hn.keeps hk) hlt ?_))
  exact ⟨_, _, rfl, wpAny_pure (hQ _ _ fun _ _ e => e)⟩
end
theorem num_text {i : Int} (h : i.natAbs < 2 ^ 3000) : (Str.ofString (toString i)).length ≤ 3010 := by
  have l : i.natAbs.log2 < 3000 := PySem.Flt.log2_lt_of (by decide) h
  have e := int_text_length_le (a := i) (k := 3000) (by decide) l
  rw [PySem.ofString_length]
  omega
/-- what is written out of a text or None -/
def wroteO (v : V) (t : Str) : Prop := (v = .non ∧ t = ("None" : String)) ∨ ∃ y : Str, v = .str y ∧ t = reprText y ∧ y.cps.toList.length ≤ 600 ∧ ∀ c ∈ y.cps.toList, c < 16 ^ 8
theorem wroteO.one {v : V} {t u : Str} (a : wroteO v t) (b : wroteO v u) : t = u := by
  rcases a with ⟨rfl, rfl⟩ | ⟨y, rfl, rfl, _⟩
  · rcases b with ⟨_, rfl⟩ | ⟨y, e, _⟩
    · rfl
    · cases e
  · rcases b with ⟨e, _⟩ | ⟨z, e, rfl, _⟩
    · cases e
    · cases e
      rfl
theorem wroteO.len {v : V} {t : Str} (a : wroteO v t) : t.length ≤ 60000 := by
  rcases a with ⟨_, rfl⟩ | ⟨y, _, rfl, l, hc⟩
  · decide +kernel
  · have f := Fine.str hc l
    have := PyData.shown_le 80 (by decide) (.str y) f.ls
    have w := f.wt
    have e : (PyData.str y).shown = reprText y := by simp only [PyData.shown]
    rw [e] at this
    have : (80 + 2) * (PyData.str y).weight ≤ 82 * 600 := Nat.mul_le_mul_left _ w
    omega
section
variable {X : Cx}
/-- repr of a list of a text, or None, and a number of up to 3,000 bits -/
theorem call_repr2 (ND : X.base.NoDigits) (quiet : X.A.guards = some []) (hu : X.A.units + 64 < cLine) : CallR X (.builtin "repr") (fun xs H Q => ∃ (a : Addr) (v : V) (i : Int) (t : Str), xs = [.ref a] ∧ SqL X.K H a [v, .int i] ∧ wroteO v t ∧ i.natAbs < 2 ^ 3000 ∧ Q (.str (listText [t, Str.ofString (toString i)])) H) := by
  intro pins s σ H xs us Q I r h
  obtain ⟨a, v, i, t, rfl, ha, hw, hi, q⟩ := h
  cases r with
  | cons r rr =>
    cases rr
    cases (show _ = Value.ref a from r)
    have nd : s.heap.NoDigits := ND.keeps I.bk
    obtain ⟨its, rv, ⟨o, m, ho, hc, _, hd⟩, _⟩ := I.list ha
    cases rv with
    | cons r1 rv =>
    cases rv with
    | cons r2 rv =>
    cases rv
    rename_i u u2
    obtain ⟨tk2, rfl⟩ := (show ∃ tk, u2 = Value.int i tk from r2)
    have hlt : i.natAbs < 10 ^ 4300 := Nat.lt_of_lt_of_le hi (by decide +kernel)
    have tl := hw.len
    have nl := num_text hi
    have sz : (listText [t, Str.ofString (toString i)]).length ≤ sizeLine := by
      have e : (listText [t, Str.ofString (toString i)]).length ≤ 100000 := by
        have e := listText_len_le [t, Str.ofString (toString i)]
        simp only [List.map_cons, List.map_nil, List.sum_cons, List.sum_nil, List.length_cons, List.length_nil] at e
        omega
      exact Nat.le_trans e (by decide)
    refine call_repr_slot (by omega) ⟨o, ho, hc⟩ F.slot_list_repr.toG (call_list_reprK (h₀ := s.heap) (as := []) (d := 1) (x := u) (l := [.int i tk2]) ho hc hd List.not_mem_nil rfl (fun j y e => ?_) quiet (fun b _ => Clear.nil b) (by show X.A.units + 1 + 2 < cLine; omega) (fun _ _ e => e) (fun h' u tk keep => ⟨_, _, rfl, .str _, H, I.kept (t' := tk) keep, ⟨_, rfl⟩, q⟩) sz)
    match j, e with
    | 0, e =>
      cases e
      refine ⟨t, rfl, ?_⟩
      rcases hw with ⟨rfl, rfl⟩ | ⟨y, rfl, rfl, _⟩
      · cases r1
        exact ReprK.of_is ReprIs.none _ _ _
      · obtain ⟨tk, rfl⟩ := r1
        exact ReprK.of_is (ReprIs.str y tk (Nat.le_trans tl (by decide))) _ _ _
    | 1, e =>
      cases e
      exact ⟨_, rfl, reprK_big nd hlt⟩
    | j + 2, e => cases e
end
end Gu
namespace Gu
open PySem PySem.Spec PyProof.Rows L2
/-! ### what is known, with a sign at each open place -/
theorem kl_sgn {kvs : List (Key × V)} {n p o : Nat} {Pd : List Nat → Prop} (h : Knows n kvs Pd) (hp : p < n) : ∃ v, (kl kvs n)[p]? = some v ∧ ((v = .non ∧ sgn kvs o p = o ∧ valV kvs (Sum.inl (p : Int)) = none) ∨ (v = .str (one (sgn kvs o p)) ∧ valV kvs (Sum.inl (p : Int)) = some (.str (one (sgn kvs o p))) ∧ sgn kvs o p ∈ signs.cps.toList)) := by
  refine ⟨_, kl_at hp, ?_⟩
  cases e : valV kvs (Sum.inl (p : Int)) with
  | none => exact .inl ⟨rfl, sgn_none e, rfl⟩
  | some v =>
    obtain ⟨c, rfl, hc, _⟩ := h.val e
    rw [sgn_some e]
    exact .inr ⟨rfl, rfl, hc⟩
theorem wrote_next (kvs : List (Key × V)) (o i : Nat) : wrote kvs o (i + 1) = wrote kvs o i ++ [sgn kvs o i] := by
  unfold wrote
  rw [List.range_succ, List.map_append]
  rfl
theorem kl_flat {kvs : List (Key × V)} {n : Nat} {Pd : List Nat → Prop} (h : Knows n kvs Pd) : (kl kvs n).all flatV = true := by
  rw [List.all_eq_true]
  intro v hv
  obtain ⟨p, hp, e⟩ := List.mem_iff_getElem.mp hv
  rw [kl_len] at hp
  obtain ⟨u, hu, w⟩ := kl_sgn (o := 63) h hp
  have : v = u := by
    have := List.getElem?_eq_getElem (l := kl kvs n) (i := p) (by rw [kl_len]; exact hp)
    rw [e, hu] at this
    exact (Option.some.inj this).symm
  subst this
  rcases w with ⟨rfl, _⟩ | ⟨rfl, _⟩ <;> rfl
/-- an open place: None is among what is known -/
theorem none_in {kvs : List (Key × V)} {n : Nat} {Pd : List Nat → Prop} (h : Knows n kvs Pd) : inV .non (kl kvs n) = decide (63 ∈ wrote kvs 63 n) := by
  by_cases m : 63 ∈ wrote kvs 63 n
  · rw [decide_eq_true m]
    unfold wrote at m
    obtain ⟨p, hp, e⟩ := List.mem_map.mp m
    obtain ⟨v, hv, w⟩ := kl_sgn (o := 63) h (List.mem_range.mp hp)
    rcases w with ⟨rfl, _⟩ | ⟨_, _, hs⟩
    · unfold inV
      rw [List.any_eq_true]
      exact ⟨_, List.mem_of_getElem? hv, rfl⟩
    · rw [e] at hs
      exact absurd hs no63
  · rw [decide_eq_false m]
    unfold inV
    rw [List.any_eq_false]
    intro v hv ev
    obtain ⟨p, hp, e⟩ := List.mem_iff_getElem.mp hv
    rw [kl_len] at hp
    obtain ⟨u, hu, w⟩ := kl_sgn (o := 63) h hp
    have : v = u := by
      have := List.getElem?_eq_getElem (l := kl kvs n) (i := p) (by rw [kl_len]; exact hp)
      rw [e, hu] at this
      exact (Option.some.inj this).symm
    subst this
    rcases w with ⟨rfl, es, _⟩ | ⟨rfl, _⟩
    · refine m ?_
      unfold wrote
      exact List.mem_map.mpr ⟨p, List.mem_range.mpr hp, es⟩
    · cases ev
theorem wrote_eq {kvs : List (Key × V)} {n o : Nat} {Pd : List Nat → Prop} (h : Knows n kvs Pd) (m : 63 ∉ wrote kvs 63 n) : wrote kvs o n = wrote kvs 63 n := by
  unfold wrote at m ⊢
  refine List.map_congr_left fun p hp => ?_
  obtain ⟨v, _, w⟩ := kl_sgn (o := 63) h (List.mem_range.mp hp)
  rcases w with ⟨_, es, _⟩ | ⟨_, e, _⟩
  · exact absurd (List.mem_map.mpr ⟨p, hp, es⟩) m
  · rw [sgn_some e]
theorem shaped12 {ds : List PyData} (h : ∀ d ∈ ds, d.canLay0 = true ∧ d.depth ≤ 10) : SeqAt.shaped (.list ds) = true := by
  have a : ∀ ds : List PyData, (∀ d ∈ ds, d.canLay0 = true ∧ d.depth ≤ 10) → PyData.canLayAll0 ds = true ∧ PyData.depthAll ds ≤ 10 := by
    intro ds
    induction ds with
    | nil => exact fun _ => ⟨rfl, Nat.zero_le _⟩
    | cons d ds ih =>
      intro h
      have b := ih fun e he => h e (List.mem_cons_of_mem _ he)
      have c := h d (List.mem_cons_self ..)
      refine ⟨?_, Nat.max_le.mpr ⟨c.2, b.2⟩⟩
      show (d.canLay0 && PyData.canLayAll0 ds) = true
      rw [c.1, b.1]
      rfl
  have b := a ds h
  unfold SeqAt.shaped
  rw [Bool.and_eq_true]
  refine ⟨b.1, decide_eq_true ?_⟩
  show PyData.depthAll ds + 1 ≤ 64
  omega
/-! ### _law_due_texts -/
section
variable {P : Program} {w : World} {K : PySem.W.Frag} {mg : Str → Option Value} {base : Heap} {C : Addr}
def spDueTexts : Sp := fun vs H Q _ => ∃ (a T S : Addr) (ws : List VW) (sm : List Nat) (b : V), vs = [.ref a, .ref T] ∧ LViewsAt H a ws ∧ H T = some (.tup [.ref S, b]) ∧ H S = some (.tup (natV sm)) ∧ Lens ws sm b ∧ ∀ (l : Addr) (v u : V) (G : Hp), Same H G → G l = some (.lst [v, u]) → Least ws v → SoleX ws u → Q (.ref l) G
set_option maxHeartbeats 2000000 in
theorem cal_dueTexts (B : Bi mg) (D : At K mg "_law_due_texts" s_law_due_texts ps_law_due_texts) (C_law_known : Cal P w K mg base 2 "_law_known" ps_law_known spLKnown) : Cal P w K mg base 3 "_law_due_texts" ps_law_due_texts spDueTexts := by
  refine D.cal sc_law_due_texts (fun vs H Q E h => ?_) (fun f cdv A outer s H vs Q E hr h => ?_)
  · obtain ⟨a, T, S, ws, sm, b, rfl, _⟩ := h
    rfl
  · obtain ⟨a, T, S, ws, sm, b, rfl, hV, eT, eS, L, k⟩ := h
    refine ⟨_, (C8.pss_cut (ps_set (i := 2) sc_law_due_texts.nd rfl (.inl rfl) (pe_op op_cat (pe_callTy call_list_of (by rfl) B.list (by decide +kernel) (pa_cons (pe_ix ix_tup (pv 1) pe_int (fun _ _ => rfl)) pa_nil)) (pe_lst (pa_cons (pe_ix ix_tup (pv 1) pe_int (fun _ _ => rfl)) pa_nil))))
      (C8.pss_cut (ps_if (pt_cmpR (op_eqD hr.units) (pv 2) (pe_lst (pa_cons pe_non pa_nil)) (nomark _)) (pss_one (ps_ret (pe_lst (pa_cons pe_non (pa_cons pe_non pa_nil))))) pss_nil)
      (pss_cons (ps_set (i := 3) sc_law_due_texts.nd rfl (.inl rfl) (pe_own C_law_known hr (by decide) (by rfl) (pa_cons (pv 0) (pa_cons (pe_ix ix_list (pv 2) pe_int (fun _ _ => rfl)) pa_nil))))
      (C8.pss_cut (ps_set (i := 4) sc_law_due_texts.nd rfl (.inl rfl) (pe_join pe_str (pe_lc (own := [("_law_each", 6)]) (by rfl) sc_law_due_texts.nd (pi_list (pv 3)) (blkOk_by (own := [("_law_each", 6)]) (N := ["_law_views_here", "_law_due", "_law_firsts", "_law_known_here", "_law_least_here", "_law_alone", "_law_each"]) (sc := defScope s_law_due_texts) (by decide +kernel)) (fun _ _ _ _ _ => pg_name (i := 6) sc_law_due_texts.nd rfl (.inl rfl)) (fun _ _ _ _ _ => pts_nil) (fun _ _ _ _ _ => (pe_mid (pe_ifExp (pt_cmpR op_isN (pv 6) pe_non (nomark _)) pe_str (pv 6)))))))
      (C8.pss_cut (ps_set (i := 5) sc_law_due_texts.nd rfl (.inl rfl) (pe_and (pe_cmpR op_isN (pe_ix ix_tup (pv 1) pe_int (fun _ _ => rfl)) pe_non (nomark _)) (pe_and (pe_cmpR op_eq (pe_callB call_len (by rfl) B.len (by decide +kernel) (pa_cons (pe_ix ix_tup (pv 1) pe_int (fun _ _ => rfl)) pa_nil)) pe_int (nomark _)) (pe_one (pe_cmpR op_notIn_seq pe_non (pv 3) (by rfl))))))
      (pss_one (ps_ret (pe_lst (pa_cons (pv 4) (pa_cons (pe_mid (pe_ifExp (pt_val (pv 5)) (pv 4) pe_non)) pa_nil)))))))))), ?_⟩
    have lb : b = .non ∨ ∃ m : Nat, b = .int (m : Int) := by
      rcases L with ⟨e, _⟩ | ⟨m, e, _⟩
      · exact .inl e
      · exact .inr ⟨m, e⟩
    have sl : sm.length ≤ 81 := by
      rcases L with ⟨_, e, _⟩ | ⟨m, _, m80, e, _⟩
      · rw [e]
        exact possL_len _ _
      · rw [e]
        exact Nat.le_trans (possL_len _ _) (by omega)
    have nl : (natV sm).length = sm.length := by
      unfold natV
      rw [List.length_map]
    -- the lengths in a row
    refine ⟨fun σ J => ∃ F : Addr, σ = [some (.ref a), some (.ref T), some (.ref F), none, none, none, none] ∧ J F = some (.lst (natV sm ++ [b])) ∧ Same H J, ?_, ?_⟩
    · refine ⟨_, rfl, T, _, _, _, rfl, rfl, .inl (.inl eT), (rfl : atI [V.ref S, b] 0 = some (V.ref S)), S, _, rfl, .inr (.inl (.inl eS)), fun l1 n1 => ?_⟩
      have s1 : Same H (upd H l1 (.lst (natV sm))) := same_new n1
      have e1 : upd H l1 (.lst (natV sm)) l1 = some (.lst (natV sm)) := upd_same
      generalize upd H l1 (.lst (natV sm)) = G1 at s1 e1
      refine ⟨_, rfl, T, _, _, _, rfl, rfl, .inl (.inl (s1 _ _ eT)), (rfl : atI [V.ref S, b] 1 = some b), by show 1 ≤ sizeLine; decide, fun l2 n2 => ?_⟩
      have s2 : Same G1 (upd G1 l2 (.lst [b])) := same_new n2
      have e2 : upd G1 l2 (.lst [b]) l2 = some (.lst [b]) := upd_same
      generalize upd G1 l2 (.lst [b]) = G2 at s2 e2
      exact ⟨l1, l2, _, _, rfl, rfl, s2 _ _ e1, e2, Nat.le_of_lt (small1000 (by rw [nl]; show _ + 1 ≤ 1000; omega)), fun F nF => ⟨F, rfl, upd_same, (s1.trans s2).trans (same_new nF)⟩⟩
    rintro _ J ⟨F, rfl, eF, sJ⟩
    -- none is possible
    refine ⟨fun σ J2 => σ = [some (.ref a), some (.ref T), some (.ref F), none, none, none, none] ∧ Same J J2 ∧ ¬ (sm = [] ∧ b = .non), ?_, ?_⟩
    · refine ⟨_, rfl, by show 1 ≤ sizeLine; decide, fun z nz => ?_⟩
      have sz : Same J (upd J z (.lst [.non])) := same_new nz
      have ez : upd J z (.lst [.non]) z = some (.lst [.non]) := upd_same
      generalize upd J z (.lst [.non]) = J1 at sz ez
      by_cases h : sm = [] ∧ b = .non
      · obtain ⟨rfl, rfl⟩ := h
        refine ⟨.list [.none], .list [.none], .lst (.inl (.inl (sz _ _ eF))) (.cons .non .nil), .lst (.inl (.inl ez)) (.cons .non .nil), by decide +kernel, by decide +kernel, true, rfl, iteT ?_⟩
        have p0 : possL ws 81 = [] := by
          rcases L with ⟨_, e, _⟩ | ⟨m, e, _⟩
          · exact e.symm
          · cases e
        exact ⟨by show 2 ≤ sizeLine; decide, fun l nl => k l .non .non _ ((sJ.trans sz).trans (same_new nl)) upd_same (.inl ⟨rfl, p0⟩) (.inl ⟨rfl, fun n kvs y h => by
          have := h.1
          rw [p0] at this
          cases this⟩)⟩
      · obtain ⟨bd, hb, hbl⟩ : ∃ bd : PyData, Dp K J1 b bd ∧ (bd = .none ∧ b = .non ∨ ∃ m : Nat, bd = .int (m : Int)) := by
          rcases lb with rfl | ⟨m, rfl⟩
          · exact ⟨_, .non, .inl ⟨rfl, rfl⟩⟩
          · exact ⟨_, .int _, .inr ⟨m, rfl⟩⟩
        have dps : ∀ l : List Nat, DpAll K J1 (natV l ++ [b]) ((l.map fun n : Nat => PyData.int (n : Int)) ++ [bd]) := fun l => by
          induction l with
          | nil => exact .cons hb .nil
          | cons q l ih => exact .cons (.int _) ih
        refine ⟨.list ((sm.map fun n : Nat => PyData.int (n : Int)) ++ [bd]), .list [.none], .lst (.inl (.inl (sz _ _ eF))) (dps sm), .lst (.inl (.inl ez)) (.cons .non .nil), shaped12 fun d hd => ?_, by decide +kernel, ?_⟩
        · rcases List.mem_append.mp hd with hd | hd
          · obtain ⟨n, _, rfl⟩ := List.mem_map.mp hd
            exact ⟨rfl, Nat.zero_le _⟩
          · rw [List.mem_singleton.mp hd]
            rcases hbl with ⟨rfl, _⟩ | ⟨m, rfl⟩ <;> exact ⟨rfl, Nat.zero_le _⟩
        · have ev : PyData.eqv (.list ((sm.map fun n : Nat => PyData.int (n : Int)) ++ [bd])) (.list [.none]) = false := by
            cases sm with
            | nil =>
              rcases hbl with ⟨_, rfl⟩ | ⟨m, rfl⟩
              · exact absurd ⟨rfl, rfl⟩ h
              · rfl
            | cons q l => rfl
          rw [ev]
          exact ⟨_, rfl, iteF ⟨rfl, sz, h⟩⟩
    rintro _ J2 ⟨rfl, s2, hno⟩
    obtain ⟨n0, rest, ef, n80, hp, hl⟩ : ∃ (n0 : Nat) (rest : List V), natV sm ++ [b] = .int (n0 : Int) :: rest ∧ n0 ≤ 80 ∧ Poss ws n0 ∧ ∀ q, q < n0 → ¬ Poss ws q := by
      cases sm with
      | nil =>
        rcases L with ⟨rfl, _⟩ | ⟨m, rfl, m80, e, hb, _⟩
        · exact absurd ⟨rfl, rfl⟩ hno
        · refine ⟨m, [], rfl, m80, hb m (Nat.le_refl _) m80, fun q hq hp => ?_⟩
          have := mem_possL.mpr ⟨hq, hp⟩
          rw [← e] at this
          cases this
      | cons q l =>
        refine ⟨q, natV l ++ [b], rfl, ?_⟩
        rcases L with ⟨_, e, _⟩ | ⟨m, _, m80, e, _, _⟩
        · obtain ⟨h1, h2, h3⟩ := possL_head e.symm
          exact ⟨by omega, h2, h3⟩
        · obtain ⟨h1, h2, h3⟩ := possL_head e.symm
          exact ⟨by omega, h2, h3⟩
    have s02 := sJ.trans s2
    have eF2 := s2 _ _ eF
    rw [ef] at eF2
    refine ⟨_, rfl, _, rfl, F, _, _, _, rfl, rfl, .inl (.inl eF2), at_of' (xs := V.int (n0 : Int) :: rest) (j := 0) rfl rfl, a, n0, ws, rfl, hV.same s02, by omega, fun no => ?_, fun d kvs G nd sG ed kn => ?_⟩
    · obtain ⟨cs, l, h⟩ := hp
      exact absurd h (no cs l)
    have s0G := s02.trans sG
    -- the least
    refine ⟨fun σ J3 => ∃ y : Str, σ = [some (.ref a), some (.ref T), some (.ref F), some (.ref d), some (.str y), none, none] ∧ Same G J3 ∧ y.cps.toList = wrote kvs 46 n0, ?_, ?_⟩
    · refine ⟨⟨_, rfl⟩, _, rfl, d, rfl, ⟨_, .inl (.inl ed)⟩, fun M nM => lc_list (K := K) (a := d) (xs := kl kvs n0) (fun i J3 => J3 M = some (.lst (ones (wrote kvs 46 i))) ∧ Same G J3) ⟨upd_same, same_new nM⟩ (fun i J3 _ ⟨_, s3⟩ => .inl (.inl (s3 _ _ ed))) ?_ ?_⟩
      · rintro i x J3 hx ⟨eM, s3⟩
        have hi : i < n0 := by
          have := (List.getElem?_eq_some_iff.mp hx).1
          rw [kl_len] at this
          exact this
        obtain ⟨v, hv, w⟩ := kl_sgn (o := 46) kn hi
        rw [hx] at hv
        cases hv
        have small : (ones (wrote kvs 46 i)).length < sizeLine := small1000 (by unfold ones; rw [List.length_map, wrote_len]; omega)
        have nx : ∀ J4 : Hp, upd J4 M (.lst (ones (wrote kvs 46 i) ++ [.str (one (sgn kvs 46 i))])) M = some (.lst (ones (wrote kvs 46 (i + 1)))) := fun J4 => by
          rw [upd_same, wrote_next]
          unfold ones
          rw [List.map_append]
          rfl
        refine ⟨rfl, yes (iteT ⟨fun v J4 => J4 = J3 ∧ v = .str (one (sgn kvs 46 i)), ?_, ?_⟩)⟩
        · rcases w with ⟨rfl, es, _⟩ | ⟨rfl, _, _⟩
          · refine ⟨_, rfl, rfl, _, rfl, ?_⟩
            rw [decide_eq_true rfl]
            refine iteT ⟨rfl, ?_⟩
            rw [es]
            rfl
          · refine ⟨_, rfl, rfl, _, rfl, ?_⟩
            rw [decide_eq_false (fun z => by cases z)]
            exact iteF ⟨_, rfl, rfl, rfl⟩
        · rintro _ _ ⟨rfl, rfl⟩
          exact ⟨_, eM, small, nx _, same_offF s3 nM⟩
      · rintro J3 ⟨eM, s3⟩
        rw [kl_len, ones_map] at eM
        refine ⟨_, M, _, rfl, rfl, .inl (.inl (.inl eM)), ?_, _, rfl, s3, tjoin_ones _⟩
        rw [ones_len, List.length_map, wrote_len]
        have e0 : (("" : String) : Str).length = 0 := by decide +kernel
        rw [e0]
        omega
    rintro _ J3 ⟨y, rfl, s3, ey⟩
    have s0 := s0G.trans s3
    have lst : Least ws (.str y) := .inr ⟨n0, kvs, y, rfl, n80, hp, hl, kn, ey⟩
    -- is it the only one
    refine ⟨fun σ J4 => ∃ al : Bool, σ = [some (.ref a), some (.ref T), some (.ref F), some (.ref d), some (.str y), some (.bl al), none] ∧ J4 = J3 ∧ al = decide (b = .non ∧ sm.length = 1 ∧ 63 ∉ wrote kvs 63 n0), ?_, ?_⟩
    · refine ⟨_, rfl, T, _, _, _, rfl, rfl, .inl (.inl (s0 _ _ eT)), (rfl : atI [V.ref S, b] 1 = some b), rfl, _, rfl, ?_⟩
      by_cases h1 : b = .non
      · rw [decide_eq_true h1]
        refine iteT ⟨_, rfl, T, _, _, _, rfl, rfl, .inl (.inl (s0 _ _ eT)), (rfl : atI [V.ref S, b] 0 = some (V.ref S)), _, _, rfl, .inr ⟨_, .inl (.inl (s0 _ _ eS)), rfl⟩, rfl, _, rfl, ?_⟩
        rw [nl]
        by_cases h2 : sm.length = 1
        · rw [decide_eq_true (show V.int (sm.length : Int) = V.int 1 by rw [h2]; rfl)]
          refine iteT ⟨_, rfl, d, _, rfl, .inl (.inl (.inl (s3 _ _ ed))), rfl, kl_flat kn, _, rfl, rfl, ?_⟩
          rw [none_in kn]
          by_cases h3 : 63 ∈ wrote kvs 63 n0
          · rw [decide_eq_true h3, decide_eq_false (fun z => z.2.2 h3)]
            rfl
          · rw [decide_eq_false h3, decide_eq_true ⟨h1, h2, h3⟩]
            rfl
        · rw [decide_eq_false (show ¬ V.int (sm.length : Int) = V.int 1 from fun z => h2 (by injection z with z; omega))]
          refine iteF ⟨false, rfl, rfl, ?_⟩
          rw [decide_eq_false (fun z => h2 z.2.1)]
      · rw [decide_eq_false h1]
        refine iteF ⟨false, rfl, rfl, ?_⟩
        rw [decide_eq_false (fun z => h1 z.1)]
    rintro _ J3 ⟨al, rfl, rfl, eal⟩
    have fin : ∀ u, SoleX ws u → ∀ l : Addr, J3 l = none → Q (.ref l) (upd J3 l (.lst [.str y, u])) := fun u hu l nl => k l (.str y) u _ (s0.trans (same_new nl)) upd_same lst hu
    refine ⟨_, rfl, fun v J4 => J4 = J3 ∧ SoleX ws v, ?_, ?_⟩
    · refine ⟨_, rfl, _, rfl, ?_⟩
      by_cases h : b = .non ∧ sm.length = 1 ∧ 63 ∉ wrote kvs 63 n0
      · rw [eal, decide_eq_true h]
        obtain ⟨h1, h2, h3⟩ := h
        refine iteT ⟨_, rfl, rfl, .inr ⟨n0, kvs, y, rfl, ?_⟩⟩
        rcases L with ⟨_, e, no80⟩ | ⟨m, e, _⟩
        · have p1 : possL ws 81 = [n0] := by
            rw [← e]
            match sm, h2, ef with
            | [q], _, ef =>
              have := congrArg List.head? ef
              have : V.int (q : Int) = V.int (n0 : Int) := Option.some.inj this
              injection this with this
              have : q = n0 := by omega
              rw [this]
          have ew := wrote_eq (o := 46) kn h3
          exact ⟨p1, no80, kn, ey.trans ew, by rw [ey, ew]; exact h3⟩
        · rw [h1] at e
          cases e
      · rw [eal, decide_eq_false h]
        refine iteF ⟨rfl, .inl ⟨rfl, fun n kvs2 y2 h9 => h ?_⟩⟩
        obtain ⟨q1, q2, q3, q4, q5⟩ := h9
        rcases L with ⟨e0, e, _⟩ | ⟨m, _, m80, _, all, _⟩
        · have en : n = n0 := by
            have m0 : n0 ∈ possL ws 81 := mem_possL.mpr ⟨by omega, hp⟩
            rw [q1] at m0
            exact (List.mem_singleton.mp m0).symm
          subst en
          refine ⟨e0, by rw [e, q1]; rfl, ?_⟩
          rw [wrote_same kn q3 (fun _ => Iff.rfl) 63, ← q4]
          exact q5
        · exact absurd (all 80 m80 (Nat.le_refl _)) q2
    · rintro u _ ⟨rfl, hu⟩
      exact ⟨by show 2 ≤ sizeLine; decide, fun l nl => fin u hu l nl⟩
end
end Gu
namespace Gu
open PySem PySem.Spec PyProof.Rows L2
/-! data are equal to themselves -/
mutual
theorem eqv_self : ∀ d : PyData, d.canLay0 = true → PyData.eqv d d = true
  | .none, _ => rfl
  | .bool b, _ => by simp [PyData.eqv]
  | .int i, _ => by simp [PyData.eqv]
  | .str x, _ => by simp [PyData.eqv]
  | .list xs, h => by
    rw [PyData.eqv]
    exact eqv_selfs xs (by simpa [PyData.canLay0] using h)
  | .tuple xs, h => by
    rw [PyData.eqv]
    exact eqv_selfs xs (by simpa [PyData.canLay0] using h)
  | .dict _, h => by simp [PyData.canLay0] at h
theorem eqv_selfs : ∀ xs : List PyData, PyData.canLayAll0 xs = true → PyData.eqvAll xs xs = true
  | [], _ => rfl
  | x :: xs, h => by
    have h2 : x.canLay0 = true ∧ PyData.canLayAll0 xs = true := by simpa [PyData.canLayAll0] using h
    rw [PyData.eqvAll, eqv_self x h2.1, eqv_selfs xs h2.2]
    rfl
end
end Gu
namespace Gu
open PySem PySem.Spec PyProof PyProof.Rows L2
/-! ### the same views; what is told of them as data -/
section
variable {ws us : List VW} {u v : V} {n o : Nat} {kvs : List (Key × V)} {y : Str} {Pd : List Nat → Prop} {sm : List Nat} {b : V}
theorem Alike.symm (h : Alike ws us) : Alike us ws := Eq.symm h
theorem Alike.least (h : Alike ws us) (a : Least ws v) : Least us v := by
  rcases a with ⟨e, p⟩ | ⟨n, kvs, y, e, n80, p, no, k, ey⟩
  · exact .inl ⟨e, by rw [← h.possL]; exact p⟩
  · exact .inr ⟨n, kvs, y, e, n80, (h.poss n).mp p, fun m hm q => no m hm ((h.poss m).mpr q), k.imp (fun cs _ => h.fits cs), ey⟩
theorem Alike.soleIs (h : Alike ws us) (a : SoleIs ws n kvs y) : SoleIs us n kvs y := ⟨by rw [← h.possL]; exact a.1, fun p => a.2.1 ((h.poss 80).mpr p), a.2.2.1.imp fun cs _ => h.fits cs, a.2.2.2⟩
theorem Alike.sole (h : Alike ws us) (a : SoleX ws v) : SoleX us v := by
  rcases a with ⟨e, a⟩ | ⟨n, kvs, y, e, a⟩
  · exact .inl ⟨e, fun n kvs y q => a n kvs y (h.symm.soleIs q)⟩
  · exact .inr ⟨n, kvs, y, e, h.soleIs a⟩
theorem Alike.sgn (h : Alike ws us) (a : Sgn ws n v) : Sgn us n v := by
  rcases a with ⟨e, a⟩ | ⟨kvs, y, e, k, ey⟩
  · exact .inl ⟨e, fun cs l f => a cs l ((h.fits cs).mpr f)⟩
  · exact .inr ⟨kvs, y, e, k.imp fun cs _ => h.fits cs, ey⟩
theorem Sgn.same (a : Sgn ws n u) (b : Sgn ws n v) : u = v := by
  rcases a with ⟨rfl, a⟩ | ⟨kvs, y, rfl, k, ey⟩
  · rcases b with ⟨rfl, _⟩ | ⟨jvs, z, rfl, j, ez⟩
    · rfl
    · exact absurd (wrote_fits (o := 63) j) (a _ (wrote_len ..))
  · rcases b with ⟨rfl, b⟩ | ⟨jvs, z, rfl, j, ez⟩
    · exact absurd (wrote_fits (o := 63) k) (b _ (wrote_len ..))
    · rw [str_ext (ey.trans ((wrote_same k j (fun _ => Iff.rfl) 63).trans ez.symm))]
/-- None or a text -/
def TxtO (v : V) : Prop := v = .non ∨ ∃ y : Str, v = .str y ∧ y.cps.toList.length ≤ 500 ∧ ∀ c ∈ y.cps.toList, c < 128
theorem txt12 (kn : Knows n kvs Pd) (n5 : n ≤ 500) (ey : y.cps.toList = wrote kvs o n) (o1 : o < 128) : y.cps.toList.length ≤ 500 ∧ ∀ c ∈ y.cps.toList, c < 128 := by
  have a : ∀ c ∈ signs.cps.toList, c < 128 := by decide +kernel
  rw [ey]
  refine ⟨by rw [wrote_len]; exact n5, fun c hc => ?_⟩
  unfold wrote at hc
  obtain ⟨p, hp, rfl⟩ := List.mem_map.mp hc
  obtain ⟨v, _, w⟩ := kl_sgn (o := o) kn (List.mem_range.mp hp)
  rcases w with ⟨_, e, _⟩ | ⟨_, _, hs⟩
  · rw [e]
    exact o1
  · exact a _ hs
theorem Least.txt (h : Least ws v) : TxtO v := by
  rcases h with ⟨e, _⟩ | ⟨n, kvs, y, e, n80, _, _, k, ey⟩
  · exact .inl e
  · exact .inr ⟨y, e, txt12 k (by omega) ey (by decide)⟩
theorem SoleX.txt (h : SoleX ws v) : TxtO v := by
  rcases h with ⟨e, _⟩ | ⟨n, kvs, y, e, a⟩
  · exact .inl e
  · have : n ∈ possL ws 81 := by rw [a.1]; exact List.mem_cons_self ..
    have := (mem_possL.mp this).1
    exact .inr ⟨y, e, txt12 a.2.2.1 (by omega) a.2.2.2.1 (by decide)⟩
theorem Sgn.txt (h : Sgn ws n v) (n5 : n ≤ 500) : TxtO v := by
  rcases h with ⟨e, _⟩ | ⟨kvs, y, e, k, ey⟩
  · exact .inl e
  · exact .inr ⟨y, e, txt12 k n5 ey (by decide)⟩
theorem TxtO.wrote (h : TxtO v) : ∃ t, wroteO v t := by
  rcases h with rfl | ⟨y, rfl, l, c⟩
  · exact ⟨_, .inl ⟨rfl, rfl⟩⟩
  · exact ⟨_, .inr ⟨y, rfl, rfl, by omega, fun x hx => Nat.lt_trans (c x hx) (by decide)⟩⟩
theorem TxtO.scal (h : TxtO v) : scal v v = true := by
  rcases h with rfl | ⟨y, rfl, _⟩ <;> rfl
theorem TxtO.dp (h : TxtO v) : ∃ d : PyData, (∀ (K : PySem.W.Frag) (H : Hp), Dp K H v d) ∧ Fine 1 500 d ∧ d.canLay0 = true ∧ d.depth ≤ 10 := by
  rcases h with rfl | ⟨y, rfl, l, c⟩
  · exact ⟨.none, fun _ _ => .non, Fine.none.mono (by decide) (by decide), rfl, Nat.zero_le _⟩
  · refine ⟨.str y, fun _ _ => .str y, (Fine.str (fun x hx => Nat.lt_trans (c x hx) (by decide)) l).mono (by decide) (Nat.le_refl _), ?_, Nat.zero_le _⟩
    show y.cps.all _ = true
    rw [← Array.all_toList, List.all_eq_true]
    exact fun x hx => decide_eq_true (Nat.lt_trans (c x hx) (by decide))
theorem fine_two {d e : PyData} (a : Fine 1 500 d) (b : Fine 1 500 e) : Fine 60 100000 (.list [d, e]) := by
  have all : FineAll 1 500 [d, e] := FineAll.of fun x hx => by
    simp only [List.mem_cons, List.not_mem_nil, or_false] at hx
    rcases hx with rfl | rfl
    · exact a
    · exact b
  exact all.list.mono (by decide) (by show 2 * 501 ≤ 100000; decide)
def bD : V → PyData
  | .int i => .int i
  | _ => .none
def lensD (sm : List Nat) (b : V) : PyData := .tuple [.tuple (sm.map fun n : Nat => PyData.int (n : Int)), bD b]
theorem Lens.small (L : Lens ws sm b) : sm.length ≤ 81 ∧ (∀ n ∈ sm, n ≤ 81) ∧ (b = .non ∨ ∃ m : Nat, b = .int (m : Int) ∧ m ≤ 80) := by
  rcases L with ⟨e1, e2, _⟩ | ⟨m, e1, m80, e2, _⟩
  · exact ⟨by rw [e2]; exact possL_len _ _, fun n hn => by rw [e2] at hn; have := (mem_possL.mp hn).1; omega, .inl e1⟩
  · exact ⟨by rw [e2]; exact Nat.le_trans (possL_len _ _) (by omega), fun n hn => by rw [e2] at hn; have := (mem_possL.mp hn).1; omega, .inr ⟨m, e1, m80⟩⟩
theorem lensD_fine (L : Lens ws sm b) : Fine 3 20000 (lensD sm b) := by
  obtain ⟨l1, l2, l3⟩ := L.small
  have all : FineAll 0 70 (sm.map fun n : Nat => PyData.int (n : Int)) := FineAll.of fun x hx => by
    obtain ⟨n, hn, rfl⟩ := List.mem_map.mp hx
    have := l2 n hn
    exact Fine.int (show ((n : Nat) : Int).natAbs < 2 ^ 70 by omega)
  have two : FineAll 1 8000 [.tuple (sm.map fun n : Nat => PyData.int (n : Int)), bD b] := FineAll.of fun x hx => by
    simp only [List.mem_cons, List.not_mem_nil, or_false] at hx
    rcases hx with rfl | rfl
    · refine all.tup.mono (by decide) ?_
      rw [List.length_map]
      omega
    · rcases l3 with rfl | ⟨m, rfl, m80⟩
      · exact Fine.none.mono (by decide) (by decide)
      · exact (Fine.int (show ((m : Nat) : Int).natAbs < 2 ^ 70 by omega)).mono (by decide) (by decide)
  exact two.tup.mono (by decide) (by show 2 * 8001 ≤ 20000; decide)
theorem lensD_two (L : Lens ws sm b) : Fine 60 100000 (.list [lensD sm b, lensD sm b]) := by
  have a := lensD_fine L
  have all : FineAll 3 20000 [lensD sm b, lensD sm b] := FineAll.of fun x hx => by
    simp only [List.mem_cons, List.not_mem_nil, or_false] at hx
    rcases hx with rfl | rfl <;> exact a
  exact all.list.mono (by decide) (by show 2 * 20001 ≤ 100000; decide)
theorem lensD_dp {K : PySem.W.Frag} {H : Hp} {T S : Addr} (L : Lens ws sm b) (eT : H T = some (.tup [.ref S, b])) (eS : H S = some (.tup (natV sm))) : Dp K H (.ref T) (lensD sm b) := by
  have dn : ∀ l : List Nat, DpAll K H (natV l) (l.map fun n : Nat => PyData.int (n : Int)) := fun l => by
    induction l with
    | nil => exact .nil
    | cons q l ih => exact .cons (.int _) ih
  refine .tup (.inl (.inl eT)) (.cons (.tup (.inl (.inl eS)) (dn sm)) (.cons ?_ .nil))
  rcases L.small.2.2 with rfl | ⟨m, rfl, _⟩
  · exact .non
  · exact .int _
theorem many_small (h : Sgn ws n v) (n5 : n ≤ 500) : (manyOf v).natAbs < 2 ^ 3000 := by
  have p5 : (38 : Int) ^ 500 < 2 ^ 3000 := by decide +kernel
  have pos : ∀ k : Nat, (1 : Int) ≤ (38 : Int) ^ k := fun k => by
    induction k with
    | zero => decide
    | succ k ih =>
      rw [Int.pow_succ]
      omega
  have mono : ∀ a k : Nat, (38 : Int) ^ a ≤ (38 : Int) ^ (a + k) := fun a k => by
    induction k with
    | zero => exact Int.le_refl _
    | succ k ih =>
      rw [show a + (k + 1) = (a + k) + 1 by omega, Int.pow_succ]
      have := pos (a + k)
      omega
  rcases h with ⟨rfl, _⟩ | ⟨kvs, y, rfl, k, ey⟩
  · decide
  · have c : y.cps.toList.count 63 ≤ 500 := by
      refine Nat.le_trans List.count_le_length ?_
      rw [ey, wrote_len]
      exact n5
    have m := mono (y.cps.toList.count 63) (500 - y.cps.toList.count 63)
    rw [show y.cps.toList.count 63 + (500 - y.cps.toList.count 63) = 500 by omega] at m
    have q := pos (y.cps.toList.count 63)
    show ((38 : Int) ^ (y.cps.toList.count 63)).natAbs < 2 ^ 3000
    generalize (38 : Int) ^ (y.cps.toList.count 63) = x at m q ⊢
    generalize (38 : Int) ^ 500 = z at m p5
    have e3 : ((2 ^ 3000 : Nat) : Int) = (2 : Int) ^ 3000 := by decide +kernel
    generalize (2 : Nat) ^ 3000 = w at e3 ⊢
    rw [← e3] at p5
    omega
end
theorem RowAt.lst {C : Addr} {H : Hp} {a X : Addr} {rs : List (Addr × Rec)} {acc ys : List V} (h : RowAt C H a rs) (e : H X = some (.lst acc)) : RowAt C (upd H X (.lst ys)) a rs := ⟨by rw [upd_ne (ne_of h.tp e (by intro z; cases z))]; exact h.tp, fun q hq => ⟨(h.sh q hq).1.list e, (h.sh q hq).2⟩⟩
theorem ViewAt.lst {C : Addr} {H : Hp} {X : Addr} {v : VW} {acc ys : List V} (h : ViewAt C H v) (e : H X = some (.lst acc)) : ViewAt C (upd H X (.lst ys)) v := ⟨by rw [upd_ne (ne_of h.pr e (by intro z; cases z))]; exact h.pr, h.row.lst e, h.l1, h.l4, h.tx⟩
theorem ViewAt.ladled {C : Addr} {H G : Hp} {p : Addr} {v : VW} (L : Ladled p H G) (hp : Pot H p) (h : ViewAt C H v) : ViewAt C G v := by
  refine ⟨?_, L.row hp h.row, h.l1, h.l4, h.tx⟩
  obtain ⟨x, y, z, e⟩ := hp
  exact L.keep _ _ h.pr (ne_of h.pr e (by intro z; cases z))
theorem ViewsAt.ladled {C : Addr} {H G : Hp} {p a : Addr} {ws : List VW} (L : Ladled p H G) (hp : Pot H p) (h : ViewsAt C H a ws) : ViewsAt C G a ws := by
  refine ⟨?_, fun v hv => (h.el v hv).ladled L hp, h.l1, h.l4⟩
  obtain ⟨x, y, z, e⟩ := hp
  exact L.keep _ _ h.tp (ne_of h.tp e (by intro z; cases z))
end Gu
namespace Gu
open PySem PySem.Spec PyProof PyProof.Rows L2
section
variable {P : Program} {w : World} {K : PySem.W.Frag} {mg : Str → Option Value} {base : Heap} {C : Addr}
set_option maxHeartbeats 8000000 in
theorem cal_right (B : Bi mg) (ND : base.NoDigits) (D : At K mg "_law_right" s_law_right ps_law_right) (C_law_ladle : Cal P w K mg base 1 "_law_ladle" ps_law_ladle spLadle) (C_law_one_of : Cal P w K mg base 2 "_law_one_of" ps_law_one_of (spOneOf K)) (C_law_some_views : Cal P w K mg base 5 "_law_some_views" ps_law_some_views spSomeViews) (C_law_known : Cal P w K mg base 2 "_law_known" ps_law_known spLKnown) (C_law_due_lengths : Cal P w K mg base 3 "_law_due_lengths" ps_law_due_lengths spDueLengths) (C_law_due_texts : Cal P w K mg base 3 "_law_due_texts" ps_law_due_texts spDueTexts) (C_law_made : Cal P w K mg base 5 "_law_made" ps_law_made (spMade C))
    (C_signs : Cal P w K mg base 5 "signs" ps_signs (spSigns C)) (C_number_of : Cal P w K mg base 6 "number_of" ps_number_of (spNumber C)) (C_lengths : Cal P w K mg base 5 "lengths" ps_lengths (spLengths C)) (C_least_text : Cal P w K mg base 6 "least_text" ps_least_text (spLeast C)) (C_only_text : Cal P w K mg base 6 "only_text" ps_only_text (spOnlyX C))
    (CK_signs : CalK P w K mg base 5 "signs" ["length", "views"] swap2 (spSigns C)) (CK_number_of : CalK P w K mg base 6 "number_of" ["length", "views"] swap2 (spNumber C)) (CK_lengths : CalK P w K mg base 5 "lengths" ["views"] id (spLengths C)) (CK_least_text : CalK P w K mg base 6 "least_text" ["views"] id (spLeast C)) (CK_only_text : CalK P w K mg base 6 "only_text" ["views"] id (spOnlyX C)) : CalG P w K mg base 7 "_law_right" ps_law_right spRight := by
  refine D.calG sc_law_right (fun vs H Q E h => ?_) (fun f cdv A outer s H vs Q E hr quiet h => ?_)
  · obtain ⟨p, rfl, _⟩ := h
    rfl
  · obtain ⟨p, rfl, hp, k⟩ := h
    refine ⟨_, (pss_cons (ps_for PassesOwn.never rfl (pi_range1 (by rfl) B.range (pa_cons pe_int pa_nil)) (pg_name (i := 1) sc_law_right.nd rfl (.inl rfl))
      (pss_cons (ps_set (i := 2) sc_law_right.nd rfl (.inl rfl) (pe_own C_law_some_views hr (by decide) (by rfl) (pa_cons (pv 0) pa_nil)))
      (C8.pss_cut (ps_set (i := 3) sc_law_right.nd rfl (.inl rfl) (pe_callTy call_tuple_of (by rfl) B.tuple (by decide +kernel) (pa_cons (pe_lc (g := gTup K 2 (gCons (gName 12) (gCons (gName 13) gNil))) (own := [("_law_tolds_here", 12), ("_law_seen_here", 13)]) (by rfl) sc_law_right.nd (pi_list (pv 2)) (blkOk_by (own := [("_law_tolds_here", 12), ("_law_seen_here", 13)]) (N := ["_law_pot_here", "_law_again", "_law_views_here", "_law_made_here", "_law_due", "_law_turn", "_law_far", "_law_many", "_law_known_here", "_law_line_here", "_law_ways", "_law_each", "_law_tolds_here", "_law_seen_here"]) (sc := defScope s_law_right) (by decide +kernel)) (fun _ _ _ _ _ => (pg_tup rfl (pgs_cons (pg_name (i := 12) sc_law_right.nd rfl (.inl rfl)) (pgs_cons (pg_name (i := 13) sc_law_right.nd rfl (.inl rfl)) pgs_nil)))) (fun _ _ _ _ _ => pts_nil) (fun _ _ _ _ _ => (pe_tup (pa_cons (pe_own C_law_made hr (by decide) (by rfl) (pa_cons (pv 12) pa_nil)) (pa_cons (pv 13) pa_nil))))) pa_nil)))
      (C8.pss_cut (ps_set (i := 4) sc_law_right.nd rfl (.inl rfl) (pe_own C_law_due_lengths hr (by decide) (by rfl) (pa_cons (pv 2) pa_nil)))
      (C8.pss_cut (ps_if (pt_cmpR op_ne (pe_callB (call_reprD quiet hr.units) (by rfl) B.repr (by decide +kernel) (pa_cons (pe_lst (pa_cons (pe_own C_lengths hr (by decide) (by rfl) (pa_cons (pv 3) pa_nil)) (pa_cons (pe_kw CK_lengths hr (by decide) (by rfl) (pk_cons (pv 3) pk_nil)) pa_nil))) pa_nil)) (pe_callB (call_reprD quiet hr.units) (by rfl) B.repr (by decide +kernel) (pa_cons (pe_lst (pa_cons (pv 4) (pa_cons (pv 4) pa_nil))) pa_nil)) (nomark _)) (pss_one (ps_ret pe_bl)) pss_nil)
      (C8.pss_cut (ps_if (pt_cmpR op_ne (pe_callB (call_reprD quiet hr.units) (by rfl) B.repr (by decide +kernel) (pa_cons (pe_lst (pa_cons (pe_own C_least_text hr (by decide) (by rfl) (pa_cons (pv 3) pa_nil)) (pa_cons (pe_own C_only_text hr (by decide) (by rfl) (pa_cons (pv 3) pa_nil)) pa_nil))) pa_nil)) (pe_callB (call_reprD quiet hr.units) (by rfl) B.repr (by decide +kernel) (pa_cons (pe_own C_law_due_texts hr (by decide) (by rfl) (pa_cons (pv 2) (pa_cons (pv 4) pa_nil))) pa_nil)) (nomark _)) (pss_one (ps_ret pe_bl)) pss_nil)
      (C8.pss_cut (ps_if (pt_cmpR (op_neD hr.units) (pe_lst (pa_cons (pe_kw CK_least_text hr (by decide) (by rfl) (pk_cons (pv 3) pk_nil)) (pa_cons (pe_kw CK_only_text hr (by decide) (by rfl) (pk_cons (pv 3) pk_nil)) pa_nil))) (pe_lst (pa_cons (pe_own C_least_text hr (by decide) (by rfl) (pa_cons (pv 3) pa_nil)) (pa_cons (pe_own C_only_text hr (by decide) (by rfl) (pa_cons (pv 3) pa_nil)) pa_nil))) (nomark _)) (pss_one (ps_ret pe_bl)) pss_nil)
      (pss_one (ps_for PassesOwn.never rfl (pi_range1 (by rfl) B.range (pa_cons pe_int pa_nil)) (pg_name (i := 5) sc_law_right.nd rfl (.inl rfl))
      (pss_cons (ps_set (i := 6) sc_law_right.nd rfl (.inl rfl) (pe_own C_law_ladle hr (by decide) (by rfl) (pa_cons (pv 0) (pa_cons (pe_own C_law_one_of hr (by decide) (by rfl) (pa_cons (pv 0) (pa_cons (pe_lst (pa_cons pe_int (pa_cons pe_int (pa_cons pe_int pa_nil)))) pa_nil))) pa_nil))))
      (pss_cons (ps_set (i := 7) sc_law_right.nd rfl (.inl rfl) (pe_own C_law_one_of hr (by decide) (by rfl) (pa_cons (pv 0) (pa_cons (pe_lst (pa_cons pe_int (pa_cons (pe_callB call_len (by rfl) B.len (by decide +kernel) (pa_cons (pe_ix ix_tup (pe_ix ix_tup (pv 3) pe_int (fun _ _ => rfl)) pe_int (fun _ _ => rfl)) pa_nil)) (pa_cons (pv 6) (pa_cons (pv 6) pa_nil))))) pa_nil))))
      (pss_cons (ps_par3 (i := 8) (j := 9) (l := 10) (by rfl) sc_law_right.nd rfl rfl rfl (by decide) (by decide) (by decide) rfl rfl rfl (pa_cons (pe_own C_law_known hr (by decide) (by rfl) (pa_cons (pv 2) (pa_cons (pv 7) pa_nil))) (pa_cons pe_non (pa_cons pe_int pa_nil))) (by rfl))
      (C8.pss_cut (ps_if (pt_cmpR op_notN (pv 8) pe_non (nomark _)) (pss_cons (ps_par (i := 9) (j := 10) (by rfl) sc_law_right.nd rfl rfl (by decide) rfl rfl (pa_cons (pe_join pe_str (pe_lc (own := [("_law_each", 11)]) (by rfl) sc_law_right.nd (pi_list (pv 8)) (blkOk_by (own := [("_law_each", 11)]) (N := ["_law_pot_here", "_law_again", "_law_views_here", "_law_made_here", "_law_due", "_law_turn", "_law_far", "_law_many", "_law_known_here", "_law_line_here", "_law_ways", "_law_each", "_law_tolds_here", "_law_seen_here"]) (sc := defScope s_law_right) (by decide +kernel)) (fun _ _ _ _ _ => pg_name (i := 11) sc_law_right.nd rfl (.inl rfl)) (fun _ _ _ _ _ => pts_nil) (fun _ _ _ _ _ => (pe_mid (pe_ifExp (pt_cmpR op_isN (pv 11) pe_non (nomark _)) pe_str (pv 11)))))) (pa_cons pe_int pa_nil)) (by rfl))
      (pss_one (ps_for PassesOwn.never rfl (pi_list (pv 8)) (pg_name (i := 11) sc_law_right.nd rfl (.inl rfl))
      (pss_one (ps_set (i := 10) sc_law_right.nd rfl (.inl rfl) (pe_op op_mul (pv 10) (pe_mid (pe_ifExp (pt_cmpR op_isN (pv 11) pe_non (nomark _)) pe_int pe_int)))))))) pss_nil)
      (C8.pss_cut (ps_if (pt_cmpR op_ne (pe_callB (id := "repr") (call_repr2 ND quiet hr.units) (by rfl) B.repr (by decide +kernel) (pa_cons (pe_lst (pa_cons (pe_own C_signs hr (by decide) (by rfl) (pa_cons (pv 3) (pa_cons (pv 7) pa_nil))) (pa_cons (pe_own C_number_of hr (by decide) (by rfl) (pa_cons (pv 3) (pa_cons (pv 7) pa_nil))) pa_nil))) pa_nil)) (pe_callB (id := "repr") (call_repr2 ND quiet hr.units) (by rfl) B.repr (by decide +kernel) (pa_cons (pe_lst (pa_cons (pv 9) (pa_cons (pv 10) pa_nil))) pa_nil)) (nomark _)) (pss_one (ps_ret pe_bl)) pss_nil)
      (pss_one (ps_if (PW.pt (pw_or (pt_cmpR op_ne (pe_kw CK_signs hr (by decide) (by rfl) (pk_cons (pv 7) (pk_cons (pv 3) pk_nil))) (pv 9) (nomark _)) (pw_or1 (pt_cmpR op_ne (pe_kw CK_number_of hr (by decide) (by rfl) (pk_cons (pv 7) (pk_cons (pv 3) pk_nil))) (pv 10) (nomark _))))) (pss_one (ps_ret pe_bl)) pss_nil))))))))))))))))
      (pss_one (ps_ret pe_bl))), ?_⟩
    refine ⟨3, rfl, by decide, by decide, for_range (lo := 0) (n := 3) (fun i σ J => ∃ a1 a2 a3 a4 a5 a6 a7 a8 a9 aa ab, σ = [some (.ref p), a1, a2, a3, a4, a5, a6, a7, a8, a9, aa, ab, none, none] ∧ Ladled p H J) ⟨none, none, none, none, none, none, none, none, none, none, none, rfl, .refl hp⟩ ?_ ?_⟩
    · rintro i σ J hi ⟨a1, a2, a3, a4, a5, a6, a7, a8, a9, aa, ab, rfl, M⟩
      -- the views
      refine ⟨_, rfl, p, rfl, M.pot, fun a ws G hV l3 L => ?_⟩
      have ML := M.trans L
      refine ⟨fun σ J => ∃ (T : Addr) (us : List VW), σ = [some (.ref p), some (.int (0 + (i : Int))), some (.ref a), some (.ref T), a4, a5, a6, a7, a8, a9, aa, ab, none, none] ∧ ViewsAt C J T us ∧ Alike ws us ∧ Same G J, ?_, ?_⟩
      · refine ⟨_, rfl, a, rfl, ⟨_, .inl (.inl hV.ls)⟩, fun D nD => lc_list (K := K) (a := a) (xs := ws.map fun v => V.ref v.pr) (fun j J => ∃ us : List VW, us.length = j ∧ J D = some (.lst (us.map fun v => V.ref v.pr)) ∧ Alike (ws.take j) us ∧ (∀ u ∈ us, ViewAt C J u) ∧ Same G J) ⟨[], rfl, upd_same, rfl, (fun u hu => by cases hu), same_new nD⟩ (fun j J _ ⟨_, _, _, _, _, s2⟩ => .inl (.inl (s2 _ _ hV.ls))) ?_ ?_⟩
        · rintro j x J2 hj ⟨us, ul, eD, al, hus, s2⟩
          rw [List.getElem?_map] at hj
          obtain ⟨v, hv, rfl⟩ := Option.map_eq_some_iff.mp hj
          have jl := (List.getElem?_eq_some_iff.mp hv).1
          have vw := (hV.el v (List.mem_of_getElem? hv)).same s2
          refine ⟨v.pr, _, rfl, .inl (.inl vw.pr), rfl, _, _, rfl, _, _, rfl, rfl, rfl, yes (iteT ⟨_, rfl, v.rw, v.rs, rfl, vw.tl, vw.l4, fun R G2 rs nR row er s3 => ⟨_, rfl, by show 2 ≤ sizeLine; decide, fun q nq => ?_⟩⟩)⟩
          have lr := same_len er
          have sq : Same G2 (upd G2 q (.tup [.ref R, .str v.y])) := same_new nq
          have eq := upd_same (H := G2) (a := q) (o := .tup [.ref R, .str v.y])
          have gD := sq _ _ (s3 _ _ eD)
          generalize upd G2 q (.tup [.ref R, .str v.y]) = G3 at sq eq gD
          refine ⟨_, gD, small1000 (by rw [List.length_map]; omega), us ++ [⟨q, R, rs, v.y⟩], by rw [List.length_append, ul]; rfl, ?_, ?_, fun u hu => ?_, same_offF (s2.trans (s3.trans sq)) nD⟩
          · rw [upd_same, List.map_append]
            rfl
          · show (ws.take (j + 1)).map _ = (us ++ [_]).map _
            rw [takeF_next hv, List.map_append, List.map_append]
            have al : (ws.take j).map (fun v => (v.recs, v.cs)) = us.map (fun v => (v.recs, v.cs)) := al
            rw [al]
            show _ ++ [(v.rs.map (·.2), _)] = _ ++ [(rs.map (·.2), _)]
            rw [er]
            rfl
          · rcases List.mem_append.mp hu with hu | hu
            · exact (((hus u hu).same s3).same sq).lst gD
            · rw [List.mem_singleton.mp hu]
              have l1 := vw.l1
              have l4 := vw.l4
              exact ViewAt.lst ⟨eq, row.same sq, by show 1 ≤ rs.length; omega, by show rs.length ≤ 4; omega, vw.tx⟩ gD
        · rintro J2 ⟨us, ul, eD, al, hus, s2⟩
          rw [List.length_map] at ul al
          rw [List.take_length] at al
          refine ⟨D, _, rfl, .inl ⟨.inl (.inl eD), fun T nT => ⟨T, us, rfl, ⟨upd_same, fun u hu => (hus u hu).same (same_new nT), by have := hV.l1; omega, by have := hV.l4; omega⟩, al, s2.trans (same_new nT)⟩⟩⟩
      rintro _ J1 ⟨T, us, rfl, hM, al, s1⟩
      have hV := hV.same s1
      have M1 := ML.same s1
      clear ML L s1
      -- the lengths
      refine ⟨fun σ J => ∃ (W S : Addr) (sm : List Nat) (b : V), σ = [some (.ref p), some (.int (0 + (i : Int))), some (.ref a), some (.ref T), some (.ref W), a5, a6, a7, a8, a9, aa, ab, none, none] ∧ Same J1 J ∧ J W = some (.tup [.ref S, b]) ∧ J S = some (.tup (natV sm)) ∧ Lens ws sm b, ⟨_, rfl, a, ws, rfl, hV, fun W S sm b G sG e1 e2 L => ⟨W, S, sm, b, rfl, sG, e1, e2, L⟩⟩, ?_⟩
      rintro _ J2 ⟨W, S, sm, b, rfl, s2, eW, eS, L⟩
      have hV := hV.same s2
      have hM := hM.same s2
      have M2 := M1.same s2
      clear M1 s2
      refine ⟨fun σ J => σ = [some (.ref p), some (.int (0 + (i : Int))), some (.ref a), some (.ref T), some (.ref W), a5, a6, a7, a8, a9, aa, ab, none, none] ∧ Same J2 J, ?_, ?_⟩
      · have one : ∀ {sm2 : List Nat} {b2 : V}, Lens us sm2 b2 → sm2 = sm ∧ b2 = b := fun q => lens_one (al.symm.lens q) L
        refine ⟨_, rfl, T, us, rfl, hM, fun W1 S1 sm1 b1 K1 k1 e1 f1 q1 => ?_⟩
        obtain ⟨rfl, rfl⟩ := one q1
        refine ⟨_, rfl, rfl, T, us, rfl, hM.same k1, fun W2 S2 sm2 b2 K2 k2 e2 f2 q2 => ?_⟩
        obtain ⟨rfl, rfl⟩ := one q2
        refine ⟨by show 2 ≤ sizeLine; decide, fun l1 n1 => ?_⟩
        have m1 : Same K2 (upd K2 l1 (.lst [.ref W1, .ref W2])) := same_new n1
        have g1 : upd K2 l1 (.lst [.ref W1, .ref W2]) l1 = some (.lst [.ref W1, .ref W2]) := upd_same
        generalize upd K2 l1 (.lst [.ref W1, .ref W2]) = K3 at m1 g1
        have k13 := k2.trans m1
        refine ⟨l1, _, rfl, .lst (.inl (.inl g1)) (.cons (lensD_dp L (k13 _ _ e1) (k13 _ _ f1)) (.cons (lensD_dp L (m1 _ _ e2) (m1 _ _ f2)) .nil)), lensD_two L, ?_⟩
        have k03 := k1.trans k13
        refine ⟨_, rfl, _, rfl, by show 2 ≤ sizeLine; decide, fun l2 n2 => ?_⟩
        have m2 : Same K3 (upd K3 l2 (.lst [.ref W, .ref W])) := same_new n2
        have g2 : upd K3 l2 (.lst [.ref W, .ref W]) l2 = some (.lst [.ref W, .ref W]) := upd_same
        generalize upd K3 l2 (.lst [.ref W, .ref W]) = K4 at m2 g2
        have k04 := k03.trans m2
        refine ⟨l2, _, rfl, .lst (.inl (.inl g2)) (.cons (lensD_dp L (k04 _ _ eW) (k04 _ _ eS)) (.cons (lensD_dp L (k04 _ _ eW) (k04 _ _ eS)) .nil)), lensD_two L, rfl, _, rfl, ?_⟩
        rw [decide_eq_true rfl]
        exact iteF ⟨rfl, k04⟩
      rintro _ J3 ⟨rfl, s3⟩
      have hV := hV.same s3
      have hM := hM.same s3
      have M3 := M2.same s3
      have eW := s3 _ _ eW
      have eS := s3 _ _ eS
      clear M2 s3
      -- the texts
      refine ⟨fun σ J => σ = [some (.ref p), some (.int (0 + (i : Int))), some (.ref a), some (.ref T), some (.ref W), a5, a6, a7, a8, a9, aa, ab, none, none] ∧ Same J3 J, ?_, ?_⟩
      · refine ⟨_, rfl, T, us, rfl, hM, fun v K1 k1 hv => ⟨_, rfl, T, us, rfl, hM.same k1, fun u K2 k2 hu => ⟨by show 2 ≤ sizeLine; decide, fun l1 n1 => ?_⟩⟩⟩
        have m1 : Same K2 (upd K2 l1 (.lst [v, u])) := same_new n1
        have g1 : upd K2 l1 (.lst [v, u]) l1 = some (.lst [v, u]) := upd_same
        generalize upd K2 l1 (.lst [v, u]) = K3 at m1 g1
        have k03 := k1.trans (k2.trans m1)
        obtain ⟨dv, hdv, fv, _⟩ := hv.txt.dp
        obtain ⟨du, hdu, fu, _⟩ := hu.txt.dp
        refine ⟨l1, _, rfl, .lst (.inl (.inl g1)) (.cons (hdv _ _) (.cons (hdu _ _) .nil)), fine_two fv fu, ?_⟩
        refine ⟨_, rfl, _, rfl, a, W, S, ws, sm, b, rfl, hV.same k03, k03 _ _ eW, k03 _ _ eS, L, fun l2 v2 u2 K4 k4 g2 hv2 hu2 => ?_⟩
        have ev : v2 = v := Least.one (al.least hv2) hv
        have eu : u2 = u := SoleX.one (al.sole hu2) hu
        subst ev eu
        refine ⟨l2, _, rfl, .lst (.inl (.inl g2)) (.cons (hdv _ _) (.cons (hdu _ _) .nil)), fine_two fv fu, rfl, _, rfl, ?_⟩
        rw [decide_eq_true rfl]
        exact iteF ⟨rfl, k03.trans k4⟩
      rintro _ J4 ⟨rfl, s4⟩
      have hV := hV.same s4
      have hM := hM.same s4
      have M4 := M3.same s4
      clear M3 s4 eW eS
      -- by keyword
      refine ⟨fun σ J => σ = [some (.ref p), some (.int (0 + (i : Int))), some (.ref a), some (.ref T), some (.ref W), a5, a6, a7, a8, a9, aa, ab, none, none] ∧ Same J4 J, ?_, ?_⟩
      · refine ⟨_, rfl, rfl, T, us, rfl, hM, fun v K1 k1 hv => ⟨_, rfl, rfl, T, us, rfl, hM.same k1, fun u K2 k2 hu => ⟨by show 2 ≤ sizeLine; decide, fun l1 n1 => ?_⟩⟩⟩
        have m1 : Same K2 (upd K2 l1 (.lst [v, u])) := same_new n1
        have g1 : upd K2 l1 (.lst [v, u]) l1 = some (.lst [v, u]) := upd_same
        generalize upd K2 l1 (.lst [v, u]) = K3 at m1 g1
        have k03 := k1.trans (k2.trans m1)
        refine ⟨_, rfl, T, us, rfl, hM.same k03, fun v2 K4 k4 hv2 => ⟨_, rfl, T, us, rfl, hM.same (k03.trans k4), fun u2 K5 k5 hu2 => ⟨by show 2 ≤ sizeLine; decide, fun l2 n2 => ?_⟩⟩⟩
        have ev : v2 = v := Least.one hv2 hv
        have eu : u2 = u := SoleX.one hu2 hu
        subst ev eu
        have m2 : Same K5 (upd K5 l2 (.lst [v2, u2])) := same_new n2
        have g2 : upd K5 l2 (.lst [v2, u2]) l2 = some (.lst [v2, u2]) := upd_same
        generalize upd K5 l2 (.lst [v2, u2]) = K6 at m2 g2
        have k36 := k4.trans (k5.trans m2)
        obtain ⟨dv, hdv, _, lv, pv⟩ := hv.txt.dp
        obtain ⟨du, hdu, _, lu, pu⟩ := hu.txt.dp
        have sh : SeqAt.shaped (.list [dv, du]) = true := shaped12 fun x hx => by
          simp only [List.mem_cons, List.not_mem_nil, or_false] at hx
          rcases hx with rfl | rfl
          · exact ⟨lv, pv⟩
          · exact ⟨lu, pu⟩
        refine ⟨_, _, .lst (.inl (.inl (k36 _ _ g1))) (.cons (hdv _ _) (.cons (hdu _ _) .nil)), .lst (.inl (.inl g2)) (.cons (hdv _ _) (.cons (hdu _ _) .nil)), sh, sh, ?_⟩
        have ev : PyData.eqv (.list [dv, du]) (.list [dv, du]) = true := eqv_self _ (SeqAt.canLay_of_shaped sh)
        rw [ev]
        exact ⟨_, rfl, iteF ⟨rfl, k03.trans k36⟩⟩
      rintro _ J5 ⟨rfl, s5⟩
      have hV := hV.same s5
      have hM := hM.same s5
      have M5 := M4.same s5
      clear M4 s5
      -- six lengths
      refine ⟨6, rfl, by decide, by decide, for_range (lo := 0) (n := 6) (fun j σ J => ∃ a5 a6 a7 a8 a9 aa ab, σ = [some (.ref p), some (.int (0 + (i : Int))), some (.ref a), some (.ref T), some (.ref W), a5, a6, a7, a8, a9, aa, ab, none, none] ∧ LViewsAt J a ws ∧ ViewsAt C J T us ∧ Ladled p H J) ⟨a5, a6, a7, a8, a9, aa, ab, rfl, hV, hM, M5⟩ ?_ ?_⟩
      · clear hV hM M5 M a5 a6 a7 a8 a9 aa ab
        rintro j σ J hj ⟨a5, a6, a7, a8, a9, aa, ab, rfl, hV, hM, M⟩
        -- how many signs
        refine ⟨_, rfl, _, rfl, by show 3 ≤ sizeLine; decide, fun q nq => ?_⟩
        have Mq := M.new (o := .lst [.int 30, .int 130, .int 501]) nq
        have sq : Same J (upd J q (.lst [.int 30, .int 130, .int 501])) := same_new nq
        refine ⟨p, Mq.pot, .inl ⟨q, _, rfl, .inl (.inl upd_same), M.pot.ne nq, by decide, by decide, fun v1 K1 hv1 c1 => ?_⟩⟩
        obtain ⟨bb, b0, bl, rfl⟩ : ∃ bb : Int, 0 < bb ∧ bb ≤ 501 ∧ v1 = .int bb := by
          simp only [List.mem_cons, List.not_mem_nil, or_false] at hv1
          rcases hv1 with rfl | rfl | rfl <;> exact ⟨_, by decide, by decide, rfl⟩
        refine ⟨p, bb, rfl, c1.pot, b0, by omega, fun far K2 f0 f1 c2 => ?_⟩
        have hV2 := ((hV.same sq).ladled c1 Mq.pot).ladled c2 c1.pot
        have hM2 := ((hM.same sq).ladled c1 Mq.pot).ladled c2 c1.pot
        have M2 := (Mq.trans c1).trans c2
        clear hV hM M Mq c1 c2 sq nq hv1 b0
        obtain ⟨u0, ur, hus⟩ : ∃ u0 ur, us = u0 :: ur := by
          cases us with
          | nil =>
            have := hM2.l1
            cases this
          | cons u0 ur => exact ⟨u0, ur, rfl⟩
        have vu := hM2.el u0 (by rw [hus]; exact List.mem_cons_self ..)
        have yl := isTxt_len vu.tx
        have yl2 : u0.y.length ≤ 200 := by omega
        refine ⟨_, rfl, _, rfl, T, _, _, V.ref u0.pr, rfl, rfl, .inl (.inl hM2.tp), at_of' (j := 0) rfl (by rw [hus]; rfl), u0.pr, _, _, .str u0.y, rfl, rfl, .inl (.inl vu.pr), at_of' (xs := [V.ref u0.rw, V.str u0.y]) (j := 1) rfl rfl, _, _, rfl, ⟨Nat.le_of_lt (small1000 (by omega)), rfl⟩, _, rfl, _, rfl, by show 4 ≤ sizeLine; decide, fun q nq => ?_⟩
        have sq : Same K2 (upd K2 q (.lst [.int 0, .int (u0.y.length : Nat), .int far, .int far])) := same_new nq
        have M3 := M2.new (o := .lst [.int 0, .int (u0.y.length : Nat), .int far, .int far]) nq
        refine ⟨p, M3.pot, .inl ⟨q, _, rfl, .inl (.inl upd_same), M2.pot.ne nq, (by show 0 < 4; decide), (by show 4 < 1000; decide), fun v2 K3 hv2 c3 => ?_⟩⟩
        obtain ⟨n, n5, rfl⟩ : ∃ n : Nat, n ≤ 500 ∧ v2 = .int (n : Int) := by
          simp only [List.mem_cons, List.not_mem_nil, or_false] at hv2
          rcases hv2 with rfl | rfl | rfl | rfl
          · exact ⟨0, by decide, rfl⟩
          · exact ⟨u0.y.length, by omega, rfl⟩
          · exact ⟨far.toNat, by omega, by rw [Int.toNat_of_nonneg f0]⟩
          · exact ⟨far.toNat, by omega, by rw [Int.toNat_of_nonneg f0]⟩
        have hV := (hV2.same sq).ladled c3 M3.pot
        have hM := (hM2.same sq).ladled c3 M3.pot
        have M := M3.trans c3
        clear hV2 hM2 M2 M3 c3 sq nq hv2 vu yl yl2 hus
        -- what is known
        refine ⟨_, rfl, _, rfl, a, n, ws, rfl, hV, n5, fun no G sG => ?_, fun d kvs G nd sG ed kn => ?_⟩
        · refine ⟨_, _, _, rfl, ?_⟩
          refine ⟨fun σ J => ∃ (kk ln : V) (ae : Option V), σ = [some (.ref p), some (.int (0 + (i : Int))), some (.ref a), some (.ref T), some (.ref W), some (.int (0 + (j : Int))), some (.int far), some (.int (n : Int)), some kk, some ln, some (.int (manyOf ln)), ae, none, none] ∧ Same G J ∧ Sgn ws n ln, ?_, ?_⟩
          · refine ⟨_, rfl, rfl, _, rfl, ?_⟩
            rw [show (!decide (V.non = V.non)) = false by simp]
            exact iteF ⟨.non, .non, _, rfl, Same.refl _, .inl ⟨rfl, no⟩⟩
          rintro _ J6 ⟨kk, ln, ae, rfl, s6, hs⟩
          have hV := hV.same (sG.trans s6)
          have hM := hM.same (sG.trans s6)
          have M := M.same (sG.trans s6)
          have big := many_small hs n5
          have ht := hs.txt n5
          obtain ⟨tx, htx⟩ := ht.wrote
          refine ⟨fun σ J => σ = [some (.ref p), some (.int (0 + (i : Int))), some (.ref a), some (.ref T), some (.ref W), some (.int (0 + (j : Int))), some (.int far), some (.int (n : Int)), some kk, some ln, some (.int (manyOf ln)), ae, none, none] ∧ Same J6 J, ?_, ?_⟩
          · refine ⟨_, rfl, _, rfl, T, n, us, rfl, hM, n5, fun v K4 k4 hv => ⟨_, rfl, _, rfl, T, n, us, rfl, hM.same k4, n5, fun v2 K5 k5 hv2 => ⟨by show 2 ≤ sizeLine; decide, fun l1 n1 => ?_⟩⟩⟩
            obtain rfl : v = ln := (al.symm.sgn hv).same hs
            obtain rfl : v2 = v := (al.symm.sgn hv2).same hs
            have m1 : Same K5 (upd K5 l1 (.lst [v2, .int (manyOf v2)])) := same_new n1
            refine ⟨l1, v2, manyOf v2, tx, rfl, .inl (.inl upd_same), htx, big, ?_⟩
            refine ⟨_, rfl, _, rfl, by show 2 ≤ sizeLine; decide, fun l2 n2 => ⟨l2, v2, manyOf v2, tx, rfl, .inl (.inl upd_same), htx, big, rfl, _, rfl, ?_⟩⟩
            rw [decide_eq_true rfl]
            exact iteF ⟨rfl, k4.trans (k5.trans (m1.trans (same_new n2)))⟩
          rintro _ J7 ⟨rfl, s7⟩
          have hV := hV.same s7
          have hM := hM.same s7
          have M := M.same s7
          refine ⟨_, rfl, _, rfl, rfl, T, n, us, rfl, hM, n5, fun v K4 k4 hv => ?_⟩
          obtain rfl : v = ln := (al.symm.sgn hv).same hs
          refine ⟨_, rfl, ht.scal, _, rfl, ?_⟩
          rw [decide_eq_true rfl]
          refine iteF ⟨_, rfl, _, rfl, rfl, T, n, us, rfl, hM.same k4, n5, fun v2 K5 k5 hv2 => ?_⟩
          obtain rfl : v2 = v := (al.symm.sgn hv2).same hs
          refine ⟨_, rfl, rfl, _, rfl, ?_⟩
          rw [decide_eq_true rfl]
          have k45 := k4.trans k5
          exact iteF ⟨_, _, _, _, _, _, _, rfl, hV.same k45, hM.same k45, M.same k45⟩
        · refine ⟨_, _, _, rfl, ?_⟩
          refine ⟨fun σ J => ∃ (kk ln : V) (ae : Option V), σ = [some (.ref p), some (.int (0 + (i : Int))), some (.ref a), some (.ref T), some (.ref W), some (.int (0 + (j : Int))), some (.int far), some (.int (n : Int)), some kk, some ln, some (.int (manyOf ln)), ae, none, none] ∧ Same G J ∧ Sgn ws n ln, ?_, ?_⟩
          · refine ⟨_, rfl, rfl, _, rfl, ?_⟩
            rw [decide_eq_false (show ¬ V.ref d = V.non from fun z => by cases z)]
            refine iteT ⟨⟨_, rfl⟩, _, rfl, d, rfl, ⟨_, .inl (.inl ed)⟩, fun D nD => lc_list (K := K) (a := d) (xs := kl kvs n) (fun m J => J D = some (.lst (ones (wrote kvs 63 m))) ∧ Same G J) ⟨upd_same, same_new nD⟩ (fun m J _ ⟨_, s3⟩ => .inl (.inl (s3 _ _ ed))) ?_ ?_⟩
            · rintro m x J3 hx ⟨eM, s3⟩
              have hm : m < n := by
                have := (List.getElem?_eq_some_iff.mp hx).1
                rw [kl_len] at this
                exact this
              obtain ⟨v, hv, w⟩ := kl_sgn (o := 63) kn hm
              rw [hx] at hv
              cases hv
              have small : (ones (wrote kvs 63 m)).length < sizeLine := small1000 (by unfold ones; rw [List.length_map, wrote_len]; omega)
              have nx : ∀ J4 : Hp, upd J4 D (.lst (ones (wrote kvs 63 m) ++ [.str (one (sgn kvs 63 m))])) D = some (.lst (ones (wrote kvs 63 (m + 1)))) := fun J4 => by
                rw [upd_same, wrote_next]
                unfold ones
                rw [List.map_append]
                rfl
              refine ⟨rfl, yes (iteT ⟨fun v J4 => J4 = J3 ∧ v = .str (one (sgn kvs 63 m)), ?_, ?_⟩)⟩
              · rcases w with ⟨rfl, es, _⟩ | ⟨rfl, _, _⟩
                · refine ⟨_, rfl, rfl, _, rfl, ?_⟩
                  rw [decide_eq_true rfl]
                  refine iteT ⟨rfl, ?_⟩
                  rw [es]
                  rfl
                · refine ⟨_, rfl, rfl, _, rfl, ?_⟩
                  rw [decide_eq_false (fun z => by cases z)]
                  exact iteF ⟨_, rfl, rfl, rfl⟩
              · rintro _ _ ⟨rfl, rfl⟩
                exact ⟨_, eM, small, nx _, same_offF s3 nD⟩
            · rintro J3 ⟨eM, s3⟩
              rw [kl_len, ones_map] at eM
              generalize hy : Txt.join (Str.ofString "") ((wrote kvs 63 n).map one) = y
              have ey : y.cps.toList = wrote kvs 63 n := by rw [← hy]; exact tjoin_ones _
              refine ⟨_, D, _, rfl, rfl, .inl (.inl (.inl eM)), ?_, _, _, rfl, ?_⟩
              · rw [ones_len, List.length_map, wrote_len]
                have e0 : (("" : String) : Str).length = 0 := by decide +kernel
                rw [e0]
                omega
              rw [hy]
              refine ⟨_, rfl, d, rfl, ⟨_, .inl (.inl (s3 _ _ ed))⟩, for_list (K := K) (a := d) (xs := kl kvs n) (fun m σ J => ∃ ae, σ = [some (.ref p), some (.int (0 + (i : Int))), some (.ref a), some (.ref T), some (.ref W), some (.int (0 + (j : Int))), some (.int far), some (.int (n : Int)), some (.ref d), some (.str y), some (.int ((38 : Int) ^ ((wrote kvs 63 m).count 63))), ae, none, none] ∧ J = J3) ⟨_, rfl, rfl⟩ (fun m σ J _ ⟨_, _, e⟩ => by rw [e]; exact .inl (.inl (s3 _ _ ed))) ?_ ?_⟩
              · rintro m x σ J hx ⟨ae, rfl, rfl⟩
                have hm : m < n := by
                  have := (List.getElem?_eq_some_iff.mp hx).1
                  rw [kl_len] at this
                  exact this
                obtain ⟨v, hv, w⟩ := kl_sgn (o := 63) kn hm
                rw [hx] at hv
                cases hv
                rcases w with ⟨rfl, es, _⟩ | ⟨rfl, _, hs⟩
                · refine ⟨_, rfl, fun v J4 => J4 = J ∧ v = .int 38, ⟨_, rfl, rfl, _, rfl, ?_⟩, ?_⟩
                  · rw [decide_eq_true rfl]
                    exact iteT ⟨rfl, rfl⟩
                  · rintro _ _ ⟨rfl, rfl⟩
                    refine ⟨_, _, rfl, rfl, .inr ⟨by decide, by decide⟩, some .non, ?_, rfl⟩
                    rw [wrote_next, es, List.count_append, show List.count 63 [63] = 1 by decide, Int.pow_succ]
                    rfl
                · refine ⟨_, rfl, fun v J4 => J4 = J ∧ v = .int 1, ⟨_, rfl, rfl, _, rfl, ?_⟩, ?_⟩
                  · rw [decide_eq_false (fun z => by cases z)]
                    exact iteF ⟨rfl, rfl⟩
                  · rintro _ _ ⟨rfl, rfl⟩
                    refine ⟨_, _, rfl, rfl, .inr ⟨by decide, by decide⟩, some (.str (one (sgn kvs 63 m))), ?_, rfl⟩
                    have n63 : ¬ sgn kvs 63 m = 63 := fun h => no63 (by rw [h] at hs; exact hs)
                    rw [wrote_next, List.count_append, List.count_singleton, if_neg (by simpa using n63), Nat.add_zero]
                    show ([some (.ref p), some (.int (0 + (i : Int))), some (.ref a), some (.ref T), some (.ref W), some (.int (0 + (j : Int))), some (.int far), some (.int (n : Int)), some (.ref d), some (.str y), some (.int ((38 : Int) ^ ((wrote kvs 63 m).count 63) * 1)), some (.str (one (sgn kvs 63 m))), none, none] : L2.St) = _
                    rw [Int.mul_one]
              · rintro σ J ⟨ae, rfl, rfl⟩
                rw [kl_len]
                have em : (38 : Int) ^ ((wrote kvs 63 n).count 63) = manyOf (.str y) := by
                  show _ = (38 : Int) ^ (y.cps.toList.count 63)
                  rw [ey]
                rw [em]
                exact ⟨_, _, _, rfl, s3, .inr ⟨kvs, y, rfl, kn, ey⟩⟩
          rintro _ J6 ⟨kk, ln, ae, rfl, s6, hs⟩
          have hV := hV.same (sG.trans s6)
          have hM := hM.same (sG.trans s6)
          have M := M.same (sG.trans s6)
          have big := many_small hs n5
          have ht := hs.txt n5
          obtain ⟨tx, htx⟩ := ht.wrote
          refine ⟨fun σ J => σ = [some (.ref p), some (.int (0 + (i : Int))), some (.ref a), some (.ref T), some (.ref W), some (.int (0 + (j : Int))), some (.int far), some (.int (n : Int)), some kk, some ln, some (.int (manyOf ln)), ae, none, none] ∧ Same J6 J, ?_, ?_⟩
          · refine ⟨_, rfl, _, rfl, T, n, us, rfl, hM, n5, fun v K4 k4 hv => ⟨_, rfl, _, rfl, T, n, us, rfl, hM.same k4, n5, fun v2 K5 k5 hv2 => ⟨by show 2 ≤ sizeLine; decide, fun l1 n1 => ?_⟩⟩⟩
            obtain rfl : v = ln := (al.symm.sgn hv).same hs
            obtain rfl : v2 = v := (al.symm.sgn hv2).same hs
            have m1 : Same K5 (upd K5 l1 (.lst [v2, .int (manyOf v2)])) := same_new n1
            refine ⟨l1, v2, manyOf v2, tx, rfl, .inl (.inl upd_same), htx, big, ?_⟩
            refine ⟨_, rfl, _, rfl, by show 2 ≤ sizeLine; decide, fun l2 n2 => ⟨l2, v2, manyOf v2, tx, rfl, .inl (.inl upd_same), htx, big, rfl, _, rfl, ?_⟩⟩
            rw [decide_eq_true rfl]
            exact iteF ⟨rfl, k4.trans (k5.trans (m1.trans (same_new n2)))⟩
          rintro _ J7 ⟨rfl, s7⟩
          have hV := hV.same s7
          have hM := hM.same s7
          have M := M.same s7
          refine ⟨_, rfl, _, rfl, rfl, T, n, us, rfl, hM, n5, fun v K4 k4 hv => ?_⟩
          obtain rfl : v = ln := (al.symm.sgn hv).same hs
          refine ⟨_, rfl, ht.scal, _, rfl, ?_⟩
          rw [decide_eq_true rfl]
          refine iteF ⟨_, rfl, _, rfl, rfl, T, n, us, rfl, hM.same k4, n5, fun v2 K5 k5 hv2 => ?_⟩
          obtain rfl : v2 = v := (al.symm.sgn hv2).same hs
          refine ⟨_, rfl, rfl, _, rfl, ?_⟩
          rw [decide_eq_true rfl]
          have k45 := k4.trans k5
          exact iteF ⟨_, _, _, _, _, _, _, rfl, hV.same k45, hM.same k45, M.same k45⟩
      · rintro σ J ⟨a5, a6, a7, a8, a9, aa, ab, rfl, hV, hM, M⟩
        exact ⟨_, _, _, _, _, _, _, _, _, _, _, rfl, M⟩
    · rintro σ J ⟨a1, a2, a3, a4, a5, a6, a7, a8, a9, aa, ab, rfl, M⟩
      exact k _ M
end
end Gu
namespace Gu
open PySem PySem.Spec PyProof.Rows L2
/-! ### as walkG, where the law leans on how many digits a number may have -/
/-- a heap in which nothing is tracked but, at most, the script at a, which stands still there -/
theorem quiet_endD {P : Program} {w : World} {K : PySem.W.Frag} {mg mb : Str → Option Value} {k : Nat} {fa a : Addr} {fd : FuncData} {x : Str} {sp : Sp} {s : Shared} {us : List Value} {H : Hp} (inK : K.In s.heap) (nsG : s.heap.Ns mainGlobals mg) (nsB : s.heap.Ns builtinsNs mb)
    (bb : ∀ x : Str, x ≠ "__name__" → mb x = bootBuiltins x) (nl : s.heap.NoLimit) (dg : s.heap.NoDigits) (ng : s.gens = #[]) (at_a : s.heap.get? a = some { cls := .type "list", data := .seq us.toArray }) (room : Room k callerA)
    (F : ∀ base : Heap, K.In base → base.Ns mainGlobals mg → base.NoDigits → FnG P w K mg base k fa fd [x] sp) (bind : ∀ (s : Shared) (u : Value), BindsTo s fd ⟨[u], []⟩ [(x, u)]) (want : sp [.ref a] H (fun v _ => v = .bl true) fun _ _ _ => False)
    (only : Only H) (ok : HOk P w H s.heap) (one : ∀ b, H b ≠ none → b = a ∧ K.lookup a = none) :
    codeAny (model P w) callerA (.call (.ref fa) ⟨[.ref a], []⟩) (fun r s2 => r = .ok (.ret (.bool true)) ∧ OldK s.heap s2.heap ∧ s2.os = s.os ∧ AllBare s2.gens) s := by
  have dictFree : ∀ (b : Addr) (o : Obj) (es : Array DictEntry) (ep : Nat), s.heap.get? b = some o → o.data = .dict es ep → H b = none := fun b o es ep e d =>
    Classical.byContradiction fun z => by
      have hb := (one b z).1
      rw [hb, at_a] at e
      cases e
      exact Data.noConfusion d
  have hiddenNs : ∀ (b : Addr) (m : Str → Option Value), s.heap.Ns b m → (hidT s.heap H).Ns b m := fun b m h => by
    obtain ⟨o, es, ep, e, d, r⟩ := h
    exact ⟨o, es, ep, hidT_get e (dictFree b o es ep e d), d, r⟩
  have hiddenK : K.In (hidT s.heap H) := fun b o e => hidT_get (inK b o e) (Classical.byContradiction fun z => by
    obtain ⟨h1, h2⟩ := one b z
    rw [h1, h2] at e
    cases e)
  have hiddenD : (hidT s.heap H).NoDigits := by
    obtain ⟨mc, h1, h2⟩ := dg
    exact ⟨mc, hiddenNs _ _ h1, h2⟩
  have env : Env0 P w K mg (hidT s.heap H) callerA [] s H := by
    refine ⟨rfl, ⟨hiddenK, hiddenNs _ _ nsG, ⟨mb, hiddenNs _ _ nsB, bb⟩, ?_⟩, fun b o e => of_hidT e, Nat.le_of_eq (hidT_size _ _), trivial, fun b hb => absurd (show b ∈ ([] : List Addr) from hb) List.not_mem_nil, ok, .of_eq ng⟩
    obtain ⟨mc, h1, h2⟩ := nl
    exact ⟨mc, hiddenNs _ _ h1, h2⟩
  refine codeAny_mono ((F _ hiddenK (hiddenNs _ _ nsG) hiddenD).run callerA [] s H ⟨[.ref a], []⟩ [.ref a] [.ref a] _ _ room rfl env (bind s (.ref a)) (.cons rfl .nil) want) fun r s2 h2 => ?_
  cases r with
  | error e => exact (h2 : False).elim
  | ok fl =>
    cases fl with
    | next => exact (h2 : False).elim
    | brk => exact (h2 : False).elim
    | cont => exact (h2 : False).elim
    | ret u =>
      obtain ⟨v, G, os, bare, un, ok2, rv, hv⟩ := h2
      cases (show v = .bl true from hv)
      cases (show u = Value.bool true from rv)
      refine ⟨rfl, OldK.of_keep fun b o e => ?_, os, bare⟩
      rcases only b with z | ⟨ob, xs, z⟩
      · exact un.keep b o e z (fun y => absurd (show b ∈ ([] : List Addr) from y) List.not_mem_nil) (by simp)
      · have e1 := (ok b _ z).1
        have e2 := (ok2 b _ (un.frzs b ob _ z)).1
        rw [e] at e1
        cases e1
        exact e2
/-- the law's call, by its promise -/
theorem quiet_callD {P : Program} {w : World} {K : PySem.W.Frag} {mg mb : Str → Option Value} {k : Nat} {fa a : Addr} {fd : FuncData} {x : Str} {sp : Sp} {s : Shared} {us : List Value} {ns : List Int} (inK : K.In s.heap) (nsG : s.heap.Ns mainGlobals mg) (nsB : s.heap.Ns builtinsNs mb)
    (bb : ∀ x : Str, x ≠ "__name__" → mb x = bootBuiltins x) (nl : s.heap.NoLimit) (dg : s.heap.NoDigits) (ng : s.gens = #[]) (at_a : s.heap.get? a = some { cls := .type "list", data := .seq us.toArray }) (nums : IntsAre us ns) (small : ns.length ≤ sizeLine) (room : Room k callerA)
    (F : ∀ base : Heap, K.In base → base.Ns mainGlobals mg → base.NoDigits → FnG P w K mg base k fa fd [x] sp) (bind : ∀ (s : Shared) (u : Value), BindsTo s fd ⟨[u], []⟩ [(x, u)])
    (want : ∀ H : Hp, SqL K H a (ns.map V.int) → sp [.ref a] H (fun v _ => v = .bl true) fun _ _ _ => False) :
    codeAny (model P w) callerA (.call (.ref fa) ⟨[.ref a], []⟩) (fun r s2 => r = .ok (.ret (.bool true)) ∧ OldK s.heap s2.heap ∧ s2.os = s.os ∧ AllBare s2.gens) s := by
  have rel := vals_ints nums
  cases hk : K.lookup a with
  | some o =>
    have e := inK a o hk
    rw [at_a] at e
    cases e
    refine quiet_endD (H := fun _ => none) inK nsG nsB bb nl dg ng at_a room F bind (want _ (.inr ⟨_, us.toArray, _, hk, rfl, rfl, rfl, ?_, rel⟩)) (fun _ => .inl rfl) (fun b u z => nomatch (show (none : Option HO) = some u from z)) fun b z => absurd rfl z
    rw [List.size_toArray, nums.length]
    exact small
  | none =>
    refine quiet_endD (H := upd (fun _ => none) a (.frz { cls := .type "list", data := .seq us.toArray } (.lst (ns.map V.int)))) inK nsG nsB bb nl dg ng at_a room F bind (want _ (.inl (.inr ⟨_, upd_same⟩))) (fun b => ?_) (fun b u z => ?_) fun b z => ?_
    · by_cases hb : b = a
      · exact .inr ⟨_, _, by rw [hb]; exact upd_same⟩
      · exact .inl (upd_ne hb)
    · by_cases hb : b = a
      · subst hb
        rw [upd_same] at z
        cases z
        exact ⟨at_a, by rw [List.length_map]; exact small, us, _, rel, at_a⟩
      · rw [upd_ne hb] at z
        cases z
    · by_cases hb : b = a
      · exact ⟨hb, hk⟩
      · exact absurd (upd_ne hb) z
theorem walkD {l : PySem.W.OpenLaw} {n k : Nat} {q : Program} {loose : List Str} {XP : (Str → Option Value) → Heap → Prop} {YP : World → Heap → Prop} {d : DefRec} {K : Params → PySem.W.Frag} {x : Str} {sp : PySem.W.Frag → Sp} (most : l.most = some n) (small : n ≤ sizeLine) (plain : d.params.defaults = []) (room : Room k callerA)
    (left : ∀ (w : World) (h : Heap), YP w h → (K w.params).In h)
    (F : ∀ (w : World) (mg : Str → Option Value) (fa : Addr) (h : Heap), (K w.params).In h → h.Ns mainGlobals mg → mg d.name = some (.ref fa) → ∃ fd : FuncData, (∀ (s : Shared) (u : Value), BindsTo s fd ⟨[u], []⟩ [(x, u)]) ∧
      ∀ base : Heap, (K w.params).In base → base.Ns mainGlobals mg → base.NoDigits → FnG l.prog w (K w.params) mg base k fa fd [x] (sp (K w.params)))
    (want : ∀ (w : World) (H : Hp) (a : Addr) (ns : List Int), ns.length ≤ n → SqL (K w.params) H a (ns.map V.int) → sp (K w.params) [.ref a] H (fun v _ => v = .bl true) fun _ _ _ => False) :
    PySem.W.WalkO q loose XP YP l.row.toRowW d [] (fun f vs => PySem.call f vs) := by
  refine Att.attach_call most plain fun w s0 s mg mb fa o pm cd doc a us ns G Y ho hd hcd hmg at_a nums le ng => ?_
  obtain ⟨fd, bind, fn⟩ := F w mg fa _ (left w _ Y) G.T.g hmg
  exact quiet_callD (left w _ Y) G.T.g G.T.b G.T.builtins G.T.nolimit G.T.nodigits ng at_a nums (Nat.le_trans le small) room fn bind fun H hS => want w H a ns le hS
end Gu
namespace Gu
open PySem PySem.Spec PyProof.Rows L2
section
variable {P : Program} {w : World} {K : PySem.W.Frag} {mg : Str → Option Value} {base : Heap}
/-! ### law -/
def spLaw (K : PySem.W.Frag) : Sp := fun vs H Q _ => ∃ (a : Addr) (ns : List Int), vs = [.ref a] ∧ SqL K H a (ns.map V.int) ∧ ns.length ≤ 63 ∧ ∀ G, Q (.bl true) G
theorem cal_law {n : Nat} (B : Bi mg) {f : Addr} {fd : FuncData} (F : Fun K "law" "law" s_law f fd) (n1 : 1 ≤ n) (C_law_pot : Cal P w K mg base 1 "_law_pot" ps_law_pot (spPot K)) (C_law_right : CalG P w K mg base n "_law_right" ps_law_right spRight) : FnG P w K mg base (n + 1) f fd ps_law (spLaw K) := by
  refine okG F sc_law (fun vs H Q E h => ?_) (fun cdv A outer s H vs Q E hr quiet h => ?_)
  · obtain ⟨a, ns, rfl, _⟩ := h
    rfl
  · obtain ⟨a, ns, rfl, hS, hl, k⟩ := h
    have hk1 := n1
    refine ⟨_, (pss_one (ps_ret (pe_callB (cr_all rfl) (by rfl) B.all (by decide +kernel) (pa_cons (pe_lc (own := [("_law_k", 1)]) (by rfl) sc_law.nd (pi_range1 (by rfl) B.range (pa_cons (pe_callB (call_max2 rfl) (by rfl) B.max (by decide +kernel) (pa_cons pe_int (pa_cons (pe_callB (call_min2 rfl) (by rfl) B.min (by decide +kernel) (pa_cons (pe_callB call_len_seq (by rfl) B.len (by decide +kernel) (pa_cons (pv 0) pa_nil)) (pa_cons pe_int pa_nil))) pa_nil))) pa_nil)) (blkOk_by (own := [("_law_k", 1)]) (N := ["_law_script", "_law_k"]) (sc := defScope s_law) (by decide +kernel)) (fun _ _ _ _ _ => pg_name (i := 1) sc_law.nd rfl (.inl rfl)) (fun _ _ _ _ _ => pts_nil) (fun _ _ _ _ _ => (pe_ownG C_law_right hr (Nat.le_refl _) quiet (by rfl) (pa_cons (pe_own C_law_pot hr hk1 (by rfl) (pa_cons (pv 0) (pa_cons (pv 1) pa_nil))) pa_nil)))) pa_nil)))), ?_⟩
    refine ⟨_, rfl, a, _, rfl, .inl hS, _, _, rfl, _, _, rfl, ?_⟩
    rw [List.length_map]
    generalize hm : (if (4 : Int) < (ns.length : Int) then (4 : Int) else (ns.length : Int)) = m
    have m1 : m ≤ 4 := by rw [← hm]; split <;> omega
    refine ⟨_, rfl, by split <;> omega, by split <;> omega, fun D nD => ?_⟩
    refine lc_range (lo := 0) (n := (if m > (2 : Int) then m else 2).toNat) (fun i J => ∃ bs : List Bool, bs.length = i ∧ bs.all id = true ∧ J D = some (.lst (bs.map V.bl)) ∧ Same H J) ⟨[], rfl, rfl, upd_same, same_new nD⟩ ?_ ?_
    · rintro i J hi ⟨bs, rfl, ha, eD, sJ⟩
      have i5 : bs.length < 5 := by
        revert hi
        split <;> omega
      refine ⟨rfl, yes (iteT ⟨_, rfl, _, rfl, a, bs.length, ns, ?_, sJ.seq hS, by omega, fun p G np hp sG => ?_⟩)⟩
      · rw [Int.zero_add]
        rfl
      · refine ⟨p, rfl, hp, fun G2 L => ?_⟩
        have nDp : D ≠ p := ne_of_none eD np
        have gD : G2 D = some (.lst (bs.map V.bl)) := L.keep _ _ (sG _ _ eD) nDp
        refine ⟨_, gD, small1000 (by rw [List.length_map]; omega), bs ++ [true], by rw [List.length_append]; rfl, by rw [List.all_append, ha]; rfl, ?_, fun b o e => ?_⟩
        · rw [upd_same, List.map_append]
          rfl
        · rw [upd_ne (ne_of_none e nD)]
          exact L.keep _ _ (sG _ _ (sJ _ _ e)) (ne_of_none (sJ _ _ e) np)
    · rintro J ⟨bs, el, ha, eD, sJ⟩
      refine ⟨D, bs, rfl, .inl (.inl eD), ?_⟩
      rw [ha]
      exact k J
end
end Gu
namespace Gu
open PySem PySem.Spec PyProof.Rows L2
theorem at_mk {K : PySem.W.Frag} {h : Heap} {mg : Str → Option Value} {x : Str} {st : Stmt} {ps : List Str} {f : Addr} {oc : Value} {od an : Option Addr} {sl : Array (Option Value)} {kV dc pm cd ct : Value} (X : K.In h) (G : h.Ns mainGlobals mg)
    (hb : ∀ (kV doc pm : Value) (an : Option Addr) (cdv ct : Value) (us : List Value), us.length = ps.length → bindArgs (PySem.W.fnOf x x (defArgs st) (defBody st) (defScope st) .none kV doc pm an cdv ct) ⟨us, []⟩ = pure (ps.zip us))
    (a : PySem.W.nsIn K mainGlobals x = some (some (.ref f))) (l : K.lookup f = some ⟨oc, od, .func (PySem.W.fnOf x x (defArgs st) (defBody st) (defScope st) .none kV dc pm an cd ct), sl⟩) (c : PySem.W.codeIn K cd x = true) (k : PySem.W.keepIn K (.ref f) = true) : At K mg x st ps :=
  ⟨f, _, fun_mk l c k, (fun_mk l c k).binds hb, PySem.W.mg_of X G a⟩
theorem cst_mk {K : PySem.W.Frag} {h : Heap} {mg : Str → Option Value} {x : Str} {v : V} {u : Value} (X : K.In h) (G : h.Ns mainGlobals mg) (r : RelV v u) (a : PySem.W.nsIn K mainGlobals x = some (some u)) : ∃ u, mg x = some u ∧ RelV v u := ⟨u, PySem.W.mg_of X G a, r⟩
end Gu
namespace Gu
open PySem PySem.Spec PyProof.Rows L2
theorem fin {P : Program} {w : World} {K : PySem.W.Frag} {mg : Str → Option Value} {base : Heap} {C f : Addr} {fd : FuncData} (B : Bi mg) (ND : base.NoDigits) (Ss : ShC K mg C) (Is : InitAt K C)
    (A_is_integer : At K mg "is_integer" s_is_integer ps_is_integer) (A_is_tuple : At K mg "is_tuple" s_is_tuple ps_is_tuple) (A_is_text : At K mg "is_text" s_is_text ps_is_text) (A_check_mark : At K mg "check_mark" s_check_mark ps_check_mark) (A_check_length : At K mg "check_length" s_check_length ps_check_length) (A_is_row : At K mg "is_row" s_is_row ps_is_row) (A_shortened : At K mg "shortened" s_shortened ps_shortened) (A_planned : At K mg "planned" s_planned ps_planned) (A_telling_lengths : At K mg "telling_lengths" s_telling_lengths ps_telling_lengths) (A_is_view : At K mg "is_view" s_is_view ps_is_view) (A_check_views : At K mg "check_views" s_check_views ps_check_views) (A_known_signs : At K mg "known_signs" s_known_signs ps_known_signs) (A_written_out : At K mg "written_out" s_written_out ps_written_out) (A_lengths : At K mg "lengths" s_lengths ps_lengths) (A_signs : At K mg "signs" s_signs ps_signs) (A_number_of : At K mg "number_of" s_number_of ps_number_of) (A_only_text : At K mg "only_text" s_only_text ps_only_text) (A_least_text : At K mg "least_text" s_least_text ps_least_text) (A_law_pot : At K mg "_law_pot" s_law_pot ps_law_pot) (A_law_ladle : At K mg "_law_ladle" s_law_ladle ps_law_ladle) (A_law_one_of : At K mg "_law_one_of" s_law_one_of ps_law_one_of) (A_law_told : At K mg "_law_told" s_law_told ps_law_told) (A_law_tolds : At K mg "_law_tolds" s_law_tolds ps_law_tolds) (A_law_made : At K mg "_law_made" s_law_made ps_law_made) (A_law_cut : At K mg "_law_cut" s_law_cut ps_law_cut) (A_law_seen : At K mg "_law_seen" s_law_seen ps_law_seen) (A_law_line : At K mg "_law_line" s_law_line ps_law_line) (A_law_known : At K mg "_law_known" s_law_known ps_law_known) (A_law_some_views : At K mg "_law_some_views" s_law_some_views ps_law_some_views) (A_law_due_lengths : At K mg "_law_due_lengths" s_law_due_lengths ps_law_due_lengths) (A_law_due_texts : At K mg "_law_due_texts" s_law_due_texts ps_law_due_texts) (A_law_right : At K mg "_law_right" s_law_right ps_law_right)
    (F : Fun K "law" "law" s_law f fd) : FnG P w K mg base 8 f fd ps_law (spLaw K) := by
  have c1 : Cal P w K mg base 1 "_law_ladle" ps_law_ladle spLadle := cal_ladle B A_law_ladle
  have c2 : Cal P w K mg base 2 "_law_one_of" ps_law_one_of (spOneOf K) := cal_oneOf B A_law_one_of c1
  have c3 : Cal P w K mg base 3 "_law_told" ps_law_told spTold := cal_told B A_law_told c1 c2
  have c4 : Cal P w K mg base 4 "_law_tolds" ps_law_tolds spTolds := cal_tolds B A_law_tolds c3 c2
  have c5 : Cal P w K mg base 1 "is_integer" ps_is_integer (spIsInteger K) := cal_isInteger B A_is_integer
  have c6 : Cal P w K mg base 1 "is_text" ps_is_text (spIsText K) := cal_isText B A_is_text
  have cmk : Cal P w K mg base 2 "check_mark" ps_check_mark spCheckMark := cal_checkMark B A_check_mark c6
  have m1 : Mak P w K mg base 3 "Shortener" C (spInit C) := mak_sh B Ss Is c5 cmk
  have c7 : Cal P w K mg base 5 "_law_made" ps_law_made (spMade C) := cal_made B A_law_made m1
  have d2 : Cal P w K mg base 1 "shortened" ps_shortened (spShortT C) := cal_shortT B Ss A_shortened
  have d3 : Cal P w K mg base 2 "planned" ps_planned (spPlanned C) := cal_planned B Ss A_planned d2
  have d4 : Cal P w K mg base 1 "telling_lengths" ps_telling_lengths spTelling := cal_telling B A_telling_lengths
  have t1 : Cal P w K mg base 1 "is_tuple" ps_is_tuple (spIsTuple K) := cal_isTuple B A_is_tuple
  have g4 : Cal P w K mg base 2 "check_length" ps_check_length spCheckLength := cal_checkLength B A_check_length c5
  have g8 : Cal P w K mg base 3 "_law_line" ps_law_line spLine := cal_line B A_law_line c2
  have v1 : Cal P w K mg base 2 "is_row" ps_is_row (spIsRow C) := cal_isRow B Ss A_is_row t1
  have v2 : Cal P w K mg base 3 "is_view" ps_is_view (spIsView C) := cal_isView B A_is_view t1 c6 v1
  have v3 : Cal P w K mg base 4 "check_views" ps_check_views (spCheckViews C) := cal_checkViews B A_check_views t1 v2
  have v4 : Cal P w K mg base 3 "known_signs" ps_known_signs (spKnown C) := cal_known B A_known_signs d3
  have v5 : Cal P w K mg base 1 "written_out" ps_written_out spWritten := cal_written B A_written_out
  have v6 : Cal P w K mg base 5 "signs" ps_signs (spSigns C) := cal_signs B A_signs v3 g4 v4 v5
  have v7 : Cal P w K mg base 6 "number_of" ps_number_of (spNumber C) := cal_number B A_number_of v6
  have v8 : Cal P w K mg base 5 "lengths" ps_lengths (spLengths C) := cal_lengths B A_lengths v3 d4 v4
  have v9 : Cal P w K mg base 6 "least_text" ps_least_text (spLeast C) := cal_least B A_least_text v8 v4 v5
  have w1 : Cal P w K mg base 6 "only_text" ps_only_text (spOnlyX C) := cal_onlyX B A_only_text v8 v6
  have x1 : Cal P w K mg base 1 "_law_cut" ps_law_cut spCut := cal_cut B A_law_cut
  have x2 : Cal P w K mg base 2 "_law_seen" ps_law_seen spSeen := cal_seen B A_law_seen x1
  have x3 : Cal P w K mg base 2 "_law_known" ps_law_known spLKnown := cal_lknown B A_law_known x1
  have x4 : Cal P w K mg base 5 "_law_some_views" ps_law_some_views spSomeViews := cal_someViews B A_law_some_views c1 c2 g8 c4 x2
  have x5 : Cal P w K mg base 3 "_law_due_lengths" ps_law_due_lengths spDueLengths := cal_dueLengths B A_law_due_lengths x3
  have x6 : Cal P w K mg base 3 "_law_due_texts" ps_law_due_texts spDueTexts := cal_dueTexts B A_law_due_texts x3
  have k_signs : CalK P w K mg base 5 "signs" ["length", "views"] swap2 (spSigns C) := v6.kw swap2 A_signs swap2_vals fun _ _ _ _ _ _ ws hl => match ws, hl with | [_, _], _ => rfl
  have k_number_of : CalK P w K mg base 6 "number_of" ["length", "views"] swap2 (spNumber C) := v7.kw swap2 A_number_of swap2_vals fun _ _ _ _ _ _ ws hl => match ws, hl with | [_, _], _ => rfl
  have k_lengths : CalK P w K mg base 5 "lengths" ["views"] id (spLengths C) := v8.kw (fun l => l) A_lengths (fun r => r) fun _ _ _ _ _ _ ws hl => match ws, hl with | [_], _ => rfl
  have k_least_text : CalK P w K mg base 6 "least_text" ["views"] id (spLeast C) := v9.kw (fun l => l) A_least_text (fun r => r) fun _ _ _ _ _ _ ws hl => match ws, hl with | [_], _ => rfl
  have k_only_text : CalK P w K mg base 6 "only_text" ["views"] id (spOnlyX C) := w1.kw (fun l => l) A_only_text (fun r => r) fun _ _ _ _ _ _ ws hl => match ws, hl with | [_], _ => rfl
  have e7 : CalG P w K mg base 7 "_law_right" ps_law_right spRight := cal_right B ND A_law_right c1 c2 x4 x3 x5 x6 c7 v6 v7 v8 v9 w1 k_signs k_number_of k_lengths k_least_text k_only_text
  exact cal_law B F (by decide) (cal_pot B A_law_pot) e7
end Gu
namespace Gu
open PySem PySem.Spec PyProof.Rows L2
set_option maxHeartbeats 0 in
theorem all_mk {l : PySem.W.OpenLaw} {w : World} {K : PySem.W.Frag} {h : Heap} {mg : Str → Option Value} {fa : Addr} {f_is_integer : Addr} {oc_is_integer kV_is_integer dc_is_integer pm_is_integer cd_is_integer ct_is_integer : Value} {od_is_integer an_is_integer : Option Addr} {sl_is_integer : Array (Option Value)} {f_is_tuple : Addr} {oc_is_tuple kV_is_tuple dc_is_tuple pm_is_tuple cd_is_tuple ct_is_tuple : Value} {od_is_tuple an_is_tuple : Option Addr} {sl_is_tuple : Array (Option Value)} {f_is_text : Addr} {oc_is_text kV_is_text dc_is_text pm_is_text cd_is_text ct_is_text : Value} {od_is_text an_is_text : Option Addr} {sl_is_text : Array (Option Value)} {f_check_mark : Addr} {oc_check_mark kV_check_mark dc_check_mark pm_check_mark cd_check_mark ct_check_mark : Value} {od_check_mark an_check_mark : Option Addr} {sl_check_mark : Array (Option Value)} {f_check_length : Addr} {oc_check_length kV_check_length dc_check_length pm_check_length cd_check_length ct_check_length : Value} {od_check_length an_check_length : Option Addr} {sl_check_length : Array (Option Value)} {f_is_row : Addr} {oc_is_row kV_is_row dc_is_row pm_is_row cd_is_row ct_is_row : Value} {od_is_row an_is_row : Option Addr} {sl_is_row : Array (Option Value)} {f_shortened : Addr} {oc_shortened kV_shortened dc_shortened pm_shortened cd_shortened ct_shortened : Value} {od_shortened an_shortened : Option Addr} {sl_shortened : Array (Option Value)} {f_planned : Addr} {oc_planned kV_planned dc_planned pm_planned cd_planned ct_planned : Value} {od_planned an_planned : Option Addr} {sl_planned : Array (Option Value)} {f_telling_lengths : Addr} {oc_telling_lengths kV_telling_lengths dc_telling_lengths pm_telling_lengths cd_telling_lengths ct_telling_lengths : Value} {od_telling_lengths an_telling_lengths : Option Addr} {sl_telling_lengths : Array (Option Value)} {f_is_view : Addr} {oc_is_view kV_is_view dc_is_view pm_is_view cd_is_view ct_is_view : Value} {od_is_view an_is_view : Option Addr} {sl_is_view : Array (Option Value)} {f_check_views : Addr} {oc_check_views kV_check_views dc_check_views pm_check_views cd_check_views ct_check_views : Value} {od_check_views an_check_views : Option Addr} {sl_check_views : Array (Option Value)} {f_known_signs : Addr} {oc_known_signs kV_known_signs dc_known_signs pm_known_signs cd_known_signs ct_known_signs : Value} {od_known_signs an_known_signs : Option Addr} {sl_known_signs : Array (Option Value)} {f_written_out : Addr} {oc_written_out kV_written_out dc_written_out pm_written_out cd_written_out ct_written_out : Value} {od_written_out an_written_out : Option Addr} {sl_written_out : Array (Option Value)} {f_lengths : Addr} {oc_lengths kV_lengths dc_lengths pm_lengths cd_lengths ct_lengths : Value} {od_lengths an_lengths : Option Addr} {sl_lengths : Array (Option Value)} {f_signs : Addr} {oc_signs kV_signs dc_signs pm_signs cd_signs ct_signs : Value} {od_signs an_signs : Option Addr} {sl_signs : Array (Option Value)} {f_number_of : Addr} {oc_number_of kV_number_of dc_number_of pm_number_of cd_number_of ct_number_of : Value} {od_number_of an_number_of : Option Addr} {sl_number_of : Array (Option Value)} {f_only_text : Addr} {oc_only_text kV_only_text dc_only_text pm_only_text cd_only_text ct_only_text : Value} {od_only_text an_only_text : Option Addr} {sl_only_text : Array (Option Value)} {f_least_text : Addr} {oc_least_text kV_least_text dc_least_text pm_least_text cd_least_text ct_least_text : Value} {od_least_text an_least_text : Option Addr} {sl_least_text : Array (Option Value)} {f_law_pot : Addr} {oc_law_pot kV_law_pot dc_law_pot pm_law_pot cd_law_pot ct_law_pot : Value} {od_law_pot an_law_pot : Option Addr} {sl_law_pot : Array (Option Value)} {f_law_ladle : Addr} {oc_law_ladle kV_law_ladle dc_law_ladle pm_law_ladle cd_law_ladle ct_law_ladle : Value} {od_law_ladle an_law_ladle : Option Addr} {sl_law_ladle : Array (Option Value)} {f_law_one_of : Addr} {oc_law_one_of kV_law_one_of dc_law_one_of pm_law_one_of cd_law_one_of ct_law_one_of : Value} {od_law_one_of an_law_one_of : Option Addr} {sl_law_one_of : Array (Option Value)} {f_law_told : Addr} {oc_law_told kV_law_told dc_law_told pm_law_told cd_law_told ct_law_told : Value} {od_law_told an_law_told : Option Addr} {sl_law_told : Array (Option Value)} {f_law_tolds : Addr} {oc_law_tolds kV_law_tolds dc_law_tolds pm_law_tolds cd_law_tolds ct_law_tolds : Value} {od_law_tolds an_law_tolds : Option Addr} {sl_law_tolds : Array (Option Value)} {f_law_made : Addr} {oc_law_made kV_law_made dc_law_made pm_law_made cd_law_made ct_law_made : Value} {od_law_made an_law_made : Option Addr} {sl_law_made : Array (Option Value)} {f_law_cut : Addr} {oc_law_cut kV_law_cut dc_law_cut pm_law_cut cd_law_cut ct_law_cut : Value} {od_law_cut an_law_cut : Option Addr} {sl_law_cut : Array (Option Value)} {f_law_seen : Addr} {oc_law_seen kV_law_seen dc_law_seen pm_law_seen cd_law_seen ct_law_seen : Value} {od_law_seen an_law_seen : Option Addr} {sl_law_seen : Array (Option Value)} {f_law_line : Addr} {oc_law_line kV_law_line dc_law_line pm_law_line cd_law_line ct_law_line : Value} {od_law_line an_law_line : Option Addr} {sl_law_line : Array (Option Value)} {f_law_known : Addr} {oc_law_known kV_law_known dc_law_known pm_law_known cd_law_known ct_law_known : Value} {od_law_known an_law_known : Option Addr} {sl_law_known : Array (Option Value)} {f_law_some_views : Addr} {oc_law_some_views kV_law_some_views dc_law_some_views pm_law_some_views cd_law_some_views ct_law_some_views : Value} {od_law_some_views an_law_some_views : Option Addr} {sl_law_some_views : Array (Option Value)} {f_law_due_lengths : Addr} {oc_law_due_lengths kV_law_due_lengths dc_law_due_lengths pm_law_due_lengths cd_law_due_lengths ct_law_due_lengths : Value} {od_law_due_lengths an_law_due_lengths : Option Addr} {sl_law_due_lengths : Array (Option Value)} {f_law_due_texts : Addr} {oc_law_due_texts kV_law_due_texts dc_law_due_texts pm_law_due_texts cd_law_due_texts ct_law_due_texts : Value} {od_law_due_texts an_law_due_texts : Option Addr} {sl_law_due_texts : Array (Option Value)} {f_law_right : Addr} {oc_law_right kV_law_right dc_law_right pm_law_right cd_law_right ct_law_right : Value} {od_law_right an_law_right : Option Addr} {sl_law_right : Array (Option Value)} {f_law : Addr} {oc_law kV_law dc_law pm_law cd_law ct_law : Value} {od_law an_law : Option Addr} {sl_law : Array (Option Value)} {C : Addr} {f_is : Addr} {oc_is kV_is dc_is pm_is cd_is ct_is : Value} {od_is an_is : Option Addr} {sl_is : Array (Option Value)} {u_MOST_SIGNS : Tok} {u_MOST_MARK : Tok} {u_MOST_ROW : Tok} {u_MOST_VIEWS : Tok} {u_MOST_TEXT : Tok} {u_MOST_LENGTH : Tok} {u_SIGNS : Tok} {u_SEVERAL : Tok}
    (X : K.In h) (G : h.Ns mainGlobals mg) (hfa : mg "law" = some (.ref fa))
    (a_is_integer : PySem.W.nsIn K mainGlobals "is_integer" = some (some (.ref f_is_integer)))
    (l_is_integer : K.lookup f_is_integer = some ⟨oc_is_integer, od_is_integer, .func (PySem.W.fnOf "is_integer" "is_integer" (defArgs s_is_integer) (defBody s_is_integer) (defScope s_is_integer) .none kV_is_integer dc_is_integer pm_is_integer an_is_integer cd_is_integer ct_is_integer), sl_is_integer⟩)
    (c_is_integer : PySem.W.codeIn K cd_is_integer "is_integer" = true)
    (k_is_integer : PySem.W.keepIn K (.ref f_is_integer) = true)
    (a_is_tuple : PySem.W.nsIn K mainGlobals "is_tuple" = some (some (.ref f_is_tuple)))
    (l_is_tuple : K.lookup f_is_tuple = some ⟨oc_is_tuple, od_is_tuple, .func (PySem.W.fnOf "is_tuple" "is_tuple" (defArgs s_is_tuple) (defBody s_is_tuple) (defScope s_is_tuple) .none kV_is_tuple dc_is_tuple pm_is_tuple an_is_tuple cd_is_tuple ct_is_tuple), sl_is_tuple⟩)
    (c_is_tuple : PySem.W.codeIn K cd_is_tuple "is_tuple" = true)
    (k_is_tuple : PySem.W.keepIn K (.ref f_is_tuple) = true)
    (a_is_text : PySem.W.nsIn K mainGlobals "is_text" = some (some (.ref f_is_text)))
    (l_is_text : K.lookup f_is_text = some ⟨oc_is_text, od_is_text, .func (PySem.W.fnOf "is_text" "is_text" (defArgs s_is_text) (defBody s_is_text) (defScope s_is_text) .none kV_is_text dc_is_text pm_is_text an_is_text cd_is_text ct_is_text), sl_is_text⟩)
    (c_is_text : PySem.W.codeIn K cd_is_text "is_text" = true)
    (k_is_text : PySem.W.keepIn K (.ref f_is_text) = true)
    (a_check_mark : PySem.W.nsIn K mainGlobals "check_mark" = some (some (.ref f_check_mark)))
    (l_check_mark : K.lookup f_check_mark = some ⟨oc_check_mark, od_check_mark, .func (PySem.W.fnOf "check_mark" "check_mark" (defArgs s_check_mark) (defBody s_check_mark) (defScope s_check_mark) .none kV_check_mark dc_check_mark pm_check_mark an_check_mark cd_check_mark ct_check_mark), sl_check_mark⟩)
    (c_check_mark : PySem.W.codeIn K cd_check_mark "check_mark" = true)
    (k_check_mark : PySem.W.keepIn K (.ref f_check_mark) = true)
    (a_check_length : PySem.W.nsIn K mainGlobals "check_length" = some (some (.ref f_check_length)))
    (l_check_length : K.lookup f_check_length = some ⟨oc_check_length, od_check_length, .func (PySem.W.fnOf "check_length" "check_length" (defArgs s_check_length) (defBody s_check_length) (defScope s_check_length) .none kV_check_length dc_check_length pm_check_length an_check_length cd_check_length ct_check_length), sl_check_length⟩)
    (c_check_length : PySem.W.codeIn K cd_check_length "check_length" = true)
    (k_check_length : PySem.W.keepIn K (.ref f_check_length) = true)
    (a_is_row : PySem.W.nsIn K mainGlobals "is_row" = some (some (.ref f_is_row)))
    (l_is_row : K.lookup f_is_row = some ⟨oc_is_row, od_is_row, .func (PySem.W.fnOf "is_row" "is_row" (defArgs s_is_row) (defBody s_is_row) (defScope s_is_row) .none kV_is_row dc_is_row pm_is_row an_is_row cd_is_row ct_is_row), sl_is_row⟩)
    (c_is_row : PySem.W.codeIn K cd_is_row "is_row" = true)
    (k_is_row : PySem.W.keepIn K (.ref f_is_row) = true)
    (a_shortened : PySem.W.nsIn K mainGlobals "shortened" = some (some (.ref f_shortened)))
    (l_shortened : K.lookup f_shortened = some ⟨oc_shortened, od_shortened, .func (PySem.W.fnOf "shortened" "shortened" (defArgs s_shortened) (defBody s_shortened) (defScope s_shortened) .none kV_shortened dc_shortened pm_shortened an_shortened cd_shortened ct_shortened), sl_shortened⟩)
    (c_shortened : PySem.W.codeIn K cd_shortened "shortened" = true)
    (k_shortened : PySem.W.keepIn K (.ref f_shortened) = true)
    (a_planned : PySem.W.nsIn K mainGlobals "planned" = some (some (.ref f_planned)))
    (l_planned : K.lookup f_planned = some ⟨oc_planned, od_planned, .func (PySem.W.fnOf "planned" "planned" (defArgs s_planned) (defBody s_planned) (defScope s_planned) .none kV_planned dc_planned pm_planned an_planned cd_planned ct_planned), sl_planned⟩)
    (c_planned : PySem.W.codeIn K cd_planned "planned" = true)
    (k_planned : PySem.W.keepIn K (.ref f_planned) = true)
    (a_telling_lengths : PySem.W.nsIn K mainGlobals "telling_lengths" = some (some (.ref f_telling_lengths)))
    (l_telling_lengths : K.lookup f_telling_lengths = some ⟨oc_telling_lengths, od_telling_lengths, .func (PySem.W.fnOf "telling_lengths" "telling_lengths" (defArgs s_telling_lengths) (defBody s_telling_lengths) (defScope s_telling_lengths) .none kV_telling_lengths dc_telling_lengths pm_telling_lengths an_telling_lengths cd_telling_lengths ct_telling_lengths), sl_telling_lengths⟩)
    (c_telling_lengths : PySem.W.codeIn K cd_telling_lengths "telling_lengths" = true)
    (k_telling_lengths : PySem.W.keepIn K (.ref f_telling_lengths) = true)
    (a_is_view : PySem.W.nsIn K mainGlobals "is_view" = some (some (.ref f_is_view)))
    (l_is_view : K.lookup f_is_view = some ⟨oc_is_view, od_is_view, .func (PySem.W.fnOf "is_view" "is_view" (defArgs s_is_view) (defBody s_is_view) (defScope s_is_view) .none kV_is_view dc_is_view pm_is_view an_is_view cd_is_view ct_is_view), sl_is_view⟩)
    (c_is_view : PySem.W.codeIn K cd_is_view "is_view" = true)
    (k_is_view : PySem.W.keepIn K (.ref f_is_view) = true)
    (a_check_views : PySem.W.nsIn K mainGlobals "check_views" = some (some (.ref f_check_views)))
    (l_check_views : K.lookup f_check_views = some ⟨oc_check_views, od_check_views, .func (PySem.W.fnOf "check_views" "check_views" (defArgs s_check_views) (defBody s_check_views) (defScope s_check_views) .none kV_check_views dc_check_views pm_check_views an_check_views cd_check_views ct_check_views), sl_check_views⟩)
    (c_check_views : PySem.W.codeIn K cd_check_views "check_views" = true)
    (k_check_views : PySem.W.keepIn K (.ref f_check_views) = true)
    (a_known_signs : PySem.W.nsIn K mainGlobals "known_signs" = some (some (.ref f_known_signs)))
    (l_known_signs : K.lookup f_known_signs = some ⟨oc_known_signs, od_known_signs, .func (PySem.W.fnOf "known_signs" "known_signs" (defArgs s_known_signs) (defBody s_known_signs) (defScope s_known_signs) .none kV_known_signs dc_known_signs pm_known_signs an_known_signs cd_known_signs ct_known_signs), sl_known_signs⟩)
    (c_known_signs : PySem.W.codeIn K cd_known_signs "known_signs" = true)
    (k_known_signs : PySem.W.keepIn K (.ref f_known_signs) = true)
    (a_written_out : PySem.W.nsIn K mainGlobals "written_out" = some (some (.ref f_written_out)))
    (l_written_out : K.lookup f_written_out = some ⟨oc_written_out, od_written_out, .func (PySem.W.fnOf "written_out" "written_out" (defArgs s_written_out) (defBody s_written_out) (defScope s_written_out) .none kV_written_out dc_written_out pm_written_out an_written_out cd_written_out ct_written_out), sl_written_out⟩)
    (c_written_out : PySem.W.codeIn K cd_written_out "written_out" = true)
    (k_written_out : PySem.W.keepIn K (.ref f_written_out) = true)
    (a_lengths : PySem.W.nsIn K mainGlobals "lengths" = some (some (.ref f_lengths)))
    (l_lengths : K.lookup f_lengths = some ⟨oc_lengths, od_lengths, .func (PySem.W.fnOf "lengths" "lengths" (defArgs s_lengths) (defBody s_lengths) (defScope s_lengths) .none kV_lengths dc_lengths pm_lengths an_lengths cd_lengths ct_lengths), sl_lengths⟩)
    (c_lengths : PySem.W.codeIn K cd_lengths "lengths" = true)
    (k_lengths : PySem.W.keepIn K (.ref f_lengths) = true)
    (a_signs : PySem.W.nsIn K mainGlobals "signs" = some (some (.ref f_signs)))
    (l_signs : K.lookup f_signs = some ⟨oc_signs, od_signs, .func (PySem.W.fnOf "signs" "signs" (defArgs s_signs) (defBody s_signs) (defScope s_signs) .none kV_signs dc_signs pm_signs an_signs cd_signs ct_signs), sl_signs⟩)
    (c_signs : PySem.W.codeIn K cd_signs "signs" = true)
    (k_signs : PySem.W.keepIn K (.ref f_signs) = true)
    (a_number_of : PySem.W.nsIn K mainGlobals "number_of" = some (some (.ref f_number_of)))
    (l_number_of : K.lookup f_number_of = some ⟨oc_number_of, od_number_of, .func (PySem.W.fnOf "number_of" "number_of" (defArgs s_number_of) (defBody s_number_of) (defScope s_number_of) .none kV_number_of dc_number_of pm_number_of an_number_of cd_number_of ct_number_of), sl_number_of⟩)
    (c_number_of : PySem.W.codeIn K cd_number_of "number_of" = true)
    (k_number_of : PySem.W.keepIn K (.ref f_number_of) = true)
    (a_only_text : PySem.W.nsIn K mainGlobals "only_text" = some (some (.ref f_only_text)))
    (l_only_text : K.lookup f_only_text = some ⟨oc_only_text, od_only_text, .func (PySem.W.fnOf "only_text" "only_text" (defArgs s_only_text) (defBody s_only_text) (defScope s_only_text) .none kV_only_text dc_only_text pm_only_text an_only_text cd_only_text ct_only_text), sl_only_text⟩)
    (c_only_text : PySem.W.codeIn K cd_only_text "only_text" = true)
    (k_only_text : PySem.W.keepIn K (.ref f_only_text) = true)
    (a_least_text : PySem.W.nsIn K mainGlobals "least_text" = some (some (.ref f_least_text)))
    (l_least_text : K.lookup f_least_text = some ⟨oc_least_text, od_least_text, .func (PySem.W.fnOf "least_text" "least_text" (defArgs s_least_text) (defBody s_least_text) (defScope s_least_text) .none kV_least_text dc_least_text pm_least_text an_least_text cd_least_text ct_least_text), sl_least_text⟩)
    (c_least_text : PySem.W.codeIn K cd_least_text "least_text" = true)
    (k_least_text : PySem.W.keepIn K (.ref f_least_text) = true)
    (a_law_pot : PySem.W.nsIn K mainGlobals "_law_pot" = some (some (.ref f_law_pot)))
    (l_law_pot : K.lookup f_law_pot = some ⟨oc_law_pot, od_law_pot, .func (PySem.W.fnOf "_law_pot" "_law_pot" (defArgs s_law_pot) (defBody s_law_pot) (defScope s_law_pot) .none kV_law_pot dc_law_pot pm_law_pot an_law_pot cd_law_pot ct_law_pot), sl_law_pot⟩)
    (c_law_pot : PySem.W.codeIn K cd_law_pot "_law_pot" = true)
    (k_law_pot : PySem.W.keepIn K (.ref f_law_pot) = true)
    (a_law_ladle : PySem.W.nsIn K mainGlobals "_law_ladle" = some (some (.ref f_law_ladle)))
    (l_law_ladle : K.lookup f_law_ladle = some ⟨oc_law_ladle, od_law_ladle, .func (PySem.W.fnOf "_law_ladle" "_law_ladle" (defArgs s_law_ladle) (defBody s_law_ladle) (defScope s_law_ladle) .none kV_law_ladle dc_law_ladle pm_law_ladle an_law_ladle cd_law_ladle ct_law_ladle), sl_law_ladle⟩)
    (c_law_ladle : PySem.W.codeIn K cd_law_ladle "_law_ladle" = true)
    (k_law_ladle : PySem.W.keepIn K (.ref f_law_ladle) = true)
    (a_law_one_of : PySem.W.nsIn K mainGlobals "_law_one_of" = some (some (.ref f_law_one_of)))
    (l_law_one_of : K.lookup f_law_one_of = some ⟨oc_law_one_of, od_law_one_of, .func (PySem.W.fnOf "_law_one_of" "_law_one_of" (defArgs s_law_one_of) (defBody s_law_one_of) (defScope s_law_one_of) .none kV_law_one_of dc_law_one_of pm_law_one_of an_law_one_of cd_law_one_of ct_law_one_of), sl_law_one_of⟩)
    (c_law_one_of : PySem.W.codeIn K cd_law_one_of "_law_one_of" = true)
    (k_law_one_of : PySem.W.keepIn K (.ref f_law_one_of) = true)
    (a_law_told : PySem.W.nsIn K mainGlobals "_law_told" = some (some (.ref f_law_told)))
    (l_law_told : K.lookup f_law_told = some ⟨oc_law_told, od_law_told, .func (PySem.W.fnOf "_law_told" "_law_told" (defArgs s_law_told) (defBody s_law_told) (defScope s_law_told) .none kV_law_told dc_law_told pm_law_told an_law_told cd_law_told ct_law_told), sl_law_told⟩)
    (c_law_told : PySem.W.codeIn K cd_law_told "_law_told" = true)
    (k_law_told : PySem.W.keepIn K (.ref f_law_told) = true)
    (a_law_tolds : PySem.W.nsIn K mainGlobals "_law_tolds" = some (some (.ref f_law_tolds)))
    (l_law_tolds : K.lookup f_law_tolds = some ⟨oc_law_tolds, od_law_tolds, .func (PySem.W.fnOf "_law_tolds" "_law_tolds" (defArgs s_law_tolds) (defBody s_law_tolds) (defScope s_law_tolds) .none kV_law_tolds dc_law_tolds pm_law_tolds an_law_tolds cd_law_tolds ct_law_tolds), sl_law_tolds⟩)
    (c_law_tolds : PySem.W.codeIn K cd_law_tolds "_law_tolds" = true)
    (k_law_tolds : PySem.W.keepIn K (.ref f_law_tolds) = true)
    (a_law_made : PySem.W.nsIn K mainGlobals "_law_made" = some (some (.ref f_law_made)))
    (l_law_made : K.lookup f_law_made = some ⟨oc_law_made, od_law_made, .func (PySem.W.fnOf "_law_made" "_law_made" (defArgs s_law_made) (defBody s_law_made) (defScope s_law_made) .none kV_law_made dc_law_made pm_law_made an_law_made cd_law_made ct_law_made), sl_law_made⟩)
    (c_law_made : PySem.W.codeIn K cd_law_made "_law_made" = true)
    (k_law_made : PySem.W.keepIn K (.ref f_law_made) = true)
    (a_law_cut : PySem.W.nsIn K mainGlobals "_law_cut" = some (some (.ref f_law_cut)))
    (l_law_cut : K.lookup f_law_cut = some ⟨oc_law_cut, od_law_cut, .func (PySem.W.fnOf "_law_cut" "_law_cut" (defArgs s_law_cut) (defBody s_law_cut) (defScope s_law_cut) .none kV_law_cut dc_law_cut pm_law_cut an_law_cut cd_law_cut ct_law_cut), sl_law_cut⟩)
    (c_law_cut : PySem.W.codeIn K cd_law_cut "_law_cut" = true)
    (k_law_cut : PySem.W.keepIn K (.ref f_law_cut) = true)
    (a_law_seen : PySem.W.nsIn K mainGlobals "_law_seen" = some (some (.ref f_law_seen)))
    (l_law_seen : K.lookup f_law_seen = some ⟨oc_law_seen, od_law_seen, .func (PySem.W.fnOf "_law_seen" "_law_seen" (defArgs s_law_seen) (defBody s_law_seen) (defScope s_law_seen) .none kV_law_seen dc_law_seen pm_law_seen an_law_seen cd_law_seen ct_law_seen), sl_law_seen⟩)
    (c_law_seen : PySem.W.codeIn K cd_law_seen "_law_seen" = true)
    (k_law_seen : PySem.W.keepIn K (.ref f_law_seen) = true)
    (a_law_line : PySem.W.nsIn K mainGlobals "_law_line" = some (some (.ref f_law_line)))
    (l_law_line : K.lookup f_law_line = some ⟨oc_law_line, od_law_line, .func (PySem.W.fnOf "_law_line" "_law_line" (defArgs s_law_line) (defBody s_law_line) (defScope s_law_line) .none kV_law_line dc_law_line pm_law_line an_law_line cd_law_line ct_law_line), sl_law_line⟩)
    (c_law_line : PySem.W.codeIn K cd_law_line "_law_line" = true)
    (k_law_line : PySem.W.keepIn K (.ref f_law_line) = true)
    (a_law_known : PySem.W.nsIn K mainGlobals "_law_known" = some (some (.ref f_law_known)))
    (l_law_known : K.lookup f_law_known = some ⟨oc_law_known, od_law_known, .func (PySem.W.fnOf "_law_known" "_law_known" (defArgs s_law_known) (defBody s_law_known) (defScope s_law_known) .none kV_law_known dc_law_known pm_law_known an_law_known cd_law_known ct_law_known), sl_law_known⟩)
    (c_law_known : PySem.W.codeIn K cd_law_known "_law_known" = true)
    (k_law_known : PySem.W.keepIn K (.ref f_law_known) = true)
    (a_law_some_views : PySem.W.nsIn K mainGlobals "_law_some_views" = some (some (.ref f_law_some_views)))
    (l_law_some_views : K.lookup f_law_some_views = some ⟨oc_law_some_views, od_law_some_views, .func (PySem.W.fnOf "_law_some_views" "_law_some_views" (defArgs s_law_some_views) (defBody s_law_some_views) (defScope s_law_some_views) .none kV_law_some_views dc_law_some_views pm_law_some_views an_law_some_views cd_law_some_views ct_law_some_views), sl_law_some_views⟩)
    (c_law_some_views : PySem.W.codeIn K cd_law_some_views "_law_some_views" = true)
    (k_law_some_views : PySem.W.keepIn K (.ref f_law_some_views) = true)
    (a_law_due_lengths : PySem.W.nsIn K mainGlobals "_law_due_lengths" = some (some (.ref f_law_due_lengths)))
    (l_law_due_lengths : K.lookup f_law_due_lengths = some ⟨oc_law_due_lengths, od_law_due_lengths, .func (PySem.W.fnOf "_law_due_lengths" "_law_due_lengths" (defArgs s_law_due_lengths) (defBody s_law_due_lengths) (defScope s_law_due_lengths) .none kV_law_due_lengths dc_law_due_lengths pm_law_due_lengths an_law_due_lengths cd_law_due_lengths ct_law_due_lengths), sl_law_due_lengths⟩)
    (c_law_due_lengths : PySem.W.codeIn K cd_law_due_lengths "_law_due_lengths" = true)
    (k_law_due_lengths : PySem.W.keepIn K (.ref f_law_due_lengths) = true)
    (a_law_due_texts : PySem.W.nsIn K mainGlobals "_law_due_texts" = some (some (.ref f_law_due_texts)))
    (l_law_due_texts : K.lookup f_law_due_texts = some ⟨oc_law_due_texts, od_law_due_texts, .func (PySem.W.fnOf "_law_due_texts" "_law_due_texts" (defArgs s_law_due_texts) (defBody s_law_due_texts) (defScope s_law_due_texts) .none kV_law_due_texts dc_law_due_texts pm_law_due_texts an_law_due_texts cd_law_due_texts ct_law_due_texts), sl_law_due_texts⟩)
    (c_law_due_texts : PySem.W.codeIn K cd_law_due_texts "_law_due_texts" = true)
    (k_law_due_texts : PySem.W.keepIn K (.ref f_law_due_texts) = true)
    (a_law_right : PySem.W.nsIn K mainGlobals "_law_right" = some (some (.ref f_law_right)))
    (l_law_right : K.lookup f_law_right = some ⟨oc_law_right, od_law_right, .func (PySem.W.fnOf "_law_right" "_law_right" (defArgs s_law_right) (defBody s_law_right) (defScope s_law_right) .none kV_law_right dc_law_right pm_law_right an_law_right cd_law_right ct_law_right), sl_law_right⟩)
    (c_law_right : PySem.W.codeIn K cd_law_right "_law_right" = true)
    (k_law_right : PySem.W.keepIn K (.ref f_law_right) = true)
    (a_law : PySem.W.nsIn K mainGlobals "law" = some (some (.ref f_law)))
    (l_law : K.lookup f_law = some ⟨oc_law, od_law, .func (PySem.W.fnOf "law" "law" (defArgs s_law) (defBody s_law) (defScope s_law) .none kV_law dc_law pm_law an_law cd_law ct_law), sl_law⟩)
    (c_law : PySem.W.codeIn K cd_law "law" = true)
    (k_law : PySem.W.keepIn K (.ref f_law) = true)
    (qn : PySem.W.specialIn K (.builtin "object.__class__") "__get__" = some (some (.builtin "getset_descriptor.__get__")))
    (qt : PySem.W.takesIn K (.builtin "object.__class__") = some true)
    (asC : PySem.W.nsIn K mainGlobals "Shortener" = some (some (.ref C)))
    (a_is : PySem.W.findIn K (.ref C) "__init__" = some (some (.ref f_is)))
    (l_is : K.lookup f_is = some ⟨oc_is, od_is, .func (PySem.W.fnOf "__init__" "Shortener.__init__" (defArgs s_Shortener_init) (defBody s_Shortener_init) (defScope s_Shortener_init) .none kV_is dc_is pm_is an_is cd_is ct_is), sl_is⟩)
    (c_is : PySem.W.codeIn K cd_is "Shortener.__init__" = true)
    (k_is : PySem.W.keepIn K (.ref f_is) = true)
    (i_is : PySem.W.isFn K (.ref f_is) = true)
    (pgs : PySem.W.plainGet K C Str.empty = true)
    (hds : PySem.W.hasDictIn K C = true)
    (pos : PySem.W.plainOver K C = true)
    (sas : PySem.W.findIn K (.ref C) "__setattr__" = some (some (.builtin "object.__setattr__")))
    (mksC : PySem.W.makesIn K C = true)
    (ksC : PySem.W.keepIn K (.ref C) = true)
    (ns_limit : PySem.W.findIn K (.ref C) "limit" = some none)
    (ns_head : PySem.W.findIn K (.ref C) "head" = some none)
    (ns_tail : PySem.W.findIn K (.ref C) "tail" = some none)
    (ns_mark : PySem.W.findIn K (.ref C) "mark" = some none)
    (ns_told : PySem.W.findIn K (.ref C) "told" = some none)
    (qas : PySem.W.findIn K (.ref C) "__class__" = some (some (.builtin "object.__class__")))
    (qms : PySem.W.mroIn K C (.type "object") = some true)
    (z_ValueError : PySem.W.nsIn K mainGlobals "ValueError" = some none)
    (z_abs : PySem.W.nsIn K mainGlobals "abs" = some none)
    (z_all : PySem.W.nsIn K mainGlobals "all" = some none)
    (z_bool : PySem.W.nsIn K mainGlobals "bool" = some none)
    (z_divmod : PySem.W.nsIn K mainGlobals "divmod" = some none)
    (z_enumerate : PySem.W.nsIn K mainGlobals "enumerate" = some none)
    (z_int : PySem.W.nsIn K mainGlobals "int" = some none)
    (z_isinstance : PySem.W.nsIn K mainGlobals "isinstance" = some none)
    (z_len : PySem.W.nsIn K mainGlobals "len" = some none)
    (z_list : PySem.W.nsIn K mainGlobals "list" = some none)
    (z_max : PySem.W.nsIn K mainGlobals "max" = some none)
    (z_min : PySem.W.nsIn K mainGlobals "min" = some none)
    (z_range : PySem.W.nsIn K mainGlobals "range" = some none)
    (z_repr : PySem.W.nsIn K mainGlobals "repr" = some none)
    (z_str : PySem.W.nsIn K mainGlobals "str" = some none)
    (z_tuple : PySem.W.nsIn K mainGlobals "tuple" = some none)
    (z_zip : PySem.W.nsIn K mainGlobals "zip" = some none)
    (z_MOST_SIGNS : PySem.W.nsIn K mainGlobals "MOST_SIGNS" = some (some (.int 40 u_MOST_SIGNS)))
    (z_MOST_MARK : PySem.W.nsIn K mainGlobals "MOST_MARK" = some (some (.int 3 u_MOST_MARK)))
    (z_MOST_ROW : PySem.W.nsIn K mainGlobals "MOST_ROW" = some (some (.int 4 u_MOST_ROW)))
    (z_MOST_VIEWS : PySem.W.nsIn K mainGlobals "MOST_VIEWS" = some (some (.int 4 u_MOST_VIEWS)))
    (z_MOST_TEXT : PySem.W.nsIn K mainGlobals "MOST_TEXT" = some (some (.int 200 u_MOST_TEXT)))
    (z_MOST_LENGTH : PySem.W.nsIn K mainGlobals "MOST_LENGTH" = some (some (.int 500 u_MOST_LENGTH)))
    (z_SIGNS : PySem.W.nsIn K mainGlobals "SIGNS" = some (some (.str ".0123456789abcdefghijklmnopqrstuvwxyz~" u_SIGNS)))
    (z_SEVERAL : PySem.W.nsIn K mainGlobals "SEVERAL" = some (some (.str "?" u_SEVERAL))) :
    ∃ fd : FuncData, (∀ (s : Shared) (v : Value), BindsTo s fd ⟨[v], []⟩ [("_law_script", v)]) ∧ ∀ base : Heap, K.In base → base.Ns mainGlobals mg → base.NoDigits → FnG l.prog w K mg base 8 fa fd ["_law_script"] (spLaw K) := by
  have e := hfa.symm.trans (PySem.W.mg_of X G a_law)
  cases e
  have B : Bi mg := ⟨PySem.W.mg_none_of X G z_ValueError, PySem.W.mg_none_of X G z_abs, PySem.W.mg_none_of X G z_all, PySem.W.mg_none_of X G z_bool, PySem.W.mg_none_of X G z_divmod, PySem.W.mg_none_of X G z_enumerate, PySem.W.mg_none_of X G z_int, PySem.W.mg_none_of X G z_isinstance, PySem.W.mg_none_of X G z_len, PySem.W.mg_none_of X G z_list, PySem.W.mg_none_of X G z_max, PySem.W.mg_none_of X G z_min, PySem.W.mg_none_of X G z_range, PySem.W.mg_none_of X G z_repr, PySem.W.mg_none_of X G z_str, PySem.W.mg_none_of X G z_tuple, PySem.W.mg_none_of X G z_zip, cst_mk X G ⟨_, rfl⟩ z_MOST_SIGNS, cst_mk X G ⟨_, rfl⟩ z_MOST_MARK, cst_mk X G ⟨_, rfl⟩ z_MOST_ROW, cst_mk X G ⟨_, rfl⟩ z_MOST_VIEWS, cst_mk X G ⟨_, rfl⟩ z_MOST_TEXT, cst_mk X G ⟨_, rfl⟩ z_MOST_LENGTH, cst_mk X G ⟨_, rfl⟩ z_SIGNS, cst_mk X G ⟨_, rfl⟩ z_SEVERAL⟩
  have Ss : ShC K mg C := ⟨⟨pgs, hds, pos, sas⟩, ns_limit, ns_head, ns_tail, ns_mark, ns_told, PySem.W.mg_of X G asC, qas, qn, qt, qms, if_pos (beq_self_eq_true _)⟩
  have Is : InitAt K C := ⟨f_is, _, ⟨mksC, a_is, i_is, ksC⟩, fun_mk l_is c_is k_is, (fun_mk l_is c_is k_is).binds fun _ _ _ _ _ _ us hl => match us, hl with | [_, _, _, _, _], _ => rfl⟩
  have A_is_integer : At K mg "is_integer" s_is_integer ps_is_integer := at_mk X G (fun _ _ _ _ _ _ us hl => match us, hl with | [_, _, _], _ => rfl) a_is_integer l_is_integer c_is_integer k_is_integer
  have A_is_tuple : At K mg "is_tuple" s_is_tuple ps_is_tuple := at_mk X G (fun _ _ _ _ _ _ us hl => match us, hl with | [_, _, _], _ => rfl) a_is_tuple l_is_tuple c_is_tuple k_is_tuple
  have A_is_text : At K mg "is_text" s_is_text ps_is_text := at_mk X G (fun _ _ _ _ _ _ us hl => match us, hl with | [_, _], _ => rfl) a_is_text l_is_text c_is_text k_is_text
  have A_check_mark : At K mg "check_mark" s_check_mark ps_check_mark := at_mk X G (fun _ _ _ _ _ _ us hl => match us, hl with | [_], _ => rfl) a_check_mark l_check_mark c_check_mark k_check_mark
  have A_check_length : At K mg "check_length" s_check_length ps_check_length := at_mk X G (fun _ _ _ _ _ _ us hl => match us, hl with | [_], _ => rfl) a_check_length l_check_length c_check_length k_check_length
  have A_is_row : At K mg "is_row" s_is_row ps_is_row := at_mk X G (fun _ _ _ _ _ _ us hl => match us, hl with | [_], _ => rfl) a_is_row l_is_row c_is_row k_is_row
  have A_shortened : At K mg "shortened" s_shortened ps_shortened := at_mk X G (fun _ _ _ _ _ _ us hl => match us, hl with | [_, _, _], _ => rfl) a_shortened l_shortened c_shortened k_shortened
  have A_planned : At K mg "planned" s_planned ps_planned := at_mk X G (fun _ _ _ _ _ _ us hl => match us, hl with | [_, _], _ => rfl) a_planned l_planned c_planned k_planned
  have A_telling_lengths : At K mg "telling_lengths" s_telling_lengths ps_telling_lengths := at_mk X G (fun _ _ _ _ _ _ us hl => match us, hl with | [], _ => rfl) a_telling_lengths l_telling_lengths c_telling_lengths k_telling_lengths
  have A_is_view : At K mg "is_view" s_is_view ps_is_view := at_mk X G (fun _ _ _ _ _ _ us hl => match us, hl with | [_], _ => rfl) a_is_view l_is_view c_is_view k_is_view
  have A_check_views : At K mg "check_views" s_check_views ps_check_views := at_mk X G (fun _ _ _ _ _ _ us hl => match us, hl with | [_], _ => rfl) a_check_views l_check_views c_check_views k_check_views
  have A_known_signs : At K mg "known_signs" s_known_signs ps_known_signs := at_mk X G (fun _ _ _ _ _ _ us hl => match us, hl with | [_, _], _ => rfl) a_known_signs l_known_signs c_known_signs k_known_signs
  have A_written_out : At K mg "written_out" s_written_out ps_written_out := at_mk X G (fun _ _ _ _ _ _ us hl => match us, hl with | [_, _, _], _ => rfl) a_written_out l_written_out c_written_out k_written_out
  have A_lengths : At K mg "lengths" s_lengths ps_lengths := at_mk X G (fun _ _ _ _ _ _ us hl => match us, hl with | [_], _ => rfl) a_lengths l_lengths c_lengths k_lengths
  have A_signs : At K mg "signs" s_signs ps_signs := at_mk X G (fun _ _ _ _ _ _ us hl => match us, hl with | [_, _], _ => rfl) a_signs l_signs c_signs k_signs
  have A_number_of : At K mg "number_of" s_number_of ps_number_of := at_mk X G (fun _ _ _ _ _ _ us hl => match us, hl with | [_, _], _ => rfl) a_number_of l_number_of c_number_of k_number_of
  have A_only_text : At K mg "only_text" s_only_text ps_only_text := at_mk X G (fun _ _ _ _ _ _ us hl => match us, hl with | [_], _ => rfl) a_only_text l_only_text c_only_text k_only_text
  have A_least_text : At K mg "least_text" s_least_text ps_least_text := at_mk X G (fun _ _ _ _ _ _ us hl => match us, hl with | [_], _ => rfl) a_least_text l_least_text c_least_text k_least_text
  have A_law_pot : At K mg "_law_pot" s_law_pot ps_law_pot := at_mk X G (fun _ _ _ _ _ _ us hl => match us, hl with | [_, _], _ => rfl) a_law_pot l_law_pot c_law_pot k_law_pot
  have A_law_ladle : At K mg "_law_ladle" s_law_ladle ps_law_ladle := at_mk X G (fun _ _ _ _ _ _ us hl => match us, hl with | [_, _], _ => rfl) a_law_ladle l_law_ladle c_law_ladle k_law_ladle
  have A_law_one_of : At K mg "_law_one_of" s_law_one_of ps_law_one_of := at_mk X G (fun _ _ _ _ _ _ us hl => match us, hl with | [_, _], _ => rfl) a_law_one_of l_law_one_of c_law_one_of k_law_one_of
  have A_law_told : At K mg "_law_told" s_law_told ps_law_told := at_mk X G (fun _ _ _ _ _ _ us hl => match us, hl with | [_], _ => rfl) a_law_told l_law_told c_law_told k_law_told
  have A_law_tolds : At K mg "_law_tolds" s_law_tolds ps_law_tolds := at_mk X G (fun _ _ _ _ _ _ us hl => match us, hl with | [_], _ => rfl) a_law_tolds l_law_tolds c_law_tolds k_law_tolds
  have A_law_made : At K mg "_law_made" s_law_made ps_law_made := at_mk X G (fun _ _ _ _ _ _ us hl => match us, hl with | [_], _ => rfl) a_law_made l_law_made c_law_made k_law_made
  have A_law_cut : At K mg "_law_cut" s_law_cut ps_law_cut := at_mk X G (fun _ _ _ _ _ _ us hl => match us, hl with | [_, _], _ => rfl) a_law_cut l_law_cut c_law_cut k_law_cut
  have A_law_seen : At K mg "_law_seen" s_law_seen ps_law_seen := at_mk X G (fun _ _ _ _ _ _ us hl => match us, hl with | [_, _], _ => rfl) a_law_seen l_law_seen c_law_seen k_law_seen
  have A_law_line : At K mg "_law_line" s_law_line ps_law_line := at_mk X G (fun _ _ _ _ _ _ us hl => match us, hl with | [_, _], _ => rfl) a_law_line l_law_line c_law_line k_law_line
  have A_law_known : At K mg "_law_known" s_law_known ps_law_known := at_mk X G (fun _ _ _ _ _ _ us hl => match us, hl with | [_, _], _ => rfl) a_law_known l_law_known c_law_known k_law_known
  have A_law_some_views : At K mg "_law_some_views" s_law_some_views ps_law_some_views := at_mk X G (fun _ _ _ _ _ _ us hl => match us, hl with | [_], _ => rfl) a_law_some_views l_law_some_views c_law_some_views k_law_some_views
  have A_law_due_lengths : At K mg "_law_due_lengths" s_law_due_lengths ps_law_due_lengths := at_mk X G (fun _ _ _ _ _ _ us hl => match us, hl with | [_], _ => rfl) a_law_due_lengths l_law_due_lengths c_law_due_lengths k_law_due_lengths
  have A_law_due_texts : At K mg "_law_due_texts" s_law_due_texts ps_law_due_texts := at_mk X G (fun _ _ _ _ _ _ us hl => match us, hl with | [_, _], _ => rfl) a_law_due_texts l_law_due_texts c_law_due_texts k_law_due_texts
  have A_law_right : At K mg "_law_right" s_law_right ps_law_right := at_mk X G (fun _ _ _ _ _ _ us hl => match us, hl with | [_], _ => rfl) a_law_right l_law_right c_law_right k_law_right
  exact ⟨_, fun s v => .of_eq rfl, fun base _ _ nd => fin B nd Ss Is A_is_integer A_is_tuple A_is_text A_check_mark A_check_length A_is_row A_shortened A_planned A_telling_lengths A_is_view A_check_views A_known_signs A_written_out A_lengths A_signs A_number_of A_only_text A_least_text A_law_pot A_law_ladle A_law_one_of A_law_told A_law_tolds A_law_made A_law_cut A_law_seen A_law_line A_law_known A_law_some_views A_law_due_lengths A_law_due_texts A_law_right (fun_mk l_law c_law k_law)⟩
end Gu
open PySem PySem.W PyProof.Rows
set_option maxHeartbeats 0 in
theorem PySem.Challenge.cw_shownshort_k12_whole_views_holds : PySem.Challenge.rw_shownshort_k12_whole_views.Holds := by
  w_on; o_law; k_head; (case hw => w_witness2)
  k_fill
  refine Gu.walkD (l := PySem.Challenge.rw_shownshort_k12_whole_views) (n := 63) (k := 8) (x := "_law_script") (sp := Gu.spLaw) rfl (by decide) rfl ⟨rfl, by decide, by decide⟩ (fun w h Y => PySem.W.kIn_of Y) ?F (fun _ _ a ns hl hS => ⟨a, ns, rfl, hS, hl, fun _ => rfl⟩)
  case F =>
    intro w mg fa h KX G hmg
    refine' Gu.all_mk KX G hmg ?a_is_integer ?l_is_integer ?c_is_integer ?k_is_integer ?a_is_tuple ?l_is_tuple ?c_is_tuple ?k_is_tuple ?a_is_text ?l_is_text ?c_is_text ?k_is_text ?a_check_mark ?l_check_mark ?c_check_mark ?k_check_mark ?a_check_length ?l_check_length ?c_check_length ?k_check_length ?a_is_row ?l_is_row ?c_is_row ?k_is_row ?a_shortened ?l_shortened ?c_shortened ?k_shortened ?a_planned ?l_planned ?c_planned ?k_planned ?a_telling_lengths ?l_telling_lengths ?c_telling_lengths ?k_telling_lengths ?a_is_view ?l_is_view ?c_is_view ?k_is_view ?a_check_views ?l_check_views ?c_check_views ?k_check_views ?a_known_signs ?l_known_signs ?c_known_signs ?k_known_signs ?a_written_out ?l_written_out ?c_written_out ?k_written_out ?a_lengths ?l_lengths ?c_lengths ?k_lengths ?a_signs ?l_signs ?c_signs ?k_signs ?a_number_of ?l_number_of ?c_number_of ?k_number_of ?a_only_text ?l_only_text ?c_only_text ?k_only_text ?a_least_text ?l_least_text ?c_least_text ?k_least_text ?a_law_pot ?l_law_pot ?c_law_pot ?k_law_pot ?a_law_ladle ?l_law_ladle ?c_law_ladle ?k_law_ladle ?a_law_one_of ?l_law_one_of ?c_law_one_of ?k_law_one_of ?a_law_told ?l_law_told ?c_law_told ?k_law_told ?a_law_tolds ?l_law_tolds ?c_law_tolds ?k_law_tolds ?a_law_made ?l_law_made ?c_law_made ?k_law_made ?a_law_cut ?l_law_cut ?c_law_cut ?k_law_cut ?a_law_seen ?l_law_seen ?c_law_seen ?k_law_seen ?a_law_line ?l_law_line ?c_law_line ?k_law_line ?a_law_known ?l_law_known ?c_law_known ?k_law_known ?a_law_some_views ?l_law_some_views ?c_law_some_views ?k_law_some_views ?a_law_due_lengths ?l_law_due_lengths ?c_law_due_lengths ?k_law_due_lengths ?a_law_due_texts ?l_law_due_texts ?c_law_due_texts ?k_law_due_texts ?a_law_right ?l_law_right ?c_law_right ?k_law_right ?a_law ?l_law ?c_law ?k_law ?qn ?qt ?asC ?a_is ?l_is ?c_is ?k_is ?i_is ?pgs ?hds ?pos ?sas ?mksC ?ksC ?ns_limit ?ns_head ?ns_tail ?ns_mark ?ns_told ?qas ?qms ?z_ValueError ?z_abs ?z_all ?z_bool ?z_divmod ?z_enumerate ?z_int ?z_isinstance ?z_len ?z_list ?z_max ?z_min ?z_range ?z_repr ?z_str ?z_tuple ?z_zip ?z_MOST_SIGNS ?z_MOST_MARK ?z_MOST_ROW ?z_MOST_VIEWS ?z_MOST_TEXT ?z_MOST_LENGTH ?z_SIGNS ?z_SEVERAL
    (case a_is_integer => k_is)
    (case l_is_integer => k_is)
    (case c_is_integer => k_is)
    (case k_is_integer => k_is)
    (case a_is_tuple => k_is)
    (case l_is_tuple => k_is)
    (case c_is_tuple => k_is)
    (case k_is_tuple => k_is)
    (case a_is_text => k_is)
    (case l_is_text => k_is)
    (case c_is_text => k_is)
    (case k_is_text => k_is)
    (case a_check_mark => k_is)
    (case l_check_mark => k_is)
    (case c_check_mark => k_is)
    (case k_check_mark => k_is)
    (case a_check_length => k_is)
    (case l_check_length => k_is)
    (case c_check_length => k_is)
    (case k_check_length => k_is)
    (case a_is_row => k_is)
    (case l_is_row => k_is)
    (case c_is_row => k_is)
    (case k_is_row => k_is)
    (case a_shortened => k_is)
    (case l_shortened => k_is)
    (case c_shortened => k_is)
    (case k_shortened => k_is)
    (case a_planned => k_is)
    (case l_planned => k_is)
    (case c_planned => k_is)
    (case k_planned => k_is)
    (case a_telling_lengths => k_is)
    (case l_telling_lengths => k_is)
    (case c_telling_lengths => k_is)
    (case k_telling_lengths => k_is)
    (case a_is_view => k_is)
    (case l_is_view => k_is)
    (case c_is_view => k_is)
    (case k_is_view => k_is)
    (case a_check_views => k_is)
    (case l_check_views => k_is)
    (case c_check_views => k_is)
    (case k_check_views => k_is)
    (case a_known_signs => k_is)
    (case l_known_signs => k_is)
    (case c_known_signs => k_is)
    (case k_known_signs => k_is)
    (case a_written_out => k_is)
    (case l_written_out => k_is)
    (case c_written_out => k_is)
    (case k_written_out => k_is)
    (case a_lengths => k_is)
    (case l_lengths => k_is)
    (case c_lengths => k_is)
    (case k_lengths => k_is)
    (case a_signs => k_is)
    (case l_signs => k_is)
    (case c_signs => k_is)
    (case k_signs => k_is)
    (case a_number_of => k_is)
    (case l_number_of => k_is)
    (case c_number_of => k_is)
    (case k_number_of => k_is)
    (case a_only_text => k_is)
    (case l_only_text => k_is)
    (case c_only_text => k_is)
    (case k_only_text => k_is)
    (case a_least_text => k_is)
    (case l_least_text => k_is)
    (case c_least_text => k_is)
    (case k_least_text => k_is)
    (case a_law_pot => k_is)
    (case l_law_pot => k_is)
    (case c_law_pot => k_is)
    (case k_law_pot => k_is)
    (case a_law_ladle => k_is)
    (case l_law_ladle => k_is)
    (case c_law_ladle => k_is)
    (case k_law_ladle => k_is)
    (case a_law_one_of => k_is)
    (case l_law_one_of => k_is)
    (case c_law_one_of => k_is)
    (case k_law_one_of => k_is)
    (case a_law_told => k_is)
    (case l_law_told => k_is)
    (case c_law_told => k_is)
    (case k_law_told => k_is)
    (case a_law_tolds => k_is)
    (case l_law_tolds => k_is)
    (case c_law_tolds => k_is)
    (case k_law_tolds => k_is)
    (case a_law_made => k_is)
    (case l_law_made => k_is)
    (case c_law_made => k_is)
    (case k_law_made => k_is)
    (case a_law_cut => k_is)
    (case l_law_cut => k_is)
    (case c_law_cut => k_is)
    (case k_law_cut => k_is)
    (case a_law_seen => k_is)
    (case l_law_seen => k_is)
    (case c_law_seen => k_is)
    (case k_law_seen => k_is)
    (case a_law_line => k_is)
    (case l_law_line => k_is)
    (case c_law_line => k_is)
    (case k_law_line => k_is)
    (case a_law_known => k_is)
    (case l_law_known => k_is)
    (case c_law_known => k_is)
    (case k_law_known => k_is)
    (case a_law_some_views => k_is)
    (case l_law_some_views => k_is)
    (case c_law_some_views => k_is)
    (case k_law_some_views => k_is)
    (case a_law_due_lengths => k_is)
    (case l_law_due_lengths => k_is)
    (case c_law_due_lengths => k_is)
    (case k_law_due_lengths => k_is)
    (case a_law_due_texts => k_is)
    (case l_law_due_texts => k_is)
    (case c_law_due_texts => k_is)
    (case k_law_due_texts => k_is)
    (case a_law_right => k_is)
    (case l_law_right => k_is)
    (case c_law_right => k_is)
    (case k_law_right => k_is)
    (case a_law => k_is)
    (case l_law => k_is)
    (case c_law => k_is)
    (case k_law => k_is)
    (case qn => k_is)
    (case qt => k_is)
    (case asC => k_is)
    (case a_is => k_is)
    (case l_is => k_is)
    (case c_is => k_is)
    (case k_is => k_is)
    (case i_is => k_is)
    (case pgs => k_is)
    (case hds => k_is)
    (case pos => k_is)
    (case sas => k_is)
    (case mksC => k_is)
    (case ksC => k_is)
    (case ns_limit => k_is)
    (case ns_head => k_is)
    (case ns_tail => k_is)
    (case ns_mark => k_is)
    (case ns_told => k_is)
    (case qas => k_is)
    (case qms => k_is)
    (case z_ValueError => k_is)
    (case z_abs => k_is)
    (case z_all => k_is)
    (case z_bool => k_is)
    (case z_divmod => k_is)
    (case z_enumerate => k_is)
    (case z_int => k_is)
    (case z_isinstance => k_is)
    (case z_len => k_is)
    (case z_list => k_is)
    (case z_max => k_is)
    (case z_min => k_is)
    (case z_range => k_is)
    (case z_repr => k_is)
    (case z_str => k_is)
    (case z_tuple => k_is)
    (case z_zip => k_is)
    (case z_MOST_SIGNS => k_is)
    (case z_MOST_MARK => k_is)
    (case z_MOST_ROW => k_is)
    (case z_MOST_VIEWS => k_is)
    (case z_MOST_TEXT => k_is)
    (case z_MOST_LENGTH => k_is)
    (case z_SIGNS => k_is)
    (case z_SEVERAL => k_is)
