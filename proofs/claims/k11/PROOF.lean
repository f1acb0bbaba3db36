import PyProof.Rows.All
import Wide.All
import OpenK.AllK
import Wide.FinOn
import HandS.Base
import HandS.Call
import HandS.List
import HandS.Comp
import HandS.Ends
import HandS.Dict
import HandS.Iter
import HandS.Text
import HandS.Words
import HandS.WordsList
import HandS.WordsDict
import HandS.Conv
import HandS.Walk
import HandS.IsInst
import HandS.MakeKw
import HandS.MakeKwOnly
import HandS.Flow
import HandS.TupAny
import HandS.TupMul
import HandS.FStr
import HandS.Zip
import HandS.Style
import HandS.Codes
import HandS.TupLe
import HandS.SetKeys
import HandS.Strs
import HandS.SetFor
import KE.GoesMore
import KE.GoesZip
import PyProof.TupleOfStr
import PySem.Challenge.RW_shownshort_k11_whole_rows_behind_one_ano
set_option Elab.async false
set_option linter.all false
set_option maxRecDepth 100000
namespace Gu
open PySem PySem.Spec PyProof.Rows L2
/-! the text, by places -/
def topS (i : Nat) : Stmt := PySem.Challenge.pw_shownshort_k11_whole_rows_behind_one_ano.main.body.getD i (.Pass ⟨0, 0, 0, 0⟩)
abbrev s_InvalidNumber_init : Stmt := inClass (topS 2) 0
abbrev ps_InvalidNumber_init : List Str := ["self", "value"]
theorem sc_InvalidNumber_init : FnScope ["self", "value"] ps_InvalidNumber_init (defScope s_InvalidNumber_init) := ⟨rfl, rfl, rfl, by decide +kernel, rfl, by decide +kernel, by decide +kernel⟩
abbrev s_InvalidMark_init : Stmt := inClass (topS 3) 0
abbrev ps_InvalidMark_init : List Str := ["self", "value"]
theorem sc_InvalidMark_init : FnScope ["self", "value"] ps_InvalidMark_init (defScope s_InvalidMark_init) := ⟨rfl, rfl, rfl, by decide +kernel, rfl, by decide +kernel, by decide +kernel⟩
abbrev s_InvalidText_init : Stmt := inClass (topS 4) 0
abbrev ps_InvalidText_init : List Str := ["self", "value"]
theorem sc_InvalidText_init : FnScope ["self", "value"] ps_InvalidText_init (defScope s_InvalidText_init) := ⟨rfl, rfl, rfl, by decide +kernel, rfl, by decide +kernel, by decide +kernel⟩
abbrev s_InvalidLength_init : Stmt := inClass (topS 5) 0
abbrev ps_InvalidLength_init : List Str := ["self", "value"]
theorem sc_InvalidLength_init : FnScope ["self", "value"] ps_InvalidLength_init (defScope s_InvalidLength_init) := ⟨rfl, rfl, rfl, by decide +kernel, rfl, by decide +kernel, by decide +kernel⟩
abbrev s_InvalidRow_init : Stmt := inClass (topS 6) 0
abbrev ps_InvalidRow_init : List Str := ["self", "index"]
theorem sc_InvalidRow_init : FnScope ["self", "index"] ps_InvalidRow_init (defScope s_InvalidRow_init) := ⟨rfl, rfl, rfl, by decide +kernel, rfl, by decide +kernel, by decide +kernel⟩
abbrev s_is_integer : Stmt := topS 14
abbrev ps_is_integer : List Str := ["value", "least", "most"]
theorem sc_is_integer : FnScope ["value", "least", "most"] ps_is_integer (defScope s_is_integer) := ⟨rfl, rfl, rfl, by decide +kernel, rfl, by decide +kernel, by decide +kernel⟩
abbrev s_is_tuple : Stmt := topS 15
abbrev ps_is_tuple : List Str := ["value", "least", "most"]
theorem sc_is_tuple : FnScope ["value", "least", "most"] ps_is_tuple (defScope s_is_tuple) := ⟨rfl, rfl, rfl, by decide +kernel, rfl, by decide +kernel, by decide +kernel⟩
abbrev s_is_text : Stmt := topS 16
abbrev ps_is_text : List Str := ["value", "most"]
theorem sc_is_text : FnScope ["value", "most", "character"] ps_is_text (defScope s_is_text) := ⟨rfl, rfl, rfl, by decide +kernel, rfl, by decide +kernel, by decide +kernel⟩
abbrev s_least_raised_at : Stmt := topS 17
abbrev ps_least_raised_at : List Str := ["length", "place"]
theorem sc_least_raised_at : FnScope ["length", "place"] ps_least_raised_at (defScope s_least_raised_at) := ⟨rfl, rfl, rfl, by decide +kernel, rfl, by decide +kernel, by decide +kernel⟩
abbrev s_check_mark : Stmt := topS 18
abbrev ps_check_mark : List Str := ["mark"]
theorem sc_check_mark : FnScope ["mark"] ps_check_mark (defScope s_check_mark) := ⟨rfl, rfl, rfl, by decide +kernel, rfl, by decide +kernel, by decide +kernel⟩
abbrev s_check_text : Stmt := topS 19
abbrev ps_check_text : List Str := ["text"]
theorem sc_check_text : FnScope ["text"] ps_check_text (defScope s_check_text) := ⟨rfl, rfl, rfl, by decide +kernel, rfl, by decide +kernel, by decide +kernel⟩
abbrev s_check_length : Stmt := topS 20
abbrev ps_check_length : List Str := ["length"]
theorem sc_check_length : FnScope ["length"] ps_check_length (defScope s_check_length) := ⟨rfl, rfl, rfl, by decide +kernel, rfl, by decide +kernel, by decide +kernel⟩
abbrev s_Shortener_init : Stmt := inClass (topS 22) 0
abbrev ps_Shortener_init : List Str := ["self", "limit", "head", "tail", "mark"]
theorem sc_Shortener_init : FnScope ["self", "limit", "head", "tail", "mark", "number"] ps_Shortener_init (defScope s_Shortener_init) := ⟨rfl, rfl, rfl, by decide +kernel, rfl, by decide +kernel, by decide +kernel⟩
abbrev s_Shortener_eq : Stmt := inClass (topS 22) 1
abbrev ps_Shortener_eq : List Str := ["self", "other"]
theorem sc_Shortener_eq : FnScope ["self", "other"] ps_Shortener_eq (defScope s_Shortener_eq) := ⟨rfl, rfl, rfl, by decide +kernel, rfl, by decide +kernel, by decide +kernel⟩
abbrev s_Shortener_repr : Stmt := inClass (topS 22) 2
abbrev ps_Shortener_repr : List Str := ["self"]
theorem sc_Shortener_repr : FnScope ["self"] ps_Shortener_repr (defScope s_Shortener_repr) := ⟨rfl, rfl, rfl, by decide +kernel, rfl, by decide +kernel, by decide +kernel⟩
abbrev s_check_row : Stmt := topS 23
abbrev ps_check_row : List Str := ["row"]
theorem sc_check_row : FnScope ["row", "place", "shortener"] ps_check_row (defScope s_check_row) := ⟨rfl, rfl, rfl, by decide +kernel, rfl, by decide +kernel, by decide +kernel⟩
abbrev s_shortened : Stmt := topS 24
abbrev ps_shortened : List Str := ["shortener", "whole", "mark"]
theorem sc_shortened : FnScope ["shortener", "whole", "mark", "tail_start"] ps_shortened (defScope s_shortened) := ⟨rfl, rfl, rfl, by decide +kernel, rfl, by decide +kernel, by decide +kernel⟩
abbrev s_shown_by : Stmt := topS 25
abbrev ps_shown_by : List Str := ["row", "text"]
theorem sc_shown_by : FnScope ["row", "text", "shown", "shortener"] ps_shown_by (defScope s_shown_by) := ⟨rfl, rfl, rfl, by decide +kernel, rfl, by decide +kernel, by decide +kernel⟩
abbrev s_planned : Stmt := topS 26
abbrev ps_planned : List Str := ["row", "length"]
theorem sc_planned : FnScope ["row", "length", "sources", "shortener"] ps_planned (defScope s_planned) := ⟨rfl, rfl, rfl, by decide +kernel, rfl, by decide +kernel, by decide +kernel⟩
abbrev s_telling_lengths : Stmt := topS 27
abbrev ps_telling_lengths : List Str := []
theorem sc_telling_lengths : FnScope [] ps_telling_lengths (defScope s_telling_lengths) := ⟨rfl, rfl, rfl, by decide +kernel, rfl, by decide +kernel, by decide +kernel⟩
abbrev s_show : Stmt := topS 28
abbrev ps_show : List Str := ["row", "text"]
theorem sc_show : FnScope ["row", "text"] ps_show (defScope s_show) := ⟨rfl, rfl, rfl, by decide +kernel, rfl, by decide +kernel, by decide +kernel⟩
abbrev s_plan : Stmt := topS 29
abbrev ps_plan : List Str := ["row", "length"]
theorem sc_plan : FnScope ["row", "length"] ps_plan (defScope s_plan) := ⟨rfl, rfl, rfl, by decide +kernel, rfl, by decide +kernel, by decide +kernel⟩
abbrev s_widest : Stmt := topS 30
abbrev ps_widest : List Str := ["row"]
theorem sc_widest : FnScope ["row", "length"] ps_widest (defScope s_widest) := ⟨rfl, rfl, rfl, by decide +kernel, rfl, by decide +kernel, by decide +kernel⟩
abbrev s_filled_in : Stmt := topS 32
abbrev ps_filled_in : List Str := ["sources", "text"]
theorem sc_filled_in : FnScope ["sources", "text", "source"] ps_filled_in (defScope s_filled_in) := ⟨rfl, rfl, rfl, by decide +kernel, rfl, by decide +kernel, by decide +kernel⟩
abbrev s_differing_places : Stmt := topS 33
abbrev ps_differing_places : List Str := ["sources", "others"]
theorem sc_differing_places : FnScope ["sources", "others", "places", "source", "other", "place"] ps_differing_places (defScope s_differing_places) := ⟨rfl, rfl, rfl, by decide +kernel, rfl, by decide +kernel, by decide +kernel⟩
abbrev s_least_difference : Stmt := topS 34
abbrev ps_least_difference : List Str := ["sources", "others", "length"]
theorem sc_least_difference : FnScope ["sources", "others", "length", "least"] ps_least_difference (defScope s_least_difference) := ⟨rfl, rfl, rfl, by decide +kernel, rfl, by decide +kernel, by decide +kernel⟩
abbrev s_first_difference : Stmt := topS 35
abbrev ps_first_difference : List Str := ["shorteners", "others"]
theorem sc_first_difference : FnScope ["shorteners", "others", "length", "sources", "other_sources"] ps_first_difference (defScope s_first_difference) := ⟨rfl, rfl, rfl, by decide +kernel, rfl, by decide +kernel, by decide +kernel⟩
abbrev s_first_unlike : Stmt := topS 36
abbrev ps_first_unlike : List Str := ["row", "other_row"]
theorem sc_first_unlike : FnScope ["row", "other_row"] ps_first_unlike (defScope s_first_unlike) := ⟨rfl, rfl, rfl, by decide +kernel, rfl, by decide +kernel, by decide +kernel⟩
abbrev s_are_alike : Stmt := topS 37
abbrev ps_are_alike : List Str := ["row", "other_row"]
theorem sc_are_alike : FnScope ["row", "other_row"] ps_are_alike (defScope s_are_alike) := ⟨rfl, rfl, rfl, by decide +kernel, rfl, by decide +kernel, by decide +kernel⟩
abbrev s_law_pot : Stmt := topS 39
abbrev ps_law_pot : List Str := ["_law_script", "_law_k"]
theorem sc_law_pot : FnScope ["_law_script", "_law_k", "_law_own", "_law_mixed", "_law_entry"] ps_law_pot (defScope s_law_pot) := ⟨rfl, rfl, rfl, by decide +kernel, rfl, by decide +kernel, by decide +kernel⟩
abbrev s_law_ladle : Stmt := topS 40
abbrev ps_law_ladle : List Str := ["_law_pot_here", "_law_many"]
theorem sc_law_ladle : FnScope ["_law_pot_here", "_law_many", "_law_digit"] ps_law_ladle (defScope s_law_ladle) := ⟨rfl, rfl, rfl, by decide +kernel, rfl, by decide +kernel, by decide +kernel⟩
abbrev s_law_one_of : Stmt := topS 41
abbrev ps_law_one_of : List Str := ["_law_pot_here", "_law_some"]
theorem sc_law_one_of : FnScope ["_law_pot_here", "_law_some"] ps_law_one_of (defScope s_law_one_of) := ⟨rfl, rfl, rfl, by decide +kernel, rfl, by decide +kernel, by decide +kernel⟩
abbrev s_law_told : Stmt := topS 42
abbrev ps_law_told : List Str := ["_law_pot_here"]
theorem sc_law_told : FnScope ["_law_pot_here", "_law_sign", "_law_way", "_law_bound", "_law_low", "_law_high"] ps_law_told (defScope s_law_told) := ⟨rfl, rfl, rfl, by decide +kernel, rfl, by decide +kernel, by decide +kernel⟩
abbrev s_law_tolds : Stmt := topS 43
abbrev ps_law_tolds : List Str := ["_law_pot_here"]
theorem sc_law_tolds : FnScope ["_law_pot_here", "_law_k"] ps_law_tolds (defScope s_law_tolds) := ⟨rfl, rfl, rfl, by decide +kernel, rfl, by decide +kernel, by decide +kernel⟩
abbrev s_law_made : Stmt := topS 44
abbrev ps_law_made : List Str := ["_law_tolds_here"]
theorem sc_law_made : FnScope ["_law_tolds_here", "_law_a", "_law_b", "_law_c", "_law_d"] ps_law_made (defScope s_law_made) := ⟨rfl, rfl, rfl, by decide +kernel, rfl, by decide +kernel, by decide +kernel⟩
abbrev s_law_cut : Stmt := topS 45
abbrev ps_law_cut : List Str := ["_law_tolds_here", "_law_things"]
theorem sc_law_cut : FnScope ["_law_tolds_here", "_law_things", "_law_bound", "_law_low", "_law_high", "_law_sign", "_law_front", "_law_back", "_law_each"] ps_law_cut (defScope s_law_cut) := ⟨rfl, rfl, rfl, by decide +kernel, rfl, by decide +kernel, by decide +kernel⟩
abbrev s_law_line : Stmt := topS 46
abbrev ps_law_line : List Str := ["_law_pot_here", "_law_many"]
theorem sc_law_line : FnScope ["_law_pot_here", "_law_many", "_law_signs_here", "_law_k"] ps_law_line (defScope s_law_line) := ⟨rfl, rfl, rfl, by decide +kernel, rfl, by decide +kernel, by decide +kernel⟩
abbrev s_law_near : Stmt := topS 47
abbrev ps_law_near : List Str := ["_law_pot_here", "_law_tolds_here"]
theorem sc_law_near : FnScope ["_law_pot_here", "_law_tolds_here", "_law_way", "_law_at", "_law_bound", "_law_low", "_law_high", "_law_sign", "_law_step", "_law_numbers", "_law_a", "_law_b"] ps_law_near (defScope s_law_near) := ⟨rfl, rfl, rfl, by decide +kernel, rfl, by decide +kernel, by decide +kernel⟩
abbrev s_law_right : Stmt := topS 48
abbrev ps_law_right : List Str := ["_law_pot_here"]
theorem sc_law_right : FnScope ["_law_pot_here", "_law_again", "_law_one", "_law_more", "_law_two", "_law_made_here", "_law_mate", "_law_last", "_law_turn", "_law_line_here", "_law_first", "_law_second", "_law_many"] ps_law_right (defScope s_law_right) := ⟨rfl, rfl, rfl, by decide +kernel, rfl, by decide +kernel, by decide +kernel⟩
abbrev s_law : Stmt := topS 49
abbrev ps_law : List Str := ["_law_script"]
theorem sc_law : FnScope ["_law_script", "_law_k"] ps_law (defScope s_law) := ⟨rfl, rfl, rfl, by decide +kernel, rfl, by decide +kernel, by decide +kernel⟩
/-- names that the module leaves to Python -/
structure Bi (mg : Str → Option Value) : Prop where
  ValueError : mg "ValueError" = none
  abs : mg "abs" = none
  all : mg "all" = none
  bool : mg "bool" = none
  divmod : mg "divmod" = none
  enumerate : mg "enumerate" = none
  int : mg "int" = none
  isinstance : mg "isinstance" = none
  len : mg "len" = none
  list : mg "list" = none
  max : mg "max" = none
  min : mg "min" = none
  range : mg "range" = none
  str : mg "str" = none
  tuple : mg "tuple" = none
  zip : mg "zip" = none
  MOST_SIGNS : ∃ u, mg "MOST_SIGNS" = some u ∧ RelV (.int 40) u
  MOST_MARK : ∃ u, mg "MOST_MARK" = some u ∧ RelV (.int 3) u
  MOST_ROW : ∃ u, mg "MOST_ROW" = some u ∧ RelV (.int 4) u
  MOST_TEXT : ∃ u, mg "MOST_TEXT" = some u ∧ RelV (.int 200) u
  MOST_LENGTH : ∃ u, mg "MOST_LENGTH" = some u ∧ RelV (.int 500) u
  SIGNS : ∃ u, mg "SIGNS" = some u ∧ RelV (.str ".0123456789abcdefghijklmnopqrstuvwxyz~") u
end Gu
namespace Gu
open PySem PySem.Spec PyProof.Rows L2
/-! cuts -/
/-- from a middle state on -/
def tHalt (t u : TS) : TS := fun D σ H => ∃ M : L2.St → Hp → Prop, t { D with nx := M } σ H ∧ ∀ σ1 H1, M σ1 H1 → u D σ1 H1
/-! defs as they stand behind the top -/
structure At (K : PySem.W.Frag) (mg : Str → Option Value) (x : Str) (st : Stmt) (ps : List Str) : Prop where
  ex : ∃ (f : Addr) (fd : FuncData), Fun K x x st f fd ∧ Binds K fd ps [] ∧ mg x = some (.ref f)
structure Cal (P : Program) (w : World) (K : PySem.W.Frag) (mg : Str → Option Value) (base : Heap) (k : Nat) (x : Str) (ps : List Str) (sp : Sp) : Prop where
  ex : ∃ (f : Addr) (fd : FuncData), FnOk P w K mg base CX0 k f fd ps sp ∧ mg x = some (.ref f) ∧ PySem.W.keepIn K (.ref f) = true ∧ Binds K fd ps [] ∧ ∃ oc od sl, K.lookup f = some ⟨oc, od, .func fd, sl⟩
theorem At.cal {P : Program} {w : World} {K : PySem.W.Frag} {mg : Str → Option Value} {base : Heap} {x : Str} {st : Stmt} {N ps : List Str} {k : Nat} {sp : Sp} (D : At K mg x st ps) (S : FnScope N ps (defScope st)) (len : ∀ vs H Q E, sp vs H Q E → vs.length = ps.length)
    (body : ∀ (f : Addr) (cdv : Value) (A : Around) (outer : List Env) (s : Shared) (H : Hp) (vs : List V) (Q : VK) (E : XK), Room k (A.deeper (envOfC x (defScope st) s.heap.objs.size f cdv)) → sp vs H Q E →
      ∃ t, PSs (cxOf CX0 P w K mg base N x (defScope st) f cdv A outer s H E).nox (defBody st) t ∧ t { nx := fun _ H' => Q .non H', rt := Q } (start N vs) H) : Cal P w K mg base (k + 1) x ps sp := by
  obtain ⟨f, fd, F, b, g⟩ := D.ex
  obtain ⟨oc, od, kV, doc, pm, an, cdv, ct, osl, e, lk, hcd⟩ := F.ex
  exact ⟨f, fd, F.ok S len (body f), g, F.kp, b, oc, od, osl, lk⟩
section
variable {X : Cx} {k j : Nat} {x : Str} {ps : List Str} {sp : Sp} {p pos : Pos} {e : Expr} {es : List Expr} {t : TA}
theorem pe_own (c : Cal X.prog X.w X.K X.mg X.base k x ps sp) (hr : Room j X.A) (hk : k ≤ j) (hg : Gl X x) (ha : PA X (e :: es) t)
    (hdb : (x == ("__debug__" : Str)) = false := by decide) (he : starEach (e :: es) X.env = (false, eval e X.env) :: starEach es X.env := by rfl) (hpl : (backTo pos (starEach es X.env)).any (·.1) = false := by rfl) :
    PE X (.Call (.Name x p) (e :: es) [] pos) (tCall sp [] E0 t) := by
  obtain ⟨f, fd, F, hm, kp, b, _⟩ := c.ex
  exact pe_call F (hr.mono hk) hg hm kp b .nil pass0 ha hdb he hpl
theorem pe_cst {v : V} (h : ∃ u, X.mg x = some u ∧ RelV v u) (hg : Gl X x) (hdb : (x == ("__debug__" : Str)) = false := by decide) : PE X (.Name x pos) (tC v) := by
  obtain ⟨u, hm, r⟩ := h
  exact pe_glob hg hm r hdb
end
def tMid (t : TE) : TE := fun σ H Q => ∃ M : VK, t σ H M ∧ ∀ v G, M v G → Q v G
theorem pe_mid {X : Cx} {e : Expr} {t : TE} (d : PE X e t) : PE X e (tMid t) := ⟨fun pins s σ H Q I ⟨M, m, k⟩ => thn (d.run pins s σ H M I m) fun u s1 ⟨v, G, I1, r1, m1⟩ => ⟨v, G, I1, r1, k v G m1⟩⟩
/-! ### heaps -/
theorem same_new {H : Hp} {p : Addr} {o : HO} (h : H p = none) : Same H (upd H p o) := fun b x e => by
  rw [upd_ne (ne_of_none e h)]
  exact e
/-- a pot of three ints stands at p -/
def Pot (H : Hp) (p : Addr) : Prop := ∃ x y z : Int, H p = some (.lst [.int x, .int y, .int z])
/-- from H to G the pot at p may have changed, the rest stands -/
structure Ladled (p : Addr) (H G : Hp) : Prop where
  pot : Pot G p
  keep : ∀ b o, H b = some o → b ≠ p → G b = some o
theorem Pot.some {H : Hp} {p : Addr} (h : Pot H p) : ∃ o, H p = some o := by
  obtain ⟨x, y, z, e⟩ := h
  exact ⟨_, e⟩
theorem Pot.same {H G : Hp} {p : Addr} (s : Same H G) (h : Pot H p) : Pot G p := by
  obtain ⟨x, y, z, e⟩ := h
  exact ⟨x, y, z, s _ _ e⟩
theorem Ladled.refl {H : Hp} {p : Addr} (h : Pot H p) : Ladled p H H := ⟨h, fun _ _ e _ => e⟩
theorem Ladled.trans {H G J : Hp} {p : Addr} (a : Ladled p H G) (b : Ladled p G J) : Ladled p H J := ⟨b.pot, fun c o e n => b.keep c o (a.keep c o e n) n⟩
theorem Ladled.same {H G J : Hp} {p : Addr} (a : Ladled p H G) (b : Same G J) : Ladled p H J := ⟨a.pot.same b, fun c o e n => b _ _ (a.keep c o e n)⟩
theorem Ladled.ofSame {H G : Hp} {p : Addr} (h : Pot H p) (b : Same H G) : Ladled p H G := ⟨h.same b, fun c o e _ => b _ _ e⟩
theorem Ladled.new {H G : Hp} {p q : Addr} {o : HO} (a : Ladled p H G) (h : G q = none) : Ladled p H (upd G q o) := a.same (same_new h)
theorem Ladled.free {H G : Hp} {p l : Addr} (a : Ladled p H G) (h : G l = none) : H l = none := by
  cases q : H l with
  | none => rfl
  | some o =>
    by_cases e : l = p
    · subst e
      obtain ⟨u, hu⟩ := a.pot.some
      rw [hu] at h
      cases h
    · rw [a.keep l o q e] at h
      cases h
/-- what is not known at first may change -/
theorem Ladled.mut {H G : Hp} {p q : Addr} {o : HO} (a : Ladled p H G) (h : H q = none) (n : q ≠ p) : Ladled p H (upd G q o) := by
  refine ⟨?_, fun b u e nb => ?_⟩
  · obtain ⟨x, y, z, e⟩ := a.pot
    exact ⟨x, y, z, by rw [upd_ne (Ne.symm n)]; exact e⟩
  · rw [upd_ne (ne_of_none e h)]
    exact a.keep b u e nb
end Gu
namespace Gu
open PySem PySem.Spec PyProof.Rows L2
section
variable {P : Program} {w : World} {K : PySem.W.Frag} {mg : Str → Option Value} {base : Heap}
/-! ### _law_ladle -/
def spLadle : Sp := fun vs H Q _ => ∃ (p : Addr) (m : Int), vs = [.ref p, .int m] ∧ Pot H p ∧ 0 < m ∧ m < 1000000 ∧ ∀ d G, 0 ≤ d → d < m → Ladled p H G → Q (.int d) G
theorem cal_ladle (B : Bi mg) (D : At K mg "_law_ladle" s_law_ladle ps_law_ladle) : Cal P w K mg base 1 "_law_ladle" ps_law_ladle spLadle := by
  refine D.cal sc_law_ladle (fun vs H Q E h => ?_) (fun f cdv A outer s H vs Q E hr h => ?_)
  · obtain ⟨p, m, rfl, _⟩ := h
    rfl
  · obtain ⟨p, m, rfl, ⟨x, y, z, hp⟩, m0, m1, k⟩ := h
    refine ⟨_, (pss_cons (ps_asg (pe_op op_add (pe_ix ix_list (pv 0) pe_int (fun _ _ => rfl)) pe_int) (pg_sub (pv 0) pe_int set_list))
      (pss_cons (ps_if (pt_cmpR op_gt (pe_ix ix_list (pv 0) pe_int (fun _ _ => rfl)) pe_int (nomark _)) (pss_cons (ps_asg (pe_callB call_divmod (by rfl) B.divmod (by decide +kernel) (pa_cons (pe_callTy call_int1 (by rfl) B.int (by decide +kernel) (pa_cons (pe_ix ix_list (pv 0) pe_int (fun _ _ => rfl)) pa_nil)) (pa_cons (pv 1) pa_nil))) (pg_tup rfl (pgs_cons (pg_sub (pv 0) pe_int set_list) (pgs_cons (pg_name (i := 2) sc_law_ladle.nd rfl (.inl rfl)) pgs_nil))))
      (pss_one (ps_ret (pv 2)))) pss_nil)
      (pss_cons (ps_asg (pe_op op_mod (pe_callTy call_int1 (by rfl) B.int (by decide +kernel) (pa_cons (pe_op op_add (pe_op op_add (pe_op op_mul (pe_ix ix_list (pv 0) pe_int (fun _ _ => rfl)) pe_int) (pe_op op_mul (pe_ix ix_list (pv 0) pe_int (fun _ _ => rfl)) pe_int)) (pe_op op_mul (pe_op op_fdiv (pe_ix ix_list (pv 0) pe_int (fun _ _ => rfl)) pe_int) pe_int)) pa_nil)) pe_int) (pg_sub (pv 0) pe_int set_list))
      (pss_one (ps_ret (pe_op op_mod (pe_callTy call_int1 (by rfl) B.int (by decide +kernel) (pa_cons (pe_op op_fdiv (pe_ix ix_list (pv 0) pe_int (fun _ _ => rfl)) pe_int) pa_nil)) (pv 1))))))), ?_⟩
    refine ⟨_, rfl, p, _, _, _, rfl, rfl, .inl (.inl hp), (rfl : atI [V.int x, V.int y, V.int z] 1 = some (V.int y)), _, _, rfl, rfl, _, rfl, p, _, _, 1, rfl, rfl, hp, rfl, ?_⟩
    have h1 : upd H p (.lst ([V.int x, V.int y, V.int z].set 1 (.int (y + 3)))) p = some (.lst [.int x, .int (y + 3), .int z]) := upd_same
    refine ⟨_, rfl, p, _, _, _, rfl, rfl, .inl (.inl h1), (rfl : atI [V.int x, V.int (y + 3), V.int z] 0 = some (V.int x)), _, _, rfl, rfl, _, rfl, ite2 (fun _ => ?_) (fun _ => ?_)⟩
    · refine ⟨_, rfl, p, _, _, _, rfl, rfl, .inl (.inl h1), (rfl : atI [V.int x, V.int (y + 3), V.int z] 0 = some (V.int x)), .inl ⟨_, rfl, _, rfl, _, _, rfl, ⟨m0, by omega⟩, fun q hq => ?_⟩⟩
      have npq : p ≠ q := ne_of_none h1 hq
      refine ⟨q, _, rfl, .inl (.inl upd_same), rfl, _, _, rfl, ⟨_, rfl, p, _, _, 0, rfl, rfl, (by rw [upd_ne npq]; exact h1), rfl, _, _, rfl, rfl, ?_⟩⟩
      refine ⟨_, rfl, ?_⟩
      refine k (x % m) _ (Int.emod_nonneg _ (by omega)) (Int.emod_lt_of_pos _ m0) ⟨⟨_, _, _, upd_same⟩, fun b o e n => ?_⟩
      have hb : upd H p (.lst ([V.int x, V.int y, V.int z].set 1 (.int (y + 3)))) b = some o := by rw [upd_ne n]; exact e
      rw [upd_ne n, upd_ne (ne_of_none hb hq), upd_ne n]
      exact e
    · refine ⟨_, rfl, p, _, _, _, rfl, rfl, .inl (.inl h1), (rfl : atI [V.int x, V.int (y + 3), V.int z] 2 = some (V.int z)), _, _, rfl, rfl, .inr ⟨by decide, by decide⟩, _, rfl, p, _, _, _, rfl, rfl, .inl (.inl h1), (rfl : atI [V.int x, V.int (y + 3), V.int z] 1 = some (V.int (y + 3))), _, _, rfl, rfl, .inr ⟨by decide, by decide⟩, _, _, rfl, rfl, ?_⟩
      refine ⟨_, rfl, p, _, _, _, rfl, rfl, .inl (.inl h1), (rfl : atI [V.int x, V.int (y + 3), V.int z] 2 = some (V.int z)), _, _, rfl, rfl, ⟨by decide, by decide⟩, _, _, rfl, rfl, .inr ⟨by decide, by decide⟩, _, _, rfl, rfl, .inl ⟨_, rfl, _, _, rfl, rfl, (by decide : (0 : Int) < 1999999889), ?_⟩⟩
      refine ⟨_, rfl, p, _, _, 2, rfl, rfl, h1, rfl, ?_⟩
      refine ⟨_, rfl, p, _, _, _, rfl, rfl, .inl (.inl upd_same), rfl, _, _, rfl, rfl, ⟨by decide, by decide⟩, .inl ⟨_, rfl, _, rfl, _, _, rfl, rfl, m0, ?_⟩⟩
      refine k _ _ (Int.emod_nonneg _ (by omega)) (Int.emod_lt_of_pos _ m0) ⟨⟨_, _, _, upd_same⟩, fun b o e n => ?_⟩
      rw [upd_ne n, upd_ne n]
      exact e
/-! ### _law_one_of: of a list or of a text -/
def spOneOf (K : PySem.W.Frag) : Sp := fun vs H Q _ => ∃ (p : Addr), Pot H p ∧
  ((∃ (l : Addr) (xs : List V), vs = [.ref p, .ref l] ∧ SqL K H l xs ∧ l ≠ p ∧ 0 < xs.length ∧ xs.length < 1000 ∧ ∀ v G, v ∈ xs → Ladled p H G → Q v G) ∨
   (∃ (z : Str), vs = [.ref p, .str z] ∧ 0 < z.cps.toList.length ∧ z.cps.toList.length < 1000 ∧ ∀ c G, c ∈ z.cps.toList → Ladled p H G → Q (.str ⟨#[c]⟩) G))
theorem Ladled.seq {K : PySem.W.Frag} {H G : Hp} {p l : Addr} {xs : List V} (a : Ladled p H G) (n : l ≠ p) (h : SqL K H l xs) : SqL K G l xs := by
  rcases h with (h | ⟨o, h⟩) | h
  · exact .inl (.inl (a.keep _ _ h n))
  · exact .inl (.inr ⟨o, a.keep _ _ h n⟩)
  · exact .inr h
theorem at_in {α : Type} {xs : List α} {d : Int} (h0 : 0 ≤ d) (h1 : d < (xs.length : Int)) : ∃ v, v ∈ xs ∧ atI xs d = some v := by
  obtain ⟨j, rfl⟩ := Int.eq_ofNat_of_zero_le h0
  have hj : j < xs.length := by omega
  exact ⟨xs[j], List.getElem_mem hj, atI_nat (List.getElem?_eq_getElem hj)⟩
theorem cal_oneOf (B : Bi mg) (D : At K mg "_law_one_of" s_law_one_of ps_law_one_of) (C_law_ladle : Cal P w K mg base 1 "_law_ladle" ps_law_ladle spLadle) : Cal P w K mg base 2 "_law_one_of" ps_law_one_of (spOneOf K) := by
  refine D.cal sc_law_one_of (fun vs H Q E h => ?_) (fun f cdv A outer s H vs Q E hr h => ?_)
  · obtain ⟨p, _, ⟨l, xs, rfl, _⟩ | ⟨z, rfl, _⟩⟩ := h
    · rfl
    · rfl
  · refine ⟨_, (pss_one (ps_ret (pe_ix ix_seq (pv 1) (pe_own C_law_ladle hr (by decide) (by rfl) (pa_cons (pv 0) (pa_cons (pe_callB call_len (by rfl) B.len (by decide +kernel) (pa_cons (pv 1) pa_nil)) pa_nil))) (fun _ _ => rfl)))), ?_⟩
    obtain ⟨p, hp, ⟨l, xs, rfl, hl, np, l0, l1, k⟩ | ⟨z, rfl, l0, l1, k⟩⟩ := h
    · refine ⟨_, rfl, _, rfl, _, rfl, _, _, rfl, .inl ⟨_, hl, rfl⟩, p, _, rfl, hp, by omega, by omega, fun d G d0 d1 L => ?_⟩
      obtain ⟨v, hv, ha⟩ := at_in (xs := xs) d0 d1
      exact .inl ⟨l, xs, d, v, rfl, rfl, L.seq np hl, ha, k v G hv L⟩
    · have ez : z.length = z.cps.toList.length := rfl
      refine ⟨_, rfl, _, rfl, _, rfl, _, _, rfl, ⟨Nat.le_of_lt (small1000 (by omega)), rfl⟩, p, _, rfl, hp, by omega, by omega, fun d G d0 d1 L => ?_⟩
      obtain ⟨c, hc, ha⟩ := at_in (xs := z.cps.toList) d0 (by omega)
      exact .inr (.inr ⟨z, d, c, rfl, rfl, Nat.le_of_lt (small1000 (by omega)), ha, k c G hc L⟩)
/-! ### _law_pot -/
def spPot (K : PySem.W.Frag) : Sp := fun vs H Q _ => ∃ (a : Addr) (k : Nat) (ns : List Int), vs = [.ref a, .int (k : Int)] ∧ SqL K H a (ns.map V.int) ∧ k < 1000 ∧ ∀ p G, H p = none → Pot G p → Same H G → Q (.ref p) G
theorem cal_pot (B : Bi mg) (D : At K mg "_law_pot" s_law_pot ps_law_pot) : Cal P w K mg base 1 "_law_pot" ps_law_pot (spPot K) := by
  refine D.cal sc_law_pot (fun vs H Q E h => ?_) (fun f cdv A outer s H vs Q E hr h => ?_)
  · obtain ⟨a, k, ns, rfl, _⟩ := h
    rfl
  · obtain ⟨a, k, ns, rfl, hS, hk, q⟩ := h
    refine ⟨_, (pss_cons (ps_set (i := 2) sc_law_pot.nd rfl (.inl rfl) (pe_mid (pe_ifExp (pt_cmpR op_lt (pv 1) (pe_callB call_len_seq (by rfl) B.len (by decide +kernel) (pa_cons (pv 0) pa_nil)) (nomark _)) (pe_callTy call_int1 (by rfl) B.int (by decide +kernel) (pa_cons (pe_ix ix_list (pv 0) (pv 1) (fun _ _ => rfl)) pa_nil)) (pe_op op_add (pe_op op_mul pe_int (pv 1)) pe_int))))
      (pss_cons (ps_set (i := 3) sc_law_pot.nd rfl (.inl rfl) (pe_op op_add pe_int (pe_op op_mul pe_int (pv 1))))
      (pss_cons (ps_for PassesOwn.never rfl (pi_list (pe_slice sl_list (pv 0) po_none (po_some pe_int))) (pg_name (i := 4) sc_law_pot.nd rfl (.inl rfl))
      (pss_one (ps_set (i := 3) sc_law_pot.nd rfl (.inl rfl) (pe_op op_mod (pe_callTy call_int1 (by rfl) B.int (by decide +kernel) (pa_cons (pe_op op_add (pe_op op_mul (pv 3) pe_int) (pe_op op_mod (pe_callTy call_int1 (by rfl) B.int (by decide +kernel) (pa_cons (pv 4) pa_nil)) pe_int)) pa_nil)) pe_int))))
      (pss_one (ps_ret (pe_lst (pa_cons (pe_mid (pe_ifExp (PW.pt (pw_or (pt_cmpR op_lt (pv 2) pe_int (nomark _)) (pw_or1 (pt_cmpR op_ge (pv 2) (pe_op op_pow pe_int pe_int) (nomark _))))) (pe_callB call_abs (by rfl) B.abs (by decide +kernel) (pa_cons (pv 2) pa_nil)) pe_int)) (pa_cons pe_int (pa_cons (pe_op op_mod (pe_callTy call_int1 (by rfl) B.int (by decide +kernel) (pa_cons (pe_op op_add (pe_op op_mul (pv 3) pe_int) (pe_op op_mod (pv 2) pe_int)) pa_nil)) pe_int) pa_nil))))))))), ?_⟩
    refine ⟨fun v G => (∃ i : Int, v = .int i) ∧ G = H, ?_, ?_⟩
    · refine ⟨_, rfl, _, rfl, a, _, rfl, .inl hS, _, _, rfl, rfl, _, rfl, ite2 (fun e => ?_) (fun _ => ?_)⟩
      · have hlt := of_decide_eq_true e
        have hj : k < ns.length := by
          rw [List.length_map] at hlt
          omega
        refine ⟨_, rfl, _, rfl, a, _, _, _, rfl, rfl, hS, atI_nat (j := k) (v := .int ns[k]) (by rw [List.getElem?_map, List.getElem?_eq_getElem hj]; rfl), .inl ⟨_, rfl, ⟨_, rfl⟩, rfl⟩⟩
      · refine ⟨_, rfl, _, _, rfl, rfl, .inl ⟨by decide, by decide⟩, _, _, rfl, rfl, ⟨_, rfl⟩, rfl⟩
    · rintro _ H0 ⟨⟨own, rfl⟩, eH⟩
      subst eH
      refine ⟨_, rfl, _, _, rfl, rfl, .inl ⟨by decide, by decide⟩, _, _, rfl, rfl, ?_⟩
      refine ⟨_, rfl, 14, rfl, a, _, rfl, hS, fun c nc => ?_⟩
      have sc : Same H0 (upd H0 c (.lst (cutV (ns.map V.int) none (some 14)))) := same_new nc
      have hC : cutV (ns.map V.int) none (some 14) = (ns.take 14).map V.int := by
        unfold cutV
        rw [HT.sIx_none, show HT.sIx (ns.map V.int).length (ns.map V.int).length (some 14) = min 14 (ns.map V.int).length from HT.sIx_nat _ _ 14, List.drop_zero, Nat.sub_zero, List.map_take, List.take_eq_take_iff]
        omega
      refine ⟨c, rfl, ⟨_, .inl (.inl upd_same)⟩, for_list (K := K) (a := c) (xs := (ns.take 14).map V.int) (fun i σ J => ∃ (mx : Int) (u : Option V), σ = [some (.ref a), some (.int (k : Int)), some (.int own), some (.int mx), u] ∧ Same H0 J ∧ J c = some (.lst ((ns.take 14).map V.int)))
        ⟨_, none, rfl, sc, by rw [upd_same, hC]⟩ (fun i σ J _ ⟨_, _, _, _, e⟩ => .inl (.inl e)) ?_ ?_⟩
      · rintro i v σ J hi ⟨mx, u, rfl, sJ, eJ⟩
        obtain ⟨t, rfl⟩ : ∃ t, v = V.int t := by
          rw [List.getElem?_map] at hi
          cases e : (ns.take 14)[i]? with
          | none =>
            rw [e] at hi
            cases hi
          | some t =>
            rw [e] at hi
            exact ⟨t, (Option.some.inj hi).symm⟩
        refine ⟨_, rfl, _, _, rfl, rfl, .inr ⟨by decide, by decide⟩, _, rfl, .inl ⟨_, rfl, _, _, rfl, rfl, (by decide : (0 : Int) < 1999999889), _, _, rfl, rfl, .inl ⟨_, rfl, _, _, rfl, rfl, (by decide : (0 : Int) < 1999999889), ?_⟩⟩⟩
        exact ⟨_, _, rfl, sJ, eJ⟩
      · rintro σ J ⟨mx, u, rfl, sJ, eJ⟩
        refine ⟨fun v J1 => (∃ i : Int, v = .int i) ∧ J1 = J, ?_, ?_⟩
        · refine ⟨_, rfl, _, _, rfl, rfl, _, rfl, ite2 (fun _ => ?_) (fun _ => ?_)⟩
          · refine iteT ⟨_, rfl, _, rfl, ⟨_, rfl⟩, rfl⟩
          · refine ⟨_, rfl, _, _, rfl, rfl, ⟨by decide, by decide, by decide⟩, _, _, rfl, rfl, _, rfl, ite2 (fun _ => ⟨_, rfl, _, rfl, ⟨_, rfl⟩, rfl⟩) (fun _ => ⟨⟨_, rfl⟩, rfl⟩)⟩
        · rintro _ _ ⟨⟨x, rfl⟩, rfl⟩
          refine ⟨_, rfl, _, _, rfl, rfl, .inr ⟨by decide, by decide⟩, _, rfl, _, _, rfl, rfl, (by decide : (0 : Int) < 1999999889), _, _, rfl, rfl, .inl ⟨_, rfl, _, _, rfl, rfl, (by decide : (0 : Int) < 1999999889), ?_⟩⟩
          refine ⟨by show 3 ≤ sizeLine; decide, fun p np => ?_⟩
          exact q p _ (sJ.free np) ⟨_, _, _, upd_same⟩ (sJ.trans (same_new np))
end
end Gu
namespace Gu
open PySem PySem.Spec PyProof.Rows L2
/-! ### _law_told -/
def marks : List Str := ["", "~", "..", "...", "a.b", "~"]
/-- four things as they are drawn -/
structure Four (l h t : Int) (z : Str) : Prop where
  l0 : 0 ≤ l
  l1 : l ≤ 40
  h0 : 0 ≤ h
  h1 : h ≤ 40
  t0 : 0 ≤ t
  t1 : t ≤ 40
  z : z ∈ marks
theorem marks_len {z : Str} (h : z ∈ marks) : z.cps.toList.length ≤ 3 := by
  have a : ∀ y ∈ marks, y.cps.toList.length ≤ 3 := by decide +kernel
  exact a z h
end Gu
namespace Gu
open PySem PySem.Spec PyProof.Rows L2
section
variable {P : Program} {w : World} {K : PySem.W.Frag} {mg : Str → Option Value} {base : Heap}
def spTold : Sp := fun vs H Q _ => ∃ (p : Addr), vs = [.ref p] ∧ Pot H p ∧ ∀ (q : Addr) (G : Hp) (l h t : Int) (z : Str), H q = none → G q = some (.tup [.int l, .int h, .int t, .str z]) → Four l h t z → Ladled p H G → Q (.ref q) G
theorem cal_told (B : Bi mg) (D : At K mg "_law_told" s_law_told ps_law_told) (C_law_ladle : Cal P w K mg base 1 "_law_ladle" ps_law_ladle spLadle) (C_law_one_of : Cal P w K mg base 2 "_law_one_of" ps_law_one_of (spOneOf K)) : Cal P w K mg base 3 "_law_told" ps_law_told spTold := by
  refine D.cal sc_law_told (fun vs H Q E h => ?_) (fun f cdv A outer s H vs Q E hr h => ?_)
  · obtain ⟨p, rfl, _⟩ := h
    rfl
  · obtain ⟨p, rfl, hp, k⟩ := h
    refine ⟨_, (pss_cons (ps_set (i := 1) sc_law_told.nd rfl (.inl rfl) (pe_own C_law_one_of hr (by decide) (by rfl) (pa_cons (pv 0) (pa_cons (pe_lst (pa_cons pe_str (pa_cons pe_str (pa_cons pe_str (pa_cons pe_str (pa_cons pe_str (pa_cons pe_str pa_nil))))))) pa_nil))))
      (pss_cons (ps_par (i := 2) (j := 3) (by rfl) sc_law_told.nd rfl rfl (by decide) rfl rfl (pa_cons (pe_own C_law_ladle hr (by decide) (by rfl) (pa_cons (pv 0) (pa_cons pe_int pa_nil))) (pa_cons (pe_own C_law_one_of hr (by decide) (by rfl) (pa_cons (pv 0) (pa_cons (pe_lst (pa_cons pe_int (pa_cons pe_int (pa_cons pe_int (pa_cons pe_int pa_nil))))) pa_nil))) pa_nil)) (by rfl))
      (pss_cons (ps_par (i := 4) (j := 5) (by rfl) sc_law_told.nd rfl rfl (by decide) rfl rfl (pa_cons (pe_own C_law_ladle hr (by decide) (by rfl) (pa_cons (pv 0) (pa_cons (pv 3) pa_nil))) (pa_cons (pe_own C_law_ladle hr (by decide) (by rfl) (pa_cons (pv 0) (pa_cons (pv 3) pa_nil))) pa_nil)) (by rfl))
      (pss_cons (ps_if (pt_cmpR op_eq (pv 2) pe_int (nomark _)) (pss_one (ps_ret (pe_tup (pa_cons (pe_callB (call_min2 rfl) (by rfl) B.min (by decide +kernel) (pa_cons pe_int (pa_cons (pe_op op_add (pe_op op_add (pv 4) (pv 5)) (pe_callB call_len (by rfl) B.len (by decide +kernel) (pa_cons (pv 1) pa_nil))) pa_nil))) (pa_cons (pv 4) (pa_cons (pv 5) (pa_cons (pv 1) pa_nil))))))) pss_nil)
      (pss_cons (ps_if (pt_cmpR op_eq (pv 2) pe_int (nomark _)) (pss_one (ps_ret (pe_tup (pa_cons (pe_own C_law_ladle hr (by decide) (by rfl) (pa_cons (pv 0) (pa_cons (pv 3) pa_nil))) (pa_cons (pv 4) (pa_cons pe_int (pa_cons (pv 1) pa_nil))))))) pss_nil)
      (pss_one (ps_ret (pe_tup (pa_cons (pe_own C_law_ladle hr (by decide) (by rfl) (pa_cons (pv 0) (pa_cons (pv 3) pa_nil))) (pa_cons (pv 4) (pa_cons (pv 5) (pa_cons (pv 1) pa_nil)))))))))))), ?_⟩
    -- the sign
    refine ⟨_, rfl, by show 6 ≤ sizeLine; decide, fun q0 n0 => ?_⟩
    have hp0 : Pot (upd H q0 (.lst [.str "", .str "~", .str "..", .str "...", .str "a.b", .str "~"])) p := hp.same (same_new n0)
    have L0 : Ladled p H (upd H q0 (.lst [.str "", .str "~", .str "..", .str "...", .str "a.b", .str "~"])) := .ofSame hp (same_new n0)
    have np0 : q0 ≠ p := fun e => by
      subst e
      obtain ⟨o, ho⟩ := hp.some
      rw [n0] at ho
      cases ho
    refine ⟨p, hp0, .inl ⟨q0, _, rfl, .inl (.inl upd_same), np0, by decide, by decide, fun v G1 hv L1 => ?_⟩⟩
    obtain ⟨z, hz, rfl⟩ : ∃ z, z ∈ marks ∧ v = .str z := by
      have e : ([.str "", .str "~", .str "..", .str "...", .str "a.b", .str "~"] : List V) = marks.map V.str := rfl
      rw [e] at hv
      obtain ⟨z, h1, h2⟩ := List.mem_map.mp hv
      exact ⟨z, h1, h2.symm⟩
    have M1 : Ladled p H G1 := L0.trans L1
    -- the way, the bound
    refine ⟨_, rfl, p, 4, rfl, M1.pot, by decide, by decide, fun way G2 w0 w1 L2 => ?_⟩
    have M2 : Ladled p H G2 := M1.trans L2
    refine ⟨_, rfl, by show 4 ≤ sizeLine; decide, fun q1 n1 => ?_⟩
    have np1 : q1 ≠ p := fun e => by
      subst e
      obtain ⟨o, ho⟩ := M2.pot.some
      rw [n1] at ho
      cases ho
    refine ⟨p, M2.pot.same (same_new n1), .inl ⟨q1, _, rfl, .inl (.inl upd_same), np1, by decide, by decide, fun v G3 hv L3 => ?_⟩⟩
    obtain ⟨b, b0, b1, rfl⟩ : ∃ b : Int, 0 < b ∧ b ≤ 41 ∧ v = .int b := by
      rcases List.mem_cons.mp hv with rfl | hv
      · exact ⟨3, by decide, by decide, rfl⟩
      rcases List.mem_cons.mp hv with rfl | hv
      · exact ⟨6, by decide, by decide, rfl⟩
      rcases List.mem_cons.mp hv with rfl | hv
      · exact ⟨12, by decide, by decide, rfl⟩
      rcases List.mem_cons.mp hv with rfl | hv
      · exact ⟨41, by decide, by decide, rfl⟩
      cases hv
    have M3 : Ladled p H G3 := (M2.new n1).trans L3
    refine ⟨_, _, rfl, ?_⟩
    -- low, high
    refine ⟨_, rfl, _, rfl, p, b, rfl, M3.pot, b0, by omega, fun low G4 x0 x1 L4 => ?_⟩
    have M4 : Ladled p H G4 := M3.trans L4
    refine ⟨_, rfl, _, rfl, p, b, rfl, M4.pot, b0, by omega, fun high G5 y0 y1 L5 => ?_⟩
    have M5 : Ladled p H G5 := M4.trans L5
    refine ⟨_, _, rfl, ?_⟩
    have zl := marks_len hz
    have ez : z.length = z.cps.toList.length := rfl
    -- if way == 0
    refine ⟨_, rfl, rfl, _, rfl, ite2 (fun _ => ?_) (fun _ => ?_)⟩
    · refine ⟨_, rfl, _, rfl, _, _, rfl, rfl, _, rfl, _, _, rfl, ⟨Nat.le_of_lt (small1000 (by omega)), rfl⟩, _, _, rfl, rfl, _, _, rfl, _, rfl, _, rfl, _, rfl, by show 4 ≤ sizeLine; decide, fun q nq => ?_⟩
      refine k q _ _ _ _ _ (M5.free nq) upd_same ⟨?_, ?_, x0, by omega, y0, by omega, hz⟩ (M5.new nq)
      · split <;> omega
      · split <;> omega
    -- if way == 1
    refine ⟨_, rfl, rfl, _, rfl, ite2 (fun _ => ?_) (fun _ => ?_)⟩
    · refine ⟨_, rfl, _, rfl, p, b, rfl, M5.pot, b0, by omega, fun lim G6 u0 u1 L6 => ?_⟩
      have M6 : Ladled p H G6 := M5.trans L6
      refine ⟨_, rfl, _, rfl, by show 4 ≤ sizeLine; decide, fun q nq => ?_⟩
      exact k q _ _ _ _ _ (M6.free nq) upd_same ⟨u0, by omega, x0, by omega, by decide, by decide, hz⟩ (M6.new nq)
    · refine ⟨_, rfl, _, rfl, p, b, rfl, M5.pot, b0, by omega, fun lim G6 u0 u1 L6 => ?_⟩
      have M6 : Ladled p H G6 := M5.trans L6
      refine ⟨_, rfl, _, rfl, _, rfl, by show 4 ≤ sizeLine; decide, fun q nq => ?_⟩
      exact k q _ _ _ _ _ (M6.free nq) upd_same ⟨u0, by omega, x0, by omega, y0, by omega, hz⟩ (M6.new nq)
end
end Gu
namespace Gu
open PySem PySem.Spec PyProof.Rows L2
/-! ### _law_tolds -/
structure Rec where
  l : Int
  h : Int
  t : Int
  z : Str
def Rec.vs (r : Rec) : List V := [.int r.l, .int r.h, .int r.t, .str r.z]
def Rec.ok (r : Rec) : Prop := Four r.l r.h r.t r.z
theorem Pot.ne {H : Hp} {p q : Addr} (h : Pot H p) (n : H q = none) : q ≠ p := fun e => by
  subst e
  obtain ⟨o, ho⟩ := h.some
  rw [n] at ho
  cases ho
theorem yes {σ : L2.St} {H : Hp} {Q : Bool → Hp → Prop} (h : Q true H) : tYes σ H Q := h
section
variable {P : Program} {w : World} {K : PySem.W.Frag} {mg : Str → Option Value} {base : Heap}
/-- told tuples: a list of them at D -/
structure ToldsAt (G : Hp) (D : Addr) (ps : List (Addr × Rec)) : Prop where
  ls : G D = some (.lst (ps.map fun q => V.ref q.1))
  tp : ∀ q ∈ ps, G q.1 = some (.tup q.2.vs) ∧ q.2.ok
def spTolds : Sp := fun vs H Q _ => ∃ (p : Addr), vs = [.ref p] ∧ Pot H p ∧ ∀ (D : Addr) (G : Hp) (ps : List (Addr × Rec)), H D = none → ToldsAt G D ps → (∀ q ∈ ps, H q.1 = none) → 1 ≤ ps.length → ps.length ≤ 4 → Ladled p H G → Q (.ref D) G
theorem cal_tolds (B : Bi mg) (D : At K mg "_law_tolds" s_law_tolds ps_law_tolds) (C_law_told : Cal P w K mg base 3 "_law_told" ps_law_told spTold) (C_law_one_of : Cal P w K mg base 2 "_law_one_of" ps_law_one_of (spOneOf K)) : Cal P w K mg base 4 "_law_tolds" ps_law_tolds spTolds := by
  refine D.cal sc_law_tolds (fun vs H Q E h => ?_) (fun f cdv A outer s H vs Q E hr h => ?_)
  · obtain ⟨p, rfl, _⟩ := h
    rfl
  · obtain ⟨p, rfl, hp, k⟩ := h
    refine ⟨_, (pss_one (ps_ret (pe_lc (own := [("_law_k", 1)]) (by rfl) sc_law_tolds.nd (pi_range1 (by rfl) B.range (pa_cons (pe_own C_law_one_of hr (by decide) (by rfl) (pa_cons (pv 0) (pa_cons (pe_lst (pa_cons pe_int (pa_cons pe_int (pa_cons pe_int (pa_cons pe_int (pa_cons pe_int (pa_cons pe_int pa_nil))))))) pa_nil))) pa_nil)) (blkOk_by (own := [("_law_k", 1)]) (N := ["_law_pot_here", "_law_k"]) (sc := defScope s_law_tolds) (by decide +kernel)) (fun _ _ _ _ _ => pg_name (i := 1) sc_law_tolds.nd rfl (.inl rfl)) (fun _ _ _ _ _ => pts_nil) (fun _ _ _ _ _ => (pe_own C_law_told hr (by decide) (by rfl) (pa_cons (pv 0) pa_nil)))))), ?_⟩
    refine ⟨_, rfl, by show 6 ≤ sizeLine; decide, fun q0 n0 => ?_⟩
    have L0 : Ladled p H (upd H q0 (.lst [.int 1, .int 1, .int 2, .int 2, .int 3, .int 4])) := .ofSame hp (same_new n0)
    refine ⟨p, L0.pot, .inl ⟨q0, _, rfl, .inl (.inl upd_same), hp.ne n0, by decide, by decide, fun v G1 hv L1 => ?_⟩⟩
    obtain ⟨n, e0, e1, rfl⟩ : ∃ n : Int, 1 ≤ n ∧ n ≤ 4 ∧ v = .int n := by
      have a : ∀ v ∈ ([.int 1, .int 1, .int 2, .int 2, .int 3, .int 4] : List V), ∃ n : Int, 1 ≤ n ∧ n ≤ 4 ∧ v = .int n := by
        intro v hv
        simp only [List.mem_cons, List.not_mem_nil, or_false] at hv
        rcases hv with rfl | rfl | rfl | rfl | rfl | rfl <;> exact ⟨_, by decide, by decide, rfl⟩
      exact a v hv
    have M1 : Ladled p H G1 := L0.trans L1
    refine ⟨n, rfl, by omega, by omega, fun D nD => lc_range (lo := 0) (n := n.toNat) (fun i J => ∃ ps : List (Addr × Rec), ps.length = i ∧ ToldsAt J D ps ∧ (∀ q ∈ ps, H q.1 = none) ∧ Ladled p H J)
      ⟨[], rfl, ⟨upd_same, (fun q hq => by cases hq)⟩, (fun q hq => by cases hq), M1.mut (M1.free nD) (M1.pot.ne nD)⟩ ?_ ?_⟩
    · rintro i J hi ⟨ps, rfl, T, nw, M⟩
      have hD : H D = none := M1.free nD
      refine ⟨rfl, yes (iteT ?_)⟩
      refine ⟨_, rfl, p, rfl, M.pot, fun q G l h t z nq eq ok L => ?_⟩
      have GD : G D = some (.lst (ps.map fun q => V.ref q.1)) := L.keep _ _ T.ls (hp.ne hD)
      refine ⟨_, GD, small1000 (by rw [List.length_map]; omega), ps ++ [(q, ⟨l, h, t, z⟩)], by rw [List.length_append]; rfl, ⟨?_, fun r hr => ?_⟩, fun r hr => ?_, (M.trans L).mut hD (hp.ne hD)⟩
      · rw [upd_same, List.map_append]
        rfl
      · rcases List.mem_append.mp hr with hr | hr
        · obtain ⟨g1, g2⟩ := T.tp r hr
          have ne1 : r.1 ≠ D := ne_of g1 T.ls (by intro z; cases z)
          have ne2 : r.1 ≠ p := hp.ne (nw r hr)
          exact ⟨by rw [upd_ne ne1]; exact L.keep _ _ g1 ne2, g2⟩
        · rw [List.mem_singleton.mp hr]
          have ne1 : q ≠ D := ne_of eq GD (by intro z; cases z)
          exact ⟨by rw [upd_ne ne1]; exact eq, ok⟩
      · rcases List.mem_append.mp hr with hr | hr
        · exact nw r hr
        · rw [List.mem_singleton.mp hr]
          exact M.free nq
    · rintro J ⟨ps, e, T, nw, M⟩
      exact k D J ps (M1.free nD) T nw (by omega) (by omega) M
end
end Gu
namespace Gu
open PySem PySem.Spec PyProof.Rows L2
/-! ### is_integer, is_text -/
/-- isinstance(x, T) is b -/
def Isa (K : PySem.W.Frag) (H : Hp) (x : V) (T : String) (b : Bool) : Prop := ∃ t, TyX K H x t ∧ PySem.W.kitOne K t (.type T) = some b
def signs : Str := ".0123456789abcdefghijklmnopqrstuvwxyz~"
def isTxt (z : Str) (m : Int) : Bool := decide ((z.length : Int) ≤ m) && z.cps.toList.all fun c => decide (c ∈ signs.cps.toList)
section
variable {P : Program} {w : World} {K : PySem.W.Frag} {mg : Str → Option Value} {base : Heap}
theorem Isa.int_int {H : Hp} {i : Int} : Isa K H (.int i) "int" true := ⟨_, .base (.int i), kit_ty (by decide +kernel)⟩
theorem Isa.int_bool {H : Hp} {i : Int} : Isa K H (.int i) "bool" false := ⟨_, .base (.int i), kit_ty (by decide +kernel)⟩
theorem Isa.str_str {H : Hp} {z : Str} : Isa K H (.str z) "str" true := ⟨_, .base (.str z), kit_ty (by decide +kernel)⟩
def spIsInteger (K : PySem.W.Frag) : Sp := fun vs H Q _ => ∃ (x : V) (a b : Int), vs = [x, .int a, .int b] ∧
  ((∃ v, x = .int v ∧ Q (.bl (decide (a ≤ v ∧ v ≤ b))) H) ∨ (Isa K H x "int" false ∧ Q (.bl false) H) ∨ (Isa K H x "int" true ∧ Isa K H x "bool" true ∧ Q (.bl false) H))
theorem cal_isInteger (B : Bi mg) (D : At K mg "is_integer" s_is_integer ps_is_integer) : Cal P w K mg base 1 "is_integer" ps_is_integer (spIsInteger K) := by
  refine D.cal sc_is_integer (fun vs H Q E h => ?_) (fun f cdv A outer s H vs Q E hr h => ?_)
  · obtain ⟨x, a, b, rfl, _⟩ := h
    rfl
  · obtain ⟨x, a, b, rfl, h⟩ := h
    refine ⟨_, (pss_cons (ps_if (PW.pt (pw_or (pt_not (pt_val (pe_callB call_isi (by rfl) B.isinstance (by decide +kernel) (pa_cons (pv 0) (pa_cons (pe_bltn (v := .ty "int") (by rfl) B.int (by decide +kernel) rfl) pa_nil))))) (pw_or1 (pt_val (pe_callB call_isi (by rfl) B.isinstance (by decide +kernel) (pa_cons (pv 0) (pa_cons (pe_bltn (v := .ty "bool") (by rfl) B.bool (by decide +kernel) rfl) pa_nil))))))) (pss_one (ps_ret pe_bl)) pss_nil)
      (pss_one (ps_ret (pe_chain op_le op_le (pv 1) (pv 0) (pv 2))))), ?_⟩
    rcases h with ⟨v, rfl, k⟩ | ⟨⟨t, i1, i2⟩, k⟩ | ⟨⟨t, i1, i2⟩, ⟨t', j1, j2⟩, k⟩
    · obtain ⟨t, i1, i2⟩ := Isa.int_int (K := K) (H := H) (i := v)
      obtain ⟨t', j1, j2⟩ := Isa.int_bool (K := K) (H := H) (i := v)
      refine ⟨_, rfl, _, _, t, _, true, rfl, .ty _, i1, i2, _, rfl, iteF ⟨_, rfl, _, _, t', _, false, rfl, .ty _, j1, j2, _, rfl, iteF ?_⟩⟩
      refine ⟨_, rfl, _, rfl, _, _, rfl, rfl, _, rfl, ?_⟩
      by_cases e1 : a ≤ v
      · rw [decide_eq_true e1]
        refine iteT ⟨_, rfl, _, _, rfl, rfl, ?_⟩
        have e : decide (a ≤ v ∧ v ≤ b) = decide (v ≤ b) := by simp only [e1, true_and]
        rw [e] at k
        exact k
      · rw [decide_eq_false e1]
        refine iteF ?_
        have e : decide (a ≤ v ∧ v ≤ b) = false := by simp only [e1, false_and, decide_false]
        rw [e] at k
        exact k
    · refine ⟨_, rfl, _, _, t, _, false, rfl, .ty _, i1, i2, _, rfl, iteT (iteT k)⟩
    · refine ⟨_, rfl, _, _, t, _, true, rfl, .ty _, i1, i2, _, rfl, iteF ⟨_, rfl, _, _, t', _, true, rfl, .ty _, j1, j2, _, rfl, iteT k⟩⟩
def spIsText (K : PySem.W.Frag) : Sp := fun vs H Q _ => ∃ (x : V) (m : Int), vs = [x, .int m] ∧
  ((∃ z : Str, x = .str z ∧ z.length ≤ 1000 ∧ ∀ G, Same H G → Q (.bl (isTxt z m)) G) ∨ (Isa K H x "str" false ∧ Q (.bl false) H))
theorem cal_isText (B : Bi mg) (D : At K mg "is_text" s_is_text ps_is_text) : Cal P w K mg base 1 "is_text" ps_is_text (spIsText K) := by
  refine D.cal sc_is_text (fun vs H Q E h => ?_) (fun f cdv A outer s H vs Q E hr h => ?_)
  · obtain ⟨x, m, rfl, _⟩ := h
    rfl
  · obtain ⟨x, m, rfl, h⟩ := h
    refine ⟨_, (pss_cons (ps_if (PW.pt (pw_or (pt_not (pt_val (pe_callB call_isi (by rfl) B.isinstance (by decide +kernel) (pa_cons (pv 0) (pa_cons (pe_bltn (v := .ty "str") (by rfl) B.str (by decide +kernel) rfl) pa_nil))))) (pw_or1 (pt_cmpR op_gt (pe_callB call_len (by rfl) B.len (by decide +kernel) (pa_cons (pv 0) pa_nil)) (pv 1) (nomark _))))) (pss_one (ps_ret pe_bl)) pss_nil)
      (pss_one (ps_ret (pe_callB (cr_all rfl) (by rfl) B.all (by decide +kernel) (pa_cons (pe_lc (own := [("character", 2)]) (by rfl) sc_is_text.nd (pi_str (pv 0)) (blkOk_by (own := [("character", 2)]) (N := ["value", "most", "character"]) (sc := defScope s_is_text) (by decide +kernel)) (fun _ _ _ _ _ => pg_name (i := 2) sc_is_text.nd rfl (.inl rfl)) (fun _ _ _ _ _ => pts_nil) (fun _ _ _ _ _ => (pe_cmpR op_in_sign (pv 2) (pe_cst B.SIGNS (by rfl)) (by rfl)))) pa_nil))))), ?_⟩
    rcases h with ⟨z, rfl, zl, k⟩ | ⟨⟨t, i1, i2⟩, k⟩
    · obtain ⟨t, i1, i2⟩ := Isa.str_str (K := K) (H := H) (z := z)
      refine ⟨_, rfl, _, _, t, _, true, rfl, .ty _, i1, i2, _, rfl, iteF ⟨_, rfl, _, _, rfl, ⟨Nat.le_of_lt (small1000 zl), rfl⟩, _, rfl, _, _, rfl, rfl, _, rfl, ite2 (fun e => ?_) (fun e => ?_)⟩⟩
      · have e1 : ¬ (z.length : Int) ≤ m := by
          have := of_decide_eq_true e
          omega
        have e2 : isTxt z m = false := by
          unfold isTxt
          rw [decide_eq_false e1, Bool.false_and]
        rw [e2] at k
        exact k H (Same.refl H)
      · have e1 : (z.length : Int) ≤ m := by
          have h2 : ¬ m < (z.length : Int) := fun h3 => e (decide_eq_true h3)
          omega
        refine ⟨_, rfl, z, rfl, fun D nD => lc_it walk_str (fun i J => Same H J ∧ J D = some (.lst (((z.cps.toList.take i).map fun c => decide (c ∈ signs.cps.toList)).map V.bl)))
          ⟨same_new nD, by rw [upd_same]; rfl⟩ (fun _ _ _ _ => trivial) ?_ ?_⟩
        · rintro i v J _ hi ⟨sJ, eJ⟩ ⟨rfl, c, hc, rfl⟩
          refine ⟨rfl, yes (iteT ?_)⟩
          refine ⟨_, rfl, c, signs, rfl, rfl, _, eJ, small1000 ?_, ?_, ?_⟩
          · rw [List.length_map, List.length_map, List.length_take]
            have : z.length = z.cps.toList.length := rfl
            omega
          · exact fun b o e => by
              rw [upd_ne (ne_of_none e nD)]
              exact sJ b o e
          · rw [upd_same]
            have hc' : z.cps.toList[i]? = some c := by
              rw [← Array.getElem?_toList] at hc
              exact hc
            rw [List.take_add_one, hc', List.map_append, List.map_append]
            rfl
        · rintro J ⟨sJ, eJ⟩
          refine ⟨D, ((z.cps.toList.take z.cps.size).map fun c => decide (c ∈ signs.cps.toList)), rfl, .inl (.inl eJ), ?_⟩
          have e2 : ((z.cps.toList.take z.cps.size).map fun c => decide (c ∈ signs.cps.toList)).all id = isTxt z m := by
            unfold isTxt
            rw [decide_eq_true e1, Bool.true_and, List.take_of_length_le (show z.cps.toList.length ≤ z.cps.size from Nat.le_refl _), List.all_map]
            rfl
          rw [e2]
          exact k J sJ
    · refine ⟨_, rfl, _, _, t, _, false, rfl, .ty _, i1, i2, _, rfl, iteT (iteT k)⟩
end
end Gu
namespace Gu
open PySem PySem.Spec PyProof.Rows L2
/-! ### is_tuple -/
theorem isaTupP {K : PySem.W.Frag} {H : Hp} {l : Addr} {xs : List V} (h : SqT K H l xs) : Isa K H (.ref l) "tuple" true := by
  rcases h with (h | ⟨o, h⟩) | ⟨o, its, n, e, c, _⟩
  · exact ⟨_, .base (.tup h), kit_ty (by decide +kernel)⟩
  · exact ⟨_, .fTuple h, kit_ty (by decide +kernel)⟩
  · exact ⟨_, .kTuple e c, kit_ty (by decide +kernel)⟩
section
variable {P : Program} {w : World} {K : PySem.W.Frag} {mg : Str → Option Value} {base : Heap} {C : Addr}
def spIsTuple (K : PySem.W.Frag) : Sp := fun vs H Q _ => ∃ (x : V) (a b : Int), vs = [x, .int a, .int b] ∧
  ((∃ (l : Addr) (xs : List V), x = .ref l ∧ SqT K H l xs ∧ Q (.bl (decide (a ≤ (xs.length : Int) ∧ (xs.length : Int) ≤ b))) H) ∨ (Isa K H x "tuple" false ∧ Q (.bl false) H))
theorem cal_isTuple (B : Bi mg) (D : At K mg "is_tuple" s_is_tuple ps_is_tuple) : Cal P w K mg base 1 "is_tuple" ps_is_tuple (spIsTuple K) := by
  refine D.cal sc_is_tuple (fun vs H Q E h => ?_) (fun f cdv A outer s H vs Q E hr h => ?_)
  · obtain ⟨x, a, b, rfl, _⟩ := h
    rfl
  · obtain ⟨x, a, b, rfl, h⟩ := h
    refine ⟨_, (pss_one (ps_ret (pe_and (pe_callB call_isi (by rfl) B.isinstance (by decide +kernel) (pa_cons (pv 0) (pa_cons (pe_bltn (v := .ty "tuple") (by rfl) B.tuple (by decide +kernel) rfl) pa_nil))) (pe_one (pe_chain op_le op_le (pv 1) (pe_callB call_len (by rfl) B.len (by decide +kernel) (pa_cons (pv 0) pa_nil)) (pv 2)))))), ?_⟩
    rcases h with ⟨l, xs, rfl, hT, k⟩ | ⟨⟨t, i1, i2⟩, k⟩
    · obtain ⟨t, i1, i2⟩ := isaTupP hT
      refine ⟨_, rfl, _, _, t, _, true, rfl, .ty _, i1, i2, _, rfl, iteT ?_⟩
      refine ⟨_, rfl, _, rfl, _, _, rfl, .inr ⟨_, hT, rfl⟩, _, _, rfl, rfl, _, rfl, ?_⟩
      by_cases e1 : a ≤ (xs.length : Int)
      · rw [decide_eq_true e1]
        refine iteT ⟨_, rfl, _, _, rfl, rfl, ?_⟩
        have e : decide (a ≤ (xs.length : Int) ∧ (xs.length : Int) ≤ b) = decide ((xs.length : Int) ≤ b) := by simp only [e1, true_and]
        rw [e] at k
        exact k
      · rw [decide_eq_false e1]
        refine iteF ?_
        have e : decide (a ≤ (xs.length : Int) ∧ (xs.length : Int) ≤ b) = false := by simp only [e1, false_and, decide_false]
        rw [e] at k
        exact k
    · exact ⟨_, rfl, _, _, t, _, false, rfl, .ty _, i1, i2, _, rfl, iteF k⟩
end
end Gu
namespace Gu
open PySem PySem.Spec PyProof.Rows L2
/-! ### the class Shortener, its __init__ -/
def flds (r : Rec) (b : Addr) : List (Str × V) := putF "told" (.ref b) (putF "mark" (.str r.z) (putF "tail" (.int r.t) (putF "head" (.int r.h) (putF "limit" (.int r.l) []))))
theorem flds_limit (r : Rec) (b : Addr) : (flds r b).lookup ("limit" : Str) = some (.int r.l) := by
  unfold flds
  rw [lookup_putF, if_neg (by decide +kernel), lookup_putF, if_neg (by decide +kernel), lookup_putF, if_neg (by decide +kernel), lookup_putF, if_neg (by decide +kernel), lookup_putF, if_pos rfl]
theorem flds_head (r : Rec) (b : Addr) : (flds r b).lookup ("head" : Str) = some (.int r.h) := by
  unfold flds
  rw [lookup_putF, if_neg (by decide +kernel), lookup_putF, if_neg (by decide +kernel), lookup_putF, if_neg (by decide +kernel), lookup_putF, if_pos rfl]
theorem flds_tail (r : Rec) (b : Addr) : (flds r b).lookup ("tail" : Str) = some (.int r.t) := by
  unfold flds
  rw [lookup_putF, if_neg (by decide +kernel), lookup_putF, if_neg (by decide +kernel), lookup_putF, if_pos rfl]
theorem flds_mark (r : Rec) (b : Addr) : (flds r b).lookup ("mark" : Str) = some (.str r.z) := by
  unfold flds
  rw [lookup_putF, if_neg (by decide +kernel), lookup_putF, if_pos rfl]
theorem flds_told (r : Rec) (b : Addr) : (flds r b).lookup ("told" : Str) = some (.ref b) := by
  unfold flds
  rw [lookup_putF, if_pos rfl]
/-- what a Shortener may be made of -/
structure Rec.fit (r : Rec) : Prop where
  l : 0 ≤ r.l ∧ r.l ≤ 40
  h : 0 ≤ r.h ∧ r.h ≤ 40
  t : 0 ≤ r.t ∧ r.t ≤ 40
  z : isTxt r.z 3 = true
theorem isTxt_len {z : Str} {m : Int} (h : isTxt z m = true) : (z.length : Int) ≤ m := by
  unfold isTxt at h
  rw [Bool.and_eq_true] at h
  exact of_decide_eq_true h.1
theorem Rec.ok.fit {r : Rec} (o : r.ok) : r.fit := by
  have a : ∀ y ∈ marks, isTxt y 3 = true := by decide +kernel
  exact ⟨⟨o.l0, o.l1⟩, ⟨o.h0, o.h1⟩, ⟨o.t0, o.t1⟩, a _ o.z⟩
/-- the class as the top has left it -/
structure ShC (K : PySem.W.Frag) (mg : Str → Option Value) (C : Addr) : Prop where
  cl : Cls K C
  nL : NoAttr K C "limit"
  nH : NoAttr K C "head"
  nT : NoAttr K C "tail"
  nM : NoAttr K C "mark"
  nD : NoAttr K C "told"
  g : mg "Shortener" = some (.ref C)
  ha : PySem.W.findIn K (.ref C) "__class__" = some (some (.builtin "object.__class__"))
  hn : PySem.W.specialIn K (.builtin "object.__class__") "__get__" = some (some (.builtin "getset_descriptor.__get__"))
  ht : PySem.W.takesIn K (.builtin "object.__class__") = some true
  hm : PySem.W.mroIn K C (.type "object") = some true
  kk : PySem.W.kitOne K (.ref C) (.ref C) = some true
structure InitAt (K : PySem.W.Frag) (C : Addr) : Prop where
  ex : ∃ (f : Addr) (fd : FuncData), Mk K C f ∧ Fun K "__init__" "Shortener.__init__" s_Shortener_init f fd ∧ Binds K fd ps_Shortener_init []
structure Mak (P : Program) (w : World) (K : PySem.W.Frag) (mg : Str → Option Value) (base : Heap) (k : Nat) (x : Str) (C : Addr) (sp : Sp) : Prop where
  ex : ∃ (f : Addr) (fd : FuncData) (ps : List Str), Mk K C f ∧ FnOk P w K mg base CX0 k f fd ps sp ∧ mg x = some (.ref C) ∧ Binds K fd ps []
section
variable {X : Cx} {k j : Nat} {x : Str} {C : Addr} {sp : Sp} {p pos : Pos} {e : Expr} {es : List Expr} {t : TA}
theorem pe_new (c : Mak X.prog X.w X.K X.mg X.base k x C sp) (hr : Room j X.A) (hk : k + 1 ≤ j) (hg : Gl X x) (ha : PA X (e :: es) t)
    (hdb : (x == ("__debug__" : Str)) = false := by decide) (he : starEach (e :: es) X.env = (false, eval e X.env) :: starEach es X.env := by rfl) (hpl : (backTo pos (starEach es X.env)).any (·.1) = false := by rfl) :
    PE X (.Call (.Name x p) (e :: es) [] pos) (tMake C sp [] E0 t) := by
  obtain ⟨f, fd, ps, M, F, hm, b⟩ := c.ex
  exact pe_make M F (hr.mono hk) hg hm b .nil pass0 ha hdb he hpl
end
section
variable {P : Program} {w : World} {K : PySem.W.Frag} {mg : Str → Option Value} {base : Heap} {C : Addr}
def spCheckMark : Sp := fun vs H Q _ => ∃ (z : Str), vs = [.str z] ∧ isTxt z 3 = true ∧ ∀ G, Same H G → Q .non G
theorem cal_checkMark (B : Bi mg) (D : At K mg "check_mark" s_check_mark ps_check_mark) (C_is_text : Cal P w K mg base 1 "is_text" ps_is_text (spIsText K)) : Cal P w K mg base 2 "check_mark" ps_check_mark spCheckMark := by
  refine D.cal sc_check_mark (fun vs H Q E h => ?_) (fun f cdv A outer s H vs Q E hr h => ?_)
  · obtain ⟨z, rfl, _⟩ := h
    rfl
  · obtain ⟨z, rfl, hz, k⟩ := h
    have zl := isTxt_len hz
    refine ⟨_, (pss_one (ps_if (pt_not (pt_val (pe_own C_is_text hr (by decide) (by rfl) (pa_cons (pv 0) (pa_cons (pe_cst B.MOST_MARK (by rfl)) pa_nil))))) pss_never pss_nil)), ?_⟩
    refine ⟨_, rfl, _, _, rfl, .inl ⟨z, rfl, by omega, fun G sG => ⟨_, rfl, ?_⟩⟩⟩
    rw [hz]
    exact iteF (k G sG)
def spInit (C : Addr) : Sp := fun vs H Q _ => ∃ (x dx : Addr) (r : Rec), vs = [.ref x, .int r.l, .int r.h, .int r.t, .str r.z] ∧ H x = some (.ins C dx []) ∧ r.fit ∧
  ∀ (b : Addr) (G : Hp), H b = none → G x = some (.ins C dx (flds r b)) → G b = some (.tup r.vs) → (∀ c o, H c = some o → c ≠ x → G c = some o) → Q .non G
theorem ok_init {f : Addr} {fd : FuncData} (B : Bi mg) (S : ShC K mg C) (F : Fun K "__init__" "Shortener.__init__" s_Shortener_init f fd) (C_is_integer : Cal P w K mg base 1 "is_integer" ps_is_integer (spIsInteger K)) (C_check_mark : Cal P w K mg base 2 "check_mark" ps_check_mark spCheckMark) : FnOk P w K mg base CX0 3 f fd ps_Shortener_init (spInit C) := by
  refine F.ok sc_Shortener_init (fun vs H Q E h => ?_) (fun cdv A outer s H vs Q E hr h => ?_)
  · obtain ⟨x, dx, r, rfl, _⟩ := h
    rfl
  · obtain ⟨x, dx, r, rfl, hx, fit, k⟩ := h
    refine ⟨_, (pss_cons (ps_for PassesOwn.never rfl (pi_tup (pe_tup (pa_cons (pv 1) (pa_cons (pv 2) (pa_cons (pv 3) pa_nil))))) (pg_name (i := 5) sc_Shortener_init.nd rfl (.inl rfl))
      (pss_one (ps_if (pt_not (pt_val (pe_own C_is_integer hr (by decide) (by rfl) (pa_cons (pv 5) (pa_cons pe_int (pa_cons (pe_cst B.MOST_SIGNS (by rfl)) pa_nil)))))) pss_never pss_nil)))
      (pss_cons (ps_expr (pe_own C_check_mark hr (by decide) (by rfl) (pa_cons (pv 4) pa_nil)))
      (pss_cons (ps_fld (pv 0) (pv 1) rfl)
      (pss_cons (ps_fld (pv 0) (pv 2) rfl)
      (pss_cons (ps_fld (pv 0) (pv 3) rfl)
      (pss_cons (ps_fld (pv 0) (pv 4) rfl)
      (pss_one (ps_fld (pv 0) (pe_tup (pa_cons (pv 1) (pa_cons (pv 2) (pa_cons (pv 3) (pa_cons (pv 4) pa_nil))))) rfl)))))))), ?_⟩
    refine ⟨_, rfl, _, rfl, _, rfl, by show 3 ≤ sizeLine; decide, fun T nT => ?_⟩
    have nxT : x ≠ T := ne_of_none hx nT
    have hxT : upd H T (.tup [.int r.l, .int r.h, .int r.t]) x = some (.ins C dx []) := by rw [upd_ne nxT]; exact hx
    refine ⟨T, rfl, ⟨_, .inl (.inl upd_same)⟩, for_tup (K := K) (a := T) (xs := [.int r.l, .int r.h, .int r.t]) (fun i σ J => ∃ u, σ = [some (.ref x), some (.int r.l), some (.int r.h), some (.int r.t), some (.str r.z), u] ∧ J = upd H T (.tup [.int r.l, .int r.h, .int r.t]))
      ⟨none, rfl, rfl⟩ (fun i σ J _ ⟨_, _, e⟩ => by rw [e]; exact .inl (.inl upd_same)) ?_ ?_⟩
    · rintro i v σ J hi ⟨u, rfl, rfl⟩
      obtain ⟨n, n0, n1, rfl⟩ : ∃ n : Int, 0 ≤ n ∧ n ≤ 40 ∧ v = .int n := by
        have hv := List.mem_of_getElem? hi
        simp only [List.mem_cons, List.not_mem_nil, or_false] at hv
        rcases hv with rfl | rfl | rfl
        · exact ⟨_, fit.l.1, fit.l.2, rfl⟩
        · exact ⟨_, fit.h.1, fit.h.2, rfl⟩
        · exact ⟨_, fit.t.1, fit.t.2, rfl⟩
      refine ⟨_, rfl, _, _, _, rfl, .inl ⟨_, rfl, _, rfl, ?_⟩⟩
      rw [decide_eq_true ⟨n0, n1⟩]
      exact iteF ⟨_, rfl, rfl⟩
    · rintro σ J ⟨u, rfl, rfl⟩
      refine ⟨_, rfl, _, rfl, fit.z, fun G sG => ?_⟩
      have g0 : G x = some (.ins C dx []) := sG _ _ hxT
      refine ⟨_, rfl, _, rfl, x, C, dx, [], rfl, g0, S.cl, S.nL, by decide, ?_⟩
      refine ⟨_, rfl, _, rfl, x, C, dx, _, rfl, upd_same, S.cl, S.nH, by exact Nat.lt_of_le_of_lt (length_putF _ _ _) (by decide), ?_⟩
      rw [upd_upd]
      refine ⟨_, rfl, _, rfl, x, C, dx, _, rfl, upd_same, S.cl, S.nT, by exact Nat.lt_of_le_of_lt (length_putF _ _ _) (Nat.lt_of_le_of_lt (Nat.succ_le_succ (length_putF _ _ _)) (by decide)), ?_⟩
      rw [upd_upd]
      refine ⟨_, rfl, _, rfl, x, C, dx, _, rfl, upd_same, S.cl, S.nM, by exact Nat.lt_of_le_of_lt (length_putF _ _ _) (Nat.lt_of_le_of_lt (Nat.succ_le_succ (Nat.le_trans (length_putF _ _ _) (Nat.succ_le_succ (length_putF _ _ _)))) (by decide)), ?_⟩
      rw [upd_upd]
      refine ⟨_, rfl, _, rfl, _, rfl, _, rfl, by show 4 ≤ sizeLine; decide, fun b nb => ?_⟩
      have nxb : x ≠ b := ne_of_none upd_same nb
      refine ⟨_, rfl, x, C, dx, _, rfl, (by rw [upd_ne nxb, upd_same]), S.cl, S.nD, by exact Nat.lt_of_le_of_lt (length_putF _ _ _) (Nat.lt_of_le_of_lt (Nat.succ_le_succ (Nat.le_trans (length_putF _ _ _) (Nat.succ_le_succ (Nat.le_trans (length_putF _ _ _) (Nat.succ_le_succ (length_putF _ _ _)))))) (by decide)), ?_⟩
      have nb1 : G b = none := by rw [upd_ne nxb.symm] at nb; exact nb
      have nb0 : H b = none := (same_new nT).free (sG.free nb1)
      refine k b _ nb0 upd_same (by rw [upd_ne nxb.symm, upd_same]; rfl) fun c o e nc => ?_
      rw [upd_ne nc, upd_ne (ne_of_none e nb0), upd_ne nc]
      exact sG _ _ (same_new nT _ _ e)
theorem mak_sh (B : Bi mg) (S : ShC K mg C) (D : InitAt K C) (C_is_integer : Cal P w K mg base 1 "is_integer" ps_is_integer (spIsInteger K)) (C_check_mark : Cal P w K mg base 2 "check_mark" ps_check_mark spCheckMark) : Mak P w K mg base 3 "Shortener" C (spInit C) := by
  obtain ⟨f, fd, M, F, b⟩ := D.ex
  exact ⟨f, fd, ps_Shortener_init, M, ok_init B S F C_is_integer C_check_mark, S.g, b⟩
end
end Gu
namespace PySem
open Sem (wp)
open AutoSeq1 (wpAny_loadPart')
theorem gu_new_enum (a : Addr) (vs : Array Value) (n : Nat) (dt : Option Addr) (sl : Array (Option Value)) : Meets (Builtin.«enumerate.__new__» ⟨[.type "enumerate", .ref a], []⟩) (fun _ R s =>
    s.heap.get? a = some ⟨.type "tuple", dt, .seq vs n, sl⟩ ∧ R (.ok (.ret (.ref (s.heap.push { cls := .type "tuple_iterator", data := .fields #[.ref a, .int 0 0] }).objs.size))) { s with heap := (s.heap.push { cls := .type "tuple_iterator", data := .fields #[.ref a, .int 0 0] }).push { cls := .type "enumerate", data := .fields #[.none, .bool false, .ref s.heap.objs.size, rawInt 0, .none, .none] } }) :=
  .of_wp fun prog w A R s h => by
    obtain ⟨s1, s2, s3, s4, s5⟩ := s
    obtain ⟨ha, h⟩ := h
    have sb := sub_enumerate
    have hT : Heap.IsTuple (Shared.heap ⟨s1, s2, s3, s4, s5⟩) a vs := ⟨_, ha, rfl, n, rfl⟩
    wp_walk using wpAny_loadPart' ha
    refine wpAny_stack_any fun fr => wpAny_pure ?_
    split
    · next c _ _ _ _ _ =>
      cases (c == Value.type "enumerate") <;> (wp_walk using wpAny_loadPart' ha, wpAny_pyIter_tuple hT; exact ⟨_, rfl, h⟩)
    · wp_walk using wpAny_loadPart' ha, wpAny_pyIter_tuple hT
      exact ⟨_, rfl, h⟩
section
variable {prog : Program} {w : World} {A : Around} {E : Value → Shared → Prop} {s : Shared}
theorem gu_call_enum {a : Addr} {vs : Array Value} {Q : Value → Shared → Prop} (hT : s.heap.IsTuple a vs)
    (h : ∀ g, IsEnum g (s.heap.objs.size + 1) s.heap.objs.size 0 .none → g.IsTupleIter s.heap.objs.size a 0 → (∀ b o, s.heap.get? b = some o → g.get? b = some o) → Q (.ref (s.heap.objs.size + 1)) { s with heap := g }) :
    wpAny (model prog w) A (call (.type "enumerate") [.ref a]) Q E s := by
  obtain ⟨⟨oc, od, dd, sl⟩, ha, hc, n, hd⟩ := hT
  cases (show oc = .type "tuple" from hc)
  cases (show dd = .seq vs n from hd)
  refine callType_new F.called_enumerate (by decide) (F.typeCall_enumerate_1 _) (F.newCall_enumerate_1 _) (fun o => F.args_object_init_2 o _) F.entry_enumerate_new (gu_new_enum a vs n od sl) ⟨ha, ?_⟩
  have z1 : (s.heap.push { cls := .type "tuple_iterator", data := .fields #[.ref a, .int 0 0] }).objs.size = s.heap.objs.size + 1 := Heap.size_push ..
  show _ ∧ _
  rw [z1]
  have en : IsEnum ((s.heap.push { cls := .type "tuple_iterator", data := .fields #[.ref a, .int 0 0] }).push { cls := .type "enumerate", data := .fields #[.none, .bool false, .ref s.heap.objs.size, rawInt 0, .none, .none] }) (s.heap.objs.size + 1) s.heap.objs.size 0 .none := by
    have q := Heap.get?_push_size (s.heap.push { cls := .type "tuple_iterator", data := .fields #[.ref a, .int 0 0] }) (o := { cls := .type "enumerate", data := .fields #[.none, .bool false, .ref s.heap.objs.size, rawInt 0, .none, .none] }) rfl
    rw [z1] at q
    exact q
  exact ⟨⟨_, en, rfl⟩, h _ en ⟨_, Heap.get?_push_of_some _ (Heap.get?_push_size _ rfl), rfl, rfl⟩ fun b o x => Heap.get?_push_of_some _ (Heap.get?_push_of_some _ x)⟩
end
end PySem
namespace Gu
open PySem PySem.Spec PyProof.Rows L2
/-- the tuple at a, each item in a new pair with its place -/
def EnT (K : PySem.W.Frag) (a : Addr) : It where
  go := fun i H => ∃ (xs : List V) (x : V), SqT K H a xs ∧ xs[i]? = some x
  yld := fun i H v G => ∃ T x, v = .ref T ∧ H T = none ∧ G = upd H T (.tup [.int (i : Nat), x]) ∧ ∀ xs, SqT K H a xs → xs[i]? = some x
  stop := fun i H => ∃ xs : List V, SqT K H a xs ∧ xs.length = i
theorem turn_enT {P : Program} {w : World} {K : PySem.W.Frag} {es : List Expr} {kk : Nat} {tp : Pos} (a e it : Addr) :
    Turn P w K (.Tuple es kk tp) (EnT K a) [e, it] e (fun i h => (∃ old, IsEnum h e it ((i : Nat) : Int) old) ∧ h.IsTupleIter it a i ∧ e ≠ it) where
  mem := List.mem_cons_self ..
  obj := fun i h st b hb => by
    obtain ⟨⟨old, he⟩, ⟨o, ho, hc, hd⟩, _⟩ := st
    simp only [List.mem_cons, List.not_mem_nil, or_false] at hb
    rcases hb with rfl | rfl
    · exact ⟨_, he, fun v q => nomatch q⟩
    · exact ⟨o, ho, fun v q => by rw [hd] at q; cases q⟩
  keep := fun i h g st k => by
    obtain ⟨⟨old, he⟩, hi, ne⟩ := st
    exact ⟨⟨old, k e (by simp) _ he⟩, hi.at fun o q => k it (by simp) o q, ne⟩
  item := by
    intro X hP hw hK hc i pins s σ H E I hf st hg
    subst hP hw hK
    obtain ⟨⟨old, he⟩, hit, ne⟩ := st
    obtain ⟨xs, x, hq, hx⟩ := hg
    obtain ⟨its, rv, tp, hz⟩ := I.tuple hq
    obtain ⟨u, hu, ru⟩ := rv.get hx
    have el : e < s.heap.objs.size := Heap.lt_size he
    have il : it < s.heap.objs.size := by
      obtain ⟨_, q, _⟩ := hit
      exact Heap.lt_size q
    have tp' : s.heap.IsTuple a its.toArray := tp
    have nai : a ≠ it := fun z => by
      obtain ⟨o1, g1, c1, _⟩ := tp'
      obtain ⟨o2, g2, c2, _⟩ := hit
      rw [z] at g1
      cases g1.symm.trans g2
      exact absurd (Value.type.inj (c1.symm.trans c2)) (by decide)
    have nea : e ≠ a := fun z => by
      obtain ⟨o1, g1, c1, _⟩ := tp'
      have g2 := he
      rw [z] at g2
      cases g1.symm.trans g2
      exact absurd (Value.type.inj c1) (by decide)
    have hd : X.A.in1.handled = none := I.ok.hd hc
    refine wpAny_pyNext_enum_itemD (Draws.tuple hd it a nai its.toArray) he ⟨hit, tp'⟩ (i := i) (by
      have := (List.getElem?_eq_some_iff.mp hu).1
      simpa using this) ne (by simp [ne, nea]) fun y g tk hy ho st' hT hsz hk => ?_
    have ey : y = u := by
      have : its[i]? = some y := by simpa using hy
      rw [hu] at this
      exact (Option.some.inj this).symm
    subst ey
    refine ⟨_, rfl, wpAny_letOwnedTupleGo_enum (s := { s with heap := g, toks := tk + 1 }) ho fun g2 he' sb => ?_⟩
    have hT2 : g2.get? s.heap.objs.size = some { cls := .type "tuple", data := .seq #[.int i tk, y] } := (sb.2 _ (Nat.ne_of_gt el)).trans hT
    have nw : ObjOk X.prog X.w (upd H s.heap.objs.size (.tup [.int (i : Nat), x])) g2 s.heap.objs.size (.tup [.int (i : Nat), x]) := ⟨by show 2 ≤ sizeLine; decide, [.int i tk, y], .cons ⟨_, rfl⟩ (.cons ru .nil), ⟨_, hT2, rfl, _, rfl⟩⟩
    have I1 : Inv X pins σ (upd H s.heap.objs.size (.tup [.int (i : Nat), x])) { s with heap := g2, toks := tk + 1 } :=
      I.turnedNew (ch := [e, it]) (fun b ob hb q => (sb.2 b (fun z => hb (by simp [z]))).trans (hk b ob (fun z => hb (by simp [z])) (fun z => hb (by simp [z])) q)) hf (Nat.le_refl _) nw
    refine ⟨.ref s.heap.objs.size, _, I1, rfl, ⟨_, x, rfl, I.hok.fresh (Nat.le_refl _), rfl, fun ys hy => by rw [I.tuple_inj hy hq]; exact hx⟩, ⟨⟨y, ?_⟩, st'.1.at fun o q => (sb.2 it (Ne.symm ne)).trans q, ne⟩, fun b hb => ?_⟩
    · rw [show ((i + 1 : Nat) : Int) = (i : Int) + 1 by omega]
      exact he'
    · have hb' : b < s.heap.objs.size := by
        simp only [List.mem_cons, List.not_mem_nil, or_false] at hb
        rcases hb with rfl | rfl
        · exact el
        · exact il
      rw [upd_ne (Nat.ne_of_lt hb')]
      exact (hf b hb).1
  done := by
    intro X hP hw hK hc i pins s σ H E I hf st hg
    subst hP hw hK
    obtain ⟨⟨old, he⟩, hit, ne⟩ := st
    obtain ⟨xs, hq, hx⟩ := hg
    obtain ⟨its, rv, tp, hz⟩ := I.tuple hq
    have tp' : s.heap.IsTuple a its.toArray := tp
    have nai : a ≠ it := fun z => by
      obtain ⟨o1, g1, c1, _⟩ := tp'
      obtain ⟨o2, g2, c2, _⟩ := hit
      rw [z] at g1
      cases g1.symm.trans g2
      exact absurd (Value.type.inj (c1.symm.trans c2)) (by decide)
    have hd : X.A.in1.handled = none := I.ok.hd hc
    have en : its.toArray.size = i := by
      have := rv.length
      simp only [List.size_toArray]
      omega
    obtain ⟨f0, f1, f2, f3, f4, f5⟩ := hf it (by simp)
    exact wpAny_pyNext_enum_endD (Draws.tuple hd it a nai its.toArray) he ⟨by rw [en]; exact hit, tp'⟩ fun g eb => ⟨rfl, I.turned (t' := s.toks) (fun b o hb q => eb b o hb q) f0 f1 f3 f4 f5⟩
  self := fun A i s Q E st h => by
    obtain ⟨⟨_, he⟩, _⟩ := st
    exact wpAny_pyIter_enum he h
def iEnT (K : PySem.W.Frag) (ta : TA) : TI := fun σ H R => ta σ H fun vs G => ∃ a xs, vs = [.ref a] ∧ SqT K G a xs ∧ R (EnT K a) G
theorem pi_enT {X : Cx} {e : Expr} {ta : TA} {p pos tp : Pos} {es : List Expr} {kk : Nat} (hg : Gl X "enumerate") (hm : X.mg "enumerate" = none) (ha : PA X [e] ta) (hs : starEach [e] X.env = [(false, eval e X.env)] := by rfl) :
    PI X (.Tuple es kk tp) (.Call (.Name "enumerate" p) [e] [] pos) (iEnT X.K ta) := by
  refine ⟨fun pins s σ H R I h => ?_⟩
  refine Call_ (ld_blt I hg hm boot_enumerate (PyProof.Rows.callWith_type1 (thn (ha.run pos pins s σ H _ I h) fun us s1 ⟨vs, G, I1, r1, q1⟩ => ?_) hs rfl))
  obtain ⟨a, xs, ex, hq, q⟩ := q1
  subst ex
  cases r1 with
  | cons r rr =>
    cases rr
    cases r
    obtain ⟨its, rv, tq, hz⟩ := I1.tuple hq
    refine gu_call_enum (show s1.heap.IsTuple a its.toArray from tq) fun g he hit hk => wpAny_pyIter_enum he ?_
    have I2 : Inv X pins σ G { s1 with heap := g } := I1.kept (t' := s1.toks) hk
    refine ⟨s1.heap.objs.size + 1, [s1.heap.objs.size + 1, s1.heap.objs.size], _, _, G, rfl, I2, turn_enT a (s1.heap.objs.size + 1) s1.heap.objs.size, ⟨⟨.none, he⟩, hit, Nat.succ_ne_self _⟩, fun b hb => ?_, q⟩
    have le : s1.heap.objs.size ≤ b := by
      simp only [List.mem_cons, List.not_mem_nil, or_false] at hb
      rcases hb with rfl | rfl
      · exact Nat.le_add_right _ _
      · exact Nat.le_refl _
    exact I1.fpOk le (I1.hok.fresh le)
/-- the walk of such a loop: a new pair each turn -/
theorem walk_enT {K : PySem.W.Frag} {a : Addr} {xs : List V} : Walk (EnT K a) xs.length (fun H => SqT K H a xs) (fun i H v G => ∃ T x, xs[i]? = some x ∧ v = .ref T ∧ H T = none ∧ G = upd H T (.tup [.int (i : Nat), x])) where
  goes := fun i H hi h => ⟨xs, xs[i], h, List.getElem?_eq_getElem hi⟩
  stops := fun H h => ⟨xs, h, rfl⟩
  yields := fun i H v G hi h ⟨T, x, e1, e2, e3, e4⟩ => ⟨T, x, e4 xs h, e1, e2, e3⟩
end Gu
namespace Gu
open PySem PySem.Spec PyProof.Rows L2
/-! ### what is cut, as lists -/
def cut {α : Type} (l h t : Nat) (m xs : List α) : List α := if xs.length ≤ l then xs else xs.take h ++ m ++ xs.drop (xs.length - t)
theorem cut_front {α : Type} (xs : List α) {h : Int} (h0 : 0 ≤ h) : (xs.drop (HT.sIx xs.length 0 none)).take (HT.sIx xs.length xs.length (some h) - HT.sIx xs.length 0 none) = xs.take h.toNat := by
  obtain ⟨k, rfl⟩ := Int.eq_ofNat_of_zero_le h0
  rw [HT.sIx_none, HT.sIx_nat, List.drop_zero, Nat.sub_zero, Int.toNat_natCast, List.take_eq_take_iff]
  omega
theorem cut_back {α : Type} (xs : List α) {h : Int} (h0 : 0 ≤ h) : (xs.drop (HT.sIx xs.length 0 (some h))).take (HT.sIx xs.length xs.length none - HT.sIx xs.length 0 (some h)) = xs.drop h.toNat := by
  obtain ⟨k, rfl⟩ := Int.eq_ofNat_of_zero_le h0
  rw [HT.sIx_none, HT.sIx_nat, Int.toNat_natCast]
  rw [List.take_of_length_le (by rw [List.length_drop]; omega)]
  by_cases e : k ≤ xs.length
  · rw [Nat.min_eq_left e]
  · rw [Nat.min_eq_right (by omega), List.drop_length, List.drop_eq_nil_of_le (by omega)]
theorem cut_length {α : Type} {l h t : Nat} {m xs : List α} : (cut l h t m xs).length ≤ max xs.length (h + m.length + t) := by
  unfold cut
  split
  · omega
  · rw [List.length_append, List.length_append, List.length_take, List.length_drop]
    omega
theorem app_cps (a b : Str) : (a ++ b).cps.toList = a.cps.toList ++ b.cps.toList := by
  show (a.cps ++ b.cps).toList = _
  rw [Array.toList_append]
def Rec.cut (r : Rec) (xs : List Nat) : List Nat := Gu.cut r.l.toNat r.h.toNat r.t.toNat r.z.cps.toList xs
def cuts (rs : List Rec) (xs : List Nat) : List Nat := rs.foldl (fun acc r => r.cut acc) xs
theorem Rec.fit.zl {r : Rec} (f : r.fit) : r.z.cps.toList.length ≤ 3 := by
  have h := isTxt_len f.z
  have e : r.z.length = r.z.cps.toList.length := rfl
  omega
theorem Rec.fit.cut_len {r : Rec} (f : r.fit) {xs : List Nat} (h : xs.length ≤ 200) : (r.cut xs).length ≤ 200 := by
  have a : (r.cut xs).length ≤ _ := cut_length
  have b := f.zl
  have c := f.h
  have d := f.t
  omega
/-! ### shorteners and rows in the heap -/
def ShAt (C : Addr) (H : Hp) (x : Addr) (r : Rec) : Prop := ∃ dx b, H x = some (.ins C dx (flds r b)) ∧ H b = some (.tup r.vs)
structure RowAt (C : Addr) (H : Hp) (a : Addr) (rs : List (Addr × Rec)) : Prop where
  tp : H a = some (.tup (rs.map fun q => V.ref q.1))
  sh : ∀ q ∈ rs, ShAt C H q.1 q.2 ∧ q.2.fit
theorem ShAt.same {C : Addr} {H G : Hp} {x : Addr} {r : Rec} (s : Same H G) (h : ShAt C H x r) : ShAt C G x r := by
  obtain ⟨dx, b, h1, h2⟩ := h
  exact ⟨dx, b, s _ _ h1, s _ _ h2⟩
theorem RowAt.same {C : Addr} {H G : Hp} {a : Addr} {rs : List (Addr × Rec)} (s : Same H G) (h : RowAt C H a rs) : RowAt C G a rs := ⟨s _ _ h.tp, fun q hq => ⟨(h.sh q hq).1.same s, (h.sh q hq).2⟩⟩
section
variable {P : Program} {w : World} {K : PySem.W.Frag} {mg : Str → Option Value} {base : Heap} {C : Addr}
/-! ### check_row, check_text -/
def spCheckRow (C : Addr) : Sp := fun vs H Q _ => ∃ (a : Addr) (rs : List (Addr × Rec)), vs = [.ref a] ∧ RowAt C H a rs ∧ 1 ≤ rs.length ∧ rs.length ≤ 4 ∧ ∀ G, Same H G → Q .non G
theorem cal_checkRow (B : Bi mg) (S : ShC K mg C) (D : At K mg "check_row" s_check_row ps_check_row) (C_is_tuple : Cal P w K mg base 1 "is_tuple" ps_is_tuple (spIsTuple K)) : Cal P w K mg base 2 "check_row" ps_check_row (spCheckRow C) := by
  refine D.cal sc_check_row (fun vs H Q E h => ?_) (fun f cdv A outer s H vs Q E hr h => ?_)
  · obtain ⟨a, rs, rfl, _⟩ := h
    rfl
  · obtain ⟨a, rs, rfl, hR, l1, l4, k⟩ := h
    refine ⟨_, (pss_cons (ps_if (pt_not (pt_val (pe_own C_is_tuple hr (by decide) (by rfl) (pa_cons (pv 0) (pa_cons pe_int (pa_cons (pe_cst B.MOST_ROW (by rfl)) pa_nil)))))) pss_never pss_nil)
      (pss_one (ps_for PassesOwn.never rfl (pi_enT (by rfl) B.enumerate (pa_cons (pv 0) pa_nil)) (pg_tup rfl (pgs_cons (pg_name (i := 1) sc_check_row.nd rfl (.inl rfl)) (pgs_cons (pg_name (i := 2) sc_check_row.nd rfl (.inl rfl)) pgs_nil)))
      (pss_one (ps_if (pt_not (pt_val (pe_callB call_isi (by rfl) B.isinstance (by decide +kernel) (pa_cons (pv 2) (pa_cons (pe_glob (v := .ref C) (by rfl) S.g rfl) pa_nil))))) pss_never pss_nil))))), ?_⟩
    refine ⟨_, rfl, _, _, _, rfl, .inl ⟨a, _, rfl, .inl (.inl hR.tp), _, rfl, ?_⟩⟩
    rw [decide_eq_true (show (1 : Int) ≤ ((rs.map fun q => V.ref q.1).length : Int) ∧ ((rs.map fun q => V.ref q.1).length : Int) ≤ 4 by rw [List.length_map]; omega)]
    refine iteF ⟨_, rfl, a, _, rfl, .inl (.inl hR.tp), for_it walk_enT (fun i σ J => ∃ u v, σ = [some (.ref a), u, v] ∧ Same H J) ⟨none, none, rfl, Same.refl H⟩ (fun i σ J _ ⟨_, _, _, sJ⟩ => .inl (.inl (sJ _ _ hR.tp))) ?_ ?_⟩
    · rintro i v σ J J1 hi ⟨u, v2, rfl, sJ⟩ ⟨T, x, hx, rfl, nT, rfl⟩
      obtain ⟨q, hq, rfl⟩ : ∃ q ∈ rs, x = .ref q.1 := by
        obtain ⟨q, h1, h2⟩ := List.mem_map.mp (List.mem_of_getElem? hx)
        exact ⟨q, h1, h2.symm⟩
      have sT : Same H (upd J T (.tup [.int (i : Nat), .ref q.1])) := sJ.trans (same_new nT)
      obtain ⟨dx, b, e1, _⟩ := ((hR.sh q hq).1).same sT
      refine ⟨T, _, rfl, .inl (.inl upd_same), rfl, _, _, rfl, _, _, rfl, rfl, ?_⟩
      refine ⟨_, rfl, _, _, _, _, true, rfl, .own C, .base (.ins e1 S.cl S.ha S.hn S.ht S.hm), S.kk, _, rfl, iteF ⟨_, _, rfl, sT⟩⟩
    · rintro σ J ⟨u, v, rfl, sJ⟩
      exact k J sJ
def spCheckText : Sp := fun vs H Q _ => ∃ (z : Str), vs = [.str z] ∧ isTxt z 200 = true ∧ ∀ G, Same H G → Q .non G
theorem cal_checkText (B : Bi mg) (D : At K mg "check_text" s_check_text ps_check_text) (C_is_text : Cal P w K mg base 1 "is_text" ps_is_text (spIsText K)) : Cal P w K mg base 2 "check_text" ps_check_text spCheckText := by
  refine D.cal sc_check_text (fun vs H Q E h => ?_) (fun f cdv A outer s H vs Q E hr h => ?_)
  · obtain ⟨z, rfl, _⟩ := h
    rfl
  · obtain ⟨z, rfl, hz, k⟩ := h
    have zl := isTxt_len hz
    refine ⟨_, (pss_one (ps_if (pt_not (pt_val (pe_own C_is_text hr (by decide) (by rfl) (pa_cons (pv 0) (pa_cons (pe_cst B.MOST_TEXT (by rfl)) pa_nil))))) pss_never pss_nil)), ?_⟩
    refine ⟨_, rfl, _, _, rfl, .inl ⟨z, rfl, by omega, fun G sG => ⟨_, rfl, ?_⟩⟩⟩
    rw [hz]
    exact iteF (k G sG)
/-! ### shortened: of a text -/
def spShortS (C : Addr) : Sp := fun vs H Q _ => ∃ (x : Addr) (r : Rec) (z : Str), vs = [.ref x, .str z, .str r.z] ∧ ShAt C H x r ∧ r.fit ∧ z.length ≤ 1000 ∧ ∀ y : Str, y.cps.toList = r.cut z.cps.toList → Q (.str y) H
theorem cal_shortS (B : Bi mg) (S : ShC K mg C) (D : At K mg "shortened" s_shortened ps_shortened) : Cal P w K mg base 1 "shortened" ps_shortened (spShortS C) := by
  refine D.cal sc_shortened (fun vs H Q E h => ?_) (fun f cdv A outer s H vs Q E hr h => ?_)
  · obtain ⟨x, r, z, rfl, _⟩ := h
    rfl
  · obtain ⟨x, r, z, rfl, ⟨dx, b, hx, _⟩, fit, zl, k⟩ := h
    have ez : z.length = z.cps.toList.length := rfl
    have zs : z.length ≤ sizeLine := Nat.le_of_lt (small1000 zl)
    have f1 := fit.l
    have f2 := fit.h
    have f3 := fit.t
    have f4 := fit.zl
    refine ⟨_, (pss_cons (ps_if (pt_cmpR op_le (pe_callB call_len (by rfl) B.len (by decide +kernel) (pa_cons (pv 1) pa_nil)) (pe_fld (pv 0) rfl) (nomark _)) (pss_one (ps_ret (pv 1))) pss_nil)
      (pss_cons (ps_set (i := 3) sc_shortened.nd rfl (.inl rfl) (pe_callB (call_max2 rfl) (by rfl) B.max (by decide +kernel) (pa_cons pe_int (pa_cons (pe_op op_sub (pe_callB call_len (by rfl) B.len (by decide +kernel) (pa_cons (pv 1) pa_nil)) (pe_fld (pv 0) rfl)) pa_nil))))
      (pss_one (ps_ret (pe_op op_add_str (pe_op op_add_str (pe_slice sl_str (pv 1) po_none (po_some (pe_fld (pv 0) rfl))) (pv 2)) (pe_slice sl_str (pv 1) (po_some (pv 3)) po_none)))))), ?_⟩
    refine ⟨_, rfl, _, _, rfl, ⟨zs, rfl⟩, _, rfl, x, C, dx, _, _, rfl, hx, S.cl, S.nL, flds_limit _ _, _, _, rfl, rfl, _, rfl, ite2 (fun e => ?_) (fun e => ?_)⟩
    · have e1 := of_decide_eq_true e
      refine ⟨_, rfl, k z ?_⟩
      unfold Rec.cut cut
      rw [if_pos (by omega)]
    · have e1 : ¬ (z.length : Int) ≤ r.l := fun h => e (decide_eq_true h)
      refine ⟨_, rfl, _, _, rfl, ⟨zs, rfl⟩, _, rfl, x, C, dx, _, _, rfl, hx, S.cl, S.nT, flds_tail _ _, _, _, rfl, rfl, _, _, rfl, ?_⟩
      refine ⟨_, rfl, _, rfl, x, C, dx, _, _, rfl, hx, S.cl, S.nH, flds_head _ _, _, rfl, z, rfl, zs, _, rfl, _, _, rfl, rfl, ?_, _, rfl, _, rfl, _, rfl, z, rfl, zs, _, _, rfl, rfl, ?_, k _ ?_⟩
      · have a := cutS_length z none (some r.h)
        have b : r.z.length = r.z.cps.toList.length := rfl
        exact Nat.le_of_lt (Nat.lt_of_le_of_lt (show _ ≤ 2000 by omega) (by decide))
      · have a := cutS_length z none (some r.h)
        have b : r.z.length = r.z.cps.toList.length := rfl
        have c := cutS_length z (some (if (z.length : Int) - r.t > 0 then (z.length : Int) - r.t else 0)) none
        have d : (cutS z none (some r.h) ++ r.z).length = (cutS z none (some r.h)).length + r.z.length := by
          show (cutS z none (some r.h) ++ r.z).cps.toList.length = _
          rw [app_cps, List.length_append]
          rfl
        exact Nat.le_of_lt (Nat.lt_of_le_of_lt (show _ ≤ 4000 by omega) (by decide))
      · rw [app_cps, app_cps]
        have a : (cutS z none (some r.h)).cps.toList = z.cps.toList.take r.h.toNat := by
          show ((z.cps.toList.drop _).take _).toArray.toList = _
          rw [List.toList_toArray]
          exact cut_front z.cps.toList f2.1
        have c : (cutS z (some (if (z.length : Int) - r.t > 0 then (z.length : Int) - r.t else 0)) none).cps.toList = z.cps.toList.drop (z.cps.toList.length - r.t.toNat) := by
          show ((z.cps.toList.drop _).take _).toArray.toList = _
          rw [List.toList_toArray]
          have q := cut_back z.cps.toList (h := if (z.length : Int) - r.t > 0 then (z.length : Int) - r.t else 0) (by split <;> omega)
          have n : (if (z.length : Int) - r.t > 0 then (z.length : Int) - r.t else 0).toNat = z.cps.toList.length - r.t.toNat := by split <;> omega
          rw [n] at q
          exact q
        rw [a, c]
        unfold Rec.cut cut
        rw [if_neg (show ¬ z.cps.toList.length ≤ r.l.toNat by omega)]
/-! ### shown_by, show -/
theorem Rec.fit.cut_lenW {r : Rec} (f : r.fit) {xs : List Nat} (h : xs.length ≤ 600) : (r.cut xs).length ≤ 600 := by
  have a : (r.cut xs).length ≤ _ := cut_length
  have b := f.zl
  have c := f.h
  have d := f.t
  omega
def spShownBy (C : Addr) : Sp := fun vs H Q _ => ∃ (a : Addr) (rs : List (Addr × Rec)) (z : Str), vs = [.ref a, .str z] ∧ RowAt C H a rs ∧ z.cps.toList.length ≤ 600 ∧ ∀ (y : Str), y.cps.toList = cuts (rs.map (·.2)) z.cps.toList → Q (.str y) H
theorem cal_shownBy (B : Bi mg) (S : ShC K mg C) (D : At K mg "shown_by" s_shown_by ps_shown_by) (C_shortened : Cal P w K mg base 1 "shortened" ps_shortened (spShortS C)) : Cal P w K mg base 2 "shown_by" ps_shown_by (spShownBy C) := by
  refine D.cal sc_shown_by (fun vs H Q E h => ?_) (fun f cdv A outer s H vs Q E hr h => ?_)
  · obtain ⟨a, rs, z, rfl, _⟩ := h
    rfl
  · obtain ⟨a, rs, z, rfl, R2, zl, k⟩ := h
    refine ⟨_, (pss_cons (ps_set (i := 2) sc_shown_by.nd rfl (.inl rfl) (pv 1))
      (pss_cons (ps_for PassesOwn.never rfl (pi_tup (pv 0)) (pg_name (i := 3) sc_shown_by.nd rfl (.inl rfl))
      (pss_one (ps_set (i := 2) sc_shown_by.nd rfl (.inl rfl) (pe_own C_shortened hr (by decide) (by rfl) (pa_cons (pv 3) (pa_cons (pv 2) (pa_cons (pe_fld (pv 3) rfl) pa_nil)))))))
      (pss_one (ps_ret (pv 2))))), ?_⟩
    refine ⟨_, rfl, _, rfl, a, rfl, ⟨_, .inl (.inl R2.tp)⟩, for_tup (K := K) (a := a) (xs := rs.map fun q => V.ref q.1) (fun i σ J => ∃ (y : Str) (u : Option V), σ = [some (.ref a), some (.str z), some (.str y), u] ∧ J = H ∧ y.cps.toList = cuts ((rs.take i).map (·.2)) z.cps.toList ∧ y.cps.toList.length ≤ 600)
      ⟨z, none, rfl, rfl, rfl, zl⟩ (fun i σ J _ ⟨_, _, _, e, _⟩ => by rw [e]; exact .inl (.inl R2.tp)) ?_ ?_⟩
    · rintro i v σ J hi ⟨y, u, rfl, rfl, ey, ly⟩
      rw [List.getElem?_map] at hi
      cases hq : rs[i]? with
      | none =>
        rw [hq] at hi
        cases hi
      | some q =>
        rw [hq] at hi
        cases hi
        have mq : q ∈ rs := List.mem_of_getElem? hq
        obtain ⟨sq, fq⟩ := R2.sh q mq
        obtain ⟨dx, b, e1, e2⟩ := id sq
        have lz : y.length = y.cps.toList.length := rfl
        refine ⟨_, rfl, _, rfl, _, rfl, q.1, C, dx, _, _, rfl, e1, S.cl, S.nM, flds_mark _ _, q.1, q.2, y, rfl, sq, fq, by omega, fun y2 h2 => ⟨y2, _, rfl, rfl, ?_, ?_⟩⟩
        · rw [h2, ey, List.take_add_one, hq]
          unfold cuts
          rw [List.map_append, List.foldl_append]
          rfl
        · rw [h2]
          exact fq.cut_lenW ly
    · rintro σ J ⟨y, u, rfl, rfl, ey, ly⟩
      rw [List.length_map, List.take_length] at ey
      exact ⟨_, rfl, k y ey⟩
def spShow (C : Addr) : Sp := fun vs H Q _ => ∃ (a : Addr) (rs : List (Addr × Rec)) (z : Str), vs = [.ref a, .str z] ∧ RowAt C H a rs ∧ 1 ≤ rs.length ∧ rs.length ≤ 4 ∧ isTxt z 200 = true ∧ ∀ (y : Str) (G : Hp), Same H G → y.cps.toList = cuts (rs.map (·.2)) z.cps.toList → Q (.str y) G
theorem cal_show (B : Bi mg) (D : At K mg "show" s_show ps_show) (C_check_row : Cal P w K mg base 2 "check_row" ps_check_row (spCheckRow C)) (C_check_text : Cal P w K mg base 2 "check_text" ps_check_text spCheckText) (C_shown_by : Cal P w K mg base 2 "shown_by" ps_shown_by (spShownBy C)) : Cal P w K mg base 3 "show" ps_show (spShow C) := by
  refine D.cal sc_show (fun vs H Q E h => ?_) (fun f cdv A outer s H vs Q E hr h => ?_)
  · obtain ⟨a, rs, z, rfl, _⟩ := h
    rfl
  · obtain ⟨a, rs, z, rfl, hR, l1, l4, hz, k⟩ := h
    have zl := isTxt_len hz
    have ez : z.length = z.cps.toList.length := rfl
    refine ⟨_, (pss_cons (ps_expr (pe_own C_check_row hr (by decide) (by rfl) (pa_cons (pv 0) pa_nil)))
      (pss_cons (ps_expr (pe_own C_check_text hr (by decide) (by rfl) (pa_cons (pv 1) pa_nil)))
      (pss_one (ps_ret (pe_own C_shown_by hr (by decide) (by rfl) (pa_cons (pv 0) (pa_cons (pv 1) pa_nil))))))), ?_⟩
    refine ⟨_, rfl, a, rs, rfl, hR, l1, l4, fun G1 s1 => ⟨_, rfl, z, rfl, hz, fun G2 s2 => ?_⟩⟩
    have s12 : Same H G2 := s1.trans s2
    exact ⟨_, rfl, _, rfl, a, rs, z, rfl, hR.same s12, by omega, fun y ey => k y G2 s12 ey⟩
end
end Gu
namespace Gu
open PySem PySem.Spec PyProof.Rows L2
/-! ### texts of single signs -/
def one (c : Nat) : Str := ⟨#[c]⟩
def ones (cs : List Nat) : List V := cs.map fun c => V.str (one c)
theorem join_ones : ∀ cs : List Nat, (Str.join ⟨#[]⟩ (cs.map one)).cps.toList = cs
  | [] => rfl
  | c :: r => by
    rw [List.map_cons, join_nil_cons, app_cps, join_ones r]
    rfl
theorem tjoin_ones (cs : List Nat) : (Txt.join "" (cs.map one)).cps.toList = cs := by
  have e : (("" : String) : Str) = ⟨#[]⟩ := by decide +kernel
  show (Builtin.Str.glued _ _).cps.toList = cs
  rw [e, StrLaws.glued_eq_join]
  exact join_ones cs
theorem ones_len (cs : List Nat) : ((cs.map one).map (·.length)).sum = cs.length := by
  induction cs with
  | nil => rfl
  | cons c r ih =>
    rw [List.map_cons, List.map_cons, List.sum_cons, ih]
    show 1 + r.length = r.length + 1
    omega
theorem ones_map (cs : List Nat) : ones cs = (cs.map one).map V.str := by
  unfold ones
  rw [List.map_map]
  rfl
def cutsV (rs : List Rec) (xs : List V) : List V := rs.foldl (fun acc r => cut r.l.toNat r.h.toNat r.t.toNat (ones r.z.cps.toList) acc) xs
theorem cut_map {α β : Type} (f : α → β) (l h t : Nat) (m xs : List α) : cut l h t (m.map f) (xs.map f) = (cut l h t m xs).map f := by
  unfold cut
  rw [List.length_map]
  split
  · rfl
  · rw [List.map_append, List.map_append, List.map_take, List.map_drop]
theorem cutsV_ones : ∀ (rs : List Rec) (cs : List Nat), cutsV rs (ones cs) = ones (cuts rs cs)
  | [], _ => rfl
  | r :: rs, cs => by
    show cutsV rs (cut r.l.toNat r.h.toNat r.t.toNat (ones r.z.cps.toList) (ones cs)) = ones (cuts rs (r.cut cs))
    unfold ones
    rw [cut_map]
    exact cutsV_ones rs (r.cut cs)
theorem cuts_len : ∀ (rs : List Rec) {xs : List Nat}, (∀ r ∈ rs, r.fit) → xs.length ≤ 200 → (cuts rs xs).length ≤ 200
  | [], _, _, h => h
  | r :: rs, xs, hf, h => cuts_len rs (xs := r.cut xs) (fun q hq => hf q (List.mem_cons_of_mem _ hq)) ((hf r (List.mem_cons_self ..)).cut_len h)
theorem ShAt.list {C : Addr} {H : Hp} {x M : Addr} {r : Rec} {acc ys : List V} (h : ShAt C H x r) (e : H M = some (.lst acc)) : ShAt C (upd H M (.lst ys)) x r := by
  obtain ⟨dx, b, h1, h2⟩ := h
  exact ⟨dx, b, by rw [upd_ne (ne_of h1 e (by intro z; cases z))]; exact h1, by rw [upd_ne (ne_of h2 e (by intro z; cases z))]; exact h2⟩
theorem ToldsAt.same {H G : Hp} {D : Addr} {ps : List (Addr × Rec)} (s : Same H G) (h : ToldsAt H D ps) : ToldsAt G D ps := ⟨s _ _ h.ls, fun q hq => ⟨s _ _ (h.tp q hq).1, (h.tp q hq).2⟩⟩
section
variable {P : Program} {w : World} {K : PySem.W.Frag} {mg : Str → Option Value} {base : Heap} {C : Addr}
/-! ### _law_made -/
def spMade (C : Addr) : Sp := fun vs H Q _ => ∃ (D : Addr) (ps : List (Addr × Rec)), vs = [.ref D] ∧ ToldsAt H D ps ∧ ps.length ≤ 4 ∧ ∀ (a : Addr) (G : Hp) (rs : List (Addr × Rec)), H a = none → RowAt C G a rs → rs.map (·.2) = ps.map (·.2) → Same H G → Q (.ref a) G
theorem cal_made (B : Bi mg) (D : At K mg "_law_made" s_law_made ps_law_made) (M_sh : Mak P w K mg base 3 "Shortener" C (spInit C)) : Cal P w K mg base 5 "_law_made" ps_law_made (spMade C) := by
  refine D.cal sc_law_made (fun vs H Q E h => ?_) (fun f cdv A outer s H vs Q E hr h => ?_)
  · obtain ⟨D, ps, rfl, _⟩ := h
    rfl
  · obtain ⟨D, ps, rfl, hT, l4, k⟩ := h
    refine ⟨_, (pss_one (ps_ret (pe_callTy call_tuple_of (by rfl) B.tuple (by decide +kernel) (pa_cons (pe_lc (g := gTup K 4 (gCons (gName 1) (gCons (gName 2) (gCons (gName 3) (gCons (gName 4) gNil))))) (own := [("_law_a", 1), ("_law_b", 2), ("_law_c", 3), ("_law_d", 4)]) (by rfl) sc_law_made.nd (pi_list (pv 0)) (blkOk_by (own := [("_law_a", 1), ("_law_b", 2), ("_law_c", 3), ("_law_d", 4)]) (N := ["_law_tolds_here", "_law_a", "_law_b", "_law_c", "_law_d"]) (sc := defScope s_law_made) (by decide +kernel)) (fun _ _ _ _ _ => (pg_tup rfl (pgs_cons (pg_name (i := 1) sc_law_made.nd rfl (.inl rfl)) (pgs_cons (pg_name (i := 2) sc_law_made.nd rfl (.inl rfl)) (pgs_cons (pg_name (i := 3) sc_law_made.nd rfl (.inl rfl)) (pgs_cons (pg_name (i := 4) sc_law_made.nd rfl (.inl rfl)) pgs_nil)))))) (fun _ _ _ _ _ => pts_nil) (fun _ _ _ _ _ => (pe_new M_sh hr (by decide) (by rfl) (pa_cons (pv 1) (pa_cons (pv 2) (pa_cons (pv 3) (pa_cons (pv 4) pa_nil))))))) pa_nil)))), ?_⟩
    refine ⟨_, rfl, D, rfl, ⟨_, .inl (.inl hT.ls)⟩, fun M nM => lc_list (K := K) (a := D) (xs := ps.map fun q => V.ref q.1) (fun i J => ∃ rs : List (Addr × Rec), rs.length = i ∧ J M = some (.lst (rs.map fun q => V.ref q.1)) ∧ (∀ q ∈ rs, ShAt C J q.1 q.2 ∧ q.2.fit) ∧ rs.map (·.2) = (ps.take i).map (·.2) ∧ Same H J)
      ⟨[], rfl, upd_same, (fun q hq => by cases hq), rfl, same_new nM⟩ (fun i J _ ⟨_, _, _, _, _, sJ⟩ => .inl (.inl (sJ _ _ hT.ls))) ?_ ?_⟩
    · rintro i v J hi ⟨rs, rfl, eM, hs, er, sJ⟩
      rw [List.getElem?_map] at hi
      cases hq : ps[rs.length]? with
      | none =>
        rw [hq] at hi
        cases hi
      | some q =>
        rw [hq] at hi
        cases hi
        have mq : q ∈ ps := List.mem_of_getElem? hq
        obtain ⟨tq, oq⟩ := hT.tp q mq
        have il : rs.length < ps.length := (List.getElem?_eq_some_iff.mp hq).1
        refine ⟨q.1, q.2.vs, rfl, .inl (.inl (sJ _ _ tq)), rfl, _, _, rfl, _, _, rfl, _, _, rfl, _, _, rfl, rfl, rfl, yes (iteT ?_)⟩
        refine ⟨_, rfl, _, rfl, _, rfl, _, rfl, fun x dx nx ndx nex => ⟨x, dx, q.2, rfl, upd_same, oq.fit, fun b G nb gx gb keep => ⟨rfl, ?_⟩⟩⟩
        have sG : Same J G := fun c o e => keep c o (by rw [upd_ne (ne_of_none e nx), upd_ne (ne_of_none e ndx)]; exact e) (ne_of_none e nx)
        have gM := sG _ _ eM
        refine ⟨_, gM, small1000 (by rw [List.length_map]; omega), rs ++ [(x, q.2)], by rw [List.length_append]; rfl, ?_, fun r hr => ?_, ?_, ?_⟩
        · rw [upd_same, List.map_append]
          rfl
        · rcases List.mem_append.mp hr with hr | hr
          · obtain ⟨h1, h2⟩ := hs r hr
            exact ⟨(h1.same sG).list gM, h2⟩
          · rw [List.mem_singleton.mp hr]
            exact ⟨ShAt.list ⟨dx, b, gx, gb⟩ gM, oq.fit⟩
        · rw [List.map_append, er, List.take_add_one, hq, List.map_append]
          rfl
        · intro c o e
          rw [upd_ne (ne_of_none e nM)]
          exact sG _ _ (sJ _ _ e)
    · rintro J ⟨rs, el, eM, hs, er, sJ⟩
      refine ⟨M, _, rfl, .inl ⟨.inl (.inl eM), fun a na => ?_⟩⟩
      rw [List.length_map, List.take_length] at er
      have s1 : Same J (upd J a (.tup (rs.map fun q => V.ref q.1))) := same_new na
      exact k a _ rs (sJ.free na) ⟨upd_same, fun q hq => ⟨(hs q hq).1.same s1, (hs q hq).2⟩⟩ er (sJ.trans s1)
/-! ### _law_cut -/
theorem neg_back {α : Type} (xs : List α) {h : Int} (h0 : 0 < h) : (xs.drop (HT.sIx xs.length 0 (some (-h)))).take (HT.sIx xs.length xs.length none - HT.sIx xs.length 0 (some (-h))) = xs.drop (xs.length - h.toNat) := by
  have e : HT.sIx xs.length 0 (some (-h)) = xs.length - h.toNat := by
    show (if -h < 0 then (-h + (xs.length : Int)).toNat else min (-h).toNat xs.length) = _
    rw [if_pos (by omega)]
    omega
  rw [e, HT.sIx_none, List.take_of_length_le (by rw [List.length_drop]; omega)]
theorem cutsV_snoc (ps : List (Addr × Rec)) {i : Nat} {q : Addr × Rec} (h : ps[i]? = some q) (xs : List V) :
    cutsV ((ps.take (i + 1)).map (·.2)) xs = cut q.2.l.toNat q.2.h.toNat q.2.t.toNat (ones q.2.z.cps.toList) (cutsV ((ps.take i).map (·.2)) xs) := by
  rw [List.take_add_one, h, List.map_append]
  unfold cutsV
  rw [List.foldl_append]
  rfl
def spCut : Sp := fun vs H Q _ => ∃ (D T : Addr) (ps : List (Addr × Rec)) (xs : List V), vs = [.ref D, .ref T] ∧ ToldsAt H D ps ∧ H T = some (.lst xs) ∧ xs.length ≤ 600 ∧ ∀ (U : Addr) (G : Hp), Same H G → G U = some (.lst (cutsV (ps.map (·.2)) xs)) → Q (.ref U) G
theorem cal_cut (B : Bi mg) (D : At K mg "_law_cut" s_law_cut ps_law_cut) : Cal P w K mg base 1 "_law_cut" ps_law_cut spCut := by
  refine D.cal sc_law_cut (fun vs H Q E h => ?_) (fun f cdv A outer s H vs Q E hr h => ?_)
  · obtain ⟨D, T, ps, xs, rfl, _⟩ := h
    rfl
  · obtain ⟨D, T, ps, xs, rfl, hT, hx, lx, k⟩ := h
    refine ⟨_, (pss_cons (ps_for PassesOwn.never rfl (pi_list (pv 0)) (pg_tup rfl (pgs_cons (pg_name (i := 2) sc_law_cut.nd rfl (.inl rfl)) (pgs_cons (pg_name (i := 3) sc_law_cut.nd rfl (.inl rfl)) (pgs_cons (pg_name (i := 4) sc_law_cut.nd rfl (.inl rfl)) (pgs_cons (pg_name (i := 5) sc_law_cut.nd rfl (.inl rfl)) pgs_nil)))))
      (pss_one (ps_if (pt_cmpR op_gt (pe_callB call_len (by rfl) B.len (by decide +kernel) (pa_cons (pv 1) pa_nil)) (pv 2) (nomark _)) (pss_cons (ps_par (i := 6) (j := 7) (by rfl) sc_law_cut.nd rfl rfl (by decide) rfl rfl (pa_cons (pe_slice sl_list (pv 1) po_none (po_some (pv 3))) (pa_cons (pe_mid (pe_ifExp (pt_cmpR op_gt (pv 4) pe_int (nomark _)) (pe_slice sl_list (pv 1) (po_some (pe_un un_neg (pv 4))) po_none) (pe_lst pa_nil))) pa_nil)) (by rfl))
      (pss_one (ps_set (i := 1) sc_law_cut.nd rfl (.inl rfl) (pe_op op_cat (pe_op op_cat (pv 6) (pe_lc (own := [("_law_each", 8)]) (by rfl) sc_law_cut.nd (pi_str (pv 5)) (blkOk_by (own := [("_law_each", 8)]) (N := ["_law_tolds_here", "_law_things", "_law_bound", "_law_low", "_law_high", "_law_sign", "_law_front", "_law_back", "_law_each"]) (sc := defScope s_law_cut) (by decide +kernel)) (fun _ _ _ _ _ => pg_name (i := 8) sc_law_cut.nd rfl (.inl rfl)) (fun _ _ _ _ _ => pts_nil) (fun _ _ _ _ _ => (pv 8)))) (pv 7))))) pss_nil)))
      (pss_one (ps_ret (pv 1)))), ?_⟩
    refine ⟨_, rfl, D, rfl, ⟨_, .inl (.inl hT.ls)⟩, for_list (K := K) (a := D) (xs := ps.map fun q => V.ref q.1) (fun i σ J => ∃ (U : Addr) (a b c d e f g : Option V), σ = [some (.ref D), some (.ref U), a, b, c, d, e, f, g] ∧ Same H J ∧ J U = some (.lst (cutsV ((ps.take i).map (·.2)) xs)) ∧ (cutsV ((ps.take i).map (·.2)) xs).length ≤ 600)
      ⟨T, none, none, none, none, none, none, none, rfl, Same.refl H, hx, lx⟩ (fun i σ J _ ⟨_, _, _, _, _, _, _, _, _, sJ, _⟩ => .inl (.inl (sJ _ _ hT.ls))) ?_ ?_⟩
    · rintro i v σ J hi ⟨U, a, b, c, d, e, f, g, rfl, sJ, eU, lU⟩
      rw [List.getElem?_map] at hi
      cases hq : ps[i]? with
      | none =>
        rw [hq] at hi
        cases hi
      | some q =>
        rw [hq] at hi
        cases hi
        obtain ⟨tq, oq⟩ := hT.tp q (List.mem_of_getElem? hq)
        have zl := oq.fit.zl
        have es := cutsV_snoc ps hq xs
        generalize hys : cutsV ((ps.take i).map (·.2)) xs = ys at eU lU es
        have o1 := oq.l0
        have o2 := oq.h0
        have o3 := oq.t0
        have o4 := oq.h1
        have o5 := oq.t1
        refine ⟨q.1, q.2.vs, rfl, .inl (.inl (sJ _ _ tq)), rfl, _, _, rfl, _, _, rfl, _, _, rfl, _, _, rfl, rfl, ?_⟩
        refine ⟨_, rfl, _, _, rfl, .inl ⟨_, .inl (.inl eU), rfl⟩, _, rfl, _, _, rfl, rfl, _, rfl, ite2 (fun e1 => ?_) (fun e1 => ?_)⟩
        · have e2 : q.2.l < (ys.length : Int) := of_decide_eq_true e1
          refine ⟨_, rfl, _, rfl, _, rfl, U, ys, rfl, .inl (.inl eU), fun F nF => ?_⟩
          have s1 : Same J (upd J F (.lst (cutV ys none (some q.2.h)))) := same_new nF
          refine ⟨fun v G => ∃ bk, v = .ref bk ∧ Same (upd J F (.lst (cutV ys none (some q.2.h)))) G ∧ G bk = some (.lst (ys.drop (ys.length - q.2.t.toNat))), ?_, ?_⟩
          · refine ⟨_, rfl, _, _, rfl, rfl, _, rfl, ite2 (fun e3 => ?_) (fun e3 => ?_)⟩
            · have e4 : 0 < q.2.t := of_decide_eq_true e3
              refine ⟨_, rfl, _, rfl, _, rfl, _, rfl, U, ys, rfl, .inl (.inl (s1 _ _ eU)), fun R nR => ⟨R, rfl, same_new nR, ?_⟩⟩
              rw [upd_same]
              exact congrArg (fun l => some (HO.lst l)) (neg_back ys e4)
            · have e4 : ¬ 0 < q.2.t := fun h => e3 (decide_eq_true h)
              have e5 : q.2.t.toNat = 0 := by omega
              refine ⟨Nat.zero_le _, fun R nR => ⟨R, rfl, same_new nR, ?_⟩⟩
              rw [upd_same, e5, Nat.sub_zero, List.drop_length]
          · rintro _ G ⟨bk, rfl, s2, eB⟩
            refine ⟨_, _, rfl, ?_⟩
            have eF : G F = some (.lst (ys.take q.2.h.toNat)) := by
              rw [s2 F _ upd_same]
              exact congrArg (fun l => some (HO.lst l)) (cut_front ys o2)
            refine ⟨_, rfl, _, rfl, q.2.z, rfl, fun M nM => lc_it walk_str (fun j G1 => Same G G1 ∧ G1 M = some (.lst (ones (q.2.z.cps.toList.take j)))) ⟨same_new nM, by rw [upd_same]; rfl⟩ (fun _ _ _ _ => trivial) ?_ ?_⟩
            · rintro j v G1 _ hj ⟨sG1, eM⟩ ⟨rfl, ch, hch, rfl⟩
              refine ⟨rfl, yes (iteT ⟨_, rfl, _, eM, small1000 ?_, ?_, ?_⟩)⟩
              · unfold ones
                rw [List.length_map, List.length_take]
                omega
              · intro c2 o e
                rw [upd_ne (ne_of_none e nM)]
                exact sG1 _ _ e
              · rw [upd_same]
                have hc' : q.2.z.cps.toList[j]? = some ch := by
                  rw [← Array.getElem?_toList] at hch
                  exact hch
                unfold ones
                rw [List.take_add_one, hc', List.map_append]
                rfl
            · rintro G1 ⟨sG1, eM⟩
              rw [List.take_of_length_le (show q.2.z.cps.toList.length ≤ q.2.z.cps.size from Nat.le_refl _)] at eM
              have le1 : (ones q.2.z.cps.toList).length ≤ 3 := by
                unfold ones
                rw [List.length_map]
                exact zl
              refine ⟨F, M, _, _, rfl, rfl, sG1 _ _ eF, eM, Nat.le_of_lt (small1000 (by rw [List.length_take]; omega)), fun R1 nR1 => ?_⟩
              have s3 : Same G1 (upd G1 R1 (.lst (ys.take q.2.h.toNat ++ ones q.2.z.cps.toList))) := same_new nR1
              refine ⟨_, rfl, R1, bk, _, _, rfl, rfl, upd_same, s3 _ _ (sG1 _ _ eB), Nat.le_of_lt (small1000 (by rw [List.length_append, List.length_take, List.length_drop]; omega)), fun R2 nR2 => ?_⟩
              refine ⟨R2, _, _, _, _, _, _, _, rfl, (sJ.trans s1).trans (s2.trans (sG1.trans (s3.trans (same_new nR2)))), ?_, ?_⟩
              · rw [upd_same, es]
                unfold cut
                rw [if_neg (show ¬ ys.length ≤ q.2.l.toNat by omega)]
              · rw [es]
                refine Nat.le_trans cut_length ?_
                omega
        · have e2 : ¬ q.2.l < (ys.length : Int) := fun h => e1 (decide_eq_true h)
          have e3 : cut q.2.l.toNat q.2.h.toNat q.2.t.toNat (ones q.2.z.cps.toList) ys = ys := by
            unfold cut
            rw [if_pos (by omega)]
          refine ⟨U, _, _, _, _, _, _, _, rfl, sJ, ?_, ?_⟩
          · rw [es, e3]
            exact eU
          · rw [es, e3]
            exact lU
    · rintro σ J ⟨U, a, b, c, d, e, f, g, rfl, sJ, eU, lU⟩
      rw [List.length_map, List.take_length] at eU
      exact ⟨_, rfl, k U J sJ eU⟩
end
end Gu
namespace Gu
open PySem PySem.Spec PyProof.Rows L2
/-! ### calls by keywords alone -/
structure CalK (P : Program) (w : World) (K : PySem.W.Frag) (mg : Str → Option Value) (base : Heap) (k : Nat) (x : Str) (ks : List Str) (gV : List V → List V) (sp : Sp) : Prop where
  ex : ∃ (f : Addr) (fd : FuncData) (ps : List Str) (g : List Value → List Value), FnOk P w K mg base CX0 k f fd ps sp ∧ mg x = some (.ref f) ∧ PySem.W.keepIn K (.ref f) = true ∧ KBn K fd ps 0 ks (fun _ ws => g ws) (fun _ zs => gV zs)
theorem Cal.kw {P : Program} {w : World} {K : PySem.W.Frag} {mg : Str → Option Value} {base : Heap} {k : Nat} {x : Str} {st : Stmt} {ps ks : List Str} {sp : Sp} (g : {α : Type} → List α → List α) (c : Cal P w K mg base k x ps sp) (D : At K mg x st ps)
    (hv : ∀ {zs : List V} {ws : List Value}, Vals zs ws → Vals (g zs) (g ws))
    (hb : ∀ (kV doc pm : Value) (an : Option Addr) (cdv ct : Value) (ws : List Value), ws.length = ks.length → bindArgs (PySem.W.fnOf x x (defArgs st) (defBody st) (defScope st) .none kV doc pm an cdv ct) ⟨[], ks.zip ws⟩ = pure (ps.zip (g ws))) : CalK P w K mg base k x ks g sp := by
  obtain ⟨f, fd, F, hm, kp, b, oc, od, sl, lk⟩ := c.ex
  obtain ⟨f2, fd2, F2, b2, hm2⟩ := D.ex
  cases hm.symm.trans hm2
  obtain ⟨oc2, od2, kV, doc, pm, an, cdv, ct, sl2, e, lk2, hcd⟩ := F2.ex
  cases lk.symm.trans lk2
  refine ⟨f, fd, ps, g, F, hm, kp, ⟨fun s us ws I l1 l2 => ?_, fun _ r => hv r⟩⟩
  cases us with
  | nil =>
    rw [e]
    exact BindsTo.of_eq (hb kV doc pm an cdv ct ws l2)
  | cons u r => cases l1
def tKw (m : Nat) (gV : List V → List V) (sp : Sp) (tk : TA) : TE := fun σ H Q => tk σ H fun zs G => zs.length = m ∧ sp (gV zs) G Q E0
section
variable {X : Cx} {k j : Nat} {x : Str} {ks : List Str} {gV : List V → List V} {sp : Sp} {p pos : Pos} {kws : List Keyword} {tk : TA}
theorem pe_kw (c : CalK X.prog X.w X.K X.mg X.base k x ks gV sp) (hr : Room j X.A) (hk : k ≤ j) (hg : Gl X x) (hkw : PK X kws tk) (hall : (backToKw pos (keywordEach kws X.env)).all (·.1.isSome) = true := by rfl)
    (hks : (backToKw pos (keywordEach kws X.env)).filterMap (·.1) = ks := by rfl) (hdb : (x == ("__debug__" : Str)) = false := by decide)
    (hpl : ((backTo pos (starEach [] X.env)).any (·.1) || (backToKw pos (keywordEach kws X.env)).any (·.1.isNone)) = false := by rfl) : PE X (.Call (.Name x p) [] kws pos) (tKw ks.length gV sp tk) := by
  obtain ⟨f, fd, ps, g, F, hm, kp, b⟩ := c.ex
  refine ⟨fun pins s σ H Q I h => ?_⟩
  refine wpAny_Call_Name_kw (ld_glob I hg hm ?_ hdb)
  refine PySem.W.callWith_KW0 (h₀ := X.base) I.ok.mod.kin kp hall ?_ hpl
  refine thn (hkw.run pos pins s σ H _ I h) fun ws s2 ⟨zs, G, I2, rz, l2, q2⟩ => ⟨I2.kIn, ?_⟩
  rw [hks]
  exact run_fnN (us := []) (vs := []) F (hr.mono hk) b pass0 I2 .nil rz rfl l2 q2
end
def swap2 {α : Type} : List α → List α
  | [a, b] => [b, a]
  | l => l
theorem swap2_vals {zs : List V} {ws : List Value} (r : Vals zs ws) : Vals (swap2 zs) (swap2 ws) := by
  cases r with
  | nil => exact .nil
  | cons a r =>
    cases r with
    | nil => exact .cons a .nil
    | cons b r =>
      cases r with
      | nil => exact .cons b (.cons a .nil)
      | cons c r => exact .cons a (.cons b (.cons c r))
theorem str_ext {a b : Str} (h : a.cps.toList = b.cps.toList) : a = b := by
  cases a
  cases b
  exact congrArg Str.mk (Array.ext' h)
end Gu
namespace Gu
open PySem PySem.Spec PyProof.Rows L2
section
variable {P : Program} {w : World} {K : PySem.W.Frag} {mg : Str → Option Value} {base : Heap} {C : Addr}
def spLine : Sp := fun vs H Q _ => ∃ (p : Addr) (n : Int), vs = [.ref p, .int n] ∧ Pot H p ∧ 0 ≤ n ∧ n ≤ 200 ∧ ∀ (y : Str) (G : Hp), Ladled p H G → y.cps.toList.length = n.toNat → isTxt y 200 = true → Q (.str y) G
theorem cal_line (B : Bi mg) (D : At K mg "_law_line" s_law_line ps_law_line) (C_law_one_of : Cal P w K mg base 2 "_law_one_of" ps_law_one_of (spOneOf K)) : Cal P w K mg base 3 "_law_line" ps_law_line spLine := by
  refine D.cal sc_law_line (fun vs H Q E h => ?_) (fun f cdv A outer s H vs Q E hr h => ?_)
  · obtain ⟨p, n, rfl, _⟩ := h
    rfl
  · obtain ⟨p, n, rfl, hp, n0, n1, k⟩ := h
    refine ⟨_, (pss_cons (ps_set (i := 2) sc_law_line.nd rfl (.inr rfl) (pe_own C_law_one_of hr (by decide) (by rfl) (pa_cons (pv 0) (pa_cons (pe_lst (pa_cons pe_str (pa_cons pe_str (pa_cons pe_str pa_nil)))) pa_nil))))
      (pss_one (ps_ret (pe_join pe_str (pe_lc (own := [("_law_k", 3)]) (by rfl) sc_law_line.nd (pi_range1 (by rfl) B.range (pa_cons (pv 1) pa_nil)) (blkOk_by (own := [("_law_k", 3)]) (N := ["_law_pot_here", "_law_many", "_law_signs_here", "_law_k"]) (sc := defScope s_law_line) (by decide +kernel)) (fun _ _ _ _ _ => pg_name (i := 3) sc_law_line.nd rfl (.inl rfl)) (fun _ _ _ _ _ => pts_nil) (fun _ _ _ _ _ => (pe_own C_law_one_of hr (by decide) (by rfl) (pa_cons (pv 0) (pa_cons (pv 2) pa_nil))))))))), ?_⟩
    refine ⟨_, rfl, by show 3 ≤ sizeLine; decide, fun q0 m0 => ?_⟩
    have L0 : Ladled p H (upd H q0 (.lst [.str ".0", .str "ab~", .str ".0123456789abcdefghijklmnopqrstuvwxyz~"])) := .ofSame hp (same_new m0)
    refine ⟨p, L0.pot, .inl ⟨q0, _, rfl, .inl (.inl upd_same), hp.ne m0, by decide, by decide, fun v G1 hv L1 => ?_⟩⟩
    obtain ⟨g, rfl, g0, g1, gs⟩ : ∃ g : Str, v = .str g ∧ 0 < g.cps.toList.length ∧ g.cps.toList.length < 1000 ∧ ∀ c ∈ g.cps.toList, c ∈ signs.cps.toList := by
      have a : ∀ g ∈ ([".0", "ab~", ".0123456789abcdefghijklmnopqrstuvwxyz~"] : List Str), 0 < g.cps.toList.length ∧ g.cps.toList.length < 1000 ∧ ∀ c ∈ g.cps.toList, c ∈ signs.cps.toList := by decide +kernel
      have e : ([.str ".0", .str "ab~", .str ".0123456789abcdefghijklmnopqrstuvwxyz~"] : List V) = ([".0", "ab~", ".0123456789abcdefghijklmnopqrstuvwxyz~"] : List Str).map V.str := rfl
      rw [e] at hv
      obtain ⟨g, h1, h2⟩ := List.mem_map.mp hv
      exact ⟨g, h2.symm, a g h1⟩
    have M1 : Ladled p H G1 := L0.trans L1
    refine ⟨⟨_, rfl⟩, _, rfl, n, rfl, by omega, by omega, fun M nM => lc_range (lo := 0) (n := n.toNat) (fun i J => ∃ cs : List Nat, cs.length = i ∧ (∀ c ∈ cs, c ∈ signs.cps.toList) ∧ J M = some (.lst (ones cs)) ∧ Ladled p H J)
      ⟨[], rfl, (fun c hc => by cases hc), upd_same, M1.mut (M1.free nM) (M1.pot.ne nM)⟩ ?_ ?_⟩
    · rintro i J hi ⟨cs, rfl, hc, eM, L⟩
      have hM : H M = none := M1.free nM
      refine ⟨rfl, yes (iteT ⟨_, rfl, _, rfl, p, L.pot, .inr ⟨g, rfl, g0, g1, fun c G c1 L2 => ?_⟩⟩)⟩
      have gM := L2.keep _ _ eM (hp.ne hM)
      refine ⟨_, gM, small1000 (by unfold ones; rw [List.length_map]; omega), cs ++ [c], by rw [List.length_append]; rfl, fun d hd => ?_, ?_, (L.trans L2).mut hM (hp.ne hM)⟩
      · rcases List.mem_append.mp hd with hd | hd
        · exact hc d hd
        · rw [List.mem_singleton.mp hd]
          exact gs c c1
      · rw [upd_same]
        unfold ones
        rw [List.map_append]
        rfl
    · rintro J ⟨cs, el, hc, eM, L⟩
      rw [ones_map] at eM
      refine ⟨_, M, _, rfl, rfl, .inl (.inl (.inl eM)), ?_, k _ J L ?_ ?_⟩
      · rw [ones_len, List.length_map]
        have e0 : (("" : String) : Str).length = 0 := by decide +kernel
        rw [e0]
        omega
      · rw [tjoin_ones]
        exact el
      · unfold isTxt
        rw [tjoin_ones, Bool.and_eq_true, List.all_eq_true]
        refine ⟨decide_eq_true ?_, fun c h => decide_eq_true (hc c h)⟩
        show ((Txt.join "" (cs.map one)).cps.toList.length : Int) ≤ 200
        rw [tjoin_ones]
        omega
end
end Gu
namespace Gu
open PySem PySem.Spec PyProof.Rows L2
section
variable {P : Program} {w : World} {K : PySem.W.Frag} {mg : Str → Option Value} {base : Heap} {C : Addr}
theorem Ladled.row {C : Addr} {H G : Hp} {p a : Addr} {rs : List (Addr × Rec)} (L : Ladled p H G) (hp : Pot H p) (h : RowAt C H a rs) : RowAt C G a rs := by
  obtain ⟨x, y, z, e⟩ := hp
  refine ⟨L.keep _ _ h.tp (ne_of h.tp e (by intro z; cases z)), fun q hq => ⟨?_, (h.sh q hq).2⟩⟩
  obtain ⟨dx, b, h1, h2⟩ := (h.sh q hq).1
  exact ⟨dx, b, L.keep _ _ h1 (ne_of h1 e (by intro z; cases z)), L.keep _ _ h2 (ne_of h2 e (by intro z; cases z))⟩
theorem Ladled.tolds {H G : Hp} {p D : Addr} {ps : List (Addr × Rec)} (L : Ladled p H G) (n : D ≠ p) (nq : ∀ q ∈ ps, q.1 ≠ p) (h : ToldsAt H D ps) : ToldsAt G D ps := ⟨L.keep _ _ h.ls n, fun q hq => ⟨L.keep _ _ (h.tp q hq).1 (nq q hq), (h.tp q hq).2⟩⟩
/-! ### signs stay signs -/
def Signs (xs : List Nat) : Prop := ∀ c ∈ xs, c ∈ signs.cps.toList
theorem isTxt_signs {z : Str} {m : Int} (h : isTxt z m = true) : Signs z.cps.toList := by
  unfold isTxt at h
  rw [Bool.and_eq_true, List.all_eq_true] at h
  exact fun c hc => of_decide_eq_true (h.2 c hc)
theorem cut_signs {l h t : Nat} {m xs : List Nat} (hm : Signs m) (hx : Signs xs) : Signs (cut l h t m xs) := by
  unfold cut
  split
  · exact hx
  · intro c hc
    rcases List.mem_append.mp hc with hc | hc
    · rcases List.mem_append.mp hc with hc | hc
      · exact hx c (List.mem_of_mem_take hc)
      · exact hm c hc
    · exact hx c (List.mem_of_mem_drop hc)
theorem cuts_signs : ∀ (rs : List Rec) {xs : List Nat}, (∀ r ∈ rs, r.fit) → Signs xs → Signs (cuts rs xs)
  | [], _, _, h => h
  | r :: rs, xs, hf, h => cuts_signs rs (xs := r.cut xs) (fun q hq => hf q (List.mem_cons_of_mem _ hq)) (cut_signs (isTxt_signs (hf r (List.mem_cons_self ..)).z) h)
theorem signs_ok {y : Str} (h : Signs y.cps.toList) : (PyData.str y).canLay0 = true := by
  have a : ∀ c ∈ signs.cps.toList, c < 0x110000 := by decide +kernel
  show y.cps.all _ = true
  rw [← Array.all_toList, List.all_eq_true]
  exact fun c hc => decide_eq_true (a c (h c hc))
theorem shaped_two {y z : Str} (hy : Signs y.cps.toList) (hz : Signs z.cps.toList) : SeqAt.shaped (.list [.str y, .str z]) = true := by
  have a := signs_ok hy
  have b := signs_ok hz
  show ((PyData.str y).canLay0 && ((PyData.str z).canLay0 && true) && true) = true
  rw [a, b]
  rfl
end
end Gu
namespace Gu
open PySem PySem.Spec PyProof.Rows L2
/-! ### defs that are called where no container is being written out -/
structure FnG (P : Program) (w : World) (K : PySem.W.Frag) (mg : Str → Option Value) (base : Heap) (k : Nat) (f : Addr) (fd : FuncData) (ps : List Str) (sp : Sp) : Prop where
  len : ∀ vs H Q E, sp vs H Q E → vs.length = ps.length
  run : ∀ (A : Around) (outer : List Env) (s : Shared) (H : Hp) (args : Args) (us : List Value) (vs : List V) (Q : VK) (E : XK), Room k A → A.guards = some [] → Env0 P w K mg base A outer s H → BindsTo s fd args (ps.zip us) → Vals vs us → sp vs H Q E →
    codeAny (model P w) A (.call (.ref f) args) (CR CX0 outer P w H s Q E) s
section
variable {P : Program} {w : World} {K : PySem.W.Frag} {mg : Str → Option Value} {base : Heap}
theorem okG {x qual : Str} {st : Stmt} {f : Addr} {fd : FuncData} {N ps : List Str} {k : Nat} {sp : Sp} (F : Fun K x qual st f fd) (S : FnScope N ps (defScope st)) (len : ∀ vs H Q E, sp vs H Q E → vs.length = ps.length)
    (body : ∀ (cdv : Value) (A : Around) (outer : List Env) (s : Shared) (H : Hp) (vs : List V) (Q : VK) (E : XK), Room k (A.deeper (envOfC qual (defScope st) s.heap.objs.size f cdv)) → A.guards = some [] → sp vs H Q E →
      ∃ t, PSs (cxOf CX0 P w K mg base N qual (defScope st) f cdv A outer s H E).nox (defBody st) t ∧ t { nx := fun _ G => Q .non G, rt := Q } (start N vs) H) : FnG P w K mg base (k + 1) f fd ps sp := by
  obtain ⟨oc, od, kV, doc, pm, an, cdv, ct, osl, rfl, lk, hcd⟩ := F.ex
  refine ⟨len, fun A outer s H args us vs Q E room quiet env binds rel want => ?_⟩
  have stays : ∀ b o, base.get? b = some o → s.heap.get? b = some o := fun b o e => (env.bs b o e).1
  have inK : K.In s.heap := env.mod.kin.keeps stays
  have free : s.heap.NoLimit := env.mod.nolimit.keeps stays
  refine codeAny_call_function room.depth (inK _ _ lk) rfl S.co S.gen rfl (PySem.W.codeRec_of inK hcd) (binds _ _ _ _ ?_)
  refine wpAny_newFunctionEnv_cells S.kind (fun ⟨n, v⟩ hy => (S.par n (List.of_mem_zip hy).1).imp id fun q => ⟨q, PySem.W.cellsFrom_some _ _ _ (.inl q)⟩) fun env1 e1 s1 c1 => ?_
  subst e1
  refine ⟨free.keeps c1.toInCall.keep, codeAny_func ?_⟩
  obtain ⟨t, d, q⟩ := body cdv A outer s H vs Q E (room.deeper _) quiet want
  refine wpAny_mono (d.nox.run [] s1 (start N vs) H _ (inv_start S room.hd env (len _ _ _ _ want) rel c1) q) (fun fl s2 h2 => ?_) fun e s2 h2 => h2
  cases fl with
  | ret u =>
    obtain ⟨v, σ2, G, J, rv, r⟩ := h2
    exact ⟨v, G, J.os, J.bare, J.base, J.hok, rv, r⟩
  | next =>
    obtain ⟨σ2, G, J, r⟩ := h2
    exact ⟨V.non, G, J.os, J.bare, J.base, J.hok, rfl, r⟩
  | brk => exact (h2.choose_spec.choose_spec.2 : False).elim
  | cont => exact (h2.choose_spec.choose_spec.2 : False).elim
structure CalG (P : Program) (w : World) (K : PySem.W.Frag) (mg : Str → Option Value) (base : Heap) (k : Nat) (x : Str) (ps : List Str) (sp : Sp) : Prop where
  ex : ∃ (f : Addr) (fd : FuncData), FnG P w K mg base k f fd ps sp ∧ mg x = some (.ref f) ∧ PySem.W.keepIn K (.ref f) = true ∧ Binds K fd ps []
theorem At.calG {x : Str} {st : Stmt} {N ps : List Str} {k : Nat} {sp : Sp} (D : At K mg x st ps) (S : FnScope N ps (defScope st)) (len : ∀ vs H Q E, sp vs H Q E → vs.length = ps.length)
    (body : ∀ (f : Addr) (cdv : Value) (A : Around) (outer : List Env) (s : Shared) (H : Hp) (vs : List V) (Q : VK) (E : XK), Room k (A.deeper (envOfC x (defScope st) s.heap.objs.size f cdv)) → A.guards = some [] → sp vs H Q E →
      ∃ t, PSs (cxOf CX0 P w K mg base N x (defScope st) f cdv A outer s H E).nox (defBody st) t ∧ t { nx := fun _ G => Q .non G, rt := Q } (start N vs) H) : CalG P w K mg base (k + 1) x ps sp := by
  obtain ⟨f, fd, F, b, g⟩ := D.ex
  exact ⟨f, fd, okG F S len (body f), g, F.kp, b⟩
end
def tCallG (sp : Sp) (t : TA) : TE := fun σ H Q => t σ H fun vs G => sp vs G Q E0
section
variable {X : Cx} {k j : Nat} {x : Str} {ps : List Str} {sp : Sp} {p pos : Pos} {e : Expr} {es : List Expr} {t : TA}
theorem pe_ownG (c : CalG X.prog X.w X.K X.mg X.base k x ps sp) (hr : Room j X.A) (hk : k ≤ j) (quiet : X.A.guards = some []) (hg : Gl X x) (ha : PA X (e :: es) t)
    (hdb : (x == ("__debug__" : Str)) = false := by decide) (he : starEach (e :: es) X.env = (false, eval e X.env) :: starEach es X.env := by rfl) (hpl : (backTo pos (starEach es X.env)).any (·.1) = false := by rfl) :
    PE X (.Call (.Name x p) (e :: es) [] pos) (tCallG sp t) := by
  obtain ⟨f, fd, F, hm, kp, b⟩ := c.ex
  refine ⟨fun pins s σ H Q I h => wpAny_Call_Name_kw (ld_glob I hg hm (PySem.W.callWith_K (h₀ := X.base) I.ok.mod.kin kp (thn (ha.run pos pins s σ H _ I h) fun us s1 ⟨vs, G, I1, r, q⟩ => ⟨I1.kIn, ?_⟩) he hpl) hdb)⟩
  have ll : (us ++ []).length = ps.length := by
    rw [List.append_nil, ← r.length]
    exact F.len _ _ _ _ q
  have bt := b s1 us I1.kIn ll
  rw [List.append_nil] at bt
  refine wpAny_call (codeAny_mono (F.run X.A X.stack s1 G ⟨us, []⟩ us vs Q E0 (hr.mono hk) quiet I1.env0 bt r q) fun rr s2 h2 => ?_)
  cases rr with
  | error e => exact (h2 : False).elim
  | ok fl =>
    cases fl with
    | ret u => exact I1.after h2
    | next => exact (h2 : False).elim
    | brk => exact (h2 : False).elim
    | cont => exact (h2 : False).elim
end
end Gu
namespace Gu
open PySem PySem.Spec PyProof.Rows L2
/-- a heap in which nothing is tracked but, at most, the script at a, which stands still there -/
theorem quiet_end {P : Program} {w : World} {K : PySem.W.Frag} {mg mb : Str → Option Value} {k : Nat} {fa a : Addr} {fd : FuncData} {x : Str} {sp : Sp} {s : Shared} {us : List Value} {H : Hp} (inK : K.In s.heap) (nsG : s.heap.Ns mainGlobals mg) (nsB : s.heap.Ns builtinsNs mb)
    (bb : ∀ x : Str, x ≠ "__name__" → mb x = bootBuiltins x) (nl : s.heap.NoLimit) (ng : s.gens = #[]) (at_a : s.heap.get? a = some { cls := .type "list", data := .seq us.toArray }) (room : Room k callerA)
    (F : ∀ base : Heap, K.In base → base.Ns mainGlobals mg → FnG P w K mg base k fa fd [x] sp) (bind : ∀ (s : Shared) (u : Value), BindsTo s fd ⟨[u], []⟩ [(x, u)]) (want : sp [.ref a] H (fun v _ => v = .bl true) fun _ _ _ => False)
    (only : Only H) (ok : HOk P w H s.heap) (one : ∀ b, H b ≠ none → b = a ∧ K.lookup a = none) :
    codeAny (model P w) callerA (.call (.ref fa) ⟨[.ref a], []⟩) (fun r s2 => r = .ok (.ret (.bool true)) ∧ OldK s.heap s2.heap ∧ s2.os = s.os ∧ AllBare s2.gens) s := by
  have dictFree : ∀ (b : Addr) (o : Obj) (es : Array DictEntry) (ep : Nat), s.heap.get? b = some o → o.data = .dict es ep → H b = none := fun b o es ep e d =>
    Classical.byContradiction fun z => by
      have hb := (one b z).1
      rw [hb, at_a] at e
      cases e
      exact Data.noConfusion d
  have hiddenNs : ∀ (b : Addr) (m : Str → Option Value), s.heap.Ns b m → (hidT s.heap H).Ns b m := fun b m h => by
    obtain ⟨o, es, ep, e, d, r⟩ := h
    exact ⟨o, es, ep, hidT_get e (dictFree b o es ep e d), d, r⟩
  have hiddenK : K.In (hidT s.heap H) := fun b o e => hidT_get (inK b o e) (Classical.byContradiction fun z => by
    obtain ⟨h1, h2⟩ := one b z
    rw [h1, h2] at e
    cases e)
  have env : Env0 P w K mg (hidT s.heap H) callerA [] s H := by
    refine ⟨rfl, ⟨hiddenK, hiddenNs _ _ nsG, ⟨mb, hiddenNs _ _ nsB, bb⟩, ?_⟩, fun b o e => of_hidT e, Nat.le_of_eq (hidT_size _ _), trivial, fun b hb => absurd (show b ∈ ([] : List Addr) from hb) List.not_mem_nil, ok, .of_eq ng⟩
    obtain ⟨mc, h1, h2⟩ := nl
    exact ⟨mc, hiddenNs _ _ h1, h2⟩
  refine codeAny_mono ((F _ hiddenK (hiddenNs _ _ nsG)).run callerA [] s H ⟨[.ref a], []⟩ [.ref a] [.ref a] _ _ room rfl env (bind s (.ref a)) (.cons rfl .nil) want) fun r s2 h2 => ?_
  cases r with
  | error e => exact (h2 : False).elim
  | ok fl =>
    cases fl with
    | next => exact (h2 : False).elim
    | brk => exact (h2 : False).elim
    | cont => exact (h2 : False).elim
    | ret u =>
      obtain ⟨v, G, os, bare, un, ok2, rv, hv⟩ := h2
      cases (show v = .bl true from hv)
      cases (show u = Value.bool true from rv)
      refine ⟨rfl, OldK.of_keep fun b o e => ?_, os, bare⟩
      rcases only b with z | ⟨ob, xs, z⟩
      · exact un.keep b o e z (fun y => absurd (show b ∈ ([] : List Addr) from y) List.not_mem_nil) (by simp)
      · have e1 := (ok b _ z).1
        have e2 := (ok2 b _ (un.frzs b ob _ z)).1
        rw [e] at e1
        cases e1
        exact e2
/-- the law's call, by its promise -/
theorem quiet_call {P : Program} {w : World} {K : PySem.W.Frag} {mg mb : Str → Option Value} {k : Nat} {fa a : Addr} {fd : FuncData} {x : Str} {sp : Sp} {s : Shared} {us : List Value} {ns : List Int} (inK : K.In s.heap) (nsG : s.heap.Ns mainGlobals mg) (nsB : s.heap.Ns builtinsNs mb)
    (bb : ∀ x : Str, x ≠ "__name__" → mb x = bootBuiltins x) (nl : s.heap.NoLimit) (ng : s.gens = #[]) (at_a : s.heap.get? a = some { cls := .type "list", data := .seq us.toArray }) (nums : IntsAre us ns) (small : ns.length ≤ sizeLine) (room : Room k callerA)
    (F : ∀ base : Heap, K.In base → base.Ns mainGlobals mg → FnG P w K mg base k fa fd [x] sp) (bind : ∀ (s : Shared) (u : Value), BindsTo s fd ⟨[u], []⟩ [(x, u)])
    (want : ∀ H : Hp, SqL K H a (ns.map V.int) → sp [.ref a] H (fun v _ => v = .bl true) fun _ _ _ => False) :
    codeAny (model P w) callerA (.call (.ref fa) ⟨[.ref a], []⟩) (fun r s2 => r = .ok (.ret (.bool true)) ∧ OldK s.heap s2.heap ∧ s2.os = s.os ∧ AllBare s2.gens) s := by
  have rel := vals_ints nums
  cases hk : K.lookup a with
  | some o =>
    have e := inK a o hk
    rw [at_a] at e
    cases e
    refine quiet_end (H := fun _ => none) inK nsG nsB bb nl ng at_a room F bind (want _ (.inr ⟨_, us.toArray, _, hk, rfl, rfl, rfl, ?_, rel⟩)) (fun _ => .inl rfl) (fun b u z => nomatch (show (none : Option HO) = some u from z)) fun b z => absurd rfl z
    rw [List.size_toArray, nums.length]
    exact small
  | none =>
    refine quiet_end (H := upd (fun _ => none) a (.frz { cls := .type "list", data := .seq us.toArray } (.lst (ns.map V.int)))) inK nsG nsB bb nl ng at_a room F bind (want _ (.inl (.inr ⟨_, upd_same⟩))) (fun b => ?_) (fun b u z => ?_) fun b z => ?_
    · by_cases hb : b = a
      · exact .inr ⟨_, _, by rw [hb]; exact upd_same⟩
      · exact .inl (upd_ne hb)
    · by_cases hb : b = a
      · subst hb
        rw [upd_same] at z
        cases z
        exact ⟨at_a, by rw [List.length_map]; exact small, us, _, rel, at_a⟩
      · rw [upd_ne hb] at z
        cases z
    · by_cases hb : b = a
      · exact ⟨hb, hk⟩
      · exact absurd (upd_ne hb) z
theorem walkG {l : PySem.W.OpenLaw} {n k : Nat} {q : Program} {loose : List Str} {XP : (Str → Option Value) → Heap → Prop} {YP : World → Heap → Prop} {d : DefRec} {K : Params → PySem.W.Frag} {x : Str} {sp : PySem.W.Frag → Sp} (most : l.most = some n) (small : n ≤ sizeLine) (plain : d.params.defaults = []) (room : Room k callerA)
    (left : ∀ (w : World) (h : Heap), YP w h → (K w.params).In h)
    (F : ∀ (w : World) (mg : Str → Option Value) (fa : Addr) (h : Heap), (K w.params).In h → h.Ns mainGlobals mg → mg d.name = some (.ref fa) → ∃ fd : FuncData, (∀ (s : Shared) (u : Value), BindsTo s fd ⟨[u], []⟩ [(x, u)]) ∧
      ∀ base : Heap, (K w.params).In base → base.Ns mainGlobals mg → FnG l.prog w (K w.params) mg base k fa fd [x] (sp (K w.params)))
    (want : ∀ (w : World) (H : Hp) (a : Addr) (ns : List Int), ns.length ≤ n → SqL (K w.params) H a (ns.map V.int) → sp (K w.params) [.ref a] H (fun v _ => v = .bl true) fun _ _ _ => False) :
    PySem.W.WalkO q loose XP YP l.row.toRowW d [] (fun f vs => PySem.call f vs) := by
  refine Att.attach_call most plain fun w s0 s mg mb fa o pm cd doc a us ns G Y ho hd hcd hmg at_a nums le ng => ?_
  obtain ⟨fd, bind, fn⟩ := F w mg fa _ (left w _ Y) G.T.g hmg
  exact quiet_call (left w _ Y) G.T.g G.T.b G.T.builtins G.T.nolimit ng at_a nums (Nat.le_trans le small) room fn bind fun H hS => want w H a ns le hS
end Gu
namespace Gu
open PySem PySem.Spec PyProof.Rows L2
/-! ### what can be written out -/
structure Fine (n W : Nat) (d : PyData) : Prop where
  nd : d.hasDict = false
  sh : d.showable = true
  ls : d.leavesShort 80 = true
  dp : d.depth ≤ n
  wt : d.weight ≤ W
structure FineAll (n W : Nat) (ds : List PyData) : Prop where
  nd : PyData.hasDictAll ds = false
  sh : PyData.showableAll ds = true
  ls : PyData.leavesShortAll 80 ds = true
  dp : PyData.depthAll ds ≤ n
  wt : PyData.weightAll ds ≤ ds.length * (W + 1)
theorem FineAll.of {n W : Nat} : ∀ {ds : List PyData}, (∀ d ∈ ds, Fine n W d) → FineAll n W ds
  | [], _ => ⟨rfl, rfl, rfl, Nat.zero_le _, Nat.zero_le _⟩
  | d :: ds, h => by
    have a := h d (List.mem_cons_self ..)
    have b := FineAll.of (ds := ds) fun e he => h e (List.mem_cons_of_mem _ he)
    refine ⟨?_, ?_, ?_, Nat.max_le.mpr ⟨a.dp, b.dp⟩, ?_⟩
    · show (d.hasDict || PyData.hasDictAll ds) = false
      rw [a.nd, b.nd]
      rfl
    · show (d.showable && PyData.showableAll ds) = true
      rw [a.sh, b.sh]
      rfl
    · show (d.leavesShort 80 && PyData.leavesShortAll 80 ds) = true
      rw [a.ls, b.ls]
      rfl
    · show d.weight + 1 + PyData.weightAll ds ≤ (ds.length + 1) * (W + 1)
      have := a.wt
      have := b.wt
      rw [Nat.succ_mul]
      omega
theorem FineAll.list {n W : Nat} {ds : List PyData} (a : FineAll n W ds) : Fine (n + 1) (ds.length * (W + 1)) (.list ds) := ⟨a.nd, a.sh, a.ls, Nat.succ_le_succ a.dp, a.wt⟩
theorem FineAll.tup {n W : Nat} {ds : List PyData} (a : FineAll n W ds) : Fine (n + 1) (ds.length * (W + 1)) (.tuple ds) := ⟨a.nd, a.sh, a.ls, Nat.succ_le_succ a.dp, a.wt⟩
theorem Fine.mono {n m W Z : Nat} {d : PyData} (h : Fine n W d) (a : n ≤ m) (b : W ≤ Z) : Fine m Z d := ⟨h.nd, h.sh, h.ls, Nat.le_trans h.dp a, Nat.le_trans h.wt b⟩
theorem Fine.bool (b : Bool) : Fine 0 0 (.bool b) := ⟨rfl, rfl, rfl, Nat.le_refl _, Nat.le_refl _⟩
theorem Fine.none : Fine 0 0 .none := ⟨rfl, rfl, rfl, Nat.le_refl _, Nat.le_refl _⟩
theorem Fine.int {i : Int} (h : i.natAbs < 2 ^ 70) : Fine 0 70 (.int i) := by
  have l : i.natAbs.log2 < 70 := PySem.Flt.log2_lt_of (by decide) h
  refine ⟨rfl, decide_eq_true (by omega), decide_eq_true ?_, Nat.le_refl _, ?_⟩
  · have e := int_text_length_le (a := i) (k := 70) (by decide) l
    show (Str.ofString (toString i)).length ≤ 80
    rw [PySem.ofString_length]
    omega
  · show (if i == 0 then 0 else i.natAbs.log2 + 1) ≤ 70
    split <;> omega
theorem Fine.str {z : Str} {W : Nat} (h : ∀ c ∈ z.cps.toList, c < 16 ^ 8) (w : z.cps.toList.length ≤ W) : Fine 0 W (.str z) := by
  refine ⟨rfl, rfl, ?_, Nat.le_refl _, w⟩
  show (z.cps.toList.all fun c => decide (c < 16 ^ 8)) = true
  rw [List.all_eq_true]
  exact fun c hc => decide_eq_true (h c hc)
theorem Fine.fits {d : PyData} (h : Fine 60 100000 d) : d.shown.length ≤ sizeLine := by
  have a := PyData.shown_le 80 (by decide) d h.ls
  have b := h.wt
  have c : (80 + 2) * d.weight ≤ 82 * 100000 := Nat.mul_le_mul_left _ b
  have e : sizeLine = 16777216 := by decide
  omega
section
variable {X : Cx}
/-- repr of a list or tuple, where none is being written out -/
theorem call_reprD (quiet : X.A.guards = some []) (hu : X.A.units + 64 < cLine) : CallR X (.builtin "repr") (fun xs H Q => ∃ (a : Addr) (d : PyData), xs = [.ref a] ∧ Dp X.K H (.ref a) d ∧ Fine 60 100000 d ∧ Q (.str d.shown) H) := by
  intro pins s σ H xs us Q I r h
  obtain ⟨a, d, rfl, hd, fine, q⟩ := h
  cases r with
  | cons r rr =>
    cases rr
    cases (show _ = Value.ref a from r)
    obtain ⟨as, rd⟩ := Dp.reads I d (.ref a) (.ref a) hd rfl
    have dp := fine.dp
    exact repr_of_reads' rd fine.sh (PyData.noDict_hsm fine.nd) quiet (by omega) (fun _ _ e => e) (fun g u tk keep => ⟨.str d.shown, H, I.kept (t' := tk) keep, ⟨_, rfl⟩, q⟩) fine.fits
end
end Gu
namespace Gu
open PySem PySem.Spec PyProof.Rows L2
/-! ### tuples: cut, joined, made of a text -/
section
variable {K : PySem.W.Frag} {H : Hp} {a b : Addr} {xs ys : List V} {Q : VK}
theorem cat_ok (ha : H a = some (.tup xs)) (hb : H b = some (.tup ys)) (hl : xs.length + ys.length ≤ sizeLine) (q : ∀ U G, Same H G → G U = some (.tup (xs ++ ys)) → Q (.ref U) G) : rCatA K (.ref a) (.ref b) H Q := by
  refine ⟨a, b, xs, ys, rfl, rfl, .inl (.inl ha), .inl (.inl hb), hl, fun e => q b H (Same.refl H) ?_, fun _ e => q a H (Same.refl H) ?_, fun _ _ p np => q p _ (same_new np) upd_same⟩
  · rw [e]
    exact hb
  · rw [e, List.append_nil]
    exact ha
theorem sl_ok {lo hi : Option Int} (ha : H a = some (.tup xs)) (q : ∀ U G, Same H G → G U = some (.tup (cutV xs lo hi)) → Q (.ref U) G) : rSlA K (.ref a) lo hi H Q := by
  refine ⟨a, xs, rfl, .inl (.inl ha), fun ⟨e1, e2⟩ => q a H (Same.refl H) ?_, fun _ p np => q p _ (same_new np) upd_same⟩
  unfold cutV
  rw [e1, e2, List.drop_zero, Nat.sub_zero, List.take_length]
  exact ha
end
theorem noPart {σ : L2.St} {H : Hp} {Q : Option Int → Hp → Prop} (h : Q none H) : tNoPart σ H Q := h
theorem call_tupS {X : Cx} (hc : X.calm = true) : CallR X (.type "tuple") (fun vs H Q => ∃ z : Str, vs = [.str z] ∧ z.cps.toList.length ≤ 1000 ∧ ∀ q, H q = none → Q (.ref q) (upd H q (.tup (ones z.cps.toList)))) := by
  intro pins s σ H vs us Q I r h
  obtain ⟨z, rfl, hz, q⟩ := h
  cases r with
  | cons r rr =>
    cases rr
    obtain ⟨t, rfl⟩ := r
    have zs : z.cps.size ≤ sizeLine := Nat.le_of_lt (small1000 hz)
    refine call_tuple_str (I.ok.hd hc) z t (fun g tk acc keep its => ?_) zs
    have I2 : Inv X pins σ H { s with heap := g, toks := tk } := I.kept keep
    have rel : Vals (ones z.cps.toList) acc.toList := by
      have el : acc.toList.length = z.cps.toList.length := its.1
      have e : ones z.cps.toList = (List.range acc.toList.length).map fun j => V.str (one (z.cps.toList.getD j 0)) := by
        unfold ones
        rw [el]
        refine List.ext_getElem? fun j => ?_
        rw [List.getElem?_map, List.getElem?_map]
        by_cases hj : j < z.cps.toList.length
        · rw [List.getElem?_eq_getElem hj, List.getElem?_range hj]
          show some (V.str (one z.cps.toList[j])) = some (V.str (one (z.cps.toList.getD j 0)))
          rw [List.getD_eq_getElem?_getD, List.getElem?_eq_getElem hj]
          rfl
        · rw [List.getElem?_eq_none (by omega), List.getElem?_eq_none (by rw [List.length_range]; omega)]
          rfl
      rw [e]
      refine vals_of_get acc.toList _ fun j u hj => ?_
      obtain ⟨c, tt, hc1, rfl⟩ := its.2 j u (by rw [← hj, Array.getElem?_toList])
      refine ⟨tt, ?_⟩
      rw [List.getD_eq_getElem?_getD, Array.getElem?_toList, hc1]
      rfl
    refine ⟨.ref g.objs.size, upd H g.objs.size (.tup (ones z.cps.toList)), I2.laid (t' := tk) (fun c o e => Heap.get?_push_of_some _ e) (Nat.le_refl _) (show ObjOk X.prog X.w _ _ _ (.tup (ones z.cps.toList)) from ⟨?_, acc.toList, rel, ?_⟩), rfl, q _ (I2.hok.fresh (Nat.le_refl _))⟩
    · unfold ones
      rw [List.length_map]
      exact zs
    · rw [Array.toArray_toList]
      exact IsTup.new _ _
def rLenK (K : PySem.W.Frag) : List V → Hp → VK → Prop := fun xs H Q => ∃ (x : V) (n : Nat), xs = [x] ∧ LenV K x H n ∧ Q (.int n) H
/-! ### lengths of what is cut -/
def Rec.len (r : Rec) (n : Nat) : Nat := if n ≤ r.l.toNat then n else min r.h.toNat n + r.z.cps.toList.length + min r.t.toNat n
def lens (rs : List Rec) (n : Nat) : Nat := rs.foldl (fun n r => r.len n) n
theorem cut_len (r : Rec) (xs : List V) : (cut r.l.toNat r.h.toNat r.t.toNat (ones r.z.cps.toList) xs).length = r.len xs.length := by
  unfold cut Rec.len
  split
  · rfl
  · rw [List.length_append, List.length_append, List.length_take, List.length_drop]
    unfold ones
    rw [List.length_map]
    omega
theorem cutsV_length : ∀ (rs : List Rec) (xs : List V), (cutsV rs xs).length = lens rs xs.length
  | [], _ => rfl
  | r :: rs, xs => by
    show (cutsV rs (cut r.l.toNat r.h.toNat r.t.toNat (ones r.z.cps.toList) xs)).length = lens rs (r.len xs.length)
    rw [cutsV_length rs, cut_len]
theorem Rec.fit.len_le {r : Rec} (f : r.fit) {n : Nat} (h : n ≤ 500) : r.len n ≤ 500 := by
  have a := f.zl
  have b := f.h
  have c := f.t
  unfold Rec.len
  split <;> omega
theorem lens_le : ∀ (rs : List Rec) {n : Nat}, (∀ r ∈ rs, r.fit) → n ≤ 500 → lens rs n ≤ 500
  | [], _, _, h => h
  | r :: rs, n, hf, h => lens_le rs (n := r.len n) (fun q hq => hf q (List.mem_cons_of_mem _ hq)) ((hf r (List.mem_cons_self ..)).len_le h)
/-- from 41 signs on all is as for 41 -/
theorem lens_far {rs : List Rec} (hf : ∀ r ∈ rs, r.fit) (h1 : 1 ≤ rs.length) {n : Nat} (h : 41 ≤ n) : lens rs n = lens rs 41 := by
  cases rs with
  | nil => cases h1
  | cons r rs =>
    have f := hf r (List.mem_cons_self ..)
    have a := f.l
    have b := f.h
    have c := f.t
    have e : r.len n = r.len 41 := by
      unfold Rec.len
      rw [if_neg (by omega), if_neg (by omega)]
      omega
    show lens rs (r.len n) = lens rs (r.len 41)
    rw [e]
section
variable {P : Program} {w : World} {K : PySem.W.Frag} {mg : Str → Option Value} {base : Heap} {C : Addr}
/-! ### shortened: of a tuple -/
def spShortT (C : Addr) : Sp := fun vs H Q _ => ∃ (x W M : Addr) (r : Rec) (xs : List V), vs = [.ref x, .ref W, .ref M] ∧ ShAt C H x r ∧ r.fit ∧ H W = some (.tup xs) ∧ xs.length ≤ 1000 ∧ H M = some (.tup (ones r.z.cps.toList)) ∧
  ∀ U G, Same H G → G U = some (.tup (cut r.l.toNat r.h.toNat r.t.toNat (ones r.z.cps.toList) xs)) → Q (.ref U) G
theorem cal_shortT (B : Bi mg) (S : ShC K mg C) (D : At K mg "shortened" s_shortened ps_shortened) : Cal P w K mg base 1 "shortened" ps_shortened (spShortT C) := by
  refine D.cal sc_shortened (fun vs H Q E h => ?_) (fun f cdv A outer s H vs Q E hr h => ?_)
  · obtain ⟨x, W, M, r, xs, rfl, _⟩ := h
    rfl
  · obtain ⟨x, W, M, r, xs, rfl, ⟨dx, b, hx, _⟩, fit, hW, xl, hM, k⟩ := h
    have f1 := fit.l
    have f2 := fit.h
    have f3 := fit.t
    have f4 := fit.zl
    have ol : (ones r.z.cps.toList).length = r.z.cps.toList.length := by
      unfold ones
      rw [List.length_map]
    refine ⟨_, (pss_cons (ps_if (pt_cmpR op_le (pe_callB call_len (by rfl) B.len (by decide +kernel) (pa_cons (pv 1) pa_nil)) (pe_fld (pv 0) rfl) (nomark _)) (pss_one (ps_ret (pv 1))) pss_nil)
      (pss_cons (ps_set (i := 3) sc_shortened.nd rfl (.inl rfl) (pe_callB (call_max2 rfl) (by rfl) B.max (by decide +kernel) (pa_cons pe_int (pa_cons (pe_op op_sub (pe_callB call_len (by rfl) B.len (by decide +kernel) (pa_cons (pv 1) pa_nil)) (pe_fld (pv 0) rfl)) pa_nil))))
      (pss_one (ps_ret (pe_op op_catA (pe_op op_catA (pe_slice sl_tupA (pv 1) po_none (po_some (pe_fld (pv 0) rfl))) (pv 2)) (pe_slice sl_tupA (pv 1) (po_some (pv 3)) po_none)))))), ?_⟩
    refine ⟨_, rfl, _, _, rfl, .inr ⟨_, .inl (.inl hW), rfl⟩, _, rfl, x, C, dx, _, _, rfl, hx, S.cl, S.nL, flds_limit _ _, _, _, rfl, rfl, _, rfl, ite2 (fun e => ?_) (fun e => ?_)⟩
    · have e1 := of_decide_eq_true e
      refine ⟨_, rfl, k W H (Same.refl H) ?_⟩
      unfold cut
      rw [if_pos (by omega)]
      exact hW
    · have e1 : ¬ (xs.length : Int) ≤ r.l := fun h => e (decide_eq_true h)
      refine ⟨_, rfl, _, _, rfl, .inr ⟨_, .inl (.inl hW), rfl⟩, _, rfl, x, C, dx, _, _, rfl, hx, S.cl, S.nT, flds_tail _ _, _, _, rfl, rfl, _, _, rfl, ?_⟩
      refine ⟨_, rfl, _, rfl, x, C, dx, _, _, rfl, hx, S.cl, S.nH, flds_head _ _, _, rfl, sl_ok hW fun U1 G1 s1 e1 => ?_⟩
      have c1 : cutV xs none (some r.h) = xs.take r.h.toNat := cut_front xs f2.1
      rw [c1] at e1
      refine ⟨_, rfl, cat_ok e1 (s1 _ _ hM) (Nat.le_of_lt (Nat.lt_of_le_of_lt (show _ ≤ 2000 by rw [List.length_take]; omega) (by decide))) fun U2 G2 s2 e2 => ?_⟩
      refine ⟨_, rfl, _, rfl, _, rfl, ?_⟩
      refine noPart ?_
      refine sl_ok (s2 _ _ (s1 _ _ hW)) fun U3 G3 s3 e3 => ?_
      have c3 : cutV xs (some (if (xs.length : Int) - r.t > 0 then (xs.length : Int) - r.t else 0)) none = xs.drop (xs.length - r.t.toNat) := by
        have q := cut_back xs (h := if (xs.length : Int) - r.t > 0 then (xs.length : Int) - r.t else 0) (by split <;> omega)
        have n : (if (xs.length : Int) - r.t > 0 then (xs.length : Int) - r.t else 0).toNat = xs.length - r.t.toNat := by split <;> omega
        rw [n] at q
        exact q
      rw [c3] at e3
      refine cat_ok (s3 _ _ e2) e3 (Nat.le_of_lt (Nat.lt_of_le_of_lt (show _ ≤ 4000 by rw [List.length_append, List.length_take, List.length_drop]; omega) (by decide))) fun U4 G4 s4 e4 => k U4 G4 (s1.trans (s2.trans (s3.trans s4))) ?_
      rw [e4]
      unfold cut
      rw [if_neg (show ¬ xs.length ≤ r.l.toNat by omega)]
/-! ### planned, check_length, plan, widest -/
theorem cutsV_snoc' (rs : List (Addr × Rec)) {i : Nat} {q : Addr × Rec} (h : rs[i]? = some q) (xs : List V) :
    cutsV ((rs.take (i + 1)).map (·.2)) xs = cut q.2.l.toNat q.2.h.toNat q.2.t.toNat (ones q.2.z.cps.toList) (cutsV ((rs.take i).map (·.2)) xs) := cutsV_snoc rs h xs
def spPlanned (C : Addr) : Sp := fun vs H Q _ => ∃ (a : Addr) (n : Nat) (rs : List (Addr × Rec)), vs = [.ref a, .int (n : Int)] ∧ RowAt C H a rs ∧ n ≤ 500 ∧ ∀ U G, Same H G → G U = some (.tup (cutsV (rs.map (·.2)) (rgV 0 n))) → Q (.ref U) G
theorem cal_planned (B : Bi mg) (S : ShC K mg C) (D : At K mg "planned" s_planned ps_planned) (C_shortened : Cal P w K mg base 1 "shortened" ps_shortened (spShortT C)) : Cal P w K mg base 2 "planned" ps_planned (spPlanned C) := by
  refine D.cal sc_planned (fun vs H Q E h => ?_) (fun f cdv A outer s H vs Q E hr h => ?_)
  · obtain ⟨a, n, rs, rfl, _⟩ := h
    rfl
  · obtain ⟨a, n, rs, rfl, hR, hn, k⟩ := h
    refine ⟨_, (pss_cons (ps_set (i := 2) sc_planned.nd rfl (.inl rfl) (pe_tupRg (by rfl) (by rfl) B.tuple (prg_1 (by rfl) B.range (pv 1))))
      (pss_cons (ps_for PassesOwn.never rfl (pi_tup (pv 0)) (pg_name (i := 3) sc_planned.nd rfl (.inl rfl))
      (pss_one (ps_set (i := 2) sc_planned.nd rfl (.inl rfl) (pe_own C_shortened hr (by decide) (by rfl) (pa_cons (pv 3) (pa_cons (pv 2) (pa_cons (pe_callTy (call_tupS rfl) (by rfl) B.tuple (by decide +kernel) (pa_cons (pe_fld (pv 3) rfl) pa_nil)) pa_nil)))))))
      (pss_one (ps_ret (pv 2))))), ?_⟩
    refine ⟨_, rfl, _, rfl, RgOk.of_le (by omega) (by omega) (by omega) (by omega), fun T nT => ?_⟩
    have s0 : Same H (upd H T (.tup (rgV 0 n))) := same_new nT
    have R0 := hR.same s0
    refine ⟨_, rfl, a, rfl, ⟨_, .inl (.inl R0.tp)⟩, for_tup (K := K) (a := a) (xs := rs.map fun q => V.ref q.1) (fun i σ J => ∃ (U : Addr) (u : Option V), σ = [some (.ref a), some (.int (n : Int)), some (.ref U), u] ∧ Same H J ∧ J U = some (.tup (cutsV ((rs.take i).map (·.2)) (rgV 0 n))))
      ⟨T, none, rfl, s0, upd_same⟩ (fun i σ J _ ⟨_, _, _, sJ, _⟩ => .inl (.inl (sJ _ _ hR.tp))) ?_ ?_⟩
    · rintro i v σ J hi ⟨U, u, rfl, sJ, eU⟩
      rw [List.getElem?_map] at hi
      cases hq : rs[i]? with
      | none =>
        rw [hq] at hi
        cases hi
      | some q =>
        rw [hq] at hi
        cases hi
        obtain ⟨sq, fq⟩ := (hR.same sJ).sh q (List.mem_of_getElem? hq)
        obtain ⟨dx, b, e1, e2⟩ := id sq
        refine ⟨_, rfl, _, rfl, _, rfl, q.1, C, dx, _, _, rfl, e1, S.cl, S.nM, flds_mark _ _, q.2.z, rfl, by have := fq.zl; omega, fun M nM => ?_⟩
        have s1 : Same J (upd J M (.tup (ones q.2.z.cps.toList))) := same_new nM
        refine ⟨q.1, U, M, q.2, _, rfl, sq.same s1, fq, s1 _ _ eU, ?_, upd_same, fun U2 G s2 e3 => ⟨U2, _, rfl, sJ.trans (s1.trans s2), ?_⟩⟩
        · rw [cutsV_length]
          have := lens_le ((rs.take i).map (·.2)) (n := (rgV 0 n).length) (fun r hr => by
            obtain ⟨p, hp, rfl⟩ := List.mem_map.mp hr
            exact (hR.sh p (List.mem_of_mem_take hp)).2) (by rw [rgV_length]; omega)
          omega
        · rw [e3, cutsV_snoc' rs hq]
    · rintro σ J ⟨U, u, rfl, sJ, eU⟩
      rw [List.length_map, List.take_length] at eU
      exact ⟨_, rfl, k U J sJ eU⟩
def spCheckLength : Sp := fun vs H Q _ => ∃ (n : Nat), vs = [.int (n : Int)] ∧ n ≤ 500 ∧ Q .non H
theorem cal_checkLength (B : Bi mg) (D : At K mg "check_length" s_check_length ps_check_length) (C_is_integer : Cal P w K mg base 1 "is_integer" ps_is_integer (spIsInteger K)) : Cal P w K mg base 2 "check_length" ps_check_length spCheckLength := by
  refine D.cal sc_check_length (fun vs H Q E h => ?_) (fun f cdv A outer s H vs Q E hr h => ?_)
  · obtain ⟨n, rfl, _⟩ := h
    rfl
  · obtain ⟨n, rfl, hn, k⟩ := h
    refine ⟨_, (pss_one (ps_if (pt_not (pt_val (pe_own C_is_integer hr (by decide) (by rfl) (pa_cons (pv 0) (pa_cons pe_int (pa_cons (pe_cst B.MOST_LENGTH (by rfl)) pa_nil)))))) pss_never pss_nil)), ?_⟩
    refine ⟨_, rfl, _, _, _, rfl, .inl ⟨_, rfl, _, rfl, ?_⟩⟩
    rw [decide_eq_true (show (0 : Int) ≤ (n : Int) ∧ (n : Int) ≤ 500 by omega)]
    exact iteF k
def spPlan (C : Addr) : Sp := fun vs H Q _ => ∃ (a : Addr) (n : Nat) (rs : List (Addr × Rec)), vs = [.ref a, .int (n : Int)] ∧ RowAt C H a rs ∧ 1 ≤ rs.length ∧ rs.length ≤ 4 ∧ n ≤ 500 ∧ ∀ U G, Same H G → G U = some (.tup (cutsV (rs.map (·.2)) (rgV 0 n))) → Q (.ref U) G
theorem cal_plan (B : Bi mg) (D : At K mg "plan" s_plan ps_plan) (C_check_row : Cal P w K mg base 2 "check_row" ps_check_row (spCheckRow C)) (C_check_length : Cal P w K mg base 2 "check_length" ps_check_length spCheckLength) (C_planned : Cal P w K mg base 2 "planned" ps_planned (spPlanned C)) : Cal P w K mg base 3 "plan" ps_plan (spPlan C) := by
  refine D.cal sc_plan (fun vs H Q E h => ?_) (fun f cdv A outer s H vs Q E hr h => ?_)
  · obtain ⟨a, n, rs, rfl, _⟩ := h
    rfl
  · obtain ⟨a, n, rs, rfl, hR, l1, l4, hn, k⟩ := h
    refine ⟨_, (pss_cons (ps_expr (pe_own C_check_row hr (by decide) (by rfl) (pa_cons (pv 0) pa_nil)))
      (pss_cons (ps_expr (pe_own C_check_length hr (by decide) (by rfl) (pa_cons (pv 1) pa_nil)))
      (pss_one (ps_ret (pe_own C_planned hr (by decide) (by rfl) (pa_cons (pv 0) (pa_cons (pv 1) pa_nil))))))), ?_⟩
    refine ⟨_, rfl, a, rs, rfl, hR, l1, l4, fun G1 s1 => ⟨_, rfl, n, rfl, hn, ⟨_, rfl, _, rfl, a, n, rs, rfl, hR.same s1, hn, fun U G s2 e => k U G (s1.trans s2) e⟩⟩⟩
def wides (rs : List Rec) (n : Nat) : List Int := (List.range n).map fun i => (lens rs i : Int)
def Top (m : Int) (ns : List Int) : Prop := m ∈ ns ∧ ∀ y ∈ ns, y ≤ m
theorem Top.one {m k : Int} {ns : List Int} (a : Top m ns) (b : Top k ns) : m = k := Int.le_antisymm (b.2 m a.1) (a.2 k b.1)
theorem wides_top {rs : List Rec} (hf : ∀ r ∈ rs, r.fit) (h1 : 1 ≤ rs.length) {m : Int} {n : Nat} (hn : 42 ≤ n) (h : Top m (wides rs 42)) : Top m (wides rs n) := by
  obtain ⟨a, b⟩ := h
  unfold wides at a b ⊢
  obtain ⟨i, hi, rfl⟩ := List.mem_map.mp a
  refine ⟨List.mem_map.mpr ⟨i, List.mem_range.mpr (by have := List.mem_range.mp hi; omega), rfl⟩, fun y hy => ?_⟩
  obtain ⟨j, hj, rfl⟩ := List.mem_map.mp hy
  by_cases hj2 : j < 42
  · exact b _ (List.mem_map.mpr ⟨j, List.mem_range.mpr hj2, rfl⟩)
  · rw [lens_far hf h1 (show 41 ≤ j by omega)]
    exact b _ (List.mem_map.mpr ⟨41, List.mem_range.mpr (by decide), rfl⟩)
def spWidest (C : Addr) : Sp := fun vs H Q _ => ∃ (a : Addr) (rs : List (Addr × Rec)), vs = [.ref a] ∧ RowAt C H a rs ∧ 1 ≤ rs.length ∧ rs.length ≤ 4 ∧ ∀ m G, Same H G → Top m (wides (rs.map (·.2)) 42) → Q (.int m) G
theorem cal_widest (B : Bi mg) (D : At K mg "widest" s_widest ps_widest) (C_check_row : Cal P w K mg base 2 "check_row" ps_check_row (spCheckRow C)) (C_planned : Cal P w K mg base 2 "planned" ps_planned (spPlanned C)) : Cal P w K mg base 3 "widest" ps_widest (spWidest C) := by
  refine D.cal sc_widest (fun vs H Q E h => ?_) (fun f cdv A outer s H vs Q E hr h => ?_)
  · obtain ⟨a, rs, rfl, _⟩ := h
    rfl
  · obtain ⟨a, rs, rfl, hR, l1, l4, k⟩ := h
    refine ⟨_, (pss_cons (ps_expr (pe_own C_check_row hr (by decide) (by rfl) (pa_cons (pv 0) pa_nil)))
      (pss_one (ps_ret (pe_callB (cr_max rfl) (by rfl) B.max (by decide +kernel) (pa_cons (pe_lc (own := [("length", 1)]) (by rfl) sc_widest.nd (pi_range1 (by rfl) B.range (pa_cons (pe_op op_add (pe_cst B.MOST_SIGNS (by rfl)) pe_int) pa_nil)) (blkOk_by (own := [("length", 1)]) (N := ["row", "length"]) (sc := defScope s_widest) (by decide +kernel)) (fun _ _ _ _ _ => pg_name (i := 1) sc_widest.nd rfl (.inl rfl)) (fun _ _ _ _ _ => pts_nil) (fun _ _ _ _ _ => (pe_callB (id := "len") (r := rLenK K) call_len (by rfl) B.len (by decide +kernel) (pa_cons (pe_own C_planned hr (by decide) (by rfl) (pa_cons (pv 0) (pa_cons (pv 1) pa_nil))) pa_nil)))) pa_nil))))), ?_⟩
    refine ⟨_, rfl, a, rs, rfl, hR, l1, l4, fun G1 s1 => ?_⟩
    refine ⟨_, _, rfl, rfl, _, rfl, by decide, by decide, fun D nD => lc_range (lo := 0) (n := 42) (fun i J => Same H J ∧ J D = some (.lst ((wides (rs.map (·.2)) i).map V.int))) ⟨s1.trans (same_new nD), upd_same⟩ ?_ ?_⟩
    · rintro i J hi ⟨sJ, eD⟩
      refine ⟨rfl, yes (iteT ⟨_, rfl, _, rfl, a, i, rs, ?_, hR.same sJ, by omega, fun U G s2 eU => ?_⟩)⟩
      · rw [Int.zero_add]
        rfl
      · refine ⟨_, _, rfl, .inr ⟨_, .inl (.inl eU), rfl⟩, _, s2 _ _ eD, small1000 ?_, ?_, ?_⟩
        · unfold wides
          rw [List.length_map, List.length_map, List.length_range]
          omega
        · intro b o e
          rw [upd_ne (ne_of_none e (s1.free nD))]
          exact s2 _ _ (sJ _ _ e)
        · rw [upd_same, cutsV_length, rgV_length]
          unfold wides
          rw [List.range_succ, List.map_append, List.map_append]
          simp only [Int.sub_zero, Int.toNat_natCast]
          rfl
    · rintro J ⟨sJ, eD⟩
      refine ⟨D, _, rfl, .inl (.inl eD), ?_, fun m hm hle => k m J sJ ⟨hm, hle⟩⟩
      unfold wides
      rw [List.length_map, List.length_range]
      decide
end
end Gu
namespace Gu
open PySem PySem.Spec PyProof.Rows L2
/-! ### plans as data, and filled in -/
def dat : V → PyData
  | .int i => .int i
  | .str z => .str z
  | _ => .none
/-- a place or a single sign -/
def Plain (n : Nat) (x : V) : Prop := (∃ i : Int, x = .int i ∧ 0 ≤ i ∧ i < (n : Int)) ∨ ∃ c : Nat, x = .str (one c) ∧ c < 128
theorem Plain.fine {n : Nat} {x : V} (hn : n ≤ 500) (h : Plain n x) : Fine 0 70 (dat x) := by
  rcases h with ⟨i, rfl, h0, h1⟩ | ⟨c, rfl, hc⟩
  · exact Fine.int (by omega)
  · exact (Fine.str (z := one c) (W := 1) (fun d hd => by
      rw [List.mem_singleton.mp (show d ∈ [c] from hd)]
      exact Nat.lt_of_lt_of_le hc (by decide)) (Nat.le_refl _)).mono (Nat.le_refl _) (by decide)
theorem Plain.dp {K : PySem.W.Frag} {H : Hp} {n : Nat} {x : V} (h : Plain n x) : Dp K H x (dat x) := by
  rcases h with ⟨i, rfl, _⟩ | ⟨c, rfl, _⟩
  · exact .int i
  · exact .str _
theorem dp_all {K : PySem.W.Frag} {H : Hp} {n : Nat} : ∀ {xs : List V}, (∀ x ∈ xs, Plain n x) → DpAll K H xs (xs.map dat)
  | [], _ => .nil
  | x :: xs, h => .cons (h x (List.mem_cons_self ..)).dp (dp_all fun y hy => h y (List.mem_cons_of_mem _ hy))
theorem ones_plain {n : Nat} {cs : List Nat} (h : Signs cs) : ∀ x ∈ ones cs, Plain n x := by
  intro x hx
  obtain ⟨c, hc, rfl⟩ := List.mem_map.mp hx
  have a : ∀ c ∈ signs.cps.toList, c < 128 := by decide +kernel
  exact .inr ⟨c, rfl, a c (h c hc)⟩
theorem cutsV_all {p : V → Prop} : ∀ (rs : List Rec) {xs : List V}, (∀ r ∈ rs, ∀ x ∈ ones r.z.cps.toList, p x) → (∀ x ∈ xs, p x) → ∀ x ∈ cutsV rs xs, p x
  | [], _, _, h => h
  | r :: rs, xs, hz, h => by
    refine cutsV_all rs (xs := cut r.l.toNat r.h.toNat r.t.toNat (ones r.z.cps.toList) xs) (fun q hq => hz q (List.mem_cons_of_mem _ hq)) fun x hx => ?_
    unfold cut at hx
    split at hx
    · exact h x hx
    · rcases List.mem_append.mp hx with hx | hx
      · rcases List.mem_append.mp hx with hx | hx
        · exact h x (List.mem_of_mem_take hx)
        · exact hz r (List.mem_cons_self ..) x hx
      · exact h x (List.mem_of_mem_drop hx)
theorem plan_plain {rs : List Rec} (hf : ∀ r ∈ rs, r.fit) {n : Nat} : ∀ x ∈ cutsV rs (rgV 0 n), Plain n x :=
  cutsV_all rs (fun r hr => ones_plain (isTxt_signs (hf r hr).z)) fun x hx => by
    unfold rgV at hx
    obtain ⟨i, hi, rfl⟩ := List.mem_map.mp hx
    have := List.mem_range.mp hi
    exact .inl ⟨_, rfl, by omega, by omega⟩
theorem plan_fine {rs : List Rec} (hf : ∀ r ∈ rs, r.fit) {n : Nat} (hn : n ≤ 500) : Fine 60 100000 (.list [.tuple ((cutsV rs (rgV 0 n)).map dat), .tuple ((cutsV rs (rgV 0 n)).map dat)]) := by
  have a : FineAll 0 70 ((cutsV rs (rgV 0 n)).map dat) := .of fun d hd => by
    obtain ⟨x, hx, rfl⟩ := List.mem_map.mp hd
    exact (plan_plain hf x hx).fine hn
  have l : ((cutsV rs (rgV 0 n)).map dat).length ≤ 500 := by
    rw [List.length_map, cutsV_length, rgV_length]
    exact lens_le rs hf (by omega)
  have b := a.tup
  have c : Fine 1 35500 (.tuple ((cutsV rs (rgV 0 n)).map dat)) := b.mono (Nat.le_refl _) (by omega)
  have d : FineAll 1 35500 [.tuple ((cutsV rs (rgV 0 n)).map dat), .tuple ((cutsV rs (rgV 0 n)).map dat)] := .of fun e he => by
    simp only [List.mem_cons, List.not_mem_nil, or_false, or_self] at he
    rw [he]
    exact c
  exact d.list.mono (by decide) (by show 2 * 35501 ≤ 100000; decide)
def fill (cs : List Nat) : V → V
  | .int i => .str (one (cs.getD i.toNat 0))
  | v => v
theorem fill_ones (cs ds : List Nat) : (ones ds).map (fill cs) = ones ds := by
  unfold ones
  rw [List.map_map]
  rfl
theorem fill_cuts (cs : List Nat) : ∀ (rs : List Rec) (xs : List V), (cutsV rs xs).map (fill cs) = cutsV rs (xs.map (fill cs))
  | [], _ => rfl
  | r :: rs, xs => by
    show (cutsV rs (cut r.l.toNat r.h.toNat r.t.toNat (ones r.z.cps.toList) xs)).map (fill cs) = cutsV rs (cut r.l.toNat r.h.toNat r.t.toNat (ones r.z.cps.toList) (xs.map (fill cs)))
    rw [fill_cuts cs rs, ← cut_map, fill_ones]
theorem fill_range (cs : List Nat) : (rgV 0 (cs.length : Nat)).map (fill cs) = ones cs := by
  unfold rgV ones
  rw [List.map_map]
  refine List.ext_getElem? fun j => ?_
  rw [List.getElem?_map, List.getElem?_map]
  simp only [Int.sub_zero, Int.toNat_natCast]
  by_cases hj : j < cs.length
  · rw [List.getElem?_range hj, List.getElem?_eq_getElem hj]
    show some (V.str (one (cs.getD (0 + (j : Int)).toNat 0))) = some (V.str (one cs[j]))
    rw [Int.zero_add, Int.toNat_natCast, List.getD_eq_getElem?_getD, List.getElem?_eq_getElem hj]
    rfl
  · rw [List.getElem?_eq_none (by rw [List.length_range]; omega), List.getElem?_eq_none (by omega)]
    rfl
theorem at_of' {α : Type} {xs : List α} {i : Int} {j : Nat} {v : α} (e : i = (j : Int)) (h : xs[j]? = some v) : atI xs i = some v := by
  rw [e]
  exact atI_nat h
def idl {α : Type} (l : List α) : List α := l
end Gu
namespace Gu
open PySem PySem.Spec PyProof.Rows L2
/-! ### plans that differ, and the least text that tells -/
def planV (rs : List Rec) (n : Nat) : List V := cutsV rs (rgV 0 (n : Int))
theorem fill_plan (rs : List Rec) (cs : List Nat) : (planV rs cs.length).map (fill cs) = ones (cuts rs cs) := by
  unfold planV
  rw [fill_cuts, fill_range, cutsV_ones]
theorem map_injL {α β : Type} {f : α → β} (h : ∀ x y, f x = f y → x = y) : ∀ {xs ys : List α}, xs.map f = ys.map f → xs = ys
  | [], [], _ => rfl
  | [], _ :: _, e => nomatch e
  | _ :: _, [], e => nomatch e
  | x :: xs, y :: ys, e => by
    have e := List.cons.inj e
    rw [h _ _ e.1, map_injL h e.2]
theorem ones_inj {cs ds : List Nat} (h : ones cs = ones ds) : cs = ds := by
  refine map_injL (fun a b e => ?_) h
  have := congrArg (fun z : Str => z.cps.toList) (V.str.inj e)
  exact List.singleton_inj.mp this
theorem shown_iff (rs ss : List Rec) (cs : List Nat) : cuts rs cs = cuts ss cs ↔ (planV rs cs.length).map (fill cs) = (planV ss cs.length).map (fill cs) := by
  rw [fill_plan, fill_plan]
  exact ⟨fun h => by rw [h], ones_inj⟩
theorem map_cuts {f : V → V} (hf : ∀ z, f (.str z) = .str z) : ∀ (rs : List Rec) (xs : List V), cutsV rs (xs.map f) = (cutsV rs xs).map f
  | [], _ => rfl
  | r :: rs, xs => by
    have e : ones r.z.cps.toList = (ones r.z.cps.toList).map f := by
      unfold ones
      rw [List.map_map]
      refine List.map_congr_left fun c _ => ?_
      exact (hf _).symm
    show cutsV rs (cut r.l.toNat r.h.toNat r.t.toNat (ones r.z.cps.toList) (xs.map f)) = (cutsV rs (cut r.l.toNat r.h.toNat r.t.toNat (ones r.z.cps.toList) xs)).map f
    conv => lhs; rw [e]
    rw [cut_map, map_cuts hf rs]
/-! far lengths -/
def far (n : Nat) : V → V
  | .int i => .int (if i < 40 then i else i + ((n : Int) - 80))
  | v => v
theorem far_inj {n : Nat} (h : 80 ≤ n) {x y : V} (e : far n x = far n y) : x = y := by
  cases x <;> cases y <;> first | exact e | cases e | skip
  have e := V.int.inj e
  congr 1
  split at e <;> split at e <;> omega
theorem rg_get (n j : Nat) : (rgV 0 (n : Int))[j]? = if j < n then some (V.int (j : Int)) else none := by
  unfold rgV
  rw [List.getElem?_map, Int.sub_zero, Int.toNat_natCast]
  split
  · next h =>
    rw [List.getElem?_range h]
    show some (V.int (0 + (j : Int))) = _
    rw [Int.zero_add]
  · next h =>
    rw [List.getElem?_eq_none (by rw [List.length_range]; omega)]
    rfl
theorem rg_len (n : Nat) : (rgV 0 (n : Int)).length = n := by
  rw [rgV_length]
  omega
theorem cut_far {r : Rec} (f : r.fit) {n : Nat} (hn : 80 ≤ n) : cut r.l.toNat r.h.toNat r.t.toNat (ones r.z.cps.toList) (rgV 0 (n : Int)) = (cut r.l.toNat r.h.toNat r.t.toNat (ones r.z.cps.toList) (rgV 0 ((80 : Nat) : Int))).map (far n) := by
  have f1 := f.l
  have f2 := f.h
  have f3 := f.t
  unfold cut
  rw [rg_len, rg_len, if_neg (by omega), if_neg (by omega), List.map_append, List.map_append]
  congr 1
  · congr 1
    · refine List.ext_getElem? fun j => ?_
      rw [List.getElem?_map, List.getElem?_take, List.getElem?_take]
      split
      · rw [rg_get, rg_get, if_pos (by omega), if_pos (by omega)]
        show _ = some (V.int _)
        rw [if_pos (by omega)]
      · rfl
    · unfold ones
      rw [List.map_map]
      rfl
  · refine List.ext_getElem? fun j => ?_
    rw [List.getElem?_map, List.getElem?_drop, List.getElem?_drop, rg_get, rg_get]
    by_cases hj : j < r.t.toNat
    · rw [if_pos (by omega), if_pos (by omega)]
      show _ = some (V.int _)
      rw [if_neg (by omega)]
      congr 2
      omega
    · rw [if_neg (by omega), if_neg (by omega)]
      rfl
theorem plan_far {rs : List Rec} (hf : ∀ r ∈ rs, r.fit) (h1 : 1 ≤ rs.length) {n : Nat} (hn : 80 ≤ n) : planV rs n = (planV rs 80).map (far n) := by
  cases rs with
  | nil => cases h1
  | cons r rs =>
    show cutsV rs (cut r.l.toNat r.h.toNat r.t.toNat (ones r.z.cps.toList) (rgV 0 (n : Int))) = (cutsV rs (cut r.l.toNat r.h.toNat r.t.toNat (ones r.z.cps.toList) (rgV 0 ((80 : Nat) : Int)))).map (far n)
    rw [cut_far (hf r (List.mem_cons_self ..)) hn, map_cuts (fun z => rfl)]
theorem map_inj {f : V → V} (h : ∀ x y, f x = f y → x = y) {xs ys : List V} (e : xs.map f = ys.map f) : xs = ys := map_injL h e
/-- what is so up to 80 is so for all lengths -/
theorem alike_all {rs ss : List Rec} (hr : ∀ r ∈ rs, r.fit) (hs : ∀ r ∈ ss, r.fit) (r1 : 1 ≤ rs.length) (s1 : 1 ≤ ss.length) (h : ∀ n, n ≤ 80 → planV rs n = planV ss n) (n : Nat) : planV rs n = planV ss n := by
  rcases Nat.lt_or_ge 80 n with hn | hn
  · rw [plan_far hr r1 (by omega), plan_far hs s1 (by omega), h 80 (by omega)]
  · exact h n hn
/-! least texts -/
def dots (n : Nat) : List Nat := List.replicate n 46
def dotp (n p : Nat) : List Nat := List.replicate p 46 ++ 48 :: List.replicate (n - p - 1) 46
theorem dots_len (n : Nat) : (dots n).length = n := List.length_replicate ..
theorem dotp_len {n p : Nat} (h : p < n) : (dotp n p).length = n := by
  unfold dotp
  rw [List.length_append, List.length_cons, List.length_replicate, List.length_replicate]
  omega
theorem dots_at {n i : Nat} (h : i < n) : (dots n).getD i 0 = 46 := by
  unfold dots
  rw [List.getD_eq_getElem?_getD, List.getElem?_replicate, if_pos h]
  rfl
theorem dotp_at {n p i : Nat} (hp : p < n) (h : i < n) : (dotp n p).getD i 0 = if i = p then 48 else 46 := by
  unfold dotp
  rw [List.getD_eq_getElem?_getD]
  rcases Nat.lt_trichotomy i p with h1 | h1 | h1
  · rw [List.getElem?_append_left (by rw [List.length_replicate]; exact h1), List.getElem?_replicate, if_pos h1, if_neg (by omega)]
    rfl
  · rw [List.getElem?_append_right (by rw [List.length_replicate]; omega), List.length_replicate, h1, Nat.sub_self, if_pos rfl]
    rfl
  · rw [List.getElem?_append_right (by rw [List.length_replicate]; omega), List.length_replicate, if_neg (by omega)]
    obtain ⟨k, hk⟩ : ∃ k, i - p = k + 1 := ⟨i - p - 1, by omega⟩
    rw [hk, List.getElem?_cons_succ, List.getElem?_replicate, if_pos (by omega)]
    rfl
/-- at some place one has the sign p and the other something else -/
def Diff (xs ys : List V) (p : Nat) : Prop := ∃ (i : Nat) (x y : V), xs[i]? = some x ∧ ys[i]? = some y ∧ x ≠ y ∧ (x = V.int (p : Int) ∨ y = V.int (p : Int))
def flat0 : V → V
  | .int _ => .str (one 46)
  | v => v
theorem fill_dots {n : Nat} {x : V} (h : Plain n x) : fill (dots n) x = flat0 x := by
  rcases h with ⟨i, rfl, h0, h1⟩ | ⟨c, rfl, _⟩
  · show V.str (one _) = V.str (one 46)
    rw [dots_at (by omega)]
  · rfl
theorem fill_dotp {n p : Nat} (hp : p < n) {x : V} (h : Plain n x) (ne : x ≠ .int (p : Int)) : fill (dotp n p) x = fill (dots n) x := by
  rcases h with ⟨i, rfl, h0, h1⟩ | ⟨c, rfl, _⟩
  · show V.str (one _) = V.str (one _)
    rw [dots_at (by omega), dotp_at hp (by omega), if_neg]
    intro e
    exact ne (by rw [← e, Int.toNat_of_nonneg h0])
  · rfl
theorem fill_here {n p : Nat} (hp : p < n) : fill (dotp n p) (.int (p : Int)) = .str (one 48) := by
  show V.str (one _) = _
  rw [Int.toNat_natCast, dotp_at hp hp, if_pos rfl]
theorem one_ne : ¬ V.str (one 48) = V.str (one 46) := by
  intro h
  have := congrArg (fun z : Str => z.cps.toList) (V.str.inj h)
  exact absurd this (by decide)
section
variable {n : Nat} {xs ys : List V} (px : ∀ x ∈ xs, Plain n x) (py : ∀ y ∈ ys, Plain n y) (e0 : xs.map (fill (dots n)) = ys.map (fill (dots n)))
include px py e0
theorem same_at {i : Nat} {x y : V} (hx : xs[i]? = some x) (hy : ys[i]? = some y) : fill (dots n) x = fill (dots n) y := by
  have a := congrArg (fun l : List V => l[i]?) e0
  simp only [List.getElem?_map, hx, hy, Option.map_some] at a
  exact Option.some.inj a
theorem not_diff {p : Nat} (hp : p < n) (h : ¬ Diff xs ys p) : xs.map (fill (dotp n p)) = ys.map (fill (dotp n p)) := by
  have el : xs.length = ys.length := by
    have := congrArg List.length e0
    rw [List.length_map, List.length_map] at this
    exact this
  refine List.ext_getElem? fun i => ?_
  rw [List.getElem?_map, List.getElem?_map]
  by_cases hi : i < xs.length
  · have hx := List.getElem?_eq_getElem hi
    have hi2 : i < ys.length := by omega
    have hy := List.getElem?_eq_getElem hi2
    rw [hx, hy]
    show some _ = some _
    by_cases e : xs[i] = ys[i]
    · rw [e]
    · have n1 : xs[i] ≠ .int (p : Int) := fun q => h ⟨i, _, _, hx, hy, e, .inl q⟩
      have n2 : ys[i] ≠ .int (p : Int) := fun q => h ⟨i, _, _, hx, hy, e, .inr q⟩
      rw [fill_dotp hp (px _ (List.getElem_mem hi)) n1, fill_dotp hp (py _ (List.getElem_mem hi2)) n2, same_at px py e0 hx hy]
  · rw [List.getElem?_eq_none (by omega), List.getElem?_eq_none (by omega)]
theorem is_diff {p : Nat} (hp : p < n) (h : Diff xs ys p) : xs.map (fill (dotp n p)) ≠ ys.map (fill (dotp n p)) := by
  intro e
  obtain ⟨i, x, y, hx, hy, ne, h⟩ := h
  have a := congrArg (fun l : List V => l[i]?) e
  simp only [List.getElem?_map, hx, hy, Option.map_some] at a
  have a := Option.some.inj a
  have b := same_at px py e0 hx hy
  have qx := px x (List.mem_of_getElem? hx)
  have qy := py y (List.mem_of_getElem? hy)
  rcases h with rfl | rfl
  · rw [fill_here hp, fill_dotp hp qy (fun q => ne q.symm), ← b, fill_dots qx] at a
    exact one_ne a
  · rw [fill_here hp, fill_dotp hp qx ne, b, fill_dots qy] at a
    exact one_ne a.symm
theorem some_diff (ne : xs ≠ ys) : ∃ p, p < n ∧ Diff xs ys p := by
  have el : xs.length = ys.length := by
    have := congrArg List.length e0
    rw [List.length_map, List.length_map] at this
    exact this
  obtain ⟨i, hi, h⟩ : ∃ i, ∃ hi : i < xs.length, ¬ xs[i] = ys[i] := Decidable.byContradiction fun q => ne (List.ext_getElem el fun i h1 h2 => Decidable.byContradiction fun z => q ⟨i, h1, z⟩)
  have hx := List.getElem?_eq_getElem hi
  have hi2 : i < ys.length := by omega
  have hy := List.getElem?_eq_getElem hi2
  have b := same_at px py e0 hx hy
  have qx := px _ (List.getElem_mem hi)
  have qy := py _ (List.getElem_mem hi2)
  rcases id qx with ⟨j, ej, j0, j1⟩ | ⟨c, ec, _⟩
  · exact ⟨j.toNat, by omega, i, _, _, hx, hy, h, .inl (by rw [ej, Int.toNat_of_nonneg j0])⟩
  · rcases id qy with ⟨j, ej, j0, j1⟩ | ⟨d, ed, _⟩
    · exact ⟨j.toNat, by omega, i, _, _, hx, hy, h, .inr (by rw [ej, Int.toNat_of_nonneg j0])⟩
    · rw [fill_dots qx, fill_dots qy, ec, ed] at b
      exact absurd (by rw [ec, ed]; exact b) h
end
/-! the places that differ, as they are gathered -/
def isI : V → List Int
  | .int i => [i]
  | _ => []
def dpl : List V → List V → List Int
  | x :: xs, y :: ys => (if x = y then [] else isI x ++ isI y) ++ dpl xs ys
  | _, _ => []
theorem dpl_snoc : ∀ {xs ys : List V} (x y : V), xs.length = ys.length → dpl (xs ++ [x]) (ys ++ [y]) = dpl xs ys ++ (if x = y then [] else isI x ++ isI y)
  | [], [], x, y, _ => by
    show (if x = y then [] else isI x ++ isI y) ++ dpl [] [] = [] ++ _
    show _ ++ [] = [] ++ _
    rw [List.append_nil, List.nil_append]
  | a :: xs, b :: ys, x, y, h => by
    show (if a = b then [] else isI a ++ isI b) ++ dpl (xs ++ [x]) (ys ++ [y]) = ((if a = b then [] else isI a ++ isI b) ++ dpl xs ys) ++ _
    rw [dpl_snoc x y (by simpa using h), List.append_assoc]
theorem mem_isI {x : V} {i : Int} : i ∈ isI x ↔ x = .int i := by
  cases x <;> simp [isI, eq_comm]
theorem mem_dpl : ∀ {xs ys : List V} {i : Int}, i ∈ dpl xs ys ↔ ∃ (j : Nat) (x y : V), xs[j]? = some x ∧ ys[j]? = some y ∧ x ≠ y ∧ (x = V.int i ∨ y = V.int i)
  | [], ys, i => by
    refine ⟨fun h => ?_, fun ⟨j, x, y, hx, _⟩ => by simp at hx⟩
    unfold dpl at h
    cases h
  | a :: xs, [], i => by
    refine ⟨fun h => ?_, fun ⟨j, x, y, _, hy, _⟩ => by simp at hy⟩
    unfold dpl at h
    cases h
  | a :: xs, b :: ys, i => by
    show i ∈ (if a = b then [] else isI a ++ isI b) ++ dpl xs ys ↔ _
    rw [List.mem_append, mem_dpl (xs := xs) (ys := ys)]
    constructor
    · rintro (h | ⟨j, x, y, hx, hy, h⟩)
      · split at h
        · cases h
        · next ne => exact ⟨0, a, b, rfl, rfl, ne, (List.mem_append.mp h).imp mem_isI.mp mem_isI.mp⟩
      · exact ⟨j + 1, x, y, hx, hy, h⟩
    · rintro ⟨j, x, y, hx, hy, ne, h⟩
      cases j with
      | zero =>
        cases (Option.some.inj hx : a = x)
        cases (Option.some.inj hy : b = y)
        refine .inl ?_
        rw [if_neg ne]
        exact List.mem_append.mpr (h.imp mem_isI.mpr mem_isI.mpr)
      | succ j => exact .inr ⟨j, x, y, hx, hy, ne, h⟩
/-- the least text of n signs that two rows show differently -/
def LeastAt (rs ss : List Rec) (n : Nat) (cs : List Nat) : Prop :=
  (cs = dots n ∧ cuts rs (dots n) ≠ cuts ss (dots n)) ∨ ∃ p, p < n ∧ cs = dotp n p ∧ cuts rs (dots n) = cuts ss (dots n) ∧ cuts rs (dotp n p) ≠ cuts ss (dotp n p) ∧ ∀ q, p < q → q < n → cuts rs (dotp n q) = cuts ss (dotp n q)
theorem LeastAt.one {rs ss : List Rec} {n : Nat} {cs ds : List Nat} (a : LeastAt rs ss n cs) (b : LeastAt rs ss n ds) : cs = ds := by
  rcases a with ⟨rfl, a⟩ | ⟨p, hp, rfl, a0, a1, a2⟩
  · rcases b with ⟨rfl, _⟩ | ⟨q, _, _, b0, _⟩
    · rfl
    · exact absurd b0 a
  · rcases b with ⟨_, b⟩ | ⟨q, hq, rfl, b0, b1, b2⟩
    · exact absurd a0 b
    · rcases Nat.lt_trichotomy p q with h | h | h
      · exact absurd (a2 q h hq) b1
      · rw [h]
      · exact absurd (b2 p h hp) a1
theorem LeastAt.len {rs ss : List Rec} {n : Nat} {cs : List Nat} (a : LeastAt rs ss n cs) : cs.length = n := by
  rcases a with ⟨rfl, _⟩ | ⟨p, hp, rfl, _⟩
  · exact dots_len n
  · exact dotp_len hp
theorem LeastAt.ne {rs ss : List Rec} {n : Nat} {cs : List Nat} (a : LeastAt rs ss n cs) : cuts rs cs ≠ cuts ss cs := by
  rcases a with ⟨rfl, h⟩ | ⟨p, hp, rfl, _, h, _⟩ <;> exact h
theorem LeastAt.sg {rs ss : List Rec} {n : Nat} {cs : List Nat} (a : LeastAt rs ss n cs) : Signs cs := by
  have d : 46 ∈ signs.cps.toList := by decide +kernel
  have z : 48 ∈ signs.cps.toList := by decide +kernel
  rcases a with ⟨rfl, _⟩ | ⟨p, hp, rfl, _⟩
  · intro c hc
    rw [(List.mem_replicate.mp hc).2]
    exact d
  · intro c hc
    rcases List.mem_append.mp hc with hc | hc
    · rw [(List.mem_replicate.mp hc).2]
      exact d
    · rcases List.mem_cons.mp hc with rfl | hc
      · exact z
      · rw [(List.mem_replicate.mp hc).2]
        exact d
theorem LeastAt.symm {rs ss : List Rec} {n : Nat} {cs : List Nat} (a : LeastAt rs ss n cs) : LeastAt ss rs n cs := by
  rcases a with ⟨rfl, h⟩ | ⟨p, hp, rfl, a0, a1, a2⟩
  · exact .inl ⟨rfl, fun e => h e.symm⟩
  · exact .inr ⟨p, hp, rfl, a0.symm, fun e => a1 e.symm, fun q h1 h2 => (a2 q h1 h2).symm⟩
section
variable {rs ss : List Rec} (hr : ∀ r ∈ rs, r.fit) (hs : ∀ r ∈ ss, r.fit) {n : Nat}
include hr hs
theorem dots_iff : cuts rs (dots n) = cuts ss (dots n) ↔ (planV rs n).map (fill (dots n)) = (planV ss n).map (fill (dots n)) := by
  have := shown_iff rs ss (dots n)
  rw [dots_len] at this
  exact this
theorem dotp_iff {p : Nat} (hp : p < n) : cuts rs (dotp n p) = cuts ss (dotp n p) ↔ (planV rs n).map (fill (dotp n p)) = (planV ss n).map (fill (dotp n p)) := by
  have := shown_iff rs ss (dotp n p)
  rw [dotp_len hp] at this
  exact this
/-- the last place that differs tells it -/
theorem least_last (e0 : cuts rs (dots n) = cuts ss (dots n)) {m : Int} (h : Top m (dpl (planV rs n) (planV ss n))) : ∃ p : Nat, m = (p : Int) ∧ p < n ∧ LeastAt rs ss n (dotp n p) := by
  have px : ∀ x ∈ planV rs n, Plain n x := plan_plain hr
  have py : ∀ y ∈ planV ss n, Plain n y := plan_plain hs
  have f0 := (dots_iff hr hs).mp e0
  obtain ⟨j, x, y, hx, hy, ne, h1⟩ := mem_dpl.mp h.1
  obtain ⟨p, rfl, hp⟩ : ∃ p : Nat, m = (p : Int) ∧ p < n := by
    have a : Plain n (.int m) := by
      rcases h1 with rfl | rfl
      · exact px _ (List.mem_of_getElem? hx)
      · exact py _ (List.mem_of_getElem? hy)
    rcases a with ⟨i, e, i0, i1⟩ | ⟨c, e, _⟩
    · cases e
      exact ⟨m.toNat, by omega, by omega⟩
    · cases e
  refine ⟨p, rfl, hp, .inr ⟨p, hp, rfl, e0, fun e => is_diff px py f0 hp ⟨j, x, y, hx, hy, ne, h1⟩ ((dotp_iff hr hs hp).mp e), fun q h2 h3 => (dotp_iff hr hs h3).mpr (not_diff px py f0 h3 fun ⟨i, u, v, hu, hv, nuv, hh⟩ => ?_)⟩⟩
  have := h.2 (q : Int) (mem_dpl.mpr ⟨i, u, v, hu, hv, nuv, hh⟩)
  omega
theorem dpl_some (e0 : cuts rs (dots n) = cuts ss (dots n)) (ne : planV rs n ≠ planV ss n) : dpl (planV rs n) (planV ss n) ≠ [] := by
  obtain ⟨p, hp, i, x, y, hx, hy, h⟩ := some_diff (plan_plain hr) (plan_plain hs) ((dots_iff hr hs).mp e0) ne
  intro e
  have : (p : Int) ∈ dpl (planV rs n) (planV ss n) := mem_dpl.mpr ⟨i, x, y, hx, hy, h⟩
  rw [e] at this
  cases this
/-- rows whose plans are the same show the same -/
theorem plan_show {cs : List Nat} (h : planV rs cs.length = planV ss cs.length) : cuts rs cs = cuts ss cs := (shown_iff rs ss cs).mpr (by rw [h])
end
/-- the first length at which the plans differ -/
structure First (rs ss : List Rec) (n : Nat) : Prop where
  ne : planV rs n ≠ planV ss n
  eq : ∀ m, m < n → planV rs m = planV ss m
theorem First.one {rs ss : List Rec} {n m : Nat} (a : First rs ss n) (b : First rs ss m) : n = m := by
  rcases Nat.lt_trichotomy n m with h | h | h
  · exact absurd (b.eq n h) a.ne
  · exact h
  · exact absurd (a.eq m h) b.ne
theorem First.symm {rs ss : List Rec} {n : Nat} (a : First rs ss n) : First ss rs n := ⟨fun e => a.ne e.symm, fun m h => (a.eq m h).symm⟩
/-- what is told of two rows -/
def Told (rs ss : List Rec) (v : V) : Prop := (v = .non ∧ ∀ n, planV rs n = planV ss n) ∨ ∃ n y, v = .str y ∧ n ≤ 80 ∧ First rs ss n ∧ LeastAt rs ss n y.cps.toList
theorem Told.one {rs ss : List Rec} {u v : V} (a : Told rs ss u) (b : Told rs ss v) : u = v := by
  rcases a with ⟨rfl, a⟩ | ⟨n, y, rfl, _, a, a1⟩
  · rcases b with ⟨rfl, _⟩ | ⟨m, z, _, _, b, _⟩
    · rfl
    · exact absurd (a m) b.ne
  · rcases b with ⟨_, b⟩ | ⟨m, z, rfl, _, b, b1⟩
    · exact absurd (b n) a.ne
    · cases a.one b
      rw [str_ext (a1.one b1)]
theorem Told.symm {rs ss : List Rec} {v : V} (a : Told rs ss v) : Told ss rs v := by
  rcases a with ⟨rfl, a⟩ | ⟨n, y, rfl, h, a, a1⟩
  · exact .inl ⟨rfl, fun n => (a n).symm⟩
  · exact .inr ⟨n, y, rfl, h, a.symm, a1.symm⟩
/-! signs of what is filled in -/
def fillN (cs : List Nat) : V → Nat
  | .int i => cs.getD i.toNat 0
  | .str z => z.cps.toList.getD 0 0
  | _ => 0
theorem fillN_one {n : Nat} {cs : List Nat} {x : V} (h : Plain n x) : fill cs x = .str (one (fillN cs x)) := by
  rcases h with ⟨i, rfl, _⟩ | ⟨c, rfl, _⟩
  · rfl
  · rfl
theorem fillN_map {n : Nat} {cs : List Nat} {xs : List V} (h : ∀ x ∈ xs, Plain n x) : xs.map (fill cs) = ones (xs.map (fillN cs)) := by
  unfold ones
  rw [List.map_map]
  exact List.map_congr_left fun x hx => fillN_one (h x hx)
end Gu
namespace Gu
open PySem PySem.Spec PyProof.Rows L2
theorem stF_same {K : PySem.W.Frag} {H G : Hp} {l : Addr} {xs : List V} (a : Same H G) (h : SqT K H l xs) : SqT K G l xs := by
  rcases h with (h | ⟨o, h⟩) | h
  · exact .inl (.inl (a _ _ h))
  · exact .inl (.inr ⟨o, a _ _ h⟩)
  · exact .inr h
theorem same_offF {H J : Hp} {M : Addr} {o : HO} (s : Same H J) (n : H M = none) : Same H (upd J M o) := fun b x e => by
  rw [upd_ne (ne_of_none e n)]
  exact s b x e
theorem takeF_next {α : Type} {qs : List α} {i : Nat} {q : α} (h : qs[i]? = some q) : qs.take (i + 1) = qs.take i ++ [q] := by
  rw [List.take_add_one, h]
  rfl
theorem RowAt.fits {C : Addr} {H : Hp} {a : Addr} {rs : List (Addr × Rec)} (h : RowAt C H a rs) : ∀ r ∈ rs.map (·.2), r.fit := fun r hr => by
  obtain ⟨q, hq, rfl⟩ := List.mem_map.mp hr
  exact (h.sh q hq).2
end Gu
namespace Gu
open PySem PySem.Spec PyProof.Rows L2
/-! text * int, however often -/
def rRepN : R2 := fun x y H Q => ∃ z k, x = .str z ∧ y = .int k ∧ 0 ≤ k ∧ k ≤ 1000 ∧ z.length ≤ 1000 ∧ ∀ y : Str, y.cps.toList = (List.replicate k.toNat z.cps.toList).flatten → Q (.str y) H
theorem fold_repN (z : Array Nat) : ∀ (k : Nat) (acc : Array Nat), ((List.replicate k z).foldl (· ++ ·) acc).toList = acc.toList ++ (List.replicate k z.toList).flatten
  | 0, acc => by simp
  | k + 1, acc => by
    rw [List.replicate_succ, List.foldl_cons, fold_repN z k, List.replicate_succ, List.flatten_cons, Array.toList_append, List.append_assoc]
theorem op_mul_strN {X : Cx} : OpR X (binaryOp .Mult) rRepN := by
  intro pins s σ H x y v u Q I rx ry h
  obtain ⟨z, k, rfl, rfl, k0, k1, z1, q⟩ := h
  obtain ⟨t, rfl⟩ := rx
  obtain ⟨t', rfl⟩ := ry
  refine PySem.P.mul_str ?_ (fun h1 _ => Int.not_lt.mpr ((Int.le_ediv_iff_mul_le (by omega)).mpr ?_)) (fun _ _ => decide_eq_false ?_) ?_
  · rw [Bool.or_eq_false_iff]
    exact ⟨decide_eq_false (by omega), decide_eq_false (by omega)⟩
  · have m1 : (z.length : Int) * k ≤ 1000 * 1000 := Int.mul_le_mul (by omega) k1 (by omega) (by omega)
    omega
  · have m2 : z.length * k.toNat ≤ 1000 * 1000 := Nat.mul_le_mul z1 (by omega)
    rw [sizeLine_eq]
    omega
  · split
    · next h1 =>
      refine ⟨by decide, .str Str.empty, H, I.tok _, ⟨_, rfl⟩, q _ ?_⟩
      rw [show k.toNat = 0 by omega]
      rfl
    · split
      · next h1 h2 =>
        refine ⟨.str z, H, I, ⟨_, rfl⟩, q _ ?_⟩
        rcases Bool.or_eq_true _ _ ▸ h2 with e | e
        · have e := eq_of_beq e
          rw [e]
          simp
        · have e : z.cps.toList.length = 0 := eq_of_beq e
          rw [List.eq_nil_of_length_eq_zero e]
          simp
      · have m2 : z.length * k.toNat ≤ 1000 * 1000 := Nat.mul_le_mul z1 (by omega)
        have e : ((List.replicate k.toNat z.cps).foldl (· ++ ·) #[]).toList = (List.replicate k.toNat z.cps.toList).flatten := by
          rw [fold_repN]
          rfl
        refine ⟨?_, .str ⟨(List.replicate k.toNat z.cps).foldl (· ++ ·) #[]⟩, H, I.tok _, ⟨_, rfl⟩, q _ e⟩
        show ((List.replicate k.toNat z.cps).foldl (· ++ ·) #[]).size ≤ _
        rw [← Array.length_toList, e, PyProof.Rows.lm_len_rep_flat]
        show k.toNat * z.length ≤ sizeLine
        rw [Nat.mul_comm, sizeLine_eq]
        omega
/-- a call without arguments -/
theorem pe_own0 {X : Cx} {k j : Nat} {x : Str} {sp : Sp} {p pos : Pos} (c : Cal X.prog X.w X.K X.mg X.base k x [] sp) (hr : Room j X.A) (hk : k ≤ j) (hg : Gl X x) (hdb : (x == ("__debug__" : Str)) = false := by decide) : PE X (.Call (.Name x p) [] [] pos) (tCall sp [] E0 tNil) := by
  obtain ⟨f, fd, F, hm, kp, b, _⟩ := c.ex
  exact pe_call0 F (hr.mono hk) hg hm kp b .nil pass0 hdb
def rIsiK (K : PySem.W.Frag) : List V → Hp → VK → Prop := rIsi K
section
variable {P : Program} {w : World} {K : PySem.W.Frag} {mg : Str → Option Value} {base : Heap} {C : Addr}
theorem Isa.str_int {H : Hp} {z : Str} : Isa K H (.str z) "int" false := ⟨_, .base (.str z), kit_ty (by decide +kernel)⟩
/-! ### telling_lengths -/
def spTelling : Sp := fun vs H Q _ => vs = [] ∧ ∀ (T : Addr), H T = none → Q (.ref T) (upd H T (.lst (rgV 0 ((81 : Nat) : Int))))
theorem cal_telling (B : Bi mg) (D : At K mg "telling_lengths" s_telling_lengths ps_telling_lengths) : Cal P w K mg base 1 "telling_lengths" ps_telling_lengths spTelling := by
  refine D.cal sc_telling_lengths (fun vs H Q E h => ?_) (fun f cdv A outer s H vs Q E hr h => ?_)
  · obtain ⟨rfl, _⟩ := h
    rfl
  · obtain ⟨rfl, k⟩ := h
    refine ⟨_, (pss_one (ps_ret (pe_listRg (by rfl) (by rfl) B.list (prg_1 (by rfl) B.range (pe_op op_add (pe_op op_mul pe_int (pe_cst B.MOST_SIGNS (by rfl))) pe_int))))), ?_⟩
    exact ⟨_, _, rfl, rfl, .inl ⟨by decide, by decide⟩, _, _, rfl, rfl, _, rfl, RgOk.of_le (by decide) (by decide) (by decide) (by decide), fun T nT => k T nT⟩
/-! ### filled_in -/
def spFilled (K : PySem.W.Frag) : Sp := fun vs H Q _ => ∃ (a : Addr) (xs : List V) (z : Str), vs = [.ref a, .str z] ∧ SqT K H a xs ∧ (∀ x ∈ xs, Plain z.cps.toList.length x) ∧ xs.length ≤ 600 ∧ z.cps.toList.length ≤ 600 ∧ ∀ (y : Str) (G : Hp), Same H G → y.cps.toList = xs.map (fillN z.cps.toList) → Q (.str y) G
theorem cal_filled (B : Bi mg) (D : At K mg "filled_in" s_filled_in ps_filled_in) : Cal P w K mg base 1 "filled_in" ps_filled_in (spFilled K) := by
  refine D.cal sc_filled_in (fun vs H Q E h => ?_) (fun f cdv A outer s H vs Q E hr h => ?_)
  · obtain ⟨a, xs, z, rfl, _⟩ := h
    rfl
  · obtain ⟨a, xs, z, rfl, ha, hp, xl, zl, k⟩ := h
    refine ⟨_, (pss_one (ps_ret (pe_join pe_str (pe_lc (own := [("source", 2)]) (by rfl) sc_filled_in.nd (pi_tup (pv 0)) (blkOk_by (own := [("source", 2)]) (N := ["sources", "text", "source"]) (sc := defScope s_filled_in) (by decide +kernel)) (fun _ _ _ _ _ => pg_name (i := 2) sc_filled_in.nd rfl (.inl rfl)) (fun _ _ _ _ _ => pts_nil) (fun _ _ _ _ _ => (pe_mid (pe_ifExp (pt_val (pe_callB (id := "isinstance") (r := rIsi K) call_isi (by rfl) B.isinstance (by decide +kernel) (pa_cons (pv 2) (pa_cons (pe_bltn (v := .ty "int") (by rfl) B.int (by decide +kernel) rfl) pa_nil)))) (pe_ix ix_str (pv 1) (pv 2) (fun _ _ => rfl)) (pv 2)))))))), ?_⟩
    refine ⟨⟨_, rfl⟩, _, rfl, a, rfl, ⟨_, ha⟩, fun M nM => lc_tup (K := K) (a := a) (xs := xs) (fun i J => J M = some (.lst (ones ((xs.take i).map (fillN z.cps.toList)))) ∧ Same H J)
      ⟨upd_same, same_new nM⟩ (fun i J _ ⟨_, sJ⟩ => stF_same sJ ha) ?_ ?_⟩
    · rintro i x J hi ⟨eM, sJ⟩
      refine ⟨rfl, yes (iteT ⟨fun v J1 => v = .str (one (fillN z.cps.toList x)) ∧ J1 = J, ?_, ?_⟩)⟩
      · rcases hp x (List.mem_of_getElem? hi) with ⟨j, rfl, j0, j1⟩ | ⟨c, rfl, _⟩
        · obtain ⟨t, i1, i2⟩ := Isa.int_int (K := K) (H := J) (i := j)
          refine ⟨_, rfl, _, _, t, _, true, rfl, .ty _, i1, i2, _, rfl, iteT ?_⟩
          have jl : j.toNat < z.cps.toList.length := by omega
          refine ⟨_, rfl, _, rfl, z, j, z.cps.toList[j.toNat], rfl, rfl, Nat.le_of_lt (small1000 (by have e : z.length = z.cps.toList.length := rfl; omega)), at_of' (j := j.toNat) (by omega) (List.getElem?_eq_getElem jl), ?_, rfl⟩
          show V.str ⟨#[_]⟩ = V.str (one (z.cps.toList.getD j.toNat 0))
          rw [List.getD_eq_getElem?_getD, List.getElem?_eq_getElem jl]
          rfl
        · obtain ⟨t, i1, i2⟩ := Isa.str_int (K := K) (H := J) (z := one c)
          exact ⟨_, rfl, _, _, t, _, false, rfl, .ty _, i1, i2, _, rfl, iteF ⟨_, rfl, rfl, rfl⟩⟩
      · rintro _ _ ⟨rfl, rfl⟩
        refine ⟨_, eM, small1000 ?_, ?_, same_offF sJ nM⟩
        · unfold ones
          rw [List.length_map, List.length_map, List.length_take]
          omega
        · rw [upd_same, takeF_next hi, List.map_append]
          unfold ones
          rw [List.map_append]
          rfl
    · rintro J ⟨eM, sJ⟩
      rw [List.take_length, ones_map] at eM
      refine ⟨_, M, _, rfl, rfl, .inl (.inl (.inl eM)), ?_, k _ J sJ (tjoin_ones _)⟩
      rw [ones_len, List.length_map, List.length_map]
      have e0 : (("" : String) : Str).length = 0 := by decide +kernel
      rw [e0]
      omega
/-! ### differing_places -/
def spDiffP (K : PySem.W.Frag) : Sp := fun vs H Q _ => ∃ (a b : Addr) (xs ys : List V) (n : Nat), vs = [.ref a, .ref b] ∧ SqT K H a xs ∧ SqT K H b ys ∧ xs.length = ys.length ∧ xs.length ≤ 600 ∧ (∀ x ∈ xs, Plain n x) ∧ (∀ y ∈ ys, Plain n y) ∧ ∀ (p : Addr) (G : Hp), G p = some (.lst ((dpl xs ys).map V.int)) → Same H G → Q (.ref p) G
theorem scal_plain {n m : Nat} {x y : V} (hx : Plain n x) (hy : Plain m y) : scal x y = true := by
  rcases hx with ⟨i, rfl, _⟩ | ⟨c, rfl, _⟩ <;> rcases hy with ⟨j, rfl, _⟩ | ⟨d, rfl, _⟩ <;> rfl
theorem isI_len (x : V) : (isI x).length ≤ 1 := by
  cases x <;> simp [isI]
theorem dpl_len : ∀ xs ys : List V, (dpl xs ys).length ≤ 2 * xs.length
  | [], _ => Nat.le_refl _
  | _ :: _, [] => Nat.zero_le _
  | x :: xs, y :: ys => by
    have a := isI_len x
    have b := isI_len y
    have c := dpl_len xs ys
    show ((if x = y then [] else isI x ++ isI y) ++ dpl xs ys).length ≤ 2 * (xs.length + 1)
    rw [List.length_append]
    split
    · rw [List.length_nil]
      omega
    · rw [List.length_append]
      omega
theorem cal_diffP (B : Bi mg) (D : At K mg "differing_places" s_differing_places ps_differing_places) : Cal P w K mg base 1 "differing_places" ps_differing_places (spDiffP K) := by
  refine D.cal sc_differing_places (fun vs H Q E h => ?_) (fun f cdv A outer s H vs Q E hr h => ?_)
  · obtain ⟨a, b, xs, ys, n, rfl, _⟩ := h
    rfl
  · obtain ⟨a, b, xs, ys, n, rfl, ha, hb, el, xl, px, py, k⟩ := h
    refine ⟨_, (pss_cons (ps_set (i := 2) sc_differing_places.nd rfl (.inl rfl) (pe_lst pa_nil))
      (pss_cons (ps_for PassesOwn.never rfl (RZ.pi_zipA (by rfl) B.zip (pa_cons (pv 0) (pa_cons (pv 1) pa_nil))) (pg_tup rfl (pgs_cons (pg_name (i := 3) sc_differing_places.nd rfl (.inl rfl)) (pgs_cons (pg_name (i := 4) sc_differing_places.nd rfl (.inl rfl)) pgs_nil)))
      (pss_one (ps_if (pt_cmpR op_ne (pv 3) (pv 4) (nomark _)) (pss_one (ps_expr (pe_bm PySem.F.plainAttrs_list PySem.F.slot_list_extend PySem.F.type_list_extend mt_extend (pv 2) (pa_cons (pe_lc (own := [("place", 5)]) (by rfl) sc_differing_places.nd (pi_tup (pe_tup (pa_cons (pv 3) (pa_cons (pv 4) pa_nil)))) (blkOk_by (own := [("place", 5)]) (N := ["sources", "others", "places", "source", "other", "place"]) (sc := defScope s_differing_places) (by decide +kernel)) (fun _ _ _ _ _ => pg_name (i := 5) sc_differing_places.nd rfl (.inl rfl)) (fun _ _ _ _ _ => (pts_one (pt_val (pe_callB (id := "isinstance") (r := rIsi K) call_isi (by rfl) B.isinstance (by decide +kernel) (pa_cons (pv 5) (pa_cons (pe_bltn (v := .ty "int") (by rfl) B.int (by decide +kernel) rfl) pa_nil)))))) (fun _ _ _ _ _ => (pv 5))) pa_nil)))) pss_nil)))
      (pss_one (ps_ret (pv 2))))), ?_⟩
    refine ⟨Nat.zero_le _, fun g ng => ?_⟩
    have s0 : Same H (upd H g (.lst [])) := same_new ng
    refine ⟨_, rfl, _, rfl, a, b, xs, ys, rfl, .inr ⟨stF_same s0 ha, stF_same s0 hb, RZ.for_zipT (K := K) (xs := xs) (ys := ys) el (fun i σ J => ∃ u v z, σ = [some (.ref a), some (.ref b), some (.ref g), u, v, z] ∧ J g = some (.lst ((dpl (xs.take i) (ys.take i)).map V.int)) ∧ Same H J)
      ⟨none, none, none, rfl, upd_same, s0⟩ (fun i σ J ⟨_, _, _, _, _, sJ⟩ => ⟨stF_same sJ ha, stF_same sJ hb⟩) ?_ ?_⟩⟩
    · rintro i x y T σ J hx hy ⟨u, v, z, rfl, eg, sJ⟩ nT
      have qx := px x (List.mem_of_getElem? hx)
      have qy := py y (List.mem_of_getElem? hy)
      have sT : Same J (upd J T (.tup [x, y])) := same_new nT
      have il : i < xs.length := (List.getElem?_eq_some_iff.mp hx).1
      have next : dpl (xs.take (i + 1)) (ys.take (i + 1)) = dpl (xs.take i) (ys.take i) ++ (if x = y then [] else isI x ++ isI y) := by
        rw [takeF_next hx, takeF_next hy, dpl_snoc x y (by rw [List.length_take, List.length_take]; omega)]
      refine ⟨T, _, rfl, .inl (.inl upd_same), rfl, _, _, rfl, _, _, rfl, rfl, ?_⟩
      refine ⟨_, rfl, _, rfl, scal_plain qx qy, _, rfl, ?_⟩
      by_cases e : x = y
      · rw [decide_eq_true e]
        refine iteF ⟨_, _, _, rfl, ?_, sJ.trans sT⟩
        rw [next, if_pos e, List.append_nil]
        exact sT _ _ eg
      · rw [decide_eq_false e]
        refine iteT ⟨_, rfl, .inl ⟨rfl, _, .inl (.inl (sT _ _ eg))⟩, ?_⟩
        refine ⟨_, rfl, _, rfl, by show 2 ≤ sizeLine; decide, fun T2 nT2 => ?_⟩
        have sT2 : Same J (upd (upd J T (.tup [x, y])) T2 (.tup [x, y])) := sT.trans (same_new nT2)
        have eT2 : upd (upd J T (.tup [x, y])) T2 (.tup [x, y]) T2 = some (.tup [x, y]) := upd_same
        generalize upd (upd J T (.tup [x, y])) T2 (.tup [x, y]) = H2 at sT2 eT2
        refine ⟨T2, rfl, ⟨_, .inl (.inl eT2)⟩, fun M nM => lc_tup (K := K) (a := T2) (xs := [x, y]) (fun i J1 => J1 M = some (.lst ((([x, y].take i).map isI).flatten.map V.int)) ∧ Same H2 J1)
          ⟨upd_same, same_new nM⟩ (fun i J1 _ ⟨_, s1⟩ => .inl (.inl (s1 _ _ eT2))) ?_ ?_⟩
        · rintro i3 v3 J3 hi3 ⟨eM, s3⟩
          have mv : Plain n v3 := by
            have := List.mem_of_getElem? hi3
            simp only [List.mem_cons, List.not_mem_nil, or_false] at this
            rcases this with rfl | rfl
            · exact qx
            · exact qy
          have i2 : i3 < 2 := (List.getElem?_eq_some_iff.mp hi3).1
          have nx : ((([x, y].take (i3 + 1)).map isI).flatten.map V.int) = ((([x, y].take i3).map isI).flatten.map V.int) ++ (isI v3).map V.int := by
            rw [takeF_next hi3, List.map_append, List.flatten_append, List.map_append]
            show _ ++ List.map V.int (isI v3 ++ []) = _
            rw [List.append_nil]
          rcases mv with ⟨j, rfl, j0, j1⟩ | ⟨c, rfl, _⟩
          · obtain ⟨t, i1, i2'⟩ := Isa.int_int (K := K) (H := J3) (i := j)
            refine ⟨rfl, _, rfl, _, _, t, _, true, rfl, .ty _, i1, i2', _, rfl, iteT ⟨_, rfl, _, eM, small1000 ?_, ?_, same_offF s3 nM⟩⟩
            · rw [List.length_map]
              have a1 := isI_len x
              have a2 := isI_len y
              have : (([x, y].take i3).map isI).flatten.length ≤ 2 := by
                match i3, i2 with
                | 0, _ => exact Nat.zero_le _
                | 1, _ =>
                  show (isI x ++ []).length ≤ 2
                  rw [List.append_nil]
                  omega
              omega
            · rw [upd_same, nx]
              rfl
          · obtain ⟨t, i1, i2'⟩ := Isa.str_int (K := K) (H := J3) (z := one c)
            refine ⟨rfl, _, rfl, _, _, t, _, false, rfl, .ty _, i1, i2', _, rfl, iteF ⟨?_, s3⟩⟩
            rw [nx]
            show _ = some (HO.lst (_ ++ []))
            rw [List.append_nil]
            exact eM
        · rintro J3 ⟨eM, s3⟩
          have e4 : (([x, y].take [x, y].length).map isI).flatten = isI x ++ isI y := by
            show isI x ++ (isI y ++ []) = _
            rw [List.append_nil]
          rw [e4] at eM
          have gg := s3 _ _ (sT2 _ _ eg)
          have a1 := isI_len x
          have a2 := isI_len y
          have a3 := dpl_len (xs.take i) (ys.take i)
          refine ⟨g, M, _, _, rfl, rfl, gg, eM, ?_, ?_⟩
          · rw [List.length_map, List.length_map, List.length_append]
            rw [List.length_take] at a3
            exact Nat.le_of_lt (Nat.lt_of_le_of_lt (show _ ≤ 2000 by omega) (by decide))
          · refine ⟨_, _, _, rfl, ?_, same_offF (sJ.trans (sT2.trans s3)) ng⟩
            rw [upd_same, next, if_neg e]
            simp only [List.map_append]
    · rintro σ J ⟨u, v, z, rfl, eg, sJ⟩
      rw [List.take_length, el, List.take_length] at eg
      exact ⟨_, rfl, k g J eg sJ⟩
/-! ### least_difference -/
def spLeastD (K : PySem.W.Frag) : Sp := fun vs H Q _ => ∃ (a b : Addr) (rs ss : List Rec) (n : Nat), vs = [.ref a, .ref b, .int (n : Int)] ∧ SqT K H a (planV rs n) ∧ SqT K H b (planV ss n) ∧ (∀ r ∈ rs, r.fit) ∧ (∀ r ∈ ss, r.fit) ∧ n ≤ 80 ∧ planV rs n ≠ planV ss n ∧ ∀ (y : Str) (G : Hp), Same H G → LeastAt rs ss n y.cps.toList → Q (.str y) G
theorem plan_len {rs : List Rec} (hf : ∀ r ∈ rs, r.fit) {n : Nat} (hn : n ≤ 500) : (planV rs n).length ≤ 500 := by
  unfold planV
  rw [cutsV_length, rg_len]
  exact lens_le rs hf hn
theorem rep_dot {z y : Str} (hz : z.cps.toList = [46]) {k : Nat} (e : y.cps.toList = (List.replicate k z.cps.toList).flatten) : y.cps.toList = List.replicate k 46 := by
  rw [e, hz]
  clear e
  induction k with
  | zero => rfl
  | succ k ih => rw [List.replicate_succ, List.flatten_cons, ih]; rfl
def spRaised : Sp := fun vs H Q _ => ∃ (n i : Nat), vs = [.int (n : Int), .int (i : Int)] ∧ i < n ∧ n ≤ 500 ∧ ∀ y : Str, y.cps.toList = List.replicate i 46 ++ 48 :: List.replicate (n - i - 1) 46 → Q (.str y) H
theorem cal_raised (B : Bi mg) (D : At K mg "least_raised_at" s_least_raised_at ps_least_raised_at) : Cal P w K mg base 1 "least_raised_at" ps_least_raised_at spRaised := by
  refine D.cal sc_least_raised_at (fun vs H Q E h => ?_) (fun f cdv A outer s H vs Q E hr h => ?_)
  · obtain ⟨n, i, rfl, _⟩ := h
    rfl
  · obtain ⟨n, i, rfl, hi, n5, k⟩ := h
    have s0 : atI signs.cps.toList 0 = some 46 := by decide +kernel
    have s1 : atI signs.cps.toList 1 = some 48 := by decide +kernel
    refine ⟨_, (pss_one (ps_ret (pe_op op_add_str (pe_op op_add_str (pe_op op_mul_strN (pe_ix ix_str (pe_cst B.SIGNS (by rfl)) pe_int (fun _ _ => rfl)) (pv 1)) (pe_ix ix_str (pe_cst B.SIGNS (by rfl)) pe_int (fun _ _ => rfl))) (pe_op op_mul_strN (pe_ix ix_str (pe_cst B.SIGNS (by rfl)) pe_int (fun _ _ => rfl)) (pe_op op_sub (pe_op op_sub (pv 0) (pv 1)) pe_int))))), ?_⟩
    refine ⟨signs, 0, 46, rfl, rfl, by decide +kernel, s0, _, rfl, one 46, _, rfl, rfl, by omega, by omega, by decide, fun y1 e1 => ?_⟩
    have e1 : y1.cps.toList = List.replicate i 46 := rep_dot (z := one 46) rfl (by rw [Int.toNat_natCast] at e1; exact e1)
    have l1 : y1.length = i := by
      show y1.cps.toList.length = i
      rw [e1, List.length_replicate]
    refine ⟨signs, 1, 48, rfl, rfl, by decide +kernel, s1, _, _, rfl, rfl, Nat.le_of_lt (small1000 (by show y1.length + 1 ≤ 1000; omega)), ?_⟩
    refine ⟨signs, 0, 46, rfl, rfl, by decide +kernel, s0, _, rfl, _, rfl, _, _, rfl, rfl, _, _, rfl, rfl, one 46, _, rfl, rfl, by omega, by omega, by decide, fun y2 e2 => ?_⟩
    have e2 : y2.cps.toList = List.replicate (n - i - 1) 46 := rep_dot (z := one 46) rfl (by rw [e2]; congr 2; omega)
    have l2 : y2.length = n - i - 1 := by
      show y2.cps.toList.length = _
      rw [e2, List.length_replicate]
    refine ⟨_, _, rfl, rfl, ?_, k _ ?_⟩
    · have l3 : (y1 ++ (one 48)).length = i + 1 := by
        show (y1 ++ (one 48)).cps.toList.length = _
        rw [app_cps, List.length_append, e1, List.length_replicate]
        rfl
      exact Nat.le_of_lt (small1000 (by show (y1 ++ (one 48)).length + y2.length ≤ 1000; omega))
    · rw [app_cps, app_cps, e1, e2]
      show List.replicate i 46 ++ [48] ++ List.replicate (n - i - 1) 46 = _
      rw [List.append_assoc]
      rfl
theorem cal_leastD (B : Bi mg) (D : At K mg "least_difference" s_least_difference ps_least_difference) (C_filled_in : Cal P w K mg base 1 "filled_in" ps_filled_in (spFilled K)) (C_differing_places : Cal P w K mg base 1 "differing_places" ps_differing_places (spDiffP K)) (C_least_raised_at : Cal P w K mg base 1 "least_raised_at" ps_least_raised_at spRaised) : Cal P w K mg base 2 "least_difference" ps_least_difference (spLeastD K) := by
  refine D.cal sc_least_difference (fun vs H Q E h => ?_) (fun f cdv A outer s H vs Q E hr h => ?_)
  · obtain ⟨a, b, rs, ss, n, rfl, _⟩ := h
    rfl
  · obtain ⟨a, b, rs, ss, n, rfl, ha, hb, hr1, hs1, n80, ne, k⟩ := h
    have px : ∀ x ∈ planV rs n, Plain n x := plan_plain hr1
    have py : ∀ y ∈ planV ss n, Plain n y := plan_plain hs1
    have lx := plan_len hr1 (n := n) (by omega)
    have ly := plan_len hs1 (n := n) (by omega)
    have sl : (Str.length signs) = 38 := by decide +kernel
    have s0 : atI signs.cps.toList 0 = some 46 := by decide +kernel
    refine ⟨_, (pss_cons (ps_set (i := 3) sc_least_difference.nd rfl (.inl rfl) (pe_op op_mul_strN (pe_ix ix_str (pe_cst B.SIGNS (by rfl)) pe_int (fun _ _ => rfl)) (pv 2)))
      (pss_cons (ps_if (pt_cmpR op_ne (pe_own C_filled_in hr (by decide) (by rfl) (pa_cons (pv 0) (pa_cons (pv 3) pa_nil))) (pe_own C_filled_in hr (by decide) (by rfl) (pa_cons (pv 1) (pa_cons (pv 3) pa_nil))) (nomark _)) (pss_one (ps_ret (pv 3))) pss_nil)
      (pss_one (ps_ret (pe_own C_least_raised_at hr (by decide) (by rfl) (pa_cons (pv 2) (pa_cons (pe_callB (cr_max rfl) (by rfl) B.max (by decide +kernel) (pa_cons (pe_own C_differing_places hr (by decide) (by rfl) (pa_cons (pv 0) (pa_cons (pv 1) pa_nil))) pa_nil)) pa_nil))))))), ?_⟩
    refine ⟨signs, 0, 46, rfl, rfl, by decide +kernel, s0, _, rfl, one 46, _, rfl, rfl, by omega, by omega, by decide, fun y0 e0 => ?_⟩
    have e0 : y0.cps.toList = dots n := rep_dot (z := one 46) rfl (by rw [Int.toNat_natCast] at e0; exact e0)
    have l0 : y0.cps.toList.length = n := by rw [e0, dots_len]
    refine ⟨_, rfl, _, rfl, a, _, y0, rfl, ha, by rw [l0]; exact px, by omega, by omega, fun t1 G1 q1 f1 => ?_⟩
    refine ⟨_, rfl, _, rfl, b, _, y0, rfl, stF_same q1 hb, by rw [l0]; exact py, by omega, by omega, fun t2 G2 q2 f2 => ?_⟩
    rw [e0] at f1 f2
    have eq : t1 = t2 ↔ cuts rs (dots n) = cuts ss (dots n) := by
      rw [dots_iff hr1 hs1, fillN_map px, fillN_map py]
      constructor
      · intro h
        rw [h] at f1
        rw [← f1, ← f2]
      · intro h
        exact str_ext (by rw [f1, f2]; exact ones_inj h)
    refine ⟨rfl, _, rfl, ?_⟩
    by_cases h : cuts rs (dots n) = cuts ss (dots n)
    · rw [decide_eq_true (show V.str t1 = V.str t2 by rw [eq.mpr h])]
      refine iteF ?_
      have el : (planV rs n).length = (planV ss n).length := by
        have := congrArg List.length ((dots_iff hr1 hs1).mp h)
        rw [List.length_map, List.length_map] at this
        exact this
      refine ⟨_, rfl, _, rfl, _, rfl, a, b, _, _, n, rfl, stF_same (q1.trans q2) ha, stF_same (q1.trans q2) hb, el, by omega, px, py, fun p G3 e3 q3 => ?_⟩
      refine ⟨p, _, rfl, .inl (.inl e3), List.length_pos_iff.mpr (dpl_some hr1 hs1 h ne), fun m hm hle => ?_⟩
      obtain ⟨i, rfl, hi, L⟩ := least_last hr1 hs1 h ⟨hm, hle⟩
      refine ⟨n, i, rfl, hi, by omega, fun y ey => k y G3 (q1.trans (q2.trans q3)) ?_⟩
      rw [ey]
      exact L
    · rw [decide_eq_false (fun q => h (eq.mp (V.str.inj q)))]
      refine iteT ⟨_, rfl, k y0 G2 (q1.trans q2) ?_⟩
      rw [e0]
      exact .inl ⟨rfl, h⟩
end
end Gu
namespace Gu
open PySem PySem.Spec PyProof.Rows L2
/-! ### plans compared -/
theorem eqv_one {n m : Nat} {x y : V} (hx : Plain n x) (hy : Plain m y) : PyData.eqv (dat x) (dat y) = decide (x = y) := by
  rcases hx with ⟨i, rfl, _⟩ | ⟨c, rfl, _⟩ <;> rcases hy with ⟨j, rfl, _⟩ | ⟨d, rfl, _⟩
  · rw [dec_int]
    rfl
  · rw [decide_eq_false (fun h => by cases h)]
    rfl
  · rw [decide_eq_false (fun h => by cases h)]
    rfl
  · rw [dec_str]
    rfl
theorem eqv_plain {n m : Nat} : ∀ {xs ys : List V}, (∀ x ∈ xs, Plain n x) → (∀ y ∈ ys, Plain m y) → PyData.eqvAll (xs.map dat) (ys.map dat) = decide (xs = ys)
  | [], [], _, _ => rfl
  | [], _ :: _, _, _ => rfl
  | _ :: _, [], _, _ => rfl
  | x :: xs, y :: ys, hx, hy => by
    show (PyData.eqv (dat x) (dat y) && PyData.eqvAll (xs.map dat) (ys.map dat)) = _
    rw [eqv_one (hx x (List.mem_cons_self ..)) (hy y (List.mem_cons_self ..)), eqv_plain (fun z hz => hx z (List.mem_cons_of_mem _ hz)) fun z hz => hy z (List.mem_cons_of_mem _ hz)]
    by_cases e : x = y
    · subst e
      by_cases f : xs = ys
      · subst f
        rw [decide_eq_true rfl, decide_eq_true rfl, decide_eq_true rfl]
        rfl
      · rw [decide_eq_false f, decide_eq_false (fun h => f (List.cons.inj h).2), Bool.and_false]
    · rw [decide_eq_false (fun h => e (List.cons.inj h).1), decide_eq_false e, Bool.false_and]
theorem lay_plain {n : Nat} : ∀ {xs : List V}, (∀ x ∈ xs, Plain n x) → PyData.canLayAll0 (xs.map dat) = true ∧ PyData.depthAll (xs.map dat) = 0
  | [], _ => ⟨rfl, rfl⟩
  | x :: xs, h => by
    have b := lay_plain fun z hz => h z (List.mem_cons_of_mem _ hz)
    have a : (dat x).canLay0 = true ∧ (dat x).depth = 0 := by
      rcases h x (List.mem_cons_self ..) with ⟨i, rfl, _⟩ | ⟨c, rfl, hc⟩
      · exact ⟨rfl, rfl⟩
      · refine ⟨?_, rfl⟩
        show (one c).cps.all _ = true
        rw [← Array.all_toList, List.all_eq_true]
        intro d hd
        rw [List.mem_singleton.mp (show d ∈ [c] from hd)]
        exact decide_eq_true (Nat.lt_of_lt_of_le hc (by decide))
    refine ⟨?_, ?_⟩
    · show ((dat x).canLay0 && PyData.canLayAll0 (xs.map dat)) = true
      rw [a.1, b.1]
      rfl
    · show max (dat x).depth (PyData.depthAll (xs.map dat)) = 0
      rw [a.2, b.2]
      rfl
theorem shaped_plainT {n : Nat} {xs : List V} (h : ∀ x ∈ xs, Plain n x) : SeqAt.shaped (.tuple (xs.map dat)) = true := by
  have b := lay_plain h
  unfold SeqAt.shaped
  rw [Bool.and_eq_true]
  refine ⟨b.1, decide_eq_true ?_⟩
  show PyData.depthAll (xs.map dat) + 1 ≤ 64
  omega
theorem shaped_plainL {n : Nat} {xs : List V} (h : ∀ x ∈ xs, Plain n x) : SeqAt.shaped (.list (xs.map dat)) = true := by
  have b := lay_plain h
  unfold SeqAt.shaped
  rw [Bool.and_eq_true]
  refine ⟨b.1, decide_eq_true ?_⟩
  show PyData.depthAll (xs.map dat) + 1 ≤ 64
  omega
theorem ne_planT {K : PySem.W.Frag} {H : Hp} {a b : Addr} {n m : Nat} {xs ys : List V} {Q : VK} (ha : SqT K H a xs) (hb : SqT K H b ys) (px : ∀ x ∈ xs, Plain n x) (py : ∀ y ∈ ys, Plain m y) (q : Q (.bl (!decide (xs = ys))) H) : rNeD K (.ref a) (.ref b) H Q :=
  ⟨_, _, .tup ha (dp_all px), .tup hb (dp_all py), shaped_plainT px, shaped_plainT py, by
    rw [show PyData.eqv (.tuple (xs.map dat)) (.tuple (ys.map dat)) = decide (xs = ys) from eqv_plain px py]
    exact q⟩
theorem ne_planL {K : PySem.W.Frag} {H : Hp} {a b : Addr} {n m : Nat} {xs ys : List V} {Q : VK} (ha : SqL K H a xs) (hb : SqL K H b ys) (px : ∀ x ∈ xs, Plain n x) (py : ∀ y ∈ ys, Plain m y) (q : Q (.bl (!decide (xs = ys))) H) : rNeD K (.ref a) (.ref b) H Q :=
  ⟨_, _, .lst ha (dp_all px), .lst hb (dp_all py), shaped_plainL px, shaped_plainL py, by
    rw [show PyData.eqv (.list (xs.map dat)) (.list (ys.map dat)) = decide (xs = ys) from eqv_plain px py]
    exact q⟩
section
variable {P : Program} {w : World} {K : PySem.W.Frag} {mg : Str → Option Value} {base : Heap} {C : Addr}
/-! ### first_difference -/
def spFirstD (C : Addr) : Sp := fun vs H Q _ => ∃ (a b : Addr) (rs ss : List (Addr × Rec)), vs = [.ref a, .ref b] ∧ RowAt C H a rs ∧ RowAt C H b ss ∧ 1 ≤ rs.length ∧ 1 ≤ ss.length ∧ ∀ (v : V) (G : Hp), Same H G → Told (rs.map (·.2)) (ss.map (·.2)) v → Q v G
theorem cal_firstD (B : Bi mg) (D : At K mg "first_difference" s_first_difference ps_first_difference) (C_telling_lengths : Cal P w K mg base 1 "telling_lengths" [] spTelling) (C_planned : Cal P w K mg base 2 "planned" ps_planned (spPlanned C)) (C_least_difference : Cal P w K mg base 2 "least_difference" ps_least_difference (spLeastD K)) : Cal P w K mg base 3 "first_difference" ps_first_difference (spFirstD C) := by
  refine D.cal sc_first_difference (fun vs H Q E h => ?_) (fun f cdv A outer s H vs Q E hr h => ?_)
  · obtain ⟨a, b, rs, ss, rfl, _⟩ := h
    rfl
  · obtain ⟨a, b, rs, ss, rfl, hR, hS, r1, s1, k⟩ := h
    have fr := hR.fits
    have fs := hS.fits
    have l1 : 1 ≤ (rs.map (·.2)).length := by rw [List.length_map]; exact r1
    have l2 : 1 ≤ (ss.map (·.2)).length := by rw [List.length_map]; exact s1
    refine ⟨_, (pss_cons (ps_for PassesOwn.never rfl (pi_list (pe_own0 C_telling_lengths hr (by decide) (by rfl))) (pg_name (i := 2) sc_first_difference.nd rfl (.inl rfl))
      (pss_cons (ps_set (i := 3) sc_first_difference.nd rfl (.inl rfl) (pe_own C_planned hr (by decide) (by rfl) (pa_cons (pv 0) (pa_cons (pv 2) pa_nil))))
      (pss_cons (ps_set (i := 4) sc_first_difference.nd rfl (.inl rfl) (pe_own C_planned hr (by decide) (by rfl) (pa_cons (pv 1) (pa_cons (pv 2) pa_nil))))
      (pss_one (ps_if (pt_cmpR (op_neD hr.units) (pv 3) (pv 4) (nomark _)) (pss_one (ps_ret (pe_own C_least_difference hr (by decide) (by rfl) (pa_cons (pv 3) (pa_cons (pv 4) (pa_cons (pv 2) pa_nil)))))) pss_nil)))))
      (pss_one (ps_ret pe_non))), ?_⟩
    refine ⟨rfl, fun T nT => ?_⟩
    have sT : Same H (upd H T (.lst (rgV 0 ((81 : Nat) : Int)))) := same_new nT
    have eT : upd H T (.lst (rgV 0 ((81 : Nat) : Int))) T = some (.lst (rgV 0 ((81 : Nat) : Int))) := upd_same
    generalize upd H T (.lst (rgV 0 ((81 : Nat) : Int))) = H1 at sT eT
    refine ⟨T, rfl, ⟨_, .inl (.inl eT)⟩, for_list (K := K) (a := T) (xs := rgV 0 ((81 : Nat) : Int)) (fun i σ J => ∃ u v z, σ = [some (.ref a), some (.ref b), u, v, z] ∧ Same H1 J ∧ ∀ m, m < i → planV (rs.map (·.2)) m = planV (ss.map (·.2)) m)
      ⟨none, none, none, rfl, Same.refl _, fun m hm => absurd hm (by omega)⟩ (fun i σ J _ ⟨_, _, _, _, sJ, _⟩ => .inl (.inl (sJ _ _ eT))) ?_ ?_⟩
    · rintro i x σ J hi ⟨u, v, z, rfl, sJ, low⟩
      rw [rg_get] at hi
      have i81 : i < 81 := Decidable.byContradiction fun h => by
        rw [if_neg h] at hi
        cases hi
      rw [if_pos i81] at hi
      cases hi
      have sA := sT.trans sJ
      refine ⟨_, rfl, _, rfl, a, i, rs, rfl, hR.same sA, by omega, fun U G1 q1 e1 => ?_⟩
      refine ⟨_, rfl, _, rfl, b, i, ss, rfl, hS.same (sA.trans q1), by omega, fun W G2 q2 e2 => ?_⟩
      have e1 : SqT K G2 U (planV (rs.map (·.2)) i) := .inl (.inl (q2 _ _ e1))
      have e2 : SqT K G2 W (planV (ss.map (·.2)) i) := .inl (.inl e2)
      refine ⟨_, rfl, _, rfl, ne_planT e1 e2 (plan_plain fr) (plan_plain fs) ⟨_, rfl, ?_⟩⟩
      by_cases e : planV (rs.map (·.2)) i = planV (ss.map (·.2)) i
      · rw [decide_eq_true e]
        refine iteF ⟨_, _, _, rfl, sJ.trans (q1.trans q2), fun m hm => ?_⟩
        rcases Nat.lt_or_ge m i with h | h
        · exact low m h
        · rw [show m = i by omega]
          exact e
      · rw [decide_eq_false e]
        refine iteT ⟨_, rfl, _, rfl, _, rfl, U, W, _, _, i, rfl, e1, e2, fr, fs, by omega, e, fun y G3 q3 L => ?_⟩
        exact k _ G3 (sA.trans (q1.trans (q2.trans q3))) (.inr ⟨i, y, rfl, by omega, ⟨e, low⟩, L⟩)
    · rintro σ J ⟨u, v, z, rfl, sJ, low⟩
      rw [rg_len] at low
      exact k _ J (sT.trans sJ) (.inl ⟨rfl, alike_all fr fs l1 l2 fun n hn => low n (by omega)⟩)
def spFirstU (C : Addr) : Sp := fun vs H Q _ => ∃ (a b : Addr) (rs ss : List (Addr × Rec)), vs = [.ref a, .ref b] ∧ RowAt C H a rs ∧ RowAt C H b ss ∧ 1 ≤ rs.length ∧ rs.length ≤ 4 ∧ 1 ≤ ss.length ∧ ss.length ≤ 4 ∧ ∀ (v : V) (G : Hp), Same H G → Told (rs.map (·.2)) (ss.map (·.2)) v → Q v G
theorem cal_firstU (B : Bi mg) (D : At K mg "first_unlike" s_first_unlike ps_first_unlike) (C_check_row : Cal P w K mg base 2 "check_row" ps_check_row (spCheckRow C)) (C_first_difference : Cal P w K mg base 3 "first_difference" ps_first_difference (spFirstD C)) : Cal P w K mg base 4 "first_unlike" ps_first_unlike (spFirstU C) := by
  refine D.cal sc_first_unlike (fun vs H Q E h => ?_) (fun f cdv A outer s H vs Q E hr h => ?_)
  · obtain ⟨a, b, rs, ss, rfl, _⟩ := h
    rfl
  · obtain ⟨a, b, rs, ss, rfl, hR, hS, r1, r4, s1, s4, k⟩ := h
    refine ⟨_, (pss_cons (ps_expr (pe_own C_check_row hr (by decide) (by rfl) (pa_cons (pv 0) pa_nil)))
      (pss_cons (ps_expr (pe_own C_check_row hr (by decide) (by rfl) (pa_cons (pv 1) pa_nil)))
      (pss_one (ps_ret (pe_own C_first_difference hr (by decide) (by rfl) (pa_cons (pv 0) (pa_cons (pv 1) pa_nil))))))), ?_⟩
    refine ⟨_, rfl, a, rs, rfl, hR, r1, r4, fun G1 q1 => ?_⟩
    refine ⟨_, rfl, b, ss, rfl, hS.same q1, s1, s4, fun G2 q2 => ?_⟩
    exact ⟨_, rfl, _, rfl, a, b, rs, ss, rfl, hR.same (q1.trans q2), hS.same (q1.trans q2), r1, s1, fun v G q h => k v G (q1.trans (q2.trans q)) h⟩
def spAlike (C : Addr) : Sp := fun vs H Q _ => ∃ (a b : Addr) (rs ss : List (Addr × Rec)), vs = [.ref a, .ref b] ∧ RowAt C H a rs ∧ RowAt C H b ss ∧ 1 ≤ rs.length ∧ rs.length ≤ 4 ∧ 1 ≤ ss.length ∧ ss.length ≤ 4 ∧ ∀ (v : V) (G : Hp), Same H G → Told (rs.map (·.2)) (ss.map (·.2)) v → Q (.bl (decide (v = .non))) G
theorem cal_alike (B : Bi mg) (D : At K mg "are_alike" s_are_alike ps_are_alike) (C_first_unlike : Cal P w K mg base 4 "first_unlike" ps_first_unlike (spFirstU C)) : Cal P w K mg base 5 "are_alike" ps_are_alike (spAlike C) := by
  refine D.cal sc_are_alike (fun vs H Q E h => ?_) (fun f cdv A outer s H vs Q E hr h => ?_)
  · obtain ⟨a, b, rs, ss, rfl, _⟩ := h
    rfl
  · obtain ⟨a, b, rs, ss, rfl, hR, hS, r1, r4, s1, s4, k⟩ := h
    refine ⟨_, (pss_one (ps_ret (pe_cmpR op_isN (pe_own C_first_unlike hr (by decide) (by rfl) (pa_cons (pv 0) (pa_cons (pv 1) pa_nil))) pe_non (nomark _)))), ?_⟩
    exact ⟨_, rfl, _, rfl, a, b, rs, ss, rfl, hR, hS, r1, r4, s1, s4, fun v G q h => ⟨rfl, k v G q h⟩⟩
end
end Gu
namespace Gu
open PySem PySem.Spec PyProof.Rows L2
theorem walk_zipT {K : PySem.W.Frag} {a b : Addr} {xs ys : List V} {n : Nat} (hn : n = min xs.length ys.length) : Walk (RZ.ItzT K a b) n (fun H => SqT K H a xs ∧ SqT K H b ys) (YPair (fun i => xs[i]?) (fun i => ys[i]?)) := by
  subst hn
  refine ⟨fun i _ hi q => ?_, fun _ q => ⟨xs, ys, q.1, q.2, by omega⟩, fun i H v H' _ q y => ?_⟩
  · have h1 : i < xs.length := by omega
    have h2 : i < ys.length := by omega
    exact ⟨xs, ys, xs[i], ys[i], q.1, q.2, List.getElem?_eq_getElem h1, List.getElem?_eq_getElem h2⟩
  · obtain ⟨T, x, z, h1, h2, h3, h4, h5⟩ := y
    exact ⟨T, x, z, h1, h2, h3, h4 xs q.1, h5 ys q.2⟩
theorem cutV_front (xs : List V) (i : Nat) : cutV xs none (some (i : Int)) = xs.take i := by
  unfold cutV
  rw [HT.sIx_none, HT.sIx_nat, List.drop_zero, Nat.sub_zero, List.take_eq_take_iff]
  omega
theorem cutV_back (xs : List V) (i : Nat) : cutV xs (some (i : Int)) none = xs.drop i := by
  have q := cut_back xs (h := (i : Int)) (by omega)
  rw [Int.toNat_natCast] at q
  exact q
/-- told tuples, in pieces -/
structure Tups (G : Hp) (ps : List (Addr × Rec)) : Prop where
  tp : ∀ q ∈ ps, G q.1 = some (.tup q.2.vs) ∧ q.2.ok
theorem ToldsAt.tups {G : Hp} {D : Addr} {ps : List (Addr × Rec)} (h : ToldsAt G D ps) : Tups G ps := ⟨h.tp⟩
theorem Tups.same {H G : Hp} {ps : List (Addr × Rec)} (s : Same H G) (h : Tups H ps) : Tups G ps := ⟨fun q hq => ⟨s _ _ (h.tp q hq).1, (h.tp q hq).2⟩⟩
theorem Tups.take {G : Hp} {ps : List (Addr × Rec)} (h : Tups G ps) (n : Nat) : Tups G (ps.take n) := ⟨fun q hq => h.tp q (List.mem_of_mem_take hq)⟩
theorem Tups.drop {G : Hp} {ps : List (Addr × Rec)} (h : Tups G ps) (n : Nat) : Tups G (ps.drop n) := ⟨fun q hq => h.tp q (List.mem_of_mem_drop hq)⟩
theorem Tups.app {G : Hp} {ps qs : List (Addr × Rec)} (h : Tups G ps) (k : Tups G qs) : Tups G (ps ++ qs) := ⟨fun q hq => by
  rcases List.mem_append.mp hq with hq | hq
  · exact h.tp q hq
  · exact k.tp q hq⟩
theorem Tups.one {G : Hp} {a : Addr} {r : Rec} (h : G a = some (.tup r.vs)) (o : r.ok) : Tups G [(a, r)] := ⟨fun q hq => by
  rw [List.mem_singleton.mp hq]
  exact ⟨h, o⟩⟩
theorem Tups.told {G : Hp} {D : Addr} {ps : List (Addr × Rec)} (h : Tups G ps) (e : G D = some (.lst (ps.map fun q => V.ref q.1))) : ToldsAt G D ps := ⟨e, h.tp⟩
theorem Tups.off {G : Hp} {p : Addr} {ps : List (Addr × Rec)} (h : Tups G ps) (hp : Pot G p) : ∀ q ∈ ps, q.1 ≠ p := fun q hq => by
  obtain ⟨x, y, z, e⟩ := hp
  exact ne_of (h.tp q hq).1 e (by intro z; cases z)
theorem Tups.ladled {H G : Hp} {p : Addr} {ps : List (Addr × Rec)} (L : Ladled p H G) (hp : Pot H p) (h : Tups H ps) : Tups G ps := ⟨fun q hq => ⟨L.keep _ _ (h.tp q hq).1 (h.off hp q hq), (h.tp q hq).2⟩⟩
abbrev refsOf (ps : List (Addr × Rec)) : List V := ps.map fun q => V.ref q.1
section
variable {P : Program} {w : World} {K : PySem.W.Frag} {mg : Str → Option Value} {base : Heap} {C : Addr}
/-! ### _law_near -/
def spNear : Sp := fun vs H Q _ => ∃ (p D : Addr) (ps : List (Addr × Rec)), vs = [.ref p, .ref D] ∧ Pot H p ∧ ToldsAt H D ps ∧ D ≠ p ∧ 1 ≤ ps.length ∧ ps.length ≤ 4 ∧
  ∀ (E : Addr) (G : Hp) (qs : List (Addr × Rec)), ToldsAt G E qs → 1 ≤ qs.length → qs.length ≤ 4 → Ladled p H G → Q (.ref E) G
def lim40 (i : Int) : Int := if (if i > 0 then i else 0) < 40 then (if i > 0 then i else 0) else 40
theorem lim40_ok (i : Int) : 0 ≤ lim40 i ∧ lim40 i ≤ 40 := by
  unfold lim40
  split <;> split <;> omega
set_option maxHeartbeats 4000000 in
theorem cal_near (B : Bi mg) (D : At K mg "_law_near" s_law_near ps_law_near) (C_law_ladle : Cal P w K mg base 1 "_law_ladle" ps_law_ladle spLadle) (C_law_one_of : Cal P w K mg base 2 "_law_one_of" ps_law_one_of (spOneOf K)) (C_law_told : Cal P w K mg base 3 "_law_told" ps_law_told spTold) (C_law_tolds : Cal P w K mg base 4 "_law_tolds" ps_law_tolds spTolds) : Cal P w K mg base 5 "_law_near" ps_law_near spNear := by
  refine D.cal sc_law_near (fun vs H Q E h => ?_) (fun f cdv A outer s H vs Q E hr h => ?_)
  · obtain ⟨p, D, ps, rfl, _⟩ := h
    rfl
  · obtain ⟨p, D, ps, rfl, hp, hT, nD, l1, l4, k⟩ := h
    refine ⟨_, (pss_cons (ps_par (i := 2) (j := 3) (by rfl) sc_law_near.nd rfl rfl (by decide) rfl rfl (pa_cons (pe_own C_law_ladle hr (by decide) (by rfl) (pa_cons (pv 0) (pa_cons pe_int pa_nil))) (pa_cons (pe_own C_law_ladle hr (by decide) (by rfl) (pa_cons (pv 0) (pa_cons (pe_callB call_len (by rfl) B.len (by decide +kernel) (pa_cons (pv 1) pa_nil)) pa_nil))) pa_nil)) (by rfl))
      (pss_cons (ps_if (pt_cmpR op_eq (pv 2) pe_int (nomark _)) (pss_one (ps_ret (pe_own C_law_tolds hr (by decide) (by rfl) (pa_cons (pv 0) pa_nil)))) pss_nil)
      (pss_cons (ps_if (pt_cmpR op_eq (pv 2) pe_int (nomark _)) (pss_one (ps_ret (pe_slice sl_list (pe_op op_cat (pv 1) (pe_lst (pa_cons (pe_own C_law_told hr (by decide) (by rfl) (pa_cons (pv 0) pa_nil)) pa_nil))) po_none (po_some pe_int)))) pss_nil)
      (pss_cons (ps_if (pt_cmpR op_eq (pv 2) pe_int (nomark _)) (pss_one (ps_ret (pe_op op_cat (pe_op op_cat (pe_slice sl_list (pv 1) po_none (po_some (pv 3))) (pe_lst (pa_cons (pe_tup (pa_cons pe_int (pa_cons pe_int (pa_cons pe_int (pa_cons pe_str pa_nil))))) pa_nil))) (pe_slice sl_list (pe_slice sl_list (pv 1) (po_some (pv 3)) po_none) po_none (po_some (pe_op op_sub pe_int (pv 3))))))) pss_nil)
      (pss_cons (ps_asg (pe_ix ix_list (pv 1) (pv 3) (fun _ _ => rfl)) (pg_tup rfl (pgs_cons (pg_name (i := 4) sc_law_near.nd rfl (.inl rfl)) (pgs_cons (pg_name (i := 5) sc_law_near.nd rfl (.inl rfl)) (pgs_cons (pg_name (i := 6) sc_law_near.nd rfl (.inl rfl)) (pgs_cons (pg_name (i := 7) sc_law_near.nd rfl (.inl rfl)) pgs_nil))))))
      (pss_cons (ps_set (i := 8) sc_law_near.nd rfl (.inl rfl) (pe_own C_law_one_of hr (by decide) (by rfl) (pa_cons (pv 0) (pa_cons (pe_lst (pa_cons (pe_tup (pa_cons pe_int (pa_cons pe_int (pa_cons pe_int pa_nil)))) (pa_cons (pe_tup (pa_cons pe_int (pa_cons pe_int (pa_cons pe_int pa_nil)))) (pa_cons (pe_tup (pa_cons pe_int (pa_cons pe_int (pa_cons pe_int pa_nil)))) (pa_cons (pe_tup (pa_cons pe_int (pa_cons pe_int (pa_cons (pe_un un_neg pe_int) pa_nil)))) (pa_cons (pe_tup (pa_cons (pe_un un_neg pe_int) (pa_cons pe_int (pa_cons pe_int pa_nil)))) (pa_cons (pe_tup (pa_cons pe_int (pa_cons pe_int (pa_cons pe_int pa_nil)))) pa_nil))))))) pa_nil))))
      (pss_cons (ps_setLc (g := gTup K 2 (gCons (gName 10) (gCons (gName 11) gNil))) (i := 9) (own := [("_law_a", 10), ("_law_b", 11)]) (by rfl) sc_law_near.nd rfl rfl (sw_true rfl rfl rfl (by decide +kernel)) (RZ.pi_zipA (by rfl) B.zip (pa_cons (pe_tup (pa_cons (pv 4) (pa_cons (pv 5) (pa_cons (pv 6) pa_nil)))) (pa_cons (pv 8) pa_nil))) (blkOk_by (own := [("_law_a", 10), ("_law_b", 11)]) (N := ["_law_pot_here", "_law_tolds_here", "_law_way", "_law_at", "_law_bound", "_law_low", "_law_high", "_law_sign", "_law_step", "_law_numbers", "_law_a", "_law_b"]) (sc := defScope s_law_near) (by decide +kernel)) (fun _ _ _ _ _ => (pg_tup rfl (pgs_cons (pg_name (i := 10) sc_law_near.nd rfl (.inl rfl)) (pgs_cons (pg_name (i := 11) sc_law_near.nd rfl (.inl rfl)) pgs_nil)))) (fun _ _ _ _ _ => pts_nil) (fun _ _ _ _ _ => (pe_callB (call_min2 rfl) (by rfl) B.min (by decide +kernel) (pa_cons pe_int (pa_cons (pe_callB (call_max2 rfl) (by rfl) B.max (by decide +kernel) (pa_cons pe_int (pa_cons (pe_op op_add (pv 10) (pv 11)) pa_nil))) pa_nil)))))
      (pss_one (ps_ret (pe_op op_cat (pe_op op_cat (pe_slice sl_list (pv 1) po_none (po_some (pv 3))) (pe_lst (pa_cons (pe_tup (pa_cons (pe_ix ix_list (pv 9) pe_int (fun _ _ => rfl)) (pa_cons (pe_ix ix_list (pv 9) pe_int (fun _ _ => rfl)) (pa_cons (pe_ix ix_list (pv 9) pe_int (fun _ _ => rfl)) (pa_cons (pv 7) pa_nil))))) pa_nil))) (pe_slice sl_list (pv 1) (po_some (pe_op op_add (pv 3) pe_int)) po_none))))))))))), ?_⟩
    refine ⟨_, rfl, p, 5, rfl, hp, by decide, by decide, fun way G1 w0 w1 L1 => ?_⟩
    have D1 : G1 D = some (.lst (refsOf ps)) := L1.keep _ _ hT.ls nD
    refine ⟨_, rfl, _, rfl, _, _, rfl, .inl ⟨_, .inl (.inl D1), rfl⟩, p, _, rfl, L1.pot, by rw [List.length_map]; omega, by rw [List.length_map]; omega, fun at' G2 a0 a1 L2 => ?_⟩
    rw [List.length_map] at a1
    obtain ⟨j, rfl⟩ := Int.eq_ofNat_of_zero_le a0
    have jl : j < ps.length := by omega
    have M2 := L1.trans L2
    have D2 : G2 D = some (.lst (refsOf ps)) := L2.keep _ _ D1 nD
    have T2 : Tups G2 ps := hT.tups.ladled M2 hp
    have rl : (refsOf ps).length = ps.length := List.length_map ..
    refine ⟨_, _, rfl, ?_⟩
    -- other ones
    refine ⟨_, rfl, rfl, _, rfl, ite2 (fun _ => ?_) (fun _ => ?_)⟩
    · exact ⟨_, rfl, p, rfl, M2.pot, fun E G3 qs nE tE _ q1 q4 L3 => k E G3 qs tE q1 q4 (M2.trans L3)⟩
    -- one more
    refine ⟨_, rfl, rfl, _, rfl, ite2 (fun _ => ?_) (fun _ => ?_)⟩
    · refine ⟨_, rfl, _, rfl, p, rfl, M2.pot, fun q G3 l h t z nq eq ok L3 => ?_⟩
      have M3 := M2.trans L3
      refine ⟨by show 1 ≤ sizeLine; decide, fun e1 ne1 => ?_⟩
      have s3 : Same G3 (upd G3 e1 (.lst [.ref q])) := same_new ne1
      have D3 : G3 D = some (.lst (refsOf ps)) := L3.keep _ _ D2 nD
      refine ⟨D, e1, _, _, rfl, rfl, s3 _ _ D3, upd_same, Nat.le_of_lt (small1000 (by rw [rl]; show ps.length + 1 ≤ 1000; omega)), fun e2 ne2 => ?_⟩
      refine ⟨4, rfl, e2, _, rfl, .inl (.inl upd_same), fun e3 ne3 => ?_⟩
      have s4 : Same G3 (upd (upd (upd G3 e1 (.lst [.ref q])) e2 (.lst (refsOf ps ++ [.ref q]))) e3 (.lst (cutV (refsOf ps ++ [.ref q]) none (some 4)))) := s3.trans ((same_new ne2).trans (same_new ne3))
      have T3 : Tups G3 (ps ++ [(q, ⟨l, h, t, z⟩)]) := (T2.ladled L3 M2.pot).app (.one eq ok)
      refine k e3 _ ((ps ++ [(q, (⟨l, h, t, z⟩ : Rec))]).take 4) (((T3.take 4).same s4).told ?_) ?_ ?_ (M3.same s4)
      · rw [upd_same, show cutV (refsOf ps ++ [V.ref q]) none (some 4) = (refsOf ps ++ [V.ref q]).take 4 from cutV_front _ 4, List.map_take, List.map_append]
        rfl
      · rw [List.length_take, List.length_append]
        show 1 ≤ min 4 (ps.length + 1)
        omega
      · rw [List.length_take]
        omega
    -- one that shows the most
    refine ⟨_, rfl, rfl, _, rfl, ite2 (fun _ => ?_) (fun _ => ?_)⟩
    · refine ⟨_, rfl, _, rfl, _, rfl, D, _, rfl, .inl (.inl D2), fun e1 ne1 => ?_⟩
      rw [cutV_front]
      have s1 : Same G2 (upd G2 e1 (.lst ((refsOf ps).take j))) := same_new ne1
      refine ⟨by show 4 ≤ sizeLine; decide, fun t nt => ⟨by show 1 ≤ sizeLine; decide, fun e2 ne2 => ?_⟩⟩
      have s2 : Same (upd G2 e1 (.lst ((refsOf ps).take j))) (upd (upd G2 e1 (.lst ((refsOf ps).take j))) t (.tup [.int 40, .int 40, .int 40, .str ""])) := same_new nt
      have s3 : Same (upd (upd G2 e1 (.lst ((refsOf ps).take j))) t (.tup [.int 40, .int 40, .int 40, .str ""])) (upd (upd (upd G2 e1 (.lst ((refsOf ps).take j))) t (.tup [.int 40, .int 40, .int 40, .str ""])) e2 (.lst [.ref t])) := same_new ne2
      have x1 := s3 _ _ (s2 _ _ (upd_same (H := G2) (a := e1) (o := .lst ((refsOf ps).take j))))
      have x2 := s3 _ _ (upd_same (H := upd G2 e1 (.lst ((refsOf ps).take j))) (a := t) (o := .tup [.int 40, .int 40, .int 40, .str ""]))
      have x3 := upd_same (H := upd (upd G2 e1 (.lst ((refsOf ps).take j))) t (.tup [.int 40, .int 40, .int 40, .str ""])) (a := e2) (o := .lst [.ref t])
      have sA := s1.trans (s2.trans s3)
      generalize upd (upd (upd G2 e1 (.lst ((refsOf ps).take j))) t (.tup [.int 40, .int 40, .int 40, .str ""])) e2 (.lst [.ref t]) = GA at x1 x2 x3 sA
      refine ⟨e1, e2, _, _, rfl, rfl, x1, x3, Nat.le_of_lt (small1000 (by rw [List.length_take, rl]; show min j ps.length + 1 ≤ 1000; omega)), fun e3 ne3 => ?_⟩
      have s4 : Same GA (upd GA e3 (.lst ((refsOf ps).take j ++ [.ref t]))) := same_new ne3
      have x4 := upd_same (H := GA) (a := e3) (o := .lst ((refsOf ps).take j ++ [.ref t]))
      generalize upd GA e3 (.lst ((refsOf ps).take j ++ [.ref t])) = GB at s4 x4
      refine ⟨_, rfl, _, rfl, _, rfl, D, _, rfl, .inl (.inl (s4 _ _ (sA _ _ D2))), fun e4 ne4 => ?_⟩
      rw [cutV_back]
      have s5 : Same GB (upd GB e4 (.lst ((refsOf ps).drop j))) := same_new ne4
      have x5 := upd_same (H := GB) (a := e4) (o := .lst ((refsOf ps).drop j))
      generalize upd GB e4 (.lst ((refsOf ps).drop j)) = GC at s5 x5
      refine ⟨_, rfl, _, _, rfl, rfl, _, rfl, e4, _, rfl, .inl (.inl x5), fun e5 ne5 => ?_⟩
      have e35 : ((3 : Int) - (j : Int)) = ((3 - j : Nat) : Int) := by omega
      rw [e35, cutV_front]
      have s6 : Same GC (upd GC e5 (.lst (((refsOf ps).drop j).take (3 - j)))) := same_new ne5
      have x6 := upd_same (H := GC) (a := e5) (o := .lst (((refsOf ps).drop j).take (3 - j)))
      generalize upd GC e5 (.lst (((refsOf ps).drop j).take (3 - j))) = GD at s6 x6
      refine ⟨e3, e5, _, _, rfl, rfl, s6 _ _ (s5 _ _ x4), x6, Nat.le_of_lt (small1000 (by rw [List.length_append, List.length_take, List.length_take, List.length_drop, rl]; show min j ps.length + 1 + _ ≤ 1000; omega)), fun e6 ne6 => ?_⟩
      have s7 : Same GD (upd GD e6 (.lst ((refsOf ps).take j ++ [.ref t] ++ ((refsOf ps).drop j).take (3 - j)))) := same_new ne6
      have sZ := s4.trans (s5.trans (s6.trans s7))
      have okz : (⟨40, 40, 40, ("" : String)⟩ : Rec).ok := ⟨by decide, by decide, by decide, by decide, by decide, by decide, by decide⟩
      have TA : Tups GA (ps.take j ++ [(t, ⟨40, 40, 40, ("" : String)⟩)] ++ (ps.drop j).take (3 - j)) := (((T2.same sA).take j).app (.one x2 okz)).app (((T2.same sA).drop j).take _)
      refine k e6 _ _ ((TA.same sZ).told ?_) ?_ ?_ (M2.same (sA.trans sZ))
      · rw [upd_same]
        simp only [List.map_append, List.map_take, List.map_drop]
        rfl
      · simp only [List.length_append, List.length_take, List.length_drop, List.length_singleton]
        omega
      · simp only [List.length_append, List.length_take, List.length_drop, List.length_singleton]
        omega
    -- one that is changed
    have hj : ps[j]? = some ps[j] := List.getElem?_eq_getElem jl
    have mj : ps[j] ∈ ps := List.getElem_mem jl
    generalize ps[j] = q at hj mj
    obtain ⟨tq, oq⟩ := T2.tp q mj
    refine ⟨_, rfl, _, rfl, D, _, _, _, rfl, rfl, .inl (.inl D2), atI_nat (by rw [List.getElem?_map, hj]; rfl), ?_⟩
    refine ⟨q.1, q.2.vs, rfl, .inl (.inl tq), rfl, _, _, rfl, _, _, rfl, _, _, rfl, _, _, rfl, rfl, ?_⟩
    -- the steps
    refine ⟨_, rfl, by show 3 ≤ sizeLine; decide, fun t1 n1 => ?_⟩
    have s1 : Same G2 (upd G2 t1 (.tup [.int 1, .int 0, .int 0])) := same_new n1
    have f1 := upd_same (H := G2) (a := t1) (o := .tup [.int 1, .int 0, .int 0])
    generalize upd G2 t1 (.tup [.int 1, .int 0, .int 0]) = h1 at s1 f1
    refine ⟨by show 3 ≤ sizeLine; decide, fun t2 n2 => ?_⟩
    have s2 : Same h1 (upd h1 t2 (.tup [.int 0, .int 1, .int 0])) := same_new n2
    have f2 := upd_same (H := h1) (a := t2) (o := .tup [.int 0, .int 1, .int 0])
    generalize upd h1 t2 (.tup [.int 0, .int 1, .int 0]) = h2 at s2 f2
    have f1 := s2 _ _ f1
    refine ⟨by show 3 ≤ sizeLine; decide, fun t3 n3 => ?_⟩
    have s3 : Same h2 (upd h2 t3 (.tup [.int 0, .int 0, .int 1])) := same_new n3
    have f3 := upd_same (H := h2) (a := t3) (o := .tup [.int 0, .int 0, .int 1])
    generalize upd h2 t3 (.tup [.int 0, .int 0, .int 1]) = h3 at s3 f3
    have f1 := s3 _ _ f1
    have f2 := s3 _ _ f2
    refine ⟨_, rfl, by show 3 ≤ sizeLine; decide, fun t4 n4 => ?_⟩
    have s4 : Same h3 (upd h3 t4 (.tup [.int 0, .int 1, .int (-1)])) := same_new n4
    have f4 := upd_same (H := h3) (a := t4) (o := .tup [.int 0, .int 1, .int (-1)])
    generalize upd h3 t4 (.tup [.int 0, .int 1, .int (-1)]) = h4 at s4 f4
    have f1 := s4 _ _ f1
    have f2 := s4 _ _ f2
    have f3 := s4 _ _ f3
    refine ⟨_, rfl, by show 3 ≤ sizeLine; decide, fun t5 n5 => ?_⟩
    have s5 : Same h4 (upd h4 t5 (.tup [.int (-1), .int 0, .int 0])) := same_new n5
    have f5 := upd_same (H := h4) (a := t5) (o := .tup [.int (-1), .int 0, .int 0])
    generalize upd h4 t5 (.tup [.int (-1), .int 0, .int 0]) = h5 at s5 f5
    have f1 := s5 _ _ f1
    have f2 := s5 _ _ f2
    have f3 := s5 _ _ f3
    have f4 := s5 _ _ f4
    refine ⟨by show 3 ≤ sizeLine; decide, fun t6 n6 => ?_⟩
    have s6 : Same h5 (upd h5 t6 (.tup [.int 0, .int 0, .int 0])) := same_new n6
    have f6 := upd_same (H := h5) (a := t6) (o := .tup [.int 0, .int 0, .int 0])
    generalize upd h5 t6 (.tup [.int 0, .int 0, .int 0]) = h6 at s6 f6
    have f1 := s6 _ _ f1
    have f2 := s6 _ _ f2
    have f3 := s6 _ _ f3
    have f4 := s6 _ _ f4
    have f5 := s6 _ _ f5
    refine ⟨by show 6 ≤ sizeLine; decide, fun t7 n7 => ?_⟩
    have s7 : Same h6 (upd h6 t7 (.lst [.ref t1, .ref t2, .ref t3, .ref t4, .ref t5, .ref t6])) := same_new n7
    have sA : Same G2 h6 := s1.trans (s2.trans (s3.trans (s4.trans (s5.trans s6))))
    have M7 := M2.same (sA.trans s7)
    have M6 := M2.same sA
    refine ⟨p, M7.pot, .inl ⟨t7, _, rfl, .inl (.inl upd_same), M6.pot.ne n7, by show 0 < 6; decide, by show 6 < 1000; decide, fun v G3 hv L3 => ?_⟩⟩
    obtain ⟨T, a, b, c, rfl, eT⟩ : ∃ (T : Addr) (a b c : Int), v = .ref T ∧ h6 T = some (.tup [.int a, .int b, .int c]) := by
      simp only [List.mem_cons, List.not_mem_nil, or_false] at hv
      rcases hv with rfl | rfl | rfl | rfl | rfl | rfl
      · exact ⟨_, _, _, _, rfl, f1⟩
      · exact ⟨_, _, _, _, rfl, f2⟩
      · exact ⟨_, _, _, _, rfl, f3⟩
      · exact ⟨_, _, _, _, rfl, f4⟩
      · exact ⟨_, _, _, _, rfl, f5⟩
      · exact ⟨_, _, _, _, rfl, f6⟩
    have nT : T ≠ p := by
      obtain ⟨x, y, z, e⟩ := M6.pot
      exact ne_of eT e (by intro z; cases z)
    have eT3 : G3 T = some (.tup [.int a, .int b, .int c]) := L3.keep _ _ (s7 _ _ eT) nT
    have M3 := M7.trans L3
    have T3 : Tups G3 ps := (T2.same (sA.trans s7)).ladled L3 M7.pot
    have D3 : G3 D = some (.lst (refsOf ps)) := L3.keep _ _ (s7 _ _ (sA _ _ D2)) nD
    -- the numbers
    refine ⟨_, rfl, _, rfl, _, rfl, by show 3 ≤ sizeLine; decide, fun Z nZ => ?_⟩
    have sZ : Same G3 (upd G3 Z (.tup [.int q.2.l, .int q.2.h, .int q.2.t])) := same_new nZ
    have eZ := upd_same (H := G3) (a := Z) (o := .tup [.int q.2.l, .int q.2.h, .int q.2.t])
    generalize upd G3 Z (.tup [.int q.2.l, .int q.2.h, .int q.2.t]) = G4 at sZ eZ
    have sx : SqT K G4 Z [.int q.2.l, .int q.2.h, .int q.2.t] := .inl (.inl eZ)
    have sy : SqT K G4 T [.int a, .int b, .int c] := .inl (.inl (sZ _ _ eT3))
    have ok4 : (⟨lim40 (q.2.l + a), lim40 (q.2.h + b), lim40 (q.2.t + c), q.2.z⟩ : Rec).ok := ⟨(lim40_ok _).1, (lim40_ok _).2, (lim40_ok _).1, (lim40_ok _).2, (lim40_ok _).1, (lim40_ok _).2, oq.z⟩
    refine ⟨_, rfl, Z, T, _, _, rfl, .inr ⟨sx, sy, fun N nN => lc_it (walk_zipT (xs := [.int q.2.l, .int q.2.h, .int q.2.t]) (ys := [.int a, .int b, .int c]) (n := 3) rfl) (fun i J => J N = some (.lst ([V.int (lim40 (q.2.l + a)), .int (lim40 (q.2.h + b)), .int (lim40 (q.2.t + c))].take i)) ∧ Same G4 J)
      ⟨upd_same, same_new nN⟩ (fun i J _ ⟨_, sJ⟩ => ⟨stF_same sJ sx, stF_same sJ sy⟩) ?_ ?_⟩⟩
    · rintro i v J _ hi ⟨eN, sJ⟩ ⟨V2, x, y, rfl, nV, rfl, hx, hy⟩
      obtain ⟨m, n, rfl, rfl, hz⟩ : ∃ m n : Int, x = .int m ∧ y = .int n ∧ [V.int (lim40 (q.2.l + a)), .int (lim40 (q.2.h + b)), .int (lim40 (q.2.t + c))][i]? = some (V.int (lim40 (m + n))) := by
        match i, hi with
        | 0, _ => exact ⟨_, _, (Option.some.inj hx).symm, (Option.some.inj hy).symm, rfl⟩
        | 1, _ => exact ⟨_, _, (Option.some.inj hx).symm, (Option.some.inj hy).symm, rfl⟩
        | 2, _ => exact ⟨_, _, (Option.some.inj hx).symm, (Option.some.inj hy).symm, rfl⟩
      have sV : Same J (upd J V2 (.tup [.int m, .int n])) := same_new nV
      refine ⟨V2, _, rfl, .inl (.inl upd_same), rfl, _, _, rfl, _, _, rfl, rfl, rfl, yes (iteT ?_)⟩
      refine ⟨_, rfl, _, rfl, _, _, rfl, rfl, _, _, rfl, _, _, rfl, ?_⟩
      refine ⟨_, sV _ _ eN, small1000 (by rw [List.length_take]; show min i 3 ≤ 1000; omega), ?_, same_offF (sJ.trans sV) nN⟩
      rw [upd_same, takeF_next hz]
      rfl
    · rintro J ⟨eN, sJ⟩
      have eN : J N = some (.lst [.int (lim40 (q.2.l + a)), .int (lim40 (q.2.h + b)), .int (lim40 (q.2.t + c))]) := eN
      have sB := sZ.trans sJ
      have D5 := sB _ _ D3
      have T5 := T3.same sB
      refine ⟨_, rfl, _, rfl, _, rfl, D, _, rfl, .inl (.inl D5), fun e1 ne1 => ?_⟩
      rw [cutV_front]
      have c1 : Same J (upd J e1 (.lst ((refsOf ps).take j))) := same_new ne1
      have x1 := upd_same (H := J) (a := e1) (o := .lst ((refsOf ps).take j))
      generalize upd J e1 (.lst ((refsOf ps).take j)) = K1 at c1 x1
      refine ⟨_, rfl, N, _, _, _, rfl, rfl, .inl (.inl (c1 _ _ eN)), (rfl : atI [V.int (lim40 (q.2.l + a)), .int (lim40 (q.2.h + b)), .int (lim40 (q.2.t + c))] 0 = some (V.int (lim40 (q.2.l + a)))), ?_⟩
      refine ⟨_, rfl, N, _, _, _, rfl, rfl, .inl (.inl (c1 _ _ eN)), (rfl : atI [V.int (lim40 (q.2.l + a)), .int (lim40 (q.2.h + b)), .int (lim40 (q.2.t + c))] 1 = some (V.int (lim40 (q.2.h + b)))), ?_⟩
      refine ⟨_, rfl, N, _, _, _, rfl, rfl, .inl (.inl (c1 _ _ eN)), (rfl : atI [V.int (lim40 (q.2.l + a)), .int (lim40 (q.2.h + b)), .int (lim40 (q.2.t + c))] 2 = some (V.int (lim40 (q.2.t + c)))), ?_⟩
      refine ⟨_, rfl, by show 4 ≤ sizeLine; decide, fun t nt => ⟨by show 1 ≤ sizeLine; decide, fun e2 ne2 => ?_⟩⟩
      have c2 : Same K1 (upd K1 t (.tup [.int (lim40 (q.2.l + a)), .int (lim40 (q.2.h + b)), .int (lim40 (q.2.t + c)), .str q.2.z])) := same_new nt
      have x2 := upd_same (H := K1) (a := t) (o := .tup [.int (lim40 (q.2.l + a)), .int (lim40 (q.2.h + b)), .int (lim40 (q.2.t + c)), .str q.2.z])
      generalize upd K1 t (.tup [.int (lim40 (q.2.l + a)), .int (lim40 (q.2.h + b)), .int (lim40 (q.2.t + c)), .str q.2.z]) = K2 at c2 x2 ne2
      have c3 : Same K2 (upd K2 e2 (.lst [.ref t])) := same_new ne2
      have x3 := upd_same (H := K2) (a := e2) (o := .lst [.ref t])
      generalize upd K2 e2 (.lst [.ref t]) = K3 at c3 x3
      refine ⟨e1, e2, _, _, rfl, rfl, c3 _ _ (c2 _ _ x1), x3, Nat.le_of_lt (small1000 (by rw [List.length_take, rl]; show min j ps.length + 1 ≤ 1000; omega)), fun e3 ne3 => ?_⟩
      have c4 : Same K3 (upd K3 e3 (.lst ((refsOf ps).take j ++ [.ref t]))) := same_new ne3
      have x4 := upd_same (H := K3) (a := e3) (o := .lst ((refsOf ps).take j ++ [.ref t]))
      generalize upd K3 e3 (.lst ((refsOf ps).take j ++ [.ref t])) = K4 at c4 x4
      have c14 : Same J K4 := c1.trans (c2.trans (c3.trans c4))
      refine ⟨_, rfl, _, rfl, _, _, rfl, rfl, _, rfl, D, _, rfl, .inl (.inl (c14 _ _ D5)), fun e4 ne4 => ?_⟩
      have ej : ((j : Int) + 1) = ((j + 1 : Nat) : Int) := by omega
      rw [ej, cutV_back]
      have c5 : Same K4 (upd K4 e4 (.lst ((refsOf ps).drop (j + 1)))) := same_new ne4
      have x5 := upd_same (H := K4) (a := e4) (o := .lst ((refsOf ps).drop (j + 1)))
      generalize upd K4 e4 (.lst ((refsOf ps).drop (j + 1))) = K5 at c5 x5
      refine ⟨e3, e4, _, _, rfl, rfl, c5 _ _ x4, x5, Nat.le_of_lt (small1000 (by rw [List.length_append, List.length_take, List.length_drop, rl]; show min j ps.length + 1 + _ ≤ 1000; omega)), fun e5 ne5 => ?_⟩
      have c6 : Same K5 (upd K5 e5 (.lst ((refsOf ps).take j ++ [.ref t] ++ (refsOf ps).drop (j + 1)))) := same_new ne5
      have T6 : Tups K5 (ps.take j ++ [(t, ⟨lim40 (q.2.l + a), lim40 (q.2.h + b), lim40 (q.2.t + c), q.2.z⟩)] ++ ps.drop (j + 1)) := (((T5.same (c14.trans c5)).take j).app (.one (c5 _ _ (c4 _ _ (c3 _ _ x2))) ok4)).app ((T5.same (c14.trans c5)).drop _)
      refine k e5 _ _ ((T6.same c6).told ?_) ?_ ?_ (M3.same (sB.trans (c14.trans (c5.trans c6))))
      · rw [upd_same]
        simp only [List.map_append, List.map_take, List.map_drop]
        rfl
      · simp only [List.length_append, List.length_take, List.length_drop, List.length_singleton]
        omega
      · simp only [List.length_append, List.length_take, List.length_drop, List.length_singleton]
        omega
end
end Gu
namespace Gu
open PySem PySem.Spec PyProof.Rows L2
def spRight : Sp := fun vs H Q _ => ∃ (p : Addr), vs = [.ref p] ∧ Pot H p ∧ ∀ G, Ladled p H G → Q (.bl true) G
end Gu
namespace Gu
open PySem PySem.Spec PyProof.Rows L2
/-! ### answers written out -/
/-- None, a bool, or a short text of signs -/
inductive Ans : V → Prop
  | non : Ans .non
  | bl (b : Bool) : Ans (.bl b)
  | str {y : Str} (l : y.cps.toList.length ≤ 500) (s : Signs y.cps.toList) : Ans (.str y)
def adat : V → PyData
  | .bl b => .bool b
  | .str y => .str y
  | _ => .none
theorem Ans.dp {K : PySem.W.Frag} {H : Hp} {v : V} (h : Ans v) : Dp K H v (adat v) := by
  cases h with
  | non => exact .non
  | bl b => exact .bl b
  | str l s => exact .str _
theorem Ans.fine {v : V} (h : Ans v) : Fine 0 500 (adat v) := by
  cases h with
  | non => exact Fine.none.mono (Nat.le_refl _) (by decide)
  | bl b => exact (Fine.bool b).mono (Nat.le_refl _) (by decide)
  | str l s =>
    have a : ∀ c ∈ signs.cps.toList, c < 16 ^ 8 := by decide +kernel
    exact Fine.str (fun c hc => a c (s c hc)) l
theorem ans_all {K : PySem.W.Frag} {H : Hp} : ∀ {vs : List V}, (∀ v ∈ vs, Ans v) → DpAll K H vs (vs.map adat)
  | [], _ => .nil
  | v :: vs, h => .cons (h v (List.mem_cons_self ..)).dp (ans_all fun u hu => h u (List.mem_cons_of_mem _ hu))
theorem ans_fine {vs : List V} (l : vs.length ≤ 100) (h : ∀ v ∈ vs, Ans v) : Fine 60 100000 (.list (vs.map adat)) := by
  have a : FineAll 0 500 (vs.map adat) := .of fun d hd => by
    obtain ⟨v, hv, rfl⟩ := List.mem_map.mp hd
    exact (h v hv).fine
  refine a.list.mono (by decide) ?_
  rw [List.length_map]
  have := Nat.mul_le_mul_right (500 + 1) l
  omega
theorem Told.ans {rs ss : List Rec} {v : V} (h : Told rs ss v) : Ans v := by
  rcases h with ⟨rfl, _⟩ | ⟨n, y, rfl, hn, _, L⟩
  · exact .non
  · exact .str (by rw [L.len]; omega) L.sg
theorem Told.self {rs : List Rec} {v : V} (h : Told rs rs v) : v = .non := by
  rcases h with ⟨rfl, _⟩ | ⟨n, y, rfl, _, f, _⟩
  · rfl
  · exact absurd rfl f.ne
end Gu
namespace Gu
open PySem PySem.Spec PyProof.Rows L2
/-! ### (number, text) < (number, text) -/
def pairLt (m n : Int) (y z : Str) : Bool := if (m == n) = true then (if (y == z) = true then false else decide (y.cps.toList < z.cps.toList)) else decide (m < n)
def rLtP (K : PySem.W.Frag) : R2 := fun x y H Q => ∃ (a b : Addr) (m n : Int) (u v : Str), x = .ref a ∧ y = .ref b ∧ SqT K H a [.int m, .str u] ∧ SqT K H b [.int n, .str v] ∧ Q (.bl (pairLt m n u v)) H
theorem op_ltP {X : Cx} (hu : X.A.units < cLine) : OpR X (compareOp .Lt) (rLtP X.K) := by
  intro pins s σ H x y v u Q I rx ry h
  obtain ⟨a, b, m, n, y1, z1, rfl, rfl, ha, hb, q⟩ := h
  cases rx
  cases ry
  obtain ⟨its, r1, p1, _⟩ := I.tuple ha
  obtain ⟨its2, r2, p2, _⟩ := I.tuple hb
  cases r1 with
  | cons a1 r1 =>
    cases r1 with
    | cons a2 r1 =>
      cases r1
      cases r2 with
      | cons b1 r2 =>
        cases r2 with
        | cons b2 r2 =>
          cases r2
          obtain ⟨t1, rfl⟩ := a1
          obtain ⟨t2, rfl⟩ := a2
          obtain ⟨t3, rfl⟩ := b1
          obtain ⟨t4, rfl⟩ := b2
          have R := Ob.RcOp.tuples_lt (A := X.A) (s := s) (e := fun j => if j = 0 then (m == n) else (y1 == z1)) (r := fun j => if j = 0 then decide (m < n) else decide (y1.cps.toList < z1.cps.toList)) p1 p2 hu (fun j h1 h2 => by
            match j, h1, h2 with
            | 0, _, _ => exact SeqAt.EqAt.int_int _ _ _ _
            | 1, _, _ => exact SeqAt.EqAt.str_str _ _ _ _) (fun j h1 h2 _ => by
            match j, h1, h2 with
            | 0, _, _ => exact Ob.RcOp.lt_int _ _ _ _
            | 1, _, _ => exact fun _ _ _ _ h => PyProof.Rows.lt_str h)
          have e : Ob.lexAt (fun j => if j = 0 then (m == n) else (y1 == z1)) (fun j => if j = 0 then decide (m < n) else decide (y1.cps.toList < z1.cps.toList)) (decide ((#[Value.int m t1, Value.str y1 t2] : Array Value).size < (#[Value.int n t3, Value.str z1 t4] : Array Value).size)) 0 2 = pairLt m n y1 z1 := by
            rw [Ob.lexAt_succ, Ob.lexAt_succ, Ob.lexAt_zero]
            rfl
          exact R X.prog X.w X.xe (EP X pins σ Q) (by
            show EP X pins σ Q (.bool (Ob.lexAt _ _ _ 0 2)) s
            rw [e]
            exact ⟨.bl _, H, I, rfl, q⟩)
theorem pairLt_iff {m n : Int} {y z : Str} (h : pairLt m n y z = true) : m < n ∨ (m = n ∧ y.cps.toList < z.cps.toList) := by
  unfold pairLt at h
  split at h
  · next e =>
    split at h
    · cases h
    · exact .inr ⟨eq_of_beq e, of_decide_eq_true h⟩
  · exact .inl (of_decide_eq_true h)
/-! ### smaller texts are shown alike -/
theorem sign_low {c : Nat} (h : c ∈ signs.cps.toList) : c = 46 ∨ 48 ≤ c := by
  have a : ∀ c ∈ signs.cps.toList, c = 46 ∨ 48 ≤ c := by decide +kernel
  exact a c h
theorem not_dots : ∀ (n : Nat) (ds : List Nat), Signs ds → ds.length = n → ¬ ds < List.replicate n 46
  | 0, ds, _, l, h => by
    rw [List.eq_nil_of_length_eq_zero l] at h
    exact absurd h (by decide)
  | n + 1, [], _, l, _ => by cases l
  | n + 1, d :: ds, sd, l, h => by
    rw [List.replicate_succ, List.cons_lt_cons_iff] at h
    have a := sign_low (sd d (List.mem_cons_self ..))
    rcases h with h | ⟨_, h⟩
    · omega
    · exact not_dots n ds (fun c hc => sd c (List.mem_cons_of_mem _ hc)) (by simpa using l) h
theorem low_dotp : ∀ (p k : Nat) (ds : List Nat), Signs ds → ds.length = p + 1 + k → ds < List.replicate p 46 ++ 48 :: List.replicate k 46 → ∀ i, i ≤ p → ds[i]? = some 46
  | 0, k, [], _, l, _, _, _ => by
    rw [List.length_nil] at l
    omega
  | 0, k, d :: ds, sd, l, h, i, hi => by
    have a := sign_low (sd d (List.mem_cons_self ..))
    have h : d :: ds < 48 :: List.replicate k 46 := h
    rw [List.cons_lt_cons_iff] at h
    rcases h with h | ⟨_, h⟩
    · rw [show i = 0 by omega, show d = 46 by omega]
      rfl
    · exact absurd h (not_dots k ds (fun c hc => sd c (List.mem_cons_of_mem _ hc)) (by rw [List.length_cons] at l; omega))
  | p + 1, k, [], _, l, _, _, _ => by
    rw [List.length_nil] at l
    omega
  | p + 1, k, d :: ds, sd, l, h, i, hi => by
    have a := sign_low (sd d (List.mem_cons_self ..))
    rw [List.replicate_succ, List.cons_append, List.cons_lt_cons_iff] at h
    rcases h with h | ⟨rfl, h⟩
    · omega
    · cases i with
      | zero => rfl
      | succ i =>
        rw [List.getElem?_cons_succ]
        exact low_dotp p k ds (fun c hc => sd c (List.mem_cons_of_mem _ hc)) (by rw [List.length_cons] at l; omega) h i (by omega)
theorem smaller_same {rs ss : List Rec} (hr : ∀ r ∈ rs, r.fit) (hs : ∀ r ∈ ss, r.fit) {n : Nat} {cs ds : List Nat} (L : LeastAt rs ss n cs) (dl : ds.length = n) (sd : Signs ds) (lt : ds < cs) : cuts rs ds = cuts ss ds := by
  rcases L with ⟨rfl, _⟩ | ⟨p, hp, rfl, e0, _, high⟩
  · exact absurd lt (not_dots n ds sd dl)
  · have low := low_dotp p (n - p - 1) ds sd (by omega) lt
    have px : ∀ x ∈ planV rs n, Plain n x := plan_plain hr
    have py : ∀ y ∈ planV ss n, Plain n y := plan_plain hs
    have f0 := (dots_iff hr hs).mp e0
    have el : (planV rs n).length = (planV ss n).length := by
      have := congrArg List.length f0
      rw [List.length_map, List.length_map] at this
      exact this
    have few : ∀ q : Nat, q < n → Diff (planV rs n) (planV ss n) q → q ≤ p := fun q hq d => Decidable.byContradiction fun z => is_diff px py f0 hq d ((dotp_iff hr hs hq).mp (high q (by omega) hq))
    have at46 : ∀ i : Int, 0 ≤ i → i.toNat ≤ p → fill ds (.int i) = fill (dots n) (.int i) := fun i i0 ip => by
      show V.str (one _) = V.str (one _)
      rw [dots_at (by omega), List.getD_eq_getElem?_getD, low i.toNat ip]
      rfl
    rw [shown_iff, dl]
    refine List.ext_getElem? fun i => ?_
    rw [List.getElem?_map, List.getElem?_map]
    by_cases hi : i < (planV rs n).length
    · have hx := List.getElem?_eq_getElem hi
      have hi2 : i < (planV ss n).length := by omega
      have hy := List.getElem?_eq_getElem hi2
      rw [hx, hy]
      show some _ = some _
      have b := same_at px py f0 hx hy
      have qx := px _ (List.getElem_mem hi)
      have qy := py _ (List.getElem_mem hi2)
      generalize (planV rs n)[i] = x at hx b qx
      generalize (planV ss n)[i] = y at hy b qy
      by_cases e : x = y
      · rw [e]
      · have fx : fill ds x = fill (dots n) x := by
          rcases qx with ⟨j, rfl, j0, j1⟩ | ⟨c, rfl, _⟩
          · exact at46 j j0 (few j.toNat (by omega) ⟨i, _, _, hx, hy, e, .inl (by rw [Int.toNat_of_nonneg j0])⟩)
          · rfl
        have fy : fill ds y = fill (dots n) y := by
          rcases qy with ⟨j, rfl, j0, j1⟩ | ⟨c, rfl, _⟩
          · exact at46 j j0 (few j.toNat (by omega) ⟨i, _, _, hx, hy, e, .inr (by rw [Int.toNat_of_nonneg j0])⟩)
          · rfl
        rw [fx, fy, b]
    · rw [List.getElem?_eq_none (by omega), List.getElem?_eq_none (by omega)]
/-- what is told, of a smaller text -/
theorem Told.smaller {rs ss : List Rec} (hr : ∀ r ∈ rs, r.fit) (hs : ∀ r ∈ ss, r.fit) {y z : Str} (h : Told rs ss (.str y)) (sz : Signs z.cps.toList) (lt : pairLt z.length y.length z y = true) : cuts rs z.cps.toList = cuts ss z.cps.toList := by
  rcases h with ⟨e, _⟩ | ⟨n, y', e, _, f, L⟩
  · cases e
  · cases e
    have yl : y.length = n := L.len
    have zl : z.length = z.cps.toList.length := rfl
    rcases pairLt_iff lt with h | ⟨h1, h2⟩
    · exact plan_show hr hs (f.eq _ (by omega))
    · exact smaller_same hr hs L (by omega) sz h2
/-- rows that are alike are unlike a third one for the same text -/
theorem Told.alike {rs ss os : List Rec} (hr : ∀ r ∈ rs, r.fit) (hs : ∀ r ∈ ss, r.fit) (e : ∀ n, planV rs n = planV ss n) {v : V} (h : Told rs os v) : Told ss os v := by
  have c : ∀ cs : List Nat, cuts ss cs = cuts rs cs := fun cs => (plan_show hr hs (e cs.length)).symm
  rcases h with ⟨rfl, h⟩ | ⟨n, y, rfl, hn, f, L⟩
  · exact .inl ⟨rfl, fun n => (e n).symm.trans (h n)⟩
  · refine .inr ⟨n, y, rfl, hn, ⟨fun q => f.ne ((e n).trans q), fun m hm => (e m).symm.trans (f.eq m hm)⟩, ?_⟩
    rcases L with ⟨a, b⟩ | ⟨p, hp, a, b0, b1, b2⟩
    · exact .inl ⟨a, by rw [c]; exact b⟩
    · exact .inr ⟨p, hp, a, by rw [c]; exact b0, by rw [c]; exact b1, fun q h1 h2 => by rw [c]; exact b2 q h1 h2⟩
theorem Told.non_all {rs ss : List Rec} {v : V} (h : Told rs ss v) (e : v = .non) : ∀ n, planV rs n = planV ss n := by
  rcases h with ⟨_, h⟩ | ⟨n, y, rfl, _⟩
  · exact h
  · cases e
end Gu
namespace Gu
open PySem PySem.Spec PyProof.Rows L2
/-! ### rows applied again -/
theorem cutsV_app (rs ss : List Rec) (xs : List V) : cutsV (rs ++ ss) xs = cutsV ss (cutsV rs xs) := by
  unfold cutsV
  rw [List.foldl_append]
theorem cuts_app (rs ss : List Rec) (xs : List Nat) : cuts (rs ++ ss) xs = cuts ss (cuts rs xs) := by
  unfold cuts
  rw [List.foldl_append]
theorem plan_app (rs ss : List Rec) (n : Nat) : planV (rs ++ ss) n = cutsV ss (planV rs n) := cutsV_app rs ss _
theorem fit_app {rs ss : List Rec} (hr : ∀ r ∈ rs, r.fit) (hs : ∀ r ∈ ss, r.fit) : ∀ r ∈ rs ++ ss, r.fit := fun r h => by
  rcases List.mem_append.mp h with h | h
  · exact hr r h
  · exact hs r h
theorem is_txt {y : Str} (l : y.cps.toList.length ≤ 200) (s : Signs y.cps.toList) : isTxt y 200 = true := by
  have e : y.length = y.cps.toList.length := rfl
  unfold isTxt
  rw [Bool.and_eq_true, List.all_eq_true]
  exact ⟨decide_eq_true (by omega), fun c h => decide_eq_true (s c h)⟩
theorem txt_len {y : Str} (h : isTxt y 200 = true) : y.cps.toList.length ≤ 200 := by
  have e : y.length = y.cps.toList.length := rfl
  have := isTxt_len h
  omega
section
variable {P : Program} {w : World} {K : PySem.W.Frag} {mg : Str → Option Value} {base : Heap} {C : Addr}
end
end Gu
namespace Gu
open PySem PySem.Spec PyProof.Rows L2
theorem ToldsAt.off {H : Hp} {D p : Addr} {ps : List (Addr × Rec)} (h : ToldsAt H D ps) (hp : Pot H p) (l : 1 ≤ ps.length) : D ≠ p := fun e => by
  subst e
  obtain ⟨x, y, z, e⟩ := hp
  have a := h.ls.symm.trans e
  cases ps with
  | nil => cases l
  | cons q ps => cases a
theorem same_len {ps rs : List (Addr × Rec)} (e : rs.map (·.2) = ps.map (·.2)) : rs.length = ps.length := by
  have := congrArg List.length e
  rw [List.length_map, List.length_map] at this
  exact this
end Gu
namespace Gu
open PySem PySem.Spec PyProof.Rows L2
theorem RowAt.join {C : Addr} {H G : Hp} {a b U : Addr} {rs ss : List (Addr × Rec)} (h : RowAt C H a rs) (k : RowAt C H b ss) (s : Same H G) (e : G U = some (.tup ((rs.map fun q => V.ref q.1) ++ ss.map fun q => V.ref q.1))) : RowAt C G U (rs ++ ss) := by
  refine ⟨by rw [List.map_append]; exact e, fun q hq => ?_⟩
  rcases List.mem_append.mp hq with hq | hq
  · exact ⟨(h.sh q hq).1.same s, (h.sh q hq).2⟩
  · exact ⟨(k.sh q hq).1.same s, (k.sh q hq).2⟩
theorem join_ok {C : Addr} {K : PySem.W.Frag} {H : Hp} {a b : Addr} {rs ss : List (Addr × Rec)} {Q : VK} (h : RowAt C H a rs) (k : RowAt C H b ss) (l : rs.length + ss.length ≤ 1000) (q : ∀ U G, Same H G → RowAt C G U (rs ++ ss) → Q (.ref U) G) : rCatA K (.ref a) (.ref b) H Q :=
  cat_ok h.tp k.tp (Nat.le_of_lt (small1000 (by rw [List.length_map, List.length_map]; exact l))) fun U G s e => q U G s (h.join k s e)
theorem fit_more : (⟨40, 0, 0, ("~" : String)⟩ : Rec).fit := ⟨⟨by decide, by decide⟩, ⟨by decide, by decide⟩, ⟨by decide, by decide⟩, by decide +kernel⟩
theorem Told.behind {rs ss os : List Rec} {u v : V} (a : Told rs ss u) (b : Told (rs ++ os) (ss ++ os) v) (e : u = .non) : v = .non := by
  have h := a.non_all e
  exact (b.one (.inl ⟨rfl, fun n => by rw [plan_app, plan_app, h n]⟩))
theorem Told.later {rs ss os : List Rec} (hr : ∀ r ∈ rs, r.fit) (hs : ∀ r ∈ ss, r.fit) {y z : Str} (a : Told rs ss (.str y)) (b : Told (rs ++ os) (ss ++ os) (.str z)) : pairLt z.length y.length z y = false := by
  refine Bool.eq_false_iff.mpr fun h => ?_
  rcases b with ⟨e, _⟩ | ⟨n, z', e, _, _, L⟩
  · cases e
  · cases e
    exact L.ne (by rw [cuts_app, cuts_app, a.smaller hr hs L.sg h])
/-- a shortener that shows all of it whole -/
theorem whole_behind {rs : List Rec} (hr : ∀ r ∈ rs, r.fit) (r1 : 1 ≤ rs.length) {m : Int} (h : Top m (wides rs 42)) (h40 : m ≤ 40) (t : Rec) (tl : t.l = 40) (n : Nat) : planV (rs ++ [t]) n = planV rs n := by
  have l : lens rs n ≤ 40 := by
    have a : ((lens rs n : Nat) : Int) ≤ m := by
      by_cases hn : n < 42
      · exact h.2 _ (List.mem_map.mpr ⟨n, List.mem_range.mpr hn, rfl⟩)
      · rw [lens_far hr r1 (show 41 ≤ n by omega)]
        exact h.2 _ (List.mem_map.mpr ⟨41, List.mem_range.mpr (by decide), rfl⟩)
    omega
  rw [plan_app]
  show cut t.l.toNat t.h.toNat t.t.toNat (ones t.z.cps.toList) (planV rs n) = planV rs n
  have e : (planV rs n).length = lens rs n := by
    unfold planV
    rw [cutsV_length, rg_len]
  unfold cut
  rw [if_pos (by rw [e, tl]; show lens rs n ≤ 40; exact l)]
section
variable {P : Program} {w : World} {K : PySem.W.Frag} {mg : Str → Option Value} {base : Heap} {C : Addr}
set_option maxHeartbeats 4000000 in
theorem cal_right (B : Bi mg) (D : At K mg "_law_right" s_law_right ps_law_right) (C_law_ladle : Cal P w K mg base 1 "_law_ladle" ps_law_ladle spLadle) (C_law_line : Cal P w K mg base 3 "_law_line" ps_law_line spLine) (C_law_tolds : Cal P w K mg base 4 "_law_tolds" ps_law_tolds spTolds) (C_law_near : Cal P w K mg base 5 "_law_near" ps_law_near spNear) (C_law_made : Cal P w K mg base 5 "_law_made" ps_law_made (spMade C)) (C_law_cut : Cal P w K mg base 1 "_law_cut" ps_law_cut spCut) (M_sh : Mak P w K mg base 3 "Shortener" C (spInit C))
    (C_show : Cal P w K mg base 3 "show" ps_show (spShow C)) (C_plan : Cal P w K mg base 3 "plan" ps_plan (spPlan C)) (C_widest : Cal P w K mg base 3 "widest" ps_widest (spWidest C)) (C_first_unlike : Cal P w K mg base 4 "first_unlike" ps_first_unlike (spFirstU C)) (C_are_alike : Cal P w K mg base 5 "are_alike" ps_are_alike (spAlike C)) : CalG P w K mg base 6 "_law_right" ps_law_right spRight := by
  refine D.calG sc_law_right (fun vs H Q E h => ?_) (fun f cdv A outer s H vs Q E hr quiet h => ?_)
  · obtain ⟨p, rfl, _⟩ := h
    rfl
  · obtain ⟨p, rfl, hp, k⟩ := h
    refine ⟨_, (pss_cons (ps_for PassesOwn.never rfl (pi_range1 (by rfl) B.range (pa_cons pe_int pa_nil)) (pg_name (i := 1) sc_law_right.nd rfl (.inl rfl))
      (pss_cons (ps_par (i := 2) (j := 3) (by rfl) sc_law_right.nd rfl rfl (by decide) rfl rfl (pa_cons (pe_slice sl_list (pe_own C_law_tolds hr (by decide) (by rfl) (pa_cons (pv 0) pa_nil)) po_none (po_some pe_int)) (pa_cons (pe_slice sl_list (pe_own C_law_tolds hr (by decide) (by rfl) (pa_cons (pv 0) pa_nil)) po_none (po_some pe_int)) pa_nil)) (by rfl))
      (pss_cons (ps_set (i := 4) sc_law_right.nd rfl (.inl rfl) (pe_slice sl_list (pe_own C_law_near hr (by decide) (by rfl) (pa_cons (pv 0) (pa_cons (pv 2) pa_nil))) po_none (po_some pe_int)))
      (pss_cons (ps_par3 (i := 5) (j := 6) (l := 7) (by rfl) sc_law_right.nd rfl rfl rfl (by decide) (by decide) (by decide) rfl rfl rfl (pa_cons (pe_own C_law_made hr (by decide) (by rfl) (pa_cons (pv 2) pa_nil)) (pa_cons (pe_own C_law_made hr (by decide) (by rfl) (pa_cons (pv 4) pa_nil)) (pa_cons (pe_own C_law_made hr (by decide) (by rfl) (pa_cons (pv 3) pa_nil)) pa_nil))) (by rfl))
      (pss_cons (ps_for PassesOwn.never rfl (pi_range1 (by rfl) B.range (pa_cons pe_int pa_nil)) (pg_name (i := 8) sc_law_right.nd rfl (.inl rfl))
      (pss_cons (ps_set (i := 9) sc_law_right.nd rfl (.inl rfl) (pe_own C_law_line hr (by decide) (by rfl) (pa_cons (pv 0) (pa_cons (pe_own C_law_ladle hr (by decide) (by rfl) (pa_cons (pv 0) (pa_cons pe_int pa_nil))) pa_nil))))
      (pss_one (ps_if (pt_cmpR op_ne (pe_own C_show hr (by decide) (by rfl) (pa_cons (pe_op op_catA (pv 5) (pv 7)) (pa_cons (pv 9) pa_nil))) (pe_own C_show hr (by decide) (by rfl) (pa_cons (pv 7) (pa_cons (pe_own C_show hr (by decide) (by rfl) (pa_cons (pv 5) (pa_cons (pv 9) pa_nil))) pa_nil))) (nomark _)) (pss_one (ps_ret pe_bl)) pss_nil))))
      (pss_cons (ps_par (i := 10) (j := 11) (by rfl) sc_law_right.nd rfl rfl (by decide) rfl rfl (pa_cons (pe_own C_first_unlike hr (by decide) (by rfl) (pa_cons (pv 5) (pa_cons (pv 6) pa_nil))) (pa_cons (pe_own C_first_unlike hr (by decide) (by rfl) (pa_cons (pe_op op_catA (pv 5) (pv 7)) (pa_cons (pe_op op_catA (pv 6) (pv 7)) pa_nil))) pa_nil)) (by rfl))
      (C8.pss_cut (ps_if (PW.pt (pw_and (pt_cmpR op_isN (pv 10) pe_non (nomark _)) (pw_and1 (pt_cmpR op_notN (pv 11) pe_non (nomark _))))) (pss_one (ps_ret pe_bl)) pss_nil)
      (C8.pss_cut (ps_if (PW.pt (pw_and (pt_cmpR op_notN (pv 10) pe_non (nomark _)) (pw_and (pt_cmpR op_notN (pv 11) pe_non (nomark _)) (pw_and1 (pt_cmpR (op_ltP (Nat.lt_of_le_of_lt (Nat.le_add_right _ 64) hr.units)) (pe_tup (pa_cons (pe_callB call_len (by rfl) B.len (by decide +kernel) (pa_cons (pv 11) pa_nil)) (pa_cons (pv 11) pa_nil))) (pe_tup (pa_cons (pe_callB call_len (by rfl) B.len (by decide +kernel) (pa_cons (pv 10) pa_nil)) (pa_cons (pv 10) pa_nil))) (nomark _)))))) (pss_one (ps_ret pe_bl)) pss_nil)
      (C8.pss_cut (ps_if (PW.pt (pw_and (pt_not (pt_val (pe_own C_are_alike hr (by decide) (by rfl) (pa_cons (pv 5) (pa_cons (pv 6) pa_nil))))) (pw_and1 (pt_cmpR op_isN (pv 10) pe_non (nomark _))))) (pss_one (ps_ret pe_bl)) pss_nil)
      (pss_cons (ps_set (i := 12) sc_law_right.nd rfl (.inl rfl) (pe_own C_law_ladle hr (by decide) (by rfl) (pa_cons (pv 0) (pa_cons pe_int pa_nil))))
      (pss_cons (ps_if (pt_cmpR (op_neD hr.units) (pe_callTy call_list_of (by rfl) B.list (by decide +kernel) (pa_cons (pe_own C_plan hr (by decide) (by rfl) (pa_cons (pe_op op_catA (pv 5) (pv 7)) (pa_cons (pv 12) pa_nil))) pa_nil)) (pe_own C_law_cut hr (by decide) (by rfl) (pa_cons (pv 3) (pa_cons (pe_callTy call_list_of (by rfl) B.list (by decide +kernel) (pa_cons (pe_own C_plan hr (by decide) (by rfl) (pa_cons (pv 5) (pa_cons (pv 12) pa_nil))) pa_nil)) pa_nil))) (nomark _)) (pss_one (ps_ret pe_bl)) pss_nil)
      (pss_one (ps_if (PW.pt (pw_and (pt_cmpR op_le (pe_own C_widest hr (by decide) (by rfl) (pa_cons (pv 5) pa_nil)) pe_int (nomark _)) (pw_and1 (pt_not (pt_val (pe_own C_are_alike hr (by decide) (by rfl) (pa_cons (pe_op op_catA (pv 5) (pe_tup (pa_cons (pe_new M_sh hr (by decide) (by rfl) (pa_cons pe_int (pa_cons pe_int (pa_cons pe_int (pa_cons pe_str pa_nil))))) pa_nil))) (pa_cons (pv 5) pa_nil)))))))) (pss_one (ps_ret pe_bl)) pss_nil)))))))))))))
      (pss_one (ps_ret pe_bl))), ?_⟩
    refine ⟨4, rfl, by decide, by decide, for_range (lo := 0) (n := 4) (fun i σ J => ∃ a1 a2 a3 a4 a5 a6 a7 a8 a9 a10 a11 a12, σ = [some (.ref p), a1, a2, a3, a4, a5, a6, a7, a8, a9, a10, a11, a12] ∧ Ladled p H J) ⟨none, none, none, none, none, none, none, none, none, none, none, none, rfl, .refl hp⟩ ?_ ?_⟩
    · rintro i σ J hi ⟨a1, a2, a3, a4, a5, a6, a7, a8, a9, a10, a11, a12, rfl, M⟩
      -- one, more
      refine ⟨_, rfl, p, rfl, M.pot, fun D0 G0 ps nD0 t0 nq p1 p4 L0 => ?_⟩
      refine ⟨2, rfl, D0, _, rfl, .inl (.inl t0.ls), fun D1 nD1 => ?_⟩
      have sD1 : Same G0 (upd G0 D1 (.lst (cutV (refsOf ps) none (some 2)))) := same_new nD1
      have t1 : ToldsAt (upd G0 D1 (.lst (cutV (refsOf ps) none (some 2)))) D1 (ps.take 2) := ((t0.tups.take 2).same sD1).told (by rw [upd_same, show cutV (refsOf ps) none (some 2) = (refsOf ps).take 2 from cutV_front _ 2, List.map_take])
      have M1 := (M.trans L0).same sD1
      generalize upd G0 D1 (.lst (cutV (refsOf ps) none (some 2))) = G1 at t1 M1
      have p1 : 1 ≤ (ps.take 2).length := by rw [List.length_take]; omega
      have p2 : (ps.take 2).length ≤ 2 := by rw [List.length_take]; omega
      generalize ps.take 2 = ps at t1 p1 p2
      refine ⟨_, rfl, p, rfl, M1.pot, fun D2 G2 us nD2 t2 nu u1 u4 L2 => ?_⟩
      refine ⟨2, rfl, D2, _, rfl, .inl (.inl t2.ls), fun D3 nD3 => ?_⟩
      have sD3 : Same G2 (upd G2 D3 (.lst (cutV (refsOf us) none (some 2)))) := same_new nD3
      have t3 : ToldsAt (upd G2 D3 (.lst (cutV (refsOf us) none (some 2)))) D3 (us.take 2) := ((t2.tups.take 2).same sD3).told (by rw [upd_same, show cutV (refsOf us) none (some 2) = (refsOf us).take 2 from cutV_front _ 2, List.map_take])
      have M3 := (M1.trans L2).same sD3
      have t1 : ToldsAt (upd G2 D3 (.lst (cutV (refsOf us) none (some 2)))) D1 ps := (L2.tolds (t1.off M1.pot p1) (t1.tups.off M1.pot) t1).same sD3
      generalize upd G2 D3 (.lst (cutV (refsOf us) none (some 2))) = G3 at t1 t3 M3
      have u1 : 1 ≤ (us.take 2).length := by rw [List.length_take]; omega
      have u2 : (us.take 2).length ≤ 2 := by rw [List.length_take]; omega
      generalize us.take 2 = us at t3 u1 u2
      refine ⟨_, _, rfl, ?_⟩
      -- two
      refine ⟨_, rfl, _, rfl, p, D1, ps, rfl, M3.pot, t1, t1.off M3.pot p1, p1, by omega, fun D4 G4 qs t4 q1 q4 L4 => ?_⟩
      have t1 : ToldsAt G4 D1 ps := L4.tolds (t1.off M3.pot p1) (t1.tups.off M3.pot) t1
      have t3 : ToldsAt G4 D3 us := L4.tolds (t3.off M3.pot u1) (t3.tups.off M3.pot) t3
      refine ⟨2, rfl, D4, _, rfl, .inl (.inl t4.ls), fun D5 nD5 => ?_⟩
      have sD5 : Same G4 (upd G4 D5 (.lst (cutV (refsOf qs) none (some 2)))) := same_new nD5
      have t5 : ToldsAt (upd G4 D5 (.lst (cutV (refsOf qs) none (some 2)))) D5 (qs.take 2) := ((t4.tups.take 2).same sD5).told (by rw [upd_same, show cutV (refsOf qs) none (some 2) = (refsOf qs).take 2 from cutV_front _ 2, List.map_take])
      have M5 := (M3.trans L4).same sD5
      have t1 := t1.same sD5
      have t3 := t3.same sD5
      generalize upd G4 D5 (.lst (cutV (refsOf qs) none (some 2))) = G5 at t1 t3 t5 M5
      have q1 : 1 ≤ (qs.take 2).length := by rw [List.length_take]; omega
      have q2 : (qs.take 2).length ≤ 2 := by rw [List.length_take]; omega
      generalize qs.take 2 = qs at t5 q1 q2
      -- the rows
      refine ⟨_, rfl, D1, ps, rfl, t1, by omega, fun R1 G6 rs nR1 row1 er s6 => ?_⟩
      refine ⟨_, rfl, D5, qs, rfl, t5.same s6, by omega, fun R2 G7 ss nR2 row2 es s7 => ?_⟩
      refine ⟨_, rfl, D3, us, rfl, t3.same (s6.trans s7), by omega, fun R3 G8 os nR3 row3 eo s8 => ?_⟩
      have row1 := row1.same (s7.trans s8)
      have row2 := row2.same s8
      have M8 := M5.same (s6.trans (s7.trans s8))
      have t3 := t3.same (s6.trans (s7.trans s8))
      have lr := same_len er
      have ls := same_len es
      have lo := same_len eo
      have fr := row1.fits
      have fs := row2.fits
      have fo := row3.fits
      clear er es nR1 nR2 nR3 t0 t1 t2 t4 t5 nq nu nD0 nD1 nD2 nD3 nD5 sD1 sD3 sD5 s6 s7 s8 L0 L2 L4 M1 M3 M5 M
      refine ⟨_, _, _, rfl, ?_⟩
      -- drawn texts
      refine ⟨4, rfl, by decide, by decide, for_range (lo := 0) (n := 4) (fun i2 σ J => ∃ b1 b2, σ = [some (.ref p), some (.int (0 + (i : Int))), some (.ref D1), some (.ref D3), some (.ref D5), some (.ref R1), some (.ref R2), some (.ref R3), b1, b2, a10, a11, a12] ∧ Ladled p H J ∧ RowAt C J R1 rs ∧ RowAt C J R2 ss ∧ RowAt C J R3 os ∧ ToldsAt J D3 us) ⟨_, _, rfl, M8, row1, row2, row3, t3⟩ ?_ ?_⟩
      · rintro i2 σ2 J2 hi2 ⟨b1, b2, rfl, L2, w1, w2, w3, t3⟩
        refine ⟨_, rfl, _, rfl, p, 120, rfl, L2.pot, by decide, by decide, fun n K2 m0 m1 c2 => ?_⟩
        have Lc2 := L2.trans c2
        refine ⟨p, n, rfl, Lc2.pot, m0, by omega, fun y K3 c3 yl yt => ?_⟩
        have Lc3 := Lc2.trans c3
        have t3 : ToldsAt K2 D3 us := c2.tolds (t3.off L2.pot u1) (t3.tups.off L2.pot) t3
        have t3 : ToldsAt K3 D3 us := c3.tolds (t3.off Lc2.pot u1) (t3.tups.off Lc2.pot) t3
        have w1 : RowAt C K3 R1 rs := c3.row Lc2.pot (c2.row L2.pot w1)
        have w2 : RowAt C K3 R2 ss := c3.row Lc2.pot (c2.row L2.pot w2)
        have w3 : RowAt C K3 R3 os := c3.row Lc2.pot (c2.row L2.pot w3)
        refine ⟨_, rfl, _, rfl, join_ok w1 w3 (by omega) fun U K4 c4 wU => ?_⟩
        refine ⟨_, rfl, U, _, y, rfl, wU, by rw [List.length_append]; omega, by rw [List.length_append]; omega, yt, fun z1 K5 c5 e1 => ?_⟩
        have s5 := c4.trans c5
        refine ⟨_, rfl, _, rfl, _, rfl, R1, rs, y, rfl, w1.same s5, by omega, by omega, yt, fun z2 K6 c6 e2 => ?_⟩
        have zs : Signs z2.cps.toList := by
          rw [e2]
          exact cuts_signs _ fr (isTxt_signs yt)
        have zl : z2.cps.toList.length ≤ 200 := by
          rw [e2]
          exact cuts_len _ fr (txt_len yt)
        have s6 := s5.trans c6
        refine ⟨R3, os, z2, rfl, w3.same s6, by omega, by omega, is_txt zl zs, fun z3 K7 c7 e3 => ?_⟩
        have s7 := s6.trans c7
        refine ⟨rfl, _, rfl, iteNS (by rw [str_ext (show z1.cps.toList = z3.cps.toList by rw [e1, e3, e2, List.map_append, cuts_app])]) ?_⟩
        exact ⟨_, _, rfl, Lc3.same s7, w1.same s7, w2.same s7, w3.same s7, t3.same s7⟩
      · rintro σ2 J2 ⟨b1, b2, rfl, L2, w1, w2, w3, t3⟩
        -- first, second
        refine ⟨_, rfl, _, rfl, R1, R2, rs, ss, rfl, w1, w2, by omega, by omega, by omega, by omega, fun v1 K1 c1 h1 => ?_⟩
        refine ⟨_, rfl, _, rfl, join_ok (w1.same c1) (w3.same c1) (by omega) fun U K2 c2 wU => ?_⟩
        refine ⟨_, rfl, _, rfl, join_ok (w2.same (c1.trans c2)) (w3.same (c1.trans c2)) (by omega) fun W K3 c3 wW => ?_⟩
        refine ⟨U, W, _, _, rfl, wU.same c3, wW, by rw [List.length_append]; omega, by rw [List.length_append]; omega, by rw [List.length_append]; omega, by rw [List.length_append]; omega, fun v2 K4 c4 h2 => ?_⟩
        rw [List.map_append, List.map_append] at h2
        have s4 := c1.trans (c2.trans (c3.trans c4))
        have L4 := L2.same s4
        have w1 := w1.same s4
        have w2 := w2.same s4
        have w3 := w3.same s4
        have t3 := t3.same s4
        clear c1 c2 c3 c4 wU wW s4 L2
        refine ⟨_, _, rfl, ?_⟩
        -- if first is None
        refine ⟨fun σ J => σ = [some (.ref p), some (.int (0 + (i : Int))), some (.ref D1), some (.ref D3), some (.ref D5), some (.ref R1), some (.ref R2), some (.ref R3), b1, b2, some v1, some v2, a12] ∧ K4 = J, ?_, ?_⟩
        · refine ⟨_, rfl, rfl, _, rfl, ?_⟩
          by_cases hn : v1 = .non
          · rw [decide_eq_true hn]
            refine iteT ⟨_, rfl, rfl, _, rfl, iteNS (h1.behind h2 hn) ⟨rfl, rfl⟩⟩
          · rw [decide_eq_false hn]
            exact iteF (iteF ⟨rfl, rfl⟩)
        rintro _ _ ⟨rfl, rfl⟩
        refine ⟨fun σ J => σ = [some (.ref p), some (.int (0 + (i : Int))), some (.ref D1), some (.ref D3), some (.ref D5), some (.ref R1), some (.ref R2), some (.ref R3), b1, b2, some v1, some v2, a12] ∧ Same K4 J, ?_, ?_⟩
        · refine ⟨_, rfl, rfl, _, rfl, ?_⟩
          rcases id h1 with ⟨rfl, _⟩ | ⟨n, y, rfl, hn, f, L⟩
          · exact iteNS rfl (iteF ⟨rfl, Same.refl _⟩)
          · rw [decide_eq_false (fun h => by cases h)]
            refine iteT ⟨_, rfl, rfl, _, rfl, ?_⟩
            rcases id h2 with ⟨rfl, _⟩ | ⟨n2, z, rfl, hn2, f2, L2⟩
            · exact iteNS rfl (iteF ⟨rfl, Same.refl _⟩)
            · rw [decide_eq_false (fun h => by cases h)]
              have yl : y.length ≤ 80 := by show y.cps.toList.length ≤ 80; rw [L.len]; exact hn
              have zl : z.length ≤ 80 := by show z.cps.toList.length ≤ 80; rw [L2.len]; exact hn2
              refine iteT ⟨_, rfl, _, _, rfl, ⟨Nat.le_of_lt (small1000 (by omega)), rfl⟩, _, rfl, by show 2 ≤ sizeLine; decide, fun T1 nT1 => ?_⟩
              have sT1 : Same K4 (upd K4 T1 (.tup [.int (z.length : Int), .str z])) := same_new nT1
              refine ⟨_, rfl, _, _, rfl, ⟨Nat.le_of_lt (small1000 (by omega)), rfl⟩, _, rfl, by show 2 ≤ sizeLine; decide, fun T2 nT2 => ?_⟩
              have sT2 : Same (upd K4 T1 (.tup [.int (z.length : Int), .str z])) (upd (upd K4 T1 (.tup [.int (z.length : Int), .str z])) T2 (.tup [.int (y.length : Int), .str y])) := same_new nT2
              refine ⟨T1, T2, _, _, _, _, rfl, rfl, .inl (.inl (sT2 _ _ upd_same)), .inl (.inl upd_same), _, rfl, ?_⟩
              rw [h1.later fr fs h2]
              exact iteF ⟨rfl, sT1.trans sT2⟩
        rintro _ K5 ⟨rfl, s5⟩
        have L5 := L4.same s5
        have w1 := w1.same s5
        have w2 := w2.same s5
        have w3 := w3.same s5
        have t3 := t3.same s5
        -- if not are_alike
        refine ⟨fun σ J => σ = [some (.ref p), some (.int (0 + (i : Int))), some (.ref D1), some (.ref D3), some (.ref D5), some (.ref R1), some (.ref R2), some (.ref R3), b1, b2, some v1, some v2, a12] ∧ Same K5 J, ?_, ?_⟩
        · refine ⟨_, rfl, _, rfl, R1, R2, rs, ss, rfl, w1, w2, by omega, by omega, by omega, by omega, fun v3 K6 c6 h3 => ?_⟩
          obtain rfl := h3.one h1
          refine ⟨_, rfl, ?_⟩
          by_cases hn : v3 = .non
          · rw [decide_eq_true hn]
            exact iteF (iteF ⟨rfl, c6⟩)
          · rw [decide_eq_false hn]
            refine iteT ⟨_, rfl, rfl, _, rfl, ?_⟩
            rw [decide_eq_false hn]
            exact iteF ⟨rfl, c6⟩
        rintro _ K6 ⟨rfl, s6⟩
        have L6 := L5.same s6
        have w1 := w1.same s6
        have w2 := w2.same s6
        have w3 := w3.same s6
        have t3 := t3.same s6
        -- plans
        refine ⟨_, rfl, p, 130, rfl, L6.pot, by decide, by decide, fun n K7 m0 m1 c7 => ?_⟩
        obtain ⟨n, rfl⟩ := Int.eq_ofNat_of_zero_le m0
        have t3 : ToldsAt K7 D3 us := c7.tolds (t3.off L6.pot u1) (t3.tups.off L6.pot) t3
        have w1 : RowAt C K7 R1 rs := c7.row L6.pot w1
        have w3 : RowAt C K7 R3 os := c7.row L6.pot w3
        have L7 := L6.trans c7
        refine ⟨_, rfl, _, rfl, join_ok w1 w3 (by omega) fun U K8 c8 wU => ?_⟩
        refine ⟨_, rfl, U, n, _, rfl, wU, by rw [List.length_append]; omega, by rw [List.length_append]; omega, by omega, fun X K9 c9 e9 => ?_⟩
        have e9 : K9 X = some (.tup (planV (rs.map (·.2) ++ os.map (·.2)) n)) := by rw [← List.map_append]; exact e9
        refine ⟨X, _, rfl, .inr (.inl (.inl e9)), fun X2 nX2 => ?_⟩
        have c10 : Same K9 (upd K9 X2 (.lst (planV (rs.map (·.2) ++ os.map (·.2)) n))) := same_new nX2
        have e10 := upd_same (H := K9) (a := X2) (o := .lst (planV (rs.map (·.2) ++ os.map (·.2)) n))
        have s10 := c8.trans (c9.trans c10)
        generalize upd K9 X2 (.lst (planV (rs.map (·.2) ++ os.map (·.2)) n)) = K10 at e10 s10 c10
        refine ⟨_, rfl, _, rfl, _, rfl, R1, n, rs, rfl, w1.same s10, by omega, by omega, by omega, fun Y K11 c11 e11 => ?_⟩
        have e11 : K11 Y = some (.tup (planV (rs.map (·.2)) n)) := e11
        refine ⟨Y, _, rfl, .inr (.inl (.inl e11)), fun Y2 nY2 => ?_⟩
        have c12 : Same K11 (upd K11 Y2 (.lst (planV (rs.map (·.2)) n))) := same_new nY2
        have pl := plan_len fr (n := n) (by omega)
        refine ⟨D3, Y2, us, _, rfl, t3.same (s10.trans (c11.trans c12)), upd_same, by omega, fun Z K13 c13 e13 => ?_⟩
        rw [← eo, ← plan_app] at e13
        have s13 := s10.trans (c11.trans (c12.trans c13))
        have fro := fit_app fr fo
        refine ne_planL (.inl (.inl (c13 _ _ (c12 _ _ (c11 _ _ e10))))) (.inl (.inl e13)) (plan_plain fro) (plan_plain fro) ⟨_, rfl, iteNS rfl ?_⟩
        have w1 := w1.same s13
        have L13 := L7.same s13
        -- one that shows all of it whole
        refine ⟨_, rfl, R1, rs, rfl, w1, by omega, by omega, fun m K14 c14 top => ?_⟩
        refine ⟨_, _, rfl, rfl, _, rfl, ?_⟩
        by_cases hm : m ≤ 40
        · rw [decide_eq_true hm]
          refine iteT ⟨_, rfl, fun x dx nx ndx nex => ⟨x, dx, ⟨40, 0, 0, ("~" : String)⟩, rfl, upd_same, fit_more, fun tt K15 ntt ex ett keep => ⟨rfl, ?_⟩⟩⟩
          have c15 : Same K14 K15 := fun c q e => keep c q (by rw [upd_ne (ne_of_none e nx), upd_ne (ne_of_none e ndx)]; exact e) (ne_of_none e nx)
          refine ⟨by show 1 ≤ sizeLine; decide, fun t nt => ?_⟩
          have c16 : Same K15 (upd K15 t (.tup [.ref x])) := same_new nt
          have wt : RowAt C (upd K15 t (.tup [.ref x])) t [(x, ⟨40, 0, 0, ("~" : String)⟩)] := ⟨upd_same, fun q hq => by
            rw [List.mem_singleton.mp hq]
            exact ⟨ShAt.same c16 ⟨dx, tt, ex, ett⟩, fit_more⟩⟩
          have s16 := c14.trans (c15.trans c16)
          have w1 := w1.same s16
          generalize upd K15 t (.tup [.ref x]) = K16 at wt s16 w1
          refine join_ok w1 wt (by show rs.length + 1 ≤ 1000; omega) fun U2 K17 c17 wU2 => ?_
          refine ⟨_, rfl, U2, R1, _, rs, rfl, wU2, w1.same c17, by rw [List.length_append]; omega, by rw [List.length_append]; show rs.length + 1 ≤ 4; omega, by omega, by omega, fun v4 K18 c18 h4 => ?_⟩
          have hv4 : v4 = .non := h4.one (.inl ⟨rfl, fun n => by
            rw [List.map_append]
            exact whole_behind fr (by rw [List.length_map]; omega) top hm _ rfl n⟩)
          refine ⟨_, rfl, ?_⟩
          rw [decide_eq_true hv4]
          exact iteF ⟨_, _, _, _, _, _, _, _, _, _, _, _, rfl, L13.same (s16.trans (c17.trans c18))⟩
        · rw [decide_eq_false hm]
          exact iteF (iteF ⟨_, _, _, _, _, _, _, _, _, _, _, _, rfl, L13.same c14⟩)
    · rintro σ J ⟨a1, a2, a3, a4, a5, a6, a7, a8, a9, a10, a11, a12, rfl, M⟩
      exact k J M
end
end Gu
namespace Gu
open PySem PySem.Spec PyProof.Rows L2
section
variable {P : Program} {w : World} {K : PySem.W.Frag} {mg : Str → Option Value} {base : Heap}
/-! ### law -/
def spLaw (K : PySem.W.Frag) : Sp := fun vs H Q _ => ∃ (a : Addr) (ns : List Int), vs = [.ref a] ∧ SqL K H a (ns.map V.int) ∧ ns.length ≤ 63 ∧ ∀ G, Q (.bl true) G
theorem cal_law {n : Nat} (B : Bi mg) {f : Addr} {fd : FuncData} (F : Fun K "law" "law" s_law f fd) (n1 : 1 ≤ n) (C_law_pot : Cal P w K mg base 1 "_law_pot" ps_law_pot (spPot K)) (C_law_right : CalG P w K mg base n "_law_right" ps_law_right spRight) : FnG P w K mg base (n + 1) f fd ps_law (spLaw K) := by
  refine okG F sc_law (fun vs H Q E h => ?_) (fun cdv A outer s H vs Q E hr quiet h => ?_)
  · obtain ⟨a, ns, rfl, _⟩ := h
    rfl
  · obtain ⟨a, ns, rfl, hS, hl, k⟩ := h
    have hk1 := n1
    refine ⟨_, (pss_one (ps_ret (pe_callB (cr_all rfl) (by rfl) B.all (by decide +kernel) (pa_cons (pe_lc (own := [("_law_k", 1)]) (by rfl) sc_law.nd (pi_range1 (by rfl) B.range (pa_cons (pe_callB (call_max2 rfl) (by rfl) B.max (by decide +kernel) (pa_cons pe_int (pa_cons (pe_callB (call_min2 rfl) (by rfl) B.min (by decide +kernel) (pa_cons (pe_callB call_len_seq (by rfl) B.len (by decide +kernel) (pa_cons (pv 0) pa_nil)) (pa_cons pe_int pa_nil))) pa_nil))) pa_nil)) (blkOk_by (own := [("_law_k", 1)]) (N := ["_law_script", "_law_k"]) (sc := defScope s_law) (by decide +kernel)) (fun _ _ _ _ _ => pg_name (i := 1) sc_law.nd rfl (.inl rfl)) (fun _ _ _ _ _ => pts_nil) (fun _ _ _ _ _ => (pe_ownG C_law_right hr (Nat.le_refl _) quiet (by rfl) (pa_cons (pe_own C_law_pot hr hk1 (by rfl) (pa_cons (pv 0) (pa_cons (pv 1) pa_nil))) pa_nil)))) pa_nil)))), ?_⟩
    refine ⟨_, rfl, a, _, rfl, .inl hS, _, _, rfl, _, _, rfl, ?_⟩
    rw [List.length_map]
    generalize hm : (if (5 : Int) < (ns.length : Int) then (5 : Int) else (ns.length : Int)) = m
    have m1 : m ≤ 5 := by rw [← hm]; split <;> omega
    refine ⟨_, rfl, by split <;> omega, by split <;> omega, fun D nD => ?_⟩
    refine lc_range (lo := 0) (n := (if m > (2 : Int) then m else 2).toNat) (fun i J => ∃ bs : List Bool, bs.length = i ∧ bs.all id = true ∧ J D = some (.lst (bs.map V.bl)) ∧ Same H J) ⟨[], rfl, rfl, upd_same, same_new nD⟩ ?_ ?_
    · rintro i J hi ⟨bs, rfl, ha, eD, sJ⟩
      have i5 : bs.length < 5 := by
        revert hi
        split <;> omega
      refine ⟨rfl, yes (iteT ⟨_, rfl, _, rfl, a, bs.length, ns, ?_, sJ.seq hS, by omega, fun p G np hp sG => ?_⟩)⟩
      · rw [Int.zero_add]
        rfl
      · refine ⟨p, rfl, hp, fun G2 L => ?_⟩
        have nDp : D ≠ p := ne_of_none eD np
        have gD : G2 D = some (.lst (bs.map V.bl)) := L.keep _ _ (sG _ _ eD) nDp
        refine ⟨_, gD, small1000 (by rw [List.length_map]; omega), bs ++ [true], by rw [List.length_append]; rfl, by rw [List.all_append, ha]; rfl, ?_, fun b o e => ?_⟩
        · rw [upd_same, List.map_append]
          rfl
        · rw [upd_ne (ne_of_none e nD)]
          exact L.keep _ _ (sG _ _ (sJ _ _ e)) (ne_of_none (sJ _ _ e) np)
    · rintro J ⟨bs, el, ha, eD, sJ⟩
      refine ⟨D, bs, rfl, .inl (.inl eD), ?_⟩
      rw [ha]
      exact k J
end
end Gu
namespace Gu
open PySem PySem.Spec PyProof.Rows L2
theorem at_mk {K : PySem.W.Frag} {h : Heap} {mg : Str → Option Value} {x : Str} {st : Stmt} {ps : List Str} {f : Addr} {oc : Value} {od an : Option Addr} {sl : Array (Option Value)} {kV dc pm cd ct : Value} (X : K.In h) (G : h.Ns mainGlobals mg)
    (hb : ∀ (kV doc pm : Value) (an : Option Addr) (cdv ct : Value) (us : List Value), us.length = ps.length → bindArgs (PySem.W.fnOf x x (defArgs st) (defBody st) (defScope st) .none kV doc pm an cdv ct) ⟨us, []⟩ = pure (ps.zip us))
    (a : PySem.W.nsIn K mainGlobals x = some (some (.ref f))) (l : K.lookup f = some ⟨oc, od, .func (PySem.W.fnOf x x (defArgs st) (defBody st) (defScope st) .none kV dc pm an cd ct), sl⟩) (c : PySem.W.codeIn K cd x = true) (k : PySem.W.keepIn K (.ref f) = true) : At K mg x st ps :=
  ⟨f, _, fun_mk l c k, (fun_mk l c k).binds hb, PySem.W.mg_of X G a⟩
theorem cst_mk {K : PySem.W.Frag} {h : Heap} {mg : Str → Option Value} {x : Str} {v : V} {u : Value} (X : K.In h) (G : h.Ns mainGlobals mg) (r : RelV v u) (a : PySem.W.nsIn K mainGlobals x = some (some u)) : ∃ u, mg x = some u ∧ RelV v u := ⟨u, PySem.W.mg_of X G a, r⟩
end Gu
namespace Gu
open PySem PySem.Spec PyProof.Rows L2
theorem fin {P : Program} {w : World} {K : PySem.W.Frag} {mg : Str → Option Value} {base : Heap} {C f : Addr} {fd : FuncData} (B : Bi mg) (Ss : ShC K mg C) (Is : InitAt K C)
    (A_is_integer : At K mg "is_integer" s_is_integer ps_is_integer) (A_is_tuple : At K mg "is_tuple" s_is_tuple ps_is_tuple) (A_is_text : At K mg "is_text" s_is_text ps_is_text) (A_least_raised_at : At K mg "least_raised_at" s_least_raised_at ps_least_raised_at) (A_check_mark : At K mg "check_mark" s_check_mark ps_check_mark) (A_check_row : At K mg "check_row" s_check_row ps_check_row) (A_shortened : At K mg "shortened" s_shortened ps_shortened) (A_planned : At K mg "planned" s_planned ps_planned) (A_telling_lengths : At K mg "telling_lengths" s_telling_lengths ps_telling_lengths) (A_filled_in : At K mg "filled_in" s_filled_in ps_filled_in) (A_differing_places : At K mg "differing_places" s_differing_places ps_differing_places) (A_least_difference : At K mg "least_difference" s_least_difference ps_least_difference) (A_first_difference : At K mg "first_difference" s_first_difference ps_first_difference) (A_check_text : At K mg "check_text" s_check_text ps_check_text) (A_check_length : At K mg "check_length" s_check_length ps_check_length) (A_shown_by : At K mg "shown_by" s_shown_by ps_shown_by) (A_show : At K mg "show" s_show ps_show) (A_plan : At K mg "plan" s_plan ps_plan) (A_widest : At K mg "widest" s_widest ps_widest) (A_first_unlike : At K mg "first_unlike" s_first_unlike ps_first_unlike) (A_are_alike : At K mg "are_alike" s_are_alike ps_are_alike) (A_law_pot : At K mg "_law_pot" s_law_pot ps_law_pot) (A_law_ladle : At K mg "_law_ladle" s_law_ladle ps_law_ladle) (A_law_one_of : At K mg "_law_one_of" s_law_one_of ps_law_one_of) (A_law_told : At K mg "_law_told" s_law_told ps_law_told) (A_law_tolds : At K mg "_law_tolds" s_law_tolds ps_law_tolds) (A_law_made : At K mg "_law_made" s_law_made ps_law_made) (A_law_cut : At K mg "_law_cut" s_law_cut ps_law_cut) (A_law_line : At K mg "_law_line" s_law_line ps_law_line) (A_law_near : At K mg "_law_near" s_law_near ps_law_near) (A_law_right : At K mg "_law_right" s_law_right ps_law_right)
    (F : Fun K "law" "law" s_law f fd) : FnG P w K mg base 7 f fd ps_law (spLaw K) := by
  have c1 : Cal P w K mg base 1 "_law_ladle" ps_law_ladle spLadle := cal_ladle B A_law_ladle
  have c2 : Cal P w K mg base 2 "_law_one_of" ps_law_one_of (spOneOf K) := cal_oneOf B A_law_one_of c1
  have c3 : Cal P w K mg base 3 "_law_told" ps_law_told spTold := cal_told B A_law_told c1 c2
  have c4 : Cal P w K mg base 4 "_law_tolds" ps_law_tolds spTolds := cal_tolds B A_law_tolds c3 c2
  have c5 : Cal P w K mg base 1 "is_integer" ps_is_integer (spIsInteger K) := cal_isInteger B A_is_integer
  have c6 : Cal P w K mg base 1 "is_text" ps_is_text (spIsText K) := cal_isText B A_is_text
  have cmk : Cal P w K mg base 2 "check_mark" ps_check_mark spCheckMark := cal_checkMark B A_check_mark c6
  have m1 : Mak P w K mg base 3 "Shortener" C (spInit C) := mak_sh B Ss Is c5 cmk
  have c7 : Cal P w K mg base 5 "_law_made" ps_law_made (spMade C) := cal_made B A_law_made m1
  have c8 : Cal P w K mg base 1 "_law_cut" ps_law_cut spCut := cal_cut B A_law_cut
  have d1 : Cal P w K mg base 2 "check_row" ps_check_row (spCheckRow C) := cal_checkRow B Ss A_check_row (cal_isTuple B A_is_tuple)
  have d2 : Cal P w K mg base 1 "shortened" ps_shortened (spShortT C) := cal_shortT B Ss A_shortened
  have d3 : Cal P w K mg base 2 "planned" ps_planned (spPlanned C) := cal_planned B Ss A_planned d2
  have d4 : Cal P w K mg base 1 "telling_lengths" ps_telling_lengths spTelling := cal_telling B A_telling_lengths
  have d5 : Cal P w K mg base 1 "filled_in" ps_filled_in (spFilled K) := cal_filled B A_filled_in
  have d6 : Cal P w K mg base 1 "differing_places" ps_differing_places (spDiffP K) := cal_diffP B A_differing_places
  have d7 : Cal P w K mg base 2 "least_difference" ps_least_difference (spLeastD K) := cal_leastD B A_least_difference d5 d6 (cal_raised B A_least_raised_at)
  have d8 : Cal P w K mg base 3 "first_difference" ps_first_difference (spFirstD C) := cal_firstD B A_first_difference d4 d3 d7
  have d9 : Cal P w K mg base 4 "first_unlike" ps_first_unlike (spFirstU C) := cal_firstU B A_first_unlike d1 d8
  have e2 : Cal P w K mg base 5 "are_alike" ps_are_alike (spAlike C) := cal_alike B A_are_alike d9
  have e6 : Cal P w K mg base 5 "_law_near" ps_law_near spNear := cal_near B A_law_near c1 c2 c3 c4
  have g1 : Cal P w K mg base 2 "check_text" ps_check_text spCheckText := cal_checkText B A_check_text c6
  have g2 : Cal P w K mg base 1 "shortened" ps_shortened (spShortS C) := cal_shortS B Ss A_shortened
  have sby : Cal P w K mg base 2 "shown_by" ps_shown_by (spShownBy C) := cal_shownBy B Ss A_shown_by g2
  have g3 : Cal P w K mg base 3 "show" ps_show (spShow C) := cal_show B A_show d1 g1 sby
  have g4 : Cal P w K mg base 2 "check_length" ps_check_length spCheckLength := cal_checkLength B A_check_length c5
  have g5 : Cal P w K mg base 3 "plan" ps_plan (spPlan C) := cal_plan B A_plan d1 g4 d3
  have g6 : Cal P w K mg base 3 "widest" ps_widest (spWidest C) := cal_widest B A_widest d1 d3
  have g8 : Cal P w K mg base 3 "_law_line" ps_law_line spLine := cal_line B A_law_line c2
  have e7 : CalG P w K mg base 6 "_law_right" ps_law_right spRight := cal_right B A_law_right c1 g8 c4 e6 c7 c8 m1 g3 g5 g6 d9 e2
  exact cal_law B F (by decide) (cal_pot B A_law_pot) e7
end Gu
namespace Gu
open PySem PySem.Spec PyProof.Rows L2
theorem all_mk {l : PySem.W.OpenLaw} {w : World} {K : PySem.W.Frag} {h : Heap} {mg : Str → Option Value} {fa : Addr} {f_is_integer : Addr} {oc_is_integer kV_is_integer dc_is_integer pm_is_integer cd_is_integer ct_is_integer : Value} {od_is_integer an_is_integer : Option Addr} {sl_is_integer : Array (Option Value)} {f_is_tuple : Addr} {oc_is_tuple kV_is_tuple dc_is_tuple pm_is_tuple cd_is_tuple ct_is_tuple : Value} {od_is_tuple an_is_tuple : Option Addr} {sl_is_tuple : Array (Option Value)} {f_is_text : Addr} {oc_is_text kV_is_text dc_is_text pm_is_text cd_is_text ct_is_text : Value} {od_is_text an_is_text : Option Addr} {sl_is_text : Array (Option Value)} {f_least_raised_at : Addr} {oc_least_raised_at kV_least_raised_at dc_least_raised_at pm_least_raised_at cd_least_raised_at ct_least_raised_at : Value} {od_least_raised_at an_least_raised_at : Option Addr} {sl_least_raised_at : Array (Option Value)} {f_check_mark : Addr} {oc_check_mark kV_check_mark dc_check_mark pm_check_mark cd_check_mark ct_check_mark : Value} {od_check_mark an_check_mark : Option Addr} {sl_check_mark : Array (Option Value)} {f_check_row : Addr} {oc_check_row kV_check_row dc_check_row pm_check_row cd_check_row ct_check_row : Value} {od_check_row an_check_row : Option Addr} {sl_check_row : Array (Option Value)} {f_shortened : Addr} {oc_shortened kV_shortened dc_shortened pm_shortened cd_shortened ct_shortened : Value} {od_shortened an_shortened : Option Addr} {sl_shortened : Array (Option Value)} {f_planned : Addr} {oc_planned kV_planned dc_planned pm_planned cd_planned ct_planned : Value} {od_planned an_planned : Option Addr} {sl_planned : Array (Option Value)} {f_telling_lengths : Addr} {oc_telling_lengths kV_telling_lengths dc_telling_lengths pm_telling_lengths cd_telling_lengths ct_telling_lengths : Value} {od_telling_lengths an_telling_lengths : Option Addr} {sl_telling_lengths : Array (Option Value)} {f_filled_in : Addr} {oc_filled_in kV_filled_in dc_filled_in pm_filled_in cd_filled_in ct_filled_in : Value} {od_filled_in an_filled_in : Option Addr} {sl_filled_in : Array (Option Value)} {f_differing_places : Addr} {oc_differing_places kV_differing_places dc_differing_places pm_differing_places cd_differing_places ct_differing_places : Value} {od_differing_places an_differing_places : Option Addr} {sl_differing_places : Array (Option Value)} {f_least_difference : Addr} {oc_least_difference kV_least_difference dc_least_difference pm_least_difference cd_least_difference ct_least_difference : Value} {od_least_difference an_least_difference : Option Addr} {sl_least_difference : Array (Option Value)} {f_first_difference : Addr} {oc_first_difference kV_first_difference dc_first_difference pm_first_difference cd_first_difference ct_first_difference : Value} {od_first_difference an_first_difference : Option Addr} {sl_first_difference : Array (Option Value)} {f_check_text : Addr} {oc_check_text kV_check_text dc_check_text pm_check_text cd_check_text ct_check_text : Value} {od_check_text an_check_text : Option Addr} {sl_check_text : Array (Option Value)} {f_check_length : Addr} {oc_check_length kV_check_length dc_check_length pm_check_length cd_check_length ct_check_length : Value} {od_check_length an_check_length : Option Addr} {sl_check_length : Array (Option Value)} {f_shown_by : Addr} {oc_shown_by kV_shown_by dc_shown_by pm_shown_by cd_shown_by ct_shown_by : Value} {od_shown_by an_shown_by : Option Addr} {sl_shown_by : Array (Option Value)} {f_show : Addr} {oc_show kV_show dc_show pm_show cd_show ct_show : Value} {od_show an_show : Option Addr} {sl_show : Array (Option Value)} {f_plan : Addr} {oc_plan kV_plan dc_plan pm_plan cd_plan ct_plan : Value} {od_plan an_plan : Option Addr} {sl_plan : Array (Option Value)} {f_widest : Addr} {oc_widest kV_widest dc_widest pm_widest cd_widest ct_widest : Value} {od_widest an_widest : Option Addr} {sl_widest : Array (Option Value)} {f_first_unlike : Addr} {oc_first_unlike kV_first_unlike dc_first_unlike pm_first_unlike cd_first_unlike ct_first_unlike : Value} {od_first_unlike an_first_unlike : Option Addr} {sl_first_unlike : Array (Option Value)} {f_are_alike : Addr} {oc_are_alike kV_are_alike dc_are_alike pm_are_alike cd_are_alike ct_are_alike : Value} {od_are_alike an_are_alike : Option Addr} {sl_are_alike : Array (Option Value)} {f_law_pot : Addr} {oc_law_pot kV_law_pot dc_law_pot pm_law_pot cd_law_pot ct_law_pot : Value} {od_law_pot an_law_pot : Option Addr} {sl_law_pot : Array (Option Value)} {f_law_ladle : Addr} {oc_law_ladle kV_law_ladle dc_law_ladle pm_law_ladle cd_law_ladle ct_law_ladle : Value} {od_law_ladle an_law_ladle : Option Addr} {sl_law_ladle : Array (Option Value)} {f_law_one_of : Addr} {oc_law_one_of kV_law_one_of dc_law_one_of pm_law_one_of cd_law_one_of ct_law_one_of : Value} {od_law_one_of an_law_one_of : Option Addr} {sl_law_one_of : Array (Option Value)} {f_law_told : Addr} {oc_law_told kV_law_told dc_law_told pm_law_told cd_law_told ct_law_told : Value} {od_law_told an_law_told : Option Addr} {sl_law_told : Array (Option Value)} {f_law_tolds : Addr} {oc_law_tolds kV_law_tolds dc_law_tolds pm_law_tolds cd_law_tolds ct_law_tolds : Value} {od_law_tolds an_law_tolds : Option Addr} {sl_law_tolds : Array (Option Value)} {f_law_made : Addr} {oc_law_made kV_law_made dc_law_made pm_law_made cd_law_made ct_law_made : Value} {od_law_made an_law_made : Option Addr} {sl_law_made : Array (Option Value)} {f_law_cut : Addr} {oc_law_cut kV_law_cut dc_law_cut pm_law_cut cd_law_cut ct_law_cut : Value} {od_law_cut an_law_cut : Option Addr} {sl_law_cut : Array (Option Value)} {f_law_line : Addr} {oc_law_line kV_law_line dc_law_line pm_law_line cd_law_line ct_law_line : Value} {od_law_line an_law_line : Option Addr} {sl_law_line : Array (Option Value)} {f_law_near : Addr} {oc_law_near kV_law_near dc_law_near pm_law_near cd_law_near ct_law_near : Value} {od_law_near an_law_near : Option Addr} {sl_law_near : Array (Option Value)} {f_law_right : Addr} {oc_law_right kV_law_right dc_law_right pm_law_right cd_law_right ct_law_right : Value} {od_law_right an_law_right : Option Addr} {sl_law_right : Array (Option Value)} {f_law : Addr} {oc_law kV_law dc_law pm_law cd_law ct_law : Value} {od_law an_law : Option Addr} {sl_law : Array (Option Value)} {C : Addr} {f_is : Addr} {oc_is kV_is dc_is pm_is cd_is ct_is : Value} {od_is an_is : Option Addr} {sl_is : Array (Option Value)} {u_MOST_SIGNS : Tok} {u_MOST_MARK : Tok} {u_MOST_ROW : Tok} {u_MOST_TEXT : Tok} {u_MOST_LENGTH : Tok} {u_SIGNS : Tok}
    (X : K.In h) (G : h.Ns mainGlobals mg) (hfa : mg "law" = some (.ref fa))
    (a_is_integer : PySem.W.nsIn K mainGlobals "is_integer" = some (some (.ref f_is_integer)))
    (l_is_integer : K.lookup f_is_integer = some ⟨oc_is_integer, od_is_integer, .func (PySem.W.fnOf "is_integer" "is_integer" (defArgs s_is_integer) (defBody s_is_integer) (defScope s_is_integer) .none kV_is_integer dc_is_integer pm_is_integer an_is_integer cd_is_integer ct_is_integer), sl_is_integer⟩)
    (c_is_integer : PySem.W.codeIn K cd_is_integer "is_integer" = true)
    (k_is_integer : PySem.W.keepIn K (.ref f_is_integer) = true)
    (a_is_tuple : PySem.W.nsIn K mainGlobals "is_tuple" = some (some (.ref f_is_tuple)))
    (l_is_tuple : K.lookup f_is_tuple = some ⟨oc_is_tuple, od_is_tuple, .func (PySem.W.fnOf "is_tuple" "is_tuple" (defArgs s_is_tuple) (defBody s_is_tuple) (defScope s_is_tuple) .none kV_is_tuple dc_is_tuple pm_is_tuple an_is_tuple cd_is_tuple ct_is_tuple), sl_is_tuple⟩)
    (c_is_tuple : PySem.W.codeIn K cd_is_tuple "is_tuple" = true)
    (k_is_tuple : PySem.W.keepIn K (.ref f_is_tuple) = true)
    (a_is_text : PySem.W.nsIn K mainGlobals "is_text" = some (some (.ref f_is_text)))
    (l_is_text : K.lookup f_is_text = some ⟨oc_is_text, od_is_text, .func (PySem.W.fnOf "is_text" "is_text" (defArgs s_is_text) (defBody s_is_text) (defScope s_is_text) .none kV_is_text dc_is_text pm_is_text an_is_text cd_is_text ct_is_text), sl_is_text⟩)
    (c_is_text : PySem.W.codeIn K cd_is_text "is_text" = true)
    (k_is_text : PySem.W.keepIn K (.ref f_is_text) = true)
    (a_least_raised_at : PySem.W.nsIn K mainGlobals "least_raised_at" = some (some (.ref f_least_raised_at)))
    (l_least_raised_at : K.lookup f_least_raised_at = some ⟨oc_least_raised_at, od_least_raised_at, .func (PySem.W.fnOf "least_raised_at" "least_raised_at" (defArgs s_least_raised_at) (defBody s_least_raised_at) (defScope s_least_raised_at) .none kV_least_raised_at dc_least_raised_at pm_least_raised_at an_least_raised_at cd_least_raised_at ct_least_raised_at), sl_least_raised_at⟩)
    (c_least_raised_at : PySem.W.codeIn K cd_least_raised_at "least_raised_at" = true)
    (k_least_raised_at : PySem.W.keepIn K (.ref f_least_raised_at) = true)
    (a_check_mark : PySem.W.nsIn K mainGlobals "check_mark" = some (some (.ref f_check_mark)))
    (l_check_mark : K.lookup f_check_mark = some ⟨oc_check_mark, od_check_mark, .func (PySem.W.fnOf "check_mark" "check_mark" (defArgs s_check_mark) (defBody s_check_mark) (defScope s_check_mark) .none kV_check_mark dc_check_mark pm_check_mark an_check_mark cd_check_mark ct_check_mark), sl_check_mark⟩)
    (c_check_mark : PySem.W.codeIn K cd_check_mark "check_mark" = true)
    (k_check_mark : PySem.W.keepIn K (.ref f_check_mark) = true)
    (a_check_row : PySem.W.nsIn K mainGlobals "check_row" = some (some (.ref f_check_row)))
    (l_check_row : K.lookup f_check_row = some ⟨oc_check_row, od_check_row, .func (PySem.W.fnOf "check_row" "check_row" (defArgs s_check_row) (defBody s_check_row) (defScope s_check_row) .none kV_check_row dc_check_row pm_check_row an_check_row cd_check_row ct_check_row), sl_check_row⟩)
    (c_check_row : PySem.W.codeIn K cd_check_row "check_row" = true)
    (k_check_row : PySem.W.keepIn K (.ref f_check_row) = true)
    (a_shortened : PySem.W.nsIn K mainGlobals "shortened" = some (some (.ref f_shortened)))
    (l_shortened : K.lookup f_shortened = some ⟨oc_shortened, od_shortened, .func (PySem.W.fnOf "shortened" "shortened" (defArgs s_shortened) (defBody s_shortened) (defScope s_shortened) .none kV_shortened dc_shortened pm_shortened an_shortened cd_shortened ct_shortened), sl_shortened⟩)
    (c_shortened : PySem.W.codeIn K cd_shortened "shortened" = true)
    (k_shortened : PySem.W.keepIn K (.ref f_shortened) = true)
    (a_planned : PySem.W.nsIn K mainGlobals "planned" = some (some (.ref f_planned)))
    (l_planned : K.lookup f_planned = some ⟨oc_planned, od_planned, .func (PySem.W.fnOf "planned" "planned" (defArgs s_planned) (defBody s_planned) (defScope s_planned) .none kV_planned dc_planned pm_planned an_planned cd_planned ct_planned), sl_planned⟩)
    (c_planned : PySem.W.codeIn K cd_planned "planned" = true)
    (k_planned : PySem.W.keepIn K (.ref f_planned) = true)
    (a_telling_lengths : PySem.W.nsIn K mainGlobals "telling_lengths" = some (some (.ref f_telling_lengths)))
    (l_telling_lengths : K.lookup f_telling_lengths = some ⟨oc_telling_lengths, od_telling_lengths, .func (PySem.W.fnOf "telling_lengths" "telling_lengths" (defArgs s_telling_lengths) (defBody s_telling_lengths) (defScope s_telling_lengths) .none kV_telling_lengths dc_telling_lengths pm_telling_lengths an_telling_lengths cd_telling_lengths ct_telling_lengths), sl_telling_lengths⟩)
    (c_telling_lengths : PySem.W.codeIn K cd_telling_lengths "telling_lengths" = true)
    (k_telling_lengths : PySem.W.keepIn K (.ref f_telling_lengths) = true)
    (a_filled_in : PySem.W.nsIn K mainGlobals "filled_in" = some (some (.ref f_filled_in)))
    (l_filled_in : K.lookup f_filled_in = some ⟨oc_filled_in, od_filled_in, .func (PySem.W.fnOf "filled_in" "filled_in" (defArgs s_filled_in) (defBody s_filled_in) (defScope s_filled_in) .none kV_filled_in dc_filled_in pm_filled_in an_filled_in cd_filled_in ct_filled_in), sl_filled_in⟩)
    (c_filled_in : PySem.W.codeIn K cd_filled_in "filled_in" = true)
    (k_filled_in : PySem.W.keepIn K (.ref f_filled_in) = true)
    (a_differing_places : PySem.W.nsIn K mainGlobals "differing_places" = some (some (.ref f_differing_places)))
    (l_differing_places : K.lookup f_differing_places = some ⟨oc_differing_places, od_differing_places, .func (PySem.W.fnOf "differing_places" "differing_places" (defArgs s_differing_places) (defBody s_differing_places) (defScope s_differing_places) .none kV_differing_places dc_differing_places pm_differing_places an_differing_places cd_differing_places ct_differing_places), sl_differing_places⟩)
    (c_differing_places : PySem.W.codeIn K cd_differing_places "differing_places" = true)
    (k_differing_places : PySem.W.keepIn K (.ref f_differing_places) = true)
    (a_least_difference : PySem.W.nsIn K mainGlobals "least_difference" = some (some (.ref f_least_difference)))
    (l_least_difference : K.lookup f_least_difference = some ⟨oc_least_difference, od_least_difference, .func (PySem.W.fnOf "least_difference" "least_difference" (defArgs s_least_difference) (defBody s_least_difference) (defScope s_least_difference) .none kV_least_difference dc_least_difference pm_least_difference an_least_difference cd_least_difference ct_least_difference), sl_least_difference⟩)
    (c_least_difference : PySem.W.codeIn K cd_least_difference "least_difference" = true)
    (k_least_difference : PySem.W.keepIn K (.ref f_least_difference) = true)
    (a_first_difference : PySem.W.nsIn K mainGlobals "first_difference" = some (some (.ref f_first_difference)))
    (l_first_difference : K.lookup f_first_difference = some ⟨oc_first_difference, od_first_difference, .func (PySem.W.fnOf "first_difference" "first_difference" (defArgs s_first_difference) (defBody s_first_difference) (defScope s_first_difference) .none kV_first_difference dc_first_difference pm_first_difference an_first_difference cd_first_difference ct_first_difference), sl_first_difference⟩)
    (c_first_difference : PySem.W.codeIn K cd_first_difference "first_difference" = true)
    (k_first_difference : PySem.W.keepIn K (.ref f_first_difference) = true)
    (a_check_text : PySem.W.nsIn K mainGlobals "check_text" = some (some (.ref f_check_text)))
    (l_check_text : K.lookup f_check_text = some ⟨oc_check_text, od_check_text, .func (PySem.W.fnOf "check_text" "check_text" (defArgs s_check_text) (defBody s_check_text) (defScope s_check_text) .none kV_check_text dc_check_text pm_check_text an_check_text cd_check_text ct_check_text), sl_check_text⟩)
    (c_check_text : PySem.W.codeIn K cd_check_text "check_text" = true)
    (k_check_text : PySem.W.keepIn K (.ref f_check_text) = true)
    (a_check_length : PySem.W.nsIn K mainGlobals "check_length" = some (some (.ref f_check_length)))
    (l_check_length : K.lookup f_check_length = some ⟨oc_check_length, od_check_length, .func (PySem.W.fnOf "check_length" "check_length" (defArgs s_check_length) (defBody s_check_length) (defScope s_check_length) .none kV_check_length dc_check_length pm_check_length an_check_length cd_check_length ct_check_length), sl_check_length⟩)
    (c_check_length : PySem.W.codeIn K cd_check_length "check_length" = true)
    (k_check_length : PySem.W.keepIn K (.ref f_check_length) = true)
    (a_shown_by : PySem.W.nsIn K mainGlobals "shown_by" = some (some (.ref f_shown_by)))
    (l_shown_by : K.lookup f_shown_by = some ⟨oc_shown_by, od_shown_by, .func (PySem.W.fnOf "shown_by" "shown_by" (defArgs s_shown_by) (defBody s_shown_by) (defScope s_shown_by) .none kV_shown_by dc_shown_by pm_shown_by an_shown_by cd_shown_by ct_shown_by), sl_shown_by⟩)
    (c_shown_by : PySem.W.codeIn K cd_shown_by "shown_by" = true)
    (k_shown_by : PySem.W.keepIn K (.ref f_shown_by) = true)
    (a_show : PySem.W.nsIn K mainGlobals "show" = some (some (.ref f_show)))
    (l_show : K.lookup f_show = some ⟨oc_show, od_show, .func (PySem.W.fnOf "show" "show" (defArgs s_show) (defBody s_show) (defScope s_show) .none kV_show dc_show pm_show an_show cd_show ct_show), sl_show⟩)
    (c_show : PySem.W.codeIn K cd_show "show" = true)
    (k_show : PySem.W.keepIn K (.ref f_show) = true)
    (a_plan : PySem.W.nsIn K mainGlobals "plan" = some (some (.ref f_plan)))
    (l_plan : K.lookup f_plan = some ⟨oc_plan, od_plan, .func (PySem.W.fnOf "plan" "plan" (defArgs s_plan) (defBody s_plan) (defScope s_plan) .none kV_plan dc_plan pm_plan an_plan cd_plan ct_plan), sl_plan⟩)
    (c_plan : PySem.W.codeIn K cd_plan "plan" = true)
    (k_plan : PySem.W.keepIn K (.ref f_plan) = true)
    (a_widest : PySem.W.nsIn K mainGlobals "widest" = some (some (.ref f_widest)))
    (l_widest : K.lookup f_widest = some ⟨oc_widest, od_widest, .func (PySem.W.fnOf "widest" "widest" (defArgs s_widest) (defBody s_widest) (defScope s_widest) .none kV_widest dc_widest pm_widest an_widest cd_widest ct_widest), sl_widest⟩)
    (c_widest : PySem.W.codeIn K cd_widest "widest" = true)
    (k_widest : PySem.W.keepIn K (.ref f_widest) = true)
    (a_first_unlike : PySem.W.nsIn K mainGlobals "first_unlike" = some (some (.ref f_first_unlike)))
    (l_first_unlike : K.lookup f_first_unlike = some ⟨oc_first_unlike, od_first_unlike, .func (PySem.W.fnOf "first_unlike" "first_unlike" (defArgs s_first_unlike) (defBody s_first_unlike) (defScope s_first_unlike) .none kV_first_unlike dc_first_unlike pm_first_unlike an_first_unlike cd_first_unlike ct_first_unlike), sl_first_unlike⟩)
    (c_first_unlike : PySem.W.codeIn K cd_first_unlike "first_unlike" = true)
    (k_first_unlike : PySem.W.keepIn K (.ref f_first_unlike) = true)
    (a_are_alike : PySem.W.nsIn K mainGlobals "are_alike" = some (some (.ref f_are_alike)))
    (l_are_alike : K.lookup f_are_alike = some ⟨oc_are_alike, od_are_alike, .func (PySem.W.fnOf "are_alike" "are_alike" (defArgs s_are_alike) (defBody s_are_alike) (defScope s_are_alike) .none kV_are_alike dc_are_alike pm_are_alike an_are_alike cd_are_alike ct_are_alike), sl_are_alike⟩)
    (c_are_alike : PySem.W.codeIn K cd_are_alike "are_alike" = true)
    (k_are_alike : PySem.W.keepIn K (.ref f_are_alike) = true)
    (a_law_pot : PySem.W.nsIn K mainGlobals "_law_pot" = some (some (.ref f_law_pot)))
    (l_law_pot : K.lookup f_law_pot = some ⟨oc_law_pot, od_law_pot, .func (PySem.W.fnOf "_law_pot" "_law_pot" (defArgs s_law_pot) (defBody s_law_pot) (defScope s_law_pot) .none kV_law_pot dc_law_pot pm_law_pot an_law_pot cd_law_pot ct_law_pot), sl_law_pot⟩)
    (c_law_pot : PySem.W.codeIn K cd_law_pot "_law_pot" = true)
    (k_law_pot : PySem.W.keepIn K (.ref f_law_pot) = true)
    (a_law_ladle : PySem.W.nsIn K mainGlobals "_law_ladle" = some (some (.ref f_law_ladle)))
    (l_law_ladle : K.lookup f_law_ladle = some ⟨oc_law_ladle, od_law_ladle, .func (PySem.W.fnOf "_law_ladle" "_law_ladle" (defArgs s_law_ladle) (defBody s_law_ladle) (defScope s_law_ladle) .none kV_law_ladle dc_law_ladle pm_law_ladle an_law_ladle cd_law_ladle ct_law_ladle), sl_law_ladle⟩)
    (c_law_ladle : PySem.W.codeIn K cd_law_ladle "_law_ladle" = true)
    (k_law_ladle : PySem.W.keepIn K (.ref f_law_ladle) = true)
    (a_law_one_of : PySem.W.nsIn K mainGlobals "_law_one_of" = some (some (.ref f_law_one_of)))
    (l_law_one_of : K.lookup f_law_one_of = some ⟨oc_law_one_of, od_law_one_of, .func (PySem.W.fnOf "_law_one_of" "_law_one_of" (defArgs s_law_one_of) (defBody s_law_one_of) (defScope s_law_one_of) .none kV_law_one_of dc_law_one_of pm_law_one_of an_law_one_of cd_law_one_of ct_law_one_of), sl_law_one_of⟩)
    (c_law_one_of : PySem.W.codeIn K cd_law_one_of "_law_one_of" = true)
    (k_law_one_of : PySem.W.keepIn K (.ref f_law_one_of) = true)
    (a_law_told : PySem.W.nsIn K mainGlobals "_law_told" = some (some (.ref f_law_told)))
    (l_law_told : K.lookup f_law_told = some ⟨oc_law_told, od_law_told, .func (PySem.W.fnOf "_law_told" "_law_told" (defArgs s_law_told) (defBody s_law_told) (defScope s_law_told) .none kV_law_told dc_law_told pm_law_told an_law_told cd_law_told ct_law_told), sl_law_told⟩)
    (c_law_told : PySem.W.codeIn K cd_law_told "_law_told" = true)
    (k_law_told : PySem.W.keepIn K (.ref f_law_told) = true)
    (a_law_tolds : PySem.W.nsIn K mainGlobals "_law_tolds" = some (some (.ref f_law_tolds)))
    (l_law_tolds : K.lookup f_law_tolds = some ⟨oc_law_tolds, od_law_tolds, .func (PySem.W.fnOf "_law_tolds" "_law_tolds" (defArgs s_law_tolds) (defBody s_law_tolds) (defScope s_law_tolds) .none kV_law_tolds dc_law_tolds pm_law_tolds an_law_tolds cd_law_tolds ct_law_tolds), sl_law_tolds⟩)
    (c_law_tolds : PySem.W.codeIn K cd_law_tolds "_law_tolds" = true)
    (k_law_tolds : PySem.W.keepIn K (.ref f_law_tolds) = true)
    (a_law_made : PySem.W.nsIn K mainGlobals "_law_made" = some (some (.ref f_law_made)))
    (l_law_made : K.lookup f_law_made = some ⟨oc_law_made, od_law_made, .func (PySem.W.fnOf "_law_made" "_law_made" (defArgs s_law_made) (defBody s_law_made) (defScope s_law_made) .none kV_law_made dc_law_made pm_law_made an_law_made cd_law_made ct_law_made), sl_law_made⟩)
    (c_law_made : PySem.W.codeIn K cd_law_made "_law_made" = true)
    (k_law_made : PySem.W.keepIn K (.ref f_law_made) = true)
    (a_law_cut : PySem.W.nsIn K mainGlobals "_law_cut" = some (some (.ref f_law_cut)))
    (l_law_cut : K.lookup f_law_cut = some ⟨oc_law_cut, od_law_cut, .func (PySem.W.fnOf "_law_cut" "_law_cut" (defArgs s_law_cut) (defBody s_law_cut) (defScope s_law_cut) .none kV_law_cut dc_law_cut pm_law_cut an_law_cut cd_law_cut ct_law_cut), sl_law_cut⟩)
    (c_law_cut : PySem.W.codeIn K cd_law_cut "_law_cut" = true)
    (k_law_cut : PySem.W.keepIn K (.ref f_law_cut) = true)
    (a_law_line : PySem.W.nsIn K mainGlobals "_law_line" = some (some (.ref f_law_line)))
    (l_law_line : K.lookup f_law_line = some ⟨oc_law_line, od_law_line, .func (PySem.W.fnOf "_law_line" "_law_line" (defArgs s_law_line) (defBody s_law_line) (defScope s_law_line) .none kV_law_line dc_law_line pm_law_line an_law_line cd_law_line ct_law_line), sl_law_line⟩)
    (c_law_line : PySem.W.codeIn K cd_law_line "_law_line" = true)
    (k_law_line : PySem.W.keepIn K (.ref f_law_line) = true)
    (a_law_near : PySem.W.nsIn K mainGlobals "_law_near" = some (some (.ref f_law_near)))
    (l_law_near : K.lookup f_law_near = some ⟨oc_law_near, od_law_near, .func (PySem.W.fnOf "_law_near" "_law_near" (defArgs s_law_near) (defBody s_law_near) (defScope s_law_near) .none kV_law_near dc_law_near pm_law_near an_law_near cd_law_near ct_law_near), sl_law_near⟩)
    (c_law_near : PySem.W.codeIn K cd_law_near "_law_near" = true)
    (k_law_near : PySem.W.keepIn K (.ref f_law_near) = true)
    (a_law_right : PySem.W.nsIn K mainGlobals "_law_right" = some (some (.ref f_law_right)))
    (l_law_right : K.lookup f_law_right = some ⟨oc_law_right, od_law_right, .func (PySem.W.fnOf "_law_right" "_law_right" (defArgs s_law_right) (defBody s_law_right) (defScope s_law_right) .none kV_law_right dc_law_right pm_law_right an_law_right cd_law_right ct_law_right), sl_law_right⟩)
    (c_law_right : PySem.W.codeIn K cd_law_right "_law_right" = true)
    (k_law_right : PySem.W.keepIn K (.ref f_law_right) = true)
    (a_law : PySem.W.nsIn K mainGlobals "law" = some (some (.ref f_law)))
    (l_law : K.lookup f_law = some ⟨oc_law, od_law, .func (PySem.W.fnOf "law" "law" (defArgs s_law) (defBody s_law) (defScope s_law) .none kV_law dc_law pm_law an_law cd_law ct_law), sl_law⟩)
    (c_law : PySem.W.codeIn K cd_law "law" = true)
    (k_law : PySem.W.keepIn K (.ref f_law) = true)
    (qn : PySem.W.specialIn K (.builtin "object.__class__") "__get__" = some (some (.builtin "getset_descriptor.__get__")))
    (qt : PySem.W.takesIn K (.builtin "object.__class__") = some true)
    (asC : PySem.W.nsIn K mainGlobals "Shortener" = some (some (.ref C)))
    (a_is : PySem.W.findIn K (.ref C) "__init__" = some (some (.ref f_is)))
    (l_is : K.lookup f_is = some ⟨oc_is, od_is, .func (PySem.W.fnOf "__init__" "Shortener.__init__" (defArgs s_Shortener_init) (defBody s_Shortener_init) (defScope s_Shortener_init) .none kV_is dc_is pm_is an_is cd_is ct_is), sl_is⟩)
    (c_is : PySem.W.codeIn K cd_is "Shortener.__init__" = true)
    (k_is : PySem.W.keepIn K (.ref f_is) = true)
    (i_is : PySem.W.isFn K (.ref f_is) = true)
    (pgs : PySem.W.plainGet K C Str.empty = true)
    (hds : PySem.W.hasDictIn K C = true)
    (pos : PySem.W.plainOver K C = true)
    (sas : PySem.W.findIn K (.ref C) "__setattr__" = some (some (.builtin "object.__setattr__")))
    (mksC : PySem.W.makesIn K C = true)
    (ksC : PySem.W.keepIn K (.ref C) = true)
    (ns_limit : PySem.W.findIn K (.ref C) "limit" = some none)
    (ns_head : PySem.W.findIn K (.ref C) "head" = some none)
    (ns_tail : PySem.W.findIn K (.ref C) "tail" = some none)
    (ns_mark : PySem.W.findIn K (.ref C) "mark" = some none)
    (ns_told : PySem.W.findIn K (.ref C) "told" = some none)
    (qas : PySem.W.findIn K (.ref C) "__class__" = some (some (.builtin "object.__class__")))
    (qms : PySem.W.mroIn K C (.type "object") = some true)
    (z_ValueError : PySem.W.nsIn K mainGlobals "ValueError" = some none)
    (z_abs : PySem.W.nsIn K mainGlobals "abs" = some none)
    (z_all : PySem.W.nsIn K mainGlobals "all" = some none)
    (z_bool : PySem.W.nsIn K mainGlobals "bool" = some none)
    (z_divmod : PySem.W.nsIn K mainGlobals "divmod" = some none)
    (z_enumerate : PySem.W.nsIn K mainGlobals "enumerate" = some none)
    (z_int : PySem.W.nsIn K mainGlobals "int" = some none)
    (z_isinstance : PySem.W.nsIn K mainGlobals "isinstance" = some none)
    (z_len : PySem.W.nsIn K mainGlobals "len" = some none)
    (z_list : PySem.W.nsIn K mainGlobals "list" = some none)
    (z_max : PySem.W.nsIn K mainGlobals "max" = some none)
    (z_min : PySem.W.nsIn K mainGlobals "min" = some none)
    (z_range : PySem.W.nsIn K mainGlobals "range" = some none)
    (z_str : PySem.W.nsIn K mainGlobals "str" = some none)
    (z_tuple : PySem.W.nsIn K mainGlobals "tuple" = some none)
    (z_zip : PySem.W.nsIn K mainGlobals "zip" = some none)
    (z_MOST_SIGNS : PySem.W.nsIn K mainGlobals "MOST_SIGNS" = some (some (.int 40 u_MOST_SIGNS)))
    (z_MOST_MARK : PySem.W.nsIn K mainGlobals "MOST_MARK" = some (some (.int 3 u_MOST_MARK)))
    (z_MOST_ROW : PySem.W.nsIn K mainGlobals "MOST_ROW" = some (some (.int 4 u_MOST_ROW)))
    (z_MOST_TEXT : PySem.W.nsIn K mainGlobals "MOST_TEXT" = some (some (.int 200 u_MOST_TEXT)))
    (z_MOST_LENGTH : PySem.W.nsIn K mainGlobals "MOST_LENGTH" = some (some (.int 500 u_MOST_LENGTH)))
    (z_SIGNS : PySem.W.nsIn K mainGlobals "SIGNS" = some (some (.str ".0123456789abcdefghijklmnopqrstuvwxyz~" u_SIGNS))) :
    ∃ fd : FuncData, (∀ (s : Shared) (v : Value), BindsTo s fd ⟨[v], []⟩ [("_law_script", v)]) ∧ ∀ base : Heap, K.In base → base.Ns mainGlobals mg → FnG l.prog w K mg base 7 fa fd ["_law_script"] (spLaw K) := by
  have e := hfa.symm.trans (PySem.W.mg_of X G a_law)
  cases e
  have B : Bi mg := ⟨PySem.W.mg_none_of X G z_ValueError, PySem.W.mg_none_of X G z_abs, PySem.W.mg_none_of X G z_all, PySem.W.mg_none_of X G z_bool, PySem.W.mg_none_of X G z_divmod, PySem.W.mg_none_of X G z_enumerate, PySem.W.mg_none_of X G z_int, PySem.W.mg_none_of X G z_isinstance, PySem.W.mg_none_of X G z_len, PySem.W.mg_none_of X G z_list, PySem.W.mg_none_of X G z_max, PySem.W.mg_none_of X G z_min, PySem.W.mg_none_of X G z_range, PySem.W.mg_none_of X G z_str, PySem.W.mg_none_of X G z_tuple, PySem.W.mg_none_of X G z_zip, cst_mk X G ⟨_, rfl⟩ z_MOST_SIGNS, cst_mk X G ⟨_, rfl⟩ z_MOST_MARK, cst_mk X G ⟨_, rfl⟩ z_MOST_ROW, cst_mk X G ⟨_, rfl⟩ z_MOST_TEXT, cst_mk X G ⟨_, rfl⟩ z_MOST_LENGTH, cst_mk X G ⟨_, rfl⟩ z_SIGNS⟩
  have Ss : ShC K mg C := ⟨⟨pgs, hds, pos, sas⟩, ns_limit, ns_head, ns_tail, ns_mark, ns_told, PySem.W.mg_of X G asC, qas, qn, qt, qms, if_pos (beq_self_eq_true _)⟩
  have Is : InitAt K C := ⟨f_is, _, ⟨mksC, a_is, i_is, ksC⟩, fun_mk l_is c_is k_is, (fun_mk l_is c_is k_is).binds fun _ _ _ _ _ _ us hl => match us, hl with | [_, _, _, _, _], _ => rfl⟩
  have A_is_integer : At K mg "is_integer" s_is_integer ps_is_integer := at_mk X G (fun _ _ _ _ _ _ us hl => match us, hl with | [_, _, _], _ => rfl) a_is_integer l_is_integer c_is_integer k_is_integer
  have A_is_tuple : At K mg "is_tuple" s_is_tuple ps_is_tuple := at_mk X G (fun _ _ _ _ _ _ us hl => match us, hl with | [_, _, _], _ => rfl) a_is_tuple l_is_tuple c_is_tuple k_is_tuple
  have A_is_text : At K mg "is_text" s_is_text ps_is_text := at_mk X G (fun _ _ _ _ _ _ us hl => match us, hl with | [_, _], _ => rfl) a_is_text l_is_text c_is_text k_is_text
  have A_least_raised_at : At K mg "least_raised_at" s_least_raised_at ps_least_raised_at := at_mk X G (fun _ _ _ _ _ _ us hl => match us, hl with | [_, _], _ => rfl) a_least_raised_at l_least_raised_at c_least_raised_at k_least_raised_at
  have A_check_mark : At K mg "check_mark" s_check_mark ps_check_mark := at_mk X G (fun _ _ _ _ _ _ us hl => match us, hl with | [_], _ => rfl) a_check_mark l_check_mark c_check_mark k_check_mark
  have A_check_row : At K mg "check_row" s_check_row ps_check_row := at_mk X G (fun _ _ _ _ _ _ us hl => match us, hl with | [_], _ => rfl) a_check_row l_check_row c_check_row k_check_row
  have A_shortened : At K mg "shortened" s_shortened ps_shortened := at_mk X G (fun _ _ _ _ _ _ us hl => match us, hl with | [_, _, _], _ => rfl) a_shortened l_shortened c_shortened k_shortened
  have A_planned : At K mg "planned" s_planned ps_planned := at_mk X G (fun _ _ _ _ _ _ us hl => match us, hl with | [_, _], _ => rfl) a_planned l_planned c_planned k_planned
  have A_telling_lengths : At K mg "telling_lengths" s_telling_lengths ps_telling_lengths := at_mk X G (fun _ _ _ _ _ _ us hl => match us, hl with | [], _ => rfl) a_telling_lengths l_telling_lengths c_telling_lengths k_telling_lengths
  have A_filled_in : At K mg "filled_in" s_filled_in ps_filled_in := at_mk X G (fun _ _ _ _ _ _ us hl => match us, hl with | [_, _], _ => rfl) a_filled_in l_filled_in c_filled_in k_filled_in
  have A_differing_places : At K mg "differing_places" s_differing_places ps_differing_places := at_mk X G (fun _ _ _ _ _ _ us hl => match us, hl with | [_, _], _ => rfl) a_differing_places l_differing_places c_differing_places k_differing_places
  have A_least_difference : At K mg "least_difference" s_least_difference ps_least_difference := at_mk X G (fun _ _ _ _ _ _ us hl => match us, hl with | [_, _, _], _ => rfl) a_least_difference l_least_difference c_least_difference k_least_difference
  have A_first_difference : At K mg "first_difference" s_first_difference ps_first_difference := at_mk X G (fun _ _ _ _ _ _ us hl => match us, hl with | [_, _], _ => rfl) a_first_difference l_first_difference c_first_difference k_first_difference
  have A_check_text : At K mg "check_text" s_check_text ps_check_text := at_mk X G (fun _ _ _ _ _ _ us hl => match us, hl with | [_], _ => rfl) a_check_text l_check_text c_check_text k_check_text
  have A_check_length : At K mg "check_length" s_check_length ps_check_length := at_mk X G (fun _ _ _ _ _ _ us hl => match us, hl with | [_], _ => rfl) a_check_length l_check_length c_check_length k_check_length
  have A_shown_by : At K mg "shown_by" s_shown_by ps_shown_by := at_mk X G (fun _ _ _ _ _ _ us hl => match us, hl with | [_, _], _ => rfl) a_shown_by l_shown_by c_shown_by k_shown_by
  have A_show : At K mg "show" s_show ps_show := at_mk X G (fun _ _ _ _ _ _ us hl => match us, hl with | [_, _], _ => rfl) a_show l_show c_show k_show
  have A_plan : At K mg "plan" s_plan ps_plan := at_mk X G (fun _ _ _ _ _ _ us hl => match us, hl with | [_, _], _ => rfl) a_plan l_plan c_plan k_plan
  have A_widest : At K mg "widest" s_widest ps_widest := at_mk X G (fun _ _ _ _ _ _ us hl => match us, hl with | [_], _ => rfl) a_widest l_widest c_widest k_widest
  have A_first_unlike : At K mg "first_unlike" s_first_unlike ps_first_unlike := at_mk X G (fun _ _ _ _ _ _ us hl => match us, hl with | [_, _], _ => rfl) a_first_unlike l_first_unlike c_first_unlike k_first_unlike
  have A_are_alike : At K mg "are_alike" s_are_alike ps_are_alike := at_mk X G (fun _ _ _ _ _ _ us hl => match us, hl with | [_, _], _ => rfl) a_are_alike l_are_alike c_are_alike k_are_alike
  have A_law_pot : At K mg "_law_pot" s_law_pot ps_law_pot := at_mk X G (fun _ _ _ _ _ _ us hl => match us, hl with | [_, _], _ => rfl) a_law_pot l_law_pot c_law_pot k_law_pot
  have A_law_ladle : At K mg "_law_ladle" s_law_ladle ps_law_ladle := at_mk X G (fun _ _ _ _ _ _ us hl => match us, hl with | [_, _], _ => rfl) a_law_ladle l_law_ladle c_law_ladle k_law_ladle
  have A_law_one_of : At K mg "_law_one_of" s_law_one_of ps_law_one_of := at_mk X G (fun _ _ _ _ _ _ us hl => match us, hl with | [_, _], _ => rfl) a_law_one_of l_law_one_of c_law_one_of k_law_one_of
  have A_law_told : At K mg "_law_told" s_law_told ps_law_told := at_mk X G (fun _ _ _ _ _ _ us hl => match us, hl with | [_], _ => rfl) a_law_told l_law_told c_law_told k_law_told
  have A_law_tolds : At K mg "_law_tolds" s_law_tolds ps_law_tolds := at_mk X G (fun _ _ _ _ _ _ us hl => match us, hl with | [_], _ => rfl) a_law_tolds l_law_tolds c_law_tolds k_law_tolds
  have A_law_made : At K mg "_law_made" s_law_made ps_law_made := at_mk X G (fun _ _ _ _ _ _ us hl => match us, hl with | [_], _ => rfl) a_law_made l_law_made c_law_made k_law_made
  have A_law_cut : At K mg "_law_cut" s_law_cut ps_law_cut := at_mk X G (fun _ _ _ _ _ _ us hl => match us, hl with | [_, _], _ => rfl) a_law_cut l_law_cut c_law_cut k_law_cut
  have A_law_line : At K mg "_law_line" s_law_line ps_law_line := at_mk X G (fun _ _ _ _ _ _ us hl => match us, hl with | [_, _], _ => rfl) a_law_line l_law_line c_law_line k_law_line
  have A_law_near : At K mg "_law_near" s_law_near ps_law_near := at_mk X G (fun _ _ _ _ _ _ us hl => match us, hl with | [_, _], _ => rfl) a_law_near l_law_near c_law_near k_law_near
  have A_law_right : At K mg "_law_right" s_law_right ps_law_right := at_mk X G (fun _ _ _ _ _ _ us hl => match us, hl with | [_], _ => rfl) a_law_right l_law_right c_law_right k_law_right
  exact ⟨_, fun s v => .of_eq rfl, fun base _ _ => fin B Ss Is A_is_integer A_is_tuple A_is_text A_least_raised_at A_check_mark A_check_row A_shortened A_planned A_telling_lengths A_filled_in A_differing_places A_least_difference A_first_difference A_check_text A_check_length A_shown_by A_show A_plan A_widest A_first_unlike A_are_alike A_law_pot A_law_ladle A_law_one_of A_law_told A_law_tolds A_law_made A_law_cut A_law_line A_law_near A_law_right (fun_mk l_law c_law k_law)⟩
end Gu
open PySem PySem.W PyProof.Rows
set_option maxHeartbeats 0 in
theorem PySem.Challenge.cw_shownshort_k11_whole_rows_behind_one_ano_holds : PySem.Challenge.rw_shownshort_k11_whole_rows_behind_one_ano.Holds := by
  w_on; o_law; k_head; (case hw => w_witness2)
  k_fill
  refine Gu.walkG (l := PySem.Challenge.rw_shownshort_k11_whole_rows_behind_one_ano) (n := 63) (k := 7) (x := "_law_script") (sp := Gu.spLaw) rfl (by decide) rfl ⟨rfl, by decide, by decide⟩ (fun w h Y => PySem.W.kIn_of Y) ?F (fun _ _ a ns hl hS => ⟨a, ns, rfl, hS, hl, fun _ => rfl⟩)
  case F =>
    intro w mg fa h KX G hmg
    refine' Gu.all_mk KX G hmg ?a_is_integer ?l_is_integer ?c_is_integer ?k_is_integer ?a_is_tuple ?l_is_tuple ?c_is_tuple ?k_is_tuple ?a_is_text ?l_is_text ?c_is_text ?k_is_text ?a_least_raised_at ?l_least_raised_at ?c_least_raised_at ?k_least_raised_at ?a_check_mark ?l_check_mark ?c_check_mark ?k_check_mark ?a_check_row ?l_check_row ?c_check_row ?k_check_row ?a_shortened ?l_shortened ?c_shortened ?k_shortened ?a_planned ?l_planned ?c_planned ?k_planned ?a_telling_lengths ?l_telling_lengths ?c_telling_lengths ?k_telling_lengths ?a_filled_in ?l_filled_in ?c_filled_in ?k_filled_in ?a_differing_places ?l_differing_places ?c_differing_places ?k_differing_places ?a_least_difference ?l_least_difference ?c_least_difference ?k_least_difference ?a_first_difference ?l_first_difference ?c_first_difference ?k_first_difference ?a_check_text ?l_check_text ?c_check_text ?k_check_text ?a_check_length ?l_check_length ?c_check_length ?k_check_length ?a_shown_by ?l_shown_by ?c_shown_by ?k_shown_by ?a_show ?l_show ?c_show ?k_show ?a_plan ?l_plan ?c_plan ?k_plan ?a_widest ?l_widest ?c_widest ?k_widest ?a_first_unlike ?l_first_unlike ?c_first_unlike ?k_first_unlike ?a_are_alike ?l_are_alike ?c_are_alike ?k_are_alike ?a_law_pot ?l_law_pot ?c_law_pot ?k_law_pot ?a_law_ladle ?l_law_ladle ?c_law_ladle ?k_law_ladle ?a_law_one_of ?l_law_one_of ?c_law_one_of ?k_law_one_of ?a_law_told ?l_law_told ?c_law_told ?k_law_told ?a_law_tolds ?l_law_tolds ?c_law_tolds ?k_law_tolds ?a_law_made ?l_law_made ?c_law_made ?k_law_made ?a_law_cut ?l_law_cut ?c_law_cut ?k_law_cut ?a_law_line ?l_law_line ?c_law_line ?k_law_line ?a_law_near ?l_law_near ?c_law_near ?k_law_near ?a_law_right ?l_law_right ?c_law_right ?k_law_right ?a_law ?l_law ?c_law ?k_law ?qn ?qt ?asC ?a_is ?l_is ?c_is ?k_is ?i_is ?pgs ?hds ?pos ?sas ?mksC ?ksC ?ns_limit ?ns_head ?ns_tail ?ns_mark ?ns_told ?qas ?qms ?z_ValueError ?z_abs ?z_all ?z_bool ?z_divmod ?z_enumerate ?z_int ?z_isinstance ?z_len ?z_list ?z_max ?z_min ?z_range ?z_str ?z_tuple ?z_zip ?z_MOST_SIGNS ?z_MOST_MARK ?z_MOST_ROW ?z_MOST_TEXT ?z_MOST_LENGTH ?z_SIGNS
    (case a_is_integer => k_is)
    (case l_is_integer => k_is)
    (case c_is_integer => k_is)
    (case k_is_integer => k_is)
    (case a_is_tuple => k_is)
    (case l_is_tuple => k_is)
    (case c_is_tuple => k_is)
    (case k_is_tuple => k_is)
    (case a_is_text => k_is)
    (case l_is_text => k_is)
    (case c_is_text => k_is)
    (case k_is_text => k_is)
    (case a_least_raised_at => k_is)
    (case l_least_raised_at => k_is)
    (case c_least_raised_at => k_is)
    (case k_least_raised_at => k_is)
    (case a_check_mark => k_is)
    (case l_check_mark => k_is)
    (case c_check_mark => k_is)
    (case k_check_mark => k_is)
    (case a_check_row => k_is)
    (case l_check_row => k_is)
    (case c_check_row => k_is)
    (case k_check_row => k_is)
    (case a_shortened => k_is)
    (case l_shortened => k_is)
    (case c_shortened => k_is)
    (case k_shortened => k_is)
    (case a_planned => k_is)
    (case l_planned => k_is)
    (case c_planned => k_is)
    (case k_planned => k_is)
    (case a_telling_lengths => k_is)
    (case l_telling_lengths => k_is)
    (case c_telling_lengths => k_is)
    (case k_telling_lengths => k_is)
    (case a_filled_in => k_is)
    (case l_filled_in => k_is)
    (case c_filled_in => k_is)
    (case k_filled_in => k_is)
    (case a_differing_places => k_is)
    (case l_differing_places => k_is)
    (case c_differing_places => k_is)
    (case k_differing_places => k_is)
    (case a_least_difference => k_is)
    (case l_least_difference => k_is)
    (case c_least_difference => k_is)
    (case k_least_difference => k_is)
    (case a_first_difference => k_is)
    (case l_first_difference => k_is)
    (case c_first_difference => k_is)
    (case k_first_difference => k_is)
    (case a_check_text => k_is)
    (case l_check_text => k_is)
    (case c_check_text => k_is)
    (case k_check_text => k_is)
    (case a_check_length => k_is)
    (case l_check_length => k_is)
    (case c_check_length => k_is)
    (case k_check_length => k_is)
    (case a_shown_by => k_is)
    (case l_shown_by => k_is)
    (case c_shown_by => k_is)
    (case k_shown_by => k_is)
    (case a_show => k_is)
    (case l_show => k_is)
    (case c_show => k_is)
    (case k_show => k_is)
    (case a_plan => k_is)
    (case l_plan => k_is)
    (case c_plan => k_is)
    (case k_plan => k_is)
    (case a_widest => k_is)
    (case l_widest => k_is)
    (case c_widest => k_is)
    (case k_widest => k_is)
    (case a_first_unlike => k_is)
    (case l_first_unlike => k_is)
    (case c_first_unlike => k_is)
    (case k_first_unlike => k_is)
    (case a_are_alike => k_is)
    (case l_are_alike => k_is)
    (case c_are_alike => k_is)
    (case k_are_alike => k_is)
    (case a_law_pot => k_is)
    (case l_law_pot => k_is)
    (case c_law_pot => k_is)
    (case k_law_pot => k_is)
    (case a_law_ladle => k_is)
    (case l_law_ladle => k_is)
    (case c_law_ladle => k_is)
    (case k_law_ladle => k_is)
    (case a_law_one_of => k_is)
    (case l_law_one_of => k_is)
    (case c_law_one_of => k_is)
    (case k_law_one_of => k_is)
    (case a_law_told => k_is)
    (case l_law_told => k_is)
    (case c_law_told => k_is)
    (case k_law_told => k_is)
    (case a_law_tolds => k_is)
    (case l_law_tolds => k_is)
    (case c_law_tolds => k_is)
    (case k_law_tolds => k_is)
    (case a_law_made => k_is)
    (case l_law_made => k_is)
    (case c_law_made => k_is)
    (case k_law_made => k_is)
    (case a_law_cut => k_is)
    (case l_law_cut => k_is)
    (case c_law_cut => k_is)
    (case k_law_cut => k_is)
    (case a_law_line => k_is)
    (case l_law_line => k_is)
    (case c_law_line => k_is)
    (case k_law_line => k_is)
    (case a_law_near => k_is)
    (case l_law_near => k_is)
    (case c_law_near => k_is)
    (case k_law_near => k_is)
    (case a_law_right => k_is)
    (case l_law_right => k_is)
    (case c_law_right => k_is)
    (case k_law_right => k_is)
    (case a_law => k_is)
    (case l_law => k_is)
    (case c_law => k_is)
    (case k_law => k_is)
    (case qn => k_is)
    (case qt => k_is)
    (case asC => k_is)
    (case a_is => k_is)
    (case l_is => k_is)
    (case c_is => k_is)
    (case k_is => k_is)
    (case i_is => k_is)
    (case pgs => k_is)
    (case hds => k_is)
    (case pos => k_is)
    (case sas => k_is)
    (case mksC => k_is)
    (case ksC => k_is)
    (case ns_limit => k_is)
    (case ns_head => k_is)
    (case ns_tail => k_is)
    (case ns_mark => k_is)
    (case ns_told => k_is)
    (case qas => k_is)
    (case qms => k_is)
    (case z_ValueError => k_is)
    (case z_abs => k_is)
    (case z_all => k_is)
    (case z_bool => k_is)
    (case z_divmod => k_is)
    (case z_enumerate => k_is)
    (case z_int => k_is)
    (case z_isinstance => k_is)
    (case z_len => k_is)
    (case z_list => k_is)
    (case z_max => k_is)
    (case z_min => k_is)
    (case z_range => k_is)
    (case z_str => k_is)
    (case z_tuple => k_is)
    (case z_zip => k_is)
    (case z_MOST_SIGNS => k_is)
    (case z_MOST_MARK => k_is)
    (case z_MOST_ROW => k_is)
    (case z_MOST_TEXT => k_is)
    (case z_MOST_LENGTH => k_is)
    (case z_SIGNS => k_is)
