import PyProof.Rows.All
import Wide.All
import OpenK.AllK
import Wide.FinOn
import HandS.Base
import HandS.Call
import HandS.List
import HandS.Comp
import HandS.Ends
import HandS.Dict
import HandS.Iter
import HandS.Text
import HandS.Words
import HandS.WordsList
import HandS.WordsDict
import HandS.Conv
import HandS.Walk
import HandS.IsInst
import HandS.MakeKw
import HandS.MakeKwOnly
import HandS.Flow
import HandS.TupAny
import HandS.TupMul
import HandS.FStr
import HandS.Zip
import HandS.Style
import HandS.Codes
import HandS.TupLe
import HandS.SetKeys
import HandS.Strs
import HandS.SetFor
import HandS.Deep
import HandS.SortInts
import HandS.More
import HandS.CallLocal
import HandS.HeadHook3
import KE.GoesMore
import KE.GoesZip
import KE.KUnpack
import PyProof.TupleOfStr
import PySem.Challenge.RW_shownshort_k21_things_of_any_kind_judged
set_option Elab.async false
set_option linter.all false
set_option maxRecDepth 100000
namespace Gu
open PySem PySem.Spec PyProof.Rows L2
/-! the text, by places -/
def topS (i : Nat) : Stmt := PySem.Challenge.pw_shownshort_k21_things_of_any_kind_judged.main.body.getD i (.Pass ⟨0, 0, 0, 0⟩)
abbrev s_InvalidNumber_init : Stmt := inClass (topS 2) 0
abbrev ps_InvalidNumber_init : List Str := ["self", "value"]
theorem sc_InvalidNumber_init : FnScope ["self", "value"] ps_InvalidNumber_init (defScope s_InvalidNumber_init) := ⟨rfl, rfl, rfl, by decide +kernel, rfl, by decide +kernel, by decide +kernel⟩
abbrev s_InvalidMark_init : Stmt := inClass (topS 3) 0
abbrev ps_InvalidMark_init : List Str := ["self", "value"]
theorem sc_InvalidMark_init : FnScope ["self", "value"] ps_InvalidMark_init (defScope s_InvalidMark_init) := ⟨rfl, rfl, rfl, by decide +kernel, rfl, by decide +kernel, by decide +kernel⟩
abbrev s_is_integer : Stmt := topS 11
abbrev ps_is_integer : List Str := ["value", "least", "most"]
theorem sc_is_integer : FnScope ["value", "least", "most"] ps_is_integer (defScope s_is_integer) := ⟨rfl, rfl, rfl, by decide +kernel, rfl, by decide +kernel, by decide +kernel⟩
abbrev s_is_tuple : Stmt := topS 12
abbrev ps_is_tuple : List Str := ["value", "least", "most"]
theorem sc_is_tuple : FnScope ["value", "least", "most"] ps_is_tuple (defScope s_is_tuple) := ⟨rfl, rfl, rfl, by decide +kernel, rfl, by decide +kernel, by decide +kernel⟩
abbrev s_is_text : Stmt := topS 13
abbrev ps_is_text : List Str := ["value", "most"]
theorem sc_is_text : FnScope ["value", "most", "character"] ps_is_text (defScope s_is_text) := ⟨rfl, rfl, rfl, by decide +kernel, rfl, by decide +kernel, by decide +kernel⟩
abbrev s_least_raised_at : Stmt := topS 14
abbrev ps_least_raised_at : List Str := ["length", "place"]
theorem sc_least_raised_at : FnScope ["length", "place"] ps_least_raised_at (defScope s_least_raised_at) := ⟨rfl, rfl, rfl, by decide +kernel, rfl, by decide +kernel, by decide +kernel⟩
abbrev s_check_mark : Stmt := topS 15
abbrev ps_check_mark : List Str := ["mark"]
theorem sc_check_mark : FnScope ["mark"] ps_check_mark (defScope s_check_mark) := ⟨rfl, rfl, rfl, by decide +kernel, rfl, by decide +kernel, by decide +kernel⟩
abbrev s_Shortener_init : Stmt := inClass (topS 17) 0
abbrev ps_Shortener_init : List Str := ["self", "limit", "head", "tail", "mark"]
theorem sc_Shortener_init : FnScope ["self", "limit", "head", "tail", "mark", "number"] ps_Shortener_init (defScope s_Shortener_init) := ⟨rfl, rfl, rfl, by decide +kernel, rfl, by decide +kernel, by decide +kernel⟩
abbrev s_Shortener_eq : Stmt := inClass (topS 17) 1
abbrev ps_Shortener_eq : List Str := ["self", "other"]
theorem sc_Shortener_eq : FnScope ["self", "other"] ps_Shortener_eq (defScope s_Shortener_eq) := ⟨rfl, rfl, rfl, by decide +kernel, rfl, by decide +kernel, by decide +kernel⟩
abbrev s_Shortener_repr : Stmt := inClass (topS 17) 2
abbrev ps_Shortener_repr : List Str := ["self"]
theorem sc_Shortener_repr : FnScope ["self"] ps_Shortener_repr (defScope s_Shortener_repr) := ⟨rfl, rfl, rfl, by decide +kernel, rfl, by decide +kernel, by decide +kernel⟩
abbrev s_shortened : Stmt := topS 18
abbrev ps_shortened : List Str := ["shortener", "whole", "mark"]
theorem sc_shortened : FnScope ["shortener", "whole", "mark", "tail_start"] ps_shortened (defScope s_shortened) := ⟨rfl, rfl, rfl, by decide +kernel, rfl, by decide +kernel, by decide +kernel⟩
abbrev s_shown_by : Stmt := topS 19
abbrev ps_shown_by : List Str := ["row", "text"]
theorem sc_shown_by : FnScope ["row", "text", "shown", "shortener"] ps_shown_by (defScope s_shown_by) := ⟨rfl, rfl, rfl, by decide +kernel, rfl, by decide +kernel, by decide +kernel⟩
abbrev s_planned : Stmt := topS 20
abbrev ps_planned : List Str := ["row", "length"]
theorem sc_planned : FnScope ["row", "length", "sources", "shortener"] ps_planned (defScope s_planned) := ⟨rfl, rfl, rfl, by decide +kernel, rfl, by decide +kernel, by decide +kernel⟩
abbrev s_telling_lengths : Stmt := topS 21
abbrev ps_telling_lengths : List Str := []
theorem sc_telling_lengths : FnScope [] ps_telling_lengths (defScope s_telling_lengths) := ⟨rfl, rfl, rfl, by decide +kernel, rfl, by decide +kernel, by decide +kernel⟩
abbrev s_filled_in : Stmt := topS 23
abbrev ps_filled_in : List Str := ["sources", "text"]
theorem sc_filled_in : FnScope ["sources", "text", "source"] ps_filled_in (defScope s_filled_in) := ⟨rfl, rfl, rfl, by decide +kernel, rfl, by decide +kernel, by decide +kernel⟩
abbrev s_differing_places : Stmt := topS 24
abbrev ps_differing_places : List Str := ["sources", "others"]
theorem sc_differing_places : FnScope ["sources", "others", "places", "source", "other", "place"] ps_differing_places (defScope s_differing_places) := ⟨rfl, rfl, rfl, by decide +kernel, rfl, by decide +kernel, by decide +kernel⟩
abbrev s_least_difference : Stmt := topS 25
abbrev ps_least_difference : List Str := ["sources", "others", "length"]
theorem sc_least_difference : FnScope ["sources", "others", "length", "least"] ps_least_difference (defScope s_least_difference) := ⟨rfl, rfl, rfl, by decide +kernel, rfl, by decide +kernel, by decide +kernel⟩
abbrev s_first_difference : Stmt := topS 26
abbrev ps_first_difference : List Str := ["shorteners", "others"]
theorem sc_first_difference : FnScope ["shorteners", "others", "length", "sources", "other_sources"] ps_first_difference (defScope s_first_difference) := ⟨rfl, rfl, rfl, by decide +kernel, rfl, by decide +kernel, by decide +kernel⟩
abbrev s_known_signs : Stmt := topS 28
abbrev ps_known_signs : List Str := ["views", "length"]
theorem sc_known_signs : FnScope ["views", "length", "known", "row", "shown", "sources", "source", "sign", "told"] ps_known_signs (defScope s_known_signs) := ⟨rfl, rfl, rfl, by decide +kernel, rfl, by decide +kernel, by decide +kernel⟩
abbrev s_is_told : Stmt := topS 30
abbrev ps_is_told : List Str := ["value"]
theorem sc_is_told : FnScope ["value", "number"] ps_is_told (defScope s_is_told) := ⟨rfl, rfl, rfl, by decide +kernel, rfl, by decide +kernel, by decide +kernel⟩
abbrev s_is_told_row : Stmt := topS 31
abbrev ps_is_told_row : List Str := ["value"]
theorem sc_is_told_row : FnScope ["value", "part"] ps_is_told_row (defScope s_is_told_row) := ⟨rfl, rfl, rfl, by decide +kernel, rfl, by decide +kernel, by decide +kernel⟩
abbrev s_are_told_rows : Stmt := topS 32
abbrev ps_are_told_rows : List Str := ["parts", "many"]
theorem sc_are_told_rows : FnScope ["parts", "many", "part"] ps_are_told_rows (defScope s_are_told_rows) := ⟨rfl, rfl, rfl, by decide +kernel, rfl, by decide +kernel, by decide +kernel⟩
abbrev s_are_shown_parts : Stmt := topS 33
abbrev ps_are_shown_parts : List Str := ["parts"]
theorem sc_are_shown_parts : FnScope ["parts"] ps_are_shown_parts (defScope s_are_shown_parts) := ⟨rfl, rfl, rfl, by decide +kernel, rfl, by decide +kernel, by decide +kernel⟩
abbrev s_is_pair_of_texts : Stmt := topS 34
abbrev ps_is_pair_of_texts : List Str := ["value"]
theorem sc_is_pair_of_texts : FnScope ["value", "part"] ps_is_pair_of_texts (defScope s_is_pair_of_texts) := ⟨rfl, rfl, rfl, by decide +kernel, rfl, by decide +kernel, by decide +kernel⟩
abbrev s_row_of : Stmt := topS 35
abbrev ps_row_of : List Str := ["told_row"]
theorem sc_row_of : FnScope ["told_row", "limit", "head", "tail", "mark"] ps_row_of (defScope s_row_of) := ⟨rfl, rfl, rfl, by decide +kernel, rfl, by decide +kernel, by decide +kernel⟩
abbrev s_alike_holds : Stmt := topS 36
abbrev ps_alike_holds : List Str := ["parts", "paper"]
theorem sc_alike_holds : FnScope ["parts", "paper"] ps_alike_holds (defScope s_alike_holds) := ⟨rfl, rfl, rfl, by decide +kernel, rfl, by decide +kernel, by decide +kernel⟩
abbrev s_unlike_holds : Stmt := topS 37
abbrev ps_unlike_holds : List Str := ["parts", "paper"]
theorem sc_unlike_holds : FnScope ["parts", "paper"] ps_unlike_holds (defScope s_unlike_holds) := ⟨rfl, rfl, rfl, by decide +kernel, rfl, by decide +kernel, by decide +kernel⟩
abbrev s_stable_holds : Stmt := topS 38
abbrev ps_stable_holds : List Str := ["parts", "paper"]
theorem sc_stable_holds : FnScope ["parts", "paper", "row"] ps_stable_holds (defScope s_stable_holds) := ⟨rfl, rfl, rfl, by decide +kernel, rfl, by decide +kernel, by decide +kernel⟩
abbrev s_unstable_holds : Stmt := topS 39
abbrev ps_unstable_holds : List Str := ["parts", "paper"]
theorem sc_unstable_holds : FnScope ["parts", "paper", "row", "shown"] ps_unstable_holds (defScope s_unstable_holds) := ⟨rfl, rfl, rfl, by decide +kernel, rfl, by decide +kernel, by decide +kernel⟩
abbrev s_possible_holds : Stmt := topS 40
abbrev ps_possible_holds : List Str := ["parts", "paper"]
theorem sc_possible_holds : FnScope ["parts", "paper", "told_row", "shown", "length"] ps_possible_holds (defScope s_possible_holds) := ⟨rfl, rfl, rfl, by decide +kernel, rfl, by decide +kernel, by decide +kernel⟩
abbrev s_impossible_holds : Stmt := topS 41
abbrev ps_impossible_holds : List Str := ["parts", "paper"]
theorem sc_impossible_holds : FnScope ["parts", "paper", "told_row", "shown", "length"] ps_impossible_holds (defScope s_impossible_holds) := ⟨rfl, rfl, rfl, by decide +kernel, rfl, by decide +kernel, by decide +kernel⟩
abbrev s_confused_holds : Stmt := topS 42
abbrev ps_confused_holds : List Str := ["parts", "paper"]
theorem sc_confused_holds : FnScope ["parts", "paper", "row"] ps_confused_holds (defScope s_confused_holds) := ⟨rfl, rfl, rfl, by decide +kernel, rfl, by decide +kernel, by decide +kernel⟩
abbrev s_holds : Stmt := topS 44
abbrev ps_holds : List Str := ["claim", "paper"]
theorem sc_holds : FnScope ["claim", "paper", "check"] ps_holds (defScope s_holds) := ⟨rfl, rfl, rfl, by decide +kernel, rfl, by decide +kernel, by decide +kernel⟩
abbrev s_law_pot : Stmt := topS 46
abbrev ps_law_pot : List Str := ["_law_script", "_law_k"]
theorem sc_law_pot : FnScope ["_law_script", "_law_k", "_law_own", "_law_mixed", "_law_entry"] ps_law_pot (defScope s_law_pot) := ⟨rfl, rfl, rfl, by decide +kernel, rfl, by decide +kernel, by decide +kernel⟩
abbrev s_law_ladle : Stmt := topS 47
abbrev ps_law_ladle : List Str := ["_law_pot_here", "_law_many"]
theorem sc_law_ladle : FnScope ["_law_pot_here", "_law_many", "_law_digit"] ps_law_ladle (defScope s_law_ladle) := ⟨rfl, rfl, rfl, by decide +kernel, rfl, by decide +kernel, by decide +kernel⟩
abbrev s_law_one_of : Stmt := topS 48
abbrev ps_law_one_of : List Str := ["_law_pot_here", "_law_some"]
theorem sc_law_one_of : FnScope ["_law_pot_here", "_law_some"] ps_law_one_of (defScope s_law_one_of) := ⟨rfl, rfl, rfl, by decide +kernel, rfl, by decide +kernel, by decide +kernel⟩
abbrev s_law_good : Stmt := topS 49
abbrev ps_law_good : List Str := ["_law_pot_here"]
theorem sc_law_good : FnScope ["_law_pot_here", "_law_row_here", "_law_other", "_law_some"] ps_law_good (defScope s_law_good) := ⟨rfl, rfl, rfl, by decide +kernel, rfl, by decide +kernel, by decide +kernel⟩
abbrev s_law_odd : Stmt := topS 50
abbrev ps_law_odd : List Str := ["_law_pot_here"]
theorem sc_law_odd : FnScope ["_law_pot_here", "_law_some"] ps_law_odd (defScope s_law_odd) := ⟨rfl, rfl, rfl, by decide +kernel, rfl, by decide +kernel, by decide +kernel⟩
abbrev s_law_bent : Stmt := topS 51
abbrev ps_law_bent : List Str := ["_law_pot_here", "_law_claim_here", "_law_paper_here"]
theorem sc_law_bent : FnScope ["_law_pot_here", "_law_claim_here", "_law_paper_here", "_law_way", "_law_at", "_law_odd_here"] ps_law_bent (defScope s_law_bent) := ⟨rfl, rfl, rfl, by decide +kernel, rfl, by decide +kernel, by decide +kernel⟩
abbrev s_law_right : Stmt := topS 52
abbrev ps_law_right : List Str := ["_law_pot_here"]
theorem sc_law_right : FnScope ["_law_pot_here", "_law_again", "_law_claim_here", "_law_paper_here", "_law_one", "_law_two", "_law_each"] ps_law_right (defScope s_law_right) := ⟨rfl, rfl, rfl, by decide +kernel, rfl, by decide +kernel, by decide +kernel⟩
abbrev s_law : Stmt := topS 53
abbrev ps_law : List Str := ["_law_script"]
theorem sc_law : FnScope ["_law_script", "_law_k"] ps_law (defScope s_law) := ⟨rfl, rfl, rfl, by decide +kernel, rfl, by decide +kernel, by decide +kernel⟩
/-- names that the module leaves to Python -/
structure Bi (mg : Str → Option Value) : Prop where
  ValueError : mg "ValueError" = none
  abs : mg "abs" = none
  all : mg "all" = none
  bool : mg "bool" = none
  divmod : mg "divmod" = none
  int : mg "int" = none
  isinstance : mg "isinstance" = none
  len : mg "len" = none
  list : mg "list" = none
  max : mg "max" = none
  min : mg "min" = none
  range : mg "range" = none
  str : mg "str" = none
  tuple : mg "tuple" = none
  zip : mg "zip" = none
  MOST_SIGNS : ∃ u, mg "MOST_SIGNS" = some u ∧ RelV (.int 40) u
  MOST_MARK : ∃ u, mg "MOST_MARK" = some u ∧ RelV (.int 3) u
  MOST_ROW : ∃ u, mg "MOST_ROW" = some u ∧ RelV (.int 4) u
  MOST_TEXT : ∃ u, mg "MOST_TEXT" = some u ∧ RelV (.int 200) u
  MOST_LENGTH : ∃ u, mg "MOST_LENGTH" = some u ∧ RelV (.int 500) u
  SIGNS : ∃ u, mg "SIGNS" = some u ∧ RelV (.str ".0123456789abcdefghijklmnopqrstuvwxyz~") u
end Gu
namespace Gu
open PySem PySem.Spec PyProof.Rows L2
/-! cuts -/
/-- from a middle state on -/
def tHalt (t u : TS) : TS := fun D σ H => ∃ M : L2.St → Hp → Prop, t { D with nx := M } σ H ∧ ∀ σ1 H1, M σ1 H1 → u D σ1 H1
/-! defs as they stand behind the top -/
structure At (K : PySem.W.Frag) (mg : Str → Option Value) (x : Str) (st : Stmt) (ps : List Str) : Prop where
  ex : ∃ (f : Addr) (fd : FuncData), Fun K x x st f fd ∧ Binds K fd ps [] ∧ mg x = some (.ref f)
structure Cal (P : Program) (w : World) (K : PySem.W.Frag) (mg : Str → Option Value) (base : Heap) (k : Nat) (x : Str) (ps : List Str) (sp : Sp) : Prop where
  ex : ∃ (f : Addr) (fd : FuncData), FnOk P w K mg base CX0 k f fd ps sp ∧ mg x = some (.ref f) ∧ PySem.W.keepIn K (.ref f) = true ∧ Binds K fd ps [] ∧ ∃ oc od sl, K.lookup f = some ⟨oc, od, .func fd, sl⟩
theorem At.cal {P : Program} {w : World} {K : PySem.W.Frag} {mg : Str → Option Value} {base : Heap} {x : Str} {st : Stmt} {N ps : List Str} {k : Nat} {sp : Sp} (D : At K mg x st ps) (S : FnScope N ps (defScope st)) (len : ∀ vs H Q E, sp vs H Q E → vs.length = ps.length)
    (body : ∀ (f : Addr) (cdv : Value) (A : Around) (outer : List Env) (s : Shared) (H : Hp) (vs : List V) (Q : VK) (E : XK), Room k (A.deeper (envOfC x (defScope st) s.heap.objs.size f cdv)) → sp vs H Q E →
      ∃ t, PSs (cxOf CX0 P w K mg base N x (defScope st) f cdv A outer s H E).nox (defBody st) t ∧ t { nx := fun _ H' => Q .non H', rt := Q } (start N vs) H) : Cal P w K mg base (k + 1) x ps sp := by
  obtain ⟨f, fd, F, b, g⟩ := D.ex
  obtain ⟨oc, od, kV, doc, pm, an, cdv, ct, osl, e, lk, hcd⟩ := F.ex
  exact ⟨f, fd, F.ok S len (body f), g, F.kp, b, oc, od, osl, lk⟩
section
variable {X : Cx} {k j : Nat} {x : Str} {ps : List Str} {sp : Sp} {p pos : Pos} {e : Expr} {es : List Expr} {t : TA}
theorem pe_own (c : Cal X.prog X.w X.K X.mg X.base k x ps sp) (hr : Room j X.A) (hk : k ≤ j) (hg : Gl X x) (ha : PA X (e :: es) t)
    (hdb : (x == ("__debug__" : Str)) = false := by decide) (he : starEach (e :: es) X.env = (false, eval e X.env) :: starEach es X.env := by rfl) (hpl : (backTo pos (starEach es X.env)).any (·.1) = false := by rfl) :
    PE X (.Call (.Name x p) (e :: es) [] pos) (tCall sp [] E0 t) := by
  obtain ⟨f, fd, F, hm, kp, b, _⟩ := c.ex
  exact pe_call F (hr.mono hk) hg hm kp b .nil pass0 ha hdb he hpl
theorem pe_cst {v : V} (h : ∃ u, X.mg x = some u ∧ RelV v u) (hg : Gl X x) (hdb : (x == ("__debug__" : Str)) = false := by decide) : PE X (.Name x pos) (tC v) := by
  obtain ⟨u, hm, r⟩ := h
  exact pe_glob hg hm r hdb
end
def tMid (t : TE) : TE := fun σ H Q => ∃ M : VK, t σ H M ∧ ∀ v G, M v G → Q v G
theorem pe_mid {X : Cx} {e : Expr} {t : TE} (d : PE X e t) : PE X e (tMid t) := ⟨fun pins s σ H Q I ⟨M, m, k⟩ => thn (d.run pins s σ H M I m) fun u s1 ⟨v, G, I1, r1, m1⟩ => ⟨v, G, I1, r1, k v G m1⟩⟩
/-! ### heaps -/
theorem same_new {H : Hp} {p : Addr} {o : HO} (h : H p = none) : Same H (upd H p o) := fun b x e => by
  rw [upd_ne (ne_of_none e h)]
  exact e
/-- a pot of three ints stands at p -/
def Pot (H : Hp) (p : Addr) : Prop := ∃ x y z : Int, H p = some (.lst [.int x, .int y, .int z])
/-- from H to G the pot at p may have changed, the rest stands -/
structure Ladled (p : Addr) (H G : Hp) : Prop where
  pot : Pot G p
  keep : ∀ b o, H b = some o → b ≠ p → G b = some o
theorem Pot.some {H : Hp} {p : Addr} (h : Pot H p) : ∃ o, H p = some o := by
  obtain ⟨x, y, z, e⟩ := h
  exact ⟨_, e⟩
theorem Pot.same {H G : Hp} {p : Addr} (s : Same H G) (h : Pot H p) : Pot G p := by
  obtain ⟨x, y, z, e⟩ := h
  exact ⟨x, y, z, s _ _ e⟩
theorem Ladled.refl {H : Hp} {p : Addr} (h : Pot H p) : Ladled p H H := ⟨h, fun _ _ e _ => e⟩
theorem Ladled.trans {H G J : Hp} {p : Addr} (a : Ladled p H G) (b : Ladled p G J) : Ladled p H J := ⟨b.pot, fun c o e n => b.keep c o (a.keep c o e n) n⟩
theorem Ladled.same {H G J : Hp} {p : Addr} (a : Ladled p H G) (b : Same G J) : Ladled p H J := ⟨a.pot.same b, fun c o e n => b _ _ (a.keep c o e n)⟩
theorem Ladled.ofSame {H G : Hp} {p : Addr} (h : Pot H p) (b : Same H G) : Ladled p H G := ⟨h.same b, fun c o e _ => b _ _ e⟩
theorem Ladled.new {H G : Hp} {p q : Addr} {o : HO} (a : Ladled p H G) (h : G q = none) : Ladled p H (upd G q o) := a.same (same_new h)
theorem Ladled.free {H G : Hp} {p l : Addr} (a : Ladled p H G) (h : G l = none) : H l = none := by
  cases q : H l with
  | none => rfl
  | some o =>
    by_cases e : l = p
    · subst e
      obtain ⟨u, hu⟩ := a.pot.some
      rw [hu] at h
      cases h
    · rw [a.keep l o q e] at h
      cases h
/-- what is not known at first may change -/
theorem Ladled.mut {H G : Hp} {p q : Addr} {o : HO} (a : Ladled p H G) (h : H q = none) (n : q ≠ p) : Ladled p H (upd G q o) := by
  refine ⟨?_, fun b u e nb => ?_⟩
  · obtain ⟨x, y, z, e⟩ := a.pot
    exact ⟨x, y, z, by rw [upd_ne (Ne.symm n)]; exact e⟩
  · rw [upd_ne (ne_of_none e h)]
    exact a.keep b u e nb
end Gu
namespace Gu
open PySem PySem.Spec PyProof.Rows L2
section
variable {P : Program} {w : World} {K : PySem.W.Frag} {mg : Str → Option Value} {base : Heap}
/-! ### _law_ladle -/
def spLadle : Sp := fun vs H Q _ => ∃ (p : Addr) (m : Int), vs = [.ref p, .int m] ∧ Pot H p ∧ 0 < m ∧ m < 1000000 ∧ ∀ d G, 0 ≤ d → d < m → Ladled p H G → Q (.int d) G
theorem cal_ladle (B : Bi mg) (D : At K mg "_law_ladle" s_law_ladle ps_law_ladle) : Cal P w K mg base 1 "_law_ladle" ps_law_ladle spLadle := by
  refine D.cal sc_law_ladle (fun vs H Q E h => ?_) (fun f cdv A outer s H vs Q E hr h => ?_)
  · obtain ⟨p, m, rfl, _⟩ := h
    rfl
  · obtain ⟨p, m, rfl, ⟨x, y, z, hp⟩, m0, m1, k⟩ := h
    refine ⟨_, (pss_cons (ps_asg (pe_op op_add (pe_ix ix_list (pv 0) pe_int (fun _ _ => rfl)) pe_int) (pg_sub (pv 0) pe_int set_list))
      (pss_cons (ps_if (pt_cmpR op_gt (pe_ix ix_list (pv 0) pe_int (fun _ _ => rfl)) pe_int (nomark _)) (pss_cons (ps_asg (pe_callB call_divmod (by rfl) B.divmod (by decide +kernel) (pa_cons (pe_callTy call_int1 (by rfl) B.int (by decide +kernel) (pa_cons (pe_ix ix_list (pv 0) pe_int (fun _ _ => rfl)) pa_nil)) (pa_cons (pv 1) pa_nil))) (pg_tup rfl (pgs_cons (pg_sub (pv 0) pe_int set_list) (pgs_cons (pg_name (i := 2) sc_law_ladle.nd rfl (.inl rfl)) pgs_nil))))
      (pss_one (ps_ret (pv 2)))) pss_nil)
      (pss_cons (ps_asg (pe_op op_mod (pe_callTy call_int1 (by rfl) B.int (by decide +kernel) (pa_cons (pe_op op_add (pe_op op_add (pe_op op_mul (pe_ix ix_list (pv 0) pe_int (fun _ _ => rfl)) pe_int) (pe_op op_mul (pe_ix ix_list (pv 0) pe_int (fun _ _ => rfl)) pe_int)) (pe_op op_mul (pe_op op_fdiv (pe_ix ix_list (pv 0) pe_int (fun _ _ => rfl)) pe_int) pe_int)) pa_nil)) pe_int) (pg_sub (pv 0) pe_int set_list))
      (pss_one (ps_ret (pe_op op_mod (pe_callTy call_int1 (by rfl) B.int (by decide +kernel) (pa_cons (pe_op op_fdiv (pe_ix ix_list (pv 0) pe_int (fun _ _ => rfl)) pe_int) pa_nil)) (pv 1))))))), ?_⟩
    refine ⟨_, rfl, p, _, _, _, rfl, rfl, .inl (.inl hp), (rfl : atI [V.int x, V.int y, V.int z] 1 = some (V.int y)), _, _, rfl, rfl, _, rfl, p, _, _, 1, rfl, rfl, hp, rfl, ?_⟩
    have h1 : upd H p (.lst ([V.int x, V.int y, V.int z].set 1 (.int (y + 3)))) p = some (.lst [.int x, .int (y + 3), .int z]) := upd_same
    refine ⟨_, rfl, p, _, _, _, rfl, rfl, .inl (.inl h1), (rfl : atI [V.int x, V.int (y + 3), V.int z] 0 = some (V.int x)), _, _, rfl, rfl, _, rfl, ite2 (fun _ => ?_) (fun _ => ?_)⟩
    · refine ⟨_, rfl, p, _, _, _, rfl, rfl, .inl (.inl h1), (rfl : atI [V.int x, V.int (y + 3), V.int z] 0 = some (V.int x)), .inl ⟨_, rfl, _, rfl, _, _, rfl, ⟨m0, by omega⟩, fun q hq => ?_⟩⟩
      have npq : p ≠ q := ne_of_none h1 hq
      refine ⟨q, _, rfl, .inl (.inl upd_same), rfl, _, _, rfl, ⟨_, rfl, p, _, _, 0, rfl, rfl, (by rw [upd_ne npq]; exact h1), rfl, _, _, rfl, rfl, ?_⟩⟩
      refine ⟨_, rfl, ?_⟩
      refine k (x % m) _ (Int.emod_nonneg _ (by omega)) (Int.emod_lt_of_pos _ m0) ⟨⟨_, _, _, upd_same⟩, fun b o e n => ?_⟩
      have hb : upd H p (.lst ([V.int x, V.int y, V.int z].set 1 (.int (y + 3)))) b = some o := by rw [upd_ne n]; exact e
      rw [upd_ne n, upd_ne (ne_of_none hb hq), upd_ne n]
      exact e
    · refine ⟨_, rfl, p, _, _, _, rfl, rfl, .inl (.inl h1), (rfl : atI [V.int x, V.int (y + 3), V.int z] 2 = some (V.int z)), _, _, rfl, rfl, .inr ⟨by decide, by decide⟩, _, rfl, p, _, _, _, rfl, rfl, .inl (.inl h1), (rfl : atI [V.int x, V.int (y + 3), V.int z] 1 = some (V.int (y + 3))), _, _, rfl, rfl, .inr ⟨by decide, by decide⟩, _, _, rfl, rfl, ?_⟩
      refine ⟨_, rfl, p, _, _, _, rfl, rfl, .inl (.inl h1), (rfl : atI [V.int x, V.int (y + 3), V.int z] 2 = some (V.int z)), _, _, rfl, rfl, ⟨by decide, by decide⟩, _, _, rfl, rfl, .inr ⟨by decide, by decide⟩, _, _, rfl, rfl, .inl ⟨_, rfl, _, _, rfl, rfl, (by decide : (0 : Int) < 1999999889), ?_⟩⟩
      refine ⟨_, rfl, p, _, _, 2, rfl, rfl, h1, rfl, ?_⟩
      refine ⟨_, rfl, p, _, _, _, rfl, rfl, .inl (.inl upd_same), rfl, _, _, rfl, rfl, ⟨by decide, by decide⟩, .inl ⟨_, rfl, _, rfl, _, _, rfl, rfl, m0, ?_⟩⟩
      refine k _ _ (Int.emod_nonneg _ (by omega)) (Int.emod_lt_of_pos _ m0) ⟨⟨_, _, _, upd_same⟩, fun b o e n => ?_⟩
      rw [upd_ne n, upd_ne n]
      exact e
/-! ### _law_one_of: of a list or of a text -/
def spOneOf (K : PySem.W.Frag) : Sp := fun vs H Q _ => ∃ (p : Addr), Pot H p ∧
  ((∃ (l : Addr) (xs : List V), vs = [.ref p, .ref l] ∧ SqL K H l xs ∧ l ≠ p ∧ 0 < xs.length ∧ xs.length < 1000 ∧ ∀ v G, v ∈ xs → Ladled p H G → Q v G) ∨
   (∃ (z : Str), vs = [.ref p, .str z] ∧ 0 < z.cps.toList.length ∧ z.cps.toList.length < 1000 ∧ ∀ c G, c ∈ z.cps.toList → Ladled p H G → Q (.str ⟨#[c]⟩) G))
theorem Ladled.seq {K : PySem.W.Frag} {H G : Hp} {p l : Addr} {xs : List V} (a : Ladled p H G) (n : l ≠ p) (h : SqL K H l xs) : SqL K G l xs := by
  rcases h with (h | ⟨o, h⟩) | h
  · exact .inl (.inl (a.keep _ _ h n))
  · exact .inl (.inr ⟨o, a.keep _ _ h n⟩)
  · exact .inr h
theorem at_in {α : Type} {xs : List α} {d : Int} (h0 : 0 ≤ d) (h1 : d < (xs.length : Int)) : ∃ v, v ∈ xs ∧ atI xs d = some v := by
  obtain ⟨j, rfl⟩ := Int.eq_ofNat_of_zero_le h0
  have hj : j < xs.length := by omega
  exact ⟨xs[j], List.getElem_mem hj, atI_nat (List.getElem?_eq_getElem hj)⟩
theorem cal_oneOf (B : Bi mg) (D : At K mg "_law_one_of" s_law_one_of ps_law_one_of) (C_law_ladle : Cal P w K mg base 1 "_law_ladle" ps_law_ladle spLadle) : Cal P w K mg base 2 "_law_one_of" ps_law_one_of (spOneOf K) := by
  refine D.cal sc_law_one_of (fun vs H Q E h => ?_) (fun f cdv A outer s H vs Q E hr h => ?_)
  · obtain ⟨p, _, ⟨l, xs, rfl, _⟩ | ⟨z, rfl, _⟩⟩ := h
    · rfl
    · rfl
  · refine ⟨_, (pss_one (ps_ret (pe_ix ix_seq (pv 1) (pe_own C_law_ladle hr (by decide) (by rfl) (pa_cons (pv 0) (pa_cons (pe_callB call_len (by rfl) B.len (by decide +kernel) (pa_cons (pv 1) pa_nil)) pa_nil))) (fun _ _ => rfl)))), ?_⟩
    obtain ⟨p, hp, ⟨l, xs, rfl, hl, np, l0, l1, k⟩ | ⟨z, rfl, l0, l1, k⟩⟩ := h
    · refine ⟨_, rfl, _, rfl, _, rfl, _, _, rfl, .inl ⟨_, hl, rfl⟩, p, _, rfl, hp, by omega, by omega, fun d G d0 d1 L => ?_⟩
      obtain ⟨v, hv, ha⟩ := at_in (xs := xs) d0 d1
      exact .inl ⟨l, xs, d, v, rfl, rfl, L.seq np hl, ha, k v G hv L⟩
    · have ez : z.length = z.cps.toList.length := rfl
      refine ⟨_, rfl, _, rfl, _, rfl, _, _, rfl, ⟨Nat.le_of_lt (small1000 (by omega)), rfl⟩, p, _, rfl, hp, by omega, by omega, fun d G d0 d1 L => ?_⟩
      obtain ⟨c, hc, ha⟩ := at_in (xs := z.cps.toList) d0 (by omega)
      exact .inr (.inr ⟨z, d, c, rfl, rfl, Nat.le_of_lt (small1000 (by omega)), ha, k c G hc L⟩)
/-! ### _law_pot -/
def spPot (K : PySem.W.Frag) : Sp := fun vs H Q _ => ∃ (a : Addr) (k : Nat) (ns : List Int), vs = [.ref a, .int (k : Int)] ∧ SqL K H a (ns.map V.int) ∧ k < 1000 ∧ ∀ p G, H p = none → Pot G p → Same H G → Q (.ref p) G
theorem cal_pot (B : Bi mg) (D : At K mg "_law_pot" s_law_pot ps_law_pot) : Cal P w K mg base 1 "_law_pot" ps_law_pot (spPot K) := by
  refine D.cal sc_law_pot (fun vs H Q E h => ?_) (fun f cdv A outer s H vs Q E hr h => ?_)
  · obtain ⟨a, k, ns, rfl, _⟩ := h
    rfl
  · obtain ⟨a, k, ns, rfl, hS, hk, q⟩ := h
    refine ⟨_, (pss_cons (ps_set (i := 2) sc_law_pot.nd rfl (.inl rfl) (pe_mid (pe_ifExp (pt_cmpR op_lt (pv 1) (pe_callB call_len_seq (by rfl) B.len (by decide +kernel) (pa_cons (pv 0) pa_nil)) (nomark _)) (pe_callTy call_int1 (by rfl) B.int (by decide +kernel) (pa_cons (pe_ix ix_list (pv 0) (pv 1) (fun _ _ => rfl)) pa_nil)) (pe_op op_add (pe_op op_mul pe_int (pv 1)) pe_int))))
      (pss_cons (ps_set (i := 3) sc_law_pot.nd rfl (.inl rfl) (pe_op op_add pe_int (pe_op op_mul pe_int (pv 1))))
      (pss_cons (ps_for PassesOwn.never rfl (pi_list (pe_slice sl_list (pv 0) po_none (po_some pe_int))) (pg_name (i := 4) sc_law_pot.nd rfl (.inl rfl))
      (pss_one (ps_set (i := 3) sc_law_pot.nd rfl (.inl rfl) (pe_op op_mod (pe_callTy call_int1 (by rfl) B.int (by decide +kernel) (pa_cons (pe_op op_add (pe_op op_mul (pv 3) pe_int) (pe_op op_mod (pe_callTy call_int1 (by rfl) B.int (by decide +kernel) (pa_cons (pv 4) pa_nil)) pe_int)) pa_nil)) pe_int))))
      (pss_one (ps_ret (pe_lst (pa_cons (pe_mid (pe_ifExp (PW.pt (pw_or (pt_cmpR op_lt (pv 2) pe_int (nomark _)) (pw_or1 (pt_cmpR op_ge (pv 2) (pe_op op_pow pe_int pe_int) (nomark _))))) (pe_callB call_abs (by rfl) B.abs (by decide +kernel) (pa_cons (pv 2) pa_nil)) pe_int)) (pa_cons pe_int (pa_cons (pe_op op_mod (pe_callTy call_int1 (by rfl) B.int (by decide +kernel) (pa_cons (pe_op op_add (pe_op op_mul (pv 3) pe_int) (pe_op op_mod (pv 2) pe_int)) pa_nil)) pe_int) pa_nil))))))))), ?_⟩
    refine ⟨fun v G => (∃ i : Int, v = .int i) ∧ G = H, ?_, ?_⟩
    · refine ⟨_, rfl, _, rfl, a, _, rfl, .inl hS, _, _, rfl, rfl, _, rfl, ite2 (fun e => ?_) (fun _ => ?_)⟩
      · have hlt := of_decide_eq_true e
        have hj : k < ns.length := by
          rw [List.length_map] at hlt
          omega
        refine ⟨_, rfl, _, rfl, a, _, _, _, rfl, rfl, hS, atI_nat (j := k) (v := .int ns[k]) (by rw [List.getElem?_map, List.getElem?_eq_getElem hj]; rfl), .inl ⟨_, rfl, ⟨_, rfl⟩, rfl⟩⟩
      · refine ⟨_, rfl, _, _, rfl, rfl, .inl ⟨by decide, by decide⟩, _, _, rfl, rfl, ⟨_, rfl⟩, rfl⟩
    · rintro _ H0 ⟨⟨own, rfl⟩, eH⟩
      subst eH
      refine ⟨_, rfl, _, _, rfl, rfl, .inl ⟨by decide, by decide⟩, _, _, rfl, rfl, ?_⟩
      refine ⟨_, rfl, 14, rfl, a, _, rfl, hS, fun c nc => ?_⟩
      have sc : Same H0 (upd H0 c (.lst (cutV (ns.map V.int) none (some 14)))) := same_new nc
      have hC : cutV (ns.map V.int) none (some 14) = (ns.take 14).map V.int := by
        unfold cutV
        rw [HT.sIx_none, show HT.sIx (ns.map V.int).length (ns.map V.int).length (some 14) = min 14 (ns.map V.int).length from HT.sIx_nat _ _ 14, List.drop_zero, Nat.sub_zero, List.map_take, List.take_eq_take_iff]
        omega
      refine ⟨c, rfl, ⟨_, .inl (.inl upd_same)⟩, for_list (K := K) (a := c) (xs := (ns.take 14).map V.int) (fun i σ J => ∃ (mx : Int) (u : Option V), σ = [some (.ref a), some (.int (k : Int)), some (.int own), some (.int mx), u] ∧ Same H0 J ∧ J c = some (.lst ((ns.take 14).map V.int)))
        ⟨_, none, rfl, sc, by rw [upd_same, hC]⟩ (fun i σ J _ ⟨_, _, _, _, e⟩ => .inl (.inl e)) ?_ ?_⟩
      · rintro i v σ J hi ⟨mx, u, rfl, sJ, eJ⟩
        obtain ⟨t, rfl⟩ : ∃ t, v = V.int t := by
          rw [List.getElem?_map] at hi
          cases e : (ns.take 14)[i]? with
          | none =>
            rw [e] at hi
            cases hi
          | some t =>
            rw [e] at hi
            exact ⟨t, (Option.some.inj hi).symm⟩
        refine ⟨_, rfl, _, _, rfl, rfl, .inr ⟨by decide, by decide⟩, _, rfl, .inl ⟨_, rfl, _, _, rfl, rfl, (by decide : (0 : Int) < 1999999889), _, _, rfl, rfl, .inl ⟨_, rfl, _, _, rfl, rfl, (by decide : (0 : Int) < 1999999889), ?_⟩⟩⟩
        exact ⟨_, _, rfl, sJ, eJ⟩
      · rintro σ J ⟨mx, u, rfl, sJ, eJ⟩
        refine ⟨fun v J1 => (∃ i : Int, v = .int i) ∧ J1 = J, ?_, ?_⟩
        · refine ⟨_, rfl, _, _, rfl, rfl, _, rfl, ite2 (fun _ => ?_) (fun _ => ?_)⟩
          · refine iteT ⟨_, rfl, _, rfl, ⟨_, rfl⟩, rfl⟩
          · refine ⟨_, rfl, _, _, rfl, rfl, ⟨by decide, by decide, by decide⟩, _, _, rfl, rfl, _, rfl, ite2 (fun _ => ⟨_, rfl, _, rfl, ⟨_, rfl⟩, rfl⟩) (fun _ => ⟨⟨_, rfl⟩, rfl⟩)⟩
        · rintro _ _ ⟨⟨x, rfl⟩, rfl⟩
          refine ⟨_, rfl, _, _, rfl, rfl, .inr ⟨by decide, by decide⟩, _, rfl, _, _, rfl, rfl, (by decide : (0 : Int) < 1999999889), _, _, rfl, rfl, .inl ⟨_, rfl, _, _, rfl, rfl, (by decide : (0 : Int) < 1999999889), ?_⟩⟩
          refine ⟨by show 3 ≤ sizeLine; decide, fun p np => ?_⟩
          exact q p _ (sJ.free np) ⟨_, _, _, upd_same⟩ (sJ.trans (same_new np))
end
end Gu
namespace Gu
open PySem PySem.Spec PyProof.Rows L2
/-! ### _law_told -/
def marks : List Str := ["", "~", "..", "...", "a.b", "~"]
/-- four things as they are drawn -/
structure Four (l h t : Int) (z : Str) : Prop where
  l0 : 0 ≤ l
  l1 : l ≤ 40
  h0 : 0 ≤ h
  h1 : h ≤ 40
  t0 : 0 ≤ t
  t1 : t ≤ 40
  z : z ∈ marks
theorem marks_len {z : Str} (h : z ∈ marks) : z.cps.toList.length ≤ 3 := by
  have a : ∀ y ∈ marks, y.cps.toList.length ≤ 3 := by decide +kernel
  exact a z h
end Gu
namespace Gu
open PySem PySem.Spec PyProof.Rows L2
/-! ### _law_tolds -/
structure Rec where
  l : Int
  h : Int
  t : Int
  z : Str
def Rec.vs (r : Rec) : List V := [.int r.l, .int r.h, .int r.t, .str r.z]
def Rec.ok (r : Rec) : Prop := Four r.l r.h r.t r.z
theorem Pot.ne {H : Hp} {p q : Addr} (h : Pot H p) (n : H q = none) : q ≠ p := fun e => by
  subst e
  obtain ⟨o, ho⟩ := h.some
  rw [n] at ho
  cases ho
theorem yes {σ : L2.St} {H : Hp} {Q : Bool → Hp → Prop} (h : Q true H) : tYes σ H Q := h
section
variable {P : Program} {w : World} {K : PySem.W.Frag} {mg : Str → Option Value} {base : Heap}
/-- told tuples: a list of them at D -/
structure ToldsAt (G : Hp) (D : Addr) (ps : List (Addr × Rec)) : Prop where
  ls : G D = some (.lst (ps.map fun q => V.ref q.1))
  tp : ∀ q ∈ ps, G q.1 = some (.tup q.2.vs) ∧ q.2.ok
end
end Gu
namespace Gu
open PySem PySem.Spec PyProof.Rows L2
/-! ### is_integer, is_text -/
/-- isinstance(x, T) is b -/
def Isa (K : PySem.W.Frag) (H : Hp) (x : V) (T : String) (b : Bool) : Prop := ∃ t, TyX K H x t ∧ PySem.W.kitOne K t (.type T) = some b
def signs : Str := ".0123456789abcdefghijklmnopqrstuvwxyz~"
def isTxt (z : Str) (m : Int) : Bool := decide ((z.length : Int) ≤ m) && z.cps.toList.all fun c => decide (c ∈ signs.cps.toList)
section
variable {P : Program} {w : World} {K : PySem.W.Frag} {mg : Str → Option Value} {base : Heap}
theorem Isa.int_int {H : Hp} {i : Int} : Isa K H (.int i) "int" true := ⟨_, .base (.int i), kit_ty (by decide +kernel)⟩
theorem Isa.int_bool {H : Hp} {i : Int} : Isa K H (.int i) "bool" false := ⟨_, .base (.int i), kit_ty (by decide +kernel)⟩
theorem Isa.str_str {H : Hp} {z : Str} : Isa K H (.str z) "str" true := ⟨_, .base (.str z), kit_ty (by decide +kernel)⟩
def spIsInteger (K : PySem.W.Frag) : Sp := fun vs H Q _ => ∃ (x : V) (a b : Int), vs = [x, .int a, .int b] ∧
  ((∃ v, x = .int v ∧ Q (.bl (decide (a ≤ v ∧ v ≤ b))) H) ∨ (Isa K H x "int" false ∧ Q (.bl false) H) ∨ (Isa K H x "int" true ∧ Isa K H x "bool" true ∧ Q (.bl false) H))
theorem cal_isInteger (B : Bi mg) (D : At K mg "is_integer" s_is_integer ps_is_integer) : Cal P w K mg base 1 "is_integer" ps_is_integer (spIsInteger K) := by
  refine D.cal sc_is_integer (fun vs H Q E h => ?_) (fun f cdv A outer s H vs Q E hr h => ?_)
  · obtain ⟨x, a, b, rfl, _⟩ := h
    rfl
  · obtain ⟨x, a, b, rfl, h⟩ := h
    refine ⟨_, (pss_cons (ps_if (PW.pt (pw_or (pt_not (pt_val (pe_callB call_isi (by rfl) B.isinstance (by decide +kernel) (pa_cons (pv 0) (pa_cons (pe_bltn (v := .ty "int") (by rfl) B.int (by decide +kernel) rfl) pa_nil))))) (pw_or1 (pt_val (pe_callB call_isi (by rfl) B.isinstance (by decide +kernel) (pa_cons (pv 0) (pa_cons (pe_bltn (v := .ty "bool") (by rfl) B.bool (by decide +kernel) rfl) pa_nil))))))) (pss_one (ps_ret pe_bl)) pss_nil)
      (pss_one (ps_ret (pe_chain op_le op_le (pv 1) (pv 0) (pv 2))))), ?_⟩
    rcases h with ⟨v, rfl, k⟩ | ⟨⟨t, i1, i2⟩, k⟩ | ⟨⟨t, i1, i2⟩, ⟨t', j1, j2⟩, k⟩
    · obtain ⟨t, i1, i2⟩ := Isa.int_int (K := K) (H := H) (i := v)
      obtain ⟨t', j1, j2⟩ := Isa.int_bool (K := K) (H := H) (i := v)
      refine ⟨_, rfl, _, _, t, _, true, rfl, .ty _, i1, i2, _, rfl, iteF ⟨_, rfl, _, _, t', _, false, rfl, .ty _, j1, j2, _, rfl, iteF ?_⟩⟩
      refine ⟨_, rfl, _, rfl, _, _, rfl, rfl, _, rfl, ?_⟩
      by_cases e1 : a ≤ v
      · rw [decide_eq_true e1]
        refine iteT ⟨_, rfl, _, _, rfl, rfl, ?_⟩
        have e : decide (a ≤ v ∧ v ≤ b) = decide (v ≤ b) := by simp only [e1, true_and]
        rw [e] at k
        exact k
      · rw [decide_eq_false e1]
        refine iteF ?_
        have e : decide (a ≤ v ∧ v ≤ b) = false := by simp only [e1, false_and, decide_false]
        rw [e] at k
        exact k
    · refine ⟨_, rfl, _, _, t, _, false, rfl, .ty _, i1, i2, _, rfl, iteT (iteT k)⟩
    · refine ⟨_, rfl, _, _, t, _, true, rfl, .ty _, i1, i2, _, rfl, iteF ⟨_, rfl, _, _, t', _, true, rfl, .ty _, j1, j2, _, rfl, iteT k⟩⟩
def spIsText (K : PySem.W.Frag) : Sp := fun vs H Q _ => ∃ (x : V) (m : Int), vs = [x, .int m] ∧
  ((∃ z : Str, x = .str z ∧ z.length ≤ 1000 ∧ ∀ G, Same H G → Q (.bl (isTxt z m)) G) ∨ (Isa K H x "str" false ∧ Q (.bl false) H))
theorem cal_isText (B : Bi mg) (D : At K mg "is_text" s_is_text ps_is_text) : Cal P w K mg base 1 "is_text" ps_is_text (spIsText K) := by
  refine D.cal sc_is_text (fun vs H Q E h => ?_) (fun f cdv A outer s H vs Q E hr h => ?_)
  · obtain ⟨x, m, rfl, _⟩ := h
    rfl
  · obtain ⟨x, m, rfl, h⟩ := h
    refine ⟨_, (pss_cons (ps_if (PW.pt (pw_or (pt_not (pt_val (pe_callB call_isi (by rfl) B.isinstance (by decide +kernel) (pa_cons (pv 0) (pa_cons (pe_bltn (v := .ty "str") (by rfl) B.str (by decide +kernel) rfl) pa_nil))))) (pw_or1 (pt_cmpR op_gt (pe_callB call_len (by rfl) B.len (by decide +kernel) (pa_cons (pv 0) pa_nil)) (pv 1) (nomark _))))) (pss_one (ps_ret pe_bl)) pss_nil)
      (pss_one (ps_ret (pe_callB (cr_all rfl) (by rfl) B.all (by decide +kernel) (pa_cons (pe_lc (own := [("character", 2)]) (by rfl) sc_is_text.nd (pi_str (pv 0)) (blkOk_by (own := [("character", 2)]) (N := ["value", "most", "character"]) (sc := defScope s_is_text) (by decide +kernel)) (fun _ _ _ _ _ => pg_name (i := 2) sc_is_text.nd rfl (.inl rfl)) (fun _ _ _ _ _ => pts_nil) (fun _ _ _ _ _ => (pe_cmpR op_in_sign (pv 2) (pe_cst B.SIGNS (by rfl)) (by rfl)))) pa_nil))))), ?_⟩
    rcases h with ⟨z, rfl, zl, k⟩ | ⟨⟨t, i1, i2⟩, k⟩
    · obtain ⟨t, i1, i2⟩ := Isa.str_str (K := K) (H := H) (z := z)
      refine ⟨_, rfl, _, _, t, _, true, rfl, .ty _, i1, i2, _, rfl, iteF ⟨_, rfl, _, _, rfl, ⟨Nat.le_of_lt (small1000 zl), rfl⟩, _, rfl, _, _, rfl, rfl, _, rfl, ite2 (fun e => ?_) (fun e => ?_)⟩⟩
      · have e1 : ¬ (z.length : Int) ≤ m := by
          have := of_decide_eq_true e
          omega
        have e2 : isTxt z m = false := by
          unfold isTxt
          rw [decide_eq_false e1, Bool.false_and]
        rw [e2] at k
        exact k H (Same.refl H)
      · have e1 : (z.length : Int) ≤ m := by
          have h2 : ¬ m < (z.length : Int) := fun h3 => e (decide_eq_true h3)
          omega
        refine ⟨_, rfl, z, rfl, fun D nD => lc_it walk_str (fun i J => Same H J ∧ J D = some (.lst (((z.cps.toList.take i).map fun c => decide (c ∈ signs.cps.toList)).map V.bl)))
          ⟨same_new nD, by rw [upd_same]; rfl⟩ (fun _ _ _ _ => trivial) ?_ ?_⟩
        · rintro i v J _ hi ⟨sJ, eJ⟩ ⟨rfl, c, hc, rfl⟩
          refine ⟨rfl, yes (iteT ?_)⟩
          refine ⟨_, rfl, c, signs, rfl, rfl, _, eJ, small1000 ?_, ?_, ?_⟩
          · rw [List.length_map, List.length_map, List.length_take]
            have : z.length = z.cps.toList.length := rfl
            omega
          · exact fun b o e => by
              rw [upd_ne (ne_of_none e nD)]
              exact sJ b o e
          · rw [upd_same]
            have hc' : z.cps.toList[i]? = some c := by
              rw [← Array.getElem?_toList] at hc
              exact hc
            rw [List.take_add_one, hc', List.map_append, List.map_append]
            rfl
        · rintro J ⟨sJ, eJ⟩
          refine ⟨D, ((z.cps.toList.take z.cps.size).map fun c => decide (c ∈ signs.cps.toList)), rfl, .inl (.inl eJ), ?_⟩
          have e2 : ((z.cps.toList.take z.cps.size).map fun c => decide (c ∈ signs.cps.toList)).all id = isTxt z m := by
            unfold isTxt
            rw [decide_eq_true e1, Bool.true_and, List.take_of_length_le (show z.cps.toList.length ≤ z.cps.size from Nat.le_refl _), List.all_map]
            rfl
          rw [e2]
          exact k J sJ
    · refine ⟨_, rfl, _, _, t, _, false, rfl, .ty _, i1, i2, _, rfl, iteT (iteT k)⟩
end
end Gu
namespace Gu
open PySem PySem.Spec PyProof.Rows L2
/-! ### is_tuple -/
theorem isaTupP {K : PySem.W.Frag} {H : Hp} {l : Addr} {xs : List V} (h : SqT K H l xs) : Isa K H (.ref l) "tuple" true := by
  rcases h with (h | ⟨o, h⟩) | ⟨o, its, n, e, c, _⟩
  · exact ⟨_, .base (.tup h), kit_ty (by decide +kernel)⟩
  · exact ⟨_, .fTuple h, kit_ty (by decide +kernel)⟩
  · exact ⟨_, .kTuple e c, kit_ty (by decide +kernel)⟩
section
variable {P : Program} {w : World} {K : PySem.W.Frag} {mg : Str → Option Value} {base : Heap} {C : Addr}
def spIsTuple (K : PySem.W.Frag) : Sp := fun vs H Q _ => ∃ (x : V) (a b : Int), vs = [x, .int a, .int b] ∧
  ((∃ (l : Addr) (xs : List V), x = .ref l ∧ SqT K H l xs ∧ Q (.bl (decide (a ≤ (xs.length : Int) ∧ (xs.length : Int) ≤ b))) H) ∨ (Isa K H x "tuple" false ∧ Q (.bl false) H))
theorem cal_isTuple (B : Bi mg) (D : At K mg "is_tuple" s_is_tuple ps_is_tuple) : Cal P w K mg base 1 "is_tuple" ps_is_tuple (spIsTuple K) := by
  refine D.cal sc_is_tuple (fun vs H Q E h => ?_) (fun f cdv A outer s H vs Q E hr h => ?_)
  · obtain ⟨x, a, b, rfl, _⟩ := h
    rfl
  · obtain ⟨x, a, b, rfl, h⟩ := h
    refine ⟨_, (pss_one (ps_ret (pe_and (pe_callB call_isi (by rfl) B.isinstance (by decide +kernel) (pa_cons (pv 0) (pa_cons (pe_bltn (v := .ty "tuple") (by rfl) B.tuple (by decide +kernel) rfl) pa_nil))) (pe_one (pe_chain op_le op_le (pv 1) (pe_callB call_len (by rfl) B.len (by decide +kernel) (pa_cons (pv 0) pa_nil)) (pv 2)))))), ?_⟩
    rcases h with ⟨l, xs, rfl, hT, k⟩ | ⟨⟨t, i1, i2⟩, k⟩
    · obtain ⟨t, i1, i2⟩ := isaTupP hT
      refine ⟨_, rfl, _, _, t, _, true, rfl, .ty _, i1, i2, _, rfl, iteT ?_⟩
      refine ⟨_, rfl, _, rfl, _, _, rfl, .inr ⟨_, hT, rfl⟩, _, _, rfl, rfl, _, rfl, ?_⟩
      by_cases e1 : a ≤ (xs.length : Int)
      · rw [decide_eq_true e1]
        refine iteT ⟨_, rfl, _, _, rfl, rfl, ?_⟩
        have e : decide (a ≤ (xs.length : Int) ∧ (xs.length : Int) ≤ b) = decide ((xs.length : Int) ≤ b) := by simp only [e1, true_and]
        rw [e] at k
        exact k
      · rw [decide_eq_false e1]
        refine iteF ?_
        have e : decide (a ≤ (xs.length : Int) ∧ (xs.length : Int) ≤ b) = false := by simp only [e1, false_and, decide_false]
        rw [e] at k
        exact k
    · exact ⟨_, rfl, _, _, t, _, false, rfl, .ty _, i1, i2, _, rfl, iteF k⟩
end
end Gu
namespace Gu
open PySem PySem.Spec PyProof.Rows L2
/-! ### the class Shortener, its __init__ -/
def flds (r : Rec) (b : Addr) : List (Str × V) := putF "told" (.ref b) (putF "mark" (.str r.z) (putF "tail" (.int r.t) (putF "head" (.int r.h) (putF "limit" (.int r.l) []))))
theorem flds_limit (r : Rec) (b : Addr) : (flds r b).lookup ("limit" : Str) = some (.int r.l) := by
  unfold flds
  rw [lookup_putF, if_neg (by decide +kernel), lookup_putF, if_neg (by decide +kernel), lookup_putF, if_neg (by decide +kernel), lookup_putF, if_neg (by decide +kernel), lookup_putF, if_pos rfl]
theorem flds_head (r : Rec) (b : Addr) : (flds r b).lookup ("head" : Str) = some (.int r.h) := by
  unfold flds
  rw [lookup_putF, if_neg (by decide +kernel), lookup_putF, if_neg (by decide +kernel), lookup_putF, if_neg (by decide +kernel), lookup_putF, if_pos rfl]
theorem flds_tail (r : Rec) (b : Addr) : (flds r b).lookup ("tail" : Str) = some (.int r.t) := by
  unfold flds
  rw [lookup_putF, if_neg (by decide +kernel), lookup_putF, if_neg (by decide +kernel), lookup_putF, if_pos rfl]
theorem flds_mark (r : Rec) (b : Addr) : (flds r b).lookup ("mark" : Str) = some (.str r.z) := by
  unfold flds
  rw [lookup_putF, if_neg (by decide +kernel), lookup_putF, if_pos rfl]
theorem flds_told (r : Rec) (b : Addr) : (flds r b).lookup ("told" : Str) = some (.ref b) := by
  unfold flds
  rw [lookup_putF, if_pos rfl]
/-- what a Shortener may be made of -/
structure Rec.fit (r : Rec) : Prop where
  l : 0 ≤ r.l ∧ r.l ≤ 40
  h : 0 ≤ r.h ∧ r.h ≤ 40
  t : 0 ≤ r.t ∧ r.t ≤ 40
  z : isTxt r.z 3 = true
theorem isTxt_len {z : Str} {m : Int} (h : isTxt z m = true) : (z.length : Int) ≤ m := by
  unfold isTxt at h
  rw [Bool.and_eq_true] at h
  exact of_decide_eq_true h.1
theorem Rec.ok.fit {r : Rec} (o : r.ok) : r.fit := by
  have a : ∀ y ∈ marks, isTxt y 3 = true := by decide +kernel
  exact ⟨⟨o.l0, o.l1⟩, ⟨o.h0, o.h1⟩, ⟨o.t0, o.t1⟩, a _ o.z⟩
/-- the class as the top has left it -/
structure ShC (K : PySem.W.Frag) (mg : Str → Option Value) (C : Addr) : Prop where
  cl : Cls K C
  nL : NoAttr K C "limit"
  nH : NoAttr K C "head"
  nT : NoAttr K C "tail"
  nM : NoAttr K C "mark"
  nD : NoAttr K C "told"
  g : mg "Shortener" = some (.ref C)
  ha : PySem.W.findIn K (.ref C) "__class__" = some (some (.builtin "object.__class__"))
  hn : PySem.W.specialIn K (.builtin "object.__class__") "__get__" = some (some (.builtin "getset_descriptor.__get__"))
  ht : PySem.W.takesIn K (.builtin "object.__class__") = some true
  hm : PySem.W.mroIn K C (.type "object") = some true
  kk : PySem.W.kitOne K (.ref C) (.ref C) = some true
structure InitAt (K : PySem.W.Frag) (C : Addr) : Prop where
  ex : ∃ (f : Addr) (fd : FuncData), Mk K C f ∧ Fun K "__init__" "Shortener.__init__" s_Shortener_init f fd ∧ Binds K fd ps_Shortener_init []
structure Mak (P : Program) (w : World) (K : PySem.W.Frag) (mg : Str → Option Value) (base : Heap) (k : Nat) (x : Str) (C : Addr) (sp : Sp) : Prop where
  ex : ∃ (f : Addr) (fd : FuncData) (ps : List Str), Mk K C f ∧ FnOk P w K mg base CX0 k f fd ps sp ∧ mg x = some (.ref C) ∧ Binds K fd ps []
section
variable {X : Cx} {k j : Nat} {x : Str} {C : Addr} {sp : Sp} {p pos : Pos} {e : Expr} {es : List Expr} {t : TA}
theorem pe_new (c : Mak X.prog X.w X.K X.mg X.base k x C sp) (hr : Room j X.A) (hk : k + 1 ≤ j) (hg : Gl X x) (ha : PA X (e :: es) t)
    (hdb : (x == ("__debug__" : Str)) = false := by decide) (he : starEach (e :: es) X.env = (false, eval e X.env) :: starEach es X.env := by rfl) (hpl : (backTo pos (starEach es X.env)).any (·.1) = false := by rfl) :
    PE X (.Call (.Name x p) (e :: es) [] pos) (tMake C sp [] E0 t) := by
  obtain ⟨f, fd, ps, M, F, hm, b⟩ := c.ex
  exact pe_make M F (hr.mono hk) hg hm b .nil pass0 ha hdb he hpl
end
section
variable {P : Program} {w : World} {K : PySem.W.Frag} {mg : Str → Option Value} {base : Heap} {C : Addr}
def spCheckMark : Sp := fun vs H Q _ => ∃ (z : Str), vs = [.str z] ∧ isTxt z 3 = true ∧ ∀ G, Same H G → Q .non G
theorem cal_checkMark (B : Bi mg) (D : At K mg "check_mark" s_check_mark ps_check_mark) (C_is_text : Cal P w K mg base 1 "is_text" ps_is_text (spIsText K)) : Cal P w K mg base 2 "check_mark" ps_check_mark spCheckMark := by
  refine D.cal sc_check_mark (fun vs H Q E h => ?_) (fun f cdv A outer s H vs Q E hr h => ?_)
  · obtain ⟨z, rfl, _⟩ := h
    rfl
  · obtain ⟨z, rfl, hz, k⟩ := h
    have zl := isTxt_len hz
    refine ⟨_, (pss_one (ps_if (pt_not (pt_val (pe_own C_is_text hr (by decide) (by rfl) (pa_cons (pv 0) (pa_cons (pe_cst B.MOST_MARK (by rfl)) pa_nil))))) pss_never pss_nil)), ?_⟩
    refine ⟨_, rfl, _, _, rfl, .inl ⟨z, rfl, by omega, fun G sG => ⟨_, rfl, ?_⟩⟩⟩
    rw [hz]
    exact iteF (k G sG)
def spInit (C : Addr) : Sp := fun vs H Q _ => ∃ (x dx : Addr) (r : Rec), vs = [.ref x, .int r.l, .int r.h, .int r.t, .str r.z] ∧ H x = some (.ins C dx []) ∧ r.fit ∧
  ∀ (b : Addr) (G : Hp), H b = none → G x = some (.ins C dx (flds r b)) → G b = some (.tup r.vs) → (∀ c o, H c = some o → c ≠ x → G c = some o) → Q .non G
theorem ok_init {f : Addr} {fd : FuncData} (B : Bi mg) (S : ShC K mg C) (F : Fun K "__init__" "Shortener.__init__" s_Shortener_init f fd) (C_is_integer : Cal P w K mg base 1 "is_integer" ps_is_integer (spIsInteger K)) (C_check_mark : Cal P w K mg base 2 "check_mark" ps_check_mark spCheckMark) : FnOk P w K mg base CX0 3 f fd ps_Shortener_init (spInit C) := by
  refine F.ok sc_Shortener_init (fun vs H Q E h => ?_) (fun cdv A outer s H vs Q E hr h => ?_)
  · obtain ⟨x, dx, r, rfl, _⟩ := h
    rfl
  · obtain ⟨x, dx, r, rfl, hx, fit, k⟩ := h
    refine ⟨_, (pss_cons (ps_for PassesOwn.never rfl (pi_tup (pe_tup (pa_cons (pv 1) (pa_cons (pv 2) (pa_cons (pv 3) pa_nil))))) (pg_name (i := 5) sc_Shortener_init.nd rfl (.inl rfl))
      (pss_one (ps_if (pt_not (pt_val (pe_own C_is_integer hr (by decide) (by rfl) (pa_cons (pv 5) (pa_cons pe_int (pa_cons (pe_cst B.MOST_SIGNS (by rfl)) pa_nil)))))) pss_never pss_nil)))
      (pss_cons (ps_expr (pe_own C_check_mark hr (by decide) (by rfl) (pa_cons (pv 4) pa_nil)))
      (pss_cons (ps_fld (pv 0) (pv 1) rfl)
      (pss_cons (ps_fld (pv 0) (pv 2) rfl)
      (pss_cons (ps_fld (pv 0) (pv 3) rfl)
      (pss_cons (ps_fld (pv 0) (pv 4) rfl)
      (pss_one (ps_fld (pv 0) (pe_tup (pa_cons (pv 1) (pa_cons (pv 2) (pa_cons (pv 3) (pa_cons (pv 4) pa_nil))))) rfl)))))))), ?_⟩
    refine ⟨_, rfl, _, rfl, _, rfl, by show 3 ≤ sizeLine; decide, fun T nT => ?_⟩
    have nxT : x ≠ T := ne_of_none hx nT
    have hxT : upd H T (.tup [.int r.l, .int r.h, .int r.t]) x = some (.ins C dx []) := by rw [upd_ne nxT]; exact hx
    refine ⟨T, rfl, ⟨_, .inl (.inl upd_same)⟩, for_tup (K := K) (a := T) (xs := [.int r.l, .int r.h, .int r.t]) (fun i σ J => ∃ u, σ = [some (.ref x), some (.int r.l), some (.int r.h), some (.int r.t), some (.str r.z), u] ∧ J = upd H T (.tup [.int r.l, .int r.h, .int r.t]))
      ⟨none, rfl, rfl⟩ (fun i σ J _ ⟨_, _, e⟩ => by rw [e]; exact .inl (.inl upd_same)) ?_ ?_⟩
    · rintro i v σ J hi ⟨u, rfl, rfl⟩
      obtain ⟨n, n0, n1, rfl⟩ : ∃ n : Int, 0 ≤ n ∧ n ≤ 40 ∧ v = .int n := by
        have hv := List.mem_of_getElem? hi
        simp only [List.mem_cons, List.not_mem_nil, or_false] at hv
        rcases hv with rfl | rfl | rfl
        · exact ⟨_, fit.l.1, fit.l.2, rfl⟩
        · exact ⟨_, fit.h.1, fit.h.2, rfl⟩
        · exact ⟨_, fit.t.1, fit.t.2, rfl⟩
      refine ⟨_, rfl, _, _, _, rfl, .inl ⟨_, rfl, _, rfl, ?_⟩⟩
      rw [decide_eq_true ⟨n0, n1⟩]
      exact iteF ⟨_, rfl, rfl⟩
    · rintro σ J ⟨u, rfl, rfl⟩
      refine ⟨_, rfl, _, rfl, fit.z, fun G sG => ?_⟩
      have g0 : G x = some (.ins C dx []) := sG _ _ hxT
      refine ⟨_, rfl, _, rfl, x, C, dx, [], rfl, g0, S.cl, S.nL, by decide, ?_⟩
      refine ⟨_, rfl, _, rfl, x, C, dx, _, rfl, upd_same, S.cl, S.nH, by exact Nat.lt_of_le_of_lt (length_putF _ _ _) (by decide), ?_⟩
      rw [upd_upd]
      refine ⟨_, rfl, _, rfl, x, C, dx, _, rfl, upd_same, S.cl, S.nT, by exact Nat.lt_of_le_of_lt (length_putF _ _ _) (Nat.lt_of_le_of_lt (Nat.succ_le_succ (length_putF _ _ _)) (by decide)), ?_⟩
      rw [upd_upd]
      refine ⟨_, rfl, _, rfl, x, C, dx, _, rfl, upd_same, S.cl, S.nM, by exact Nat.lt_of_le_of_lt (length_putF _ _ _) (Nat.lt_of_le_of_lt (Nat.succ_le_succ (Nat.le_trans (length_putF _ _ _) (Nat.succ_le_succ (length_putF _ _ _)))) (by decide)), ?_⟩
      rw [upd_upd]
      refine ⟨_, rfl, _, rfl, _, rfl, _, rfl, by show 4 ≤ sizeLine; decide, fun b nb => ?_⟩
      have nxb : x ≠ b := ne_of_none upd_same nb
      refine ⟨_, rfl, x, C, dx, _, rfl, (by rw [upd_ne nxb, upd_same]), S.cl, S.nD, by exact Nat.lt_of_le_of_lt (length_putF _ _ _) (Nat.lt_of_le_of_lt (Nat.succ_le_succ (Nat.le_trans (length_putF _ _ _) (Nat.succ_le_succ (Nat.le_trans (length_putF _ _ _) (Nat.succ_le_succ (length_putF _ _ _)))))) (by decide)), ?_⟩
      have nb1 : G b = none := by rw [upd_ne nxb.symm] at nb; exact nb
      have nb0 : H b = none := (same_new nT).free (sG.free nb1)
      refine k b _ nb0 upd_same (by rw [upd_ne nxb.symm, upd_same]; rfl) fun c o e nc => ?_
      rw [upd_ne nc, upd_ne (ne_of_none e nb0), upd_ne nc]
      exact sG _ _ (same_new nT _ _ e)
theorem mak_sh (B : Bi mg) (S : ShC K mg C) (D : InitAt K C) (C_is_integer : Cal P w K mg base 1 "is_integer" ps_is_integer (spIsInteger K)) (C_check_mark : Cal P w K mg base 2 "check_mark" ps_check_mark spCheckMark) : Mak P w K mg base 3 "Shortener" C (spInit C) := by
  obtain ⟨f, fd, M, F, b⟩ := D.ex
  exact ⟨f, fd, ps_Shortener_init, M, ok_init B S F C_is_integer C_check_mark, S.g, b⟩
end
end Gu
namespace PySem
open Sem (wp)
open AutoSeq1 (wpAny_loadPart')
theorem gu_new_enum (a : Addr) (vs : Array Value) (n : Nat) (dt : Option Addr) (sl : Array (Option Value)) : Meets (Builtin.«enumerate.__new__» ⟨[.type "enumerate", .ref a], []⟩) (fun _ R s =>
    s.heap.get? a = some ⟨.type "tuple", dt, .seq vs n, sl⟩ ∧ R (.ok (.ret (.ref (s.heap.push { cls := .type "tuple_iterator", data := .fields #[.ref a, .int 0 0] }).objs.size))) { s with heap := (s.heap.push { cls := .type "tuple_iterator", data := .fields #[.ref a, .int 0 0] }).push { cls := .type "enumerate", data := .fields #[.none, .bool false, .ref s.heap.objs.size, rawInt 0, .none, .none] } }) :=
  .of_wp fun prog w A R s h => by
    obtain ⟨s1, s2, s3, s4, s5⟩ := s
    obtain ⟨ha, h⟩ := h
    have sb := sub_enumerate
    have hT : Heap.IsTuple (Shared.heap ⟨s1, s2, s3, s4, s5⟩) a vs := ⟨_, ha, rfl, n, rfl⟩
    wp_walk using wpAny_loadPart' ha
    refine wpAny_stack_any fun fr => wpAny_pure ?_
    split
    · next c _ _ _ _ _ =>
      cases (c == Value.type "enumerate") <;> (wp_walk using wpAny_loadPart' ha, wpAny_pyIter_tuple hT; exact ⟨_, rfl, h⟩)
    · wp_walk using wpAny_loadPart' ha, wpAny_pyIter_tuple hT
      exact ⟨_, rfl, h⟩
section
variable {prog : Program} {w : World} {A : Around} {E : Value → Shared → Prop} {s : Shared}
theorem gu_call_enum {a : Addr} {vs : Array Value} {Q : Value → Shared → Prop} (hT : s.heap.IsTuple a vs)
    (h : ∀ g, IsEnum g (s.heap.objs.size + 1) s.heap.objs.size 0 .none → g.IsTupleIter s.heap.objs.size a 0 → (∀ b o, s.heap.get? b = some o → g.get? b = some o) → Q (.ref (s.heap.objs.size + 1)) { s with heap := g }) :
    wpAny (model prog w) A (call (.type "enumerate") [.ref a]) Q E s := by
  obtain ⟨⟨oc, od, dd, sl⟩, ha, hc, n, hd⟩ := hT
  cases (show oc = .type "tuple" from hc)
  cases (show dd = .seq vs n from hd)
  refine callType_new F.called_enumerate (by decide) (F.typeCall_enumerate_1 _) (F.newCall_enumerate_1 _) (fun o => F.args_object_init_2 o _) F.entry_enumerate_new (gu_new_enum a vs n od sl) ⟨ha, ?_⟩
  have z1 : (s.heap.push { cls := .type "tuple_iterator", data := .fields #[.ref a, .int 0 0] }).objs.size = s.heap.objs.size + 1 := Heap.size_push ..
  show _ ∧ _
  rw [z1]
  have en : IsEnum ((s.heap.push { cls := .type "tuple_iterator", data := .fields #[.ref a, .int 0 0] }).push { cls := .type "enumerate", data := .fields #[.none, .bool false, .ref s.heap.objs.size, rawInt 0, .none, .none] }) (s.heap.objs.size + 1) s.heap.objs.size 0 .none := by
    have q := Heap.get?_push_size (s.heap.push { cls := .type "tuple_iterator", data := .fields #[.ref a, .int 0 0] }) (o := { cls := .type "enumerate", data := .fields #[.none, .bool false, .ref s.heap.objs.size, rawInt 0, .none, .none] }) rfl
    rw [z1] at q
    exact q
  exact ⟨⟨_, en, rfl⟩, h _ en ⟨_, Heap.get?_push_of_some _ (Heap.get?_push_size _ rfl), rfl, rfl⟩ fun b o x => Heap.get?_push_of_some _ (Heap.get?_push_of_some _ x)⟩
end
end PySem
namespace Gu
open PySem PySem.Spec PyProof.Rows L2
/-- the tuple at a, each item in a new pair with its place -/
def EnT (K : PySem.W.Frag) (a : Addr) : It where
  go := fun i H => ∃ (xs : List V) (x : V), SqT K H a xs ∧ xs[i]? = some x
  yld := fun i H v G => ∃ T x, v = .ref T ∧ H T = none ∧ G = upd H T (.tup [.int (i : Nat), x]) ∧ ∀ xs, SqT K H a xs → xs[i]? = some x
  stop := fun i H => ∃ xs : List V, SqT K H a xs ∧ xs.length = i
theorem turn_enT {P : Program} {w : World} {K : PySem.W.Frag} {es : List Expr} {kk : Nat} {tp : Pos} (a e it : Addr) :
    Turn P w K (.Tuple es kk tp) (EnT K a) [e, it] e (fun i h => (∃ old, IsEnum h e it ((i : Nat) : Int) old) ∧ h.IsTupleIter it a i ∧ e ≠ it) where
  mem := List.mem_cons_self ..
  obj := fun i h st b hb => by
    obtain ⟨⟨old, he⟩, ⟨o, ho, hc, hd⟩, _⟩ := st
    simp only [List.mem_cons, List.not_mem_nil, or_false] at hb
    rcases hb with rfl | rfl
    · exact ⟨_, he, fun v q => nomatch q⟩
    · exact ⟨o, ho, fun v q => by rw [hd] at q; cases q⟩
  keep := fun i h g st k => by
    obtain ⟨⟨old, he⟩, hi, ne⟩ := st
    exact ⟨⟨old, k e (by simp) _ he⟩, hi.at fun o q => k it (by simp) o q, ne⟩
  item := by
    intro X hP hw hK hc i pins s σ H E I hf st hg
    subst hP hw hK
    obtain ⟨⟨old, he⟩, hit, ne⟩ := st
    obtain ⟨xs, x, hq, hx⟩ := hg
    obtain ⟨its, rv, tp, hz⟩ := I.tuple hq
    obtain ⟨u, hu, ru⟩ := rv.get hx
    have el : e < s.heap.objs.size := Heap.lt_size he
    have il : it < s.heap.objs.size := by
      obtain ⟨_, q, _⟩ := hit
      exact Heap.lt_size q
    have tp' : s.heap.IsTuple a its.toArray := tp
    have nai : a ≠ it := fun z => by
      obtain ⟨o1, g1, c1, _⟩ := tp'
      obtain ⟨o2, g2, c2, _⟩ := hit
      rw [z] at g1
      cases g1.symm.trans g2
      exact absurd (Value.type.inj (c1.symm.trans c2)) (by decide)
    have nea : e ≠ a := fun z => by
      obtain ⟨o1, g1, c1, _⟩ := tp'
      have g2 := he
      rw [z] at g2
      cases g1.symm.trans g2
      exact absurd (Value.type.inj c1) (by decide)
    have hd : X.A.in1.handled = none := I.ok.hd hc
    refine wpAny_pyNext_enum_itemD (Draws.tuple hd it a nai its.toArray) he ⟨hit, tp'⟩ (i := i) (by
      have := (List.getElem?_eq_some_iff.mp hu).1
      simpa using this) ne (by simp [ne, nea]) fun y g tk hy ho st' hT hsz hk => ?_
    have ey : y = u := by
      have : its[i]? = some y := by simpa using hy
      rw [hu] at this
      exact (Option.some.inj this).symm
    subst ey
    refine ⟨_, rfl, wpAny_letOwnedTupleGo_enum (s := { s with heap := g, toks := tk + 1 }) ho fun g2 he' sb => ?_⟩
    have hT2 : g2.get? s.heap.objs.size = some { cls := .type "tuple", data := .seq #[.int i tk, y] } := (sb.2 _ (Nat.ne_of_gt el)).trans hT
    have nw : ObjOk X.prog X.w (upd H s.heap.objs.size (.tup [.int (i : Nat), x])) g2 s.heap.objs.size (.tup [.int (i : Nat), x]) := ⟨by show 2 ≤ sizeLine; decide, [.int i tk, y], .cons ⟨_, rfl⟩ (.cons ru .nil), ⟨_, hT2, rfl, _, rfl⟩⟩
    have I1 : Inv X pins σ (upd H s.heap.objs.size (.tup [.int (i : Nat), x])) { s with heap := g2, toks := tk + 1 } :=
      I.turnedNew (ch := [e, it]) (fun b ob hb q => (sb.2 b (fun z => hb (by simp [z]))).trans (hk b ob (fun z => hb (by simp [z])) (fun z => hb (by simp [z])) q)) hf (Nat.le_refl _) nw
    refine ⟨.ref s.heap.objs.size, _, I1, rfl, ⟨_, x, rfl, I.hok.fresh (Nat.le_refl _), rfl, fun ys hy => by rw [I.tuple_inj hy hq]; exact hx⟩, ⟨⟨y, ?_⟩, st'.1.at fun o q => (sb.2 it (Ne.symm ne)).trans q, ne⟩, fun b hb => ?_⟩
    · rw [show ((i + 1 : Nat) : Int) = (i : Int) + 1 by omega]
      exact he'
    · have hb' : b < s.heap.objs.size := by
        simp only [List.mem_cons, List.not_mem_nil, or_false] at hb
        rcases hb with rfl | rfl
        · exact el
        · exact il
      rw [upd_ne (Nat.ne_of_lt hb')]
      exact (hf b hb).1
  done := by
    intro X hP hw hK hc i pins s σ H E I hf st hg
    subst hP hw hK
    obtain ⟨⟨old, he⟩, hit, ne⟩ := st
    obtain ⟨xs, hq, hx⟩ := hg
    obtain ⟨its, rv, tp, hz⟩ := I.tuple hq
    have tp' : s.heap.IsTuple a its.toArray := tp
    have nai : a ≠ it := fun z => by
      obtain ⟨o1, g1, c1, _⟩ := tp'
      obtain ⟨o2, g2, c2, _⟩ := hit
      rw [z] at g1
      cases g1.symm.trans g2
      exact absurd (Value.type.inj (c1.symm.trans c2)) (by decide)
    have hd : X.A.in1.handled = none := I.ok.hd hc
    have en : its.toArray.size = i := by
      have := rv.length
      simp only [List.size_toArray]
      omega
    obtain ⟨f0, f1, f2, f3, f4, f5⟩ := hf it (by simp)
    exact wpAny_pyNext_enum_endD (Draws.tuple hd it a nai its.toArray) he ⟨by rw [en]; exact hit, tp'⟩ fun g eb => ⟨rfl, I.turned (t' := s.toks) (fun b o hb q => eb b o hb q) f0 f1 f3 f4 f5⟩
  self := fun A i s Q E st h => by
    obtain ⟨⟨_, he⟩, _⟩ := st
    exact wpAny_pyIter_enum he h
def iEnT (K : PySem.W.Frag) (ta : TA) : TI := fun σ H R => ta σ H fun vs G => ∃ a xs, vs = [.ref a] ∧ SqT K G a xs ∧ R (EnT K a) G
theorem pi_enT {X : Cx} {e : Expr} {ta : TA} {p pos tp : Pos} {es : List Expr} {kk : Nat} (hg : Gl X "enumerate") (hm : X.mg "enumerate" = none) (ha : PA X [e] ta) (hs : starEach [e] X.env = [(false, eval e X.env)] := by rfl) :
    PI X (.Tuple es kk tp) (.Call (.Name "enumerate" p) [e] [] pos) (iEnT X.K ta) := by
  refine ⟨fun pins s σ H R I h => ?_⟩
  refine Call_ (ld_blt I hg hm boot_enumerate (PyProof.Rows.callWith_type1 (thn (ha.run pos pins s σ H _ I h) fun us s1 ⟨vs, G, I1, r1, q1⟩ => ?_) hs rfl))
  obtain ⟨a, xs, ex, hq, q⟩ := q1
  subst ex
  cases r1 with
  | cons r rr =>
    cases rr
    cases r
    obtain ⟨its, rv, tq, hz⟩ := I1.tuple hq
    refine gu_call_enum (show s1.heap.IsTuple a its.toArray from tq) fun g he hit hk => wpAny_pyIter_enum he ?_
    have I2 : Inv X pins σ G { s1 with heap := g } := I1.kept (t' := s1.toks) hk
    refine ⟨s1.heap.objs.size + 1, [s1.heap.objs.size + 1, s1.heap.objs.size], _, _, G, rfl, I2, turn_enT a (s1.heap.objs.size + 1) s1.heap.objs.size, ⟨⟨.none, he⟩, hit, Nat.succ_ne_self _⟩, fun b hb => ?_, q⟩
    have le : s1.heap.objs.size ≤ b := by
      simp only [List.mem_cons, List.not_mem_nil, or_false] at hb
      rcases hb with rfl | rfl
      · exact Nat.le_add_right _ _
      · exact Nat.le_refl _
    exact I1.fpOk le (I1.hok.fresh le)
/-- the walk of such a loop: a new pair each turn -/
theorem walk_enT {K : PySem.W.Frag} {a : Addr} {xs : List V} : Walk (EnT K a) xs.length (fun H => SqT K H a xs) (fun i H v G => ∃ T x, xs[i]? = some x ∧ v = .ref T ∧ H T = none ∧ G = upd H T (.tup [.int (i : Nat), x])) where
  goes := fun i H hi h => ⟨xs, xs[i], h, List.getElem?_eq_getElem hi⟩
  stops := fun H h => ⟨xs, h, rfl⟩
  yields := fun i H v G hi h ⟨T, x, e1, e2, e3, e4⟩ => ⟨T, x, e4 xs h, e1, e2, e3⟩
end Gu
namespace Gu
open PySem PySem.Spec PyProof.Rows L2
/-! ### what is cut, as lists -/
def cut {α : Type} (l h t : Nat) (m xs : List α) : List α := if xs.length ≤ l then xs else xs.take h ++ m ++ xs.drop (xs.length - t)
theorem cut_front {α : Type} (xs : List α) {h : Int} (h0 : 0 ≤ h) : (xs.drop (HT.sIx xs.length 0 none)).take (HT.sIx xs.length xs.length (some h) - HT.sIx xs.length 0 none) = xs.take h.toNat := by
  obtain ⟨k, rfl⟩ := Int.eq_ofNat_of_zero_le h0
  rw [HT.sIx_none, HT.sIx_nat, List.drop_zero, Nat.sub_zero, Int.toNat_natCast, List.take_eq_take_iff]
  omega
theorem cut_back {α : Type} (xs : List α) {h : Int} (h0 : 0 ≤ h) : (xs.drop (HT.sIx xs.length 0 (some h))).take (HT.sIx xs.length xs.length none - HT.sIx xs.length 0 (some h)) = xs.drop h.toNat := by
  obtain ⟨k, rfl⟩ := Int.eq_ofNat_of_zero_le h0
  rw [HT.sIx_none, HT.sIx_nat, Int.toNat_natCast]
  rw [List.take_of_length_le (by rw [List.length_drop]; omega)]
  by_cases e : k ≤ xs.length
  · rw [Nat.min_eq_left e]
  · rw [Nat.min_eq_right (by omega), List.drop_length, List.drop_eq_nil_of_le (by omega)]
theorem cut_length {α : Type} {l h t : Nat} {m xs : List α} : (cut l h t m xs).length ≤ max xs.length (h + m.length + t) := by
  unfold cut
  split
  · omega
  · rw [List.length_append, List.length_append, List.length_take, List.length_drop]
    omega
theorem app_cps (a b : Str) : (a ++ b).cps.toList = a.cps.toList ++ b.cps.toList := by
  show (a.cps ++ b.cps).toList = _
  rw [Array.toList_append]
def Rec.cut (r : Rec) (xs : List Nat) : List Nat := Gu.cut r.l.toNat r.h.toNat r.t.toNat r.z.cps.toList xs
def cuts (rs : List Rec) (xs : List Nat) : List Nat := rs.foldl (fun acc r => r.cut acc) xs
theorem Rec.fit.zl {r : Rec} (f : r.fit) : r.z.cps.toList.length ≤ 3 := by
  have h := isTxt_len f.z
  have e : r.z.length = r.z.cps.toList.length := rfl
  omega
theorem Rec.fit.cut_len {r : Rec} (f : r.fit) {xs : List Nat} (h : xs.length ≤ 200) : (r.cut xs).length ≤ 200 := by
  have a : (r.cut xs).length ≤ _ := cut_length
  have b := f.zl
  have c := f.h
  have d := f.t
  omega
/-! ### shorteners and rows in the heap -/
def ShAt (C : Addr) (H : Hp) (x : Addr) (r : Rec) : Prop := ∃ dx b, H x = some (.ins C dx (flds r b)) ∧ H b = some (.tup r.vs)
structure RowAt (C : Addr) (H : Hp) (a : Addr) (rs : List (Addr × Rec)) : Prop where
  tp : H a = some (.tup (rs.map fun q => V.ref q.1))
  sh : ∀ q ∈ rs, ShAt C H q.1 q.2 ∧ q.2.fit
theorem ShAt.same {C : Addr} {H G : Hp} {x : Addr} {r : Rec} (s : Same H G) (h : ShAt C H x r) : ShAt C G x r := by
  obtain ⟨dx, b, h1, h2⟩ := h
  exact ⟨dx, b, s _ _ h1, s _ _ h2⟩
theorem RowAt.same {C : Addr} {H G : Hp} {a : Addr} {rs : List (Addr × Rec)} (s : Same H G) (h : RowAt C H a rs) : RowAt C G a rs := ⟨s _ _ h.tp, fun q hq => ⟨(h.sh q hq).1.same s, (h.sh q hq).2⟩⟩
section
variable {P : Program} {w : World} {K : PySem.W.Frag} {mg : Str → Option Value} {base : Heap} {C : Addr}
/-! ### check_row, check_text -/
def spCheckRow (C : Addr) : Sp := fun vs H Q _ => ∃ (a : Addr) (rs : List (Addr × Rec)), vs = [.ref a] ∧ RowAt C H a rs ∧ 1 ≤ rs.length ∧ rs.length ≤ 4 ∧ ∀ G, Same H G → Q .non G
def spCheckText : Sp := fun vs H Q _ => ∃ (z : Str), vs = [.str z] ∧ isTxt z 200 = true ∧ ∀ G, Same H G → Q .non G
/-! ### shortened: of a text -/
def spShortS (C : Addr) : Sp := fun vs H Q _ => ∃ (x : Addr) (r : Rec) (z : Str), vs = [.ref x, .str z, .str r.z] ∧ ShAt C H x r ∧ r.fit ∧ z.length ≤ 1000 ∧ ∀ y : Str, y.cps.toList = r.cut z.cps.toList → Q (.str y) H
theorem cal_shortS (B : Bi mg) (S : ShC K mg C) (D : At K mg "shortened" s_shortened ps_shortened) : Cal P w K mg base 1 "shortened" ps_shortened (spShortS C) := by
  refine D.cal sc_shortened (fun vs H Q E h => ?_) (fun f cdv A outer s H vs Q E hr h => ?_)
  · obtain ⟨x, r, z, rfl, _⟩ := h
    rfl
  · obtain ⟨x, r, z, rfl, ⟨dx, b, hx, _⟩, fit, zl, k⟩ := h
    have ez : z.length = z.cps.toList.length := rfl
    have zs : z.length ≤ sizeLine := Nat.le_of_lt (small1000 zl)
    have f1 := fit.l
    have f2 := fit.h
    have f3 := fit.t
    have f4 := fit.zl
    refine ⟨_, (pss_cons (ps_if (pt_cmpR op_le (pe_callB call_len (by rfl) B.len (by decide +kernel) (pa_cons (pv 1) pa_nil)) (pe_fld (pv 0) rfl) (nomark _)) (pss_one (ps_ret (pv 1))) pss_nil)
      (pss_cons (ps_set (i := 3) sc_shortened.nd rfl (.inl rfl) (pe_callB (call_max2 rfl) (by rfl) B.max (by decide +kernel) (pa_cons pe_int (pa_cons (pe_op op_sub (pe_callB call_len (by rfl) B.len (by decide +kernel) (pa_cons (pv 1) pa_nil)) (pe_fld (pv 0) rfl)) pa_nil))))
      (pss_one (ps_ret (pe_op op_add_str (pe_op op_add_str (pe_slice sl_str (pv 1) po_none (po_some (pe_fld (pv 0) rfl))) (pv 2)) (pe_slice sl_str (pv 1) (po_some (pv 3)) po_none)))))), ?_⟩
    refine ⟨_, rfl, _, _, rfl, ⟨zs, rfl⟩, _, rfl, x, C, dx, _, _, rfl, hx, S.cl, S.nL, flds_limit _ _, _, _, rfl, rfl, _, rfl, ite2 (fun e => ?_) (fun e => ?_)⟩
    · have e1 := of_decide_eq_true e
      refine ⟨_, rfl, k z ?_⟩
      unfold Rec.cut cut
      rw [if_pos (by omega)]
    · have e1 : ¬ (z.length : Int) ≤ r.l := fun h => e (decide_eq_true h)
      refine ⟨_, rfl, _, _, rfl, ⟨zs, rfl⟩, _, rfl, x, C, dx, _, _, rfl, hx, S.cl, S.nT, flds_tail _ _, _, _, rfl, rfl, _, _, rfl, ?_⟩
      refine ⟨_, rfl, _, rfl, x, C, dx, _, _, rfl, hx, S.cl, S.nH, flds_head _ _, _, rfl, z, rfl, zs, _, rfl, _, _, rfl, rfl, ?_, _, rfl, _, rfl, _, rfl, z, rfl, zs, _, _, rfl, rfl, ?_, k _ ?_⟩
      · have a := cutS_length z none (some r.h)
        have b : r.z.length = r.z.cps.toList.length := rfl
        exact Nat.le_of_lt (Nat.lt_of_le_of_lt (show _ ≤ 2000 by omega) (by decide))
      · have a := cutS_length z none (some r.h)
        have b : r.z.length = r.z.cps.toList.length := rfl
        have c := cutS_length z (some (if (z.length : Int) - r.t > 0 then (z.length : Int) - r.t else 0)) none
        have d : (cutS z none (some r.h) ++ r.z).length = (cutS z none (some r.h)).length + r.z.length := by
          show (cutS z none (some r.h) ++ r.z).cps.toList.length = _
          rw [app_cps, List.length_append]
          rfl
        exact Nat.le_of_lt (Nat.lt_of_le_of_lt (show _ ≤ 4000 by omega) (by decide))
      · rw [app_cps, app_cps]
        have a : (cutS z none (some r.h)).cps.toList = z.cps.toList.take r.h.toNat := by
          show ((z.cps.toList.drop _).take _).toArray.toList = _
          rw [List.toList_toArray]
          exact cut_front z.cps.toList f2.1
        have c : (cutS z (some (if (z.length : Int) - r.t > 0 then (z.length : Int) - r.t else 0)) none).cps.toList = z.cps.toList.drop (z.cps.toList.length - r.t.toNat) := by
          show ((z.cps.toList.drop _).take _).toArray.toList = _
          rw [List.toList_toArray]
          have q := cut_back z.cps.toList (h := if (z.length : Int) - r.t > 0 then (z.length : Int) - r.t else 0) (by split <;> omega)
          have n : (if (z.length : Int) - r.t > 0 then (z.length : Int) - r.t else 0).toNat = z.cps.toList.length - r.t.toNat := by split <;> omega
          rw [n] at q
          exact q
        rw [a, c]
        unfold Rec.cut cut
        rw [if_neg (show ¬ z.cps.toList.length ≤ r.l.toNat by omega)]
/-! ### shown_by, show -/
theorem Rec.fit.cut_lenW {r : Rec} (f : r.fit) {xs : List Nat} (h : xs.length ≤ 600) : (r.cut xs).length ≤ 600 := by
  have a : (r.cut xs).length ≤ _ := cut_length
  have b := f.zl
  have c := f.h
  have d := f.t
  omega
def spShownBy (C : Addr) : Sp := fun vs H Q _ => ∃ (a : Addr) (rs : List (Addr × Rec)) (z : Str), vs = [.ref a, .str z] ∧ RowAt C H a rs ∧ z.cps.toList.length ≤ 600 ∧ ∀ (y : Str), y.cps.toList = cuts (rs.map (·.2)) z.cps.toList → Q (.str y) H
theorem cal_shownBy (B : Bi mg) (S : ShC K mg C) (D : At K mg "shown_by" s_shown_by ps_shown_by) (C_shortened : Cal P w K mg base 1 "shortened" ps_shortened (spShortS C)) : Cal P w K mg base 2 "shown_by" ps_shown_by (spShownBy C) := by
  refine D.cal sc_shown_by (fun vs H Q E h => ?_) (fun f cdv A outer s H vs Q E hr h => ?_)
  · obtain ⟨a, rs, z, rfl, _⟩ := h
    rfl
  · obtain ⟨a, rs, z, rfl, R2, zl, k⟩ := h
    refine ⟨_, (pss_cons (ps_set (i := 2) sc_shown_by.nd rfl (.inl rfl) (pv 1))
      (pss_cons (ps_for PassesOwn.never rfl (pi_tup (pv 0)) (pg_name (i := 3) sc_shown_by.nd rfl (.inl rfl))
      (pss_one (ps_set (i := 2) sc_shown_by.nd rfl (.inl rfl) (pe_own C_shortened hr (by decide) (by rfl) (pa_cons (pv 3) (pa_cons (pv 2) (pa_cons (pe_fld (pv 3) rfl) pa_nil)))))))
      (pss_one (ps_ret (pv 2))))), ?_⟩
    refine ⟨_, rfl, _, rfl, a, rfl, ⟨_, .inl (.inl R2.tp)⟩, for_tup (K := K) (a := a) (xs := rs.map fun q => V.ref q.1) (fun i σ J => ∃ (y : Str) (u : Option V), σ = [some (.ref a), some (.str z), some (.str y), u] ∧ J = H ∧ y.cps.toList = cuts ((rs.take i).map (·.2)) z.cps.toList ∧ y.cps.toList.length ≤ 600)
      ⟨z, none, rfl, rfl, rfl, zl⟩ (fun i σ J _ ⟨_, _, _, e, _⟩ => by rw [e]; exact .inl (.inl R2.tp)) ?_ ?_⟩
    · rintro i v σ J hi ⟨y, u, rfl, rfl, ey, ly⟩
      rw [List.getElem?_map] at hi
      cases hq : rs[i]? with
      | none =>
        rw [hq] at hi
        cases hi
      | some q =>
        rw [hq] at hi
        cases hi
        have mq : q ∈ rs := List.mem_of_getElem? hq
        obtain ⟨sq, fq⟩ := R2.sh q mq
        obtain ⟨dx, b, e1, e2⟩ := id sq
        have lz : y.length = y.cps.toList.length := rfl
        refine ⟨_, rfl, _, rfl, _, rfl, q.1, C, dx, _, _, rfl, e1, S.cl, S.nM, flds_mark _ _, q.1, q.2, y, rfl, sq, fq, by omega, fun y2 h2 => ⟨y2, _, rfl, rfl, ?_, ?_⟩⟩
        · rw [h2, ey, List.take_add_one, hq]
          unfold cuts
          rw [List.map_append, List.foldl_append]
          rfl
        · rw [h2]
          exact fq.cut_lenW ly
    · rintro σ J ⟨y, u, rfl, rfl, ey, ly⟩
      rw [List.length_map, List.take_length] at ey
      exact ⟨_, rfl, k y ey⟩
def spShow (C : Addr) : Sp := fun vs H Q _ => ∃ (a : Addr) (rs : List (Addr × Rec)) (z : Str), vs = [.ref a, .str z] ∧ RowAt C H a rs ∧ 1 ≤ rs.length ∧ rs.length ≤ 4 ∧ isTxt z 200 = true ∧ ∀ (y : Str) (G : Hp), Same H G → y.cps.toList = cuts (rs.map (·.2)) z.cps.toList → Q (.str y) G
end
end Gu
namespace Gu
open PySem PySem.Spec PyProof.Rows L2
/-! ### texts of single signs -/
def one (c : Nat) : Str := ⟨#[c]⟩
def ones (cs : List Nat) : List V := cs.map fun c => V.str (one c)
theorem join_ones : ∀ cs : List Nat, (Str.join ⟨#[]⟩ (cs.map one)).cps.toList = cs
  | [] => rfl
  | c :: r => by
    rw [List.map_cons, join_nil_cons, app_cps, join_ones r]
    rfl
theorem tjoin_ones (cs : List Nat) : (Txt.join "" (cs.map one)).cps.toList = cs := by
  have e : (("" : String) : Str) = ⟨#[]⟩ := by decide +kernel
  show (Builtin.Str.glued _ _).cps.toList = cs
  rw [e, StrLaws.glued_eq_join]
  exact join_ones cs
theorem ones_len (cs : List Nat) : ((cs.map one).map (·.length)).sum = cs.length := by
  induction cs with
  | nil => rfl
  | cons c r ih =>
    rw [List.map_cons, List.map_cons, List.sum_cons, ih]
    show 1 + r.length = r.length + 1
    omega
theorem ones_map (cs : List Nat) : ones cs = (cs.map one).map V.str := by
  unfold ones
  rw [List.map_map]
  rfl
def cutsV (rs : List Rec) (xs : List V) : List V := rs.foldl (fun acc r => cut r.l.toNat r.h.toNat r.t.toNat (ones r.z.cps.toList) acc) xs
theorem cut_map {α β : Type} (f : α → β) (l h t : Nat) (m xs : List α) : cut l h t (m.map f) (xs.map f) = (cut l h t m xs).map f := by
  unfold cut
  rw [List.length_map]
  split
  · rfl
  · rw [List.map_append, List.map_append, List.map_take, List.map_drop]
theorem cutsV_ones : ∀ (rs : List Rec) (cs : List Nat), cutsV rs (ones cs) = ones (cuts rs cs)
  | [], _ => rfl
  | r :: rs, cs => by
    show cutsV rs (cut r.l.toNat r.h.toNat r.t.toNat (ones r.z.cps.toList) (ones cs)) = ones (cuts rs (r.cut cs))
    unfold ones
    rw [cut_map]
    exact cutsV_ones rs (r.cut cs)
theorem cuts_len : ∀ (rs : List Rec) {xs : List Nat}, (∀ r ∈ rs, r.fit) → xs.length ≤ 200 → (cuts rs xs).length ≤ 200
  | [], _, _, h => h
  | r :: rs, xs, hf, h => cuts_len rs (xs := r.cut xs) (fun q hq => hf q (List.mem_cons_of_mem _ hq)) ((hf r (List.mem_cons_self ..)).cut_len h)
theorem ShAt.list {C : Addr} {H : Hp} {x M : Addr} {r : Rec} {acc ys : List V} (h : ShAt C H x r) (e : H M = some (.lst acc)) : ShAt C (upd H M (.lst ys)) x r := by
  obtain ⟨dx, b, h1, h2⟩ := h
  exact ⟨dx, b, by rw [upd_ne (ne_of h1 e (by intro z; cases z))]; exact h1, by rw [upd_ne (ne_of h2 e (by intro z; cases z))]; exact h2⟩
theorem ToldsAt.same {H G : Hp} {D : Addr} {ps : List (Addr × Rec)} (s : Same H G) (h : ToldsAt H D ps) : ToldsAt G D ps := ⟨s _ _ h.ls, fun q hq => ⟨s _ _ (h.tp q hq).1, (h.tp q hq).2⟩⟩
section
variable {P : Program} {w : World} {K : PySem.W.Frag} {mg : Str → Option Value} {base : Heap} {C : Addr}
/-! ### _law_made -/
def spMade (C : Addr) : Sp := fun vs H Q _ => ∃ (D : Addr) (ps : List (Addr × Rec)), vs = [.ref D] ∧ ToldsAt H D ps ∧ ps.length ≤ 4 ∧ ∀ (a : Addr) (G : Hp) (rs : List (Addr × Rec)), H a = none → RowAt C G a rs → rs.map (·.2) = ps.map (·.2) → Same H G → Q (.ref a) G
/-! ### _law_cut -/
theorem neg_back {α : Type} (xs : List α) {h : Int} (h0 : 0 < h) : (xs.drop (HT.sIx xs.length 0 (some (-h)))).take (HT.sIx xs.length xs.length none - HT.sIx xs.length 0 (some (-h))) = xs.drop (xs.length - h.toNat) := by
  have e : HT.sIx xs.length 0 (some (-h)) = xs.length - h.toNat := by
    show (if -h < 0 then (-h + (xs.length : Int)).toNat else min (-h).toNat xs.length) = _
    rw [if_pos (by omega)]
    omega
  rw [e, HT.sIx_none, List.take_of_length_le (by rw [List.length_drop]; omega)]
theorem cutsV_snoc (ps : List (Addr × Rec)) {i : Nat} {q : Addr × Rec} (h : ps[i]? = some q) (xs : List V) :
    cutsV ((ps.take (i + 1)).map (·.2)) xs = cut q.2.l.toNat q.2.h.toNat q.2.t.toNat (ones q.2.z.cps.toList) (cutsV ((ps.take i).map (·.2)) xs) := by
  rw [List.take_add_one, h, List.map_append]
  unfold cutsV
  rw [List.foldl_append]
  rfl
def spCut : Sp := fun vs H Q _ => ∃ (D T : Addr) (ps : List (Addr × Rec)) (xs : List V), vs = [.ref D, .ref T] ∧ ToldsAt H D ps ∧ H T = some (.lst xs) ∧ xs.length ≤ 600 ∧ ∀ (U : Addr) (G : Hp), Same H G → G U = some (.lst (cutsV (ps.map (·.2)) xs)) → Q (.ref U) G
end
end Gu
namespace Gu
open PySem PySem.Spec PyProof.Rows L2
/-! ### calls by keywords alone -/
structure CalK (P : Program) (w : World) (K : PySem.W.Frag) (mg : Str → Option Value) (base : Heap) (k : Nat) (x : Str) (ks : List Str) (gV : List V → List V) (sp : Sp) : Prop where
  ex : ∃ (f : Addr) (fd : FuncData) (ps : List Str) (g : List Value → List Value), FnOk P w K mg base CX0 k f fd ps sp ∧ mg x = some (.ref f) ∧ PySem.W.keepIn K (.ref f) = true ∧ KBn K fd ps 0 ks (fun _ ws => g ws) (fun _ zs => gV zs)
theorem Cal.kw {P : Program} {w : World} {K : PySem.W.Frag} {mg : Str → Option Value} {base : Heap} {k : Nat} {x : Str} {st : Stmt} {ps ks : List Str} {sp : Sp} (g : {α : Type} → List α → List α) (c : Cal P w K mg base k x ps sp) (D : At K mg x st ps)
    (hv : ∀ {zs : List V} {ws : List Value}, Vals zs ws → Vals (g zs) (g ws))
    (hb : ∀ (kV doc pm : Value) (an : Option Addr) (cdv ct : Value) (ws : List Value), ws.length = ks.length → bindArgs (PySem.W.fnOf x x (defArgs st) (defBody st) (defScope st) .none kV doc pm an cdv ct) ⟨[], ks.zip ws⟩ = pure (ps.zip (g ws))) : CalK P w K mg base k x ks g sp := by
  obtain ⟨f, fd, F, hm, kp, b, oc, od, sl, lk⟩ := c.ex
  obtain ⟨f2, fd2, F2, b2, hm2⟩ := D.ex
  cases hm.symm.trans hm2
  obtain ⟨oc2, od2, kV, doc, pm, an, cdv, ct, sl2, e, lk2, hcd⟩ := F2.ex
  cases lk.symm.trans lk2
  refine ⟨f, fd, ps, g, F, hm, kp, ⟨fun s us ws I l1 l2 => ?_, fun _ r => hv r⟩⟩
  cases us with
  | nil =>
    rw [e]
    exact BindsTo.of_eq (hb kV doc pm an cdv ct ws l2)
  | cons u r => cases l1
def tKw (m : Nat) (gV : List V → List V) (sp : Sp) (tk : TA) : TE := fun σ H Q => tk σ H fun zs G => zs.length = m ∧ sp (gV zs) G Q E0
section
variable {X : Cx} {k j : Nat} {x : Str} {ks : List Str} {gV : List V → List V} {sp : Sp} {p pos : Pos} {kws : List Keyword} {tk : TA}
theorem pe_kw (c : CalK X.prog X.w X.K X.mg X.base k x ks gV sp) (hr : Room j X.A) (hk : k ≤ j) (hg : Gl X x) (hkw : PK X kws tk) (hall : (backToKw pos (keywordEach kws X.env)).all (·.1.isSome) = true := by rfl)
    (hks : (backToKw pos (keywordEach kws X.env)).filterMap (·.1) = ks := by rfl) (hdb : (x == ("__debug__" : Str)) = false := by decide)
    (hpl : ((backTo pos (starEach [] X.env)).any (·.1) || (backToKw pos (keywordEach kws X.env)).any (·.1.isNone)) = false := by rfl) : PE X (.Call (.Name x p) [] kws pos) (tKw ks.length gV sp tk) := by
  obtain ⟨f, fd, ps, g, F, hm, kp, b⟩ := c.ex
  refine ⟨fun pins s σ H Q I h => ?_⟩
  refine wpAny_Call_Name_kw (ld_glob I hg hm ?_ hdb)
  refine PySem.W.callWith_KW0 (h₀ := X.base) I.ok.mod.kin kp hall ?_ hpl
  refine thn (hkw.run pos pins s σ H _ I h) fun ws s2 ⟨zs, G, I2, rz, l2, q2⟩ => ⟨I2.kIn, ?_⟩
  rw [hks]
  exact run_fnN (us := []) (vs := []) F (hr.mono hk) b pass0 I2 .nil rz rfl l2 q2
end
def swap2 {α : Type} : List α → List α
  | [a, b] => [b, a]
  | l => l
theorem swap2_vals {zs : List V} {ws : List Value} (r : Vals zs ws) : Vals (swap2 zs) (swap2 ws) := by
  cases r with
  | nil => exact .nil
  | cons a r =>
    cases r with
    | nil => exact .cons a .nil
    | cons b r =>
      cases r with
      | nil => exact .cons b (.cons a .nil)
      | cons c r => exact .cons a (.cons b (.cons c r))
theorem str_ext {a b : Str} (h : a.cps.toList = b.cps.toList) : a = b := by
  cases a
  cases b
  exact congrArg Str.mk (Array.ext' h)
end Gu
namespace Gu
open PySem PySem.Spec PyProof.Rows L2
section
variable {P : Program} {w : World} {K : PySem.W.Frag} {mg : Str → Option Value} {base : Heap} {C : Addr}
theorem Ladled.row {C : Addr} {H G : Hp} {p a : Addr} {rs : List (Addr × Rec)} (L : Ladled p H G) (hp : Pot H p) (h : RowAt C H a rs) : RowAt C G a rs := by
  obtain ⟨x, y, z, e⟩ := hp
  refine ⟨L.keep _ _ h.tp (ne_of h.tp e (by intro z; cases z)), fun q hq => ⟨?_, (h.sh q hq).2⟩⟩
  obtain ⟨dx, b, h1, h2⟩ := (h.sh q hq).1
  exact ⟨dx, b, L.keep _ _ h1 (ne_of h1 e (by intro z; cases z)), L.keep _ _ h2 (ne_of h2 e (by intro z; cases z))⟩
theorem Ladled.tolds {H G : Hp} {p D : Addr} {ps : List (Addr × Rec)} (L : Ladled p H G) (n : D ≠ p) (nq : ∀ q ∈ ps, q.1 ≠ p) (h : ToldsAt H D ps) : ToldsAt G D ps := ⟨L.keep _ _ h.ls n, fun q hq => ⟨L.keep _ _ (h.tp q hq).1 (nq q hq), (h.tp q hq).2⟩⟩
/-! ### signs stay signs -/
def Signs (xs : List Nat) : Prop := ∀ c ∈ xs, c ∈ signs.cps.toList
theorem isTxt_signs {z : Str} {m : Int} (h : isTxt z m = true) : Signs z.cps.toList := by
  unfold isTxt at h
  rw [Bool.and_eq_true, List.all_eq_true] at h
  exact fun c hc => of_decide_eq_true (h.2 c hc)
theorem cut_signs {l h t : Nat} {m xs : List Nat} (hm : Signs m) (hx : Signs xs) : Signs (cut l h t m xs) := by
  unfold cut
  split
  · exact hx
  · intro c hc
    rcases List.mem_append.mp hc with hc | hc
    · rcases List.mem_append.mp hc with hc | hc
      · exact hx c (List.mem_of_mem_take hc)
      · exact hm c hc
    · exact hx c (List.mem_of_mem_drop hc)
theorem cuts_signs : ∀ (rs : List Rec) {xs : List Nat}, (∀ r ∈ rs, r.fit) → Signs xs → Signs (cuts rs xs)
  | [], _, _, h => h
  | r :: rs, xs, hf, h => cuts_signs rs (xs := r.cut xs) (fun q hq => hf q (List.mem_cons_of_mem _ hq)) (cut_signs (isTxt_signs (hf r (List.mem_cons_self ..)).z) h)
theorem signs_ok {y : Str} (h : Signs y.cps.toList) : (PyData.str y).canLay0 = true := by
  have a : ∀ c ∈ signs.cps.toList, c < 0x110000 := by decide +kernel
  show y.cps.all _ = true
  rw [← Array.all_toList, List.all_eq_true]
  exact fun c hc => decide_eq_true (a c (h c hc))
theorem shaped_two {y z : Str} (hy : Signs y.cps.toList) (hz : Signs z.cps.toList) : SeqAt.shaped (.list [.str y, .str z]) = true := by
  have a := signs_ok hy
  have b := signs_ok hz
  show ((PyData.str y).canLay0 && ((PyData.str z).canLay0 && true) && true) = true
  rw [a, b]
  rfl
end
end Gu
namespace Gu
open PySem PySem.Spec PyProof.Rows L2
/-! ### defs that are called where no container is being written out -/
structure FnG (P : Program) (w : World) (K : PySem.W.Frag) (mg : Str → Option Value) (base : Heap) (k : Nat) (f : Addr) (fd : FuncData) (ps : List Str) (sp : Sp) : Prop where
  len : ∀ vs H Q E, sp vs H Q E → vs.length = ps.length
  run : ∀ (A : Around) (outer : List Env) (s : Shared) (H : Hp) (args : Args) (us : List Value) (vs : List V) (Q : VK) (E : XK), Room k A → A.guards = some [] → Env0 P w K mg base A outer s H → BindsTo s fd args (ps.zip us) → Vals vs us → sp vs H Q E →
    codeAny (model P w) A (.call (.ref f) args) (CR CX0 outer P w H s Q E) s
section
variable {P : Program} {w : World} {K : PySem.W.Frag} {mg : Str → Option Value} {base : Heap}
theorem okG {x qual : Str} {st : Stmt} {f : Addr} {fd : FuncData} {N ps : List Str} {k : Nat} {sp : Sp} (F : Fun K x qual st f fd) (S : FnScope N ps (defScope st)) (len : ∀ vs H Q E, sp vs H Q E → vs.length = ps.length)
    (body : ∀ (cdv : Value) (A : Around) (outer : List Env) (s : Shared) (H : Hp) (vs : List V) (Q : VK) (E : XK), Room k (A.deeper (envOfC qual (defScope st) s.heap.objs.size f cdv)) → A.guards = some [] → sp vs H Q E →
      ∃ t, PSs (cxOf CX0 P w K mg base N qual (defScope st) f cdv A outer s H E).nox (defBody st) t ∧ t { nx := fun _ G => Q .non G, rt := Q } (start N vs) H) : FnG P w K mg base (k + 1) f fd ps sp := by
  obtain ⟨oc, od, kV, doc, pm, an, cdv, ct, osl, rfl, lk, hcd⟩ := F.ex
  refine ⟨len, fun A outer s H args us vs Q E room quiet env binds rel want => ?_⟩
  have stays : ∀ b o, base.get? b = some o → s.heap.get? b = some o := fun b o e => (env.bs b o e).1
  have inK : K.In s.heap := env.mod.kin.keeps stays
  have free : s.heap.NoLimit := env.mod.nolimit.keeps stays
  refine codeAny_call_function room.depth (inK _ _ lk) rfl S.co S.gen rfl (PySem.W.codeRec_of inK hcd) (binds _ _ _ _ ?_)
  refine wpAny_newFunctionEnv_cells S.kind (fun ⟨n, v⟩ hy => (S.par n (List.of_mem_zip hy).1).imp id fun q => ⟨q, PySem.W.cellsFrom_some _ _ _ (.inl q)⟩) fun env1 e1 s1 c1 => ?_
  subst e1
  refine ⟨free.keeps c1.toInCall.keep, codeAny_func ?_⟩
  obtain ⟨t, d, q⟩ := body cdv A outer s H vs Q E (room.deeper _) quiet want
  refine wpAny_mono (d.nox.run [] s1 (start N vs) H _ (inv_start S room.hd env (len _ _ _ _ want) rel c1) q) (fun fl s2 h2 => ?_) fun e s2 h2 => h2
  cases fl with
  | ret u =>
    obtain ⟨v, σ2, G, J, rv, r⟩ := h2
    exact ⟨v, G, J.os, J.bare, J.base, J.hok, rv, r⟩
  | next =>
    obtain ⟨σ2, G, J, r⟩ := h2
    exact ⟨V.non, G, J.os, J.bare, J.base, J.hok, rfl, r⟩
  | brk => exact (h2.choose_spec.choose_spec.2 : False).elim
  | cont => exact (h2.choose_spec.choose_spec.2 : False).elim
structure CalG (P : Program) (w : World) (K : PySem.W.Frag) (mg : Str → Option Value) (base : Heap) (k : Nat) (x : Str) (ps : List Str) (sp : Sp) : Prop where
  ex : ∃ (f : Addr) (fd : FuncData), FnG P w K mg base k f fd ps sp ∧ mg x = some (.ref f) ∧ PySem.W.keepIn K (.ref f) = true ∧ Binds K fd ps []
theorem At.calG {x : Str} {st : Stmt} {N ps : List Str} {k : Nat} {sp : Sp} (D : At K mg x st ps) (S : FnScope N ps (defScope st)) (len : ∀ vs H Q E, sp vs H Q E → vs.length = ps.length)
    (body : ∀ (f : Addr) (cdv : Value) (A : Around) (outer : List Env) (s : Shared) (H : Hp) (vs : List V) (Q : VK) (E : XK), Room k (A.deeper (envOfC x (defScope st) s.heap.objs.size f cdv)) → A.guards = some [] → sp vs H Q E →
      ∃ t, PSs (cxOf CX0 P w K mg base N x (defScope st) f cdv A outer s H E).nox (defBody st) t ∧ t { nx := fun _ G => Q .non G, rt := Q } (start N vs) H) : CalG P w K mg base (k + 1) x ps sp := by
  obtain ⟨f, fd, F, b, g⟩ := D.ex
  exact ⟨f, fd, okG F S len (body f), g, F.kp, b⟩
end
def tCallG (sp : Sp) (t : TA) : TE := fun σ H Q => t σ H fun vs G => sp vs G Q E0
section
variable {X : Cx} {k j : Nat} {x : Str} {ps : List Str} {sp : Sp} {p pos : Pos} {e : Expr} {es : List Expr} {t : TA}
theorem pe_ownG (c : CalG X.prog X.w X.K X.mg X.base k x ps sp) (hr : Room j X.A) (hk : k ≤ j) (quiet : X.A.guards = some []) (hg : Gl X x) (ha : PA X (e :: es) t)
    (hdb : (x == ("__debug__" : Str)) = false := by decide) (he : starEach (e :: es) X.env = (false, eval e X.env) :: starEach es X.env := by rfl) (hpl : (backTo pos (starEach es X.env)).any (·.1) = false := by rfl) :
    PE X (.Call (.Name x p) (e :: es) [] pos) (tCallG sp t) := by
  obtain ⟨f, fd, F, hm, kp, b⟩ := c.ex
  refine ⟨fun pins s σ H Q I h => wpAny_Call_Name_kw (ld_glob I hg hm (PySem.W.callWith_K (h₀ := X.base) I.ok.mod.kin kp (thn (ha.run pos pins s σ H _ I h) fun us s1 ⟨vs, G, I1, r, q⟩ => ⟨I1.kIn, ?_⟩) he hpl) hdb)⟩
  have ll : (us ++ []).length = ps.length := by
    rw [List.append_nil, ← r.length]
    exact F.len _ _ _ _ q
  have bt := b s1 us I1.kIn ll
  rw [List.append_nil] at bt
  refine wpAny_call (codeAny_mono (F.run X.A X.stack s1 G ⟨us, []⟩ us vs Q E0 (hr.mono hk) quiet I1.env0 bt r q) fun rr s2 h2 => ?_)
  cases rr with
  | error e => exact (h2 : False).elim
  | ok fl =>
    cases fl with
    | ret u => exact I1.after h2
    | next => exact (h2 : False).elim
    | brk => exact (h2 : False).elim
    | cont => exact (h2 : False).elim
end
end Gu
namespace Gu
open PySem PySem.Spec PyProof.Rows L2
/-- a heap in which nothing is tracked but, at most, the script at a, which stands still there -/
theorem quiet_end {P : Program} {w : World} {K : PySem.W.Frag} {mg mb : Str → Option Value} {k : Nat} {fa a : Addr} {fd : FuncData} {x : Str} {sp : Sp} {s : Shared} {us : List Value} {H : Hp} (inK : K.In s.heap) (nsG : s.heap.Ns mainGlobals mg) (nsB : s.heap.Ns builtinsNs mb)
    (bb : ∀ x : Str, x ≠ "__name__" → mb x = bootBuiltins x) (nl : s.heap.NoLimit) (ng : s.gens = #[]) (at_a : s.heap.get? a = some { cls := .type "list", data := .seq us.toArray }) (room : Room k callerA)
    (F : ∀ base : Heap, K.In base → base.Ns mainGlobals mg → FnG P w K mg base k fa fd [x] sp) (bind : ∀ (s : Shared) (u : Value), BindsTo s fd ⟨[u], []⟩ [(x, u)]) (want : sp [.ref a] H (fun v _ => v = .bl true) fun _ _ _ => False)
    (only : Only H) (ok : HOk P w H s.heap) (one : ∀ b, H b ≠ none → b = a ∧ K.lookup a = none) :
    codeAny (model P w) callerA (.call (.ref fa) ⟨[.ref a], []⟩) (fun r s2 => r = .ok (.ret (.bool true)) ∧ OldK s.heap s2.heap ∧ s2.os = s.os ∧ AllBare s2.gens) s := by
  have dictFree : ∀ (b : Addr) (o : Obj) (es : Array DictEntry) (ep : Nat), s.heap.get? b = some o → o.data = .dict es ep → H b = none := fun b o es ep e d =>
    Classical.byContradiction fun z => by
      have hb := (one b z).1
      rw [hb, at_a] at e
      cases e
      exact Data.noConfusion d
  have hiddenNs : ∀ (b : Addr) (m : Str → Option Value), s.heap.Ns b m → (hidT s.heap H).Ns b m := fun b m h => by
    obtain ⟨o, es, ep, e, d, r⟩ := h
    exact ⟨o, es, ep, hidT_get e (dictFree b o es ep e d), d, r⟩
  have hiddenK : K.In (hidT s.heap H) := fun b o e => hidT_get (inK b o e) (Classical.byContradiction fun z => by
    obtain ⟨h1, h2⟩ := one b z
    rw [h1, h2] at e
    cases e)
  have env : Env0 P w K mg (hidT s.heap H) callerA [] s H := by
    refine ⟨rfl, ⟨hiddenK, hiddenNs _ _ nsG, ⟨mb, hiddenNs _ _ nsB, bb⟩, ?_⟩, fun b o e => of_hidT e, Nat.le_of_eq (hidT_size _ _), trivial, fun b hb => absurd (show b ∈ ([] : List Addr) from hb) List.not_mem_nil, ok, .of_eq ng⟩
    obtain ⟨mc, h1, h2⟩ := nl
    exact ⟨mc, hiddenNs _ _ h1, h2⟩
  refine codeAny_mono ((F _ hiddenK (hiddenNs _ _ nsG)).run callerA [] s H ⟨[.ref a], []⟩ [.ref a] [.ref a] _ _ room rfl env (bind s (.ref a)) (.cons rfl .nil) want) fun r s2 h2 => ?_
  cases r with
  | error e => exact (h2 : False).elim
  | ok fl =>
    cases fl with
    | next => exact (h2 : False).elim
    | brk => exact (h2 : False).elim
    | cont => exact (h2 : False).elim
    | ret u =>
      obtain ⟨v, G, os, bare, un, ok2, rv, hv⟩ := h2
      cases (show v = .bl true from hv)
      cases (show u = Value.bool true from rv)
      refine ⟨rfl, OldK.of_keep fun b o e => ?_, os, bare⟩
      rcases only b with z | ⟨ob, xs, z⟩
      · exact un.keep b o e z (fun y => absurd (show b ∈ ([] : List Addr) from y) List.not_mem_nil) (by simp)
      · have e1 := (ok b _ z).1
        have e2 := (ok2 b _ (un.frzs b ob _ z)).1
        rw [e] at e1
        cases e1
        exact e2
/-- the law's call, by its promise -/
theorem quiet_call {P : Program} {w : World} {K : PySem.W.Frag} {mg mb : Str → Option Value} {k : Nat} {fa a : Addr} {fd : FuncData} {x : Str} {sp : Sp} {s : Shared} {us : List Value} {ns : List Int} (inK : K.In s.heap) (nsG : s.heap.Ns mainGlobals mg) (nsB : s.heap.Ns builtinsNs mb)
    (bb : ∀ x : Str, x ≠ "__name__" → mb x = bootBuiltins x) (nl : s.heap.NoLimit) (ng : s.gens = #[]) (at_a : s.heap.get? a = some { cls := .type "list", data := .seq us.toArray }) (nums : IntsAre us ns) (small : ns.length ≤ sizeLine) (room : Room k callerA)
    (F : ∀ base : Heap, K.In base → base.Ns mainGlobals mg → FnG P w K mg base k fa fd [x] sp) (bind : ∀ (s : Shared) (u : Value), BindsTo s fd ⟨[u], []⟩ [(x, u)])
    (want : ∀ H : Hp, SqL K H a (ns.map V.int) → sp [.ref a] H (fun v _ => v = .bl true) fun _ _ _ => False) :
    codeAny (model P w) callerA (.call (.ref fa) ⟨[.ref a], []⟩) (fun r s2 => r = .ok (.ret (.bool true)) ∧ OldK s.heap s2.heap ∧ s2.os = s.os ∧ AllBare s2.gens) s := by
  have rel := vals_ints nums
  cases hk : K.lookup a with
  | some o =>
    have e := inK a o hk
    rw [at_a] at e
    cases e
    refine quiet_end (H := fun _ => none) inK nsG nsB bb nl ng at_a room F bind (want _ (.inr ⟨_, us.toArray, _, hk, rfl, rfl, rfl, ?_, rel⟩)) (fun _ => .inl rfl) (fun b u z => nomatch (show (none : Option HO) = some u from z)) fun b z => absurd rfl z
    rw [List.size_toArray, nums.length]
    exact small
  | none =>
    refine quiet_end (H := upd (fun _ => none) a (.frz { cls := .type "list", data := .seq us.toArray } (.lst (ns.map V.int)))) inK nsG nsB bb nl ng at_a room F bind (want _ (.inl (.inr ⟨_, upd_same⟩))) (fun b => ?_) (fun b u z => ?_) fun b z => ?_
    · by_cases hb : b = a
      · exact .inr ⟨_, _, by rw [hb]; exact upd_same⟩
      · exact .inl (upd_ne hb)
    · by_cases hb : b = a
      · subst hb
        rw [upd_same] at z
        cases z
        exact ⟨at_a, by rw [List.length_map]; exact small, us, _, rel, at_a⟩
      · rw [upd_ne hb] at z
        cases z
    · by_cases hb : b = a
      · exact ⟨hb, hk⟩
      · exact absurd (upd_ne hb) z
theorem walkG {l : PySem.W.OpenLaw} {n k : Nat} {q : Program} {loose : List Str} {XP : (Str → Option Value) → Heap → Prop} {YP : World → Heap → Prop} {d : DefRec} {K : Params → PySem.W.Frag} {x : Str} {sp : PySem.W.Frag → Sp} (most : l.most = some n) (small : n ≤ sizeLine) (plain : d.params.defaults = []) (room : Room k callerA)
    (left : ∀ (w : World) (h : Heap), YP w h → (K w.params).In h)
    (F : ∀ (w : World) (mg : Str → Option Value) (fa : Addr) (h : Heap), (K w.params).In h → h.Ns mainGlobals mg → mg d.name = some (.ref fa) → ∃ fd : FuncData, (∀ (s : Shared) (u : Value), BindsTo s fd ⟨[u], []⟩ [(x, u)]) ∧
      ∀ base : Heap, (K w.params).In base → base.Ns mainGlobals mg → FnG l.prog w (K w.params) mg base k fa fd [x] (sp (K w.params)))
    (want : ∀ (w : World) (H : Hp) (a : Addr) (ns : List Int), ns.length ≤ n → SqL (K w.params) H a (ns.map V.int) → sp (K w.params) [.ref a] H (fun v _ => v = .bl true) fun _ _ _ => False) :
    PySem.W.WalkO q loose XP YP l.row.toRowW d [] (fun f vs => PySem.call f vs) := by
  refine Att.attach_call most plain fun w s0 s mg mb fa o pm cd doc a us ns G Y ho hd hcd hmg at_a nums le ng => ?_
  obtain ⟨fd, bind, fn⟩ := F w mg fa _ (left w _ Y) G.T.g hmg
  exact quiet_call (left w _ Y) G.T.g G.T.b G.T.builtins G.T.nolimit ng at_a nums (Nat.le_trans le small) room fn bind fun H hS => want w H a ns le hS
end Gu
namespace Gu
open PySem PySem.Spec PyProof.Rows L2
/-! ### what can be written out -/
structure Fine (n W : Nat) (d : PyData) : Prop where
  nd : d.hasDict = false
  sh : d.showable = true
  ls : d.leavesShort 80 = true
  dp : d.depth ≤ n
  wt : d.weight ≤ W
structure FineAll (n W : Nat) (ds : List PyData) : Prop where
  nd : PyData.hasDictAll ds = false
  sh : PyData.showableAll ds = true
  ls : PyData.leavesShortAll 80 ds = true
  dp : PyData.depthAll ds ≤ n
  wt : PyData.weightAll ds ≤ ds.length * (W + 1)
theorem FineAll.of {n W : Nat} : ∀ {ds : List PyData}, (∀ d ∈ ds, Fine n W d) → FineAll n W ds
  | [], _ => ⟨rfl, rfl, rfl, Nat.zero_le _, Nat.zero_le _⟩
  | d :: ds, h => by
    have a := h d (List.mem_cons_self ..)
    have b := FineAll.of (ds := ds) fun e he => h e (List.mem_cons_of_mem _ he)
    refine ⟨?_, ?_, ?_, Nat.max_le.mpr ⟨a.dp, b.dp⟩, ?_⟩
    · show (d.hasDict || PyData.hasDictAll ds) = false
      rw [a.nd, b.nd]
      rfl
    · show (d.showable && PyData.showableAll ds) = true
      rw [a.sh, b.sh]
      rfl
    · show (d.leavesShort 80 && PyData.leavesShortAll 80 ds) = true
      rw [a.ls, b.ls]
      rfl
    · show d.weight + 1 + PyData.weightAll ds ≤ (ds.length + 1) * (W + 1)
      have := a.wt
      have := b.wt
      rw [Nat.succ_mul]
      omega
theorem FineAll.list {n W : Nat} {ds : List PyData} (a : FineAll n W ds) : Fine (n + 1) (ds.length * (W + 1)) (.list ds) := ⟨a.nd, a.sh, a.ls, Nat.succ_le_succ a.dp, a.wt⟩
theorem FineAll.tup {n W : Nat} {ds : List PyData} (a : FineAll n W ds) : Fine (n + 1) (ds.length * (W + 1)) (.tuple ds) := ⟨a.nd, a.sh, a.ls, Nat.succ_le_succ a.dp, a.wt⟩
theorem Fine.mono {n m W Z : Nat} {d : PyData} (h : Fine n W d) (a : n ≤ m) (b : W ≤ Z) : Fine m Z d := ⟨h.nd, h.sh, h.ls, Nat.le_trans h.dp a, Nat.le_trans h.wt b⟩
theorem Fine.bool (b : Bool) : Fine 0 0 (.bool b) := ⟨rfl, rfl, rfl, Nat.le_refl _, Nat.le_refl _⟩
theorem Fine.none : Fine 0 0 .none := ⟨rfl, rfl, rfl, Nat.le_refl _, Nat.le_refl _⟩
theorem Fine.int {i : Int} (h : i.natAbs < 2 ^ 70) : Fine 0 70 (.int i) := by
  have l : i.natAbs.log2 < 70 := PySem.Flt.log2_lt_of (by decide) h
  refine ⟨rfl, decide_eq_true (by omega), decide_eq_true ?_, Nat.le_refl _, ?_⟩
  · have e := int_text_length_le (a := i) (k := 70) (by decide) l
    show (Str.ofString (toString i)).length ≤ 80
    rw [PySem.ofString_length]
    omega
  · show (if i == 0 then 0 else i.natAbs.log2 + 1) ≤ 70
    split <;> omega
theorem Fine.str {z : Str} {W : Nat} (h : ∀ c ∈ z.cps.toList, c < 16 ^ 8) (w : z.cps.toList.length ≤ W) : Fine 0 W (.str z) := by
  refine ⟨rfl, rfl, ?_, Nat.le_refl _, w⟩
  show (z.cps.toList.all fun c => decide (c < 16 ^ 8)) = true
  rw [List.all_eq_true]
  exact fun c hc => decide_eq_true (h c hc)
theorem Fine.fits {d : PyData} (h : Fine 60 100000 d) : d.shown.length ≤ sizeLine := by
  have a := PyData.shown_le 80 (by decide) d h.ls
  have b := h.wt
  have c : (80 + 2) * d.weight ≤ 82 * 100000 := Nat.mul_le_mul_left _ b
  have e : sizeLine = 16777216 := by decide
  omega
section
variable {X : Cx}
/-- repr of a list or tuple, where none is being written out -/
theorem call_reprD (quiet : X.A.guards = some []) (hu : X.A.units + 64 < cLine) : CallR X (.builtin "repr") (fun xs H Q => ∃ (a : Addr) (d : PyData), xs = [.ref a] ∧ Dp X.K H (.ref a) d ∧ Fine 60 100000 d ∧ Q (.str d.shown) H) := by
  intro pins s σ H xs us Q I r h
  obtain ⟨a, d, rfl, hd, fine, q⟩ := h
  cases r with
  | cons r rr =>
    cases rr
    cases (show _ = Value.ref a from r)
    obtain ⟨as, rd⟩ := Dp.reads I d (.ref a) (.ref a) hd rfl
    have dp := fine.dp
    exact repr_of_reads' rd fine.sh (PyData.noDict_hsm fine.nd) quiet (by omega) (fun _ _ e => e) (fun g u tk keep => ⟨.str d.shown, H, I.kept (t' := tk) keep, ⟨_, rfl⟩, q⟩) fine.fits
end
end Gu
namespace Gu
open PySem PySem.Spec PyProof.Rows L2
/-! ### tuples: cut, joined, made of a text -/
section
variable {K : PySem.W.Frag} {H : Hp} {a b : Addr} {xs ys : List V} {Q : VK}
theorem cat_ok (ha : H a = some (.tup xs)) (hb : H b = some (.tup ys)) (hl : xs.length + ys.length ≤ sizeLine) (q : ∀ U G, Same H G → G U = some (.tup (xs ++ ys)) → Q (.ref U) G) : rCatA K (.ref a) (.ref b) H Q := by
  refine ⟨a, b, xs, ys, rfl, rfl, .inl (.inl ha), .inl (.inl hb), hl, fun e => q b H (Same.refl H) ?_, fun _ e => q a H (Same.refl H) ?_, fun _ _ p np => q p _ (same_new np) upd_same⟩
  · rw [e]
    exact hb
  · rw [e, List.append_nil]
    exact ha
theorem sl_ok {lo hi : Option Int} (ha : H a = some (.tup xs)) (q : ∀ U G, Same H G → G U = some (.tup (cutV xs lo hi)) → Q (.ref U) G) : rSlA K (.ref a) lo hi H Q := by
  refine ⟨a, xs, rfl, .inl (.inl ha), fun ⟨e1, e2⟩ => q a H (Same.refl H) ?_, fun _ p np => q p _ (same_new np) upd_same⟩
  unfold cutV
  rw [e1, e2, List.drop_zero, Nat.sub_zero, List.take_length]
  exact ha
end
theorem noPart {σ : L2.St} {H : Hp} {Q : Option Int → Hp → Prop} (h : Q none H) : tNoPart σ H Q := h
theorem call_tupS {X : Cx} (hc : X.calm = true) : CallR X (.type "tuple") (fun vs H Q => ∃ z : Str, vs = [.str z] ∧ z.cps.toList.length ≤ 1000 ∧ ∀ q, H q = none → Q (.ref q) (upd H q (.tup (ones z.cps.toList)))) := by
  intro pins s σ H vs us Q I r h
  obtain ⟨z, rfl, hz, q⟩ := h
  cases r with
  | cons r rr =>
    cases rr
    obtain ⟨t, rfl⟩ := r
    have zs : z.cps.size ≤ sizeLine := Nat.le_of_lt (small1000 hz)
    refine call_tuple_str (I.ok.hd hc) z t (fun g tk acc keep its => ?_) zs
    have I2 : Inv X pins σ H { s with heap := g, toks := tk } := I.kept keep
    have rel : Vals (ones z.cps.toList) acc.toList := by
      have el : acc.toList.length = z.cps.toList.length := its.1
      have e : ones z.cps.toList = (List.range acc.toList.length).map fun j => V.str (one (z.cps.toList.getD j 0)) := by
        unfold ones
        rw [el]
        refine List.ext_getElem? fun j => ?_
        rw [List.getElem?_map, List.getElem?_map]
        by_cases hj : j < z.cps.toList.length
        · rw [List.getElem?_eq_getElem hj, List.getElem?_range hj]
          show some (V.str (one z.cps.toList[j])) = some (V.str (one (z.cps.toList.getD j 0)))
          rw [List.getD_eq_getElem?_getD, List.getElem?_eq_getElem hj]
          rfl
        · rw [List.getElem?_eq_none (by omega), List.getElem?_eq_none (by rw [List.length_range]; omega)]
          rfl
      rw [e]
      refine vals_of_get acc.toList _ fun j u hj => ?_
      obtain ⟨c, tt, hc1, rfl⟩ := its.2 j u (by rw [← hj, Array.getElem?_toList])
      refine ⟨tt, ?_⟩
      rw [List.getD_eq_getElem?_getD, Array.getElem?_toList, hc1]
      rfl
    refine ⟨.ref g.objs.size, upd H g.objs.size (.tup (ones z.cps.toList)), I2.laid (t' := tk) (fun c o e => Heap.get?_push_of_some _ e) (Nat.le_refl _) (show ObjOk X.prog X.w _ _ _ (.tup (ones z.cps.toList)) from ⟨?_, acc.toList, rel, ?_⟩), rfl, q _ (I2.hok.fresh (Nat.le_refl _))⟩
    · unfold ones
      rw [List.length_map]
      exact zs
    · rw [Array.toArray_toList]
      exact IsTup.new _ _
def rLenK (K : PySem.W.Frag) : List V → Hp → VK → Prop := fun xs H Q => ∃ (x : V) (n : Nat), xs = [x] ∧ LenV K x H n ∧ Q (.int n) H
/-! ### lengths of what is cut -/
def Rec.len (r : Rec) (n : Nat) : Nat := if n ≤ r.l.toNat then n else min r.h.toNat n + r.z.cps.toList.length + min r.t.toNat n
def lens (rs : List Rec) (n : Nat) : Nat := rs.foldl (fun n r => r.len n) n
theorem cut_len (r : Rec) (xs : List V) : (cut r.l.toNat r.h.toNat r.t.toNat (ones r.z.cps.toList) xs).length = r.len xs.length := by
  unfold cut Rec.len
  split
  · rfl
  · rw [List.length_append, List.length_append, List.length_take, List.length_drop]
    unfold ones
    rw [List.length_map]
    omega
theorem cutsV_length : ∀ (rs : List Rec) (xs : List V), (cutsV rs xs).length = lens rs xs.length
  | [], _ => rfl
  | r :: rs, xs => by
    show (cutsV rs (cut r.l.toNat r.h.toNat r.t.toNat (ones r.z.cps.toList) xs)).length = lens rs (r.len xs.length)
    rw [cutsV_length rs, cut_len]
theorem Rec.fit.len_le {r : Rec} (f : r.fit) {n : Nat} (h : n ≤ 500) : r.len n ≤ 500 := by
  have a := f.zl
  have b := f.h
  have c := f.t
  unfold Rec.len
  split <;> omega
theorem lens_le : ∀ (rs : List Rec) {n : Nat}, (∀ r ∈ rs, r.fit) → n ≤ 500 → lens rs n ≤ 500
  | [], _, _, h => h
  | r :: rs, n, hf, h => lens_le rs (n := r.len n) (fun q hq => hf q (List.mem_cons_of_mem _ hq)) ((hf r (List.mem_cons_self ..)).len_le h)
/-- from 41 signs on all is as for 41 -/
theorem lens_far {rs : List Rec} (hf : ∀ r ∈ rs, r.fit) (h1 : 1 ≤ rs.length) {n : Nat} (h : 41 ≤ n) : lens rs n = lens rs 41 := by
  cases rs with
  | nil => cases h1
  | cons r rs =>
    have f := hf r (List.mem_cons_self ..)
    have a := f.l
    have b := f.h
    have c := f.t
    have e : r.len n = r.len 41 := by
      unfold Rec.len
      rw [if_neg (by omega), if_neg (by omega)]
      omega
    show lens rs (r.len n) = lens rs (r.len 41)
    rw [e]
section
variable {P : Program} {w : World} {K : PySem.W.Frag} {mg : Str → Option Value} {base : Heap} {C : Addr}
/-! ### shortened: of a tuple -/
def spShortT (C : Addr) : Sp := fun vs H Q _ => ∃ (x W M : Addr) (r : Rec) (xs : List V), vs = [.ref x, .ref W, .ref M] ∧ ShAt C H x r ∧ r.fit ∧ H W = some (.tup xs) ∧ xs.length ≤ 1000 ∧ H M = some (.tup (ones r.z.cps.toList)) ∧
  ∀ U G, Same H G → G U = some (.tup (cut r.l.toNat r.h.toNat r.t.toNat (ones r.z.cps.toList) xs)) → Q (.ref U) G
theorem cal_shortT (B : Bi mg) (S : ShC K mg C) (D : At K mg "shortened" s_shortened ps_shortened) : Cal P w K mg base 1 "shortened" ps_shortened (spShortT C) := by
  refine D.cal sc_shortened (fun vs H Q E h => ?_) (fun f cdv A outer s H vs Q E hr h => ?_)
  · obtain ⟨x, W, M, r, xs, rfl, _⟩ := h
    rfl
  · obtain ⟨x, W, M, r, xs, rfl, ⟨dx, b, hx, _⟩, fit, hW, xl, hM, k⟩ := h
    have f1 := fit.l
    have f2 := fit.h
    have f3 := fit.t
    have f4 := fit.zl
    have ol : (ones r.z.cps.toList).length = r.z.cps.toList.length := by
      unfold ones
      rw [List.length_map]
    refine ⟨_, (pss_cons (ps_if (pt_cmpR op_le (pe_callB call_len (by rfl) B.len (by decide +kernel) (pa_cons (pv 1) pa_nil)) (pe_fld (pv 0) rfl) (nomark _)) (pss_one (ps_ret (pv 1))) pss_nil)
      (pss_cons (ps_set (i := 3) sc_shortened.nd rfl (.inl rfl) (pe_callB (call_max2 rfl) (by rfl) B.max (by decide +kernel) (pa_cons pe_int (pa_cons (pe_op op_sub (pe_callB call_len (by rfl) B.len (by decide +kernel) (pa_cons (pv 1) pa_nil)) (pe_fld (pv 0) rfl)) pa_nil))))
      (pss_one (ps_ret (pe_op op_catA (pe_op op_catA (pe_slice sl_tupA (pv 1) po_none (po_some (pe_fld (pv 0) rfl))) (pv 2)) (pe_slice sl_tupA (pv 1) (po_some (pv 3)) po_none)))))), ?_⟩
    refine ⟨_, rfl, _, _, rfl, .inr ⟨_, .inl (.inl hW), rfl⟩, _, rfl, x, C, dx, _, _, rfl, hx, S.cl, S.nL, flds_limit _ _, _, _, rfl, rfl, _, rfl, ite2 (fun e => ?_) (fun e => ?_)⟩
    · have e1 := of_decide_eq_true e
      refine ⟨_, rfl, k W H (Same.refl H) ?_⟩
      unfold cut
      rw [if_pos (by omega)]
      exact hW
    · have e1 : ¬ (xs.length : Int) ≤ r.l := fun h => e (decide_eq_true h)
      refine ⟨_, rfl, _, _, rfl, .inr ⟨_, .inl (.inl hW), rfl⟩, _, rfl, x, C, dx, _, _, rfl, hx, S.cl, S.nT, flds_tail _ _, _, _, rfl, rfl, _, _, rfl, ?_⟩
      refine ⟨_, rfl, _, rfl, x, C, dx, _, _, rfl, hx, S.cl, S.nH, flds_head _ _, _, rfl, sl_ok hW fun U1 G1 s1 e1 => ?_⟩
      have c1 : cutV xs none (some r.h) = xs.take r.h.toNat := cut_front xs f2.1
      rw [c1] at e1
      refine ⟨_, rfl, cat_ok e1 (s1 _ _ hM) (Nat.le_of_lt (Nat.lt_of_le_of_lt (show _ ≤ 2000 by rw [List.length_take]; omega) (by decide))) fun U2 G2 s2 e2 => ?_⟩
      refine ⟨_, rfl, _, rfl, _, rfl, ?_⟩
      refine noPart ?_
      refine sl_ok (s2 _ _ (s1 _ _ hW)) fun U3 G3 s3 e3 => ?_
      have c3 : cutV xs (some (if (xs.length : Int) - r.t > 0 then (xs.length : Int) - r.t else 0)) none = xs.drop (xs.length - r.t.toNat) := by
        have q := cut_back xs (h := if (xs.length : Int) - r.t > 0 then (xs.length : Int) - r.t else 0) (by split <;> omega)
        have n : (if (xs.length : Int) - r.t > 0 then (xs.length : Int) - r.t else 0).toNat = xs.length - r.t.toNat := by split <;> omega
        rw [n] at q
        exact q
      rw [c3] at e3
      refine cat_ok (s3 _ _ e2) e3 (Nat.le_of_lt (Nat.lt_of_le_of_lt (show _ ≤ 4000 by rw [List.length_append, List.length_take, List.length_drop]; omega) (by decide))) fun U4 G4 s4 e4 => k U4 G4 (s1.trans (s2.trans (s3.trans s4))) ?_
      rw [e4]
      unfold cut
      rw [if_neg (show ¬ xs.length ≤ r.l.toNat by omega)]
/-! ### planned, check_length, plan, widest -/
theorem cutsV_snoc' (rs : List (Addr × Rec)) {i : Nat} {q : Addr × Rec} (h : rs[i]? = some q) (xs : List V) :
    cutsV ((rs.take (i + 1)).map (·.2)) xs = cut q.2.l.toNat q.2.h.toNat q.2.t.toNat (ones q.2.z.cps.toList) (cutsV ((rs.take i).map (·.2)) xs) := cutsV_snoc rs h xs
def spPlanned (C : Addr) : Sp := fun vs H Q _ => ∃ (a : Addr) (n : Nat) (rs : List (Addr × Rec)), vs = [.ref a, .int (n : Int)] ∧ RowAt C H a rs ∧ n ≤ 500 ∧ ∀ U G, Same H G → G U = some (.tup (cutsV (rs.map (·.2)) (rgV 0 n))) → Q (.ref U) G
theorem cal_planned (B : Bi mg) (S : ShC K mg C) (D : At K mg "planned" s_planned ps_planned) (C_shortened : Cal P w K mg base 1 "shortened" ps_shortened (spShortT C)) : Cal P w K mg base 2 "planned" ps_planned (spPlanned C) := by
  refine D.cal sc_planned (fun vs H Q E h => ?_) (fun f cdv A outer s H vs Q E hr h => ?_)
  · obtain ⟨a, n, rs, rfl, _⟩ := h
    rfl
  · obtain ⟨a, n, rs, rfl, hR, hn, k⟩ := h
    refine ⟨_, (pss_cons (ps_set (i := 2) sc_planned.nd rfl (.inl rfl) (pe_tupRg (by rfl) (by rfl) B.tuple (prg_1 (by rfl) B.range (pv 1))))
      (pss_cons (ps_for PassesOwn.never rfl (pi_tup (pv 0)) (pg_name (i := 3) sc_planned.nd rfl (.inl rfl))
      (pss_one (ps_set (i := 2) sc_planned.nd rfl (.inl rfl) (pe_own C_shortened hr (by decide) (by rfl) (pa_cons (pv 3) (pa_cons (pv 2) (pa_cons (pe_callTy (call_tupS rfl) (by rfl) B.tuple (by decide +kernel) (pa_cons (pe_fld (pv 3) rfl) pa_nil)) pa_nil)))))))
      (pss_one (ps_ret (pv 2))))), ?_⟩
    refine ⟨_, rfl, _, rfl, RgOk.of_le (by omega) (by omega) (by omega) (by omega), fun T nT => ?_⟩
    have s0 : Same H (upd H T (.tup (rgV 0 n))) := same_new nT
    have R0 := hR.same s0
    refine ⟨_, rfl, a, rfl, ⟨_, .inl (.inl R0.tp)⟩, for_tup (K := K) (a := a) (xs := rs.map fun q => V.ref q.1) (fun i σ J => ∃ (U : Addr) (u : Option V), σ = [some (.ref a), some (.int (n : Int)), some (.ref U), u] ∧ Same H J ∧ J U = some (.tup (cutsV ((rs.take i).map (·.2)) (rgV 0 n))))
      ⟨T, none, rfl, s0, upd_same⟩ (fun i σ J _ ⟨_, _, _, sJ, _⟩ => .inl (.inl (sJ _ _ hR.tp))) ?_ ?_⟩
    · rintro i v σ J hi ⟨U, u, rfl, sJ, eU⟩
      rw [List.getElem?_map] at hi
      cases hq : rs[i]? with
      | none =>
        rw [hq] at hi
        cases hi
      | some q =>
        rw [hq] at hi
        cases hi
        obtain ⟨sq, fq⟩ := (hR.same sJ).sh q (List.mem_of_getElem? hq)
        obtain ⟨dx, b, e1, e2⟩ := id sq
        refine ⟨_, rfl, _, rfl, _, rfl, q.1, C, dx, _, _, rfl, e1, S.cl, S.nM, flds_mark _ _, q.2.z, rfl, by have := fq.zl; omega, fun M nM => ?_⟩
        have s1 : Same J (upd J M (.tup (ones q.2.z.cps.toList))) := same_new nM
        refine ⟨q.1, U, M, q.2, _, rfl, sq.same s1, fq, s1 _ _ eU, ?_, upd_same, fun U2 G s2 e3 => ⟨U2, _, rfl, sJ.trans (s1.trans s2), ?_⟩⟩
        · rw [cutsV_length]
          have := lens_le ((rs.take i).map (·.2)) (n := (rgV 0 n).length) (fun r hr => by
            obtain ⟨p, hp, rfl⟩ := List.mem_map.mp hr
            exact (hR.sh p (List.mem_of_mem_take hp)).2) (by rw [rgV_length]; omega)
          omega
        · rw [e3, cutsV_snoc' rs hq]
    · rintro σ J ⟨U, u, rfl, sJ, eU⟩
      rw [List.length_map, List.take_length] at eU
      exact ⟨_, rfl, k U J sJ eU⟩
def spCheckLength : Sp := fun vs H Q _ => ∃ (n : Nat), vs = [.int (n : Int)] ∧ n ≤ 500 ∧ Q .non H
def spPlan (C : Addr) : Sp := fun vs H Q _ => ∃ (a : Addr) (n : Nat) (rs : List (Addr × Rec)), vs = [.ref a, .int (n : Int)] ∧ RowAt C H a rs ∧ 1 ≤ rs.length ∧ rs.length ≤ 4 ∧ n ≤ 500 ∧ ∀ U G, Same H G → G U = some (.tup (cutsV (rs.map (·.2)) (rgV 0 n))) → Q (.ref U) G
def wides (rs : List Rec) (n : Nat) : List Int := (List.range n).map fun i => (lens rs i : Int)
def Top (m : Int) (ns : List Int) : Prop := m ∈ ns ∧ ∀ y ∈ ns, y ≤ m
theorem Top.one {m k : Int} {ns : List Int} (a : Top m ns) (b : Top k ns) : m = k := Int.le_antisymm (b.2 m a.1) (a.2 k b.1)
theorem wides_top {rs : List Rec} (hf : ∀ r ∈ rs, r.fit) (h1 : 1 ≤ rs.length) {m : Int} {n : Nat} (hn : 42 ≤ n) (h : Top m (wides rs 42)) : Top m (wides rs n) := by
  obtain ⟨a, b⟩ := h
  unfold wides at a b ⊢
  obtain ⟨i, hi, rfl⟩ := List.mem_map.mp a
  refine ⟨List.mem_map.mpr ⟨i, List.mem_range.mpr (by have := List.mem_range.mp hi; omega), rfl⟩, fun y hy => ?_⟩
  obtain ⟨j, hj, rfl⟩ := List.mem_map.mp hy
  by_cases hj2 : j < 42
  · exact b _ (List.mem_map.mpr ⟨j, List.mem_range.mpr hj2, rfl⟩)
  · rw [lens_far hf h1 (show 41 ≤ j by omega)]
    exact b _ (List.mem_map.mpr ⟨41, List.mem_range.mpr (by decide), rfl⟩)
def spWidest (C : Addr) : Sp := fun vs H Q _ => ∃ (a : Addr) (rs : List (Addr × Rec)), vs = [.ref a] ∧ RowAt C H a rs ∧ 1 ≤ rs.length ∧ rs.length ≤ 4 ∧ ∀ m G, Same H G → Top m (wides (rs.map (·.2)) 42) → Q (.int m) G
end
end Gu
namespace Gu
open PySem PySem.Spec PyProof.Rows L2
/-! ### the checker: claims of right form -/
structure TRow (K : PySem.W.Frag) (H : Hp) (a : Addr) (ps : List (Addr × Rec)) : Prop where
  tp : SqT K H a (ps.map fun q => V.ref q.1)
  el : ∀ q ∈ ps, H q.1 = some (.tup q.2.vs) ∧ q.2.fit
  l1 : 1 ≤ ps.length
  l4 : ps.length ≤ 4
theorem stH {K : PySem.W.Frag} {H G : Hp} {a : Addr} {xs : List V} (s : Same H G) (h : SqT K H a xs) : SqT K G a xs := by
  rcases h with (h | ⟨o, h⟩) | h
  · exact .inl (.inl (s _ _ h))
  · exact .inl (.inr ⟨o, s _ _ h⟩)
  · exact .inr h
theorem TRow.same {K : PySem.W.Frag} {H G : Hp} {a : Addr} {ps : List (Addr × Rec)} (s : Same H G) (h : TRow K H a ps) : TRow K G a ps := ⟨stH s h.tp, fun q hq => ⟨s _ _ (h.el q hq).1, (h.el q hq).2⟩, h.l1, h.l4⟩
theorem all_true (n : Nat) : (List.replicate n true).all id = true := by
  rw [List.all_replicate]
  split <;> rfl
theorem offT {H J : Hp} {M : Addr} {o : HO} (s : Same H J) (n : H M = none) : Same H (upd J M o) := fun b x e => by
  rw [upd_ne (ne_of_none e n)]
  exact s _ _ e
section
variable {P : Program} {w : World} {K : PySem.W.Frag} {mg : Str → Option Value} {base : Heap} {C : Addr}
def spTrueT (K : PySem.W.Frag) (C : Addr) : Sp := fun vs H Q _ => ∃ (t : Addr) (r : Rec), vs = [.ref t] ∧ H t = some (.tup r.vs) ∧ r.fit ∧ ∀ G, Same H G → Q (.bl true) G
theorem cal_isTold (B : Bi mg) (D : At K mg "is_told" s_is_told ps_is_told) (C_is_tuple : Cal P w K mg base 1 "is_tuple" ps_is_tuple (spIsTuple K)) (C_is_integer : Cal P w K mg base 1 "is_integer" ps_is_integer (spIsInteger K)) (C_is_text : Cal P w K mg base 1 "is_text" ps_is_text (spIsText K)) : Cal P w K mg base 2 "is_told" ps_is_told (spTrueT K C) := by
  refine D.cal sc_is_told (fun vs H Q E h => ?_) (fun f cdv A outer s H vs Q E hr h => ?_)
  · obtain ⟨t, r, rfl, _⟩ := h
    rfl
  · obtain ⟨t, r, rfl, ht, fit, k⟩ := h
    have f1 := fit.l
    have f2 := fit.h
    have f3 := fit.t
    refine ⟨_, (pss_cons (ps_if (pt_not (pt_val (pe_own C_is_tuple hr (by decide) (by rfl) (pa_cons (pv 0) (pa_cons pe_int (pa_cons pe_int pa_nil)))))) (pss_one (ps_ret pe_bl)) pss_nil)
      (pss_one (ps_ret (pe_and (pe_callB (cr_all rfl) (by rfl) B.all (by decide +kernel) (pa_cons (pe_lc (own := [("number", 1)]) (by rfl) sc_is_told.nd (pi_tup (pe_slice sl_tupA (pv 0) po_none (po_some pe_int))) (blkOk_by (own := [("number", 1)]) (N := ["value", "number"]) (sc := defScope s_is_told) (by decide +kernel)) (fun _ _ _ _ _ => pg_name (i := 1) sc_is_told.nd rfl (.inl rfl)) (fun _ _ _ _ _ => pts_nil) (fun _ _ _ _ _ => (pe_own C_is_integer hr (by decide) (by rfl) (pa_cons (pv 1) (pa_cons pe_int (pa_cons (pe_cst B.MOST_SIGNS (by rfl)) pa_nil)))))) pa_nil)) (pe_one (pe_own C_is_text hr (by decide) (by rfl) (pa_cons (pe_ix ix_tup (pv 0) pe_int (fun _ _ => rfl)) (pa_cons (pe_cst B.MOST_MARK (by rfl)) pa_nil)))))))), ?_⟩
    refine ⟨_, rfl, _, _, _, rfl, .inl ⟨t, _, rfl, .inl (.inl ht), _, rfl, ?_⟩⟩
    rw [decide_eq_true (show (4 : Int) ≤ (r.vs.length : Int) ∧ (r.vs.length : Int) ≤ 4 by show (4 : Int) ≤ 4 ∧ (4 : Int) ≤ 4; decide)]
    refine iteF ⟨_, rfl, 3, rfl, sl_ok ht fun U G1 s1 e1 => ?_⟩
    have e1 : G1 U = some (.tup [.int r.l, .int r.h, .int r.t]) := e1
    refine ⟨U, rfl, ⟨_, .inl (.inl e1)⟩, fun M nM => lc_tup (K := K) (a := U) (xs := [.int r.l, .int r.h, .int r.t]) (fun i J => J M = some (.lst ((List.replicate i true).map V.bl)) ∧ Same G1 J)
      ⟨upd_same, same_new nM⟩ (fun i J _ ⟨_, sJ⟩ => .inl (.inl (sJ _ _ e1))) ?_ ?_⟩
    · rintro i v J hi ⟨eM, sJ⟩
      have i3 : i < 3 := (List.getElem?_eq_some_iff.mp hi).1
      obtain ⟨m, rfl, m0, m1⟩ : ∃ m : Int, v = .int m ∧ 0 ≤ m ∧ m ≤ 40 := by
        have hv := List.mem_of_getElem? hi
        simp only [List.mem_cons, List.not_mem_nil, or_false] at hv
        rcases hv with rfl | rfl | rfl
        · exact ⟨_, rfl, f1.1, f1.2⟩
        · exact ⟨_, rfl, f2.1, f2.2⟩
        · exact ⟨_, rfl, f3.1, f3.2⟩
      refine ⟨rfl, yes (iteT ⟨_, rfl, _, _, _, rfl, .inl ⟨m, rfl, ?_⟩⟩)⟩
      rw [decide_eq_true (show (0 : Int) ≤ m ∧ m ≤ 40 from ⟨m0, m1⟩)]
      refine ⟨_, eM, small1000 (by rw [List.length_map, List.length_replicate]; omega), ?_, offT sJ nM⟩
      rw [upd_same, List.replicate_succ', List.map_append]
      rfl
    rintro J ⟨eM, sJ⟩
    refine ⟨M, _, rfl, .inl (.inl eM), true, rfl, iteT ?_⟩
    have s2 := s1.trans sJ
    have zl : r.z.length ≤ 3 := by
      have := isTxt_len fit.z
      omega
    refine ⟨_, rfl, t, _, _, _, rfl, rfl, .inl (.inl (s2 _ _ ht)), (rfl : atI r.vs 3 = some (V.str r.z)), _, _, rfl, .inl ⟨r.z, rfl, by omega, fun G sG => ?_⟩⟩
    rw [fit.z]
    exact k G (s2.trans sG)
def spTrueR (K : PySem.W.Frag) : Sp := fun vs H Q _ => ∃ (a : Addr) (ps : List (Addr × Rec)), vs = [.ref a] ∧ TRow K H a ps ∧ ∀ G, Same H G → Q (.bl true) G
theorem cal_isToldRow (B : Bi mg) (D : At K mg "is_told_row" s_is_told_row ps_is_told_row) (C_is_tuple : Cal P w K mg base 1 "is_tuple" ps_is_tuple (spIsTuple K)) (C_is_told : Cal P w K mg base 2 "is_told" ps_is_told (spTrueT K C)) : Cal P w K mg base 3 "is_told_row" ps_is_told_row (spTrueR K) := by
  refine D.cal sc_is_told_row (fun vs H Q E h => ?_) (fun f cdv A outer s H vs Q E hr h => ?_)
  · obtain ⟨a, ps, rfl, _⟩ := h
    rfl
  · obtain ⟨a, ps, rfl, hT, k⟩ := h
    have l1 := hT.l1
    have l4 := hT.l4
    have el : (ps.map fun q => V.ref q.1).length = ps.length := List.length_map ..
    refine ⟨_, (pss_one (ps_ret (pe_and (pe_own C_is_tuple hr (by decide) (by rfl) (pa_cons (pv 0) (pa_cons pe_int (pa_cons (pe_cst B.MOST_ROW (by rfl)) pa_nil)))) (pe_one (pe_callB (cr_all rfl) (by rfl) B.all (by decide +kernel) (pa_cons (pe_lc (own := [("part", 1)]) (by rfl) sc_is_told_row.nd (pi_tup (pv 0)) (blkOk_by (own := [("part", 1)]) (N := ["value", "part"]) (sc := defScope s_is_told_row) (by decide +kernel)) (fun _ _ _ _ _ => pg_name (i := 1) sc_is_told_row.nd rfl (.inl rfl)) (fun _ _ _ _ _ => pts_nil) (fun _ _ _ _ _ => (pe_own C_is_told hr (by decide) (by rfl) (pa_cons (pv 1) pa_nil)))) pa_nil)))))), ?_⟩
    refine ⟨_, rfl, _, _, _, rfl, .inl ⟨a, _, rfl, hT.tp, _, rfl, ?_⟩⟩
    rw [el, decide_eq_true (show (1 : Int) ≤ (ps.length : Int) ∧ (ps.length : Int) ≤ 4 by omega)]
    refine iteT ⟨_, rfl, a, rfl, ⟨_, hT.tp⟩, fun M nM => lc_tup (K := K) (a := a) (xs := ps.map fun q => V.ref q.1) (fun i J => J M = some (.lst ((List.replicate i true).map V.bl)) ∧ Same H J)
      ⟨upd_same, same_new nM⟩ (fun i J _ ⟨_, sJ⟩ => stH sJ hT.tp) ?_ ?_⟩
    · rintro i v J hi ⟨eM, sJ⟩
      rw [List.getElem?_map] at hi
      cases hq : ps[i]? with
      | none =>
        rw [hq] at hi
        cases hi
      | some q =>
        rw [hq] at hi
        cases hi
        have il := (List.getElem?_eq_some_iff.mp hq).1
        obtain ⟨h1, h2⟩ := hT.el q (List.mem_of_getElem? hq)
        refine ⟨rfl, yes (iteT ⟨_, rfl, q.1, q.2, rfl, sJ _ _ h1, h2, fun G sG => ⟨_, sG _ _ eM, small1000 (by rw [List.length_map, List.length_replicate]; omega), ?_, offT (sJ.trans sG) nM⟩⟩)⟩
        rw [upd_same, List.replicate_succ', List.map_append]
        rfl
    rintro J ⟨eM, sJ⟩
    refine ⟨M, _, rfl, .inl (.inl eM), ?_⟩
    rw [all_true]
    exact k J sJ
def spTrueP (K : PySem.W.Frag) : Sp := fun vs H Q _ => ∃ (p a : Addr) (ps : List (Addr × Rec)), vs = [.ref p, .int 1] ∧ SqT K H p [.ref a] ∧ TRow K H a ps ∧ ∀ G, Same H G → Q (.bl true) G
theorem cal_areTold (B : Bi mg) (D : At K mg "are_told_rows" s_are_told_rows ps_are_told_rows) (C_is_told_row : Cal P w K mg base 3 "is_told_row" ps_is_told_row (spTrueR K)) : Cal P w K mg base 4 "are_told_rows" ps_are_told_rows (spTrueP K) := by
  refine D.cal sc_are_told_rows (fun vs H Q E h => ?_) (fun f cdv A outer s H vs Q E hr h => ?_)
  · obtain ⟨p, a, ps, rfl, _⟩ := h
    rfl
  · obtain ⟨p, a, ps, rfl, hp, hT, k⟩ := h
    refine ⟨_, (pss_one (ps_ret (pe_and (pe_cmpR op_eq (pe_callB call_len (by rfl) B.len (by decide +kernel) (pa_cons (pv 0) pa_nil)) (pv 1) (nomark _)) (pe_one (pe_callB (cr_all rfl) (by rfl) B.all (by decide +kernel) (pa_cons (pe_lc (own := [("part", 2)]) (by rfl) sc_are_told_rows.nd (pi_tup (pv 0)) (blkOk_by (own := [("part", 2)]) (N := ["parts", "many", "part"]) (sc := defScope s_are_told_rows) (by decide +kernel)) (fun _ _ _ _ _ => pg_name (i := 2) sc_are_told_rows.nd rfl (.inl rfl)) (fun _ _ _ _ _ => pts_nil) (fun _ _ _ _ _ => (pe_own C_is_told_row hr (by decide) (by rfl) (pa_cons (pv 2) pa_nil)))) pa_nil)))))), ?_⟩
    refine ⟨_, rfl, _, _, rfl, .inr ⟨_, hp, rfl⟩, _, rfl, rfl, _, rfl, ?_⟩
    refine iteT ⟨_, rfl, p, rfl, ⟨_, hp⟩, fun M nM => lc_tup (K := K) (a := p) (xs := [.ref a]) (fun i J => J M = some (.lst ((List.replicate i true).map V.bl)) ∧ Same H J)
      ⟨upd_same, same_new nM⟩ (fun i J _ ⟨_, sJ⟩ => stH sJ hp) ?_ ?_⟩
    · rintro i v J hi ⟨eM, sJ⟩
      have il : i < 1 := (List.getElem?_eq_some_iff.mp hi).1
      obtain rfl : v = .ref a := List.mem_singleton.mp (List.mem_of_getElem? hi)
      refine ⟨rfl, yes (iteT ⟨_, rfl, a, ps, rfl, hT.same sJ, fun G sG => ⟨_, sG _ _ eM, small1000 (by rw [List.length_map, List.length_replicate]; omega), ?_, offT (sJ.trans sG) nM⟩⟩)⟩
      rw [upd_same, List.replicate_succ', List.map_append]
      rfl
    rintro J ⟨eM, sJ⟩
    refine ⟨M, _, rfl, .inl (.inl eM), ?_⟩
    rw [all_true]
    exact k J sJ
def spPairT (K : PySem.W.Frag) : Sp := fun vs H Q _ => ∃ (p : Addr) (y z : Str), vs = [.ref p] ∧ SqT K H p [.str y, .str z] ∧ isTxt y 200 = true ∧ isTxt z 200 = true ∧ ∀ G, Same H G → Q (.bl (!decide (V.str y = V.str z))) G
theorem cal_isPairT (B : Bi mg) (D : At K mg "is_pair_of_texts" s_is_pair_of_texts ps_is_pair_of_texts) (C_is_tuple : Cal P w K mg base 1 "is_tuple" ps_is_tuple (spIsTuple K)) (C_is_text : Cal P w K mg base 1 "is_text" ps_is_text (spIsText K)) : Cal P w K mg base 2 "is_pair_of_texts" ps_is_pair_of_texts (spPairT K) := by
  refine D.cal sc_is_pair_of_texts (fun vs H Q E h => ?_) (fun f cdv A outer s H vs Q E hr h => ?_)
  · obtain ⟨p, y, z, rfl, _⟩ := h
    rfl
  · obtain ⟨p, y, z, rfl, hp, hy, hz, k⟩ := h
    have yl := isTxt_len hy
    have zl := isTxt_len hz
    refine ⟨_, (pss_one (ps_ret (pe_and (pe_own C_is_tuple hr (by decide) (by rfl) (pa_cons (pv 0) (pa_cons pe_int (pa_cons pe_int pa_nil)))) (pe_and (pe_callB (cr_all rfl) (by rfl) B.all (by decide +kernel) (pa_cons (pe_lc (own := [("part", 1)]) (by rfl) sc_is_pair_of_texts.nd (pi_tup (pv 0)) (blkOk_by (own := [("part", 1)]) (N := ["value", "part"]) (sc := defScope s_is_pair_of_texts) (by decide +kernel)) (fun _ _ _ _ _ => pg_name (i := 1) sc_is_pair_of_texts.nd rfl (.inl rfl)) (fun _ _ _ _ _ => pts_nil) (fun _ _ _ _ _ => (pe_own C_is_text hr (by decide) (by rfl) (pa_cons (pv 1) (pa_cons (pe_cst B.MOST_TEXT (by rfl)) pa_nil))))) pa_nil)) (pe_one (pe_cmpR op_ne (pe_ix ix_tup (pv 0) pe_int (fun _ _ => rfl)) (pe_ix ix_tup (pv 0) pe_int (fun _ _ => rfl)) (nomark _))))))), ?_⟩
    refine ⟨_, rfl, _, _, _, rfl, .inl ⟨p, _, rfl, hp, _, rfl, iteT ?_⟩⟩
    refine ⟨_, rfl, p, rfl, ⟨_, hp⟩, fun M nM => lc_tup (K := K) (a := p) (xs := [.str y, .str z]) (fun i J => J M = some (.lst ((List.replicate i true).map V.bl)) ∧ Same H J)
      ⟨upd_same, same_new nM⟩ (fun i J _ ⟨_, sJ⟩ => stH sJ hp) ?_ ?_⟩
    · rintro i v J hi ⟨eM, sJ⟩
      have il : i < 2 := (List.getElem?_eq_some_iff.mp hi).1
      obtain ⟨x, rfl, hx⟩ : ∃ x : Str, v = .str x ∧ isTxt x 200 = true := by
        have hv := List.mem_of_getElem? hi
        simp only [List.mem_cons, List.not_mem_nil, or_false] at hv
        rcases hv with rfl | rfl
        · exact ⟨_, rfl, hy⟩
        · exact ⟨_, rfl, hz⟩
      have xl := isTxt_len hx
      refine ⟨rfl, yes (iteT ⟨_, rfl, _, _, rfl, .inl ⟨x, rfl, by omega, fun G sG => ?_⟩⟩)⟩
      rw [hx]
      refine ⟨_, sG _ _ eM, small1000 (by rw [List.length_map, List.length_replicate]; omega), ?_, offT (sJ.trans sG) nM⟩
      rw [upd_same, List.replicate_succ', List.map_append]
      rfl
    rintro J ⟨eM, sJ⟩
    refine ⟨M, _, rfl, .inl (.inl eM), _, rfl, ?_⟩
    rw [all_true]
    refine iteT ⟨_, rfl, p, _, _, _, rfl, rfl, stH sJ hp, (rfl : atI [V.str y, V.str z] 0 = some (V.str y)), _, rfl, p, _, _, _, rfl, rfl, stH sJ hp, (rfl : atI [V.str y, V.str z] 1 = some (V.str z)), rfl, k J sJ⟩
end
end Gu
namespace Gu
open PySem PySem.Spec PyProof.Rows L2
/-! ### the checker: row_of, confused_holds -/
section
variable {P : Program} {w : World} {K : PySem.W.Frag} {mg : Str → Option Value} {base : Heap} {C : Addr}
def spRowOf (K : PySem.W.Frag) (C : Addr) : Sp := fun vs H Q _ => ∃ (a : Addr) (ps : List (Addr × Rec)), vs = [.ref a] ∧ TRow K H a ps ∧ ∀ (R : Addr) (G : Hp) (rs : List (Addr × Rec)), RowAt C G R rs → rs.map (·.2) = ps.map (·.2) → Same H G → Q (.ref R) G
theorem cal_rowOf (B : Bi mg) (D : At K mg "row_of" s_row_of ps_row_of) (M_sh : Mak P w K mg base 3 "Shortener" C (spInit C)) : Cal P w K mg base 5 "row_of" ps_row_of (spRowOf K C) := by
  refine D.cal sc_row_of (fun vs H Q E h => ?_) (fun f cdv A outer s H vs Q E hr h => ?_)
  · obtain ⟨a, ps, rfl, _⟩ := h
    rfl
  · obtain ⟨a, ps, rfl, hT, k⟩ := h
    have l4 := hT.l4
    refine ⟨_, (pss_one (ps_ret (pe_callTy call_tuple_of (by rfl) B.tuple (by decide +kernel) (pa_cons (pe_lc (g := gTup K 4 (gCons (gName 1) (gCons (gName 2) (gCons (gName 3) (gCons (gName 4) gNil))))) (own := [("limit", 1), ("head", 2), ("tail", 3), ("mark", 4)]) (by rfl) sc_row_of.nd (pi_tup (pv 0)) (blkOk_by (own := [("limit", 1), ("head", 2), ("tail", 3), ("mark", 4)]) (N := ["told_row", "limit", "head", "tail", "mark"]) (sc := defScope s_row_of) (by decide +kernel)) (fun _ _ _ _ _ => (pg_tup rfl (pgs_cons (pg_name (i := 1) sc_row_of.nd rfl (.inl rfl)) (pgs_cons (pg_name (i := 2) sc_row_of.nd rfl (.inl rfl)) (pgs_cons (pg_name (i := 3) sc_row_of.nd rfl (.inl rfl)) (pgs_cons (pg_name (i := 4) sc_row_of.nd rfl (.inl rfl)) pgs_nil)))))) (fun _ _ _ _ _ => pts_nil) (fun _ _ _ _ _ => (pe_new M_sh hr (by decide) (by rfl) (pa_cons (pv 1) (pa_cons (pv 2) (pa_cons (pv 3) (pa_cons (pv 4) pa_nil))))))) pa_nil)))), ?_⟩
    refine ⟨_, rfl, a, rfl, ⟨_, hT.tp⟩, fun M nM => lc_tup (K := K) (a := a) (xs := ps.map fun q => V.ref q.1) (fun i J => ∃ rs : List (Addr × Rec), rs.length = i ∧ J M = some (.lst (rs.map fun q => V.ref q.1)) ∧ (∀ q ∈ rs, ShAt C J q.1 q.2 ∧ q.2.fit) ∧ rs.map (·.2) = (ps.take i).map (·.2) ∧ Same H J)
      ⟨[], rfl, upd_same, (fun q hq => by cases hq), rfl, same_new nM⟩ (fun i J _ ⟨_, _, _, _, _, sJ⟩ => stH sJ hT.tp) ?_ ?_⟩
    · rintro i v J hi ⟨rs, rfl, eM, hs, er, sJ⟩
      rw [List.getElem?_map] at hi
      cases hq : ps[rs.length]? with
      | none =>
        rw [hq] at hi
        cases hi
      | some q =>
        rw [hq] at hi
        cases hi
        obtain ⟨tq, oq⟩ := hT.el q (List.mem_of_getElem? hq)
        have il : rs.length < ps.length := (List.getElem?_eq_some_iff.mp hq).1
        refine ⟨q.1, q.2.vs, rfl, .inl (.inl (sJ _ _ tq)), rfl, _, _, rfl, _, _, rfl, _, _, rfl, _, _, rfl, rfl, rfl, yes (iteT ?_)⟩
        refine ⟨_, rfl, _, rfl, _, rfl, _, rfl, fun x dx nx ndx nex => ⟨x, dx, q.2, rfl, upd_same, oq, fun b G nb gx gb keep => ⟨rfl, ?_⟩⟩⟩
        have sG : Same J G := fun c o e => keep c o (by rw [upd_ne (ne_of_none e nx), upd_ne (ne_of_none e ndx)]; exact e) (ne_of_none e nx)
        have gM := sG _ _ eM
        refine ⟨_, gM, small1000 (by rw [List.length_map]; omega), rs ++ [(x, q.2)], by rw [List.length_append]; rfl, ?_, fun r hr => ?_, ?_, offT (sJ.trans sG) nM⟩
        · rw [upd_same, List.map_append]
          rfl
        · rcases List.mem_append.mp hr with hr | hr
          · obtain ⟨h1, h2⟩ := hs r hr
            exact ⟨(h1.same sG).list gM, h2⟩
          · rw [List.mem_singleton.mp hr]
            exact ⟨ShAt.list ⟨dx, b, gx, gb⟩ gM, oq⟩
        · rw [List.map_append, er, List.take_add_one, hq, List.map_append]
          rfl
    · rintro J ⟨rs, el, eM, hs, er, sJ⟩
      refine ⟨M, _, rfl, .inl ⟨.inl (.inl eM), fun R nR => ?_⟩⟩
      rw [List.length_map, List.take_length] at er
      have s1 : Same J (upd J R (.tup (rs.map fun q => V.ref q.1))) := same_new nR
      exact k R _ rs ⟨upd_same, fun q hq => ⟨(hs q hq).1.same s1, (hs q hq).2⟩⟩ er (sJ.trans s1)
/-- the parts: one row as told; the paper: two texts -/
def spConf (K : PySem.W.Frag) : Sp := fun vs H Q _ => ∃ (p a t : Addr) (ps : List (Addr × Rec)) (y z : Str), vs = [.ref p, .ref t] ∧ SqT K H p [.ref a] ∧ TRow K H a ps ∧ SqT K H t [.str y, .str z] ∧ isTxt y 200 = true ∧ isTxt z 200 = true ∧
  ∀ G, Same H G → Q (.bl (decide (y ≠ z ∧ cuts (ps.map (·.2)) y.cps.toList = cuts (ps.map (·.2)) z.cps.toList))) G
theorem cal_conf (B : Bi mg) (D : At K mg "confused_holds" s_confused_holds ps_confused_holds) (C_are_told_rows : Cal P w K mg base 4 "are_told_rows" ps_are_told_rows (spTrueP K)) (C_is_pair_of_texts : Cal P w K mg base 2 "is_pair_of_texts" ps_is_pair_of_texts (spPairT K)) (C_row_of : Cal P w K mg base 5 "row_of" ps_row_of (spRowOf K C)) (C_shown_by : Cal P w K mg base 2 "shown_by" ps_shown_by (spShownBy C)) : Cal P w K mg base 6 "confused_holds" ps_confused_holds (spConf K) := by
  refine D.cal sc_confused_holds (fun vs H Q E h => ?_) (fun f cdv A outer s H vs Q E hr h => ?_)
  · obtain ⟨p, a, t, ps, y, z, rfl, _⟩ := h
    rfl
  · obtain ⟨p, a, t, ps, y, z, rfl, hp, hT, ht, hy, hz, k⟩ := h
    have yl : y.cps.toList.length ≤ 600 := by
      have e : y.length = y.cps.toList.length := rfl
      have := isTxt_len hy
      omega
    have zl : z.cps.toList.length ≤ 600 := by
      have e : z.length = z.cps.toList.length := rfl
      have := isTxt_len hz
      omega
    refine ⟨_, (pss_cons (ps_if (PW.pt (pw_or (pt_not (pt_val (pe_own C_are_told_rows hr (by decide) (by rfl) (pa_cons (pv 0) (pa_cons pe_int pa_nil))))) (pw_or1 (pt_not (pt_val (pe_own C_is_pair_of_texts hr (by decide) (by rfl) (pa_cons (pv 1) pa_nil))))))) (pss_one (ps_ret pe_bl)) pss_nil)
      (pss_cons (ps_set (i := 2) sc_confused_holds.nd rfl (.inl rfl) (pe_own C_row_of hr (by decide) (by rfl) (pa_cons (pe_ix ix_tup (pv 0) pe_int (fun _ _ => rfl)) pa_nil)))
      (pss_one (ps_ret (pe_cmpR op_eq (pe_own C_shown_by hr (by decide) (by rfl) (pa_cons (pv 2) (pa_cons (pe_ix ix_tup (pv 1) pe_int (fun _ _ => rfl)) pa_nil))) (pe_own C_shown_by hr (by decide) (by rfl) (pa_cons (pv 2) (pa_cons (pe_ix ix_tup (pv 1) pe_int (fun _ _ => rfl)) pa_nil))) (nomark _)))))), ?_⟩
    refine ⟨_, rfl, p, a, ps, rfl, hp, hT, fun G1 s1 => ⟨_, rfl, iteF ?_⟩⟩
    refine ⟨_, rfl, t, y, z, rfl, stH s1 ht, hy, hz, fun G2 s2 => ⟨_, rfl, ?_⟩⟩
    by_cases e : y = z
    · rw [decide_eq_true (show V.str y = V.str z by rw [e])]
      rw [decide_eq_false (fun h => h.1 e)] at k
      exact iteT (k _ (s1.trans s2))
    · rw [decide_eq_false (fun h => e (V.str.inj h))]
      have s12 := s1.trans s2
      refine iteF ⟨_, rfl, p, _, _, _, rfl, rfl, stH s12 hp, (rfl : atI [V.ref a] 0 = some (V.ref a)), a, ps, rfl, hT.same s12, fun R G3 rs hR er s3 => ?_⟩
      have ht3 := stH (s12.trans s3) ht
      refine ⟨_, rfl, _, rfl, t, _, _, _, rfl, rfl, ht3, (rfl : atI [V.str y, V.str z] 0 = some (V.str y)), R, rs, y, rfl, hR, yl, fun y1 e1 => ?_⟩
      refine ⟨_, rfl, _, rfl, t, _, _, _, rfl, rfl, ht3, (rfl : atI [V.str y, V.str z] 1 = some (V.str z)), R, rs, z, rfl, hR, zl, fun z1 e2 => ⟨rfl, ?_⟩⟩
      rw [er] at e1 e2
      have q : decide (V.str y1 = V.str z1) = decide (y ≠ z ∧ cuts (ps.map (·.2)) y.cps.toList = cuts (ps.map (·.2)) z.cps.toList) := decide_eq_decide.mpr ⟨fun h => ⟨e, by rw [← e1, ← e2, V.str.inj h]⟩, fun h => by rw [str_ext (e1.trans (h.2.trans e2.symm))]⟩
      rw [q]
      exact k _ (s12.trans s3)
end
end Gu
namespace Gu
open PySem PySem.Spec PyProof.Rows L2
/-! ### the checker: holds, of a claim that a row is confused -/
structure ChkW (K : PySem.W.Frag) (mg : Str → Option Value) (w : World) (wd fn : Str) : Prop where
  ex : ∃ (T f : Addr) (es : Array DictEntry) (n : Nat), mg "CHECKS" = some (.ref T) ∧ KDict K w T es n ∧ PySem.W.nsIn K T wd = some (some (.ref f)) ∧ mg fn = some (.ref f)
section
variable {P : Program} {w : World} {K : PySem.W.Frag} {mg : Str → Option Value} {base : Heap} {C : Addr}
def spHolds (K : PySem.W.Frag) : Sp := fun vs H Q _ => ∃ (c a t : Addr) (ps : List (Addr × Rec)) (y z : Str), vs = [.ref c, .ref t] ∧ H c = some (.tup [.str "confused", .ref a]) ∧ TRow K H a ps ∧ SqT K H t [.str y, .str z] ∧ isTxt y 200 = true ∧ isTxt z 200 = true ∧
  ∀ G, Same H G → Q (.bl (decide (y ≠ z ∧ cuts (ps.map (·.2)) y.cps.toList = cuts (ps.map (·.2)) z.cps.toList))) G
theorem cal_holds (B : Bi mg) (Ck : ChkW K mg w "confused" "confused_holds") (D : At K mg "holds" s_holds ps_holds) (C_is_tuple : Cal P w K mg base 1 "is_tuple" ps_is_tuple (spIsTuple K)) (C6 : Cal P w K mg base 6 "confused_holds" ps_confused_holds (spConf K)) : Cal P w K mg base 7 "holds" ps_holds (spHolds K) := by
  obtain ⟨T, f6, es, n6, gT, DC, nc, gf⟩ := Ck.ex
  obtain ⟨f7, fd6, F6, g6, kp, bd, _⟩ := C6.ex
  obtain rfl : f7 = f6 := by
    rw [gf] at g6
    have := Option.some.inj g6
    cases this
    rfl
  refine D.cal sc_holds (fun vs H Q E h => ?_) (fun f cdv A outer s H vs Q E hr h => ?_)
  · obtain ⟨c, a, t, ps, y, z, rfl, _⟩ := h
    rfl
  · obtain ⟨c, a, t, ps, y, z, rfl, hc, hT, ht, hy, hz, k⟩ := h
    have i0 : atI [V.str "confused", V.ref a] 0 = some (V.str "confused") := rfl
    refine ⟨_, (pss_cons (ps_if (PW.pt (pw_or (pt_not (pt_val (pe_own C_is_tuple hr (by decide) (by rfl) (pa_cons (pv 0) (pa_cons pe_int (pa_cons pe_int pa_nil)))))) (pw_or (pt_not (pt_val (pe_callB call_isi (by rfl) B.isinstance (by decide +kernel) (pa_cons (pe_ix ix_tup (pv 0) pe_int (fun _ _ => rfl)) (pa_cons (pe_bltn (v := .ty "str") (by rfl) B.str (by decide +kernel) rfl) pa_nil))))) (pw_or1 (pt_cmpR (op_notIn_kd DC) (pe_ix ix_tup (pv 0) pe_int (fun _ _ => rfl)) (pe_glob (v := .ref T) (by rfl) gT rfl) (by rfl)))))) (pss_one (ps_ret pe_bl)) pss_nil)
      (pss_cons (ps_set (i := 2) sc_holds.nd rfl (.inl rfl) (pe_ix ix_kdict (pe_glob (v := .ref T) (by rfl) gT rfl) (pe_ix ix_tup (pv 0) pe_int (fun _ _ => rfl)) (fun _ _ => rfl)))
      (pss_one (ps_ret (pe_callL (i := 2) (E := E0) F6 (hr.mono (by decide)) rfl (.inl rfl) kp bd .nil pass0 (pa_cons (pe_slice sl_tupA (pv 0) (po_some pe_int) po_none) (pa_cons (pv 1) pa_nil))))))), ?_⟩
    obtain ⟨tt, i1, i2⟩ := Isa.str_str (K := K) (H := H) (z := "confused")
    refine ⟨_, rfl, _, _, _, rfl, .inl ⟨c, _, rfl, .inl (.inl hc), _, rfl, iteF ?_⟩⟩
    refine ⟨_, rfl, c, _, _, _, rfl, rfl, .inl (.inl hc), i0, _, _, tt, _, true, rfl, .ty _, i1, i2, _, rfl, iteF ?_⟩
    refine ⟨_, rfl, c, _, _, _, rfl, rfl, .inl (.inl hc), i0, _, _, rfl, rfl, nc, _, rfl, iteF ?_⟩
    refine ⟨_, rfl, c, _, _, _, rfl, rfl, .inl (.inl hc), i0, T, _, V.ref f7, rfl, rfl, ⟨es, n6, _, DC.at_, DC.lit, nc, rfl⟩, ?_⟩
    refine ⟨rfl, _, rfl, 1, rfl, ?_⟩
    refine noPart ?_
    refine sl_ok hc fun U G1 s1 e1 => ?_
    have e1 : G1 U = some (.tup [.ref a]) := e1
    exact ⟨_, rfl, U, a, t, ps, y, z, rfl, .inl (.inl e1), hT.same s1, stH s1 ht, hy, hz, fun G s2 => k G (s1.trans s2)⟩
end
end Gu
namespace Gu
open PySem PySem.Spec PyProof.Rows L2
/-! ### what is of no right kind -/
/-- no whole number from 0 to m -/
def NoNum (K : PySem.W.Frag) (H : Hp) (m : Int) (v : V) : Prop := (∃ i : Int, v = .int i ∧ ¬ (0 ≤ i ∧ i ≤ m)) ∨ Isa K H v "int" false ∨ (Isa K H v "int" true ∧ Isa K H v "bool" true)
/-- no text of at most m signs -/
def NoTxt (K : PySem.W.Frag) (H : Hp) (m : Int) (v : V) : Prop := Isa K H v "str" false ∨ ∃ z : Str, v = .str z ∧ z.length ≤ 1000 ∧ isTxt z m = false
/-- no tuple of a to b items -/
def NoTup (K : PySem.W.Frag) (H : Hp) (a b : Nat) (v : V) : Prop := Isa K H v "tuple" false ∨ ∃ (l : Addr) (xs : List V), v = .ref l ∧ SqT K H l xs ∧ ¬ (a ≤ xs.length ∧ xs.length ≤ b)
section
variable {P : Program} {w : World} {K : PySem.W.Frag} {mg : Str → Option Value} {base : Heap}
theorem TyX.same {H G : Hp} (s : Same H G) {v : V} {t : Value} (h : TyX K H v t) : TyX K G v t := by
  cases h with
  | base b =>
    refine .base ?_
    cases b with
    | non => exact .non
    | bl x => exact .bl x
    | int i => exact .int i
    | str x => exact .str x
    | flt x => exact .flt x
    | lst e => exact .lst (s _ _ e)
    | frz e => exact .frz (s _ _ e)
    | tup e => exact .tup (s _ _ e)
    | dK e => exact .dK (s _ _ e)
    | dT e => exact .dT (s _ _ e)
    | ins e a b c d f => exact .ins (s _ _ e) a b c d f
  | byt b => exact .byt b
  | set e => exact .set (s _ _ e)
  | kList e c => exact .kList e c
  | kTuple e c => exact .kTuple e c
  | kDict e c => exact .kDict e c
  | fTuple e => exact .fTuple (s _ _ e)
  | fDict e => exact .fDict (s _ _ e)
theorem Isa.same {H G : Hp} (s : Same H G) {v : V} {T : String} {b : Bool} (h : Isa K H v T b) : Isa K G v T b := by
  obtain ⟨t, a, c⟩ := h
  exact ⟨t, TyX.same s a, c⟩
theorem NoNum.same {H G : Hp} (s : Same H G) {m : Int} {v : V} (h : NoNum K H m v) : NoNum K G m v := h.imp id (Or.imp (Isa.same s) fun ⟨a, b⟩ => ⟨a.same s, b.same s⟩)
theorem NoTxt.same {H G : Hp} (s : Same H G) {m : Int} {v : V} (h : NoTxt K H m v) : NoTxt K G m v := h.imp (Isa.same s) id
theorem NoTup.same {H G : Hp} {a b : Nat} {v : V} (s : Same H G) (h : NoTup K H a b v) : NoTup K G a b v := h.imp (Isa.same s) fun ⟨l, xs, e, q, n⟩ => ⟨l, xs, e, stH s q, n⟩
theorem Cal.imp {k : Nat} {x : Str} {ps : List Str} {s1 s2 : Sp} (c : Cal P w K mg base k x ps s1) (h : ∀ vs H Q E, s2 vs H Q E → s1 vs H Q E) : Cal P w K mg base k x ps s2 := by
  obtain ⟨f, fd, F, r⟩ := c.ex
  exact ⟨f, fd, ⟨fun vs H Q E z => F.len vs H Q E (h vs H Q E z), fun A outer s H args us vs Q E a b c d z => F.run A outer s H args us vs Q E a b c d (h vs H Q E z)⟩, r⟩
theorem Cal.lift {k j : Nat} {x : Str} {ps : List Str} {sp : Sp} (c : Cal P w K mg base k x ps sp) (h : k ≤ j) : Cal P w K mg base j x ps sp := by
  obtain ⟨f, fd, F, r⟩ := c.ex
  exact ⟨f, fd, ⟨F.len, fun A outer s H args us vs Q E rm => F.run A outer s H args us vs Q E (rm.mono h)⟩, r⟩
abbrev spOr (a b : Sp) : Sp := fun vs H Q E => a vs H Q E ∨ b vs H Q E
theorem Cal.or2 {k : Nat} {x : Str} {ps : List Str} {s1 s2 : Sp} (a : Cal P w K mg base k x ps s1) (b : Cal P w K mg base k x ps s2) : Cal P w K mg base k x ps (spOr s1 s2) := by
  obtain ⟨f, fd, F, hm, kp, bd, oc, od, sl, lk⟩ := a.ex
  obtain ⟨f2, fd2, F2, hm2, _, _, oc2, od2, sl2, lk2⟩ := b.ex
  have e1 := hm.symm.trans hm2
  cases e1
  have e2 := lk.symm.trans lk2
  cases e2
  exact ⟨f, fd, ⟨fun vs H Q E h => h.elim (F.len vs H Q E) (F2.len vs H Q E), fun A outer s H args us vs Q E c d e g h => h.elim (F.run A outer s H args us vs Q E c d e g) (F2.run A outer s H args us vs Q E c d e g)⟩, hm, kp, bd, oc, od, sl, lk⟩
/-- a whole number from 0 to m, or none -/
def spNum (K : PySem.W.Frag) : Sp := fun vs H Q _ => ∃ (v : V) (m : Int), vs = [v, .int 0, .int m] ∧ ((∃ i : Int, v = .int i ∧ 0 ≤ i ∧ i ≤ m ∧ Q (.bl true) H) ∨ (NoNum K H m v ∧ Q (.bl false) H))
theorem num_of (c : Cal P w K mg base 1 "is_integer" ps_is_integer (spIsInteger K)) : Cal P w K mg base 1 "is_integer" ps_is_integer (spNum K) := c.imp fun vs H Q E ⟨v, m, e, h⟩ => by
  refine ⟨v, 0, m, e, ?_⟩
  rcases h with ⟨i, rfl, h0, h1, q⟩ | ⟨⟨i, rfl, h⟩ | h | ⟨h, k⟩, q⟩
  · exact .inl ⟨i, rfl, by rw [decide_eq_true ⟨h0, h1⟩]; exact q⟩
  · exact .inl ⟨i, rfl, by rw [decide_eq_false h]; exact q⟩
  · exact .inr (.inl ⟨h, q⟩)
  · exact .inr (.inr ⟨h, k, q⟩)
/-- a text of at most m signs, or none -/
def spTxt (K : PySem.W.Frag) : Sp := fun vs H Q _ => ∃ (v : V) (m : Int), vs = [v, .int m] ∧ ((∃ z : Str, v = .str z ∧ z.length ≤ 1000 ∧ isTxt z m = true ∧ ∀ G, Same H G → Q (.bl true) G) ∨ (NoTxt K H m v ∧ ∀ G, Same H G → Q (.bl false) G))
theorem txt_of (c : Cal P w K mg base 1 "is_text" ps_is_text (spIsText K)) : Cal P w K mg base 1 "is_text" ps_is_text (spTxt K) := c.imp fun vs H Q E ⟨v, m, e, h⟩ => by
  refine ⟨v, m, e, ?_⟩
  rcases h with ⟨z, rfl, l, h, q⟩ | ⟨h | ⟨z, rfl, l, h⟩, q⟩
  · exact .inl ⟨z, rfl, l, fun G s => by rw [h]; exact q G s⟩
  · exact .inr ⟨h, q H (Same.refl H)⟩
  · exact .inl ⟨z, rfl, l, fun G s => by rw [h]; exact q G s⟩
/-- a tuple of a to b items, or none -/
def spTup (K : PySem.W.Frag) : Sp := fun vs H Q _ => ∃ (v : V) (a b : Nat), vs = [v, .int (a : Int), .int (b : Int)] ∧ ((∃ (l : Addr) (xs : List V), v = .ref l ∧ SqT K H l xs ∧ a ≤ xs.length ∧ xs.length ≤ b ∧ Q (.bl true) H) ∨ (NoTup K H a b v ∧ Q (.bl false) H))
theorem tup_of (c : Cal P w K mg base 1 "is_tuple" ps_is_tuple (spIsTuple K)) : Cal P w K mg base 1 "is_tuple" ps_is_tuple (spTup K) := c.imp fun vs H Q E ⟨v, a, b, e, h⟩ => by
  refine ⟨v, a, b, e, ?_⟩
  rcases h with ⟨l, xs, rfl, hs, h0, h1, q⟩ | ⟨h | ⟨l, xs, rfl, hs, n⟩, q⟩
  · exact .inl ⟨l, xs, rfl, hs, by rw [decide_eq_true ⟨by omega, by omega⟩]; exact q⟩
  · exact .inr ⟨h, q⟩
  · exact .inl ⟨l, xs, rfl, hs, by rw [decide_eq_false (fun z => n ⟨by omega, by omega⟩)]; exact q⟩
variable {G : Hp} {a : Addr} {xs : List V} {m : Int}
theorem isa_non {T : String} {b : Bool} (h : PySem.W.kitOne K (.type "NoneType") (.type T) = some b) : Isa K G .non T b := ⟨_, .base .non, h⟩
theorem isa_bl {T : String} {b x : Bool} (h : PySem.W.kitOne K (.type "bool") (.type T) = some b) : Isa K G (.bl x) T b := ⟨_, .base (.bl x), h⟩
theorem isa_int {T : String} {b : Bool} {x : Int} (h : PySem.W.kitOne K (.type "int") (.type T) = some b) : Isa K G (.int x) T b := ⟨_, .base (.int x), h⟩
theorem isa_str {T : String} {b : Bool} {x : Str} (h : PySem.W.kitOne K (.type "str") (.type T) = some b) : Isa K G (.str x) T b := ⟨_, .base (.str x), h⟩
theorem isa_tup {T : String} {b : Bool} (e : G a = some (.tup xs)) (h : PySem.W.kitOne K (.type "tuple") (.type T) = some b) : Isa K G (.ref a) T b := ⟨_, .base (.tup e), h⟩
theorem isa_lst {T : String} {b : Bool} (e : G a = some (.lst xs)) (h : PySem.W.kitOne K (.type "list") (.type T) = some b) : Isa K G (.ref a) T b := ⟨_, .base (.lst e), h⟩
theorem isa_dict {T : String} {b : Bool} (e : G a = some (.dK [])) (h : PySem.W.kitOne K (.type "dict") (.type T) = some b) : Isa K G (.ref a) T b := ⟨_, .base (.dK e), h⟩
end
/-! unpacking a list -/
section
variable {X : Cx} {pos : Pos}
def gTupLs (n : Nat) (t : TGs) : TG := fun v σ H Q => ∃ a xs, v = .ref a ∧ H a = some (.lst xs) ∧ xs.length = n ∧ t xs σ H Q
theorem pg_tupL {es : List Expr} {k : Nat} {t : TGs} {n : Nat} (hc : X.calm = true) (h : PGs X es t)
    (hn : (assignEach es X.env).length = n := by rfl) (hst : (assignEach es X.env).findIdx? (·.1) = none := by rfl) : PG X (.Tuple es k pos) (gTupLs n t) := by
  refine ⟨fun pins s σ H v u Q I r hw => ?_⟩
  obtain ⟨a, xs, e1, hq, hl, hw⟩ := hw
  subst e1
  cases r
  obtain ⟨z, its, m, rv, ln, e⟩ := I.lstM hq
  have hL : s.heap.IsList a its.toArray := ⟨_, e, rfl, m, rfl⟩
  rw [assign_Tuple]
  refine wpAny_bind (wpAny_standAt ?_)
  unfold unpack
  rw [show (assignEach es X.env).length = its.toArray.size by rw [hn, ← hl, List.size_toArray, ln], hst]
  refine wpAny_bind (wpAny_holding (PySem.W.kun_itemsOf (I.ok.hd hc) hL fun h' hx => ?_))
  have I1 : Inv X pins σ H { s with heap := h' } := I.kept (t' := s.toks) fun b o e => hx b o (Nat.ne_of_lt (Heap.lt_size e)) e
  exact h.run pins _ σ H xs _ Q I1 (by simpa using rv) hw
end
end Gu
namespace Gu
open PySem PySem.Spec PyProof.Rows L2
/-! ### the checker: what it refuses -/
def NumOk (v : V) : Prop := ∃ i : Int, v = .int i ∧ 0 ≤ i ∧ i ≤ 40
def NoTold (K : PySem.W.Frag) (H : Hp) (v : V) : Prop := NoTup K H 4 4 v ∨ ∃ (l : Addr) (a b c d : V), v = .ref l ∧ H l = some (.tup [a, b, c, d]) ∧ NumOk b ∧ NumOk c ∧ (NoNum K H 40 a ∨ (NumOk a ∧ NoTxt K H 3 d))
def NoRowT (K : PySem.W.Frag) (H : Hp) (v : V) : Prop := NoTup K H 1 4 v ∨ ∃ (l : Addr) (y : V), v = .ref l ∧ SqT K H l [y] ∧ NoTold K H y
theorem NoTold.same {K : PySem.W.Frag} {H G : Hp} {v : V} (s : Same H G) (h : NoTold K H v) : NoTold K G v := h.imp (NoTup.same s) fun ⟨l, a, b, c, d, e, q, nb, nc, n⟩ => ⟨l, a, b, c, d, e, s _ _ q, nb, nc, n.imp (NoNum.same s) fun ⟨x, y⟩ => ⟨x, y.same s⟩⟩
theorem NoRowT.same {K : PySem.W.Frag} {H G : Hp} {v : V} (s : Same H G) (h : NoRowT K H v) : NoRowT K G v := h.imp (NoTup.same s) fun ⟨l, y, e, q, n⟩ => ⟨l, y, e, stH s q, n.same s⟩
/-- the kinds of a claim's parts -/
inductive Pt where
  | r
  | t
  | n
def PartOk (K : PySem.W.Frag) (H : Hp) : Pt → V → Prop
  | .r, v => ∃ (a : Addr) (ps : List (Addr × Rec)), v = .ref a ∧ TRow K H a ps
  | .t, v => ∃ z : Str, v = .str z ∧ z.length ≤ 1000 ∧ isTxt z 200 = true
  | .n, v => ∃ i : Int, v = .int i ∧ 0 ≤ i ∧ i ≤ 500
def PartNo (K : PySem.W.Frag) (H : Hp) : Pt → V → Prop
  | .r, v => NoRowT K H v
  | .t, v => NoTxt K H 200 v
  | .n, v => NoNum K H 500 v
theorem PartOk.same {K : PySem.W.Frag} {H G : Hp} (s : Same H G) : ∀ {k : Pt} {v : V}, PartOk K H k v → PartOk K G k v
  | .r, _, ⟨a, ps, e, h⟩ => ⟨a, ps, e, h.same s⟩
  | .t, _, h => h
  | .n, _, h => h
theorem PartNo.same {K : PySem.W.Frag} {H G : Hp} (s : Same H G) : ∀ {k : Pt} {v : V}, PartNo K H k v → PartNo K G k v
  | .r, _, h => NoRowT.same s h
  | .t, _, h => NoTxt.same s h
  | .n, _, h => NoNum.same s h
inductive Pp where
  | unit
  | txt
  | long
  | pair
def PaperNo (K : PySem.W.Frag) (H : Hp) : Pp → V → Prop
  | .unit, v => NoTup K H 0 0 v
  | .txt, v => NoTxt K H 200 v
  | .long, v => NoTxt K H 500 v
  | .pair, v => NoTup K H 2 2 v
theorem PaperNo.same {K : PySem.W.Frag} {H G : Hp} (s : Same H G) : ∀ {k : Pp} {v : V}, PaperNo K H k v → PaperNo K G k v
  | .unit, _, h => NoTup.same s h
  | .txt, _, h => NoTxt.same s h
  | .long, _, h => NoTxt.same s h
  | .pair, _, h => NoTup.same s h
def PartsOk (K : PySem.W.Frag) (H : Hp) (ks : List Pt) (xs : List V) : Prop := ∀ (i : Nat) (k : Pt) (y : V), ks[i]? = some k → xs[i]? = some y → PartOk K H k y
theorem PartsOk.same {K : PySem.W.Frag} {H G : Hp} {ks : List Pt} {xs : List V} (s : Same H G) (h : PartsOk K H ks xs) : PartsOk K G ks xs := fun i k y hk hy => (h i k y hk hy).same s
/-- the parts are too many, too few, or just one is wrong, or the paper is -/
def Bad (K : PySem.W.Frag) (H : Hp) (ks : List Pt) (pk : Pp) (xs : List V) (x : V) : Prop := xs.length ≠ ks.length ∨
  (xs.length = ks.length ∧ ∃ (j : Nat) (k : Pt) (y : V), ks[j]? = some k ∧ xs[j]? = some y ∧ PartNo K H k y ∧ ∀ (i : Nat) (k : Pt) (z : V), i ≠ j → ks[i]? = some k → xs[i]? = some z → PartOk K H k z) ∨
  (xs.length = ks.length ∧ PartsOk K H ks xs ∧ PaperNo K H pk x)
theorem Bad.same {K : PySem.W.Frag} {H G : Hp} {ks : List Pt} {pk : Pp} {xs : List V} {x : V} (s : Same H G) (h : Bad K H ks pk xs x) : Bad K G ks pk xs x := by
  rcases h with h | ⟨l, j, k, y, hk, hy, n, o⟩ | ⟨l, o, n⟩
  · exact .inl h
  · exact .inr (.inl ⟨l, j, k, y, hk, hy, n.same s, fun i k z ij h1 h2 => (o i k z ij h1 h2).same s⟩)
  · exact .inr (.inr ⟨l, o.same s, n.same s⟩)
theorem lst3 {b1 b2 b3 : Bool} {M : Addr} {J : Hp} {xs : List V} (h : J M = some (.lst xs)) (e : xs = [.bl b1, .bl b2, .bl b3]) : J M = some (.lst ([b1, b2, b3].map V.bl)) := by rw [h, e]; rfl
section
variable {P : Program} {w : World} {K : PySem.W.Frag} {mg : Str → Option Value} {base : Heap} {C : Addr}
def spNoTold (K : PySem.W.Frag) : Sp := fun vs H Q _ => ∃ v : V, vs = [v] ∧ NoTold K H v ∧ ∀ G, Same H G → Q (.bl false) G
theorem num_bool {H : Hp} {a b c d : V} (h : NoNum K H 40 a ∨ (NumOk a ∧ NoTxt K H 3 d)) (hb : NumOk b) (hc : NumOk c) : ∃ q : Bool, ((q = false) ∨ (q = true ∧ NoTxt K H 3 d)) ∧ ∀ (i : Nat) (v : V), [a, b, c][i]? = some v → ∃ r, [q, true, true][i]? = some r ∧ ((r = true ∧ NumOk v) ∨ (r = false ∧ NoNum K H 40 v)) := by
  rcases h with h | ⟨h, nt⟩
  · refine ⟨false, .inl rfl, fun i v e => ?_⟩
    match i, e with
    | 0, e => cases e; exact ⟨false, rfl, .inr ⟨rfl, h⟩⟩
    | 1, e => cases e; exact ⟨true, rfl, .inl ⟨rfl, hb⟩⟩
    | 2, e => cases e; exact ⟨true, rfl, .inl ⟨rfl, hc⟩⟩
    | n + 3, e => simp at e
  · refine ⟨true, .inr ⟨rfl, nt⟩, fun i v e => ?_⟩
    match i, e with
    | 0, e => cases e; exact ⟨true, rfl, .inl ⟨rfl, h⟩⟩
    | 1, e => cases e; exact ⟨true, rfl, .inl ⟨rfl, hb⟩⟩
    | 2, e => cases e; exact ⟨true, rfl, .inl ⟨rfl, hc⟩⟩
    | n + 3, e => simp at e
theorem cal_noTold (B : Bi mg) (D : At K mg "is_told" s_is_told ps_is_told) (C_is_tuple : Cal P w K mg base 1 "is_tuple" ps_is_tuple (spTup K)) (C_is_integer : Cal P w K mg base 1 "is_integer" ps_is_integer (spNum K)) (C_is_text : Cal P w K mg base 1 "is_text" ps_is_text (spTxt K)) : Cal P w K mg base 2 "is_told" ps_is_told (spNoTold K) := by
  refine D.cal sc_is_told (fun vs H Q E h => ?_) (fun f cdv A outer s H vs Q E hr h => ?_)
  · obtain ⟨v, rfl, _⟩ := h
    rfl
  · obtain ⟨v, rfl, no | ⟨l, a, b, c, d, rfl, hs, hb, hc, hn⟩, k⟩ := h
    · refine ⟨_, (pss_cons (ps_if (pt_not (pt_val (pe_own C_is_tuple hr (by decide) (by rfl) (pa_cons (pv 0) (pa_cons pe_int (pa_cons pe_int pa_nil)))))) (pss_one (ps_ret pe_bl)) pss_nil)
      (pss_one (ps_ret (pe_and (pe_callB (cr_all rfl) (by rfl) B.all (by decide +kernel) (pa_cons (pe_lc (own := [("number", 1)]) (by rfl) sc_is_told.nd (pi_tup (pe_slice sl_tupA (pv 0) po_none (po_some pe_int))) (blkOk_by (own := [("number", 1)]) (N := ["value", "number"]) (sc := defScope s_is_told) (by decide +kernel)) (fun _ _ _ _ _ => pg_name (i := 1) sc_is_told.nd rfl (.inl rfl)) (fun _ _ _ _ _ => pts_nil) (fun _ _ _ _ _ => (pe_own C_is_integer hr (by decide) (by rfl) (pa_cons (pv 1) (pa_cons pe_int (pa_cons (pe_cst B.MOST_SIGNS (by rfl)) pa_nil)))))) pa_nil)) (pe_one (pe_own C_is_text hr (by decide) (by rfl) (pa_cons (pe_ix ix_tup (pv 0) pe_int (fun _ _ => rfl)) (pa_cons (pe_cst B.MOST_MARK (by rfl)) pa_nil)))))))), ?_⟩
      exact ⟨_, rfl, v, 4, 4, rfl, .inr ⟨no, _, rfl, iteT (k H (Same.refl H))⟩⟩
    · refine ⟨_, (pss_cons (ps_if (pt_not (pt_val (pe_own C_is_tuple hr (by decide) (by rfl) (pa_cons (pv 0) (pa_cons pe_int (pa_cons pe_int pa_nil)))))) (pss_one (ps_ret pe_bl)) pss_nil)
      (pss_one (ps_ret (pe_and (pe_callB (cr_all rfl) (by rfl) B.all (by decide +kernel) (pa_cons (pe_lc (own := [("number", 1)]) (by rfl) sc_is_told.nd (pi_tup (pe_slice sl_tupA (pv 0) po_none (po_some pe_int))) (blkOk_by (own := [("number", 1)]) (N := ["value", "number"]) (sc := defScope s_is_told) (by decide +kernel)) (fun _ _ _ _ _ => pg_name (i := 1) sc_is_told.nd rfl (.inl rfl)) (fun _ _ _ _ _ => pts_nil) (fun _ _ _ _ _ => (pe_own C_is_integer hr (by decide) (by rfl) (pa_cons (pv 1) (pa_cons pe_int (pa_cons (pe_cst B.MOST_SIGNS (by rfl)) pa_nil)))))) pa_nil)) (pe_one (pe_own C_is_text hr (by decide) (by rfl) (pa_cons (pe_ix ix_tup (pv 0) pe_int (fun _ _ => rfl)) (pa_cons (pe_cst B.MOST_MARK (by rfl)) pa_nil)))))))), ?_⟩
      obtain ⟨q, way, each⟩ := num_bool hn hb hc
      have hs0 : SqT K H l [a, b, c, d] := .inl (.inl hs)
      refine ⟨_, rfl, _, 4, 4, rfl, .inl ⟨l, _, rfl, hs0, by show 4 ≤ 4; decide, by show 4 ≤ 4; decide, _, rfl, iteF ?_⟩⟩
      refine ⟨_, rfl, 3, rfl, sl_ok hs fun U G1 s1 e1 => ?_⟩
      have e1 : G1 U = some (.tup [a, b, c]) := e1
      refine ⟨U, rfl, ⟨_, .inl (.inl e1)⟩, fun M nM => lc_tup (K := K) (a := U) (xs := [a, b, c]) (fun i J => J M = some (.lst (([q, true, true].take i).map V.bl)) ∧ Same G1 J)
        ⟨upd_same, same_new nM⟩ (fun i J _ ⟨_, sJ⟩ => .inl (.inl (sJ _ _ e1))) ?_ ?_⟩
      · rintro i v J hi ⟨eM, sJ⟩
        have i3 : i < 3 := (List.getElem?_eq_some_iff.mp hi).1
        obtain ⟨r, hr2, way⟩ := each i v hi
        refine ⟨rfl, yes (iteT ⟨_, rfl, v, 40, rfl, ?_⟩)⟩
        rcases way with ⟨rfl, m, rfl, m0, m1⟩ | ⟨rfl, no⟩
        · refine .inl ⟨m, rfl, m0, m1, _, eM, small1000 (by rw [List.length_map, List.length_take]; omega), ?_, offT sJ nM⟩
          rw [upd_same, List.take_add_one, hr2, List.map_append]
          rfl
        · refine .inr ⟨no.same (s1.trans sJ), _, eM, small1000 (by rw [List.length_map, List.length_take]; omega), ?_, offT sJ nM⟩
          rw [upd_same, List.take_add_one, hr2, List.map_append]
          rfl
      · rintro J ⟨eM, sJ⟩
        refine ⟨M, [q, true, true], rfl, .inl (.inl eM), q, by cases q <;> rfl, ?_⟩
        have s2 := s1.trans sJ
        rcases way with rfl | ⟨rfl, nt⟩
        · exact iteF (k J s2)
        · exact iteT ⟨_, rfl, l, _, _, _, rfl, rfl, stH s2 hs0, (rfl : atI [a, b, c, d] 3 = some d), d, 3, rfl, .inr ⟨nt.same s2, fun G sG => k G (s2.trans sG)⟩⟩
end
end Gu
namespace Gu
open PySem PySem.Spec PyProof.Rows L2
section
variable {P : Program} {w : World} {K : PySem.W.Frag} {mg : Str → Option Value} {base : Heap} {C : Addr}
def spNoRowT (K : PySem.W.Frag) : Sp := fun vs H Q _ => ∃ v : V, vs = [v] ∧ NoRowT K H v ∧ ∀ G, Same H G → Q (.bl false) G
theorem cal_noRowT (B : Bi mg) (D : At K mg "is_told_row" s_is_told_row ps_is_told_row) (C_is_tuple : Cal P w K mg base 1 "is_tuple" ps_is_tuple (spTup K)) (C_is_told : Cal P w K mg base 2 "is_told" ps_is_told (spNoTold K)) : Cal P w K mg base 3 "is_told_row" ps_is_told_row (spNoRowT K) := by
  refine D.cal sc_is_told_row (fun vs H Q E h => ?_) (fun f cdv A outer s H vs Q E hr h => ?_)
  · obtain ⟨v, rfl, _⟩ := h
    rfl
  · obtain ⟨v, rfl, no | ⟨l, y, rfl, hs, no⟩, k⟩ := h
    · refine ⟨_, (pss_one (ps_ret (pe_and (pe_own C_is_tuple hr (by decide) (by rfl) (pa_cons (pv 0) (pa_cons pe_int (pa_cons (pe_cst B.MOST_ROW (by rfl)) pa_nil)))) (pe_one (pe_callB (cr_all rfl) (by rfl) B.all (by decide +kernel) (pa_cons (pe_lc (own := [("part", 1)]) (by rfl) sc_is_told_row.nd (pi_tup (pv 0)) (blkOk_by (own := [("part", 1)]) (N := ["value", "part"]) (sc := defScope s_is_told_row) (by decide +kernel)) (fun _ _ _ _ _ => pg_name (i := 1) sc_is_told_row.nd rfl (.inl rfl)) (fun _ _ _ _ _ => pts_nil) (fun _ _ _ _ _ => (pe_own C_is_told hr (by decide) (by rfl) (pa_cons (pv 1) pa_nil)))) pa_nil)))))), ?_⟩
      exact ⟨_, rfl, v, 1, 4, rfl, .inr ⟨no, _, rfl, iteF (k H (Same.refl H))⟩⟩
    · refine ⟨_, (pss_one (ps_ret (pe_and (pe_own C_is_tuple hr (by decide) (by rfl) (pa_cons (pv 0) (pa_cons pe_int (pa_cons (pe_cst B.MOST_ROW (by rfl)) pa_nil)))) (pe_one (pe_callB (cr_all rfl) (by rfl) B.all (by decide +kernel) (pa_cons (pe_lc (own := [("part", 1)]) (by rfl) sc_is_told_row.nd (pi_tup (pv 0)) (blkOk_by (own := [("part", 1)]) (N := ["value", "part"]) (sc := defScope s_is_told_row) (by decide +kernel)) (fun _ _ _ _ _ => pg_name (i := 1) sc_is_told_row.nd rfl (.inl rfl)) (fun _ _ _ _ _ => pts_nil) (fun _ _ _ _ _ => (pe_own C_is_told hr (by decide) (by rfl) (pa_cons (pv 1) pa_nil)))) pa_nil)))))), ?_⟩
      refine ⟨_, rfl, _, 1, 4, rfl, .inl ⟨l, _, rfl, hs, by show 1 ≤ 1; decide, by show 1 ≤ 4; decide, _, rfl, ?_⟩⟩
      refine iteT ⟨_, rfl, l, rfl, ⟨_, hs⟩, fun M nM => lc_tup (K := K) (a := l) (xs := [y]) (fun i J => J M = some (.lst ((List.replicate i false).map V.bl)) ∧ Same H J)
        ⟨upd_same, same_new nM⟩ (fun i J _ ⟨_, sJ⟩ => stH sJ hs) ?_ ?_⟩
      · rintro i v J hi ⟨eM, sJ⟩
        have il : i < 1 := (List.getElem?_eq_some_iff.mp hi).1
        obtain rfl : i = 0 := by omega
        cases hi
        refine ⟨rfl, yes (iteT ⟨_, rfl, y, rfl, no.same sJ, fun G sG => ⟨_, sG _ _ eM, small1000 (by show 0 ≤ 1000; decide), ?_, offT (sJ.trans sG) nM⟩⟩)⟩
        rw [upd_same]
        rfl
      · rintro J ⟨eM, sJ⟩
        refine ⟨M, [false], rfl, .inl (.inl eM), k J sJ⟩
/-- a row as told, or none -/
abbrev spRowTB (K : PySem.W.Frag) : Sp := spOr (spTrueR K) (spNoRowT K)
/-- the parts of a claim are rows: too many, too few, or one is none -/
def spRowsNo (K : PySem.W.Frag) : Sp := fun vs H Q _ => ∃ (p : Addr) (n : Nat) (xs : List V), vs = [.ref p, .int (n : Int)] ∧ SqT K H p xs ∧ xs.length ≤ 4 ∧ (xs.length ≠ n ∨ ∃ (j : Nat) (y : V), xs[j]? = some y ∧ NoRowT K H y ∧ ∀ (i : Nat) (z : V), i ≠ j → xs[i]? = some z → PartOk K H .r z) ∧ ∀ G, Same H G → Q (.bl false) G
theorem all_no {n j : Nat} (h : j < n) : (((List.range n).map fun q => decide (q ≠ j)).all id) = false := by
  rw [List.all_eq_false]
  exact ⟨false, List.mem_map.mpr ⟨j, List.mem_range.mpr h, decide_eq_false fun z => z rfl⟩, by decide⟩
theorem cal_rowsNo (B : Bi mg) (D : At K mg "are_told_rows" s_are_told_rows ps_are_told_rows) (C_is_told_row : Cal P w K mg base 3 "is_told_row" ps_is_told_row (spRowTB K)) : Cal P w K mg base 4 "are_told_rows" ps_are_told_rows (spRowsNo K) := by
  refine D.cal sc_are_told_rows (fun vs H Q E h => ?_) (fun f cdv A outer s H vs Q E hr h => ?_)
  · obtain ⟨p, n, xs, rfl, _⟩ := h
    rfl
  · obtain ⟨p, n, xs, rfl, hp, x4, way, k⟩ := h
    by_cases e : xs.length = n
    · subst e
      obtain ⟨j, y, hy, no, ok⟩ : ∃ (j : Nat) (y : V), xs[j]? = some y ∧ NoRowT K H y ∧ ∀ (i : Nat) (z : V), i ≠ j → xs[i]? = some z → PartOk K H .r z := way.resolve_left fun z => z rfl
      refine ⟨_, (pss_one (ps_ret (pe_and (pe_cmpR op_eq (pe_callB call_len (by rfl) B.len (by decide +kernel) (pa_cons (pv 0) pa_nil)) (pv 1) (nomark _)) (pe_one (pe_callB (cr_all rfl) (by rfl) B.all (by decide +kernel) (pa_cons (pe_lc (own := [("part", 2)]) (by rfl) sc_are_told_rows.nd (pi_tup (pv 0)) (blkOk_by (own := [("part", 2)]) (N := ["parts", "many", "part"]) (sc := defScope s_are_told_rows) (by decide +kernel)) (fun _ _ _ _ _ => pg_name (i := 2) sc_are_told_rows.nd rfl (.inl rfl)) (fun _ _ _ _ _ => pts_nil) (fun _ _ _ _ _ => (pe_own C_is_told_row hr (by decide) (by rfl) (pa_cons (pv 2) pa_nil)))) pa_nil)))))), ?_⟩
      refine ⟨_, rfl, _, _, rfl, .inr ⟨_, hp, rfl⟩, _, rfl, rfl, _, rfl, ?_⟩
      rw [decide_eq_true rfl]
      refine iteT ⟨_, rfl, p, rfl, ⟨_, hp⟩, fun M nM => lc_tup (K := K) (a := p) (xs := xs) (fun i J => J M = some (.lst (((List.range i).map fun q => decide (q ≠ j)).map V.bl)) ∧ Same H J)
        ⟨upd_same, same_new nM⟩ (fun i J _ ⟨_, sJ⟩ => stH sJ hp) ?_ ?_⟩
      · rintro i v J hi ⟨eM, sJ⟩
        have il : i < xs.length := (List.getElem?_eq_some_iff.mp hi).1
        refine ⟨rfl, yes (iteT ?_)⟩
        by_cases ij : i = j
        · subst ij
          rw [hy] at hi
          cases hi
          refine ⟨_, rfl, .inr ⟨y, rfl, no.same sJ, fun G sG => ⟨_, sG _ _ eM, small1000 (by rw [List.length_map, List.length_map, List.length_range]; omega), ?_, offT (sJ.trans sG) nM⟩⟩⟩
          rw [upd_same, List.range_succ, List.map_append, List.map_append]
          simp
        · obtain ⟨a, ps, rfl, hT⟩ := ok i v ij hi
          refine ⟨_, rfl, .inl ⟨a, ps, rfl, hT.same sJ, fun G sG => ⟨_, sG _ _ eM, small1000 (by rw [List.length_map, List.length_map, List.length_range]; omega), ?_, offT (sJ.trans sG) nM⟩⟩⟩
          rw [upd_same, List.range_succ, List.map_append, List.map_append]
          simp [ij]
      rintro J ⟨eM, sJ⟩
      refine ⟨M, _, rfl, .inl (.inl eM), ?_⟩
      rw [all_no (List.getElem?_eq_some_iff.mp hy).1]
      exact k J sJ
    · refine ⟨_, (pss_one (ps_ret (pe_and (pe_cmpR op_eq (pe_callB call_len (by rfl) B.len (by decide +kernel) (pa_cons (pv 0) pa_nil)) (pv 1) (nomark _)) (pe_one (pe_callB (cr_all rfl) (by rfl) B.all (by decide +kernel) (pa_cons (pe_lc (own := [("part", 2)]) (by rfl) sc_are_told_rows.nd (pi_tup (pv 0)) (blkOk_by (own := [("part", 2)]) (N := ["parts", "many", "part"]) (sc := defScope s_are_told_rows) (by decide +kernel)) (fun _ _ _ _ _ => pg_name (i := 2) sc_are_told_rows.nd rfl (.inl rfl)) (fun _ _ _ _ _ => pts_nil) (fun _ _ _ _ _ => (pe_own C_is_told_row hr (by decide) (by rfl) (pa_cons (pv 2) pa_nil)))) pa_nil)))))), ?_⟩
      refine ⟨_, rfl, _, _, rfl, .inr ⟨_, hp, rfl⟩, _, rfl, rfl, _, rfl, ?_⟩
      rw [decide_eq_false (show ¬ V.int (xs.length : Int) = V.int (n : Int) from fun z => e (by have := V.int.inj z; omega))]
      exact iteF (k H (Same.refl H))
/-- the parts of a claim are a row, a text and a length, or not -/
def spShownNo (K : PySem.W.Frag) : Sp := fun vs H Q _ => ∃ (p : Addr) (xs : List V), vs = [.ref p] ∧ SqT K H p xs ∧ xs.length ≤ 4 ∧ (xs.length ≠ 3 ∨ ∃ (j : Nat) (k : Pt) (y : V), xs.length = 3 ∧ [Pt.r, .t, .n][j]? = some k ∧ xs[j]? = some y ∧ PartNo K H k y ∧ ∀ (i : Nat) (k : Pt) (z : V), i ≠ j → [Pt.r, .t, .n][i]? = some k → xs[i]? = some z → PartOk K H k z) ∧ ∀ G, Same H G → Q (.bl false) G
theorem cal_shownNo (B : Bi mg) (D : At K mg "are_shown_parts" s_are_shown_parts ps_are_shown_parts) (C_is_text : Cal P w K mg base 1 "is_text" ps_is_text (spTxt K)) (C_is_integer : Cal P w K mg base 1 "is_integer" ps_is_integer (spNum K)) (C_is_told_row : Cal P w K mg base 3 "is_told_row" ps_is_told_row (spRowTB K)) : Cal P w K mg base 4 "are_shown_parts" ps_are_shown_parts (spShownNo K) := by
  refine D.cal sc_are_shown_parts (fun vs H Q E h => ?_) (fun f cdv A outer s H vs Q E hr h => ?_)
  · obtain ⟨p, xs, rfl, _⟩ := h
    rfl
  · obtain ⟨p, xs, rfl, hp, x4, way, k⟩ := h
    by_cases e : xs.length = 3
    · obtain ⟨j, kd, y, _, hk, hy, no, ok⟩ := way.resolve_left fun z => z e
      obtain ⟨a, b, c, rfl⟩ : ∃ a b c, xs = [a, b, c] := by
        match xs, e with
        | [a, b, c], _ => exact ⟨a, b, c, rfl⟩
      refine ⟨_, (pss_cons (ps_if (pt_cmpR op_ne (pe_callB call_len (by rfl) B.len (by decide +kernel) (pa_cons (pv 0) pa_nil)) pe_int (nomark _)) (pss_one (ps_ret pe_bl)) pss_nil)
      (pss_one (ps_ret (pe_and (pe_own C_is_told_row hr (by decide) (by rfl) (pa_cons (pe_ix ix_tup (pv 0) pe_int (fun _ _ => rfl)) pa_nil)) (pe_and (pe_own C_is_text hr (by decide) (by rfl) (pa_cons (pe_ix ix_tup (pv 0) pe_int (fun _ _ => rfl)) (pa_cons (pe_cst B.MOST_TEXT (by rfl)) pa_nil))) (pe_one (pe_own C_is_integer hr (by decide) (by rfl) (pa_cons (pe_ix ix_tup (pv 0) pe_int (fun _ _ => rfl)) (pa_cons pe_int (pa_cons (pe_cst B.MOST_LENGTH (by rfl)) pa_nil)))))))))), ?_⟩
      refine ⟨_, rfl, _, _, rfl, .inr ⟨_, hp, rfl⟩, rfl, _, rfl, iteF ?_⟩
      refine ⟨_, rfl, p, _, _, _, rfl, rfl, hp, (rfl : atI [a, b, c] 0 = some a), ?_⟩
      match j, hk, hy with
      | 0, hk, hy =>
        cases hk
        cases hy
        exact .inr ⟨_, rfl, no, fun G s => ⟨_, rfl, iteF (k G s)⟩⟩
      | 1, hk, hy =>
        cases hk
        cases hy
        obtain ⟨a1, ps, rfl, hT⟩ := ok 0 .r a (by decide) rfl rfl
        refine .inl ⟨a1, ps, rfl, hT, fun G s => ⟨_, rfl, iteT ?_⟩⟩
        refine ⟨_, rfl, p, _, _, _, rfl, rfl, stH s hp, (rfl : atI [V.ref a1, y, c] 1 = some y), y, 200, rfl, .inr ⟨NoTxt.same s no, fun G2 s2 => ⟨_, rfl, iteF (k G2 (s.trans s2))⟩⟩⟩
      | 2, hk, hy =>
        cases hk
        cases hy
        obtain ⟨a1, ps, rfl, hT⟩ := ok 0 .r a (by decide) rfl rfl
        obtain ⟨z, rfl, zl, zt⟩ := ok 1 .t b (by decide) rfl rfl
        refine .inl ⟨a1, ps, rfl, hT, fun G s => ⟨_, rfl, iteT ?_⟩⟩
        refine ⟨_, rfl, p, _, _, _, rfl, rfl, stH s hp, (rfl : atI [V.ref a1, V.str z, y] 1 = some (V.str z)), _, 200, rfl, .inl ⟨z, rfl, zl, zt, fun G2 s2 => ⟨_, rfl, iteT ?_⟩⟩⟩
        have s12 := s.trans s2
        exact ⟨_, rfl, p, _, _, _, rfl, rfl, stH s12 hp, (rfl : atI [V.ref a1, V.str z, y] 2 = some y), y, 500, rfl, .inr ⟨NoNum.same s12 no, k G2 s12⟩⟩
      | n + 3, hk, hy => simp at hk
    · refine ⟨_, (pss_cons (ps_if (pt_cmpR op_ne (pe_callB call_len (by rfl) B.len (by decide +kernel) (pa_cons (pv 0) pa_nil)) pe_int (nomark _)) (pss_one (ps_ret pe_bl)) pss_nil)
      (pss_one (ps_ret (pe_and (pe_own C_is_told_row hr (by decide) (by rfl) (pa_cons (pe_ix ix_tup (pv 0) pe_int (fun _ _ => rfl)) pa_nil)) (pe_and (pe_own C_is_text hr (by decide) (by rfl) (pa_cons (pe_ix ix_tup (pv 0) pe_int (fun _ _ => rfl)) (pa_cons (pe_cst B.MOST_TEXT (by rfl)) pa_nil))) (pe_one (pe_own C_is_integer hr (by decide) (by rfl) (pa_cons (pe_ix ix_tup (pv 0) pe_int (fun _ _ => rfl)) (pa_cons pe_int (pa_cons (pe_cst B.MOST_LENGTH (by rfl)) pa_nil)))))))))), ?_⟩
      refine ⟨_, rfl, _, _, rfl, .inr ⟨_, hp, rfl⟩, rfl, _, rfl, ?_⟩
      rw [show (!decide (V.int (xs.length : Int) = V.int 3)) = true by rw [decide_eq_false (fun z => e (by have := V.int.inj z; omega))]; rfl]
      exact iteT (k H (Same.refl H))
def spPairNo (K : PySem.W.Frag) : Sp := fun vs H Q _ => ∃ v : V, vs = [v] ∧ NoTup K H 2 2 v ∧ Q (.bl false) H
theorem cal_pairNo (B : Bi mg) (D : At K mg "is_pair_of_texts" s_is_pair_of_texts ps_is_pair_of_texts) (C_is_tuple : Cal P w K mg base 1 "is_tuple" ps_is_tuple (spTup K)) (C_is_text : Cal P w K mg base 1 "is_text" ps_is_text (spTxt K)) : Cal P w K mg base 2 "is_pair_of_texts" ps_is_pair_of_texts (spPairNo K) := by
  refine D.cal sc_is_pair_of_texts (fun vs H Q E h => ?_) (fun f cdv A outer s H vs Q E hr h => ?_)
  · obtain ⟨v, rfl, _⟩ := h
    rfl
  · obtain ⟨v, rfl, no, k⟩ := h
    refine ⟨_, (pss_one (ps_ret (pe_and (pe_own C_is_tuple hr (by decide) (by rfl) (pa_cons (pv 0) (pa_cons pe_int (pa_cons pe_int pa_nil)))) (pe_and (pe_callB (cr_all rfl) (by rfl) B.all (by decide +kernel) (pa_cons (pe_lc (own := [("part", 1)]) (by rfl) sc_is_pair_of_texts.nd (pi_tup (pv 0)) (blkOk_by (own := [("part", 1)]) (N := ["value", "part"]) (sc := defScope s_is_pair_of_texts) (by decide +kernel)) (fun _ _ _ _ _ => pg_name (i := 1) sc_is_pair_of_texts.nd rfl (.inl rfl)) (fun _ _ _ _ _ => pts_nil) (fun _ _ _ _ _ => (pe_own C_is_text hr (by decide) (by rfl) (pa_cons (pv 1) (pa_cons (pe_cst B.MOST_TEXT (by rfl)) pa_nil))))) pa_nil)) (pe_one (pe_cmpR op_ne (pe_ix ix_tup (pv 0) pe_int (fun _ _ => rfl)) (pe_ix ix_tup (pv 0) pe_int (fun _ _ => rfl)) (nomark _))))))), ?_⟩
    exact ⟨_, rfl, v, 2, 2, rfl, .inr ⟨no, _, rfl, iteF k⟩⟩
end
end Gu
namespace Gu
open PySem PySem.Spec PyProof.Rows L2
/-! ### plans as data, and filled in -/
def dat : V → PyData
  | .int i => .int i
  | .str z => .str z
  | _ => .none
/-- a place or a single sign -/
def Plain (n : Nat) (x : V) : Prop := (∃ i : Int, x = .int i ∧ 0 ≤ i ∧ i < (n : Int)) ∨ ∃ c : Nat, x = .str (one c) ∧ c < 128
theorem Plain.fine {n : Nat} {x : V} (hn : n ≤ 500) (h : Plain n x) : Fine 0 70 (dat x) := by
  rcases h with ⟨i, rfl, h0, h1⟩ | ⟨c, rfl, hc⟩
  · exact Fine.int (by omega)
  · exact (Fine.str (z := one c) (W := 1) (fun d hd => by
      rw [List.mem_singleton.mp (show d ∈ [c] from hd)]
      exact Nat.lt_of_lt_of_le hc (by decide)) (Nat.le_refl _)).mono (Nat.le_refl _) (by decide)
theorem Plain.dp {K : PySem.W.Frag} {H : Hp} {n : Nat} {x : V} (h : Plain n x) : Dp K H x (dat x) := by
  rcases h with ⟨i, rfl, _⟩ | ⟨c, rfl, _⟩
  · exact .int i
  · exact .str _
theorem dp_all {K : PySem.W.Frag} {H : Hp} {n : Nat} : ∀ {xs : List V}, (∀ x ∈ xs, Plain n x) → DpAll K H xs (xs.map dat)
  | [], _ => .nil
  | x :: xs, h => .cons (h x (List.mem_cons_self ..)).dp (dp_all fun y hy => h y (List.mem_cons_of_mem _ hy))
theorem ones_plain {n : Nat} {cs : List Nat} (h : Signs cs) : ∀ x ∈ ones cs, Plain n x := by
  intro x hx
  obtain ⟨c, hc, rfl⟩ := List.mem_map.mp hx
  have a : ∀ c ∈ signs.cps.toList, c < 128 := by decide +kernel
  exact .inr ⟨c, rfl, a c (h c hc)⟩
theorem cutsV_all {p : V → Prop} : ∀ (rs : List Rec) {xs : List V}, (∀ r ∈ rs, ∀ x ∈ ones r.z.cps.toList, p x) → (∀ x ∈ xs, p x) → ∀ x ∈ cutsV rs xs, p x
  | [], _, _, h => h
  | r :: rs, xs, hz, h => by
    refine cutsV_all rs (xs := cut r.l.toNat r.h.toNat r.t.toNat (ones r.z.cps.toList) xs) (fun q hq => hz q (List.mem_cons_of_mem _ hq)) fun x hx => ?_
    unfold cut at hx
    split at hx
    · exact h x hx
    · rcases List.mem_append.mp hx with hx | hx
      · rcases List.mem_append.mp hx with hx | hx
        · exact h x (List.mem_of_mem_take hx)
        · exact hz r (List.mem_cons_self ..) x hx
      · exact h x (List.mem_of_mem_drop hx)
theorem plan_plain {rs : List Rec} (hf : ∀ r ∈ rs, r.fit) {n : Nat} : ∀ x ∈ cutsV rs (rgV 0 n), Plain n x :=
  cutsV_all rs (fun r hr => ones_plain (isTxt_signs (hf r hr).z)) fun x hx => by
    unfold rgV at hx
    obtain ⟨i, hi, rfl⟩ := List.mem_map.mp hx
    have := List.mem_range.mp hi
    exact .inl ⟨_, rfl, by omega, by omega⟩
theorem plan_fine {rs : List Rec} (hf : ∀ r ∈ rs, r.fit) {n : Nat} (hn : n ≤ 500) : Fine 60 100000 (.list [.tuple ((cutsV rs (rgV 0 n)).map dat), .tuple ((cutsV rs (rgV 0 n)).map dat)]) := by
  have a : FineAll 0 70 ((cutsV rs (rgV 0 n)).map dat) := .of fun d hd => by
    obtain ⟨x, hx, rfl⟩ := List.mem_map.mp hd
    exact (plan_plain hf x hx).fine hn
  have l : ((cutsV rs (rgV 0 n)).map dat).length ≤ 500 := by
    rw [List.length_map, cutsV_length, rgV_length]
    exact lens_le rs hf (by omega)
  have b := a.tup
  have c : Fine 1 35500 (.tuple ((cutsV rs (rgV 0 n)).map dat)) := b.mono (Nat.le_refl _) (by omega)
  have d : FineAll 1 35500 [.tuple ((cutsV rs (rgV 0 n)).map dat), .tuple ((cutsV rs (rgV 0 n)).map dat)] := .of fun e he => by
    simp only [List.mem_cons, List.not_mem_nil, or_false, or_self] at he
    rw [he]
    exact c
  exact d.list.mono (by decide) (by show 2 * 35501 ≤ 100000; decide)
def fill (cs : List Nat) : V → V
  | .int i => .str (one (cs.getD i.toNat 0))
  | v => v
theorem fill_ones (cs ds : List Nat) : (ones ds).map (fill cs) = ones ds := by
  unfold ones
  rw [List.map_map]
  rfl
theorem fill_cuts (cs : List Nat) : ∀ (rs : List Rec) (xs : List V), (cutsV rs xs).map (fill cs) = cutsV rs (xs.map (fill cs))
  | [], _ => rfl
  | r :: rs, xs => by
    show (cutsV rs (cut r.l.toNat r.h.toNat r.t.toNat (ones r.z.cps.toList) xs)).map (fill cs) = cutsV rs (cut r.l.toNat r.h.toNat r.t.toNat (ones r.z.cps.toList) (xs.map (fill cs)))
    rw [fill_cuts cs rs, ← cut_map, fill_ones]
theorem fill_range (cs : List Nat) : (rgV 0 (cs.length : Nat)).map (fill cs) = ones cs := by
  unfold rgV ones
  rw [List.map_map]
  refine List.ext_getElem? fun j => ?_
  rw [List.getElem?_map, List.getElem?_map]
  simp only [Int.sub_zero, Int.toNat_natCast]
  by_cases hj : j < cs.length
  · rw [List.getElem?_range hj, List.getElem?_eq_getElem hj]
    show some (V.str (one (cs.getD (0 + (j : Int)).toNat 0))) = some (V.str (one cs[j]))
    rw [Int.zero_add, Int.toNat_natCast, List.getD_eq_getElem?_getD, List.getElem?_eq_getElem hj]
    rfl
  · rw [List.getElem?_eq_none (by rw [List.length_range]; omega), List.getElem?_eq_none (by omega)]
    rfl
theorem at_of' {α : Type} {xs : List α} {i : Int} {j : Nat} {v : α} (e : i = (j : Int)) (h : xs[j]? = some v) : atI xs i = some v := by
  rw [e]
  exact atI_nat h
def idl {α : Type} (l : List α) : List α := l
end Gu
namespace Gu
open PySem PySem.Spec PyProof.Rows L2
/-! ### plans that differ, and the least text that tells -/
def planV (rs : List Rec) (n : Nat) : List V := cutsV rs (rgV 0 (n : Int))
theorem fill_plan (rs : List Rec) (cs : List Nat) : (planV rs cs.length).map (fill cs) = ones (cuts rs cs) := by
  unfold planV
  rw [fill_cuts, fill_range, cutsV_ones]
theorem map_injL {α β : Type} {f : α → β} (h : ∀ x y, f x = f y → x = y) : ∀ {xs ys : List α}, xs.map f = ys.map f → xs = ys
  | [], [], _ => rfl
  | [], _ :: _, e => nomatch e
  | _ :: _, [], e => nomatch e
  | x :: xs, y :: ys, e => by
    have e := List.cons.inj e
    rw [h _ _ e.1, map_injL h e.2]
theorem ones_inj {cs ds : List Nat} (h : ones cs = ones ds) : cs = ds := by
  refine map_injL (fun a b e => ?_) h
  have := congrArg (fun z : Str => z.cps.toList) (V.str.inj e)
  exact List.singleton_inj.mp this
theorem shown_iff (rs ss : List Rec) (cs : List Nat) : cuts rs cs = cuts ss cs ↔ (planV rs cs.length).map (fill cs) = (planV ss cs.length).map (fill cs) := by
  rw [fill_plan, fill_plan]
  exact ⟨fun h => by rw [h], ones_inj⟩
theorem map_cuts {f : V → V} (hf : ∀ z, f (.str z) = .str z) : ∀ (rs : List Rec) (xs : List V), cutsV rs (xs.map f) = (cutsV rs xs).map f
  | [], _ => rfl
  | r :: rs, xs => by
    have e : ones r.z.cps.toList = (ones r.z.cps.toList).map f := by
      unfold ones
      rw [List.map_map]
      refine List.map_congr_left fun c _ => ?_
      exact (hf _).symm
    show cutsV rs (cut r.l.toNat r.h.toNat r.t.toNat (ones r.z.cps.toList) (xs.map f)) = (cutsV rs (cut r.l.toNat r.h.toNat r.t.toNat (ones r.z.cps.toList) xs)).map f
    conv => lhs; rw [e]
    rw [cut_map, map_cuts hf rs]
/-! far lengths -/
def far (n : Nat) : V → V
  | .int i => .int (if i < 40 then i else i + ((n : Int) - 80))
  | v => v
theorem far_inj {n : Nat} (h : 80 ≤ n) {x y : V} (e : far n x = far n y) : x = y := by
  cases x <;> cases y <;> first | exact e | cases e | skip
  have e := V.int.inj e
  congr 1
  split at e <;> split at e <;> omega
theorem rg_get (n j : Nat) : (rgV 0 (n : Int))[j]? = if j < n then some (V.int (j : Int)) else none := by
  unfold rgV
  rw [List.getElem?_map, Int.sub_zero, Int.toNat_natCast]
  split
  · next h =>
    rw [List.getElem?_range h]
    show some (V.int (0 + (j : Int))) = _
    rw [Int.zero_add]
  · next h =>
    rw [List.getElem?_eq_none (by rw [List.length_range]; omega)]
    rfl
theorem rg_len (n : Nat) : (rgV 0 (n : Int)).length = n := by
  rw [rgV_length]
  omega
theorem cut_far {r : Rec} (f : r.fit) {n : Nat} (hn : 80 ≤ n) : cut r.l.toNat r.h.toNat r.t.toNat (ones r.z.cps.toList) (rgV 0 (n : Int)) = (cut r.l.toNat r.h.toNat r.t.toNat (ones r.z.cps.toList) (rgV 0 ((80 : Nat) : Int))).map (far n) := by
  have f1 := f.l
  have f2 := f.h
  have f3 := f.t
  unfold cut
  rw [rg_len, rg_len, if_neg (by omega), if_neg (by omega), List.map_append, List.map_append]
  congr 1
  · congr 1
    · refine List.ext_getElem? fun j => ?_
      rw [List.getElem?_map, List.getElem?_take, List.getElem?_take]
      split
      · rw [rg_get, rg_get, if_pos (by omega), if_pos (by omega)]
        show _ = some (V.int _)
        rw [if_pos (by omega)]
      · rfl
    · unfold ones
      rw [List.map_map]
      rfl
  · refine List.ext_getElem? fun j => ?_
    rw [List.getElem?_map, List.getElem?_drop, List.getElem?_drop, rg_get, rg_get]
    by_cases hj : j < r.t.toNat
    · rw [if_pos (by omega), if_pos (by omega)]
      show _ = some (V.int _)
      rw [if_neg (by omega)]
      congr 2
      omega
    · rw [if_neg (by omega), if_neg (by omega)]
      rfl
theorem plan_far {rs : List Rec} (hf : ∀ r ∈ rs, r.fit) (h1 : 1 ≤ rs.length) {n : Nat} (hn : 80 ≤ n) : planV rs n = (planV rs 80).map (far n) := by
  cases rs with
  | nil => cases h1
  | cons r rs =>
    show cutsV rs (cut r.l.toNat r.h.toNat r.t.toNat (ones r.z.cps.toList) (rgV 0 (n : Int))) = (cutsV rs (cut r.l.toNat r.h.toNat r.t.toNat (ones r.z.cps.toList) (rgV 0 ((80 : Nat) : Int)))).map (far n)
    rw [cut_far (hf r (List.mem_cons_self ..)) hn, map_cuts (fun z => rfl)]
theorem map_inj {f : V → V} (h : ∀ x y, f x = f y → x = y) {xs ys : List V} (e : xs.map f = ys.map f) : xs = ys := map_injL h e
/-- what is so up to 80 is so for all lengths -/
theorem alike_all {rs ss : List Rec} (hr : ∀ r ∈ rs, r.fit) (hs : ∀ r ∈ ss, r.fit) (r1 : 1 ≤ rs.length) (s1 : 1 ≤ ss.length) (h : ∀ n, n ≤ 80 → planV rs n = planV ss n) (n : Nat) : planV rs n = planV ss n := by
  rcases Nat.lt_or_ge 80 n with hn | hn
  · rw [plan_far hr r1 (by omega), plan_far hs s1 (by omega), h 80 (by omega)]
  · exact h n hn
/-! least texts -/
def dots (n : Nat) : List Nat := List.replicate n 46
def dotp (n p : Nat) : List Nat := List.replicate p 46 ++ 48 :: List.replicate (n - p - 1) 46
theorem dots_len (n : Nat) : (dots n).length = n := List.length_replicate ..
theorem dotp_len {n p : Nat} (h : p < n) : (dotp n p).length = n := by
  unfold dotp
  rw [List.length_append, List.length_cons, List.length_replicate, List.length_replicate]
  omega
theorem dots_at {n i : Nat} (h : i < n) : (dots n).getD i 0 = 46 := by
  unfold dots
  rw [List.getD_eq_getElem?_getD, List.getElem?_replicate, if_pos h]
  rfl
theorem dotp_at {n p i : Nat} (hp : p < n) (h : i < n) : (dotp n p).getD i 0 = if i = p then 48 else 46 := by
  unfold dotp
  rw [List.getD_eq_getElem?_getD]
  rcases Nat.lt_trichotomy i p with h1 | h1 | h1
  · rw [List.getElem?_append_left (by rw [List.length_replicate]; exact h1), List.getElem?_replicate, if_pos h1, if_neg (by omega)]
    rfl
  · rw [List.getElem?_append_right (by rw [List.length_replicate]; omega), List.length_replicate, h1, Nat.sub_self, if_pos rfl]
    rfl
  · rw [List.getElem?_append_right (by rw [List.length_replicate]; omega), List.length_replicate, if_neg (by omega)]
    obtain ⟨k, hk⟩ : ∃ k, i - p = k + 1 := ⟨i - p - 1, by omega⟩
    rw [hk, List.getElem?_cons_succ, List.getElem?_replicate, if_pos (by omega)]
    rfl
/-- at some place one has the sign p and the other something else -/
def Diff (xs ys : List V) (p : Nat) : Prop := ∃ (i : Nat) (x y : V), xs[i]? = some x ∧ ys[i]? = some y ∧ x ≠ y ∧ (x = V.int (p : Int) ∨ y = V.int (p : Int))
def flat0 : V → V
  | .int _ => .str (one 46)
  | v => v
theorem fill_dots {n : Nat} {x : V} (h : Plain n x) : fill (dots n) x = flat0 x := by
  rcases h with ⟨i, rfl, h0, h1⟩ | ⟨c, rfl, _⟩
  · show V.str (one _) = V.str (one 46)
    rw [dots_at (by omega)]
  · rfl
theorem fill_dotp {n p : Nat} (hp : p < n) {x : V} (h : Plain n x) (ne : x ≠ .int (p : Int)) : fill (dotp n p) x = fill (dots n) x := by
  rcases h with ⟨i, rfl, h0, h1⟩ | ⟨c, rfl, _⟩
  · show V.str (one _) = V.str (one _)
    rw [dots_at (by omega), dotp_at hp (by omega), if_neg]
    intro e
    exact ne (by rw [← e, Int.toNat_of_nonneg h0])
  · rfl
theorem fill_here {n p : Nat} (hp : p < n) : fill (dotp n p) (.int (p : Int)) = .str (one 48) := by
  show V.str (one _) = _
  rw [Int.toNat_natCast, dotp_at hp hp, if_pos rfl]
theorem one_ne : ¬ V.str (one 48) = V.str (one 46) := by
  intro h
  have := congrArg (fun z : Str => z.cps.toList) (V.str.inj h)
  exact absurd this (by decide)
section
variable {n : Nat} {xs ys : List V} (px : ∀ x ∈ xs, Plain n x) (py : ∀ y ∈ ys, Plain n y) (e0 : xs.map (fill (dots n)) = ys.map (fill (dots n)))
include px py e0
theorem same_at {i : Nat} {x y : V} (hx : xs[i]? = some x) (hy : ys[i]? = some y) : fill (dots n) x = fill (dots n) y := by
  have a := congrArg (fun l : List V => l[i]?) e0
  simp only [List.getElem?_map, hx, hy, Option.map_some] at a
  exact Option.some.inj a
theorem not_diff {p : Nat} (hp : p < n) (h : ¬ Diff xs ys p) : xs.map (fill (dotp n p)) = ys.map (fill (dotp n p)) := by
  have el : xs.length = ys.length := by
    have := congrArg List.length e0
    rw [List.length_map, List.length_map] at this
    exact this
  refine List.ext_getElem? fun i => ?_
  rw [List.getElem?_map, List.getElem?_map]
  by_cases hi : i < xs.length
  · have hx := List.getElem?_eq_getElem hi
    have hi2 : i < ys.length := by omega
    have hy := List.getElem?_eq_getElem hi2
    rw [hx, hy]
    show some _ = some _
    by_cases e : xs[i] = ys[i]
    · rw [e]
    · have n1 : xs[i] ≠ .int (p : Int) := fun q => h ⟨i, _, _, hx, hy, e, .inl q⟩
      have n2 : ys[i] ≠ .int (p : Int) := fun q => h ⟨i, _, _, hx, hy, e, .inr q⟩
      rw [fill_dotp hp (px _ (List.getElem_mem hi)) n1, fill_dotp hp (py _ (List.getElem_mem hi2)) n2, same_at px py e0 hx hy]
  · rw [List.getElem?_eq_none (by omega), List.getElem?_eq_none (by omega)]
theorem is_diff {p : Nat} (hp : p < n) (h : Diff xs ys p) : xs.map (fill (dotp n p)) ≠ ys.map (fill (dotp n p)) := by
  intro e
  obtain ⟨i, x, y, hx, hy, ne, h⟩ := h
  have a := congrArg (fun l : List V => l[i]?) e
  simp only [List.getElem?_map, hx, hy, Option.map_some] at a
  have a := Option.some.inj a
  have b := same_at px py e0 hx hy
  have qx := px x (List.mem_of_getElem? hx)
  have qy := py y (List.mem_of_getElem? hy)
  rcases h with rfl | rfl
  · rw [fill_here hp, fill_dotp hp qy (fun q => ne q.symm), ← b, fill_dots qx] at a
    exact one_ne a
  · rw [fill_here hp, fill_dotp hp qx ne, b, fill_dots qy] at a
    exact one_ne a.symm
theorem some_diff (ne : xs ≠ ys) : ∃ p, p < n ∧ Diff xs ys p := by
  have el : xs.length = ys.length := by
    have := congrArg List.length e0
    rw [List.length_map, List.length_map] at this
    exact this
  obtain ⟨i, hi, h⟩ : ∃ i, ∃ hi : i < xs.length, ¬ xs[i] = ys[i] := Decidable.byContradiction fun q => ne (List.ext_getElem el fun i h1 h2 => Decidable.byContradiction fun z => q ⟨i, h1, z⟩)
  have hx := List.getElem?_eq_getElem hi
  have hi2 : i < ys.length := by omega
  have hy := List.getElem?_eq_getElem hi2
  have b := same_at px py e0 hx hy
  have qx := px _ (List.getElem_mem hi)
  have qy := py _ (List.getElem_mem hi2)
  rcases id qx with ⟨j, ej, j0, j1⟩ | ⟨c, ec, _⟩
  · exact ⟨j.toNat, by omega, i, _, _, hx, hy, h, .inl (by rw [ej, Int.toNat_of_nonneg j0])⟩
  · rcases id qy with ⟨j, ej, j0, j1⟩ | ⟨d, ed, _⟩
    · exact ⟨j.toNat, by omega, i, _, _, hx, hy, h, .inr (by rw [ej, Int.toNat_of_nonneg j0])⟩
    · rw [fill_dots qx, fill_dots qy, ec, ed] at b
      exact absurd (by rw [ec, ed]; exact b) h
end
/-! the places that differ, as they are gathered -/
def isI : V → List Int
  | .int i => [i]
  | _ => []
def dpl : List V → List V → List Int
  | x :: xs, y :: ys => (if x = y then [] else isI x ++ isI y) ++ dpl xs ys
  | _, _ => []
theorem dpl_snoc : ∀ {xs ys : List V} (x y : V), xs.length = ys.length → dpl (xs ++ [x]) (ys ++ [y]) = dpl xs ys ++ (if x = y then [] else isI x ++ isI y)
  | [], [], x, y, _ => by
    show (if x = y then [] else isI x ++ isI y) ++ dpl [] [] = [] ++ _
    show _ ++ [] = [] ++ _
    rw [List.append_nil, List.nil_append]
  | a :: xs, b :: ys, x, y, h => by
    show (if a = b then [] else isI a ++ isI b) ++ dpl (xs ++ [x]) (ys ++ [y]) = ((if a = b then [] else isI a ++ isI b) ++ dpl xs ys) ++ _
    rw [dpl_snoc x y (by simpa using h), List.append_assoc]
theorem mem_isI {x : V} {i : Int} : i ∈ isI x ↔ x = .int i := by
  cases x <;> simp [isI, eq_comm]
theorem mem_dpl : ∀ {xs ys : List V} {i : Int}, i ∈ dpl xs ys ↔ ∃ (j : Nat) (x y : V), xs[j]? = some x ∧ ys[j]? = some y ∧ x ≠ y ∧ (x = V.int i ∨ y = V.int i)
  | [], ys, i => by
    refine ⟨fun h => ?_, fun ⟨j, x, y, hx, _⟩ => by simp at hx⟩
    unfold dpl at h
    cases h
  | a :: xs, [], i => by
    refine ⟨fun h => ?_, fun ⟨j, x, y, _, hy, _⟩ => by simp at hy⟩
    unfold dpl at h
    cases h
  | a :: xs, b :: ys, i => by
    show i ∈ (if a = b then [] else isI a ++ isI b) ++ dpl xs ys ↔ _
    rw [List.mem_append, mem_dpl (xs := xs) (ys := ys)]
    constructor
    · rintro (h | ⟨j, x, y, hx, hy, h⟩)
      · split at h
        · cases h
        · next ne => exact ⟨0, a, b, rfl, rfl, ne, (List.mem_append.mp h).imp mem_isI.mp mem_isI.mp⟩
      · exact ⟨j + 1, x, y, hx, hy, h⟩
    · rintro ⟨j, x, y, hx, hy, ne, h⟩
      cases j with
      | zero =>
        cases (Option.some.inj hx : a = x)
        cases (Option.some.inj hy : b = y)
        refine .inl ?_
        rw [if_neg ne]
        exact List.mem_append.mpr (h.imp mem_isI.mpr mem_isI.mpr)
      | succ j => exact .inr ⟨j, x, y, hx, hy, ne, h⟩
/-- the least text of n signs that two rows show differently -/
def LeastAt (rs ss : List Rec) (n : Nat) (cs : List Nat) : Prop :=
  (cs = dots n ∧ cuts rs (dots n) ≠ cuts ss (dots n)) ∨ ∃ p, p < n ∧ cs = dotp n p ∧ cuts rs (dots n) = cuts ss (dots n) ∧ cuts rs (dotp n p) ≠ cuts ss (dotp n p) ∧ ∀ q, p < q → q < n → cuts rs (dotp n q) = cuts ss (dotp n q)
theorem LeastAt.one {rs ss : List Rec} {n : Nat} {cs ds : List Nat} (a : LeastAt rs ss n cs) (b : LeastAt rs ss n ds) : cs = ds := by
  rcases a with ⟨rfl, a⟩ | ⟨p, hp, rfl, a0, a1, a2⟩
  · rcases b with ⟨rfl, _⟩ | ⟨q, _, _, b0, _⟩
    · rfl
    · exact absurd b0 a
  · rcases b with ⟨_, b⟩ | ⟨q, hq, rfl, b0, b1, b2⟩
    · exact absurd a0 b
    · rcases Nat.lt_trichotomy p q with h | h | h
      · exact absurd (a2 q h hq) b1
      · rw [h]
      · exact absurd (b2 p h hp) a1
theorem LeastAt.len {rs ss : List Rec} {n : Nat} {cs : List Nat} (a : LeastAt rs ss n cs) : cs.length = n := by
  rcases a with ⟨rfl, _⟩ | ⟨p, hp, rfl, _⟩
  · exact dots_len n
  · exact dotp_len hp
theorem LeastAt.ne {rs ss : List Rec} {n : Nat} {cs : List Nat} (a : LeastAt rs ss n cs) : cuts rs cs ≠ cuts ss cs := by
  rcases a with ⟨rfl, h⟩ | ⟨p, hp, rfl, _, h, _⟩ <;> exact h
theorem LeastAt.sg {rs ss : List Rec} {n : Nat} {cs : List Nat} (a : LeastAt rs ss n cs) : Signs cs := by
  have d : 46 ∈ signs.cps.toList := by decide +kernel
  have z : 48 ∈ signs.cps.toList := by decide +kernel
  rcases a with ⟨rfl, _⟩ | ⟨p, hp, rfl, _⟩
  · intro c hc
    rw [(List.mem_replicate.mp hc).2]
    exact d
  · intro c hc
    rcases List.mem_append.mp hc with hc | hc
    · rw [(List.mem_replicate.mp hc).2]
      exact d
    · rcases List.mem_cons.mp hc with rfl | hc
      · exact z
      · rw [(List.mem_replicate.mp hc).2]
        exact d
theorem LeastAt.symm {rs ss : List Rec} {n : Nat} {cs : List Nat} (a : LeastAt rs ss n cs) : LeastAt ss rs n cs := by
  rcases a with ⟨rfl, h⟩ | ⟨p, hp, rfl, a0, a1, a2⟩
  · exact .inl ⟨rfl, fun e => h e.symm⟩
  · exact .inr ⟨p, hp, rfl, a0.symm, fun e => a1 e.symm, fun q h1 h2 => (a2 q h1 h2).symm⟩
section
variable {rs ss : List Rec} (hr : ∀ r ∈ rs, r.fit) (hs : ∀ r ∈ ss, r.fit) {n : Nat}
include hr hs
theorem dots_iff : cuts rs (dots n) = cuts ss (dots n) ↔ (planV rs n).map (fill (dots n)) = (planV ss n).map (fill (dots n)) := by
  have := shown_iff rs ss (dots n)
  rw [dots_len] at this
  exact this
theorem dotp_iff {p : Nat} (hp : p < n) : cuts rs (dotp n p) = cuts ss (dotp n p) ↔ (planV rs n).map (fill (dotp n p)) = (planV ss n).map (fill (dotp n p)) := by
  have := shown_iff rs ss (dotp n p)
  rw [dotp_len hp] at this
  exact this
/-- the last place that differs tells it -/
theorem least_last (e0 : cuts rs (dots n) = cuts ss (dots n)) {m : Int} (h : Top m (dpl (planV rs n) (planV ss n))) : ∃ p : Nat, m = (p : Int) ∧ p < n ∧ LeastAt rs ss n (dotp n p) := by
  have px : ∀ x ∈ planV rs n, Plain n x := plan_plain hr
  have py : ∀ y ∈ planV ss n, Plain n y := plan_plain hs
  have f0 := (dots_iff hr hs).mp e0
  obtain ⟨j, x, y, hx, hy, ne, h1⟩ := mem_dpl.mp h.1
  obtain ⟨p, rfl, hp⟩ : ∃ p : Nat, m = (p : Int) ∧ p < n := by
    have a : Plain n (.int m) := by
      rcases h1 with rfl | rfl
      · exact px _ (List.mem_of_getElem? hx)
      · exact py _ (List.mem_of_getElem? hy)
    rcases a with ⟨i, e, i0, i1⟩ | ⟨c, e, _⟩
    · cases e
      exact ⟨m.toNat, by omega, by omega⟩
    · cases e
  refine ⟨p, rfl, hp, .inr ⟨p, hp, rfl, e0, fun e => is_diff px py f0 hp ⟨j, x, y, hx, hy, ne, h1⟩ ((dotp_iff hr hs hp).mp e), fun q h2 h3 => (dotp_iff hr hs h3).mpr (not_diff px py f0 h3 fun ⟨i, u, v, hu, hv, nuv, hh⟩ => ?_)⟩⟩
  have := h.2 (q : Int) (mem_dpl.mpr ⟨i, u, v, hu, hv, nuv, hh⟩)
  omega
theorem dpl_some (e0 : cuts rs (dots n) = cuts ss (dots n)) (ne : planV rs n ≠ planV ss n) : dpl (planV rs n) (planV ss n) ≠ [] := by
  obtain ⟨p, hp, i, x, y, hx, hy, h⟩ := some_diff (plan_plain hr) (plan_plain hs) ((dots_iff hr hs).mp e0) ne
  intro e
  have : (p : Int) ∈ dpl (planV rs n) (planV ss n) := mem_dpl.mpr ⟨i, x, y, hx, hy, h⟩
  rw [e] at this
  cases this
/-- rows whose plans are the same show the same -/
theorem plan_show {cs : List Nat} (h : planV rs cs.length = planV ss cs.length) : cuts rs cs = cuts ss cs := (shown_iff rs ss cs).mpr (by rw [h])
end
/-- the first length at which the plans differ -/
structure First (rs ss : List Rec) (n : Nat) : Prop where
  ne : planV rs n ≠ planV ss n
  eq : ∀ m, m < n → planV rs m = planV ss m
theorem First.one {rs ss : List Rec} {n m : Nat} (a : First rs ss n) (b : First rs ss m) : n = m := by
  rcases Nat.lt_trichotomy n m with h | h | h
  · exact absurd (b.eq n h) a.ne
  · exact h
  · exact absurd (a.eq m h) b.ne
theorem First.symm {rs ss : List Rec} {n : Nat} (a : First rs ss n) : First ss rs n := ⟨fun e => a.ne e.symm, fun m h => (a.eq m h).symm⟩
/-- what is told of two rows -/
def Told (rs ss : List Rec) (v : V) : Prop := (v = .non ∧ ∀ n, planV rs n = planV ss n) ∨ ∃ n y, v = .str y ∧ n ≤ 80 ∧ First rs ss n ∧ LeastAt rs ss n y.cps.toList
theorem Told.one {rs ss : List Rec} {u v : V} (a : Told rs ss u) (b : Told rs ss v) : u = v := by
  rcases a with ⟨rfl, a⟩ | ⟨n, y, rfl, _, a, a1⟩
  · rcases b with ⟨rfl, _⟩ | ⟨m, z, _, _, b, _⟩
    · rfl
    · exact absurd (a m) b.ne
  · rcases b with ⟨_, b⟩ | ⟨m, z, rfl, _, b, b1⟩
    · exact absurd (b n) a.ne
    · cases a.one b
      rw [str_ext (a1.one b1)]
theorem Told.symm {rs ss : List Rec} {v : V} (a : Told rs ss v) : Told ss rs v := by
  rcases a with ⟨rfl, a⟩ | ⟨n, y, rfl, h, a, a1⟩
  · exact .inl ⟨rfl, fun n => (a n).symm⟩
  · exact .inr ⟨n, y, rfl, h, a.symm, a1.symm⟩
/-! signs of what is filled in -/
def fillN (cs : List Nat) : V → Nat
  | .int i => cs.getD i.toNat 0
  | .str z => z.cps.toList.getD 0 0
  | _ => 0
theorem fillN_one {n : Nat} {cs : List Nat} {x : V} (h : Plain n x) : fill cs x = .str (one (fillN cs x)) := by
  rcases h with ⟨i, rfl, _⟩ | ⟨c, rfl, _⟩
  · rfl
  · rfl
theorem fillN_map {n : Nat} {cs : List Nat} {xs : List V} (h : ∀ x ∈ xs, Plain n x) : xs.map (fill cs) = ones (xs.map (fillN cs)) := by
  unfold ones
  rw [List.map_map]
  exact List.map_congr_left fun x hx => fillN_one (h x hx)
end Gu
namespace Gu
open PySem PySem.Spec PyProof.Rows L2
theorem stF_same {K : PySem.W.Frag} {H G : Hp} {l : Addr} {xs : List V} (a : Same H G) (h : SqT K H l xs) : SqT K G l xs := by
  rcases h with (h | ⟨o, h⟩) | h
  · exact .inl (.inl (a _ _ h))
  · exact .inl (.inr ⟨o, a _ _ h⟩)
  · exact .inr h
theorem same_offF {H J : Hp} {M : Addr} {o : HO} (s : Same H J) (n : H M = none) : Same H (upd J M o) := fun b x e => by
  rw [upd_ne (ne_of_none e n)]
  exact s b x e
theorem takeF_next {α : Type} {qs : List α} {i : Nat} {q : α} (h : qs[i]? = some q) : qs.take (i + 1) = qs.take i ++ [q] := by
  rw [List.take_add_one, h]
  rfl
theorem RowAt.fits {C : Addr} {H : Hp} {a : Addr} {rs : List (Addr × Rec)} (h : RowAt C H a rs) : ∀ r ∈ rs.map (·.2), r.fit := fun r hr => by
  obtain ⟨q, hq, rfl⟩ := List.mem_map.mp hr
  exact (h.sh q hq).2
end Gu
namespace Gu
open PySem PySem.Spec PyProof.Rows L2
/-! text * int, however often -/
def rRepN : R2 := fun x y H Q => ∃ z k, x = .str z ∧ y = .int k ∧ 0 ≤ k ∧ k ≤ 1000 ∧ z.length ≤ 1000 ∧ ∀ y : Str, y.cps.toList = (List.replicate k.toNat z.cps.toList).flatten → Q (.str y) H
theorem fold_repN (z : Array Nat) : ∀ (k : Nat) (acc : Array Nat), ((List.replicate k z).foldl (· ++ ·) acc).toList = acc.toList ++ (List.replicate k z.toList).flatten
  | 0, acc => by simp
  | k + 1, acc => by
    rw [List.replicate_succ, List.foldl_cons, fold_repN z k, List.replicate_succ, List.flatten_cons, Array.toList_append, List.append_assoc]
theorem op_mul_strN {X : Cx} : OpR X (binaryOp .Mult) rRepN := by
  intro pins s σ H x y v u Q I rx ry h
  obtain ⟨z, k, rfl, rfl, k0, k1, z1, q⟩ := h
  obtain ⟨t, rfl⟩ := rx
  obtain ⟨t', rfl⟩ := ry
  refine PySem.P.mul_str ?_ (fun h1 _ => Int.not_lt.mpr ((Int.le_ediv_iff_mul_le (by omega)).mpr ?_)) (fun _ _ => decide_eq_false ?_) ?_
  · rw [Bool.or_eq_false_iff]
    exact ⟨decide_eq_false (by omega), decide_eq_false (by omega)⟩
  · have m1 : (z.length : Int) * k ≤ 1000 * 1000 := Int.mul_le_mul (by omega) k1 (by omega) (by omega)
    omega
  · have m2 : z.length * k.toNat ≤ 1000 * 1000 := Nat.mul_le_mul z1 (by omega)
    rw [sizeLine_eq]
    omega
  · split
    · next h1 =>
      refine ⟨by decide, .str Str.empty, H, I.tok _, ⟨_, rfl⟩, q _ ?_⟩
      rw [show k.toNat = 0 by omega]
      rfl
    · split
      · next h1 h2 =>
        refine ⟨.str z, H, I, ⟨_, rfl⟩, q _ ?_⟩
        rcases Bool.or_eq_true _ _ ▸ h2 with e | e
        · have e := eq_of_beq e
          rw [e]
          simp
        · have e : z.cps.toList.length = 0 := eq_of_beq e
          rw [List.eq_nil_of_length_eq_zero e]
          simp
      · have m2 : z.length * k.toNat ≤ 1000 * 1000 := Nat.mul_le_mul z1 (by omega)
        have e : ((List.replicate k.toNat z.cps).foldl (· ++ ·) #[]).toList = (List.replicate k.toNat z.cps.toList).flatten := by
          rw [fold_repN]
          rfl
        refine ⟨?_, .str ⟨(List.replicate k.toNat z.cps).foldl (· ++ ·) #[]⟩, H, I.tok _, ⟨_, rfl⟩, q _ e⟩
        show ((List.replicate k.toNat z.cps).foldl (· ++ ·) #[]).size ≤ _
        rw [← Array.length_toList, e, PyProof.Rows.lm_len_rep_flat]
        show k.toNat * z.length ≤ sizeLine
        rw [Nat.mul_comm, sizeLine_eq]
        omega
/-- a call without arguments -/
theorem pe_own0 {X : Cx} {k j : Nat} {x : Str} {sp : Sp} {p pos : Pos} (c : Cal X.prog X.w X.K X.mg X.base k x [] sp) (hr : Room j X.A) (hk : k ≤ j) (hg : Gl X x) (hdb : (x == ("__debug__" : Str)) = false := by decide) : PE X (.Call (.Name x p) [] [] pos) (tCall sp [] E0 tNil) := by
  obtain ⟨f, fd, F, hm, kp, b, _⟩ := c.ex
  exact pe_call0 F (hr.mono hk) hg hm kp b .nil pass0 hdb
def rIsiK (K : PySem.W.Frag) : List V → Hp → VK → Prop := rIsi K
section
variable {P : Program} {w : World} {K : PySem.W.Frag} {mg : Str → Option Value} {base : Heap} {C : Addr}
theorem Isa.str_int {H : Hp} {z : Str} : Isa K H (.str z) "int" false := ⟨_, .base (.str z), kit_ty (by decide +kernel)⟩
/-! ### telling_lengths -/
def spTelling : Sp := fun vs H Q _ => vs = [] ∧ ∀ (T : Addr), H T = none → Q (.ref T) (upd H T (.lst (rgV 0 ((81 : Nat) : Int))))
theorem cal_telling (B : Bi mg) (D : At K mg "telling_lengths" s_telling_lengths ps_telling_lengths) : Cal P w K mg base 1 "telling_lengths" ps_telling_lengths spTelling := by
  refine D.cal sc_telling_lengths (fun vs H Q E h => ?_) (fun f cdv A outer s H vs Q E hr h => ?_)
  · obtain ⟨rfl, _⟩ := h
    rfl
  · obtain ⟨rfl, k⟩ := h
    refine ⟨_, (pss_one (ps_ret (pe_listRg (by rfl) (by rfl) B.list (prg_1 (by rfl) B.range (pe_op op_add (pe_op op_mul pe_int (pe_cst B.MOST_SIGNS (by rfl))) pe_int))))), ?_⟩
    exact ⟨_, _, rfl, rfl, .inl ⟨by decide, by decide⟩, _, _, rfl, rfl, _, rfl, RgOk.of_le (by decide) (by decide) (by decide) (by decide), fun T nT => k T nT⟩
/-! ### filled_in -/
def spFilled (K : PySem.W.Frag) : Sp := fun vs H Q _ => ∃ (a : Addr) (xs : List V) (z : Str), vs = [.ref a, .str z] ∧ SqT K H a xs ∧ (∀ x ∈ xs, Plain z.cps.toList.length x) ∧ xs.length ≤ 600 ∧ z.cps.toList.length ≤ 600 ∧ ∀ (y : Str) (G : Hp), Same H G → y.cps.toList = xs.map (fillN z.cps.toList) → Q (.str y) G
theorem cal_filled (B : Bi mg) (D : At K mg "filled_in" s_filled_in ps_filled_in) : Cal P w K mg base 1 "filled_in" ps_filled_in (spFilled K) := by
  refine D.cal sc_filled_in (fun vs H Q E h => ?_) (fun f cdv A outer s H vs Q E hr h => ?_)
  · obtain ⟨a, xs, z, rfl, _⟩ := h
    rfl
  · obtain ⟨a, xs, z, rfl, ha, hp, xl, zl, k⟩ := h
    refine ⟨_, (pss_one (ps_ret (pe_join pe_str (pe_lc (own := [("source", 2)]) (by rfl) sc_filled_in.nd (pi_tup (pv 0)) (blkOk_by (own := [("source", 2)]) (N := ["sources", "text", "source"]) (sc := defScope s_filled_in) (by decide +kernel)) (fun _ _ _ _ _ => pg_name (i := 2) sc_filled_in.nd rfl (.inl rfl)) (fun _ _ _ _ _ => pts_nil) (fun _ _ _ _ _ => (pe_mid (pe_ifExp (pt_val (pe_callB (id := "isinstance") (r := rIsi K) call_isi (by rfl) B.isinstance (by decide +kernel) (pa_cons (pv 2) (pa_cons (pe_bltn (v := .ty "int") (by rfl) B.int (by decide +kernel) rfl) pa_nil)))) (pe_ix ix_str (pv 1) (pv 2) (fun _ _ => rfl)) (pv 2)))))))), ?_⟩
    refine ⟨⟨_, rfl⟩, _, rfl, a, rfl, ⟨_, ha⟩, fun M nM => lc_tup (K := K) (a := a) (xs := xs) (fun i J => J M = some (.lst (ones ((xs.take i).map (fillN z.cps.toList)))) ∧ Same H J)
      ⟨upd_same, same_new nM⟩ (fun i J _ ⟨_, sJ⟩ => stF_same sJ ha) ?_ ?_⟩
    · rintro i x J hi ⟨eM, sJ⟩
      refine ⟨rfl, yes (iteT ⟨fun v J1 => v = .str (one (fillN z.cps.toList x)) ∧ J1 = J, ?_, ?_⟩)⟩
      · rcases hp x (List.mem_of_getElem? hi) with ⟨j, rfl, j0, j1⟩ | ⟨c, rfl, _⟩
        · obtain ⟨t, i1, i2⟩ := Isa.int_int (K := K) (H := J) (i := j)
          refine ⟨_, rfl, _, _, t, _, true, rfl, .ty _, i1, i2, _, rfl, iteT ?_⟩
          have jl : j.toNat < z.cps.toList.length := by omega
          refine ⟨_, rfl, _, rfl, z, j, z.cps.toList[j.toNat], rfl, rfl, Nat.le_of_lt (small1000 (by have e : z.length = z.cps.toList.length := rfl; omega)), at_of' (j := j.toNat) (by omega) (List.getElem?_eq_getElem jl), ?_, rfl⟩
          show V.str ⟨#[_]⟩ = V.str (one (z.cps.toList.getD j.toNat 0))
          rw [List.getD_eq_getElem?_getD, List.getElem?_eq_getElem jl]
          rfl
        · obtain ⟨t, i1, i2⟩ := Isa.str_int (K := K) (H := J) (z := one c)
          exact ⟨_, rfl, _, _, t, _, false, rfl, .ty _, i1, i2, _, rfl, iteF ⟨_, rfl, rfl, rfl⟩⟩
      · rintro _ _ ⟨rfl, rfl⟩
        refine ⟨_, eM, small1000 ?_, ?_, same_offF sJ nM⟩
        · unfold ones
          rw [List.length_map, List.length_map, List.length_take]
          omega
        · rw [upd_same, takeF_next hi, List.map_append]
          unfold ones
          rw [List.map_append]
          rfl
    · rintro J ⟨eM, sJ⟩
      rw [List.take_length, ones_map] at eM
      refine ⟨_, M, _, rfl, rfl, .inl (.inl (.inl eM)), ?_, k _ J sJ (tjoin_ones _)⟩
      rw [ones_len, List.length_map, List.length_map]
      have e0 : (("" : String) : Str).length = 0 := by decide +kernel
      rw [e0]
      omega
/-! ### differing_places -/
def spDiffP (K : PySem.W.Frag) : Sp := fun vs H Q _ => ∃ (a b : Addr) (xs ys : List V) (n : Nat), vs = [.ref a, .ref b] ∧ SqT K H a xs ∧ SqT K H b ys ∧ xs.length = ys.length ∧ xs.length ≤ 600 ∧ (∀ x ∈ xs, Plain n x) ∧ (∀ y ∈ ys, Plain n y) ∧ ∀ (p : Addr) (G : Hp), G p = some (.lst ((dpl xs ys).map V.int)) → Same H G → Q (.ref p) G
theorem scal_plain {n m : Nat} {x y : V} (hx : Plain n x) (hy : Plain m y) : scal x y = true := by
  rcases hx with ⟨i, rfl, _⟩ | ⟨c, rfl, _⟩ <;> rcases hy with ⟨j, rfl, _⟩ | ⟨d, rfl, _⟩ <;> rfl
theorem isI_len (x : V) : (isI x).length ≤ 1 := by
  cases x <;> simp [isI]
theorem dpl_len : ∀ xs ys : List V, (dpl xs ys).length ≤ 2 * xs.length
  | [], _ => Nat.le_refl _
  | _ :: _, [] => Nat.zero_le _
  | x :: xs, y :: ys => by
    have a := isI_len x
    have b := isI_len y
    have c := dpl_len xs ys
    show ((if x = y then [] else isI x ++ isI y) ++ dpl xs ys).length ≤ 2 * (xs.length + 1)
    rw [List.length_append]
    split
    · rw [List.length_nil]
      omega
    · rw [List.length_append]
      omega
theorem cal_diffP (B : Bi mg) (D : At K mg "differing_places" s_differing_places ps_differing_places) : Cal P w K mg base 1 "differing_places" ps_differing_places (spDiffP K) := by
  refine D.cal sc_differing_places (fun vs H Q E h => ?_) (fun f cdv A outer s H vs Q E hr h => ?_)
  · obtain ⟨a, b, xs, ys, n, rfl, _⟩ := h
    rfl
  · obtain ⟨a, b, xs, ys, n, rfl, ha, hb, el, xl, px, py, k⟩ := h
    refine ⟨_, (pss_cons (ps_set (i := 2) sc_differing_places.nd rfl (.inl rfl) (pe_lst pa_nil))
      (pss_cons (ps_for PassesOwn.never rfl (RZ.pi_zipA (by rfl) B.zip (pa_cons (pv 0) (pa_cons (pv 1) pa_nil))) (pg_tup rfl (pgs_cons (pg_name (i := 3) sc_differing_places.nd rfl (.inl rfl)) (pgs_cons (pg_name (i := 4) sc_differing_places.nd rfl (.inl rfl)) pgs_nil)))
      (pss_one (ps_if (pt_cmpR op_ne (pv 3) (pv 4) (nomark _)) (pss_one (ps_expr (pe_bm PySem.F.plainAttrs_list PySem.F.slot_list_extend PySem.F.type_list_extend mt_extend (pv 2) (pa_cons (pe_lc (own := [("place", 5)]) (by rfl) sc_differing_places.nd (pi_tup (pe_tup (pa_cons (pv 3) (pa_cons (pv 4) pa_nil)))) (blkOk_by (own := [("place", 5)]) (N := ["sources", "others", "places", "source", "other", "place"]) (sc := defScope s_differing_places) (by decide +kernel)) (fun _ _ _ _ _ => pg_name (i := 5) sc_differing_places.nd rfl (.inl rfl)) (fun _ _ _ _ _ => (pts_one (pt_val (pe_callB (id := "isinstance") (r := rIsi K) call_isi (by rfl) B.isinstance (by decide +kernel) (pa_cons (pv 5) (pa_cons (pe_bltn (v := .ty "int") (by rfl) B.int (by decide +kernel) rfl) pa_nil)))))) (fun _ _ _ _ _ => (pv 5))) pa_nil)))) pss_nil)))
      (pss_one (ps_ret (pv 2))))), ?_⟩
    refine ⟨Nat.zero_le _, fun g ng => ?_⟩
    have s0 : Same H (upd H g (.lst [])) := same_new ng
    refine ⟨_, rfl, _, rfl, a, b, xs, ys, rfl, .inr ⟨stF_same s0 ha, stF_same s0 hb, RZ.for_zipT (K := K) (xs := xs) (ys := ys) el (fun i σ J => ∃ u v z, σ = [some (.ref a), some (.ref b), some (.ref g), u, v, z] ∧ J g = some (.lst ((dpl (xs.take i) (ys.take i)).map V.int)) ∧ Same H J)
      ⟨none, none, none, rfl, upd_same, s0⟩ (fun i σ J ⟨_, _, _, _, _, sJ⟩ => ⟨stF_same sJ ha, stF_same sJ hb⟩) ?_ ?_⟩⟩
    · rintro i x y T σ J hx hy ⟨u, v, z, rfl, eg, sJ⟩ nT
      have qx := px x (List.mem_of_getElem? hx)
      have qy := py y (List.mem_of_getElem? hy)
      have sT : Same J (upd J T (.tup [x, y])) := same_new nT
      have il : i < xs.length := (List.getElem?_eq_some_iff.mp hx).1
      have next : dpl (xs.take (i + 1)) (ys.take (i + 1)) = dpl (xs.take i) (ys.take i) ++ (if x = y then [] else isI x ++ isI y) := by
        rw [takeF_next hx, takeF_next hy, dpl_snoc x y (by rw [List.length_take, List.length_take]; omega)]
      refine ⟨T, _, rfl, .inl (.inl upd_same), rfl, _, _, rfl, _, _, rfl, rfl, ?_⟩
      refine ⟨_, rfl, _, rfl, scal_plain qx qy, _, rfl, ?_⟩
      by_cases e : x = y
      · rw [decide_eq_true e]
        refine iteF ⟨_, _, _, rfl, ?_, sJ.trans sT⟩
        rw [next, if_pos e, List.append_nil]
        exact sT _ _ eg
      · rw [decide_eq_false e]
        refine iteT ⟨_, rfl, .inl ⟨rfl, _, .inl (.inl (sT _ _ eg))⟩, ?_⟩
        refine ⟨_, rfl, _, rfl, by show 2 ≤ sizeLine; decide, fun T2 nT2 => ?_⟩
        have sT2 : Same J (upd (upd J T (.tup [x, y])) T2 (.tup [x, y])) := sT.trans (same_new nT2)
        have eT2 : upd (upd J T (.tup [x, y])) T2 (.tup [x, y]) T2 = some (.tup [x, y]) := upd_same
        generalize upd (upd J T (.tup [x, y])) T2 (.tup [x, y]) = H2 at sT2 eT2
        refine ⟨T2, rfl, ⟨_, .inl (.inl eT2)⟩, fun M nM => lc_tup (K := K) (a := T2) (xs := [x, y]) (fun i J1 => J1 M = some (.lst ((([x, y].take i).map isI).flatten.map V.int)) ∧ Same H2 J1)
          ⟨upd_same, same_new nM⟩ (fun i J1 _ ⟨_, s1⟩ => .inl (.inl (s1 _ _ eT2))) ?_ ?_⟩
        · rintro i3 v3 J3 hi3 ⟨eM, s3⟩
          have mv : Plain n v3 := by
            have := List.mem_of_getElem? hi3
            simp only [List.mem_cons, List.not_mem_nil, or_false] at this
            rcases this with rfl | rfl
            · exact qx
            · exact qy
          have i2 : i3 < 2 := (List.getElem?_eq_some_iff.mp hi3).1
          have nx : ((([x, y].take (i3 + 1)).map isI).flatten.map V.int) = ((([x, y].take i3).map isI).flatten.map V.int) ++ (isI v3).map V.int := by
            rw [takeF_next hi3, List.map_append, List.flatten_append, List.map_append]
            show _ ++ List.map V.int (isI v3 ++ []) = _
            rw [List.append_nil]
          rcases mv with ⟨j, rfl, j0, j1⟩ | ⟨c, rfl, _⟩
          · obtain ⟨t, i1, i2'⟩ := Isa.int_int (K := K) (H := J3) (i := j)
            refine ⟨rfl, _, rfl, _, _, t, _, true, rfl, .ty _, i1, i2', _, rfl, iteT ⟨_, rfl, _, eM, small1000 ?_, ?_, same_offF s3 nM⟩⟩
            · rw [List.length_map]
              have a1 := isI_len x
              have a2 := isI_len y
              have : (([x, y].take i3).map isI).flatten.length ≤ 2 := by
                match i3, i2 with
                | 0, _ => exact Nat.zero_le _
                | 1, _ =>
                  show (isI x ++ []).length ≤ 2
                  rw [List.append_nil]
                  omega
              omega
            · rw [upd_same, nx]
              rfl
          · obtain ⟨t, i1, i2'⟩ := Isa.str_int (K := K) (H := J3) (z := one c)
            refine ⟨rfl, _, rfl, _, _, t, _, false, rfl, .ty _, i1, i2', _, rfl, iteF ⟨?_, s3⟩⟩
            rw [nx]
            show _ = some (HO.lst (_ ++ []))
            rw [List.append_nil]
            exact eM
        · rintro J3 ⟨eM, s3⟩
          have e4 : (([x, y].take [x, y].length).map isI).flatten = isI x ++ isI y := by
            show isI x ++ (isI y ++ []) = _
            rw [List.append_nil]
          rw [e4] at eM
          have gg := s3 _ _ (sT2 _ _ eg)
          have a1 := isI_len x
          have a2 := isI_len y
          have a3 := dpl_len (xs.take i) (ys.take i)
          refine ⟨g, M, _, _, rfl, rfl, gg, eM, ?_, ?_⟩
          · rw [List.length_map, List.length_map, List.length_append]
            rw [List.length_take] at a3
            exact Nat.le_of_lt (Nat.lt_of_le_of_lt (show _ ≤ 2000 by omega) (by decide))
          · refine ⟨_, _, _, rfl, ?_, same_offF (sJ.trans (sT2.trans s3)) ng⟩
            rw [upd_same, next, if_neg e]
            simp only [List.map_append]
    · rintro σ J ⟨u, v, z, rfl, eg, sJ⟩
      rw [List.take_length, el, List.take_length] at eg
      exact ⟨_, rfl, k g J eg sJ⟩
/-! ### least_difference -/
def spLeastD (K : PySem.W.Frag) : Sp := fun vs H Q _ => ∃ (a b : Addr) (rs ss : List Rec) (n : Nat), vs = [.ref a, .ref b, .int (n : Int)] ∧ SqT K H a (planV rs n) ∧ SqT K H b (planV ss n) ∧ (∀ r ∈ rs, r.fit) ∧ (∀ r ∈ ss, r.fit) ∧ n ≤ 80 ∧ planV rs n ≠ planV ss n ∧ ∀ (y : Str) (G : Hp), Same H G → LeastAt rs ss n y.cps.toList → Q (.str y) G
theorem plan_len {rs : List Rec} (hf : ∀ r ∈ rs, r.fit) {n : Nat} (hn : n ≤ 500) : (planV rs n).length ≤ 500 := by
  unfold planV
  rw [cutsV_length, rg_len]
  exact lens_le rs hf hn
theorem rep_dot {z y : Str} (hz : z.cps.toList = [46]) {k : Nat} (e : y.cps.toList = (List.replicate k z.cps.toList).flatten) : y.cps.toList = List.replicate k 46 := by
  rw [e, hz]
  clear e
  induction k with
  | zero => rfl
  | succ k ih => rw [List.replicate_succ, List.flatten_cons, ih]; rfl
def spRaised : Sp := fun vs H Q _ => ∃ (n i : Nat), vs = [.int (n : Int), .int (i : Int)] ∧ i < n ∧ n ≤ 500 ∧ ∀ y : Str, y.cps.toList = List.replicate i 46 ++ 48 :: List.replicate (n - i - 1) 46 → Q (.str y) H
theorem cal_raised (B : Bi mg) (D : At K mg "least_raised_at" s_least_raised_at ps_least_raised_at) : Cal P w K mg base 1 "least_raised_at" ps_least_raised_at spRaised := by
  refine D.cal sc_least_raised_at (fun vs H Q E h => ?_) (fun f cdv A outer s H vs Q E hr h => ?_)
  · obtain ⟨n, i, rfl, _⟩ := h
    rfl
  · obtain ⟨n, i, rfl, hi, n5, k⟩ := h
    have s0 : atI signs.cps.toList 0 = some 46 := by decide +kernel
    have s1 : atI signs.cps.toList 1 = some 48 := by decide +kernel
    refine ⟨_, (pss_one (ps_ret (pe_op op_add_str (pe_op op_add_str (pe_op op_mul_strN (pe_ix ix_str (pe_cst B.SIGNS (by rfl)) pe_int (fun _ _ => rfl)) (pv 1)) (pe_ix ix_str (pe_cst B.SIGNS (by rfl)) pe_int (fun _ _ => rfl))) (pe_op op_mul_strN (pe_ix ix_str (pe_cst B.SIGNS (by rfl)) pe_int (fun _ _ => rfl)) (pe_op op_sub (pe_op op_sub (pv 0) (pv 1)) pe_int))))), ?_⟩
    refine ⟨signs, 0, 46, rfl, rfl, by decide +kernel, s0, _, rfl, one 46, _, rfl, rfl, by omega, by omega, by decide, fun y1 e1 => ?_⟩
    have e1 : y1.cps.toList = List.replicate i 46 := rep_dot (z := one 46) rfl (by rw [Int.toNat_natCast] at e1; exact e1)
    have l1 : y1.length = i := by
      show y1.cps.toList.length = i
      rw [e1, List.length_replicate]
    refine ⟨signs, 1, 48, rfl, rfl, by decide +kernel, s1, _, _, rfl, rfl, Nat.le_of_lt (small1000 (by show y1.length + 1 ≤ 1000; omega)), ?_⟩
    refine ⟨signs, 0, 46, rfl, rfl, by decide +kernel, s0, _, rfl, _, rfl, _, _, rfl, rfl, _, _, rfl, rfl, one 46, _, rfl, rfl, by omega, by omega, by decide, fun y2 e2 => ?_⟩
    have e2 : y2.cps.toList = List.replicate (n - i - 1) 46 := rep_dot (z := one 46) rfl (by rw [e2]; congr 2; omega)
    have l2 : y2.length = n - i - 1 := by
      show y2.cps.toList.length = _
      rw [e2, List.length_replicate]
    refine ⟨_, _, rfl, rfl, ?_, k _ ?_⟩
    · have l3 : (y1 ++ (one 48)).length = i + 1 := by
        show (y1 ++ (one 48)).cps.toList.length = _
        rw [app_cps, List.length_append, e1, List.length_replicate]
        rfl
      exact Nat.le_of_lt (small1000 (by show (y1 ++ (one 48)).length + y2.length ≤ 1000; omega))
    · rw [app_cps, app_cps, e1, e2]
      show List.replicate i 46 ++ [48] ++ List.replicate (n - i - 1) 46 = _
      rw [List.append_assoc]
      rfl
theorem cal_leastD (B : Bi mg) (D : At K mg "least_difference" s_least_difference ps_least_difference) (C_filled_in : Cal P w K mg base 1 "filled_in" ps_filled_in (spFilled K)) (C_differing_places : Cal P w K mg base 1 "differing_places" ps_differing_places (spDiffP K)) (C_least_raised_at : Cal P w K mg base 1 "least_raised_at" ps_least_raised_at spRaised) : Cal P w K mg base 2 "least_difference" ps_least_difference (spLeastD K) := by
  refine D.cal sc_least_difference (fun vs H Q E h => ?_) (fun f cdv A outer s H vs Q E hr h => ?_)
  · obtain ⟨a, b, rs, ss, n, rfl, _⟩ := h
    rfl
  · obtain ⟨a, b, rs, ss, n, rfl, ha, hb, hr1, hs1, n80, ne, k⟩ := h
    have px : ∀ x ∈ planV rs n, Plain n x := plan_plain hr1
    have py : ∀ y ∈ planV ss n, Plain n y := plan_plain hs1
    have lx := plan_len hr1 (n := n) (by omega)
    have ly := plan_len hs1 (n := n) (by omega)
    have sl : (Str.length signs) = 38 := by decide +kernel
    have s0 : atI signs.cps.toList 0 = some 46 := by decide +kernel
    refine ⟨_, (pss_cons (ps_set (i := 3) sc_least_difference.nd rfl (.inl rfl) (pe_op op_mul_strN (pe_ix ix_str (pe_cst B.SIGNS (by rfl)) pe_int (fun _ _ => rfl)) (pv 2)))
      (pss_cons (ps_if (pt_cmpR op_ne (pe_own C_filled_in hr (by decide) (by rfl) (pa_cons (pv 0) (pa_cons (pv 3) pa_nil))) (pe_own C_filled_in hr (by decide) (by rfl) (pa_cons (pv 1) (pa_cons (pv 3) pa_nil))) (nomark _)) (pss_one (ps_ret (pv 3))) pss_nil)
      (pss_one (ps_ret (pe_own C_least_raised_at hr (by decide) (by rfl) (pa_cons (pv 2) (pa_cons (pe_callB (cr_max rfl) (by rfl) B.max (by decide +kernel) (pa_cons (pe_own C_differing_places hr (by decide) (by rfl) (pa_cons (pv 0) (pa_cons (pv 1) pa_nil))) pa_nil)) pa_nil))))))), ?_⟩
    refine ⟨signs, 0, 46, rfl, rfl, by decide +kernel, s0, _, rfl, one 46, _, rfl, rfl, by omega, by omega, by decide, fun y0 e0 => ?_⟩
    have e0 : y0.cps.toList = dots n := rep_dot (z := one 46) rfl (by rw [Int.toNat_natCast] at e0; exact e0)
    have l0 : y0.cps.toList.length = n := by rw [e0, dots_len]
    refine ⟨_, rfl, _, rfl, a, _, y0, rfl, ha, by rw [l0]; exact px, by omega, by omega, fun t1 G1 q1 f1 => ?_⟩
    refine ⟨_, rfl, _, rfl, b, _, y0, rfl, stF_same q1 hb, by rw [l0]; exact py, by omega, by omega, fun t2 G2 q2 f2 => ?_⟩
    rw [e0] at f1 f2
    have eq : t1 = t2 ↔ cuts rs (dots n) = cuts ss (dots n) := by
      rw [dots_iff hr1 hs1, fillN_map px, fillN_map py]
      constructor
      · intro h
        rw [h] at f1
        rw [← f1, ← f2]
      · intro h
        exact str_ext (by rw [f1, f2]; exact ones_inj h)
    refine ⟨rfl, _, rfl, ?_⟩
    by_cases h : cuts rs (dots n) = cuts ss (dots n)
    · rw [decide_eq_true (show V.str t1 = V.str t2 by rw [eq.mpr h])]
      refine iteF ?_
      have el : (planV rs n).length = (planV ss n).length := by
        have := congrArg List.length ((dots_iff hr1 hs1).mp h)
        rw [List.length_map, List.length_map] at this
        exact this
      refine ⟨_, rfl, _, rfl, _, rfl, a, b, _, _, n, rfl, stF_same (q1.trans q2) ha, stF_same (q1.trans q2) hb, el, by omega, px, py, fun p G3 e3 q3 => ?_⟩
      refine ⟨p, _, rfl, .inl (.inl e3), List.length_pos_iff.mpr (dpl_some hr1 hs1 h ne), fun m hm hle => ?_⟩
      obtain ⟨i, rfl, hi, L⟩ := least_last hr1 hs1 h ⟨hm, hle⟩
      refine ⟨n, i, rfl, hi, by omega, fun y ey => k y G3 (q1.trans (q2.trans q3)) ?_⟩
      rw [ey]
      exact L
    · rw [decide_eq_false (fun q => h (eq.mp (V.str.inj q)))]
      refine iteT ⟨_, rfl, k y0 G2 (q1.trans q2) ?_⟩
      rw [e0]
      exact .inl ⟨rfl, h⟩
end
end Gu
namespace Gu
open PySem PySem.Spec PyProof.Rows L2
/-! ### plans compared -/
theorem eqv_one {n m : Nat} {x y : V} (hx : Plain n x) (hy : Plain m y) : PyData.eqv (dat x) (dat y) = decide (x = y) := by
  rcases hx with ⟨i, rfl, _⟩ | ⟨c, rfl, _⟩ <;> rcases hy with ⟨j, rfl, _⟩ | ⟨d, rfl, _⟩
  · rw [dec_int]
    rfl
  · rw [decide_eq_false (fun h => by cases h)]
    rfl
  · rw [decide_eq_false (fun h => by cases h)]
    rfl
  · rw [dec_str]
    rfl
theorem eqv_plain {n m : Nat} : ∀ {xs ys : List V}, (∀ x ∈ xs, Plain n x) → (∀ y ∈ ys, Plain m y) → PyData.eqvAll (xs.map dat) (ys.map dat) = decide (xs = ys)
  | [], [], _, _ => rfl
  | [], _ :: _, _, _ => rfl
  | _ :: _, [], _, _ => rfl
  | x :: xs, y :: ys, hx, hy => by
    show (PyData.eqv (dat x) (dat y) && PyData.eqvAll (xs.map dat) (ys.map dat)) = _
    rw [eqv_one (hx x (List.mem_cons_self ..)) (hy y (List.mem_cons_self ..)), eqv_plain (fun z hz => hx z (List.mem_cons_of_mem _ hz)) fun z hz => hy z (List.mem_cons_of_mem _ hz)]
    by_cases e : x = y
    · subst e
      by_cases f : xs = ys
      · subst f
        rw [decide_eq_true rfl, decide_eq_true rfl, decide_eq_true rfl]
        rfl
      · rw [decide_eq_false f, decide_eq_false (fun h => f (List.cons.inj h).2), Bool.and_false]
    · rw [decide_eq_false (fun h => e (List.cons.inj h).1), decide_eq_false e, Bool.false_and]
theorem lay_plain {n : Nat} : ∀ {xs : List V}, (∀ x ∈ xs, Plain n x) → PyData.canLayAll0 (xs.map dat) = true ∧ PyData.depthAll (xs.map dat) = 0
  | [], _ => ⟨rfl, rfl⟩
  | x :: xs, h => by
    have b := lay_plain fun z hz => h z (List.mem_cons_of_mem _ hz)
    have a : (dat x).canLay0 = true ∧ (dat x).depth = 0 := by
      rcases h x (List.mem_cons_self ..) with ⟨i, rfl, _⟩ | ⟨c, rfl, hc⟩
      · exact ⟨rfl, rfl⟩
      · refine ⟨?_, rfl⟩
        show (one c).cps.all _ = true
        rw [← Array.all_toList, List.all_eq_true]
        intro d hd
        rw [List.mem_singleton.mp (show d ∈ [c] from hd)]
        exact decide_eq_true (Nat.lt_of_lt_of_le hc (by decide))
    refine ⟨?_, ?_⟩
    · show ((dat x).canLay0 && PyData.canLayAll0 (xs.map dat)) = true
      rw [a.1, b.1]
      rfl
    · show max (dat x).depth (PyData.depthAll (xs.map dat)) = 0
      rw [a.2, b.2]
      rfl
theorem shaped_plainT {n : Nat} {xs : List V} (h : ∀ x ∈ xs, Plain n x) : SeqAt.shaped (.tuple (xs.map dat)) = true := by
  have b := lay_plain h
  unfold SeqAt.shaped
  rw [Bool.and_eq_true]
  refine ⟨b.1, decide_eq_true ?_⟩
  show PyData.depthAll (xs.map dat) + 1 ≤ 64
  omega
theorem shaped_plainL {n : Nat} {xs : List V} (h : ∀ x ∈ xs, Plain n x) : SeqAt.shaped (.list (xs.map dat)) = true := by
  have b := lay_plain h
  unfold SeqAt.shaped
  rw [Bool.and_eq_true]
  refine ⟨b.1, decide_eq_true ?_⟩
  show PyData.depthAll (xs.map dat) + 1 ≤ 64
  omega
theorem ne_planT {K : PySem.W.Frag} {H : Hp} {a b : Addr} {n m : Nat} {xs ys : List V} {Q : VK} (ha : SqT K H a xs) (hb : SqT K H b ys) (px : ∀ x ∈ xs, Plain n x) (py : ∀ y ∈ ys, Plain m y) (q : Q (.bl (!decide (xs = ys))) H) : rNeD K (.ref a) (.ref b) H Q :=
  ⟨_, _, .tup ha (dp_all px), .tup hb (dp_all py), shaped_plainT px, shaped_plainT py, by
    rw [show PyData.eqv (.tuple (xs.map dat)) (.tuple (ys.map dat)) = decide (xs = ys) from eqv_plain px py]
    exact q⟩
theorem ne_planL {K : PySem.W.Frag} {H : Hp} {a b : Addr} {n m : Nat} {xs ys : List V} {Q : VK} (ha : SqL K H a xs) (hb : SqL K H b ys) (px : ∀ x ∈ xs, Plain n x) (py : ∀ y ∈ ys, Plain m y) (q : Q (.bl (!decide (xs = ys))) H) : rNeD K (.ref a) (.ref b) H Q :=
  ⟨_, _, .lst ha (dp_all px), .lst hb (dp_all py), shaped_plainL px, shaped_plainL py, by
    rw [show PyData.eqv (.list (xs.map dat)) (.list (ys.map dat)) = decide (xs = ys) from eqv_plain px py]
    exact q⟩
section
variable {P : Program} {w : World} {K : PySem.W.Frag} {mg : Str → Option Value} {base : Heap} {C : Addr}
/-! ### first_difference -/
def spFirstD (C : Addr) : Sp := fun vs H Q _ => ∃ (a b : Addr) (rs ss : List (Addr × Rec)), vs = [.ref a, .ref b] ∧ RowAt C H a rs ∧ RowAt C H b ss ∧ 1 ≤ rs.length ∧ 1 ≤ ss.length ∧ ∀ (v : V) (G : Hp), Same H G → Told (rs.map (·.2)) (ss.map (·.2)) v → Q v G
theorem cal_firstD (B : Bi mg) (D : At K mg "first_difference" s_first_difference ps_first_difference) (C_telling_lengths : Cal P w K mg base 1 "telling_lengths" [] spTelling) (C_planned : Cal P w K mg base 2 "planned" ps_planned (spPlanned C)) (C_least_difference : Cal P w K mg base 2 "least_difference" ps_least_difference (spLeastD K)) : Cal P w K mg base 3 "first_difference" ps_first_difference (spFirstD C) := by
  refine D.cal sc_first_difference (fun vs H Q E h => ?_) (fun f cdv A outer s H vs Q E hr h => ?_)
  · obtain ⟨a, b, rs, ss, rfl, _⟩ := h
    rfl
  · obtain ⟨a, b, rs, ss, rfl, hR, hS, r1, s1, k⟩ := h
    have fr := hR.fits
    have fs := hS.fits
    have l1 : 1 ≤ (rs.map (·.2)).length := by rw [List.length_map]; exact r1
    have l2 : 1 ≤ (ss.map (·.2)).length := by rw [List.length_map]; exact s1
    refine ⟨_, (pss_cons (ps_for PassesOwn.never rfl (pi_list (pe_own0 C_telling_lengths hr (by decide) (by rfl))) (pg_name (i := 2) sc_first_difference.nd rfl (.inl rfl))
      (pss_cons (ps_set (i := 3) sc_first_difference.nd rfl (.inl rfl) (pe_own C_planned hr (by decide) (by rfl) (pa_cons (pv 0) (pa_cons (pv 2) pa_nil))))
      (pss_cons (ps_set (i := 4) sc_first_difference.nd rfl (.inl rfl) (pe_own C_planned hr (by decide) (by rfl) (pa_cons (pv 1) (pa_cons (pv 2) pa_nil))))
      (pss_one (ps_if (pt_cmpR (op_neD hr.units) (pv 3) (pv 4) (nomark _)) (pss_one (ps_ret (pe_own C_least_difference hr (by decide) (by rfl) (pa_cons (pv 3) (pa_cons (pv 4) (pa_cons (pv 2) pa_nil)))))) pss_nil)))))
      (pss_one (ps_ret pe_non))), ?_⟩
    refine ⟨rfl, fun T nT => ?_⟩
    have sT : Same H (upd H T (.lst (rgV 0 ((81 : Nat) : Int)))) := same_new nT
    have eT : upd H T (.lst (rgV 0 ((81 : Nat) : Int))) T = some (.lst (rgV 0 ((81 : Nat) : Int))) := upd_same
    generalize upd H T (.lst (rgV 0 ((81 : Nat) : Int))) = H1 at sT eT
    refine ⟨T, rfl, ⟨_, .inl (.inl eT)⟩, for_list (K := K) (a := T) (xs := rgV 0 ((81 : Nat) : Int)) (fun i σ J => ∃ u v z, σ = [some (.ref a), some (.ref b), u, v, z] ∧ Same H1 J ∧ ∀ m, m < i → planV (rs.map (·.2)) m = planV (ss.map (·.2)) m)
      ⟨none, none, none, rfl, Same.refl _, fun m hm => absurd hm (by omega)⟩ (fun i σ J _ ⟨_, _, _, _, sJ, _⟩ => .inl (.inl (sJ _ _ eT))) ?_ ?_⟩
    · rintro i x σ J hi ⟨u, v, z, rfl, sJ, low⟩
      rw [rg_get] at hi
      have i81 : i < 81 := Decidable.byContradiction fun h => by
        rw [if_neg h] at hi
        cases hi
      rw [if_pos i81] at hi
      cases hi
      have sA := sT.trans sJ
      refine ⟨_, rfl, _, rfl, a, i, rs, rfl, hR.same sA, by omega, fun U G1 q1 e1 => ?_⟩
      refine ⟨_, rfl, _, rfl, b, i, ss, rfl, hS.same (sA.trans q1), by omega, fun W G2 q2 e2 => ?_⟩
      have e1 : SqT K G2 U (planV (rs.map (·.2)) i) := .inl (.inl (q2 _ _ e1))
      have e2 : SqT K G2 W (planV (ss.map (·.2)) i) := .inl (.inl e2)
      refine ⟨_, rfl, _, rfl, ne_planT e1 e2 (plan_plain fr) (plan_plain fs) ⟨_, rfl, ?_⟩⟩
      by_cases e : planV (rs.map (·.2)) i = planV (ss.map (·.2)) i
      · rw [decide_eq_true e]
        refine iteF ⟨_, _, _, rfl, sJ.trans (q1.trans q2), fun m hm => ?_⟩
        rcases Nat.lt_or_ge m i with h | h
        · exact low m h
        · rw [show m = i by omega]
          exact e
      · rw [decide_eq_false e]
        refine iteT ⟨_, rfl, _, rfl, _, rfl, U, W, _, _, i, rfl, e1, e2, fr, fs, by omega, e, fun y G3 q3 L => ?_⟩
        exact k _ G3 (sA.trans (q1.trans (q2.trans q3))) (.inr ⟨i, y, rfl, by omega, ⟨e, low⟩, L⟩)
    · rintro σ J ⟨u, v, z, rfl, sJ, low⟩
      rw [rg_len] at low
      exact k _ J (sT.trans sJ) (.inl ⟨rfl, alike_all fr fs l1 l2 fun n hn => low n (by omega)⟩)
def spFirstU (C : Addr) : Sp := fun vs H Q _ => ∃ (a b : Addr) (rs ss : List (Addr × Rec)), vs = [.ref a, .ref b] ∧ RowAt C H a rs ∧ RowAt C H b ss ∧ 1 ≤ rs.length ∧ rs.length ≤ 4 ∧ 1 ≤ ss.length ∧ ss.length ≤ 4 ∧ ∀ (v : V) (G : Hp), Same H G → Told (rs.map (·.2)) (ss.map (·.2)) v → Q v G
end
end Gu
namespace Gu
open PySem PySem.Spec PyProof.Rows L2
def spRight : Sp := fun vs H Q _ => ∃ (p : Addr), vs = [.ref p] ∧ Pot H p ∧ ∀ G, Ladled p H G → Q (.bl true) G
end Gu
namespace Gu
open PySem PySem.Spec PyProof.Rows L2
/-! ### answers written out -/
/-- None, a bool, or a short text of signs -/
inductive Ans : V → Prop
  | non : Ans .non
  | bl (b : Bool) : Ans (.bl b)
  | str {y : Str} (l : y.cps.toList.length ≤ 500) (s : Signs y.cps.toList) : Ans (.str y)
def adat : V → PyData
  | .bl b => .bool b
  | .str y => .str y
  | _ => .none
theorem Ans.dp {K : PySem.W.Frag} {H : Hp} {v : V} (h : Ans v) : Dp K H v (adat v) := by
  cases h with
  | non => exact .non
  | bl b => exact .bl b
  | str l s => exact .str _
theorem Ans.fine {v : V} (h : Ans v) : Fine 0 500 (adat v) := by
  cases h with
  | non => exact Fine.none.mono (Nat.le_refl _) (by decide)
  | bl b => exact (Fine.bool b).mono (Nat.le_refl _) (by decide)
  | str l s =>
    have a : ∀ c ∈ signs.cps.toList, c < 16 ^ 8 := by decide +kernel
    exact Fine.str (fun c hc => a c (s c hc)) l
theorem ans_all {K : PySem.W.Frag} {H : Hp} : ∀ {vs : List V}, (∀ v ∈ vs, Ans v) → DpAll K H vs (vs.map adat)
  | [], _ => .nil
  | v :: vs, h => .cons (h v (List.mem_cons_self ..)).dp (ans_all fun u hu => h u (List.mem_cons_of_mem _ hu))
theorem ans_fine {vs : List V} (l : vs.length ≤ 100) (h : ∀ v ∈ vs, Ans v) : Fine 60 100000 (.list (vs.map adat)) := by
  have a : FineAll 0 500 (vs.map adat) := .of fun d hd => by
    obtain ⟨v, hv, rfl⟩ := List.mem_map.mp hd
    exact (h v hv).fine
  refine a.list.mono (by decide) ?_
  rw [List.length_map]
  have := Nat.mul_le_mul_right (500 + 1) l
  omega
theorem Told.ans {rs ss : List Rec} {v : V} (h : Told rs ss v) : Ans v := by
  rcases h with ⟨rfl, _⟩ | ⟨n, y, rfl, hn, _, L⟩
  · exact .non
  · exact .str (by rw [L.len]; omega) L.sg
theorem Told.self {rs : List Rec} {v : V} (h : Told rs rs v) : v = .non := by
  rcases h with ⟨rfl, _⟩ | ⟨n, y, rfl, _, f, _⟩
  · rfl
  · exact absurd rfl f.ne
end Gu
namespace Gu
open PySem PySem.Spec PyProof.Rows L2
/-! ### (number, text) < (number, text) -/
def pairLt (m n : Int) (y z : Str) : Bool := if (m == n) = true then (if (y == z) = true then false else decide (y.cps.toList < z.cps.toList)) else decide (m < n)
def rLtP (K : PySem.W.Frag) : R2 := fun x y H Q => ∃ (a b : Addr) (m n : Int) (u v : Str), x = .ref a ∧ y = .ref b ∧ SqT K H a [.int m, .str u] ∧ SqT K H b [.int n, .str v] ∧ Q (.bl (pairLt m n u v)) H
theorem op_ltP {X : Cx} (hu : X.A.units < cLine) : OpR X (compareOp .Lt) (rLtP X.K) := by
  intro pins s σ H x y v u Q I rx ry h
  obtain ⟨a, b, m, n, y1, z1, rfl, rfl, ha, hb, q⟩ := h
  cases rx
  cases ry
  obtain ⟨its, r1, p1, _⟩ := I.tuple ha
  obtain ⟨its2, r2, p2, _⟩ := I.tuple hb
  cases r1 with
  | cons a1 r1 =>
    cases r1 with
    | cons a2 r1 =>
      cases r1
      cases r2 with
      | cons b1 r2 =>
        cases r2 with
        | cons b2 r2 =>
          cases r2
          obtain ⟨t1, rfl⟩ := a1
          obtain ⟨t2, rfl⟩ := a2
          obtain ⟨t3, rfl⟩ := b1
          obtain ⟨t4, rfl⟩ := b2
          have R := Ob.RcOp.tuples_lt (A := X.A) (s := s) (e := fun j => if j = 0 then (m == n) else (y1 == z1)) (r := fun j => if j = 0 then decide (m < n) else decide (y1.cps.toList < z1.cps.toList)) p1 p2 hu (fun j h1 h2 => by
            match j, h1, h2 with
            | 0, _, _ => exact SeqAt.EqAt.int_int _ _ _ _
            | 1, _, _ => exact SeqAt.EqAt.str_str _ _ _ _) (fun j h1 h2 _ => by
            match j, h1, h2 with
            | 0, _, _ => exact Ob.RcOp.lt_int _ _ _ _
            | 1, _, _ => exact fun _ _ _ _ h => PyProof.Rows.lt_str h)
          have e : Ob.lexAt (fun j => if j = 0 then (m == n) else (y1 == z1)) (fun j => if j = 0 then decide (m < n) else decide (y1.cps.toList < z1.cps.toList)) (decide ((#[Value.int m t1, Value.str y1 t2] : Array Value).size < (#[Value.int n t3, Value.str z1 t4] : Array Value).size)) 0 2 = pairLt m n y1 z1 := by
            rw [Ob.lexAt_succ, Ob.lexAt_succ, Ob.lexAt_zero]
            rfl
          exact R X.prog X.w X.xe (EP X pins σ Q) (by
            show EP X pins σ Q (.bool (Ob.lexAt _ _ _ 0 2)) s
            rw [e]
            exact ⟨.bl _, H, I, rfl, q⟩)
theorem pairLt_iff {m n : Int} {y z : Str} (h : pairLt m n y z = true) : m < n ∨ (m = n ∧ y.cps.toList < z.cps.toList) := by
  unfold pairLt at h
  split at h
  · next e =>
    split at h
    · cases h
    · exact .inr ⟨eq_of_beq e, of_decide_eq_true h⟩
  · exact .inl (of_decide_eq_true h)
/-! ### smaller texts are shown alike -/
theorem sign_low {c : Nat} (h : c ∈ signs.cps.toList) : c = 46 ∨ 48 ≤ c := by
  have a : ∀ c ∈ signs.cps.toList, c = 46 ∨ 48 ≤ c := by decide +kernel
  exact a c h
theorem not_dots : ∀ (n : Nat) (ds : List Nat), Signs ds → ds.length = n → ¬ ds < List.replicate n 46
  | 0, ds, _, l, h => by
    rw [List.eq_nil_of_length_eq_zero l] at h
    exact absurd h (by decide)
  | n + 1, [], _, l, _ => by cases l
  | n + 1, d :: ds, sd, l, h => by
    rw [List.replicate_succ, List.cons_lt_cons_iff] at h
    have a := sign_low (sd d (List.mem_cons_self ..))
    rcases h with h | ⟨_, h⟩
    · omega
    · exact not_dots n ds (fun c hc => sd c (List.mem_cons_of_mem _ hc)) (by simpa using l) h
theorem low_dotp : ∀ (p k : Nat) (ds : List Nat), Signs ds → ds.length = p + 1 + k → ds < List.replicate p 46 ++ 48 :: List.replicate k 46 → ∀ i, i ≤ p → ds[i]? = some 46
  | 0, k, [], _, l, _, _, _ => by
    rw [List.length_nil] at l
    omega
  | 0, k, d :: ds, sd, l, h, i, hi => by
    have a := sign_low (sd d (List.mem_cons_self ..))
    have h : d :: ds < 48 :: List.replicate k 46 := h
    rw [List.cons_lt_cons_iff] at h
    rcases h with h | ⟨_, h⟩
    · rw [show i = 0 by omega, show d = 46 by omega]
      rfl
    · exact absurd h (not_dots k ds (fun c hc => sd c (List.mem_cons_of_mem _ hc)) (by rw [List.length_cons] at l; omega))
  | p + 1, k, [], _, l, _, _, _ => by
    rw [List.length_nil] at l
    omega
  | p + 1, k, d :: ds, sd, l, h, i, hi => by
    have a := sign_low (sd d (List.mem_cons_self ..))
    rw [List.replicate_succ, List.cons_append, List.cons_lt_cons_iff] at h
    rcases h with h | ⟨rfl, h⟩
    · omega
    · cases i with
      | zero => rfl
      | succ i =>
        rw [List.getElem?_cons_succ]
        exact low_dotp p k ds (fun c hc => sd c (List.mem_cons_of_mem _ hc)) (by rw [List.length_cons] at l; omega) h i (by omega)
theorem smaller_same {rs ss : List Rec} (hr : ∀ r ∈ rs, r.fit) (hs : ∀ r ∈ ss, r.fit) {n : Nat} {cs ds : List Nat} (L : LeastAt rs ss n cs) (dl : ds.length = n) (sd : Signs ds) (lt : ds < cs) : cuts rs ds = cuts ss ds := by
  rcases L with ⟨rfl, _⟩ | ⟨p, hp, rfl, e0, _, high⟩
  · exact absurd lt (not_dots n ds sd dl)
  · have low := low_dotp p (n - p - 1) ds sd (by omega) lt
    have px : ∀ x ∈ planV rs n, Plain n x := plan_plain hr
    have py : ∀ y ∈ planV ss n, Plain n y := plan_plain hs
    have f0 := (dots_iff hr hs).mp e0
    have el : (planV rs n).length = (planV ss n).length := by
      have := congrArg List.length f0
      rw [List.length_map, List.length_map] at this
      exact this
    have few : ∀ q : Nat, q < n → Diff (planV rs n) (planV ss n) q → q ≤ p := fun q hq d => Decidable.byContradiction fun z => is_diff px py f0 hq d ((dotp_iff hr hs hq).mp (high q (by omega) hq))
    have at46 : ∀ i : Int, 0 ≤ i → i.toNat ≤ p → fill ds (.int i) = fill (dots n) (.int i) := fun i i0 ip => by
      show V.str (one _) = V.str (one _)
      rw [dots_at (by omega), List.getD_eq_getElem?_getD, low i.toNat ip]
      rfl
    rw [shown_iff, dl]
    refine List.ext_getElem? fun i => ?_
    rw [List.getElem?_map, List.getElem?_map]
    by_cases hi : i < (planV rs n).length
    · have hx := List.getElem?_eq_getElem hi
      have hi2 : i < (planV ss n).length := by omega
      have hy := List.getElem?_eq_getElem hi2
      rw [hx, hy]
      show some _ = some _
      have b := same_at px py f0 hx hy
      have qx := px _ (List.getElem_mem hi)
      have qy := py _ (List.getElem_mem hi2)
      generalize (planV rs n)[i] = x at hx b qx
      generalize (planV ss n)[i] = y at hy b qy
      by_cases e : x = y
      · rw [e]
      · have fx : fill ds x = fill (dots n) x := by
          rcases qx with ⟨j, rfl, j0, j1⟩ | ⟨c, rfl, _⟩
          · exact at46 j j0 (few j.toNat (by omega) ⟨i, _, _, hx, hy, e, .inl (by rw [Int.toNat_of_nonneg j0])⟩)
          · rfl
        have fy : fill ds y = fill (dots n) y := by
          rcases qy with ⟨j, rfl, j0, j1⟩ | ⟨c, rfl, _⟩
          · exact at46 j j0 (few j.toNat (by omega) ⟨i, _, _, hx, hy, e, .inr (by rw [Int.toNat_of_nonneg j0])⟩)
          · rfl
        rw [fx, fy, b]
    · rw [List.getElem?_eq_none (by omega), List.getElem?_eq_none (by omega)]
/-- what is told, of a smaller text -/
theorem Told.smaller {rs ss : List Rec} (hr : ∀ r ∈ rs, r.fit) (hs : ∀ r ∈ ss, r.fit) {y z : Str} (h : Told rs ss (.str y)) (sz : Signs z.cps.toList) (lt : pairLt z.length y.length z y = true) : cuts rs z.cps.toList = cuts ss z.cps.toList := by
  rcases h with ⟨e, _⟩ | ⟨n, y', e, _, f, L⟩
  · cases e
  · cases e
    have yl : y.length = n := L.len
    have zl : z.length = z.cps.toList.length := rfl
    rcases pairLt_iff lt with h | ⟨h1, h2⟩
    · exact plan_show hr hs (f.eq _ (by omega))
    · exact smaller_same hr hs L (by omega) sz h2
/-- rows that are alike are unlike a third one for the same text -/
theorem Told.alike {rs ss os : List Rec} (hr : ∀ r ∈ rs, r.fit) (hs : ∀ r ∈ ss, r.fit) (e : ∀ n, planV rs n = planV ss n) {v : V} (h : Told rs os v) : Told ss os v := by
  have c : ∀ cs : List Nat, cuts ss cs = cuts rs cs := fun cs => (plan_show hr hs (e cs.length)).symm
  rcases h with ⟨rfl, h⟩ | ⟨n, y, rfl, hn, f, L⟩
  · exact .inl ⟨rfl, fun n => (e n).symm.trans (h n)⟩
  · refine .inr ⟨n, y, rfl, hn, ⟨fun q => f.ne ((e n).trans q), fun m hm => (e m).symm.trans (f.eq m hm)⟩, ?_⟩
    rcases L with ⟨a, b⟩ | ⟨p, hp, a, b0, b1, b2⟩
    · exact .inl ⟨a, by rw [c]; exact b⟩
    · exact .inr ⟨p, hp, a, by rw [c]; exact b0, by rw [c]; exact b1, fun q h1 h2 => by rw [c]; exact b2 q h1 h2⟩
theorem Told.non_all {rs ss : List Rec} {v : V} (h : Told rs ss v) (e : v = .non) : ∀ n, planV rs n = planV ss n := by
  rcases h with ⟨_, h⟩ | ⟨n, y, rfl, _⟩
  · exact h
  · cases e
end Gu
namespace Gu
open PySem PySem.Spec PyProof.Rows L2
theorem ToldsAt.off {H : Hp} {D p : Addr} {ps : List (Addr × Rec)} (h : ToldsAt H D ps) (hp : Pot H p) (l : 1 ≤ ps.length) : D ≠ p := fun e => by
  subst e
  obtain ⟨x, y, z, e⟩ := hp
  have a := h.ls.symm.trans e
  cases ps with
  | nil => cases l
  | cons q ps => cases a
theorem same_len {ps rs : List (Addr × Rec)} (e : rs.map (·.2) = ps.map (·.2)) : rs.length = ps.length := by
  have := congrArg List.length e
  rw [List.length_map, List.length_map] at this
  exact this
end Gu
namespace Gu
open PySem PySem.Spec PyProof.Rows L2
/-! ### zip of a tuple and a text -/
/-- the tuple at a as it stands at each turn, with the signs of y, in new pairs -/
def ItzS (K : PySem.W.Frag) (a : Addr) (y : Str) : It where
  go := fun i H => ∃ (xs : List V) (x : V) (c : Nat), SqT K H a xs ∧ xs[i]? = some x ∧ y.cps[i]? = some c
  yld := fun i H v G => ∃ T x c, v = .ref T ∧ H T = none ∧ G = upd H T (.tup [x, .str ⟨#[c]⟩]) ∧ (∀ xs, SqT K H a xs → xs[i]? = some x) ∧ y.cps[i]? = some c
  stop := fun i H => ∃ xs : List V, SqT K H a xs ∧ i ≤ xs.length ∧ i ≤ y.cps.size ∧ (i = xs.length ∨ i = y.cps.size)
theorem turn_zipS {P : Program} {w : World} {K : PySem.W.Frag} {es : List Expr} {kk : Nat} {tp : Pos} {a z TI TO i1 i2 : Addr} {y : Str} {t : Tok} (S : ZipSep2 z TI TO i1 i2 [i1, a] [i2]) :
    Turn P w K (.Tuple es kk tp) (ItzS K a y) [z, TI, TO, i1, i2] z (fun i h => IsZip h z TI TO .none ∧ IsTupOf2 h TI (.ref i1) (.ref i2) ∧ (∃ u v, IsTupOf2 h TO u v) ∧ h.IsTupleIter i1 a i ∧ h.IsStrIter i2 (strIterType y) y t i) where
  mem := List.mem_cons_self ..
  obj := fun i h st c hc => by
    obtain ⟨hz, hTI, ⟨u, v, hTO⟩, ⟨o1, e1, _, d1⟩, ⟨o2, e2, _, d2⟩⟩ := st
    simp only [List.mem_cons, List.not_mem_nil, or_false] at hc
    rcases hc with rfl | rfl | rfl | rfl | rfl
    · exact ⟨_, hz, fun v q => nomatch q⟩
    · exact ⟨_, hTI, fun v q => nomatch q⟩
    · exact ⟨_, hTO, fun v q => nomatch q⟩
    · exact ⟨o1, e1, fun v q => by rw [d1] at q; cases q⟩
    · exact ⟨o2, e2, fun v q => by rw [d2] at q; cases q⟩
  keep := fun i h g st k => by
    obtain ⟨hz, hTI, ⟨u, v, hTO⟩, h1, h2⟩ := st
    exact ⟨k z (by simp) _ hz, k TI (by simp) _ hTI, ⟨u, v, k TO (by simp) _ hTO⟩, h1.at fun o q => k i1 (by simp) o q, by
      obtain ⟨o, e, c, d⟩ := h2
      exact ⟨o, k i2 (by simp) o e, c, d⟩⟩
  item := by
    intro X hP hw hK hc i pins s σ H E I hf st hg
    subst hP hw hK
    obtain ⟨hz, hTI, ⟨u0, v0, hTO⟩, h1, h2⟩ := st
    obtain ⟨xs, x, c, hq, hx, hc0⟩ := hg
    obtain ⟨its, rv, p1, _⟩ := I.tuple hq
    obtain ⟨u, hu, ru⟩ := rv.get hx
    have p1' : s.heap.IsTuple a its.toArray := p1
    have nai : a ≠ i1 := fun e => by
      obtain ⟨o1, g1, c1, _⟩ := p1'
      obtain ⟨o2, g2, c2, _⟩ := h1
      rw [e] at g1
      cases g1.symm.trans g2
      exact absurd (Value.type.inj (c1.symm.trans c2)) (by decide)
    have hd : X.A.in1.handled = none := I.ok.hd hc
    have hzl : z < s.heap.objs.size := Heap.lt_size hz
    have il : i < its.toArray.size := by
      have := (List.getElem?_eq_some_iff.mp hu).1
      simpa using this
    have iy : i < y.cps.size := (Array.getElem?_eq_some_iff.mp hc0).1
    refine wpAny_pyNext_zipD2_item S (Draws.tuple hd i1 a nai its.toArray) (Draws.text hd i2 y t) hz hTI hTO ⟨h1, p1'⟩ h2 il iy fun x1 x2 h' tk y1 y2 b1 b2 d1 d2 b5 b6 b7 => ?_
    obtain rfl : x1 = u := by
      have : its[i]? = some x1 := by simpa using y1
      rw [hu] at this
      exact (Option.some.inj this).symm
    obtain ⟨c', tc, hc1, rfl⟩ := y2
    obtain rfl : c' = c := Option.some.inj (hc1.symm.trans hc0)
    refine ⟨_, rfl, wpAny_letOwnedTupleGo_zip (s := { s with heap := h', toks := tk }) b1 fun h'' z'' sb => ?_⟩
    have hT2 : h''.get? s.heap.objs.size = some { cls := .type "tuple", data := .seq #[x1, .str ⟨#[c']⟩ tc] } := (sb.2 _ (Nat.ne_of_gt hzl)).trans b5
    have nw : ObjOk X.prog X.w (upd H s.heap.objs.size (.tup [x, .str ⟨#[c']⟩])) h'' s.heap.objs.size (.tup [x, .str ⟨#[c']⟩]) := ⟨by show 2 ≤ sizeLine; decide, [x1, .str ⟨#[c']⟩ tc], .cons ru (.cons ⟨_, rfl⟩ .nil), ⟨_, hT2, rfl, _, rfl⟩⟩
    have I1 : Inv X pins σ (upd H s.heap.objs.size (.tup [x, .str ⟨#[c']⟩])) { s with heap := h'', toks := tk } :=
      I.turnedNew (ch := [z, TI, TO, i1, i2]) (fun c o hb q => (sb.2 c (fun q' => hb (by simp [q']))).trans (b7 c o (fun q' => hb (by simp [q'])) (fun q' => hb (by simp [q'])) (fun q' => hb (by simp [q'])) (fun q' => hb (by simp [q'])) q)) hf (Nat.le_refl _) nw
    refine ⟨.ref s.heap.objs.size, _, I1, rfl, ⟨_, x, c', rfl, I.hok.fresh (Nat.le_refl _), rfl, fun l hl => by rw [I.tuple_inj hl hq]; exact hx, hc0⟩, ⟨z'', ?_, ⟨x1, .str ⟨#[c']⟩ tc, ?_⟩, ?_, ?_⟩, fun c hcm => ?_⟩
    · exact (sb.2 _ S.TIz).trans (b7 _ _ S.TIz S.TITO S.TIi1 S.TIi2 hTI)
    · exact (sb.2 _ S.TOz).trans b2
    · exact d1.1.at fun o q => (sb.2 _ (Ne.symm S.zi1)).trans q
    · obtain ⟨o, e, cc, dd⟩ := d2
      exact ⟨o, (sb.2 _ (Ne.symm S.zi2)).trans e, cc, dd⟩
    · have hlt : c < s.heap.objs.size := by
        simp only [List.mem_cons, List.not_mem_nil, or_false] at hcm
        rcases hcm with rfl | rfl | rfl | rfl | rfl
        · exact hzl
        · exact Heap.lt_size hTI
        · exact Heap.lt_size hTO
        · obtain ⟨_, e1, _⟩ := h1
          exact Heap.lt_size e1
        · obtain ⟨_, e2, _⟩ := h2
          exact Heap.lt_size e2
      rw [upd_ne (Nat.ne_of_lt hlt)]
      exact (hf c hcm).1
  done := by
    intro X hP hw hK hc i pins s σ H E I hf st hg
    subst hP hw hK
    obtain ⟨hz, hTI, ⟨u0, v0, hTO⟩, h1, h2⟩ := st
    obtain ⟨xs, hq, l1, l2, hend⟩ := hg
    obtain ⟨its, rv, p1, _⟩ := I.tuple hq
    have p1' : s.heap.IsTuple a its.toArray := p1
    have nai : a ≠ i1 := fun e => by
      obtain ⟨o1, g1, c1, _⟩ := p1'
      obtain ⟨o2, g2, c2, _⟩ := h1
      rw [e] at g1
      cases g1.symm.trans g2
      exact absurd (Value.type.inj (c1.symm.trans c2)) (by decide)
    have hd : X.A.in1.handled = none := I.ok.hd hc
    have el : its.toArray.size = xs.length := by
      rw [List.size_toArray]
      exact rv.length.symm
    exact wpAny_pyNext_zipD2_end S (Draws.tuple hd i1 a nai its.toArray) (Draws.text hd i2 y t) hz hTI hTO ⟨h1, p1'⟩ h2 (by omega) l2 (by omega) fun h' tk hk => ⟨rfl, I.turnedL (t' := tk) (ch := [z, TI, TO, i1, i2]) (fun c o hb q =>
      hk c o (fun q' => hb (by simp [q'])) (fun q' => hb (by simp [q'])) (fun q' => hb (by simp [q'])) (fun q' => hb (by simp [q'])) q) hf⟩
  self := fun A i s Q E st h => wpAny_pyIter_zip st.1 h
theorem sepS (n a : Nat) (h : a < n) : ZipSep2 (n + 4) (n + 2) (n + 3) n (n + 1) [n, a] [n + 1] where
  TIz := by show (n + 2 : Nat) ≠ n + 4; omega
  TOz := by show (n + 3 : Nat) ≠ n + 4; omega
  TITO := by show (n + 2 : Nat) ≠ n + 3; omega
  TIi1 := by show (n + 2 : Nat) ≠ n; omega
  mem1 := List.mem_cons_self ..
  zf1 := by simp only [List.mem_cons, List.not_mem_nil, or_false]; show ¬ ((n + 4 : Nat) = n ∨ (n + 4 : Nat) = a); omega
  Tf1 := by simp only [List.mem_cons, List.not_mem_nil, or_false]; show ¬ ((n + 3 : Nat) = n ∨ (n + 3 : Nat) = a); omega
  TIi2 := by show (n + 2 : Nat) ≠ n + 1; omega
  mem2 := List.mem_cons_self ..
  zf2 := by simp only [List.mem_cons, List.not_mem_nil, or_false]; show ¬ (n + 4 : Nat) = n + 1; omega
  Tf2 := by simp only [List.mem_cons, List.not_mem_nil, or_false]; show ¬ (n + 3 : Nat) = n + 1; omega
  sep1_2 := by simp only [List.mem_cons, List.not_mem_nil, or_false]; show ¬ (n : Nat) = n + 1; omega
  sep2_1 := by simp only [List.mem_cons, List.not_mem_nil, or_false]; show ¬ ((n + 1 : Nat) = n ∨ (n + 1 : Nat) = a); omega
def iZipS (K : PySem.W.Frag) (ta : TA) : TI := fun σ H R => ta σ H fun vs G => ∃ (a : Addr) (y : Str) (xs : List V), vs = [.ref a, .str y] ∧ SqT K G a xs ∧ R (ItzS K a y) G
theorem pi_zipS {X : Cx} {e e2 : Expr} {ta : TA} {p pos tp : Pos} {es : List Expr} {kk : Nat} (hg : Gl X "zip") (hm : X.mg "zip" = none) (ha : PA X [e, e2] ta)
    (hs : starEach [e, e2] X.env = (false, eval e X.env) :: starEach [e2] X.env := by rfl) (hpl : (backTo pos (starEach [e2] X.env)).any (·.1) = false := by rfl) :
    PI X (.Tuple es kk tp) (.Call (.Name "zip" p) [e, e2] [] pos) (iZipS X.K ta) := by
  refine ⟨fun pins s σ H R I h => ?_⟩
  refine Call_ (ld_blt I hg hm PyProof.Rows.boot_zip (PyProof.Rows.callWith_type1 (thn (ha.run pos pins s σ H _ I h) fun us s1 ⟨vs, G, I1, r1, q1⟩ => ?_) hs hpl))
  obtain ⟨a, y, xs, ex, hq, q⟩ := q1
  subst ex
  cases r1 with
  | cons r rr =>
    cases rr with
    | cons r' rr =>
      cases rr
      cases r
      obtain ⟨t, rfl⟩ := r'
      obtain ⟨its, rv, p1, _⟩ := I1.tuple hq
      have p1' : s1.heap.IsTuple a its.toArray := p1
      have al : a < s1.heap.objs.size := by
        obtain ⟨o, ho, _⟩ := p1'
        exact Heap.lt_size ho
      refine zip_begins2 (begins_tuple a its.toArray) (begins_text y t) p1' trivial fun h' hz hTI hTO e1 e2 hsz hk => wpAny_pyIter_zip hz ?_
      have I2 : Inv X pins σ G { s1 with heap := h' } := I1.kept (t' := s1.toks) hk
      have S := sepS s1.heap.objs.size a al
      refine ⟨s1.heap.objs.size + 4, [s1.heap.objs.size + 4, s1.heap.objs.size + 2, s1.heap.objs.size + 3, s1.heap.objs.size, s1.heap.objs.size + 1], _, _, G, rfl, I2, turn_zipS S, ⟨hz, hTI, ⟨_, _, hTO⟩, ⟨_, e1, rfl, rfl⟩, ⟨_, e2, rfl, rfl⟩⟩, fun c hcm => ?_, q⟩
      have le : s1.heap.objs.size ≤ c := by
        simp only [List.mem_cons, List.not_mem_nil, or_false] at hcm
        rcases hcm with rfl | rfl | rfl | rfl | rfl
        · exact Nat.le_add_right _ _
        · exact Nat.le_add_right _ _
        · exact Nat.le_add_right _ _
        · exact Nat.le_refl _
        · exact Nat.le_add_right _ _
      exact I1.fpOk le (I1.hok.fresh le)
theorem walk_zipS {K : PySem.W.Frag} {a : Addr} {y : Str} {xs : List V} (el : xs.length = y.cps.size) : Walk (ItzS K a y) xs.length (fun H => SqT K H a xs) (fun i H v G => ∃ T x c, xs[i]? = some x ∧ y.cps[i]? = some c ∧ v = .ref T ∧ H T = none ∧ G = upd H T (.tup [x, .str ⟨#[c]⟩])) where
  goes := fun i H hi h => ⟨xs, xs[i], y.cps[i]'(by omega), h, List.getElem?_eq_getElem hi, Array.getElem?_eq_getElem (by omega)⟩
  stops := fun H h => ⟨xs, h, Nat.le_refl _, by omega, .inl rfl⟩
  yields := fun i H v G hi h ⟨T, x, c, e1, e2, e3, e4, e5⟩ => ⟨T, x, c, e4 xs h, e5, e1, e2, e3⟩
end Gu
namespace Gu
open PySem PySem.Spec PyProof.Rows L2
/-! ### views in the heap -/
structure VW where
  pr : Addr
  rw : Addr
  rs : List (Addr × Rec)
  y : Str
def VW.recs (v : VW) : List Rec := v.rs.map (·.2)
def VW.cs (v : VW) : List Nat := v.y.cps.toList
structure ViewAt (C : Addr) (H : Hp) (v : VW) : Prop where
  pr : H v.pr = some (.tup [.ref v.rw, .str v.y])
  row : RowAt C H v.rw v.rs
  l1 : 1 ≤ v.rs.length
  l4 : v.rs.length ≤ 4
  tx : isTxt v.y 200 = true
structure ViewsAt (C : Addr) (H : Hp) (a : Addr) (vs : List VW) : Prop where
  tp : H a = some (.tup (vs.map fun v => V.ref v.pr))
  el : ∀ v ∈ vs, ViewAt C H v
  l1 : 1 ≤ vs.length
  l4 : vs.length ≤ 4
theorem ViewAt.same {C : Addr} {H G : Hp} {v : VW} (s : Same H G) (h : ViewAt C H v) : ViewAt C G v := ⟨s _ _ h.pr, h.row.same s, h.l1, h.l4, h.tx⟩
theorem ViewsAt.same {C : Addr} {H G : Hp} {a : Addr} {vs : List VW} (s : Same H G) (h : ViewsAt C H a vs) : ViewsAt C G a vs := ⟨s _ _ h.tp, fun v hv => (h.el v hv).same s, h.l1, h.l4⟩
/-- a text fits the views -/
def Fits (vs : List VW) (cs : List Nat) : Prop := ∀ v ∈ vs, cuts v.recs cs = v.cs
/-! what is known, by places -/
def Agree (kvs : List (Key × V)) (cs : List Nat) : Prop := ∀ (p c : Nat), valV kvs (Sum.inl (p : Int)) = some (.str (one c)) → cs[p]? = some c
structure Knows (n : Nat) (kvs : List (Key × V)) (Pd : List Nat → Prop) : Prop where
  ks : ∀ k v, valV kvs k = some v → ∃ p c : Nat, k = Sum.inl (p : Int) ∧ p < n ∧ v = .str (one c) ∧ c ∈ signs.cps.toList
  iff : ∀ cs : List Nat, cs.length = n → (Pd cs ↔ Agree kvs cs)
theorem Knows.imp {n : Nat} {kvs : List (Key × V)} {Pd Qd : List Nat → Prop} (h : Knows n kvs Pd) (e : ∀ cs : List Nat, cs.length = n → (Pd cs ↔ Qd cs)) : Knows n kvs Qd := ⟨h.ks, fun cs l => (e cs l).symm.trans (h.iff cs l)⟩
theorem Knows.start (n : Nat) : Knows n [] (fun _ => True) := ⟨fun k v h => (by cases h), fun cs l => ⟨fun _ p c h => (by cases h), fun _ => trivial⟩⟩
theorem one_inj {c d : Nat} (h : V.str (one c) = V.str (one d)) : c = d := by
  have := congrArg (fun z : Str => z.cps.toList) (V.str.inj h)
  exact List.singleton_inj.mp this
/-- one more place is known -/
theorem Knows.put {n p c : Nat} {kvs : List (Key × V)} {Pd : List Nat → Prop} (h : Knows n kvs Pd) (hp : p < n) (hc : c ∈ signs.cps.toList) (e : valV kvs (Sum.inl (p : Int)) = none) : Knows n (putK kvs (Sum.inl (p : Int)) (.str (one c))) (fun cs => Pd cs ∧ cs[p]? = some c) := by
  refine ⟨fun k v q => ?_, fun cs l => ?_⟩
  · rw [valV_put] at q
    split at q
    · next ek => exact ⟨p, c, ek, hp, (Option.some.inj q).symm, hc⟩
    · exact h.ks k v q
  · rw [h.iff cs l]
    constructor
    · rintro ⟨a, b⟩ q d hq
      rw [valV_put] at hq
      split at hq
      · next ek =>
        have ek : q = p := by have := Sum.inl.inj ek; omega
        rw [ek, b, one_inj (Option.some.inj hq)]
      · exact a q d hq
    · intro a
      refine ⟨fun q d hq => a q d ?_, a p c ?_⟩
      · rw [valV_put]
        split
        · next ek =>
          rw [ek, e] at hq
          cases hq
        · exact hq
      · rw [valV_put, if_pos rfl]
theorem fillN_int {cs : List Nat} {p c : Nat} (hp : p < cs.length) : fillN cs (.int (p : Int)) = c ↔ cs[p]? = some c := by
  show cs.getD (p : Int).toNat 0 = c ↔ _
  rw [Int.toNat_natCast, List.getD_eq_getElem?_getD, List.getElem?_eq_getElem hp]
  exact ⟨fun h => congrArg some h, fun h => Option.some.inj h⟩
/-- a row shows a text as y: sign by sign -/
theorem shown_each {rs : List Rec} (hf : ∀ r ∈ rs, r.fit) {cs ys : List Nat} : cuts rs cs = ys ↔ (planV rs cs.length).map (fillN cs) = ys := by
  have e := fill_plan rs cs
  have px : ∀ x ∈ planV rs cs.length, Plain cs.length x := plan_plain hf
  rw [fillN_map px] at e
  rw [ones_inj e]
section
variable {P : Program} {w : World} {K : PySem.W.Frag} {mg : Str → Option Value} {base : Heap} {C : Addr}
theorem Isa.str_intV {H : Hp} {z : Str} : Isa K H (.str z) "int" false := ⟨_, .base (.str z), kit_ty (by decide +kernel)⟩
/-! ### is_row, is_view, check_views -/
def spIsRow (C : Addr) : Sp := fun vs H Q _ => ∃ (a : Addr) (rs : List (Addr × Rec)), vs = [.ref a] ∧ RowAt C H a rs ∧ 1 ≤ rs.length ∧ rs.length ≤ 4 ∧ ∀ G, Same H G → Q (.bl true) G
def spIsView (C : Addr) : Sp := fun vs H Q _ => ∃ (v : VW), vs = [.ref v.pr] ∧ ViewAt C H v ∧ ∀ G, Same H G → Q (.bl true) G
def spCheckViews (C : Addr) : Sp := fun vs H Q _ => ∃ (a : Addr) (ws : List VW), vs = [.ref a] ∧ ViewsAt C H a ws ∧ ∀ G, Same H G → Q .non G
/-! ### known_signs -/
def spKnown (C : Addr) : Sp := fun vs H Q _ => ∃ (a : Addr) (n : Nat) (ws : List VW), vs = [.ref a, .int (n : Int)] ∧ ViewsAt C H a ws ∧ n ≤ 500 ∧ ((∀ cs : List Nat, cs.length = n → ¬ Fits ws cs) → ∀ G, Same H G → Q .non G) ∧ ∀ (d : Addr) (kvs : List (Key × V)) (G : Hp), H d = none → Same H G → G d = some (.dK kvs) → Knows n kvs (Fits ws) → Q (.ref d) G
/-- the signs of one view, up to i -/
def Upto (n : Nat) (rs : List Rec) (ys : List Nat) (i : Nat) (cs : List Nat) : Prop := ∀ j x c, j < i → (planV rs n)[j]? = some x → ys[j]? = some c → fillN cs x = c
theorem upto_all {n : Nat} {rs : List Rec} (hf : ∀ r ∈ rs, r.fit) {ys cs : List Nat} (l : cs.length = n) (e : (planV rs n).length = ys.length) : Upto n rs ys ys.length cs ↔ cuts rs cs = ys := by
  rw [shown_each hf, l]
  constructor
  · intro h
    refine List.ext_getElem (by rw [List.length_map]; exact e) fun j h1 h2 => ?_
    rw [List.getElem_map]
    exact h j _ _ h2 (List.getElem?_eq_getElem _) (List.getElem?_eq_getElem h2)
  · intro h j x c hj hx hc
    rw [← h, List.getElem?_map, hx] at hc
    exact Option.some.inj hc
theorem upto_next {n : Nat} {rs : List Rec} {ys cs : List Nat} {i : Nat} {x : V} {c : Nat} (hx : (planV rs n)[i]? = some x) (hc : ys[i]? = some c) : Upto n rs ys (i + 1) cs ↔ Upto n rs ys i cs ∧ fillN cs x = c := by
  constructor
  · exact fun h => ⟨fun j x c hj => h j x c (by omega), h i x c (by omega) hx hc⟩
  · rintro ⟨h, e⟩ j u d hj hu hd
    rcases Nat.lt_or_ge j i with q | q
    · exact h j u d q hu hd
    · obtain rfl : j = i := by omega
      rw [hx] at hu
      rw [hc] at hd
      cases hu
      cases hd
      exact e
theorem fits_take {ws : List VW} {i : Nat} {v : VW} {cs : List Nat} (h : ws[i]? = some v) : Fits (ws.take (i + 1)) cs ↔ Fits (ws.take i) cs ∧ cuts v.recs cs = v.cs := by
  rw [takeF_next h]
  constructor
  · exact fun q => ⟨fun u hu => q u (List.mem_append.mpr (.inl hu)), q v (List.mem_append.mpr (.inr (List.mem_singleton.mpr rfl)))⟩
  · rintro ⟨a, b⟩ u hu
    rcases List.mem_append.mp hu with hu | hu
    · exact a u hu
    · rw [List.mem_singleton.mp hu]
      exact b
set_option maxHeartbeats 1000000 in
theorem cal_known (B : Bi mg) (D : At K mg "known_signs" s_known_signs ps_known_signs) (C_planned : Cal P w K mg base 2 "planned" ps_planned (spPlanned C)) : Cal P w K mg base 3 "known_signs" ps_known_signs (spKnown C) := by
  refine D.cal sc_known_signs (fun vs H Q E h => ?_) (fun f cdv A outer s H vs Q E hr h => ?_)
  · obtain ⟨a, n, ws, rfl, _⟩ := h
    rfl
  · obtain ⟨a, n, ws, rfl, hV, hn, kN, kS⟩ := h
    refine ⟨_, (pss_cons (ps_set (i := 2) sc_known_signs.nd rfl (.inl rfl) pe_dnewK)
      (pss_cons (ps_for PassesOwn.never rfl (pi_tup (pv 0)) (pg_tup rfl (pgs_cons (pg_name (i := 3) sc_known_signs.nd rfl (.inl rfl)) (pgs_cons (pg_name (i := 4) sc_known_signs.nd rfl (.inl rfl)) pgs_nil)))
      (pss_cons (ps_set (i := 5) sc_known_signs.nd rfl (.inl rfl) (pe_own C_planned hr (by decide) (by rfl) (pa_cons (pv 3) (pa_cons (pv 1) pa_nil))))
      (pss_cons (ps_if (pt_cmpR op_ne (pe_callB call_len (by rfl) B.len (by decide +kernel) (pa_cons (pv 5) pa_nil)) (pe_callB call_len (by rfl) B.len (by decide +kernel) (pa_cons (pv 4) pa_nil)) (nomark _)) (pss_one (ps_ret pe_non)) pss_nil)
      (pss_one (ps_for PassesOwn.never rfl (pi_zipS (by rfl) B.zip (pa_cons (pv 5) (pa_cons (pv 4) pa_nil))) (pg_tup rfl (pgs_cons (pg_name (i := 6) sc_known_signs.nd rfl (.inl rfl)) (pgs_cons (pg_name (i := 7) sc_known_signs.nd rfl (.inl rfl)) pgs_nil)))
      (pss_cons (ps_set (i := 8) sc_known_signs.nd rfl (.inl rfl) (pe_mid (pe_ifExp (pt_val (pe_callB call_isi (by rfl) B.isinstance (by decide +kernel) (pa_cons (pv 6) (pa_cons (pe_bltn (v := .ty "int") (by rfl) B.int (by decide +kernel) rfl) pa_nil)))) (pe_dsetd (pv 2) (pv 6) (pv 7) ⟨rfl, rfl, rfl, rfl⟩) (pv 6))))
      (pss_one (ps_if (pt_cmpR op_ne (pv 8) (pv 7) (nomark _)) (pss_one (ps_ret pe_non)) pss_nil))))))))
      (pss_one (ps_ret (pv 2))))), ?_⟩
    refine fun d nd => ?_
    have s0 : Same H (upd H d (.dK [])) := same_new nd
    refine ⟨_, rfl, a, rfl, ⟨_, .inl (.inl (s0 _ _ hV.tp))⟩, for_tup (K := K) (a := a) (xs := ws.map fun v => V.ref v.pr) (fun i σ J => ∃ (kvs : List (Key × V)) (b1 b2 b3 b4 b5 b6 : Option V), σ = [some (.ref a), some (.int (n : Int)), some (.ref d), b1, b2, b3, b4, b5, b6] ∧ Same H J ∧ J d = some (.dK kvs) ∧ Knows n kvs (Fits (ws.take i)) ∧ kvs.length ≤ 1000 * i)
      ⟨[], none, none, none, none, none, none, rfl, s0, upd_same, (Knows.start n).imp (fun cs _ => ⟨fun _ v hv => (by cases hv), fun _ => trivial⟩), Nat.zero_le _⟩ (fun i σ J _ ⟨_, _, _, _, _, _, _, _, sJ, _⟩ => .inl (.inl (sJ _ _ hV.tp))) ?_ ?_⟩
    · rintro i x σ J hi ⟨kvs, b1, b2, b3, b4, b5, b6, rfl, sJ, eD, kn, kl⟩
      rw [List.getElem?_map] at hi
      cases hv : ws[i]? with
      | none =>
        rw [hv] at hi
        cases hi
      | some v =>
        rw [hv] at hi
        cases hi
        have mv : v ∈ ws := List.mem_of_getElem? hv
        have il : i < ws.length := (List.getElem?_eq_some_iff.mp hv).1
        have w4 := hV.l4
        have vw := (hV.el v mv).same sJ
        have fr : ∀ r ∈ v.recs, r.fit := vw.row.fits
        have yl := isTxt_len vw.tx
        have ys : Signs v.cs := isTxt_signs vw.tx
        have yL : v.y.length = v.cs.length := rfl
        have yZ : v.y.cps.size = v.cs.length := rfl
        refine ⟨v.pr, _, rfl, .inl (.inl vw.pr), rfl, _, _, rfl, _, _, rfl, rfl, ?_⟩
        refine ⟨_, rfl, _, rfl, v.rw, n, v.rs, rfl, vw.row, hn, fun U G1 s1 e1 => ?_⟩
        have e1 : G1 U = some (.tup (planV v.recs n)) := e1
        have pl := plan_len fr (n := n) hn
        refine ⟨_, rfl, _, _, rfl, .inr ⟨_, .inl (.inl e1), rfl⟩, _, rfl, _, _, rfl, ⟨Nat.le_of_lt (small1000 (by omega)), rfl⟩, rfl, _, rfl, ?_⟩
        by_cases el : (planV v.recs n).length = v.cs.length
        · rw [decide_eq_true (show V.int ((planV v.recs n).length : Int) = V.int (v.y.length : Int) by rw [el, yL])]
          refine iteF ⟨_, rfl, _, rfl, U, v.y, _, rfl, .inl (.inl e1), for_it (walk_zipS (by rw [el, yZ])) (fun j σ J1 => ∃ (kvs : List (Key × V)) (c1 c2 c3 : Option V), σ = [some (.ref a), some (.int (n : Int)), some (.ref d), some (.ref v.rw), some (.str v.y), some (.ref U), c1, c2, c3] ∧ Same H J1 ∧ J1 U = some (.tup (planV v.recs n)) ∧ J1 d = some (.dK kvs) ∧ Knows n kvs (fun cs => Fits (ws.take i) cs ∧ Upto n v.recs v.cs j cs) ∧ kvs.length ≤ 1000 * i + j)
            ⟨kvs, b4, b5, b6, rfl, sJ.trans s1, e1, s1 _ _ eD, kn.imp (fun cs _ => ⟨fun h => ⟨h, fun j x c hj => absurd hj (by omega)⟩, fun h => h.1⟩), by omega⟩ (fun j σ J1 _ ⟨_, _, _, _, _, _, h, _⟩ => .inl (.inl h)) ?_ ?_⟩
          · rintro j z σ1 J1 _ hj ⟨kvs1, c1, c2, c3, rfl, s2, e2, eD1, kn1, kl1⟩ ⟨T, sx, c, hx, hc, rfl, nT, rfl⟩
            have hc : v.cs[j]? = some c := by
              rw [← Array.getElem?_toList] at hc
              exact hc
            have cs1 : c ∈ signs.cps.toList := ys c (List.mem_of_getElem? hc)
            have sT : Same J1 (upd J1 T (.tup [sx, .str ⟨#[c]⟩])) := same_new nT
            have eD2 := sT _ _ eD1
            have e3 := sT _ _ e2
            have s3 := s2.trans sT
            refine ⟨T, _, rfl, .inl (.inl upd_same), rfl, _, _, rfl, _, _, rfl, rfl, ?_⟩
            generalize upd J1 T (.tup [sx, .str ⟨#[c]⟩]) = J2 at eD2 e3 s3
            have px : Plain n sx := plan_plain fr sx (List.mem_of_getElem? hx)
            rcases px with ⟨q, rfl, q0, qn⟩ | ⟨g, rfl, _⟩
            · obtain ⟨q, rfl⟩ := Int.eq_ofNat_of_zero_le q0
              have qn : q < n := by omega
              cases eq : valV kvs1 (Sum.inl (q : Int)) with
              | some u =>
                obtain ⟨q', g, ek, _, rfl, _⟩ := kn1.ks _ _ eq
                refine ⟨fun t J3 => t = .str (one g) ∧ J2 = J3, ?_, ?_⟩
                · obtain ⟨t, i1, i2⟩ := Isa.int_int (K := K) (H := J2) (i := (q : Int))
                  refine ⟨_, rfl, _, _, t, _, true, rfl, .ty _, i1, i2, _, rfl, iteT ⟨_, rfl, d, rfl, .inl ⟨_, .inl eD2⟩, _, rfl, _, rfl, kvs1, Sum.inl (q : Int), eD2, rfl, Nat.lt_of_le_of_lt (show _ ≤ 6000 by omega) (by decide), fun v hv => ?_, fun hv => ?_⟩⟩
                  · rw [eq] at hv
                    cases hv
                    exact ⟨rfl, rfl⟩
                  · rw [eq] at hv
                    cases hv
                · rintro _ _ ⟨rfl, rfl⟩
                  refine ⟨_, rfl, _, rfl, rfl, _, rfl, ?_⟩
                  by_cases gc : g = c
                  · subst gc
                    rw [decide_eq_true (show V.str (one g) = V.str ⟨#[g]⟩ from rfl)]
                    refine iteF ⟨kvs1, _, _, _, rfl, s3, e3, eD2, kn1.imp (fun cs l => ?_), by omega⟩
                    rw [upto_next hx hc]
                    constructor
                    · rintro h
                      exact ⟨h.1, h.2, (fillN_int (by omega)).mpr ((kn1.iff cs l).mp h q g eq)⟩
                    · exact fun h => ⟨h.1, h.2.1⟩
                  · rw [decide_eq_false (show ¬ V.str (one g) = V.str ⟨#[c]⟩ from fun h => gc (one_inj h))]
                    refine iteT (kN (fun cs l ft => gc ?_) J2 s3)
                    have f1 := (fits_take hv).mp (fun u hu => ft u (List.mem_of_mem_take hu))
                    have up := (upto_all fr l el).mpr f1.2
                    have a1 := (kn1.iff cs l).mp ⟨f1.1, fun m x c hm => up m x c (by omega)⟩ q g eq
                    have jl : j < v.cs.length := (List.getElem?_eq_some_iff.mp hc).1
                    have a2 := (fillN_int (by omega)).mp (up j _ c jl hx hc)
                    exact Option.some.inj (a1.symm.trans a2)
              | none =>
                refine ⟨fun t J3 => t = .str (one c) ∧ J3 = upd J2 d (.dK (putK kvs1 (Sum.inl (q : Int)) (.str (one c)))), ?_, ?_⟩
                · obtain ⟨t, i1, i2⟩ := Isa.int_int (K := K) (H := J2) (i := (q : Int))
                  refine ⟨_, rfl, _, _, t, _, true, rfl, .ty _, i1, i2, _, rfl, iteT ⟨_, rfl, d, rfl, .inl ⟨_, .inl eD2⟩, _, rfl, _, rfl, kvs1, Sum.inl (q : Int), eD2, rfl, Nat.lt_of_le_of_lt (show _ ≤ 6000 by omega) (by decide), fun v hv => ?_, fun hv => ⟨rfl, rfl⟩⟩⟩
                  rw [eq] at hv
                  cases hv
                · rintro _ _ ⟨rfl, rfl⟩
                  refine ⟨_, rfl, _, rfl, rfl, _, rfl, ?_⟩
                  rw [decide_eq_true (show V.str (one c) = V.str ⟨#[c]⟩ from rfl)]
                  have kl2 := length_putK kvs1 (Sum.inl (q : Int)) (.str (one c))
                  have nUd : U ≠ d := ne_of e3 eD2 (by intro z; cases z)
                  refine iteF ⟨_, _, _, _, rfl, same_offF s3 nd, by rw [upd_ne nUd]; exact e3, upd_same, (kn1.put qn cs1 eq).imp (fun cs l => ?_), by omega⟩
                  rw [upto_next hx hc, fillN_int (by omega)]
                  exact ⟨fun h => ⟨h.1.1, h.1.2, h.2⟩, fun h => ⟨⟨h.1, h.2.1⟩, h.2.2⟩⟩
            · refine ⟨fun t J3 => t = .str (one g) ∧ J2 = J3, ?_, ?_⟩
              · obtain ⟨t, i1, i2⟩ := Isa.str_intV (K := K) (H := J2) (z := one g)
                exact ⟨_, rfl, _, _, t, _, false, rfl, .ty _, i1, i2, _, rfl, iteF ⟨_, rfl, rfl, rfl⟩⟩
              · rintro _ _ ⟨rfl, rfl⟩
                refine ⟨_, rfl, _, rfl, rfl, _, rfl, ?_⟩
                by_cases gc : g = c
                · subst gc
                  rw [decide_eq_true (show V.str (one g) = V.str ⟨#[g]⟩ from rfl)]
                  refine iteF ⟨kvs1, _, _, _, rfl, s3, e3, eD2, kn1.imp (fun cs l => ?_), by omega⟩
                  rw [upto_next hx hc]
                  exact ⟨fun h => ⟨h.1, h.2, rfl⟩, fun h => ⟨h.1, h.2.1⟩⟩
                · rw [decide_eq_false (show ¬ V.str (one g) = V.str ⟨#[c]⟩ from fun h => gc (one_inj h))]
                  refine iteT (kN (fun cs l ft => gc ?_) J2 s3)
                  have f1 := (fits_take hv).mp (fun u hu => ft u (List.mem_of_mem_take hu))
                  have jl : j < v.cs.length := (List.getElem?_eq_some_iff.mp hc).1
                  exact (upto_all fr l el).mpr f1.2 j _ c jl hx hc
          · rintro σ1 J1 ⟨kvs1, c1, c2, c3, rfl, s2, e2, eD1, kn1, kl1⟩
            refine ⟨kvs1, _, _, _, _, _, _, rfl, s2, eD1, kn1.imp (fun cs l => ?_), by omega⟩
            rw [fits_take hv, ← upto_all fr l el, el]
        · rw [decide_eq_false (fun h => el (by have := V.int.inj h; omega))]
          refine iteT (kN (fun cs l ft => el ?_) G1 (sJ.trans s1))
          have := ft v mv
          rw [shown_each fr, l] at this
          rw [← this, List.length_map]
    · rintro σ J ⟨kvs, b1, b2, b3, b4, b5, b6, rfl, sJ, eD, kn, kl⟩
      rw [List.length_map, List.take_length] at kn
      exact ⟨_, rfl, kS d kvs J nd sJ eD kn⟩
end
end Gu
namespace Gu
open PySem PySem.Spec PyProof.Rows L2
/-! ### what is written out -/
/-- the sign at a place, o where it is open -/
def sgn (kvs : List (Key × V)) (o p : Nat) : Nat := match valV kvs (Sum.inl (p : Int)) with
  | some (.str z) => z.cps.toList.getD 0 0
  | _ => o
theorem sgn_some {kvs : List (Key × V)} {o p c : Nat} (h : valV kvs (Sum.inl (p : Int)) = some (.str (one c))) : sgn kvs o p = c := by
  unfold sgn
  rw [h]
  rfl
theorem sgn_none {kvs : List (Key × V)} {o p : Nat} (h : valV kvs (Sum.inl (p : Int)) = none) : sgn kvs o p = o := by
  unfold sgn
  rw [h]
def wrote (kvs : List (Key × V)) (o n : Nat) : List Nat := (List.range n).map (sgn kvs o)
theorem wrote_len (kvs : List (Key × V)) (o n : Nat) : (wrote kvs o n).length = n := by
  unfold wrote
  rw [List.length_map, List.length_range]
theorem wrote_at {kvs : List (Key × V)} {o n p : Nat} (h : p < n) : (wrote kvs o n)[p]? = some (sgn kvs o p) := by
  unfold wrote
  rw [List.getElem?_map, List.getElem?_range h]
  rfl
theorem wrote_agree {n o : Nat} {kvs : List (Key × V)} {Pd : List Nat → Prop} (h : Knows n kvs Pd) : Agree kvs (wrote kvs o n) := fun p c hc => by
  obtain ⟨p', c', ek, hp, _, _⟩ := h.ks _ _ hc
  have ek : p = p' := by have := Sum.inl.inj ek; omega
  rw [wrote_at (by omega), sgn_some hc]
theorem wrote_fits {n o : Nat} {kvs : List (Key × V)} {Pd : List Nat → Prop} (h : Knows n kvs Pd) : Pd (wrote kvs o n) := (h.iff _ (wrote_len ..)).mpr (wrote_agree h)
theorem wrote_signs {n o : Nat} {kvs : List (Key × V)} {Pd : List Nat → Prop} (h : Knows n kvs Pd) (ho : o ∈ signs.cps.toList) : Signs (wrote kvs o n) := fun c hc => by
  obtain ⟨p, hp, rfl⟩ := List.mem_map.mp hc
  cases e : valV kvs (Sum.inl (p : Int)) with
  | none =>
    rw [sgn_none e]
    exact ho
  | some v =>
    obtain ⟨p', c', ek, _, rfl, hs⟩ := h.ks _ _ e
    rw [sgn_some e]
    exact hs
def natV (l : List Nat) : List V := l.map fun a : Nat => V.int (a : Int)
theorem in_natV (i : Int) (l : List Nat) : inV (.int i) (natV l) = decide (0 ≤ i ∧ i.toNat ∈ l) := by
  unfold inV natV
  rw [List.any_map]
  by_cases e : 0 ≤ i ∧ i.toNat ∈ l
  · rw [decide_eq_true e, List.any_eq_true]
    refine ⟨i.toNat, e.2, ?_⟩
    show ((i.toNat : Int) == i) = true
    rw [Int.toNat_of_nonneg e.1]
    exact beq_self_eq_true _
  · rw [decide_eq_false e, List.any_eq_false]
    intro y hy h
    have h : ((y : Int)) = i := eq_of_beq (show ((y : Int) == i) = true from h)
    exact e ⟨by omega, by rw [← h, Int.toNat_natCast]; exact hy⟩
theorem flat_natV (l : List Nat) : (natV l).all flatV = true := by
  unfold natV
  rw [List.all_map, List.all_eq_true]
  exact fun _ _ => rfl
/-- some text of this length fits -/
def Poss (ws : List VW) (n : Nat) : Prop := ∃ cs : List Nat, cs.length = n ∧ Fits ws cs
noncomputable instance decPoss (ws : List VW) (n : Nat) : Decidable (Poss ws n) := Classical.propDecidable _
noncomputable def possL (ws : List VW) (m : Nat) : List Nat := (List.range m).filter fun n => decide (Poss ws n)
theorem mem_possL {ws : List VW} {m n : Nat} : n ∈ possL ws m ↔ n < m ∧ Poss ws n := by
  unfold possL
  rw [List.mem_filter, List.mem_range]
  exact ⟨fun h => ⟨h.1, of_decide_eq_true h.2⟩, fun h => ⟨h.1, decide_eq_true h.2⟩⟩
theorem possL_yes {ws : List VW} {m : Nat} (h : Poss ws m) : possL ws (m + 1) = possL ws m ++ [m] := by
  unfold possL
  rw [List.range_succ, List.filter_append, List.filter_cons, decide_eq_true h]
  rfl
theorem possL_no {ws : List VW} {m : Nat} (h : ¬ Poss ws m) : possL ws (m + 1) = possL ws m := by
  unfold possL
  rw [List.range_succ, List.filter_append, List.filter_cons, decide_eq_false h]
  simp only [Bool.false_eq_true, if_false, List.filter_nil, List.append_nil]
theorem possL_len (ws : List VW) (m : Nat) : (possL ws m).length ≤ m := by
  unfold possL
  exact Nat.le_trans (List.length_filter_le ..) (Nat.le_of_eq List.length_range)
theorem possL_lt (ws : List VW) {b m : Nat} (h : b ≤ m) : (possL ws m).filter (fun n => decide (n < b)) = possL ws b := by
  induction m with
  | zero =>
    obtain rfl : b = 0 := by omega
    rfl
  | succ m ih =>
    by_cases e : b = m + 1
    · subst e
      refine List.filter_eq_self.mpr fun n hn => decide_eq_true ?_
      exact (mem_possL.mp hn).1
    · have z : decide (m < b) = false := decide_eq_false (by omega)
      by_cases p : Poss ws m
      · rw [possL_yes p, List.filter_append, ih (by omega), List.filter_cons, z]
        simp only [Bool.false_eq_true, if_false, List.filter_nil, List.append_nil]
      · rw [possL_no p, ih (by omega)]
/-- what lengths tells -/
def Lens (ws : List VW) (sm : List Nat) (b : V) : Prop := (b = .non ∧ sm = possL ws 81 ∧ ¬ Poss ws 80) ∨ ∃ m : Nat, b = .int (m : Int) ∧ m ≤ 80 ∧ sm = possL ws m ∧ (∀ n, m ≤ n → n ≤ 80 → Poss ws n) ∧ (m = 0 ∨ ¬ Poss ws (m - 1))
/-- what signs tells -/
def Sgn (ws : List VW) (n : Nat) (v : V) : Prop := (v = .non ∧ ∀ cs : List Nat, cs.length = n → ¬ Fits ws cs) ∨ ∃ kvs y, v = .str y ∧ Knows n kvs (Fits ws) ∧ y.cps.toList = wrote kvs 63 n
section
variable {P : Program} {w : World} {K : PySem.W.Frag} {mg : Str → Option Value} {base : Heap} {C : Addr}
def spWritten : Sp := fun vs H Q _ => ∃ (d : Addr) (n o : Nat) (kvs : List (Key × V)) (z : Str) (Pd : List Nat → Prop), vs = [.ref d, .int (n : Int), .str z] ∧ z.cps.toList = [o] ∧ H d = some (.dK kvs) ∧ Knows n kvs Pd ∧ n ≤ 500 ∧ ∀ (y : Str) (G : Hp), Same H G → y.cps.toList = wrote kvs o n → Q (.str y) G
def spSigns (C : Addr) : Sp := fun vs H Q _ => ∃ (a : Addr) (n : Nat) (ws : List VW), vs = [.ref a, .int (n : Int)] ∧ ViewsAt C H a ws ∧ n ≤ 500 ∧ ∀ (v : V) (G : Hp), Same H G → Sgn ws n v → Q v G
theorem several : (("?" : String) : Str).cps.toList = [63] := by decide +kernel
/-! ### number_of -/
def manyOf : V → Int
  | .str y => (38 : Int) ^ (y.cps.toList.count 63)
  | _ => 0
def spNumber (C : Addr) : Sp := fun vs H Q _ => ∃ (a : Addr) (n : Nat) (ws : List VW), vs = [.ref a, .int (n : Int)] ∧ ViewsAt C H a ws ∧ n ≤ 500 ∧ ∀ (v : V) (G : Hp), Same H G → Sgn ws n v → Q (.int (manyOf v)) G
def spLengths (C : Addr) : Sp := fun vs H Q _ => ∃ (a : Addr) (ws : List VW), vs = [.ref a] ∧ ViewsAt C H a ws ∧ ∀ (T S : Addr) (sm : List Nat) (b : V) (G : Hp), Same H G → G T = some (.tup [.ref S, b]) → G S = some (.tup (natV sm)) → Lens ws sm b → Q (.ref T) G
def Least (ws : List VW) (v : V) : Prop := (v = .non ∧ possL ws 81 = []) ∨ ∃ n kvs y, v = .str y ∧ n ≤ 80 ∧ Poss ws n ∧ (∀ m, m < n → ¬ Poss ws m) ∧ Knows n kvs (Fits ws) ∧ y.cps.toList = wrote kvs 46 n
def spLeast (C : Addr) : Sp := fun vs H Q _ => ∃ (a : Addr) (ws : List VW), vs = [.ref a] ∧ ViewsAt C H a ws ∧ ∀ (v : V) (G : Hp), Same H G → Least ws v → Q v G
theorem possL_head {ws : List VW} {m q : Nat} {l : List Nat} (h : possL ws m = q :: l) : q < m ∧ Poss ws q ∧ ∀ k, k < q → ¬ Poss ws k := by
  have hq := mem_possL.mp (show q ∈ possL ws m by rw [h]; exact List.mem_cons_self ..)
  refine ⟨hq.1, hq.2, fun k hk hp => ?_⟩
  have mk : k ∈ possL ws m := mem_possL.mpr ⟨by omega, hp⟩
  have pw : (possL ws m).Pairwise (· < ·) := by
    unfold possL
    exact List.Pairwise.filter _ List.pairwise_lt_range
  rw [h] at mk pw
  rcases List.mem_cons.mp mk with e | e
  · omega
  · have := (List.pairwise_cons.mp pw).1 k e
    omega
theorem dot1 : (⟨#[46]⟩ : Str).cps.toList = [46] := rfl
def Sole (ws : List VW) (v : V) : Prop := v = .non ∨ ∃ n kvs y, v = .str y ∧ possL ws 81 = [n] ∧ ¬ Poss ws 80 ∧ Knows n kvs (Fits ws) ∧ y.cps.toList = wrote kvs 63 n ∧ 63 ∉ y.cps.toList
def spOnly (C : Addr) : Sp := fun vs H Q _ => ∃ (a : Addr) (ws : List VW), vs = [.ref a] ∧ ViewsAt C H a ws ∧ ∀ (v : V) (G : Hp), Same H G → Sole ws v → Q v G
end
end Gu
namespace Gu
open PySem PySem.Spec PyProof.Rows L2
/-! ### views: what follows -/
theorem far_cut {r : Rec} (f : r.fit) {cs : List Nat} (l : 80 ≤ cs.length) : r.cut (cs.take 40 ++ cs.drop (cs.length - 40)) = r.cut cs := by
  have f1 := f.l
  have f2 := f.h
  have f3 := f.t
  have el : (cs.take 40 ++ cs.drop (cs.length - 40)).length = 80 := by
    rw [List.length_append, List.length_take, List.length_drop]
    omega
  unfold Rec.cut cut
  rw [el, if_neg (by omega), if_neg (by omega)]
  congr 1
  · congr 1
    rw [List.take_append_of_le_length (by rw [List.length_take]; omega), List.take_take]
    congr 1
    omega
  · refine List.ext_getElem? fun j => ?_
    rw [List.getElem?_drop, List.getElem?_drop, List.getElem?_append_right (by rw [List.length_take]; omega), List.length_take, List.getElem?_drop]
    congr 1
    omega
theorem far_cuts {rs : List Rec} (hf : ∀ r ∈ rs, r.fit) (h1 : 1 ≤ rs.length) {cs : List Nat} (l : 80 ≤ cs.length) : cuts rs (cs.take 40 ++ cs.drop (cs.length - 40)) = cuts rs cs := by
  cases rs with
  | nil => cases h1
  | cons r rs =>
    show cuts rs (r.cut _) = cuts rs (r.cut cs)
    rw [far_cut (hf r (List.mem_cons_self ..)) l]
/-- views as they are: rows of fitting shorteners -/
def Vw (ws : List VW) : Prop := ∀ v ∈ ws, (∀ r ∈ v.recs, r.fit) ∧ 1 ≤ v.recs.length
theorem ViewsAt.vw {C : Addr} {H : Hp} {a : Addr} {ws : List VW} (h : ViewsAt C H a ws) : Vw ws := fun v hv => ⟨(h.el v hv).row.fits, by
  unfold VW.recs
  rw [List.length_map]
  exact (h.el v hv).l1⟩
theorem poss_far {ws : List VW} (h : Vw ws) {n : Nat} (hn : 80 ≤ n) (p : Poss ws n) : Poss ws 80 := by
  obtain ⟨cs, rfl, f⟩ := p
  refine ⟨cs.take 40 ++ cs.drop (cs.length - 40), ?_, fun v hv => ?_⟩
  · rw [List.length_append, List.length_take, List.length_drop]
    omega
  · rw [far_cuts (h v hv).1 (h v hv).2 hn]
    exact f v hv
theorem no63 : 63 ∉ signs.cps.toList := by decide +kernel
theorem Knows.val {n p : Nat} {kvs : List (Key × V)} {Pd : List Nat → Prop} (h : Knows n kvs Pd) {v : V} (e : valV kvs (Sum.inl (p : Int)) = some v) : ∃ c, v = .str (one c) ∧ c ∈ signs.cps.toList ∧ p < n := by
  obtain ⟨p', c, ek, hp, rfl, hc⟩ := h.ks _ _ e
  have ek : p = p' := by have := Sum.inl.inj ek; omega
  exact ⟨c, rfl, hc, by omega⟩
/-- told signs agree with a text that fits -/
theorem told_agrees {ws : List VW} {n : Nat} {kvs : List (Key × V)} (k : Knows n kvs (Fits ws)) {cs : List Nat} (l : cs.length = n) (f : Fits ws cs) {i c d : Nat} (hc : cs[i]? = some c) (hd : (wrote kvs 63 n)[i]? = some d) : d = 63 ∨ d = c := by
  have il : i < n := by rw [← l]; exact (List.getElem?_eq_some_iff.mp hc).1
  rw [wrote_at il] at hd
  cases e : valV kvs (Sum.inl (i : Int)) with
  | none =>
    rw [sgn_none e] at hd
    exact .inl (Option.some.inj hd).symm
  | some v =>
    obtain ⟨g, rfl, _, _⟩ := k.val e
    rw [sgn_some e] at hd
    have := (k.iff cs l).mp f i g e
    rw [hc] at this
    exact .inr ((Option.some.inj hd).symm.trans (Option.some.inj this).symm)
/-- a text filled in where it is open -/
theorem filled_fits {ws : List VW} {n : Nat} {kvs : List (Key × V)} (k : Knows n kvs (Fits ws)) {cs : List Nat} (l : cs.length = n) (h : ∀ (i d : Nat), (wrote kvs 63 n)[i]? = some d → d ≠ 63 → cs[i]? = some d) : Fits ws cs := (k.iff cs l).mpr fun p c e => by
  obtain ⟨g, eg, hg, hp⟩ := k.val e
  obtain rfl := one_inj eg
  exact h p c (by rw [wrote_at hp, sgn_some e]) (fun z => no63 (z ▸ hg))
/-- what fewer views know, more views know -/
theorem more_knows {ws us : List VW} {n : Nat} {kvs jvs : List (Key × V)} (k : Knows n kvs (Fits ws)) (j : Knows n jvs (Fits us)) (sub : ∀ cs, Fits ws cs → Fits us cs) {p c : Nat} (e : valV jvs (Sum.inl (p : Int)) = some (.str (one c))) : valV kvs (Sum.inl (p : Int)) = some (.str (one c)) := by
  obtain ⟨_, _, _, hp⟩ := j.val e
  have a : ∀ o, (wrote kvs o n)[p]? = some c := fun o => (j.iff _ (wrote_len ..)).mp (sub _ (wrote_fits k)) p c e
  cases ev : valV kvs (Sum.inl (p : Int)) with
  | none =>
    have a1 := a 46
    have a2 := a 48
    rw [wrote_at hp, sgn_none ev] at a1 a2
    have := (Option.some.inj a1).trans (Option.some.inj a2).symm
    exact absurd this (by decide)
  | some v =>
    obtain ⟨g, rfl, _, _⟩ := k.val ev
    have a1 := a 46
    rw [wrote_at hp, sgn_some ev] at a1
    rw [Option.some.inj a1]
theorem count_le {α : Type} (f g : α → Nat) : ∀ l : List α, (∀ a ∈ l, f a = 63 → g a = 63) → (l.map f).count 63 ≤ (l.map g).count 63
  | [], _ => Nat.le_refl _
  | a :: l, h => by
    have ih := count_le f g l fun b hb => h b (List.mem_cons_of_mem _ hb)
    have ha := h a (List.mem_cons_self ..)
    rw [List.map_cons, List.map_cons, List.count_cons, List.count_cons]
    by_cases e : f a = 63
    · rw [e, ha e]
      omega
    · rw [if_neg (show ¬ (f a == 63) = true by simpa using e)]
      omega
theorem more_count {ws us : List VW} {n : Nat} {kvs jvs : List (Key × V)} (k : Knows n kvs (Fits ws)) (j : Knows n jvs (Fits us)) (sub : ∀ cs, Fits ws cs → Fits us cs) : (wrote kvs 63 n).count 63 ≤ (wrote jvs 63 n).count 63 := by
  unfold wrote
  refine count_le _ _ _ fun p hp h => ?_
  cases e : valV jvs (Sum.inl (p : Int)) with
  | none => exact sgn_none e
  | some v =>
    obtain ⟨c, rfl, hc, _⟩ := j.val e
    rw [sgn_some (more_knows k j sub e)] at h
    exact absurd (h ▸ hc) no63
theorem more_agrees {ws us : List VW} {n : Nat} {kvs jvs : List (Key × V)} (k : Knows n kvs (Fits ws)) (j : Knows n jvs (Fits us)) (sub : ∀ cs, Fits ws cs → Fits us cs) {i c d : Nat} (hc : (wrote kvs 63 n)[i]? = some c) (hd : (wrote jvs 63 n)[i]? = some d) : d = 63 ∨ d = c := by
  have il : i < n := by
    have := (List.getElem?_eq_some_iff.mp hd).1
    rw [wrote_len] at this
    exact this
  rw [wrote_at il] at hc hd
  cases e : valV jvs (Sum.inl (i : Int)) with
  | none =>
    rw [sgn_none e] at hd
    exact .inl (Option.some.inj hd).symm
  | some v =>
    obtain ⟨g, rfl, _, _⟩ := j.val e
    rw [sgn_some e] at hd
    rw [sgn_some (more_knows k j sub e)] at hc
    exact .inr ((Option.some.inj hd).symm.trans (Option.some.inj hc))
/-- texts place by place not greater -/
theorem not_less : ∀ {zs cs : List Nat}, zs.length = cs.length → (∀ (i a b : Nat), zs[i]? = some a → cs[i]? = some b → a ≤ b) → ¬ cs < zs
  | [], [], _, _, h => absurd h (by decide)
  | a :: zs, b :: cs, l, le, h => by
    rw [List.cons_lt_cons_iff] at h
    have ab := le 0 a b rfl rfl
    rcases h with h | ⟨_, h⟩
    · omega
    · exact not_less (by simpa using l) (fun i x y hx hy => le (i + 1) x y hx hy) h
theorem least_le {ws : List VW} {n : Nat} {kvs : List (Key × V)} (k : Knows n kvs (Fits ws)) {cs : List Nat} (l : cs.length = n) (sc : Signs cs) (f : Fits ws cs) : ¬ cs < wrote kvs 46 n := not_less (by rw [wrote_len, l]) fun i a b ha hb => by
  have il : i < n := by rw [← l]; exact (List.getElem?_eq_some_iff.mp hb).1
  rw [wrote_at il] at ha
  cases e : valV kvs (Sum.inl (i : Int)) with
  | none =>
    rw [sgn_none e] at ha
    have := sign_low (sc b (List.mem_of_getElem? hb))
    have := Option.some.inj ha
    omega
  | some v =>
    obtain ⟨g, rfl, _, _⟩ := k.val e
    rw [sgn_some e] at ha
    have := (k.iff cs l).mp f i g e
    rw [hb] at this
    have h1 := Option.some.inj this
    have h2 := Option.some.inj ha
    omega
/-- the only text is this one -/
theorem sole_is {ws : List VW} {n : Nat} {kvs : List (Key × V)} (k : Knows n kvs (Fits ws)) (open0 : 63 ∉ wrote kvs 63 n) {cs : List Nat} (l : cs.length = n) (f : Fits ws cs) : wrote kvs 63 n = cs := by
  refine List.ext_getElem? fun i => ?_
  by_cases il : i < n
  · have hc : cs[i]? = some (cs[i]'(by omega)) := List.getElem?_eq_getElem (by omega)
    have hw : (wrote kvs 63 n)[i]? = some (sgn kvs 63 i) := wrote_at il
    rcases told_agrees k l f hc hw with e | e
    · rw [e] at hw
      exact absurd (List.mem_of_getElem? hw) open0
    · rw [hw, hc, e]
  · rw [List.getElem?_eq_none (by rw [wrote_len]; omega), List.getElem?_eq_none (by omega)]
end Gu
namespace Gu
open PySem PySem.Spec PyProof.Rows L2
theorem cutV_back (xs : List V) (i : Nat) : cutV xs (some (i : Int)) none = xs.drop i := by
  have q := cut_back xs (h := (i : Int)) (by omega)
  rw [Int.toNat_natCast] at q
  exact q
end Gu
namespace Gu
open PySem PySem.Spec PyProof.Rows L2
/-! ### the checker: claims that hold and claims that don't -/
theorem rows_one {K : PySem.W.Frag} {H : Hp} {a : Addr} {ps : List (Addr × Rec)} (h : TRow K H a ps) : ∀ q ∈ [(a, ps)], TRow K H q.1 q.2 := fun q hq => by
  rw [List.mem_singleton.mp hq]
  exact h
theorem rows_two {K : PySem.W.Frag} {H : Hp} {a b : Addr} {ps qs : List (Addr × Rec)} (h : TRow K H a ps) (k : TRow K H b qs) : ∀ q ∈ [(a, ps), (b, qs)], TRow K H q.1 q.2 := fun q hq => by
  rcases List.mem_cons.mp hq with rfl | hq
  · exact h
  · rw [List.mem_singleton.mp hq]
    exact k
theorem at_strs {zs : List Str} {i : Nat} {v : V} (h : (zs.map V.str)[i]? = some v) : ∃ z, zs[i]? = some z ∧ v = .str z := by
  rw [List.getElem?_map] at h
  cases e : zs[i]? with
  | none =>
    rw [e] at h
    cases h
  | some z =>
    rw [e] at h
    exact ⟨z, rfl, (Option.some.inj h).symm⟩
theorem txt_le {z : Str} (h : isTxt z 200 = true) : z.cps.toList.length ≤ 200 := by
  have a := isTxt_len h
  have e : z.length = z.cps.toList.length := rfl
  omega
theorem take_next {α : Type} {qs : List α} {i : Nat} {q : α} (h : qs[i]? = some q) : qs.take (i + 1) = qs.take i ++ [q] := by
  rw [List.take_add_one, h]
  rfl
theorem same_size {ps rs : List (Addr × Rec)} (e : rs.map (·.2) = ps.map (·.2)) : rs.length = ps.length := by
  have := congrArg List.length e
  rw [List.length_map, List.length_map] at this
  exact this
theorem isa_tup_str {K : PySem.W.Frag} {H : Hp} {l : Addr} {xs : List V} (h : SqT K H l xs) : Isa K H (.ref l) "str" false := by
  rcases h with (h | ⟨o, h⟩) | ⟨o, its, n, e, c, _⟩
  · exact ⟨_, .base (.tup h), kit_ty (by decide +kernel)⟩
  · exact ⟨_, .fTuple h, kit_ty (by decide +kernel)⟩
  · exact ⟨_, .kTuple e c, kit_ty (by decide +kernel)⟩
theorem row_dbl {C : Addr} {H G : Hp} {a b : Addr} {rs : List (Addr × Rec)} (h : RowAt C H a rs) (s : Same H G) (e : G b = some (.tup ((rs.map fun q => V.ref q.1) ++ rs.map fun q => V.ref q.1))) : RowAt C G b (rs ++ rs) := ⟨by rw [List.map_append]; exact e, fun q hq => by
  rcases List.mem_append.mp hq with hq | hq
  · exact ⟨(h.sh q hq).1.same s, (h.sh q hq).2⟩
  · exact ⟨(h.sh q hq).1.same s, (h.sh q hq).2⟩⟩
def isNonB : V → Bool
  | .non => true
  | _ => false
theorem Told.nonB {rs ss : List Rec} {v : V} (h : Told rs ss v) : decide (v = .non) = isNonB v := by
  rcases h with ⟨rfl, _⟩ | ⟨n, y, rfl, _⟩
  · exact decide_eq_true rfl
  · exact decide_eq_false (by intro z; cases z)
section
variable {P : Program} {w : World} {K : PySem.W.Frag} {mg : Str → Option Value} {base : Heap} {C : Addr}
def spTrueQ (K : PySem.W.Frag) : Sp := fun vs H Q _ => ∃ (p : Addr) (qs : List (Addr × List (Addr × Rec))), vs = [.ref p, .int (qs.length : Int)] ∧ SqT K H p (qs.map fun q => V.ref q.1) ∧ (∀ q ∈ qs, TRow K H q.1 q.2) ∧ qs.length ≤ 4 ∧ ∀ G, Same H G → Q (.bl true) G
theorem cal_areToldQ (B : Bi mg) (D : At K mg "are_told_rows" s_are_told_rows ps_are_told_rows) (C_is_told_row : Cal P w K mg base 3 "is_told_row" ps_is_told_row (spTrueR K)) : Cal P w K mg base 4 "are_told_rows" ps_are_told_rows (spTrueQ K) := by
  refine D.cal sc_are_told_rows (fun vs H Q E h => ?_) (fun f cdv A outer s H vs Q E hr h => ?_)
  · obtain ⟨p, qs, rfl, _⟩ := h
    rfl
  · obtain ⟨p, qs, rfl, hp, hT, ql, k⟩ := h
    refine ⟨_, (pss_one (ps_ret (pe_and (pe_cmpR op_eq (pe_callB call_len (by rfl) B.len (by decide +kernel) (pa_cons (pv 0) pa_nil)) (pv 1) (nomark _)) (pe_one (pe_callB (cr_all rfl) (by rfl) B.all (by decide +kernel) (pa_cons (pe_lc (own := [("part", 2)]) (by rfl) sc_are_told_rows.nd (pi_tup (pv 0)) (blkOk_by (own := [("part", 2)]) (N := ["parts", "many", "part"]) (sc := defScope s_are_told_rows) (by decide +kernel)) (fun _ _ _ _ _ => pg_name (i := 2) sc_are_told_rows.nd rfl (.inl rfl)) (fun _ _ _ _ _ => pts_nil) (fun _ _ _ _ _ => (pe_own C_is_told_row hr (by decide) (by rfl) (pa_cons (pv 2) pa_nil)))) pa_nil)))))), ?_⟩
    refine ⟨_, rfl, _, _, rfl, .inr ⟨_, hp, rfl⟩, _, rfl, rfl, _, rfl, ?_⟩
    rw [List.length_map, decide_eq_true rfl]
    refine iteT ⟨_, rfl, p, rfl, ⟨_, hp⟩, fun M nM => lc_tup (K := K) (a := p) (xs := qs.map fun q => V.ref q.1) (fun i J => J M = some (.lst ((List.replicate i true).map V.bl)) ∧ Same H J)
      ⟨upd_same, same_new nM⟩ (fun i J _ ⟨_, sJ⟩ => stH sJ hp) ?_ ?_⟩
    · rintro i v J hi ⟨eM, sJ⟩
      rw [List.getElem?_map] at hi
      cases hq : qs[i]? with
      | none =>
        rw [hq] at hi
        cases hi
      | some q =>
        rw [hq] at hi
        cases hi
        have il := (List.getElem?_eq_some_iff.mp hq).1
        refine ⟨rfl, yes (iteT ⟨_, rfl, q.1, q.2, rfl, (hT q (List.mem_of_getElem? hq)).same sJ, fun G sG => ⟨_, sG _ _ eM, small1000 (by rw [List.length_map, List.length_replicate]; omega), ?_, offT (sJ.trans sG) nM⟩⟩)⟩
        rw [upd_same, List.replicate_succ', List.map_append]
        rfl
    rintro J ⟨eM, sJ⟩
    refine ⟨M, _, rfl, .inl (.inl eM), ?_⟩
    rw [all_true]
    exact k J sJ
/-- a pair of any two texts -/
def spPairG (K : PySem.W.Frag) : Sp := fun vs H Q _ => ∃ (p : Addr) (y z : Str), vs = [.ref p] ∧ SqT K H p [.str y, .str z] ∧ y.length ≤ 1000 ∧ z.length ≤ 1000 ∧ ∀ G, Same H G → Q (.bl (decide (isTxt y 200 = true ∧ isTxt z 200 = true ∧ y ≠ z))) G
theorem cal_isPairG (B : Bi mg) (D : At K mg "is_pair_of_texts" s_is_pair_of_texts ps_is_pair_of_texts) (C_is_tuple : Cal P w K mg base 1 "is_tuple" ps_is_tuple (spIsTuple K)) (C_is_text : Cal P w K mg base 1 "is_text" ps_is_text (spIsText K)) : Cal P w K mg base 2 "is_pair_of_texts" ps_is_pair_of_texts (spPairG K) := by
  refine D.cal sc_is_pair_of_texts (fun vs H Q E h => ?_) (fun f cdv A outer s H vs Q E hr h => ?_)
  · obtain ⟨p, y, z, rfl, _⟩ := h
    rfl
  · obtain ⟨p, y, z, rfl, hp, yl, zl, k⟩ := h
    refine ⟨_, (pss_one (ps_ret (pe_and (pe_own C_is_tuple hr (by decide) (by rfl) (pa_cons (pv 0) (pa_cons pe_int (pa_cons pe_int pa_nil)))) (pe_and (pe_callB (cr_all rfl) (by rfl) B.all (by decide +kernel) (pa_cons (pe_lc (own := [("part", 1)]) (by rfl) sc_is_pair_of_texts.nd (pi_tup (pv 0)) (blkOk_by (own := [("part", 1)]) (N := ["value", "part"]) (sc := defScope s_is_pair_of_texts) (by decide +kernel)) (fun _ _ _ _ _ => pg_name (i := 1) sc_is_pair_of_texts.nd rfl (.inl rfl)) (fun _ _ _ _ _ => pts_nil) (fun _ _ _ _ _ => (pe_own C_is_text hr (by decide) (by rfl) (pa_cons (pv 1) (pa_cons (pe_cst B.MOST_TEXT (by rfl)) pa_nil))))) pa_nil)) (pe_one (pe_cmpR op_ne (pe_ix ix_tup (pv 0) pe_int (fun _ _ => rfl)) (pe_ix ix_tup (pv 0) pe_int (fun _ _ => rfl)) (nomark _))))))), ?_⟩
    refine ⟨_, rfl, _, _, _, rfl, .inl ⟨p, _, rfl, hp, _, rfl, iteT ?_⟩⟩
    refine ⟨_, rfl, p, rfl, ⟨_, hp⟩, fun M nM => lc_tup (K := K) (a := p) (xs := [y, z].map V.str) (fun i J => J M = some (.lst ((([y, z].take i).map fun x => isTxt x 200).map V.bl)) ∧ Same H J)
      ⟨upd_same, same_new nM⟩ (fun i J _ ⟨_, sJ⟩ => stH sJ hp) ?_ ?_⟩
    · rintro i v J hi ⟨eM, sJ⟩
      obtain ⟨x, hx, rfl⟩ := at_strs hi
      have il : i < 2 := (List.getElem?_eq_some_iff.mp hx).1
      have xl : x.length ≤ 1000 := by
        have hv := List.mem_of_getElem? hx
        simp only [List.mem_cons, List.not_mem_nil, or_false] at hv
        rcases hv with rfl | rfl
        · exact yl
        · exact zl
      refine ⟨rfl, yes (iteT ⟨_, rfl, _, _, rfl, .inl ⟨x, rfl, xl, fun G sG => ?_⟩⟩)⟩
      refine ⟨_, sG _ _ eM, small1000 (by rw [List.length_map, List.length_map, List.length_take]; omega), ?_, offT (sJ.trans sG) nM⟩
      rw [upd_same, take_next hx, List.map_append, List.map_append]
      rfl
    rintro J ⟨eM, sJ⟩
    refine ⟨M, _, rfl, .inl (.inl eM), _, rfl, ?_⟩
    have kk := k J sJ
    show if (isTxt y 200 && (isTxt z 200 && true)) = true then _ else _
    cases hy : isTxt y 200 with
    | false =>
      rw [hy, decide_eq_false (fun h => by cases h.1)] at kk
      exact iteF kk
    | true =>
      cases hz : isTxt z 200 with
      | false =>
        rw [hz, decide_eq_false (fun h => by cases h.2.1)] at kk
        exact iteF kk
      | true =>
        rw [hy, hz] at kk
        refine iteT ⟨_, rfl, p, _, _, _, rfl, rfl, stH sJ hp, (rfl : atI [V.str y, V.str z] 0 = some (V.str y)), _, rfl, p, _, _, _, rfl, rfl, stH sJ hp, (rfl : atI [V.str y, V.str z] 1 = some (V.str z)), rfl, ?_⟩
        have e : (!decide (V.str y = V.str z)) = decide (true = true ∧ true = true ∧ y ≠ z) := by
          by_cases q : y = z
          · rw [decide_eq_true (show V.str y = V.str z by rw [q]), decide_eq_false (fun h => h.2.2 q)]
            rfl
          · rw [decide_eq_false (fun h => q (V.str.inj h)), decide_eq_true ⟨rfl, rfl, q⟩]
            rfl
        rw [← e] at kk
        exact kk
def spConfG (K : PySem.W.Frag) : Sp := fun vs H Q _ => ∃ (p a t : Addr) (ps : List (Addr × Rec)) (y z : Str), vs = [.ref p, .ref t] ∧ SqT K H p [.ref a] ∧ TRow K H a ps ∧ SqT K H t [.str y, .str z] ∧ y.length ≤ 600 ∧ z.length ≤ 600 ∧
  ∀ G, Same H G → Q (.bl (decide ((isTxt y 200 = true ∧ isTxt z 200 = true ∧ y ≠ z) ∧ cuts (ps.map (·.2)) y.cps.toList = cuts (ps.map (·.2)) z.cps.toList))) G
theorem cal_confG (B : Bi mg) (D : At K mg "confused_holds" s_confused_holds ps_confused_holds) (C_are_told_rows : Cal P w K mg base 4 "are_told_rows" ps_are_told_rows (spTrueQ K)) (C_is_pair_of_texts : Cal P w K mg base 2 "is_pair_of_texts" ps_is_pair_of_texts (spPairG K)) (C_row_of : Cal P w K mg base 5 "row_of" ps_row_of (spRowOf K C)) (C_shown_by : Cal P w K mg base 2 "shown_by" ps_shown_by (spShownBy C)) : Cal P w K mg base 6 "confused_holds" ps_confused_holds (spConfG K) := by
  refine D.cal sc_confused_holds (fun vs H Q E h => ?_) (fun f cdv A outer s H vs Q E hr h => ?_)
  · obtain ⟨p, a, t, ps, y, z, rfl, _⟩ := h
    rfl
  · obtain ⟨p, a, t, ps, y, z, rfl, hp, hT, ht, yl, zl, k⟩ := h
    refine ⟨_, (pss_cons (ps_if (PW.pt (pw_or (pt_not (pt_val (pe_own C_are_told_rows hr (by decide) (by rfl) (pa_cons (pv 0) (pa_cons pe_int pa_nil))))) (pw_or1 (pt_not (pt_val (pe_own C_is_pair_of_texts hr (by decide) (by rfl) (pa_cons (pv 1) pa_nil))))))) (pss_one (ps_ret pe_bl)) pss_nil)
      (pss_cons (ps_set (i := 2) sc_confused_holds.nd rfl (.inl rfl) (pe_own C_row_of hr (by decide) (by rfl) (pa_cons (pe_ix ix_tup (pv 0) pe_int (fun _ _ => rfl)) pa_nil)))
      (pss_one (ps_ret (pe_cmpR op_eq (pe_own C_shown_by hr (by decide) (by rfl) (pa_cons (pv 2) (pa_cons (pe_ix ix_tup (pv 1) pe_int (fun _ _ => rfl)) pa_nil))) (pe_own C_shown_by hr (by decide) (by rfl) (pa_cons (pv 2) (pa_cons (pe_ix ix_tup (pv 1) pe_int (fun _ _ => rfl)) pa_nil))) (nomark _)))))), ?_⟩
    refine ⟨_, rfl, p, [(a, ps)], rfl, hp, rows_one hT, by show 1 ≤ 4; decide, fun G1 s1 => ⟨_, rfl, iteF ?_⟩⟩
    refine ⟨_, rfl, t, y, z, rfl, stH s1 ht, by omega, by omega, fun G2 s2 => ⟨_, rfl, ?_⟩⟩
    by_cases e : isTxt y 200 = true ∧ isTxt z 200 = true ∧ y ≠ z
    · rw [decide_eq_true e]
      have s12 := s1.trans s2
      refine iteF ⟨_, rfl, p, _, _, _, rfl, rfl, stH s12 hp, (rfl : atI [V.ref a] 0 = some (V.ref a)), a, ps, rfl, hT.same s12, fun R G3 rs hR er s3 => ?_⟩
      have ht3 := stH (s12.trans s3) ht
      refine ⟨_, rfl, _, rfl, t, _, _, _, rfl, rfl, ht3, (rfl : atI [V.str y, V.str z] 0 = some (V.str y)), R, rs, y, rfl, hR, yl, fun y1 e1 => ?_⟩
      refine ⟨_, rfl, _, rfl, t, _, _, _, rfl, rfl, ht3, (rfl : atI [V.str y, V.str z] 1 = some (V.str z)), R, rs, z, rfl, hR, zl, fun z1 e2 => ⟨rfl, ?_⟩⟩
      rw [er] at e1 e2
      have q : decide (V.str y1 = V.str z1) = decide ((isTxt y 200 = true ∧ isTxt z 200 = true ∧ y ≠ z) ∧ cuts (ps.map (·.2)) y.cps.toList = cuts (ps.map (·.2)) z.cps.toList) := decide_eq_decide.mpr ⟨fun h => ⟨e, by rw [← e1, ← e2, V.str.inj h]⟩, fun h => by rw [str_ext (e1.trans (h.2.trans e2.symm))]⟩
      rw [q]
      exact k _ (s12.trans s3)
    · rw [decide_eq_false e]
      rw [decide_eq_false (fun h => e h.1)] at k
      exact iteT (k _ (s1.trans s2))
/-- alike, stable: the paper is empty -/
def spAlikeH (K : PySem.W.Frag) : Sp := fun vs H Q _ => ∃ (p a b t : Addr) (ps qs : List (Addr × Rec)), vs = [.ref p, .ref t] ∧ SqT K H p [.ref a, .ref b] ∧ TRow K H a ps ∧ TRow K H b qs ∧ SqT K H t [] ∧ ∀ (v : V) (G : Hp), Same H G → Told (ps.map (·.2)) (qs.map (·.2)) v → Q (.bl (isNonB v)) G
theorem cal_alikeH (B : Bi mg) (D : At K mg "alike_holds" s_alike_holds ps_alike_holds) (C_is_tuple : Cal P w K mg base 1 "is_tuple" ps_is_tuple (spIsTuple K)) (C_are_told_rows : Cal P w K mg base 4 "are_told_rows" ps_are_told_rows (spTrueQ K)) (C_row_of : Cal P w K mg base 5 "row_of" ps_row_of (spRowOf K C)) (C_first_difference : Cal P w K mg base 3 "first_difference" ps_first_difference (spFirstD C)) : Cal P w K mg base 6 "alike_holds" ps_alike_holds (spAlikeH K) := by
  refine D.cal sc_alike_holds (fun vs H Q E h => ?_) (fun f cdv A outer s H vs Q E hr h => ?_)
  · obtain ⟨p, a, b, t, ps, qs, rfl, _⟩ := h
    rfl
  · obtain ⟨p, a, b, t, ps, qs, rfl, hp, ha, hb, ht, k⟩ := h
    refine ⟨_, (pss_cons (ps_if (PW.pt (pw_or (pt_not (pt_val (pe_own C_are_told_rows hr (by decide) (by rfl) (pa_cons (pv 0) (pa_cons pe_int pa_nil))))) (pw_or1 (pt_not (pt_val (pe_own C_is_tuple hr (by decide) (by rfl) (pa_cons (pv 1) (pa_cons pe_int (pa_cons pe_int pa_nil))))))))) (pss_one (ps_ret pe_bl)) pss_nil)
      (pss_one (ps_ret (pe_cmpR op_isN (pe_own C_first_difference hr (by decide) (by rfl) (pa_cons (pe_own C_row_of hr (by decide) (by rfl) (pa_cons (pe_ix ix_tup (pv 0) pe_int (fun _ _ => rfl)) pa_nil)) (pa_cons (pe_own C_row_of hr (by decide) (by rfl) (pa_cons (pe_ix ix_tup (pv 0) pe_int (fun _ _ => rfl)) pa_nil)) pa_nil))) pe_non (nomark _))))), ?_⟩
    refine ⟨_, rfl, p, [(a, ps), (b, qs)], rfl, hp, rows_two ha hb, by show 2 ≤ 4; decide, fun G1 s1 => ⟨_, rfl, iteF ?_⟩⟩
    refine ⟨_, rfl, _, _, _, rfl, .inl ⟨t, _, rfl, stH s1 ht, _, rfl, iteF ?_⟩⟩
    refine ⟨_, rfl, p, _, _, _, rfl, rfl, stH s1 hp, (rfl : atI [V.ref a, V.ref b] 0 = some (V.ref a)), a, ps, rfl, ha.same s1, fun R G2 rs hR er s2 => ?_⟩
    have s12 := s1.trans s2
    refine ⟨_, rfl, p, _, _, _, rfl, rfl, stH s12 hp, (rfl : atI [V.ref a, V.ref b] 1 = some (V.ref b)), b, qs, rfl, hb.same s12, fun S G3 ss hS es s3 => ?_⟩
    have l1 := same_size er
    have l2 := same_size es
    have a1 := ha.l1
    have b1 := hb.l1
    refine ⟨R, S, rs, ss, rfl, hR.same s3, hS, by omega, by omega, fun v G4 s4 tv => ⟨rfl, ?_⟩⟩
    rw [er, es] at tv
    rw [tv.nonB]
    exact k v G4 (s12.trans (s3.trans s4)) tv
def spStableH (K : PySem.W.Frag) : Sp := fun vs H Q _ => ∃ (p a t : Addr) (ps : List (Addr × Rec)), vs = [.ref p, .ref t] ∧ SqT K H p [.ref a] ∧ TRow K H a ps ∧ SqT K H t [] ∧ ∀ (v : V) (G : Hp), Same H G → Told (ps.map (·.2)) (ps.map (·.2) ++ ps.map (·.2)) v → Q (.bl (isNonB v)) G
theorem cal_stableH (B : Bi mg) (D : At K mg "stable_holds" s_stable_holds ps_stable_holds) (C_is_tuple : Cal P w K mg base 1 "is_tuple" ps_is_tuple (spIsTuple K)) (C_are_told_rows : Cal P w K mg base 4 "are_told_rows" ps_are_told_rows (spTrueQ K)) (C_row_of : Cal P w K mg base 5 "row_of" ps_row_of (spRowOf K C)) (C_first_difference : Cal P w K mg base 3 "first_difference" ps_first_difference (spFirstD C)) : Cal P w K mg base 6 "stable_holds" ps_stable_holds (spStableH K) := by
  refine D.cal sc_stable_holds (fun vs H Q E h => ?_) (fun f cdv A outer s H vs Q E hr h => ?_)
  · obtain ⟨p, a, t, ps, rfl, _⟩ := h
    rfl
  · obtain ⟨p, a, t, ps, rfl, hp, ha, ht, k⟩ := h
    refine ⟨_, (pss_cons (ps_if (PW.pt (pw_or (pt_not (pt_val (pe_own C_are_told_rows hr (by decide) (by rfl) (pa_cons (pv 0) (pa_cons pe_int pa_nil))))) (pw_or1 (pt_not (pt_val (pe_own C_is_tuple hr (by decide) (by rfl) (pa_cons (pv 1) (pa_cons pe_int (pa_cons pe_int pa_nil))))))))) (pss_one (ps_ret pe_bl)) pss_nil)
      (pss_cons (ps_set (i := 2) sc_stable_holds.nd rfl (.inl rfl) (pe_own C_row_of hr (by decide) (by rfl) (pa_cons (pe_ix ix_tup (pv 0) pe_int (fun _ _ => rfl)) pa_nil)))
      (pss_one (ps_ret (pe_cmpR op_isN (pe_own C_first_difference hr (by decide) (by rfl) (pa_cons (pv 2) (pa_cons (pe_op op_catA (pv 2) (pv 2)) pa_nil))) pe_non (nomark _)))))), ?_⟩
    refine ⟨_, rfl, p, [(a, ps)], rfl, hp, rows_one ha, by show 1 ≤ 4; decide, fun G1 s1 => ⟨_, rfl, iteF ?_⟩⟩
    refine ⟨_, rfl, _, _, _, rfl, .inl ⟨t, _, rfl, stH s1 ht, _, rfl, iteF ?_⟩⟩
    refine ⟨_, rfl, p, _, _, _, rfl, rfl, stH s1 hp, (rfl : atI [V.ref a] 0 = some (V.ref a)), a, ps, rfl, ha.same s1, fun R G2 rs hR er s2 => ?_⟩
    have l1 := same_size er
    have a1 := ha.l1
    have a4 := ha.l4
    refine ⟨_, rfl, _, rfl, _, rfl, cat_ok hR.tp hR.tp (Nat.le_of_lt (small1000 (by rw [List.length_map]; omega))) fun U G3 s3 eU => ?_⟩
    refine ⟨R, U, rs, rs ++ rs, rfl, hR.same s3, row_dbl hR s3 eU, by omega, by rw [List.length_append]; omega, fun v G4 s4 tv => ⟨rfl, ?_⟩⟩
    rw [List.map_append, er] at tv
    rw [tv.nonB]
    exact k v G4 (s1.trans (s2.trans (s3.trans s4))) tv
/-- unlike, unstable: the paper is a text, or not -/
def spUnlikeH (K : PySem.W.Frag) : Sp := fun vs H Q _ => ∃ (p a b : Addr) (ps qs : List (Addr × Rec)) (x : V), vs = [.ref p, x] ∧ SqT K H p [.ref a, .ref b] ∧ TRow K H a ps ∧ TRow K H b qs ∧
  ((∃ y : Str, x = .str y ∧ y.length ≤ 600 ∧ ∀ G, Same H G → Q (.bl (decide (isTxt y 200 = true ∧ cuts (ps.map (·.2)) y.cps.toList ≠ cuts (qs.map (·.2)) y.cps.toList))) G) ∨ (∃ t, x = .ref t ∧ SqT K H t [] ∧ ∀ G, Same H G → Q (.bl false) G))
theorem cal_unlikeH (B : Bi mg) (D : At K mg "unlike_holds" s_unlike_holds ps_unlike_holds) (C_is_text : Cal P w K mg base 1 "is_text" ps_is_text (spIsText K)) (C_are_told_rows : Cal P w K mg base 4 "are_told_rows" ps_are_told_rows (spTrueQ K)) (C_row_of : Cal P w K mg base 5 "row_of" ps_row_of (spRowOf K C)) (C_shown_by : Cal P w K mg base 2 "shown_by" ps_shown_by (spShownBy C)) : Cal P w K mg base 6 "unlike_holds" ps_unlike_holds (spUnlikeH K) := by
  refine D.cal sc_unlike_holds (fun vs H Q E h => ?_) (fun f cdv A outer s H vs Q E hr h => ?_)
  · obtain ⟨p, a, b, ps, qs, x, rfl, _⟩ := h
    rfl
  · obtain ⟨p, a, b, ps, qs, x, rfl, hp, ha, hb, k⟩ := h
    refine ⟨_, (pss_cons (ps_if (PW.pt (pw_or (pt_not (pt_val (pe_own C_are_told_rows hr (by decide) (by rfl) (pa_cons (pv 0) (pa_cons pe_int pa_nil))))) (pw_or1 (pt_not (pt_val (pe_own C_is_text hr (by decide) (by rfl) (pa_cons (pv 1) (pa_cons (pe_cst B.MOST_TEXT (by rfl)) pa_nil)))))))) (pss_one (ps_ret pe_bl)) pss_nil)
      (pss_one (ps_ret (pe_cmpR op_ne (pe_own C_shown_by hr (by decide) (by rfl) (pa_cons (pe_own C_row_of hr (by decide) (by rfl) (pa_cons (pe_ix ix_tup (pv 0) pe_int (fun _ _ => rfl)) pa_nil)) (pa_cons (pv 1) pa_nil))) (pe_own C_shown_by hr (by decide) (by rfl) (pa_cons (pe_own C_row_of hr (by decide) (by rfl) (pa_cons (pe_ix ix_tup (pv 0) pe_int (fun _ _ => rfl)) pa_nil)) (pa_cons (pv 1) pa_nil))) (nomark _))))), ?_⟩
    refine ⟨_, rfl, p, [(a, ps), (b, qs)], rfl, hp, rows_two ha hb, by show 2 ≤ 4; decide, fun G1 s1 => ⟨_, rfl, iteF ?_⟩⟩
    rcases k with ⟨y, rfl, yl, k⟩ | ⟨t, rfl, ht, k⟩
    · have yc : y.cps.toList.length ≤ 600 := yl
      refine ⟨_, rfl, _, _, rfl, .inl ⟨y, rfl, by omega, fun G2 s2 => ⟨_, rfl, ?_⟩⟩⟩
      have s12 := s1.trans s2
      cases e : isTxt y 200 with
      | false =>
        rw [e, decide_eq_false (fun h => by cases h.1)] at k
        exact iteT (k _ s12)
      | true =>
        refine iteF ⟨_, rfl, p, _, _, _, rfl, rfl, stH s12 hp, (rfl : atI [V.ref a, V.ref b] 0 = some (V.ref a)), a, ps, rfl, ha.same s12, fun R G3 rs hR er s3 => ?_⟩
        refine ⟨_, rfl, R, rs, y, rfl, hR, yc, fun y1 e1 => ?_⟩
        have s13 := s12.trans s3
        refine ⟨_, rfl, p, _, _, _, rfl, rfl, stH s13 hp, (rfl : atI [V.ref a, V.ref b] 1 = some (V.ref b)), b, qs, rfl, hb.same s13, fun S G4 ss hS es s4 => ?_⟩
        refine ⟨_, rfl, S, ss, y, rfl, hS, yc, fun z1 e2 => ⟨rfl, ?_⟩⟩
        rw [er] at e1
        rw [es] at e2
        have q : (!decide (V.str y1 = V.str z1)) = decide (isTxt y 200 = true ∧ cuts (ps.map (·.2)) y.cps.toList ≠ cuts (qs.map (·.2)) y.cps.toList) := by
          by_cases q : cuts (ps.map (·.2)) y.cps.toList = cuts (qs.map (·.2)) y.cps.toList
          · rw [decide_eq_true (show V.str y1 = V.str z1 by rw [str_ext (e1.trans (q.trans e2.symm))]), decide_eq_false (fun h => h.2 q)]
            rfl
          · rw [decide_eq_false (fun h => q (by rw [← e1, ← e2, V.str.inj h])), decide_eq_true ⟨e, q⟩]
            rfl
        rw [q]
        exact k _ (s13.trans s4)
    · refine ⟨_, rfl, _, _, rfl, .inr ⟨isa_tup_str (stH s1 ht), _, rfl, iteT (k _ s1)⟩⟩
def spUnstableH (K : PySem.W.Frag) : Sp := fun vs H Q _ => ∃ (p a : Addr) (ps : List (Addr × Rec)) (y : Str), vs = [.ref p, .str y] ∧ SqT K H p [.ref a] ∧ TRow K H a ps ∧ y.length ≤ 600 ∧
  ∀ G, Same H G → Q (.bl (decide (isTxt y 200 = true ∧ cuts (ps.map (·.2)) (cuts (ps.map (·.2)) y.cps.toList) ≠ cuts (ps.map (·.2)) y.cps.toList))) G
theorem cal_unstableH (B : Bi mg) (D : At K mg "unstable_holds" s_unstable_holds ps_unstable_holds) (C_is_text : Cal P w K mg base 1 "is_text" ps_is_text (spIsText K)) (C_are_told_rows : Cal P w K mg base 4 "are_told_rows" ps_are_told_rows (spTrueQ K)) (C_row_of : Cal P w K mg base 5 "row_of" ps_row_of (spRowOf K C)) (C_shown_by : Cal P w K mg base 2 "shown_by" ps_shown_by (spShownBy C)) : Cal P w K mg base 6 "unstable_holds" ps_unstable_holds (spUnstableH K) := by
  refine D.cal sc_unstable_holds (fun vs H Q E h => ?_) (fun f cdv A outer s H vs Q E hr h => ?_)
  · obtain ⟨p, a, ps, y, rfl, _⟩ := h
    rfl
  · obtain ⟨p, a, ps, y, rfl, hp, ha, yl, k⟩ := h
    have yc : y.cps.toList.length ≤ 600 := yl
    refine ⟨_, (pss_cons (ps_if (PW.pt (pw_or (pt_not (pt_val (pe_own C_are_told_rows hr (by decide) (by rfl) (pa_cons (pv 0) (pa_cons pe_int pa_nil))))) (pw_or1 (pt_not (pt_val (pe_own C_is_text hr (by decide) (by rfl) (pa_cons (pv 1) (pa_cons (pe_cst B.MOST_TEXT (by rfl)) pa_nil)))))))) (pss_one (ps_ret pe_bl)) pss_nil)
      (pss_cons (ps_set (i := 2) sc_unstable_holds.nd rfl (.inl rfl) (pe_own C_row_of hr (by decide) (by rfl) (pa_cons (pe_ix ix_tup (pv 0) pe_int (fun _ _ => rfl)) pa_nil)))
      (pss_cons (ps_set (i := 3) sc_unstable_holds.nd rfl (.inl rfl) (pe_own C_shown_by hr (by decide) (by rfl) (pa_cons (pv 2) (pa_cons (pv 1) pa_nil))))
      (pss_one (ps_ret (pe_cmpR op_ne (pe_own C_shown_by hr (by decide) (by rfl) (pa_cons (pv 2) (pa_cons (pv 3) pa_nil))) (pv 3) (nomark _))))))), ?_⟩
    refine ⟨_, rfl, p, [(a, ps)], rfl, hp, rows_one ha, by show 1 ≤ 4; decide, fun G1 s1 => ⟨_, rfl, iteF ?_⟩⟩
    refine ⟨_, rfl, _, _, rfl, .inl ⟨y, rfl, by omega, fun G2 s2 => ⟨_, rfl, ?_⟩⟩⟩
    have s12 := s1.trans s2
    cases e : isTxt y 200 with
    | false =>
      rw [e, decide_eq_false (fun h => by cases h.1)] at k
      exact iteT (k _ s12)
    | true =>
      refine iteF ⟨_, rfl, p, _, _, _, rfl, rfl, stH s12 hp, (rfl : atI [V.ref a] 0 = some (V.ref a)), a, ps, rfl, ha.same s12, fun R G3 rs hR er s3 => ?_⟩
      refine ⟨_, rfl, _, rfl, R, rs, y, rfl, hR, yc, fun y1 e1 => ?_⟩
      have y1l : y1.cps.toList.length ≤ 600 := by
        rw [e1]
        exact Nat.le_trans (cuts_len _ hR.fits (txt_le e)) (by decide)
      refine ⟨_, rfl, _, rfl, R, rs, y1, rfl, hR, y1l, fun z1 e2 => ⟨_, rfl, rfl, ?_⟩⟩
      rw [er] at e1 e2
      have q : (!decide (V.str z1 = V.str y1)) = decide (isTxt y 200 = true ∧ cuts (ps.map (·.2)) (cuts (ps.map (·.2)) y.cps.toList) ≠ cuts (ps.map (·.2)) y.cps.toList) := by
        rw [← e1]
        by_cases q : cuts (ps.map (·.2)) y1.cps.toList = y1.cps.toList
        · rw [decide_eq_true (show V.str z1 = V.str y1 by rw [str_ext (e2.trans q)]), decide_eq_false (fun h => h.2 q)]
          rfl
        · rw [decide_eq_false (fun h => q (by rw [← e2, V.str.inj h])), decide_eq_true ⟨e, q⟩]
          rfl
      rw [q]
      exact k _ (s12.trans s3)
/-- the parts of a claim about a shown text -/
def spShownP (K : PySem.W.Frag) : Sp := fun vs H Q _ => ∃ (p a : Addr) (ps : List (Addr × Rec)) (y : Str) (n : Nat), vs = [.ref p] ∧ SqT K H p [.ref a, .str y, .int (n : Int)] ∧ TRow K H a ps ∧ isTxt y 200 = true ∧ n ≤ 500 ∧ ∀ G, Same H G → Q (.bl true) G
theorem cal_shownP (B : Bi mg) (D : At K mg "are_shown_parts" s_are_shown_parts ps_are_shown_parts) (C_is_text : Cal P w K mg base 1 "is_text" ps_is_text (spIsText K)) (C_is_integer : Cal P w K mg base 1 "is_integer" ps_is_integer (spIsInteger K)) (C_is_told_row : Cal P w K mg base 3 "is_told_row" ps_is_told_row (spTrueR K)) : Cal P w K mg base 4 "are_shown_parts" ps_are_shown_parts (spShownP K) := by
  refine D.cal sc_are_shown_parts (fun vs H Q E h => ?_) (fun f cdv A outer s H vs Q E hr h => ?_)
  · obtain ⟨p, a, ps, y, n, rfl, _⟩ := h
    rfl
  · obtain ⟨p, a, ps, y, n, rfl, hp, ha, ty, n5, k⟩ := h
    have yl := isTxt_len ty
    refine ⟨_, (pss_cons (ps_if (pt_cmpR op_ne (pe_callB call_len (by rfl) B.len (by decide +kernel) (pa_cons (pv 0) pa_nil)) pe_int (nomark _)) (pss_one (ps_ret pe_bl)) pss_nil)
      (pss_one (ps_ret (pe_and (pe_own C_is_told_row hr (by decide) (by rfl) (pa_cons (pe_ix ix_tup (pv 0) pe_int (fun _ _ => rfl)) pa_nil)) (pe_and (pe_own C_is_text hr (by decide) (by rfl) (pa_cons (pe_ix ix_tup (pv 0) pe_int (fun _ _ => rfl)) (pa_cons (pe_cst B.MOST_TEXT (by rfl)) pa_nil))) (pe_one (pe_own C_is_integer hr (by decide) (by rfl) (pa_cons (pe_ix ix_tup (pv 0) pe_int (fun _ _ => rfl)) (pa_cons pe_int (pa_cons (pe_cst B.MOST_LENGTH (by rfl)) pa_nil)))))))))), ?_⟩
    refine ⟨_, rfl, _, _, rfl, .inr ⟨_, hp, rfl⟩, rfl, _, rfl, iteF ?_⟩
    refine ⟨_, rfl, p, _, _, _, rfl, rfl, hp, (rfl : atI [V.ref a, V.str y, V.int (n : Int)] 0 = some (V.ref a)), a, ps, rfl, ha, fun G1 s1 => ⟨_, rfl, iteT ?_⟩⟩
    refine ⟨_, rfl, p, _, _, _, rfl, rfl, stH s1 hp, (rfl : atI [V.ref a, V.str y, V.int (n : Int)] 1 = some (V.str y)), _, _, rfl, .inl ⟨y, rfl, by omega, fun G2 s2 => ⟨_, rfl, ?_⟩⟩⟩
    rw [ty]
    have s12 := s1.trans s2
    refine iteT ⟨_, rfl, p, _, _, _, rfl, rfl, stH s12 hp, (rfl : atI [V.ref a, V.str y, V.int (n : Int)] 2 = some (V.int (n : Int))), _, _, _, rfl, .inl ⟨_, rfl, ?_⟩⟩
    rw [decide_eq_true (show (0 : Int) ≤ (n : Int) ∧ (n : Int) ≤ 500 by omega)]
    exact k _ s12
def spPossH (K : PySem.W.Frag) : Sp := fun vs H Q _ => ∃ (p a : Addr) (ps : List (Addr × Rec)) (y z : Str) (n : Nat), vs = [.ref p, .str z] ∧ SqT K H p [.ref a, .str y, .int (n : Int)] ∧ TRow K H a ps ∧ isTxt y 200 = true ∧ isTxt z 500 = true ∧ n ≤ 500 ∧
  ∀ G, Same H G → Q (.bl (decide (z.cps.toList.length = n ∧ cuts (ps.map (·.2)) z.cps.toList = y.cps.toList))) G
theorem cal_possH (B : Bi mg) (D : At K mg "possible_holds" s_possible_holds ps_possible_holds) (C_is_text : Cal P w K mg base 1 "is_text" ps_is_text (spIsText K)) (C_are_shown_parts : Cal P w K mg base 4 "are_shown_parts" ps_are_shown_parts (spShownP K)) (C_row_of : Cal P w K mg base 5 "row_of" ps_row_of (spRowOf K C)) (C_shown_by : Cal P w K mg base 2 "shown_by" ps_shown_by (spShownBy C)) : Cal P w K mg base 6 "possible_holds" ps_possible_holds (spPossH K) := by
  refine D.cal sc_possible_holds (fun vs H Q E h => ?_) (fun f cdv A outer s H vs Q E hr h => ?_)
  · obtain ⟨p, a, ps, y, z, n, rfl, _⟩ := h
    rfl
  · obtain ⟨p, a, ps, y, z, n, rfl, hp, ha, ty, tz, n5, k⟩ := h
    have zl := isTxt_len tz
    have zL : z.length = z.cps.toList.length := rfl
    refine ⟨_, (pss_cons (ps_if (PW.pt (pw_or (pt_not (pt_val (pe_own C_are_shown_parts hr (by decide) (by rfl) (pa_cons (pv 0) pa_nil)))) (pw_or1 (pt_not (pt_val (pe_own C_is_text hr (by decide) (by rfl) (pa_cons (pv 1) (pa_cons (pe_cst B.MOST_LENGTH (by rfl)) pa_nil)))))))) (pss_one (ps_ret pe_bl)) pss_nil)
      (pss_cons (ps_asg (pv 0) (pg_tup rfl (pgs_cons (pg_name (i := 2) sc_possible_holds.nd rfl (.inl rfl)) (pgs_cons (pg_name (i := 3) sc_possible_holds.nd rfl (.inl rfl)) (pgs_cons (pg_name (i := 4) sc_possible_holds.nd rfl (.inl rfl)) pgs_nil)))))
      (pss_one (ps_ret (pe_and (pe_cmpR op_eq (pe_callB call_len (by rfl) B.len (by decide +kernel) (pa_cons (pv 1) pa_nil)) (pv 4) (nomark _)) (pe_one (pe_cmpR op_eq (pe_own C_shown_by hr (by decide) (by rfl) (pa_cons (pe_own C_row_of hr (by decide) (by rfl) (pa_cons (pv 2) pa_nil)) (pa_cons (pv 1) pa_nil))) (pv 3) (nomark _)))))))), ?_⟩
    refine ⟨_, rfl, p, a, ps, y, n, rfl, hp, ha, ty, n5, fun G1 s1 => ⟨_, rfl, iteF ?_⟩⟩
    refine ⟨_, rfl, _, _, rfl, .inl ⟨z, rfl, by omega, fun G2 s2 => ⟨_, rfl, ?_⟩⟩⟩
    rw [tz]
    have s12 := s1.trans s2
    refine iteF ⟨_, rfl, p, _, rfl, stH s12 hp, rfl, _, _, rfl, _, _, rfl, _, _, rfl, rfl, ?_⟩
    refine ⟨_, rfl, _, _, rfl, ⟨Nat.le_of_lt (small1000 (by omega)), rfl⟩, _, rfl, rfl, _, rfl, ?_⟩
    by_cases e : z.cps.toList.length = n
    · rw [decide_eq_true (show V.int (z.length : Int) = V.int (n : Int) by rw [zL, e])]
      refine iteT ⟨_, rfl, a, ps, rfl, ha.same s12, fun R G3 rs hR er s3 => ?_⟩
      refine ⟨_, rfl, R, rs, z, rfl, hR, by omega, fun z1 e1 => ⟨_, rfl, rfl, ?_⟩⟩
      rw [er] at e1
      have q : decide (V.str z1 = V.str y) = decide (z.cps.toList.length = n ∧ cuts (ps.map (·.2)) z.cps.toList = y.cps.toList) := decide_eq_decide.mpr ⟨fun h => ⟨e, by rw [← e1, V.str.inj h]⟩, fun h => by rw [str_ext (e1.trans h.2)]⟩
      rw [q]
      exact k _ (s12.trans s3)
    · rw [decide_eq_false (show ¬ V.int (z.length : Int) = V.int (n : Int) from fun h => e (by have := V.int.inj h; omega))]
      rw [decide_eq_false (fun h => e h.1)] at k
      exact iteF (k _ s12)
def spImpossH (K : PySem.W.Frag) : Sp := fun vs H Q _ => ∃ (p a t : Addr) (ps : List (Addr × Rec)) (y : Str) (n : Nat), vs = [.ref p, .ref t] ∧ SqT K H p [.ref a, .str y, .int (n : Int)] ∧ TRow K H a ps ∧ isTxt y 200 = true ∧ n ≤ 500 ∧ SqT K H t [] ∧
  ∀ (b : Bool) (G : Hp), Same H G → (b = true ↔ ∀ cs : List Nat, cs.length = n → ¬ cuts (ps.map (·.2)) cs = y.cps.toList) → Q (.bl b) G
theorem cal_impossH (B : Bi mg) (D : At K mg "impossible_holds" s_impossible_holds ps_impossible_holds) (C_is_tuple : Cal P w K mg base 1 "is_tuple" ps_is_tuple (spIsTuple K)) (C_are_shown_parts : Cal P w K mg base 4 "are_shown_parts" ps_are_shown_parts (spShownP K)) (C_row_of : Cal P w K mg base 5 "row_of" ps_row_of (spRowOf K C)) (C_known_signs : Cal P w K mg base 3 "known_signs" ps_known_signs (spKnown C)) : Cal P w K mg base 6 "impossible_holds" ps_impossible_holds (spImpossH K) := by
  refine D.cal sc_impossible_holds (fun vs H Q E h => ?_) (fun f cdv A outer s H vs Q E hr h => ?_)
  · obtain ⟨p, a, t, ps, y, n, rfl, _⟩ := h
    rfl
  · obtain ⟨p, a, t, ps, y, n, rfl, hp, ha, ty, n5, ht, k⟩ := h
    refine ⟨_, (pss_cons (ps_if (PW.pt (pw_or (pt_not (pt_val (pe_own C_are_shown_parts hr (by decide) (by rfl) (pa_cons (pv 0) pa_nil)))) (pw_or1 (pt_not (pt_val (pe_own C_is_tuple hr (by decide) (by rfl) (pa_cons (pv 1) (pa_cons pe_int (pa_cons pe_int pa_nil))))))))) (pss_one (ps_ret pe_bl)) pss_nil)
      (pss_cons (ps_asg (pv 0) (pg_tup rfl (pgs_cons (pg_name (i := 2) sc_impossible_holds.nd rfl (.inl rfl)) (pgs_cons (pg_name (i := 3) sc_impossible_holds.nd rfl (.inl rfl)) (pgs_cons (pg_name (i := 4) sc_impossible_holds.nd rfl (.inl rfl)) pgs_nil)))))
      (pss_one (ps_ret (pe_cmpR op_isN (pe_own C_known_signs hr (by decide) (by rfl) (pa_cons (pe_tup (pa_cons (pe_tup (pa_cons (pe_own C_row_of hr (by decide) (by rfl) (pa_cons (pv 2) pa_nil)) (pa_cons (pv 3) pa_nil))) pa_nil)) (pa_cons (pv 4) pa_nil))) pe_non (nomark _)))))), ?_⟩
    refine ⟨_, rfl, p, a, ps, y, n, rfl, hp, ha, ty, n5, fun G1 s1 => ⟨_, rfl, iteF ?_⟩⟩
    refine ⟨_, rfl, _, _, _, rfl, .inl ⟨t, _, rfl, stH s1 ht, _, rfl, iteF ?_⟩⟩
    refine ⟨_, rfl, p, _, rfl, stH s1 hp, rfl, _, _, rfl, _, _, rfl, _, _, rfl, rfl, ?_⟩
    refine ⟨_, rfl, a, ps, rfl, ha.same s1, fun R G2 rs hR er s2 => ?_⟩
    have l1 := same_size er
    have a1 := ha.l1
    have a4 := ha.l4
    refine ⟨_, rfl, by show 2 ≤ sizeLine; decide, fun u nu => ?_⟩
    have s3 : Same G2 (upd G2 u (.tup [.ref R, .str y])) := same_new nu
    have e3 : upd G2 u (.tup [.ref R, .str y]) u = some (.tup [.ref R, .str y]) := upd_same
    generalize upd G2 u (.tup [.ref R, .str y]) = G3 at s3 e3
    refine ⟨by show 1 ≤ sizeLine; decide, fun v nv => ?_⟩
    have s4 : Same G3 (upd G3 v (.tup [.ref u])) := same_new nv
    have e4 : upd G3 v (.tup [.ref u]) v = some (.tup [.ref u]) := upd_same
    generalize upd G3 v (.tup [.ref u]) = G4 at s4 e4
    have hV : ViewsAt C G4 v [⟨u, R, rs, y⟩] := ⟨e4, fun x hx => by
      rw [List.mem_singleton.mp hx]
      exact ⟨s4 _ _ e3, hR.same (s3.trans s4), by show 1 ≤ rs.length; omega, by show rs.length ≤ 4; omega, ty⟩, Nat.le_refl 1, by show 1 ≤ 4; decide⟩
    have ft : ∀ cs, Fits [⟨u, R, rs, y⟩] cs ↔ cuts (ps.map (·.2)) cs = y.cps.toList := fun cs => by
      rw [← er]
      exact ⟨fun h => h _ (List.mem_singleton.mpr rfl), fun h x hx => by
        rw [List.mem_singleton.mp hx]
        exact h⟩
    have s14 := s1.trans (s2.trans (s3.trans s4))
    refine ⟨_, rfl, v, n, [⟨u, R, rs, y⟩], rfl, hV, n5, fun no G5 s5 => ⟨rfl, k _ _ (s14.trans s5) ⟨fun _ cs hl h => no cs hl ((ft cs).mpr h), fun _ => rfl⟩⟩, fun d kvs G5 nd s5 eD kn => ⟨rfl, k _ _ (s14.trans s5) ⟨fun h => (by cases h), fun h => ?_⟩⟩⟩
    exact absurd ((ft _).mp (wrote_fits (o := 46) kn)) (h _ (wrote_len ..))
end
/-! ### holds, by the claim's first word -/
section
variable {P : Program} {w : World} {K : PySem.W.Frag} {mg : Str → Option Value} {base : Heap} {C : Addr}
def spHoldsW (wd : Str) (sp : Sp) : Sp := fun vs H Q E => ∃ (c : Addr) (xs : List V) (x : V), vs = [.ref c, x] ∧ H c = some (.tup (.str wd :: xs)) ∧ 1 ≤ xs.length ∧ xs.length ≤ 3 ∧ ∀ (U : Addr) (G : Hp), Same H G → G U = some (.tup xs) → sp [.ref U, x] G Q E0
theorem cal_holdsW {wd fn : Str} {ps : List Str} {sp : Sp} (l2 : ps.length = 2) (Ck : ChkW K mg w wd fn) (B : Bi mg) (D : At K mg "holds" s_holds ps_holds) (C_is_tuple : Cal P w K mg base 1 "is_tuple" ps_is_tuple (spIsTuple K)) (C6 : Cal P w K mg base 6 fn ps sp) : Cal P w K mg base 7 "holds" ps_holds (spHoldsW wd sp) := by
  obtain ⟨T, f6, es, n6, gT, DC, nc, gf⟩ := Ck.ex
  obtain ⟨f7, fd6, F6, g6, kp, bd, _⟩ := C6.ex
  obtain rfl : f7 = f6 := by
    rw [gf] at g6
    have := Option.some.inj g6
    cases this
    rfl
  refine D.cal sc_holds (fun vs H Q E h => ?_) (fun f cdv A outer s H vs Q E hr h => ?_)
  · obtain ⟨c, xs, x, rfl, _⟩ := h
    rfl
  · obtain ⟨c, xs, x, rfl, hc, x1, x3, k⟩ := h
    have i0 : atI (V.str wd :: xs) 0 = some (V.str wd) := atI_nat (j := 0) rfl
    refine ⟨_, (pss_cons (ps_if (PW.pt (pw_or (pt_not (pt_val (pe_own C_is_tuple hr (by decide) (by rfl) (pa_cons (pv 0) (pa_cons pe_int (pa_cons pe_int pa_nil)))))) (pw_or (pt_not (pt_val (pe_callB call_isi (by rfl) B.isinstance (by decide +kernel) (pa_cons (pe_ix ix_tup (pv 0) pe_int (fun _ _ => rfl)) (pa_cons (pe_bltn (v := .ty "str") (by rfl) B.str (by decide +kernel) rfl) pa_nil))))) (pw_or1 (pt_cmpR (op_notIn_kd DC) (pe_ix ix_tup (pv 0) pe_int (fun _ _ => rfl)) (pe_glob (v := .ref T) (by rfl) gT rfl) (by rfl)))))) (pss_one (ps_ret pe_bl)) pss_nil)
      (pss_cons (ps_set (i := 2) sc_holds.nd rfl (.inl rfl) (pe_ix ix_kdict (pe_glob (v := .ref T) (by rfl) gT rfl) (pe_ix ix_tup (pv 0) pe_int (fun _ _ => rfl)) (fun _ _ => rfl)))
      (pss_one (ps_ret (pe_callL (i := 2) (E := E0) F6 (hr.mono (by decide)) rfl (.inl rfl) kp bd .nil pass0 (pa_cons (pe_slice sl_tupA (pv 0) (po_some pe_int) po_none) (pa_cons (pv 1) pa_nil))))))), ?_⟩
    obtain ⟨tt, i1, i2⟩ := Isa.str_str (K := K) (H := H) (z := wd)
    refine ⟨_, rfl, _, _, _, rfl, .inl ⟨c, _, rfl, .inl (.inl hc), _, rfl, ?_⟩⟩
    rw [decide_eq_true (show (2 : Int) ≤ (((V.str wd :: xs).length : Nat) : Int) ∧ (((V.str wd :: xs).length : Nat) : Int) ≤ 4 by rw [List.length_cons]; omega)]
    refine iteF ?_
    refine ⟨_, rfl, c, _, _, _, rfl, rfl, .inl (.inl hc), i0, _, _, tt, _, true, rfl, .ty _, i1, i2, _, rfl, iteF ?_⟩
    refine ⟨_, rfl, c, _, _, _, rfl, rfl, .inl (.inl hc), i0, _, _, rfl, rfl, nc, _, rfl, iteF ?_⟩
    refine ⟨_, rfl, c, _, _, _, rfl, rfl, .inl (.inl hc), i0, T, _, V.ref f7, rfl, rfl, ⟨es, n6, _, DC.at_, DC.lit, nc, rfl⟩, ?_⟩
    refine ⟨rfl, _, rfl, 1, rfl, ?_⟩
    refine noPart ?_
    refine sl_ok hc fun U G1 s1 e1 => ?_
    have e1 : G1 U = some (.tup xs) := by
      rw [e1]
      congr 1
      congr 1
      exact cutV_back (V.str wd :: xs) 1
    exact ⟨_, rfl, k U G1 s1 e1⟩
end
end Gu
namespace Gu
open PySem PySem.Spec PyProof.Rows L2
/-! ### what each check refuses -/
theorem rows_ex {K : PySem.W.Frag} {H : Hp} : ∀ {n : Nat} {xs : List V}, xs.length = n → PartsOk K H (List.replicate n .r) xs → ∃ qs : List (Addr × List (Addr × Rec)), xs = qs.map (fun q => V.ref q.1) ∧ qs.length = n ∧ ∀ q ∈ qs, TRow K H q.1 q.2
  | 0, [], _, _ => ⟨[], rfl, rfl, fun q hq => by cases hq⟩
  | n + 1, x :: xs, l, h => by
    obtain ⟨a, ps, rfl, hT⟩ := h 0 .r x rfl rfl
    obtain ⟨qs, e, ln, hq⟩ := rows_ex (n := n) (xs := xs) (by simpa using l) fun i k y h1 h2 => h (i + 1) k y (by rw [List.replicate_succ]; exact h1) h2
    refine ⟨(a, ps) :: qs, by rw [e]; rfl, by rw [List.length_cons, ln], fun q hq2 => ?_⟩
    rcases List.mem_cons.mp hq2 with rfl | hq2
    · exact hT
    · exact hq q hq2
theorem rep_at {n j : Nat} {k : Pt} (h : (List.replicate n Pt.r)[j]? = some k) : k = .r := by
  have := List.mem_of_getElem? h
  exact (List.mem_replicate.mp this).2
theorem rep_get {n j : Nat} (h : j < n) : (List.replicate n Pt.r)[j]? = some .r := by
  rw [List.getElem?_replicate, if_pos h]
theorem bad_rows {K : PySem.W.Frag} {H : Hp} {n : Nat} {pk : Pp} {xs : List V} {x : V} (h : Bad K H (List.replicate n .r) pk xs x) :
    (xs.length ≠ n ∨ ∃ (j : Nat) (y : V), xs[j]? = some y ∧ NoRowT K H y ∧ ∀ (i : Nat) (z : V), i ≠ j → xs[i]? = some z → PartOk K H .r z) ∨ (∃ qs : List (Addr × List (Addr × Rec)), xs = qs.map (fun q => V.ref q.1) ∧ qs.length = n ∧ (∀ q ∈ qs, TRow K H q.1 q.2) ∧ PaperNo K H pk x) := by
  unfold Bad at h
  rw [List.length_replicate] at h
  rcases h with h | ⟨l, j, k, y, hk, hy, no, ok⟩ | ⟨l, ok, no⟩
  · exact .inl (.inl h)
  · cases rep_at hk
    refine .inl (.inr ⟨j, y, hy, no, fun i z ij hz => ?_⟩)
    have il := (List.getElem?_eq_some_iff.mp hz).1
    exact ok i .r z ij (rep_get (by omega)) hz
  · obtain ⟨qs, e, ln, hq⟩ := rows_ex l ok
    exact .inr ⟨qs, e, ln, hq, no⟩
theorem bad_shown {K : PySem.W.Frag} {H : Hp} {pk : Pp} {xs : List V} {x : V} (h : Bad K H [.r, .t, .n] pk xs x) :
    (xs.length ≠ 3 ∨ ∃ (j : Nat) (k : Pt) (y : V), xs.length = 3 ∧ [Pt.r, .t, .n][j]? = some k ∧ xs[j]? = some y ∧ PartNo K H k y ∧ ∀ (i : Nat) (k : Pt) (z : V), i ≠ j → [Pt.r, .t, .n][i]? = some k → xs[i]? = some z → PartOk K H k z) ∨
    (∃ (a : Addr) (ps : List (Addr × Rec)) (y : Str) (n : Nat), xs = [.ref a, .str y, .int (n : Int)] ∧ TRow K H a ps ∧ isTxt y 200 = true ∧ n ≤ 500 ∧ PaperNo K H pk x) := by
  rcases h with h | ⟨l, j, k, y, hk, hy, no, ok⟩ | ⟨l, ok, no⟩
  · exact .inl (.inl h)
  · exact .inl (.inr ⟨j, k, y, l, hk, hy, no, ok⟩)
  · match xs, l with
    | [a, b, c], _ =>
      obtain ⟨a1, ps, rfl, hT⟩ := ok 0 .r a rfl rfl
      obtain ⟨z, rfl, zl, zt⟩ := ok 1 .t b rfl rfl
      obtain ⟨i, rfl, i0, i1⟩ := ok 2 .n c rfl rfl
      obtain ⟨n, rfl⟩ := Int.eq_ofNat_of_zero_le i0
      exact .inr ⟨a1, ps, z, n, rfl, hT, zt, by omega, no⟩
section
variable {P : Program} {w : World} {K : PySem.W.Frag} {mg : Str → Option Value} {base : Heap} {C : Addr}
def spBadH (K : PySem.W.Frag) (ks : List Pt) (pk : Pp) : Sp := fun vs H Q _ => ∃ (p : Addr) (xs : List V) (x : V), vs = [.ref p, x] ∧ SqT K H p xs ∧ xs.length ≤ 4 ∧ Bad K H ks pk xs x ∧ ∀ G, Same H G → Q (.bl false) G
theorem cal_alikeN (B : Bi mg) (D : At K mg "alike_holds" s_alike_holds ps_alike_holds) (C_are_told_rows : Cal P w K mg base 4 "are_told_rows" ps_are_told_rows (spOr (spTrueQ K) (spRowsNo K))) (C_is_tuple : Cal P w K mg base 1 "is_tuple" ps_is_tuple (spTup K)) : Cal P w K mg base 6 "alike_holds" ps_alike_holds (spBadH K (List.replicate 2 .r) .unit) := by
  refine D.cal sc_alike_holds (fun vs H Q E h => ?_) (fun f cdv A outer s H vs Q E hr h => ?_)
  · obtain ⟨p, xs, x, rfl, _⟩ := h
    rfl
  · obtain ⟨p, xs, x, rfl, hp, x4, bad, k⟩ := h
    rcases bad_rows bad with way | ⟨qs, rfl, ln, hq, no⟩
    · refine ⟨_, (pss_cons (ps_if (PW.pt (pw_or (pt_not (pt_val (pe_own C_are_told_rows hr (by decide) (by rfl) (pa_cons (pv 0) (pa_cons pe_int pa_nil))))) (pw_or1 (pt_not (pt_val (pe_own C_is_tuple hr (by decide) (by rfl) (pa_cons (pv 1) (pa_cons pe_int (pa_cons pe_int pa_nil))))))))) (pss_one (ps_ret pe_bl)) pss_nil)
      pss_never), ?_⟩
      exact ⟨_, rfl, .inr ⟨p, 2, xs, rfl, hp, x4, way, fun G s => ⟨_, rfl, iteT (k G s)⟩⟩⟩
    · refine ⟨_, (pss_cons (ps_if (PW.pt (pw_or (pt_not (pt_val (pe_own C_are_told_rows hr (by decide) (by rfl) (pa_cons (pv 0) (pa_cons pe_int pa_nil))))) (pw_or1 (pt_not (pt_val (pe_own C_is_tuple hr (by decide) (by rfl) (pa_cons (pv 1) (pa_cons pe_int (pa_cons pe_int pa_nil))))))))) (pss_one (ps_ret pe_bl)) pss_nil)
      pss_never), ?_⟩
      exact ⟨_, rfl, .inl ⟨p, qs, by rw [ln]; rfl, hp, hq, by omega, fun G1 s1 => ⟨_, rfl, iteF ⟨_, rfl, x, 0, 0, rfl, .inr ⟨NoTup.same s1 no, _, rfl, iteT (k _ s1)⟩⟩⟩⟩⟩
theorem cal_unlikeN (B : Bi mg) (D : At K mg "unlike_holds" s_unlike_holds ps_unlike_holds) (C_are_told_rows : Cal P w K mg base 4 "are_told_rows" ps_are_told_rows (spOr (spTrueQ K) (spRowsNo K))) (C_is_text : Cal P w K mg base 1 "is_text" ps_is_text (spTxt K)) : Cal P w K mg base 6 "unlike_holds" ps_unlike_holds (spBadH K (List.replicate 2 .r) .txt) := by
  refine D.cal sc_unlike_holds (fun vs H Q E h => ?_) (fun f cdv A outer s H vs Q E hr h => ?_)
  · obtain ⟨p, xs, x, rfl, _⟩ := h
    rfl
  · obtain ⟨p, xs, x, rfl, hp, x4, bad, k⟩ := h
    rcases bad_rows bad with way | ⟨qs, rfl, ln, hq, no⟩
    · refine ⟨_, (pss_cons (ps_if (PW.pt (pw_or (pt_not (pt_val (pe_own C_are_told_rows hr (by decide) (by rfl) (pa_cons (pv 0) (pa_cons pe_int pa_nil))))) (pw_or1 (pt_not (pt_val (pe_own C_is_text hr (by decide) (by rfl) (pa_cons (pv 1) (pa_cons (pe_cst B.MOST_TEXT (by rfl)) pa_nil)))))))) (pss_one (ps_ret pe_bl)) pss_nil)
      pss_never), ?_⟩
      exact ⟨_, rfl, .inr ⟨p, 2, xs, rfl, hp, x4, way, fun G s => ⟨_, rfl, iteT (k G s)⟩⟩⟩
    · refine ⟨_, (pss_cons (ps_if (PW.pt (pw_or (pt_not (pt_val (pe_own C_are_told_rows hr (by decide) (by rfl) (pa_cons (pv 0) (pa_cons pe_int pa_nil))))) (pw_or1 (pt_not (pt_val (pe_own C_is_text hr (by decide) (by rfl) (pa_cons (pv 1) (pa_cons (pe_cst B.MOST_TEXT (by rfl)) pa_nil)))))))) (pss_one (ps_ret pe_bl)) pss_nil)
      pss_never), ?_⟩
      exact ⟨_, rfl, .inl ⟨p, qs, by rw [ln]; rfl, hp, hq, by omega, fun G1 s1 => ⟨_, rfl, iteF ⟨_, rfl, x, 200, rfl, .inr ⟨NoTxt.same s1 no, fun G2 s2 => ⟨_, rfl, iteT (k _ (s1.trans s2))⟩⟩⟩⟩⟩⟩
theorem cal_stableN (B : Bi mg) (D : At K mg "stable_holds" s_stable_holds ps_stable_holds) (C_are_told_rows : Cal P w K mg base 4 "are_told_rows" ps_are_told_rows (spOr (spTrueQ K) (spRowsNo K))) (C_is_tuple : Cal P w K mg base 1 "is_tuple" ps_is_tuple (spTup K)) : Cal P w K mg base 6 "stable_holds" ps_stable_holds (spBadH K (List.replicate 1 .r) .unit) := by
  refine D.cal sc_stable_holds (fun vs H Q E h => ?_) (fun f cdv A outer s H vs Q E hr h => ?_)
  · obtain ⟨p, xs, x, rfl, _⟩ := h
    rfl
  · obtain ⟨p, xs, x, rfl, hp, x4, bad, k⟩ := h
    rcases bad_rows bad with way | ⟨qs, rfl, ln, hq, no⟩
    · refine ⟨_, (pss_cons (ps_if (PW.pt (pw_or (pt_not (pt_val (pe_own C_are_told_rows hr (by decide) (by rfl) (pa_cons (pv 0) (pa_cons pe_int pa_nil))))) (pw_or1 (pt_not (pt_val (pe_own C_is_tuple hr (by decide) (by rfl) (pa_cons (pv 1) (pa_cons pe_int (pa_cons pe_int pa_nil))))))))) (pss_one (ps_ret pe_bl)) pss_nil)
      pss_never), ?_⟩
      exact ⟨_, rfl, .inr ⟨p, 1, xs, rfl, hp, x4, way, fun G s => ⟨_, rfl, iteT (k G s)⟩⟩⟩
    · refine ⟨_, (pss_cons (ps_if (PW.pt (pw_or (pt_not (pt_val (pe_own C_are_told_rows hr (by decide) (by rfl) (pa_cons (pv 0) (pa_cons pe_int pa_nil))))) (pw_or1 (pt_not (pt_val (pe_own C_is_tuple hr (by decide) (by rfl) (pa_cons (pv 1) (pa_cons pe_int (pa_cons pe_int pa_nil))))))))) (pss_one (ps_ret pe_bl)) pss_nil)
      pss_never), ?_⟩
      exact ⟨_, rfl, .inl ⟨p, qs, by rw [ln]; rfl, hp, hq, by omega, fun G1 s1 => ⟨_, rfl, iteF ⟨_, rfl, x, 0, 0, rfl, .inr ⟨NoTup.same s1 no, _, rfl, iteT (k _ s1)⟩⟩⟩⟩⟩
theorem cal_unstableN (B : Bi mg) (D : At K mg "unstable_holds" s_unstable_holds ps_unstable_holds) (C_are_told_rows : Cal P w K mg base 4 "are_told_rows" ps_are_told_rows (spOr (spTrueQ K) (spRowsNo K))) (C_is_text : Cal P w K mg base 1 "is_text" ps_is_text (spTxt K)) : Cal P w K mg base 6 "unstable_holds" ps_unstable_holds (spBadH K (List.replicate 1 .r) .txt) := by
  refine D.cal sc_unstable_holds (fun vs H Q E h => ?_) (fun f cdv A outer s H vs Q E hr h => ?_)
  · obtain ⟨p, xs, x, rfl, _⟩ := h
    rfl
  · obtain ⟨p, xs, x, rfl, hp, x4, bad, k⟩ := h
    rcases bad_rows bad with way | ⟨qs, rfl, ln, hq, no⟩
    · refine ⟨_, (pss_cons (ps_if (PW.pt (pw_or (pt_not (pt_val (pe_own C_are_told_rows hr (by decide) (by rfl) (pa_cons (pv 0) (pa_cons pe_int pa_nil))))) (pw_or1 (pt_not (pt_val (pe_own C_is_text hr (by decide) (by rfl) (pa_cons (pv 1) (pa_cons (pe_cst B.MOST_TEXT (by rfl)) pa_nil)))))))) (pss_one (ps_ret pe_bl)) pss_nil)
      pss_never), ?_⟩
      exact ⟨_, rfl, .inr ⟨p, 1, xs, rfl, hp, x4, way, fun G s => ⟨_, rfl, iteT (k G s)⟩⟩⟩
    · refine ⟨_, (pss_cons (ps_if (PW.pt (pw_or (pt_not (pt_val (pe_own C_are_told_rows hr (by decide) (by rfl) (pa_cons (pv 0) (pa_cons pe_int pa_nil))))) (pw_or1 (pt_not (pt_val (pe_own C_is_text hr (by decide) (by rfl) (pa_cons (pv 1) (pa_cons (pe_cst B.MOST_TEXT (by rfl)) pa_nil)))))))) (pss_one (ps_ret pe_bl)) pss_nil)
      pss_never), ?_⟩
      exact ⟨_, rfl, .inl ⟨p, qs, by rw [ln]; rfl, hp, hq, by omega, fun G1 s1 => ⟨_, rfl, iteF ⟨_, rfl, x, 200, rfl, .inr ⟨NoTxt.same s1 no, fun G2 s2 => ⟨_, rfl, iteT (k _ (s1.trans s2))⟩⟩⟩⟩⟩⟩
theorem cal_possibleN (B : Bi mg) (D : At K mg "possible_holds" s_possible_holds ps_possible_holds) (C_are_shown_parts : Cal P w K mg base 4 "are_shown_parts" ps_are_shown_parts (spOr (spShownP K) (spShownNo K))) (C_is_text : Cal P w K mg base 1 "is_text" ps_is_text (spTxt K)) : Cal P w K mg base 6 "possible_holds" ps_possible_holds (spBadH K [.r, .t, .n] .long) := by
  refine D.cal sc_possible_holds (fun vs H Q E h => ?_) (fun f cdv A outer s H vs Q E hr h => ?_)
  · obtain ⟨p, xs, x, rfl, _⟩ := h
    rfl
  · obtain ⟨p, xs, x, rfl, hp, x4, bad, k⟩ := h
    rcases bad_shown bad with way | ⟨a, ps, y, n, rfl, hT, yt, n5, no⟩
    · refine ⟨_, (pss_cons (ps_if (PW.pt (pw_or (pt_not (pt_val (pe_own C_are_shown_parts hr (by decide) (by rfl) (pa_cons (pv 0) pa_nil)))) (pw_or1 (pt_not (pt_val (pe_own C_is_text hr (by decide) (by rfl) (pa_cons (pv 1) (pa_cons (pe_cst B.MOST_LENGTH (by rfl)) pa_nil)))))))) (pss_one (ps_ret pe_bl)) pss_nil)
      pss_never), ?_⟩
      exact ⟨_, rfl, .inr ⟨p, xs, rfl, hp, x4, way, fun G s => ⟨_, rfl, iteT (k G s)⟩⟩⟩
    · refine ⟨_, (pss_cons (ps_if (PW.pt (pw_or (pt_not (pt_val (pe_own C_are_shown_parts hr (by decide) (by rfl) (pa_cons (pv 0) pa_nil)))) (pw_or1 (pt_not (pt_val (pe_own C_is_text hr (by decide) (by rfl) (pa_cons (pv 1) (pa_cons (pe_cst B.MOST_LENGTH (by rfl)) pa_nil)))))))) (pss_one (ps_ret pe_bl)) pss_nil)
      pss_never), ?_⟩
      exact ⟨_, rfl, .inl ⟨p, a, ps, y, n, rfl, hp, hT, yt, n5, fun G1 s1 => ⟨_, rfl, iteF ⟨_, rfl, x, 500, rfl, .inr ⟨NoTxt.same s1 no, fun G2 s2 => ⟨_, rfl, iteT (k _ (s1.trans s2))⟩⟩⟩⟩⟩⟩
theorem cal_impossibleN (B : Bi mg) (D : At K mg "impossible_holds" s_impossible_holds ps_impossible_holds) (C_are_shown_parts : Cal P w K mg base 4 "are_shown_parts" ps_are_shown_parts (spOr (spShownP K) (spShownNo K))) (C_is_tuple : Cal P w K mg base 1 "is_tuple" ps_is_tuple (spTup K)) : Cal P w K mg base 6 "impossible_holds" ps_impossible_holds (spBadH K [.r, .t, .n] .unit) := by
  refine D.cal sc_impossible_holds (fun vs H Q E h => ?_) (fun f cdv A outer s H vs Q E hr h => ?_)
  · obtain ⟨p, xs, x, rfl, _⟩ := h
    rfl
  · obtain ⟨p, xs, x, rfl, hp, x4, bad, k⟩ := h
    rcases bad_shown bad with way | ⟨a, ps, y, n, rfl, hT, yt, n5, no⟩
    · refine ⟨_, (pss_cons (ps_if (PW.pt (pw_or (pt_not (pt_val (pe_own C_are_shown_parts hr (by decide) (by rfl) (pa_cons (pv 0) pa_nil)))) (pw_or1 (pt_not (pt_val (pe_own C_is_tuple hr (by decide) (by rfl) (pa_cons (pv 1) (pa_cons pe_int (pa_cons pe_int pa_nil))))))))) (pss_one (ps_ret pe_bl)) pss_nil)
      pss_never), ?_⟩
      exact ⟨_, rfl, .inr ⟨p, xs, rfl, hp, x4, way, fun G s => ⟨_, rfl, iteT (k G s)⟩⟩⟩
    · refine ⟨_, (pss_cons (ps_if (PW.pt (pw_or (pt_not (pt_val (pe_own C_are_shown_parts hr (by decide) (by rfl) (pa_cons (pv 0) pa_nil)))) (pw_or1 (pt_not (pt_val (pe_own C_is_tuple hr (by decide) (by rfl) (pa_cons (pv 1) (pa_cons pe_int (pa_cons pe_int pa_nil))))))))) (pss_one (ps_ret pe_bl)) pss_nil)
      pss_never), ?_⟩
      exact ⟨_, rfl, .inl ⟨p, a, ps, y, n, rfl, hp, hT, yt, n5, fun G1 s1 => ⟨_, rfl, iteF ⟨_, rfl, x, 0, 0, rfl, .inr ⟨NoTup.same s1 no, _, rfl, iteT (k _ s1)⟩⟩⟩⟩⟩
theorem cal_confusedN (B : Bi mg) (D : At K mg "confused_holds" s_confused_holds ps_confused_holds) (C_are_told_rows : Cal P w K mg base 4 "are_told_rows" ps_are_told_rows (spOr (spTrueQ K) (spRowsNo K))) (C_is_pair_of_texts : Cal P w K mg base 2 "is_pair_of_texts" ps_is_pair_of_texts (spPairNo K)) : Cal P w K mg base 6 "confused_holds" ps_confused_holds (spBadH K (List.replicate 1 .r) .pair) := by
  refine D.cal sc_confused_holds (fun vs H Q E h => ?_) (fun f cdv A outer s H vs Q E hr h => ?_)
  · obtain ⟨p, xs, x, rfl, _⟩ := h
    rfl
  · obtain ⟨p, xs, x, rfl, hp, x4, bad, k⟩ := h
    rcases bad_rows bad with way | ⟨qs, rfl, ln, hq, no⟩
    · refine ⟨_, (pss_cons (ps_if (PW.pt (pw_or (pt_not (pt_val (pe_own C_are_told_rows hr (by decide) (by rfl) (pa_cons (pv 0) (pa_cons pe_int pa_nil))))) (pw_or1 (pt_not (pt_val (pe_own C_is_pair_of_texts hr (by decide) (by rfl) (pa_cons (pv 1) pa_nil))))))) (pss_one (ps_ret pe_bl)) pss_nil)
      pss_never), ?_⟩
      exact ⟨_, rfl, .inr ⟨p, 1, xs, rfl, hp, x4, way, fun G s => ⟨_, rfl, iteT (k G s)⟩⟩⟩
    · refine ⟨_, (pss_cons (ps_if (PW.pt (pw_or (pt_not (pt_val (pe_own C_are_told_rows hr (by decide) (by rfl) (pa_cons (pv 0) (pa_cons pe_int pa_nil))))) (pw_or1 (pt_not (pt_val (pe_own C_is_pair_of_texts hr (by decide) (by rfl) (pa_cons (pv 1) pa_nil))))))) (pss_one (ps_ret pe_bl)) pss_nil)
      pss_never), ?_⟩
      exact ⟨_, rfl, .inl ⟨p, qs, by rw [ln]; rfl, hp, hq, by omega, fun G1 s1 => ⟨_, rfl, iteF ⟨_, rfl, x, rfl, NoTup.same s1 no, _, rfl, iteT (k _ s1)⟩⟩⟩⟩
end
end Gu
namespace Gu
open PySem PySem.Spec PyProof.Rows L2
/-! ### holds: what is refused, what is right -/
def bigA : Str := ⟨(List.replicate 399 97 ++ [45]).toArray⟩
def oddWords : List Str := ["A", "Alike", " ", bigA]
def NoWords (K : PySem.W.Frag) (mg : Str → Option Value) : Prop := ∀ T, mg "CHECKS" = some (.ref T) → ∀ z ∈ oddWords, PySem.W.nsIn K T z = some none
def forms : List (Str × List Pt × Pp) := [("unlike", [.r, .r], .txt), ("alike", [.r, .r], .unit), ("stable", [.r], .unit), ("unstable", [.r], .txt), ("possible", [.r, .t, .n], .long), ("impossible", [.r, .t, .n], .unit), ("confused", [.r], .pair)]
/-- no claim at all -/
def NoClaim (K : PySem.W.Frag) (H : Hp) (v : V) : Prop := NoTup K H 2 4 v ∨ ∃ (c : Addr) (a : V) (xs : List V), v = .ref c ∧ H c = some (.tup (a :: xs)) ∧ 1 ≤ xs.length ∧ xs.length ≤ 3 ∧ (Isa K H a "str" false ∨ ∃ z : Str, a = .str z ∧ z ∈ oddWords)
def HoldsNo (K : PySem.W.Frag) (H : Hp) (v x : V) : Prop := NoClaim K H v ∨ ∃ (f : Str × List Pt × Pp) (c : Addr) (xs : List V), f ∈ forms ∧ v = .ref c ∧ H c = some (.tup (.str f.1 :: xs)) ∧ 1 ≤ xs.length ∧ xs.length ≤ 3 ∧ Bad K H f.2.1 f.2.2 xs x
section
variable {P : Program} {w : World} {K : PySem.W.Frag} {mg : Str → Option Value} {base : Heap} {C : Addr}
def spNoClaim (K : PySem.W.Frag) : Sp := fun vs H Q _ => ∃ v x : V, vs = [v, x] ∧ NoClaim K H v ∧ ∀ G, Same H G → Q (.bl false) G
theorem cal_noClaim (Ck : ChkW K mg w "alike" "alike_holds") (N : NoWords K mg) (B : Bi mg) (D : At K mg "holds" s_holds ps_holds) (C_is_tuple : Cal P w K mg base 1 "is_tuple" ps_is_tuple (spTup K)) : Cal P w K mg base 7 "holds" ps_holds (spNoClaim K) := by
  obtain ⟨T, f6, es, n6, gT, DC, nc, gf⟩ := Ck.ex
  refine D.cal (k := 6) sc_holds (fun vs H Q E h => ?_) (fun f cdv A outer s H vs Q E hr h => ?_)
  · obtain ⟨v, x, rfl, _⟩ := h
    rfl
  · obtain ⟨v, x, rfl, no | ⟨c, a, xs, rfl, hc, x1, x3, way⟩, k⟩ := h
    · refine ⟨_, (pss_cons (ps_if (PW.pt (pw_or (pt_not (pt_val (pe_own C_is_tuple hr (by decide) (by rfl) (pa_cons (pv 0) (pa_cons pe_int (pa_cons pe_int pa_nil)))))) (pw_or (pt_not (pt_val (pe_callB call_isi (by rfl) B.isinstance (by decide +kernel) (pa_cons (pe_ix ix_tup (pv 0) pe_int (fun _ _ => rfl)) (pa_cons (pe_bltn (v := .ty "str") (by rfl) B.str (by decide +kernel) rfl) pa_nil))))) (pw_or1 (pt_cmpR (op_notIn_kd DC) (pe_ix ix_tup (pv 0) pe_int (fun _ _ => rfl)) (pe_glob (v := .ref T) (by rfl) gT rfl) (by rfl)))))) (pss_one (ps_ret pe_bl)) pss_nil)
      pss_never), ?_⟩
      exact ⟨_, rfl, v, 2, 4, rfl, .inr ⟨no, _, rfl, iteT (k H (Same.refl H))⟩⟩
    · refine ⟨_, (pss_cons (ps_if (PW.pt (pw_or (pt_not (pt_val (pe_own C_is_tuple hr (by decide) (by rfl) (pa_cons (pv 0) (pa_cons pe_int (pa_cons pe_int pa_nil)))))) (pw_or (pt_not (pt_val (pe_callB call_isi (by rfl) B.isinstance (by decide +kernel) (pa_cons (pe_ix ix_tup (pv 0) pe_int (fun _ _ => rfl)) (pa_cons (pe_bltn (v := .ty "str") (by rfl) B.str (by decide +kernel) rfl) pa_nil))))) (pw_or1 (pt_cmpR (op_notIn_kd DC) (pe_ix ix_tup (pv 0) pe_int (fun _ _ => rfl)) (pe_glob (v := .ref T) (by rfl) gT rfl) (by rfl)))))) (pss_one (ps_ret pe_bl)) pss_nil)
      pss_never), ?_⟩
      have i0 : atI (a :: xs) 0 = some a := atI_nat (j := 0) rfl
      have hs : SqT K H c (a :: xs) := .inl (.inl hc)
      refine ⟨_, rfl, _, 2, 4, rfl, .inl ⟨c, _, rfl, hs, by rw [List.length_cons]; omega, by rw [List.length_cons]; omega, _, rfl, iteF ?_⟩⟩
      rcases way with ⟨t, i1, i2⟩ | ⟨z, rfl, hz⟩
      · exact ⟨_, rfl, c, _, _, _, rfl, rfl, hs, i0, _, _, t, _, false, rfl, .ty _, i1, i2, _, rfl, iteT (k H (Same.refl H))⟩
      · obtain ⟨tt, i1, i2⟩ := Isa.str_str (K := K) (H := H) (z := z)
        refine ⟨_, rfl, c, _, _, _, rfl, rfl, hs, i0, _, _, tt, _, true, rfl, .ty _, i1, i2, _, rfl, iteF ?_⟩
        exact ⟨_, rfl, c, _, _, _, rfl, rfl, hs, i0, _, _, rfl, rfl, N T gT z hz, _, rfl, iteT (k H (Same.refl H))⟩
def spHoldsB (K : PySem.W.Frag) : Sp := fun vs H Q _ => ∃ v x : V, vs = [v, x] ∧ HoldsNo K H v x ∧ ∀ G, Same H G → Q (.bl false) G
theorem bad_to {wd : Str} {ks : List Pt} {pk : Pp} {H : Hp} {c : Addr} {xs : List V} {x : V} {Q : VK} {E : XK} (hc : H c = some (.tup (.str wd :: xs))) (x1 : 1 ≤ xs.length) (x3 : xs.length ≤ 3) (b : Bad K H ks pk xs x) (k : ∀ G, Same H G → Q (.bl false) G) : spHoldsW wd (spBadH K ks pk) [.ref c, x] H Q E :=
  ⟨c, xs, x, rfl, hc, x1, x3, fun U G s e => ⟨U, xs, x, rfl, .inl (.inl e), by omega, b.same s, fun G2 s2 => k G2 (s.trans s2)⟩⟩
theorem cal_holdsB (c0 : Cal P w K mg base 7 "holds" ps_holds (spNoClaim K))
    (c1 : Cal P w K mg base 7 "holds" ps_holds (spHoldsW "unlike" (spBadH K (List.replicate 2 .r) .txt))) (c2 : Cal P w K mg base 7 "holds" ps_holds (spHoldsW "alike" (spBadH K (List.replicate 2 .r) .unit))) (c3 : Cal P w K mg base 7 "holds" ps_holds (spHoldsW "stable" (spBadH K (List.replicate 1 .r) .unit))) (c4 : Cal P w K mg base 7 "holds" ps_holds (spHoldsW "unstable" (spBadH K (List.replicate 1 .r) .txt)))
    (c5 : Cal P w K mg base 7 "holds" ps_holds (spHoldsW "possible" (spBadH K [.r, .t, .n] .long))) (c6 : Cal P w K mg base 7 "holds" ps_holds (spHoldsW "impossible" (spBadH K [.r, .t, .n] .unit))) (c7 : Cal P w K mg base 7 "holds" ps_holds (spHoldsW "confused" (spBadH K (List.replicate 1 .r) .pair))) : Cal P w K mg base 7 "holds" ps_holds (spHoldsB K) :=
  (c0.or2 (c1.or2 (c2.or2 (c3.or2 (c4.or2 (c5.or2 (c6.or2 c7))))))).imp fun vs H Q E ⟨v, x, e, h, k⟩ => by
    subst e
    rcases h with h | ⟨f, c, xs, hf, rfl, hc, x1, x3, b⟩
    · exact .inl ⟨v, x, rfl, h, k⟩
    · unfold forms at hf
      simp only [List.mem_cons, List.not_mem_nil, or_false] at hf
      rcases hf with rfl | rfl | rfl | rfl | rfl | rfl | rfl
      · exact .inr (.inl (bad_to hc x1 x3 b k))
      · exact .inr (.inr (.inl (bad_to hc x1 x3 b k)))
      · exact .inr (.inr (.inr (.inl (bad_to hc x1 x3 b k))))
      · exact .inr (.inr (.inr (.inr (.inl (bad_to hc x1 x3 b k)))))
      · exact .inr (.inr (.inr (.inr (.inr (.inl (bad_to hc x1 x3 b k))))))
      · exact .inr (.inr (.inr (.inr (.inr (.inr (.inl (bad_to hc x1 x3 b k)))))))
      · exact .inr (.inr (.inr (.inr (.inr (.inr (.inr (bad_to hc x1 x3 b k)))))))
/-- a claim that is so, with its paper -/
inductive Yes (K : PySem.W.Frag) (H : Hp) : V → V → Prop where
  | unlike {c a b : Addr} {ps qs : List (Addr × Rec)} {y : Str} : H c = some (.tup [.str "unlike", .ref a, .ref b]) → TRow K H a ps → TRow K H b qs → isTxt y 200 = true → cuts (ps.map (·.2)) y.cps.toList ≠ cuts (qs.map (·.2)) y.cps.toList → Yes K H (.ref c) (.str y)
  | alike {c a b t : Addr} {ps qs : List (Addr × Rec)} : H c = some (.tup [.str "alike", .ref a, .ref b]) → TRow K H a ps → TRow K H b qs → SqT K H t [] → Told (ps.map (·.2)) (qs.map (·.2)) .non → Yes K H (.ref c) (.ref t)
  | stable {c a t : Addr} {ps : List (Addr × Rec)} : H c = some (.tup [.str "stable", .ref a]) → TRow K H a ps → SqT K H t [] → Told (ps.map (·.2)) (ps.map (·.2) ++ ps.map (·.2)) .non → Yes K H (.ref c) (.ref t)
  | unstable {c a : Addr} {ps : List (Addr × Rec)} {y : Str} : H c = some (.tup [.str "unstable", .ref a]) → TRow K H a ps → isTxt y 200 = true → cuts (ps.map (·.2)) (cuts (ps.map (·.2)) y.cps.toList) ≠ cuts (ps.map (·.2)) y.cps.toList → Yes K H (.ref c) (.str y)
  | possible {c a : Addr} {ps : List (Addr × Rec)} {y z : Str} {n : Nat} : H c = some (.tup [.str "possible", .ref a, .str y, .int (n : Int)]) → TRow K H a ps → isTxt y 200 = true → isTxt z 500 = true → n ≤ 500 → z.cps.toList.length = n → cuts (ps.map (·.2)) z.cps.toList = y.cps.toList → Yes K H (.ref c) (.str z)
  | impossible {c a t : Addr} {ps : List (Addr × Rec)} {y : Str} {n : Nat} : H c = some (.tup [.str "impossible", .ref a, .str y, .int (n : Int)]) → TRow K H a ps → isTxt y 200 = true → n ≤ 500 → SqT K H t [] → (∀ cs : List Nat, cs.length = n → ¬ cuts (ps.map (·.2)) cs = y.cps.toList) → Yes K H (.ref c) (.ref t)
  | confused {c a t : Addr} {ps : List (Addr × Rec)} {y z : Str} : H c = some (.tup [.str "confused", .ref a]) → TRow K H a ps → SqT K H t [.str y, .str z] → isTxt y 200 = true → isTxt z 200 = true → y ≠ z → cuts (ps.map (·.2)) y.cps.toList = cuts (ps.map (·.2)) z.cps.toList → Yes K H (.ref c) (.ref t)
theorem len_600 {y : Str} {m : Nat} (h : isTxt y m = true) (hm : m ≤ 500) : y.length ≤ 600 := by
  have := isTxt_len h
  omega
def spYes (K : PySem.W.Frag) : Sp := fun vs H Q _ => ∃ v x : V, vs = [v, x] ∧ Yes K H v x ∧ ∀ G, Same H G → Q (.bl true) G
theorem cal_yes (c1 : Cal P w K mg base 7 "holds" ps_holds (spHoldsW "unlike" (spUnlikeH K))) (c2 : Cal P w K mg base 7 "holds" ps_holds (spHoldsW "alike" (spAlikeH K))) (c3 : Cal P w K mg base 7 "holds" ps_holds (spHoldsW "stable" (spStableH K))) (c4 : Cal P w K mg base 7 "holds" ps_holds (spHoldsW "unstable" (spUnstableH K)))
    (c5 : Cal P w K mg base 7 "holds" ps_holds (spHoldsW "possible" (spPossH K))) (c6 : Cal P w K mg base 7 "holds" ps_holds (spHoldsW "impossible" (spImpossH K))) (c7 : Cal P w K mg base 7 "holds" ps_holds (spHoldsW "confused" (spConfG K))) : Cal P w K mg base 7 "holds" ps_holds (spYes K) :=
  (c1.or2 (c2.or2 (c3.or2 (c4.or2 (c5.or2 (c6.or2 c7)))))).imp fun vs H Q E ⟨v, x, e, h, k⟩ => by
    subst e
    cases h with
    | @unlike c a b ps qs y h1 h2 h3 h4 h5 =>
      refine .inl ⟨c, _, _, rfl, h1, by show 1 ≤ 2; decide, by show 2 ≤ 3; decide, fun U G s e => ⟨U, a, b, ps, qs, _, rfl, .inl (.inl e), h2.same s, h3.same s, .inl ⟨y, rfl, len_600 (m := 200) h4 (by decide), fun G2 s2 => ?_⟩⟩⟩
      rw [decide_eq_true ⟨h4, h5⟩]
      exact k G2 (s.trans s2)
    | @alike c a b t ps qs h1 h2 h3 h4 h5 =>
      refine .inr (.inl ⟨c, _, _, rfl, h1, by show 1 ≤ 2; decide, by show 2 ≤ 3; decide, fun U G s e => ⟨U, a, b, t, ps, qs, rfl, .inl (.inl e), h2.same s, h3.same s, stH s h4, fun v G2 s2 td => ?_⟩⟩)
      rw [td.one h5]
      exact k G2 (s.trans s2)
    | @stable c a t ps h1 h2 h4 h5 =>
      refine .inr (.inr (.inl ⟨c, _, _, rfl, h1, by show 1 ≤ 1; decide, by show 1 ≤ 3; decide, fun U G s e => ⟨U, a, t, ps, rfl, .inl (.inl e), h2.same s, stH s h4, fun v G2 s2 td => ?_⟩⟩))
      rw [td.one h5]
      exact k G2 (s.trans s2)
    | @unstable c a ps y h1 h2 h4 h5 =>
      refine .inr (.inr (.inr (.inl ⟨c, _, _, rfl, h1, by show 1 ≤ 1; decide, by show 1 ≤ 3; decide, fun U G s e => ⟨U, a, ps, y, rfl, .inl (.inl e), h2.same s, len_600 (m := 200) h4 (by decide), fun G2 s2 => ?_⟩⟩)))
      rw [decide_eq_true ⟨h4, h5⟩]
      exact k G2 (s.trans s2)
    | @possible c a ps y z n h1 h2 h3 h4 h5 h6 h7 =>
      refine .inr (.inr (.inr (.inr (.inl ⟨c, _, _, rfl, h1, by show 1 ≤ 3; decide, by show 3 ≤ 3; decide, fun U G s e => ⟨U, a, ps, y, z, n, rfl, .inl (.inl e), h2.same s, h3, h4, h5, fun G2 s2 => ?_⟩⟩))))
      rw [decide_eq_true ⟨h6, h7⟩]
      exact k G2 (s.trans s2)
    | @impossible c a t ps y n h1 h2 h3 h4 h5 h6 =>
      refine .inr (.inr (.inr (.inr (.inr (.inl ⟨c, _, _, rfl, h1, by show 1 ≤ 3; decide, by show 3 ≤ 3; decide, fun U G s e => ⟨U, a, t, ps, y, n, rfl, .inl (.inl e), h2.same s, h3, h4, stH s h5, fun b G2 s2 eb => ?_⟩⟩)))))
      rw [eb.mpr h6]
      exact k G2 (s.trans s2)
    | @confused c a t ps y z h1 h2 h3 h4 h5 h6 h7 =>
      refine .inr (.inr (.inr (.inr (.inr (.inr ⟨c, _, _, rfl, h1, by show 1 ≤ 1; decide, by show 1 ≤ 3; decide, fun U G s e => ⟨U, a, t, ps, y, z, rfl, .inl (.inl e), h2.same s, stH s h3, len_600 (m := 200) h4 (by decide), len_600 (m := 200) h5 (by decide), fun G2 s2 => ?_⟩⟩)))))
      rw [decide_eq_true ⟨⟨h4, h5, h6⟩, h7⟩]
      exact k G2 (s.trans s2)
end
end Gu
namespace Gu
open PySem PySem.Spec PyProof.Rows L2
/-! ### _law_good, _law_odd -/
theorem pot_neL {H : Hp} {p q : Addr} {xs : List V} (h : Pot H p) (e : H q = some (.lst xs)) (l : xs.length ≠ 3) : q ≠ p := fun y => by
  obtain ⟨a, b, c, f⟩ := h
  rw [← y, e] at f
  cases f
  exact l rfl
theorem a399 {y : Str} (h : y.cps.toList = (List.replicate (399 : Int).toNat ("a" : Str).cps.toList).flatten) : y = ⟨(List.replicate 399 97).toArray⟩ := str_ext (by rw [h]; decide +kernel)
theorem Ladled.tup {p : Addr} {H G : Hp} (k : Ladled p H G) (hp : Pot H p) {a : Addr} {xs : List V} (h : H a = some (.tup xs)) : G a = some (.tup xs) := k.keep _ _ h fun z => by
  obtain ⟨x, y, w, e⟩ := hp
  rw [← z, h] at e
  cases e
theorem Ladled.dict {p : Addr} {H G : Hp} (k : Ladled p H G) (hp : Pot H p) {a : Addr} (h : H a = some (.dK [])) : G a = some (.dK []) := k.keep _ _ h fun z => by
  obtain ⟨x, y, w, e⟩ := hp
  rw [← z, h] at e
  cases e
theorem Ladled.lst0 {p : Addr} {H G : Hp} (k : Ladled p H G) (hp : Pot H p) {a : Addr} {xs : List V} (h : H a = some (.lst xs)) (l : xs.length ≠ 3) : G a = some (.lst xs) := k.keep _ _ h (pot_neL hp h l)
/-- a thing that fits nowhere -/
structure OddAt (K : PySem.W.Frag) (H : Hp) (v : V) : Prop where
  row : NoRowT K H v
  txt : NoTxt K H 200 v
  long : NoTxt K H 500 v
  num : NoNum K H 500 v
  unit : NoTup K H 0 0 v
  pair : NoTup K H 2 2 v
  clm : NoTup K H 2 4 v
  word : Isa K H v "str" false ∨ ∃ z : Str, v = .str z ∧ z ∈ oddWords
section
variable {K : PySem.W.Frag} {H : Hp} {a : Addr} {xs : List V}
theorem odd_non : OddAt K H .non :=
  have t : ∀ {m n : Nat}, NoTup K H m n .non := .inl (isa_non (kit_ty (by decide +kernel)))
  have s : Isa K H .non "str" false := isa_non (kit_ty (by decide +kernel))
  ⟨.inl t, .inl s, .inl s, .inr (.inl (isa_non (kit_ty (by decide +kernel)))), t, t, t, .inl s⟩
theorem odd_bl {b : Bool} : OddAt K H (.bl b) :=
  have t : ∀ {m n : Nat}, NoTup K H m n (.bl b) := .inl (isa_bl (kit_ty (by decide +kernel)))
  have s : Isa K H (.bl b) "str" false := isa_bl (kit_ty (by decide +kernel))
  ⟨.inl t, .inl s, .inl s, .inr (.inr ⟨isa_bl (kit_ty (by decide +kernel)), isa_bl (kit_ty (by decide +kernel))⟩), t, t, t, .inl s⟩
theorem odd_int {i : Int} (h : ¬ (0 ≤ i ∧ i ≤ 500)) : OddAt K H (.int i) :=
  have t : ∀ {m n : Nat}, NoTup K H m n (.int i) := .inl (isa_int (kit_ty (by decide +kernel)))
  have s : Isa K H (.int i) "str" false := isa_int (kit_ty (by decide +kernel))
  ⟨.inl t, .inl s, .inl s, .inl ⟨i, rfl, h⟩, t, t, t, .inl s⟩
theorem odd_str {z : Str} (l : z.length ≤ 1000) (h2 : isTxt z 200 = false) (h5 : isTxt z 500 = false) (hz : z ∈ oddWords) : OddAt K H (.str z) :=
  have t : ∀ {m n : Nat}, NoTup K H m n (.str z) := .inl (isa_str (kit_ty (by decide +kernel)))
  ⟨.inl t, .inr ⟨z, rfl, l, h2⟩, .inr ⟨z, rfl, l, h5⟩, .inr (.inl (isa_str (kit_ty (by decide +kernel)))), t, t, t, .inr ⟨z, rfl, hz⟩⟩
theorem odd_lst (e : H a = some (.lst xs)) : OddAt K H (.ref a) :=
  have t : ∀ {m n : Nat}, NoTup K H m n (.ref a) := .inl (isa_lst e (kit_ty (by decide +kernel)))
  have s : Isa K H (.ref a) "str" false := isa_lst e (kit_ty (by decide +kernel))
  ⟨.inl t, .inl s, .inl s, .inr (.inl (isa_lst e (kit_ty (by decide +kernel)))), t, t, t, .inl s⟩
theorem odd_dict (e : H a = some (.dK [])) : OddAt K H (.ref a) :=
  have t : ∀ {m n : Nat}, NoTup K H m n (.ref a) := .inl (isa_dict e (kit_ty (by decide +kernel)))
  have s : Isa K H (.ref a) "str" false := isa_dict e (kit_ty (by decide +kernel))
  ⟨.inl t, .inl s, .inl s, .inr (.inl (isa_dict e (kit_ty (by decide +kernel)))), t, t, t, .inl s⟩
theorem odd_tup {y : V} (e : H a = some (.tup [y])) (n : NoTold K H y) : OddAt K H (.ref a) :=
  have q : SqT K H a [y] := .inl (.inl e)
  have s : Isa K H (.ref a) "str" false := isa_tup e (kit_ty (by decide +kernel))
  ⟨.inr ⟨a, y, rfl, q, n⟩, .inl s, .inl s, .inr (.inl (isa_tup e (kit_ty (by decide +kernel)))), .inr ⟨a, _, rfl, q, by show ¬ (0 ≤ 1 ∧ 1 ≤ 0); decide⟩, .inr ⟨a, _, rfl, q, by show ¬ (2 ≤ 1 ∧ 1 ≤ 2); decide⟩, .inr ⟨a, _, rfl, q, by show ¬ (2 ≤ 1 ∧ 1 ≤ 4); decide⟩, .inl s⟩
end
abbrev rec8 : Rec := ⟨8, 3, 2, ("..." : String)⟩
abbrev rec7 : Rec := ⟨7, 3, 2, ("..." : String)⟩
abbrev rec0 : Rec := ⟨0, 2, 0, ("~" : String)⟩
theorem rec8_fit : rec8.fit := ⟨⟨by decide, by decide⟩, ⟨by decide, by decide⟩, ⟨by decide, by decide⟩, by decide +kernel⟩
theorem rec7_fit : rec7.fit := ⟨⟨by decide, by decide⟩, ⟨by decide, by decide⟩, ⟨by decide, by decide⟩, by decide +kernel⟩
theorem rec0_fit : rec0.fit := ⟨⟨by decide, by decide⟩, ⟨by decide, by decide⟩, ⟨by decide, by decide⟩, by decide +kernel⟩
theorem row_one {K : PySem.W.Frag} {H : Hp} {a t : Addr} {r : Rec} (e : H a = some (.tup [.ref t])) (et : H t = some (.tup r.vs)) (f : r.fit) : TRow K H a [(t, r)] := ⟨.inl (.inl e), fun q hq => by
  rw [List.mem_singleton.mp hq]
  exact ⟨et, f⟩, by show 1 ≤ 1; decide, by show 1 ≤ 4; decide⟩
theorem row_two {K : PySem.W.Frag} {H : Hp} {a t : Addr} {r : Rec} (e : H a = some (.tup [.ref t, .ref t])) (et : H t = some (.tup r.vs)) (f : r.fit) : TRow K H a [(t, r), (t, r)] := ⟨.inl (.inl e), fun q hq => by
  have e : q = (t, r) := by
    simp only [List.mem_cons, List.not_mem_nil, or_false] at hq
    rcases hq with e | e <;> exact e
  rw [e]
  exact ⟨et, f⟩, by show 1 ≤ 2; decide, by show 2 ≤ 4; decide⟩
theorem told8 : Told [rec8] [rec8, rec8] .non := by
  have f1 : ∀ r ∈ [rec8], r.fit := fun r hr => by rw [List.mem_singleton.mp hr]; exact rec8_fit
  have f2 : ∀ r ∈ [rec8, rec8], r.fit := fun r hr => by
    simp only [List.mem_cons, List.not_mem_nil, or_false] at hr
    rcases hr with rfl | rfl <;> exact rec8_fit
  have d : ∀ n ∈ List.range 81, planV [rec8] n = planV [rec8, rec8] n := by decide +kernel
  exact .inl ⟨rfl, alike_all f1 f2 (by show 1 ≤ 1; decide) (by show 1 ≤ 2; decide) fun n hn => d n (List.mem_range.mpr (by omega))⟩
theorem never8 (cs : List Nat) (l : cs.length = 9) : ¬ cuts [rec8] cs = ("abcd" : Str).cps.toList := fun e => by
  match cs, l, e with
  | [a, b, c, d, e, f, g, h, i], _, q =>
    have z : ([a, b, c, 46, 46, 46, h, i] : List Nat).length = ("abcd" : Str).cps.toList.length := congrArg List.length q
    exact absurd z (by show ¬ (8 : Nat) = _; decide +kernel)
def PapIs (H : Hp) (pk : Pp) (x : V) : Prop := (∃ y : Str, x = .str y ∧ (pk = .txt ∨ pk = .long)) ∨ (∃ t, x = .ref t ∧ H t = some (.tup []) ∧ pk = .unit) ∨ (∃ (t : Addr) (a b : V), x = .ref t ∧ H t = some (.tup [a, b]) ∧ pk = .pair)
/-- a right claim and its paper, in a list -/
def GoodP (K : PySem.W.Frag) (p : Addr) (H : Hp) (t : Addr) : Prop := ∃ (c a : Addr) (x : V) (f : Str × List Pt × Pp) (xs : List V), H t = some (.lst [.ref c, x]) ∧ f ∈ forms ∧ H c = some (.tup (.str f.1 :: .ref a :: xs)) ∧ (V.ref a :: xs).length = f.2.1.length ∧ ∀ J, Ladled p H J → PartsOk K J f.2.1 (.ref a :: xs) ∧ Yes K J (.ref c) x ∧ PapIs J f.2.2 x
theorem GoodP.keep {K : PySem.W.Frag} {p t : Addr} {H G : Hp} (h : GoodP K p H t) (hp : Pot H p) (k : Ladled p H G) : GoodP K p G t := by
  obtain ⟨c, a, x, f, xs, e, m, ec, l, b⟩ := h
  exact ⟨c, a, x, f, xs, k.lst0 hp e (by show ¬ (2 : Nat) = 3; decide), m, k.tup hp ec, l, fun J q => b J (k.trans q)⟩
theorem parts1 {K : PySem.W.Frag} {H : Hp} {a : Addr} {ps : List (Addr × Rec)} (h : TRow K H a ps) : PartsOk K H [.r] [.ref a] := fun i k y hk hy => by
  match i, hk, hy with
  | 0, hk, hy => cases hk; cases hy; exact ⟨a, ps, rfl, h⟩
  | n + 1, hk, hy => simp at hk
theorem parts2 {K : PySem.W.Frag} {H : Hp} {a b : Addr} {ps qs : List (Addr × Rec)} (h : TRow K H a ps) (g : TRow K H b qs) : PartsOk K H [.r, .r] [.ref a, .ref b] := fun i k y hk hy => by
  match i, hk, hy with
  | 0, hk, hy => cases hk; cases hy; exact ⟨a, ps, rfl, h⟩
  | 1, hk, hy => cases hk; cases hy; exact ⟨b, qs, rfl, g⟩
  | n + 2, hk, hy => simp at hk
theorem parts3 {K : PySem.W.Frag} {H : Hp} {a : Addr} {ps : List (Addr × Rec)} {z : Str} {n : Int} (h : TRow K H a ps) (l : z.length ≤ 1000) (hz : isTxt z 200 = true) (n0 : 0 ≤ n ∧ n ≤ 500) : PartsOk K H [.r, .t, .n] [.ref a, .str z, .int n] := fun i k y hk hy => by
  match i, hk, hy with
  | 0, hk, hy => cases hk; cases hy; exact ⟨a, ps, rfl, h⟩
  | 1, hk, hy => cases hk; cases hy; exact ⟨z, rfl, l, hz⟩
  | 2, hk, hy => cases hk; cases hy; exact ⟨n, rfl, n0⟩
  | n + 3, hk, hy => simp at hk
section
variable {P : Program} {w : World} {K : PySem.W.Frag} {mg : Str → Option Value} {base : Heap} {C : Addr}
def spGoodL (K : PySem.W.Frag) : Sp := fun vs H Q _ => ∃ (p : Addr), vs = [.ref p] ∧ Pot H p ∧ ∀ t G, Ladled p H G → GoodP K p G t → Q (.ref t) G
set_option maxHeartbeats 4000000 in
theorem cal_good (B : Bi mg) (D : At K mg "_law_good" s_law_good ps_law_good) (C_law_one_of : Cal P w K mg base 2 "_law_one_of" ps_law_one_of (spOneOf K)) : Cal P w K mg base 3 "_law_good" ps_law_good (spGoodL K) := by
  refine D.cal sc_law_good (fun vs H Q E h => ?_) (fun f cdv A outer s H vs Q E hr h => ?_)
  · obtain ⟨p, rfl, _⟩ := h
    rfl
  · obtain ⟨p, rfl, hp, k⟩ := h
    refine ⟨_, (pss_cons (ps_asg (pe_tup (pa_cons (pe_tup (pa_cons (pe_tup (pa_cons pe_int (pa_cons pe_int (pa_cons pe_int (pa_cons pe_str pa_nil))))) pa_nil)) (pa_cons (pe_tup (pa_cons (pe_tup (pa_cons pe_int (pa_cons pe_int (pa_cons pe_int (pa_cons pe_str pa_nil))))) pa_nil)) pa_nil))) (pg_tup rfl (pgs_cons (pg_name (i := 1) sc_law_good.nd rfl (.inl rfl)) (pgs_cons (pg_name (i := 2) sc_law_good.nd rfl (.inl rfl)) pgs_nil))))
      (pss_cons (ps_set (i := 3) sc_law_good.nd rfl (.inl rfl) (pe_lst (pa_cons (pe_lst (pa_cons (pe_tup (pa_cons pe_str (pa_cons (pv 1) (pa_cons (pv 2) pa_nil)))) (pa_cons pe_str pa_nil))) (pa_cons (pe_lst (pa_cons (pe_tup (pa_cons pe_str (pa_cons (pv 1) (pa_cons (pe_op op_catA (pv 1) (pv 1)) pa_nil)))) (pa_cons (pe_tup pa_nil) pa_nil))) pa_nil))))
      (pss_cons (ps_set (i := 3) sc_law_good.nd rfl (.inl rfl) (pe_op op_cat (pv 3) (pe_lst (pa_cons (pe_lst (pa_cons (pe_tup (pa_cons pe_str (pa_cons (pv 1) pa_nil))) (pa_cons (pe_tup pa_nil) pa_nil))) (pa_cons (pe_lst (pa_cons (pe_tup (pa_cons pe_str (pa_cons (pe_tup (pa_cons (pe_tup (pa_cons pe_int (pa_cons pe_int (pa_cons pe_int (pa_cons pe_str pa_nil))))) pa_nil)) pa_nil))) (pa_cons pe_str pa_nil))) pa_nil)))))
      (pss_cons (ps_set (i := 3) sc_law_good.nd rfl (.inl rfl) (pe_op op_cat (pv 3) (pe_lst (pa_cons (pe_lst (pa_cons (pe_tup (pa_cons pe_str (pa_cons (pv 1) (pa_cons pe_str (pa_cons pe_int pa_nil))))) (pa_cons pe_str pa_nil))) (pa_cons (pe_lst (pa_cons (pe_tup (pa_cons pe_str (pa_cons (pv 1) (pa_cons pe_str (pa_cons pe_int pa_nil))))) (pa_cons (pe_tup pa_nil) pa_nil))) pa_nil)))))
      (pss_one (ps_ret (pe_own C_law_one_of hr (by decide) (by rfl) (pa_cons (pv 0) (pa_cons (pe_op op_cat (pv 3) (pe_lst (pa_cons (pe_lst (pa_cons (pe_tup (pa_cons pe_str (pa_cons (pv 1) pa_nil))) (pa_cons (pe_tup (pa_cons pe_str (pa_cons pe_str pa_nil))) pa_nil))) pa_nil))) pa_nil))))))))), ?_⟩
    refine ⟨by show 4 ≤ sizeLine; decide, fun o1 no1 => ?_⟩
    have so1 : Same H (upd H o1 (.tup [.int 8, .int 3, .int 2, .str "..."])) := same_new no1
    have eo1 : upd H o1 (.tup [.int 8, .int 3, .int 2, .str "..."]) o1 = some (.tup [.int 8, .int 3, .int 2, .str "..."]) := upd_same
    generalize upd H o1 (.tup [.int 8, .int 3, .int 2, .str "..."]) = Ko1 at so1 eo1
    refine ⟨by show 1 ≤ sizeLine; decide, fun o2 no2 => ?_⟩
    have so2 : Same Ko1 (upd Ko1 o2 (.tup [.ref o1])) := same_new no2
    have eo2 : upd Ko1 o2 (.tup [.ref o1]) o2 = some (.tup [.ref o1]) := upd_same
    generalize upd Ko1 o2 (.tup [.ref o1]) = Ko2 at so2 eo2
    refine ⟨by show 4 ≤ sizeLine; decide, fun o3 no3 => ?_⟩
    have so3 : Same Ko2 (upd Ko2 o3 (.tup [.int 7, .int 3, .int 2, .str "..."])) := same_new no3
    have eo3 : upd Ko2 o3 (.tup [.int 7, .int 3, .int 2, .str "..."]) o3 = some (.tup [.int 7, .int 3, .int 2, .str "..."]) := upd_same
    generalize upd Ko2 o3 (.tup [.int 7, .int 3, .int 2, .str "..."]) = Ko3 at so3 eo3
    refine ⟨by show 1 ≤ sizeLine; decide, fun o4 no4 => ?_⟩
    have so4 : Same Ko3 (upd Ko3 o4 (.tup [.ref o3])) := same_new no4
    have eo4 : upd Ko3 o4 (.tup [.ref o3]) o4 = some (.tup [.ref o3]) := upd_same
    generalize upd Ko3 o4 (.tup [.ref o3]) = Ko4 at so4 eo4
    refine ⟨by show 2 ≤ sizeLine; decide, fun o5 no5 => ?_⟩
    have so5 : Same Ko4 (upd Ko4 o5 (.tup [.ref o2, .ref o4])) := same_new no5
    have eo5 : upd Ko4 o5 (.tup [.ref o2, .ref o4]) o5 = some (.tup [.ref o2, .ref o4]) := upd_same
    generalize upd Ko4 o5 (.tup [.ref o2, .ref o4]) = Ko5 at so5 eo5
    refine ⟨o5, _, rfl, .inl (.inl eo5), rfl, _, _, rfl, _, _, rfl, rfl, _, rfl, _, rfl, by show 3 ≤ sizeLine; decide, fun o6 no6 => ?_⟩
    have so6 : Same Ko5 (upd Ko5 o6 (.tup [.str "unlike", .ref o2, .ref o4])) := same_new no6
    have eo6 : upd Ko5 o6 (.tup [.str "unlike", .ref o2, .ref o4]) o6 = some (.tup [.str "unlike", .ref o2, .ref o4]) := upd_same
    generalize upd Ko5 o6 (.tup [.str "unlike", .ref o2, .ref o4]) = Ko6 at so6 eo6
    refine ⟨by show 2 ≤ sizeLine; decide, fun o7 no7 => ?_⟩
    have so7 : Same Ko6 (upd Ko6 o7 (.lst [.ref o6, .str ".....0.."])) := same_new no7
    have eo7 : upd Ko6 o7 (.lst [.ref o6, .str ".....0.."]) o7 = some (.lst [.ref o6, .str ".....0.."]) := upd_same
    generalize upd Ko6 o7 (.lst [.ref o6, .str ".....0.."]) = Ko7 at so7 eo7
    replace eo2 := so3 _ _ eo2
    replace eo2 := so4 _ _ eo2
    replace eo2 := so5 _ _ eo2
    replace eo2 := so6 _ _ eo2
    replace eo2 := so7 _ _ eo2
    refine ⟨_, rfl, _, rfl, _, rfl, cat_ok eo2 eo2 (by show 1 + 1 ≤ sizeLine; decide) fun o8 Ko8 so8 eo8 => ?_⟩
    have eo8 : Ko8 o8 = some (.tup [.ref o1, .ref o1]) := eo8
    refine ⟨by show 3 ≤ sizeLine; decide, fun o9 no9 => ?_⟩
    have so9 : Same Ko8 (upd Ko8 o9 (.tup [.str "alike", .ref o2, .ref o8])) := same_new no9
    have eo9 : upd Ko8 o9 (.tup [.str "alike", .ref o2, .ref o8]) o9 = some (.tup [.str "alike", .ref o2, .ref o8]) := upd_same
    generalize upd Ko8 o9 (.tup [.str "alike", .ref o2, .ref o8]) = Ko9 at so9 eo9
    refine ⟨by show 0 ≤ sizeLine; decide, fun o10 no10 => ?_⟩
    have so10 : Same Ko9 (upd Ko9 o10 (.tup [])) := same_new no10
    have eo10 : upd Ko9 o10 (.tup []) o10 = some (.tup []) := upd_same
    generalize upd Ko9 o10 (.tup []) = Ko10 at so10 eo10
    refine ⟨by show 2 ≤ sizeLine; decide, fun o11 no11 => ?_⟩
    have so11 : Same Ko10 (upd Ko10 o11 (.lst [.ref o9, .ref o10])) := same_new no11
    have eo11 : upd Ko10 o11 (.lst [.ref o9, .ref o10]) o11 = some (.lst [.ref o9, .ref o10]) := upd_same
    generalize upd Ko10 o11 (.lst [.ref o9, .ref o10]) = Ko11 at so11 eo11
    refine ⟨by show 2 ≤ sizeLine; decide, fun o12 no12 => ?_⟩
    have so12 : Same Ko11 (upd Ko11 o12 (.lst [.ref o7, .ref o11])) := same_new no12
    have eo12 : upd Ko11 o12 (.lst [.ref o7, .ref o11]) o12 = some (.lst [.ref o7, .ref o11]) := upd_same
    generalize upd Ko11 o12 (.lst [.ref o7, .ref o11]) = Ko12 at so12 eo12
    refine ⟨_, rfl, _, rfl, by show 2 ≤ sizeLine; decide, fun o13 no13 => ?_⟩
    have so13 : Same Ko12 (upd Ko12 o13 (.tup [.str "stable", .ref o2])) := same_new no13
    have eo13 : upd Ko12 o13 (.tup [.str "stable", .ref o2]) o13 = some (.tup [.str "stable", .ref o2]) := upd_same
    generalize upd Ko12 o13 (.tup [.str "stable", .ref o2]) = Ko13 at so13 eo13
    refine ⟨by show 0 ≤ sizeLine; decide, fun o14 no14 => ?_⟩
    have so14 : Same Ko13 (upd Ko13 o14 (.tup [])) := same_new no14
    have eo14 : upd Ko13 o14 (.tup []) o14 = some (.tup []) := upd_same
    generalize upd Ko13 o14 (.tup []) = Ko14 at so14 eo14
    refine ⟨by show 2 ≤ sizeLine; decide, fun o15 no15 => ?_⟩
    have so15 : Same Ko14 (upd Ko14 o15 (.lst [.ref o13, .ref o14])) := same_new no15
    have eo15 : upd Ko14 o15 (.lst [.ref o13, .ref o14]) o15 = some (.lst [.ref o13, .ref o14]) := upd_same
    generalize upd Ko14 o15 (.lst [.ref o13, .ref o14]) = Ko15 at so15 eo15
    refine ⟨by show 4 ≤ sizeLine; decide, fun o16 no16 => ?_⟩
    have so16 : Same Ko15 (upd Ko15 o16 (.tup [.int 0, .int 2, .int 0, .str "~"])) := same_new no16
    have eo16 : upd Ko15 o16 (.tup [.int 0, .int 2, .int 0, .str "~"]) o16 = some (.tup [.int 0, .int 2, .int 0, .str "~"]) := upd_same
    generalize upd Ko15 o16 (.tup [.int 0, .int 2, .int 0, .str "~"]) = Ko16 at so16 eo16
    refine ⟨by show 1 ≤ sizeLine; decide, fun o17 no17 => ?_⟩
    have so17 : Same Ko16 (upd Ko16 o17 (.tup [.ref o16])) := same_new no17
    have eo17 : upd Ko16 o17 (.tup [.ref o16]) o17 = some (.tup [.ref o16]) := upd_same
    generalize upd Ko16 o17 (.tup [.ref o16]) = Ko17 at so17 eo17
    refine ⟨by show 2 ≤ sizeLine; decide, fun o18 no18 => ?_⟩
    have so18 : Same Ko17 (upd Ko17 o18 (.tup [.str "unstable", .ref o17])) := same_new no18
    have eo18 : upd Ko17 o18 (.tup [.str "unstable", .ref o17]) o18 = some (.tup [.str "unstable", .ref o17]) := upd_same
    generalize upd Ko17 o18 (.tup [.str "unstable", .ref o17]) = Ko18 at so18 eo18
    refine ⟨by show 2 ≤ sizeLine; decide, fun o19 no19 => ?_⟩
    have so19 : Same Ko18 (upd Ko18 o19 (.lst [.ref o18, .str "."])) := same_new no19
    have eo19 : upd Ko18 o19 (.lst [.ref o18, .str "."]) o19 = some (.lst [.ref o18, .str "."]) := upd_same
    generalize upd Ko18 o19 (.lst [.ref o18, .str "."]) = Ko19 at so19 eo19
    refine ⟨by show 2 ≤ sizeLine; decide, fun o20 no20 => ?_⟩
    have so20 : Same Ko19 (upd Ko19 o20 (.lst [.ref o15, .ref o19])) := same_new no20
    have eo20 : upd Ko19 o20 (.lst [.ref o15, .ref o19]) o20 = some (.lst [.ref o15, .ref o19]) := upd_same
    generalize upd Ko19 o20 (.lst [.ref o15, .ref o19]) = Ko20 at so20 eo20
    replace eo12 := so13 _ _ eo12
    replace eo12 := so14 _ _ eo12
    replace eo12 := so15 _ _ eo12
    replace eo12 := so16 _ _ eo12
    replace eo12 := so17 _ _ eo12
    replace eo12 := so18 _ _ eo12
    replace eo12 := so19 _ _ eo12
    replace eo12 := so20 _ _ eo12
    refine ⟨_, _, _, _, rfl, rfl, eo12, eo20, by show 2 + 2 ≤ sizeLine; decide, fun o21 no21 => ?_⟩
    have so21 : Same Ko20 (upd Ko20 o21 (.lst ([.ref o7, .ref o11] ++ [.ref o15, .ref o19]))) := same_new no21
    have eo21 : upd Ko20 o21 (.lst ([.ref o7, .ref o11] ++ [.ref o15, .ref o19])) o21 = some (.lst [.ref o7, .ref o11, .ref o15, .ref o19]) := upd_same
    generalize upd Ko20 o21 (.lst ([.ref o7, .ref o11] ++ [.ref o15, .ref o19])) = Ko21 at so21 eo21
    refine ⟨_, rfl, _, rfl, by show 4 ≤ sizeLine; decide, fun o22 no22 => ?_⟩
    have so22 : Same Ko21 (upd Ko21 o22 (.tup [.str "possible", .ref o2, .str "abc...ij", .int 9])) := same_new no22
    have eo22 : upd Ko21 o22 (.tup [.str "possible", .ref o2, .str "abc...ij", .int 9]) o22 = some (.tup [.str "possible", .ref o2, .str "abc...ij", .int 9]) := upd_same
    generalize upd Ko21 o22 (.tup [.str "possible", .ref o2, .str "abc...ij", .int 9]) = Ko22 at so22 eo22
    refine ⟨by show 2 ≤ sizeLine; decide, fun o23 no23 => ?_⟩
    have so23 : Same Ko22 (upd Ko22 o23 (.lst [.ref o22, .str "abcdefgij"])) := same_new no23
    have eo23 : upd Ko22 o23 (.lst [.ref o22, .str "abcdefgij"]) o23 = some (.lst [.ref o22, .str "abcdefgij"]) := upd_same
    generalize upd Ko22 o23 (.lst [.ref o22, .str "abcdefgij"]) = Ko23 at so23 eo23
    refine ⟨_, rfl, by show 4 ≤ sizeLine; decide, fun o24 no24 => ?_⟩
    have so24 : Same Ko23 (upd Ko23 o24 (.tup [.str "impossible", .ref o2, .str "abcd", .int 9])) := same_new no24
    have eo24 : upd Ko23 o24 (.tup [.str "impossible", .ref o2, .str "abcd", .int 9]) o24 = some (.tup [.str "impossible", .ref o2, .str "abcd", .int 9]) := upd_same
    generalize upd Ko23 o24 (.tup [.str "impossible", .ref o2, .str "abcd", .int 9]) = Ko24 at so24 eo24
    refine ⟨by show 0 ≤ sizeLine; decide, fun o25 no25 => ?_⟩
    have so25 : Same Ko24 (upd Ko24 o25 (.tup [])) := same_new no25
    have eo25 : upd Ko24 o25 (.tup []) o25 = some (.tup []) := upd_same
    generalize upd Ko24 o25 (.tup []) = Ko25 at so25 eo25
    refine ⟨by show 2 ≤ sizeLine; decide, fun o26 no26 => ?_⟩
    have so26 : Same Ko25 (upd Ko25 o26 (.lst [.ref o24, .ref o25])) := same_new no26
    have eo26 : upd Ko25 o26 (.lst [.ref o24, .ref o25]) o26 = some (.lst [.ref o24, .ref o25]) := upd_same
    generalize upd Ko25 o26 (.lst [.ref o24, .ref o25]) = Ko26 at so26 eo26
    refine ⟨by show 2 ≤ sizeLine; decide, fun o27 no27 => ?_⟩
    have so27 : Same Ko26 (upd Ko26 o27 (.lst [.ref o23, .ref o26])) := same_new no27
    have eo27 : upd Ko26 o27 (.lst [.ref o23, .ref o26]) o27 = some (.lst [.ref o23, .ref o26]) := upd_same
    generalize upd Ko26 o27 (.lst [.ref o23, .ref o26]) = Ko27 at so27 eo27
    replace eo21 := so22 _ _ eo21
    replace eo21 := so23 _ _ eo21
    replace eo21 := so24 _ _ eo21
    replace eo21 := so25 _ _ eo21
    replace eo21 := so26 _ _ eo21
    replace eo21 := so27 _ _ eo21
    refine ⟨_, _, _, _, rfl, rfl, eo21, eo27, by show 4 + 2 ≤ sizeLine; decide, fun o28 no28 => ?_⟩
    have so28 : Same Ko27 (upd Ko27 o28 (.lst ([.ref o7, .ref o11, .ref o15, .ref o19] ++ [.ref o23, .ref o26]))) := same_new no28
    have eo28 : upd Ko27 o28 (.lst ([.ref o7, .ref o11, .ref o15, .ref o19] ++ [.ref o23, .ref o26])) o28 = some (.lst [.ref o7, .ref o11, .ref o15, .ref o19, .ref o23, .ref o26]) := upd_same
    generalize upd Ko27 o28 (.lst ([.ref o7, .ref o11, .ref o15, .ref o19] ++ [.ref o23, .ref o26])) = Ko28 at so28 eo28
    refine ⟨_, rfl, _, rfl, _, rfl, by show 2 ≤ sizeLine; decide, fun o29 no29 => ?_⟩
    have so29 : Same Ko28 (upd Ko28 o29 (.tup [.str "confused", .ref o2])) := same_new no29
    have eo29 : upd Ko28 o29 (.tup [.str "confused", .ref o2]) o29 = some (.tup [.str "confused", .ref o2]) := upd_same
    generalize upd Ko28 o29 (.tup [.str "confused", .ref o2]) = Ko29 at so29 eo29
    refine ⟨by show 2 ≤ sizeLine; decide, fun o30 no30 => ?_⟩
    have so30 : Same Ko29 (upd Ko29 o30 (.tup [.str "........", .str "........."])) := same_new no30
    have eo30 : upd Ko29 o30 (.tup [.str "........", .str "........."]) o30 = some (.tup [.str "........", .str "........."]) := upd_same
    generalize upd Ko29 o30 (.tup [.str "........", .str "........."]) = Ko30 at so30 eo30
    refine ⟨by show 2 ≤ sizeLine; decide, fun o31 no31 => ?_⟩
    have so31 : Same Ko30 (upd Ko30 o31 (.lst [.ref o29, .ref o30])) := same_new no31
    have eo31 : upd Ko30 o31 (.lst [.ref o29, .ref o30]) o31 = some (.lst [.ref o29, .ref o30]) := upd_same
    generalize upd Ko30 o31 (.lst [.ref o29, .ref o30]) = Ko31 at so31 eo31
    refine ⟨by show 1 ≤ sizeLine; decide, fun o32 no32 => ?_⟩
    have so32 : Same Ko31 (upd Ko31 o32 (.lst [.ref o31])) := same_new no32
    have eo32 : upd Ko31 o32 (.lst [.ref o31]) o32 = some (.lst [.ref o31]) := upd_same
    generalize upd Ko31 o32 (.lst [.ref o31]) = Ko32 at so32 eo32
    replace eo28 := so29 _ _ eo28
    replace eo28 := so30 _ _ eo28
    replace eo28 := so31 _ _ eo28
    replace eo28 := so32 _ _ eo28
    refine ⟨_, _, _, _, rfl, rfl, eo28, eo32, by show 6 + 1 ≤ sizeLine; decide, fun o33 no33 => ?_⟩
    have so33 : Same Ko32 (upd Ko32 o33 (.lst ([.ref o7, .ref o11, .ref o15, .ref o19, .ref o23, .ref o26] ++ [.ref o31]))) := same_new no33
    have eo33 : upd Ko32 o33 (.lst ([.ref o7, .ref o11, .ref o15, .ref o19, .ref o23, .ref o26] ++ [.ref o31])) o33 = some (.lst [.ref o7, .ref o11, .ref o15, .ref o19, .ref o23, .ref o26, .ref o31]) := upd_same
    generalize upd Ko32 o33 (.lst ([.ref o7, .ref o11, .ref o15, .ref o19, .ref o23, .ref o26] ++ [.ref o31])) = Ko33 at so33 eo33
    have to33 : Same Ko32 Ko33 := so33
    have to32 : Same Ko31 Ko33 := so32.trans to33
    have to31 : Same Ko30 Ko33 := so31.trans to32
    have to30 : Same Ko29 Ko33 := so30.trans to31
    have to29 : Same Ko28 Ko33 := so29.trans to30
    have to28 : Same Ko27 Ko33 := so28.trans to29
    have to27 : Same Ko26 Ko33 := so27.trans to28
    have to26 : Same Ko25 Ko33 := so26.trans to27
    have to25 : Same Ko24 Ko33 := so25.trans to26
    have to24 : Same Ko23 Ko33 := so24.trans to25
    have to23 : Same Ko22 Ko33 := so23.trans to24
    have to22 : Same Ko21 Ko33 := so22.trans to23
    have to21 : Same Ko20 Ko33 := so21.trans to22
    have to20 : Same Ko19 Ko33 := so20.trans to21
    have to19 : Same Ko18 Ko33 := so19.trans to20
    have to18 : Same Ko17 Ko33 := so18.trans to19
    have to17 : Same Ko16 Ko33 := so17.trans to18
    have to16 : Same Ko15 Ko33 := so16.trans to17
    have to15 : Same Ko14 Ko33 := so15.trans to16
    have to14 : Same Ko13 Ko33 := so14.trans to15
    have to13 : Same Ko12 Ko33 := so13.trans to14
    have to12 : Same Ko11 Ko33 := so12.trans to13
    have to11 : Same Ko10 Ko33 := so11.trans to12
    have to10 : Same Ko9 Ko33 := so10.trans to11
    have to9 : Same Ko8 Ko33 := so9.trans to10
    have to8 : Same Ko7 Ko33 := so8.trans to9
    have to7 : Same Ko6 Ko33 := so7.trans to8
    have to6 : Same Ko5 Ko33 := so6.trans to7
    have to5 : Same Ko4 Ko33 := so5.trans to6
    have to4 : Same Ko3 Ko33 := so4.trans to5
    have to3 : Same Ko2 Ko33 := so3.trans to4
    have to2 : Same Ko1 Ko33 := so2.trans to3
    have to1 : Same H Ko33 := so1.trans to2
    have eo1 := to2 _ _ eo1
    have eo2 := to8 _ _ eo2
    have eo3 := to4 _ _ eo3
    have eo4 := to5 _ _ eo4
    have eo5 := to6 _ _ eo5
    have eo6 := to7 _ _ eo6
    have eo7 := to8 _ _ eo7
    have eo8 := to9 _ _ eo8
    have eo9 := to10 _ _ eo9
    have eo10 := to11 _ _ eo10
    have eo11 := to12 _ _ eo11
    have eo12 := to21 _ _ eo12
    have eo13 := to14 _ _ eo13
    have eo14 := to15 _ _ eo14
    have eo15 := to16 _ _ eo15
    have eo16 := to17 _ _ eo16
    have eo17 := to18 _ _ eo17
    have eo18 := to19 _ _ eo18
    have eo19 := to20 _ _ eo19
    have eo20 := to21 _ _ eo20
    have eo21 := to28 _ _ eo21
    have eo22 := to23 _ _ eo22
    have eo23 := to24 _ _ eo23
    have eo24 := to25 _ _ eo24
    have eo25 := to26 _ _ eo25
    have eo26 := to27 _ _ eo26
    have eo27 := to28 _ _ eo27
    have eo28 := to33 _ _ eo28
    have eo29 := to30 _ _ eo29
    have eo30 := to31 _ _ eo30
    have eo31 := to32 _ _ eo31
    have eo32 := to33 _ _ eo32
    have To : Same H Ko33 := to1
    have LK : Ladled p H Ko33 := Ladled.ofSame hp To
    have hK := LK.pot
    have qo7 : GoodP K p Ko33 o7 := ⟨o6, o2, .str ".....0..", ("unlike", [.r, .r], .txt), [.ref o4], eo7, by simp [forms], eo6, rfl, fun J q => ⟨(parts2 (row_one (r := rec8) (q.tup hK eo2) (q.tup hK eo1) rec8_fit) (row_one (r := rec7) (q.tup hK eo4) (q.tup hK eo3) rec7_fit)), (.unlike (q.tup hK eo6) (row_one (r := rec8) (q.tup hK eo2) (q.tup hK eo1) rec8_fit) (row_one (r := rec7) (q.tup hK eo4) (q.tup hK eo3) rec7_fit) (by decide +kernel) (by show cuts [rec8] _ ≠ cuts [rec7] _; decide +kernel)), .inl ⟨_, rfl, .inl rfl⟩⟩⟩
    have qo11 : GoodP K p Ko33 o11 := ⟨o9, o2, .ref o10, ("alike", [.r, .r], .unit), [.ref o8], eo11, by simp [forms], eo9, rfl, fun J q => ⟨(parts2 (row_one (r := rec8) (q.tup hK eo2) (q.tup hK eo1) rec8_fit) (row_two (r := rec8) (q.tup hK eo8) (q.tup hK eo1) rec8_fit)), (.alike (q.tup hK eo9) (row_one (r := rec8) (q.tup hK eo2) (q.tup hK eo1) rec8_fit) (row_two (r := rec8) (q.tup hK eo8) (q.tup hK eo1) rec8_fit) (.inl (.inl (q.tup hK eo10))) told8), .inr (.inl ⟨_, rfl, (q.tup hK eo10), rfl⟩)⟩⟩
    have qo15 : GoodP K p Ko33 o15 := ⟨o13, o2, .ref o14, ("stable", [.r], .unit), [], eo15, by simp [forms], eo13, rfl, fun J q => ⟨(parts1 (row_one (r := rec8) (q.tup hK eo2) (q.tup hK eo1) rec8_fit)), (.stable (q.tup hK eo13) (row_one (r := rec8) (q.tup hK eo2) (q.tup hK eo1) rec8_fit) (.inl (.inl (q.tup hK eo14))) told8), .inr (.inl ⟨_, rfl, (q.tup hK eo14), rfl⟩)⟩⟩
    have qo19 : GoodP K p Ko33 o19 := ⟨o18, o17, .str ".", ("unstable", [.r], .txt), [], eo19, by simp [forms], eo18, rfl, fun J q => ⟨(parts1 (row_one (r := rec0) (q.tup hK eo17) (q.tup hK eo16) rec0_fit)), (.unstable (q.tup hK eo18) (row_one (r := rec0) (q.tup hK eo17) (q.tup hK eo16) rec0_fit) (by decide +kernel) (by show cuts [rec0] (cuts [rec0] _) ≠ cuts [rec0] _; decide +kernel)), .inl ⟨_, rfl, .inl rfl⟩⟩⟩
    have qo23 : GoodP K p Ko33 o23 := ⟨o22, o2, .str "abcdefgij", ("possible", [.r, .t, .n], .long), [.str "abc...ij", .int 9], eo23, by simp [forms], eo22, rfl, fun J q => ⟨(parts3 (row_one (r := rec8) (q.tup hK eo2) (q.tup hK eo1) rec8_fit) (by decide +kernel) (by decide +kernel) (by decide)), (.possible (n := 9) (q.tup hK eo22) (row_one (r := rec8) (q.tup hK eo2) (q.tup hK eo1) rec8_fit) (by decide +kernel) (by decide +kernel) (by decide) (by decide +kernel) (by show cuts [rec8] _ = _; decide +kernel)), .inl ⟨_, rfl, .inr rfl⟩⟩⟩
    have qo26 : GoodP K p Ko33 o26 := ⟨o24, o2, .ref o25, ("impossible", [.r, .t, .n], .unit), [.str "abcd", .int 9], eo26, by simp [forms], eo24, rfl, fun J q => ⟨(parts3 (row_one (r := rec8) (q.tup hK eo2) (q.tup hK eo1) rec8_fit) (by decide +kernel) (by decide +kernel) (by decide)), (.impossible (n := 9) (q.tup hK eo24) (row_one (r := rec8) (q.tup hK eo2) (q.tup hK eo1) rec8_fit) (by decide +kernel) (by decide) (.inl (.inl (q.tup hK eo25))) never8), .inr (.inl ⟨_, rfl, (q.tup hK eo25), rfl⟩)⟩⟩
    have qo31 : GoodP K p Ko33 o31 := ⟨o29, o2, .ref o30, ("confused", [.r], .pair), [], eo31, by simp [forms], eo29, rfl, fun J q => ⟨(parts1 (row_one (r := rec8) (q.tup hK eo2) (q.tup hK eo1) rec8_fit)), (.confused (q.tup hK eo29) (row_one (r := rec8) (q.tup hK eo2) (q.tup hK eo1) rec8_fit) (.inl (.inl (q.tup hK eo30))) (by decide +kernel) (by decide +kernel) (by decide +kernel) (by show cuts [rec8] _ = cuts [rec8] _; decide +kernel)), .inr (.inr ⟨_, _, _, rfl, (q.tup hK eo30), rfl⟩)⟩⟩
    refine ⟨p, hK, .inl ⟨o33, _, rfl, .inl (.inl eo33), pot_neL hK eo33 (by show ¬ (7 : Nat) = 3; decide), by show 0 < 7; decide, by show 7 < 1000; decide, fun v G mem L => ?_⟩⟩
    have LH : Ladled p H G := LK.trans L
    simp only [List.mem_cons, List.not_mem_nil, or_false] at mem
    rcases mem with rfl | rfl | rfl | rfl | rfl | rfl | rfl
    · exact k _ G LH (qo7.keep hK L)
    · exact k _ G LH (qo11.keep hK L)
    · exact k _ G LH (qo15.keep hK L)
    · exact k _ G LH (qo19.keep hK L)
    · exact k _ G LH (qo23.keep hK L)
    · exact k _ G LH (qo26.keep hK L)
    · exact k _ G LH (qo31.keep hK L)
def spOddL (K : PySem.W.Frag) : Sp := fun vs H Q _ => ∃ (p : Addr), vs = [.ref p] ∧ Pot H p ∧ ∀ v G, Ladled p H G → (∀ J, Ladled p G J → OddAt K J v) → Q v G
set_option maxHeartbeats 4000000 in
theorem cal_odd (B : Bi mg) (D : At K mg "_law_odd" s_law_odd ps_law_odd) (C_law_one_of : Cal P w K mg base 2 "_law_one_of" ps_law_one_of (spOneOf K)) : Cal P w K mg base 3 "_law_odd" ps_law_odd (spOddL K) := by
  refine D.cal sc_law_odd (fun vs H Q E h => ?_) (fun f cdv A outer s H vs Q E hr h => ?_)
  · obtain ⟨p, rfl, _⟩ := h
    rfl
  · obtain ⟨p, rfl, hp, k⟩ := h
    refine ⟨_, (pss_cons (ps_set (i := 1) sc_law_odd.nd rfl (.inl rfl) (pe_lst (pa_cons pe_non (pa_cons pe_bl (pa_cons (pe_un un_neg pe_int) (pa_cons pe_int (pa_cons (pe_op op_pow pe_int pe_int) (pa_cons pe_str (pa_cons pe_str (pa_cons pe_str (pa_cons (pe_lst pa_nil) (pa_cons pe_dnewK (pa_cons (pe_tup (pa_cons pe_non pa_nil)) (pa_cons (pe_tup (pa_cons (pe_tup (pa_cons pe_int (pa_cons pe_int (pa_cons pe_int pa_nil)))) pa_nil)) (pa_cons (pe_tup (pa_cons (pe_tup (pa_cons pe_int (pa_cons pe_int (pa_cons pe_int (pa_cons pe_int pa_nil))))) pa_nil)) (pa_cons (pe_lst (pa_cons (pe_tup (pa_cons pe_str pa_nil)) pa_nil)) pa_nil))))))))))))))))
      (pss_one (ps_ret (pe_own C_law_one_of hr (by decide) (by rfl) (pa_cons (pv 0) (pa_cons (pe_op op_cat (pv 1) (pe_lst (pa_cons (pe_tup (pa_cons (pe_tup (pa_cons pe_int (pa_cons pe_int (pa_cons pe_int (pa_cons pe_str pa_nil))))) pa_nil)) (pa_cons (pe_tup (pa_cons (pe_tup (pa_cons pe_bl (pa_cons pe_int (pa_cons pe_int (pa_cons pe_str pa_nil))))) pa_nil)) (pa_cons (pe_tup (pa_cons (pe_tup (pa_cons pe_int (pa_cons pe_int (pa_cons pe_int (pa_cons pe_str pa_nil))))) pa_nil)) (pa_cons (pe_op op_add_str (pe_op op_mul_strN pe_str pe_int) pe_str) pa_nil)))))) pa_nil)))))), ?_⟩
    refine ⟨_, rfl, _, _, rfl, rfl, ⟨by decide, by decide, by decide⟩, by show 0 ≤ sizeLine; decide, fun o1 no1 => ?_⟩
    have so1 : Same H (upd H o1 (.lst [])) := same_new no1
    have eo1 : upd H o1 (.lst []) o1 = some (.lst []) := upd_same
    generalize upd H o1 (.lst []) = Ko1 at so1 eo1
    refine fun o2 no2 => ?_
    have so2 : Same Ko1 (upd Ko1 o2 (.dK [])) := same_new no2
    have eo2 : upd Ko1 o2 (.dK []) o2 = some (.dK []) := upd_same
    generalize upd Ko1 o2 (.dK []) = Ko2 at so2 eo2
    refine ⟨by show 1 ≤ sizeLine; decide, fun o3 no3 => ?_⟩
    have so3 : Same Ko2 (upd Ko2 o3 (.tup [.non])) := same_new no3
    have eo3 : upd Ko2 o3 (.tup [.non]) o3 = some (.tup [.non]) := upd_same
    generalize upd Ko2 o3 (.tup [.non]) = Ko3 at so3 eo3
    refine ⟨by show 3 ≤ sizeLine; decide, fun o4 no4 => ?_⟩
    have so4 : Same Ko3 (upd Ko3 o4 (.tup [.int 1, .int 2, .int 3])) := same_new no4
    have eo4 : upd Ko3 o4 (.tup [.int 1, .int 2, .int 3]) o4 = some (.tup [.int 1, .int 2, .int 3]) := upd_same
    generalize upd Ko3 o4 (.tup [.int 1, .int 2, .int 3]) = Ko4 at so4 eo4
    refine ⟨by show 1 ≤ sizeLine; decide, fun o5 no5 => ?_⟩
    have so5 : Same Ko4 (upd Ko4 o5 (.tup [.ref o4])) := same_new no5
    have eo5 : upd Ko4 o5 (.tup [.ref o4]) o5 = some (.tup [.ref o4]) := upd_same
    generalize upd Ko4 o5 (.tup [.ref o4]) = Ko5 at so5 eo5
    refine ⟨by show 4 ≤ sizeLine; decide, fun o6 no6 => ?_⟩
    have so6 : Same Ko5 (upd Ko5 o6 (.tup [.int 1, .int 2, .int 3, .int 4])) := same_new no6
    have eo6 : upd Ko5 o6 (.tup [.int 1, .int 2, .int 3, .int 4]) o6 = some (.tup [.int 1, .int 2, .int 3, .int 4]) := upd_same
    generalize upd Ko5 o6 (.tup [.int 1, .int 2, .int 3, .int 4]) = Ko6 at so6 eo6
    refine ⟨by show 1 ≤ sizeLine; decide, fun o7 no7 => ?_⟩
    have so7 : Same Ko6 (upd Ko6 o7 (.tup [.ref o6])) := same_new no7
    have eo7 : upd Ko6 o7 (.tup [.ref o6]) o7 = some (.tup [.ref o6]) := upd_same
    generalize upd Ko6 o7 (.tup [.ref o6]) = Ko7 at so7 eo7
    refine ⟨by show 1 ≤ sizeLine; decide, fun o8 no8 => ?_⟩
    have so8 : Same Ko7 (upd Ko7 o8 (.tup [.str "a"])) := same_new no8
    have eo8 : upd Ko7 o8 (.tup [.str "a"]) o8 = some (.tup [.str "a"]) := upd_same
    generalize upd Ko7 o8 (.tup [.str "a"]) = Ko8 at so8 eo8
    refine ⟨by show 1 ≤ sizeLine; decide, fun o9 no9 => ?_⟩
    have so9 : Same Ko8 (upd Ko8 o9 (.lst [.ref o8])) := same_new no9
    have eo9 : upd Ko8 o9 (.lst [.ref o8]) o9 = some (.lst [.ref o8]) := upd_same
    generalize upd Ko8 o9 (.lst [.ref o8]) = Ko9 at so9 eo9
    refine ⟨by show 14 ≤ sizeLine; decide, fun o10 no10 => ?_⟩
    have so10 : Same Ko9 (upd Ko9 o10 (.lst [.non, .bl true, .int (-1), .int 501, .int (10 ^ (19 : Int).toNat), .str "A", .str "Alike", .str " ", .ref o1, .ref o2, .ref o3, .ref o5, .ref o7, .ref o9])) := same_new no10
    have eo10 : upd Ko9 o10 (.lst [.non, .bl true, .int (-1), .int 501, .int (10 ^ (19 : Int).toNat), .str "A", .str "Alike", .str " ", .ref o1, .ref o2, .ref o3, .ref o5, .ref o7, .ref o9]) o10 = some (.lst [.non, .bl true, .int (-1), .int 501, .int (10 ^ (19 : Int).toNat), .str "A", .str "Alike", .str " ", .ref o1, .ref o2, .ref o3, .ref o5, .ref o7, .ref o9]) := upd_same
    generalize upd Ko9 o10 (.lst [.non, .bl true, .int (-1), .int 501, .int (10 ^ (19 : Int).toNat), .str "A", .str "Alike", .str " ", .ref o1, .ref o2, .ref o3, .ref o5, .ref o7, .ref o9]) = Ko10 at so10 eo10
    refine ⟨_, rfl, _, rfl, by show 4 ≤ sizeLine; decide, fun o11 no11 => ?_⟩
    have so11 : Same Ko10 (upd Ko10 o11 (.tup [.int 41, .int 0, .int 0, .str ""])) := same_new no11
    have eo11 : upd Ko10 o11 (.tup [.int 41, .int 0, .int 0, .str ""]) o11 = some (.tup [.int 41, .int 0, .int 0, .str ""]) := upd_same
    generalize upd Ko10 o11 (.tup [.int 41, .int 0, .int 0, .str ""]) = Ko11 at so11 eo11
    refine ⟨by show 1 ≤ sizeLine; decide, fun o12 no12 => ?_⟩
    have so12 : Same Ko11 (upd Ko11 o12 (.tup [.ref o11])) := same_new no12
    have eo12 : upd Ko11 o12 (.tup [.ref o11]) o12 = some (.tup [.ref o11]) := upd_same
    generalize upd Ko11 o12 (.tup [.ref o11]) = Ko12 at so12 eo12
    refine ⟨by show 4 ≤ sizeLine; decide, fun o13 no13 => ?_⟩
    have so13 : Same Ko12 (upd Ko12 o13 (.tup [.bl true, .int 0, .int 0, .str ""])) := same_new no13
    have eo13 : upd Ko12 o13 (.tup [.bl true, .int 0, .int 0, .str ""]) o13 = some (.tup [.bl true, .int 0, .int 0, .str ""]) := upd_same
    generalize upd Ko12 o13 (.tup [.bl true, .int 0, .int 0, .str ""]) = Ko13 at so13 eo13
    refine ⟨by show 1 ≤ sizeLine; decide, fun o14 no14 => ?_⟩
    have so14 : Same Ko13 (upd Ko13 o14 (.tup [.ref o13])) := same_new no14
    have eo14 : upd Ko13 o14 (.tup [.ref o13]) o14 = some (.tup [.ref o13]) := upd_same
    generalize upd Ko13 o14 (.tup [.ref o13]) = Ko14 at so14 eo14
    refine ⟨by show 4 ≤ sizeLine; decide, fun o15 no15 => ?_⟩
    have so15 : Same Ko14 (upd Ko14 o15 (.tup [.int 1, .int 2, .int 3, .str "...."])) := same_new no15
    have eo15 : upd Ko14 o15 (.tup [.int 1, .int 2, .int 3, .str "...."]) o15 = some (.tup [.int 1, .int 2, .int 3, .str "...."]) := upd_same
    generalize upd Ko14 o15 (.tup [.int 1, .int 2, .int 3, .str "...."]) = Ko15 at so15 eo15
    refine ⟨by show 1 ≤ sizeLine; decide, fun o16 no16 => ?_⟩
    have so16 : Same Ko15 (upd Ko15 o16 (.tup [.ref o15])) := same_new no16
    have eo16 : upd Ko15 o16 (.tup [.ref o15]) o16 = some (.tup [.ref o15]) := upd_same
    generalize upd Ko15 o16 (.tup [.ref o15]) = Ko16 at so16 eo16
    refine ⟨_, _, rfl, rfl, by decide, by decide, by decide +kernel, fun yo17 hyo17 => ?_⟩
    have hyo17 := a399 hyo17
    subst hyo17
    refine ⟨_, _, rfl, rfl, by decide +kernel, by show 4 ≤ sizeLine; decide, fun o18 no18 => ?_⟩
    have so18 : Same Ko16 (upd Ko16 o18 (.lst [.ref o12, .ref o14, .ref o16, .str (⟨(List.replicate 399 97).toArray⟩ ++ ("-" : Str))])) := same_new no18
    have eo18 : upd Ko16 o18 (.lst [.ref o12, .ref o14, .ref o16, .str (⟨(List.replicate 399 97).toArray⟩ ++ ("-" : Str))]) o18 = some (.lst [.ref o12, .ref o14, .ref o16, .str (⟨(List.replicate 399 97).toArray⟩ ++ ("-" : Str))]) := upd_same
    generalize upd Ko16 o18 (.lst [.ref o12, .ref o14, .ref o16, .str (⟨(List.replicate 399 97).toArray⟩ ++ ("-" : Str))]) = Ko18 at so18 eo18
    replace eo10 := so11 _ _ eo10
    replace eo10 := so12 _ _ eo10
    replace eo10 := so13 _ _ eo10
    replace eo10 := so14 _ _ eo10
    replace eo10 := so15 _ _ eo10
    replace eo10 := so16 _ _ eo10
    replace eo10 := so18 _ _ eo10
    refine ⟨_, _, _, _, rfl, rfl, eo10, eo18, by show 14 + 4 ≤ sizeLine; decide, fun o19 no19 => ?_⟩
    have so19 : Same Ko18 (upd Ko18 o19 (.lst ([.non, .bl true, .int (-1), .int 501, .int (10 ^ (19 : Int).toNat), .str "A", .str "Alike", .str " ", .ref o1, .ref o2, .ref o3, .ref o5, .ref o7, .ref o9] ++ [.ref o12, .ref o14, .ref o16, .str (⟨(List.replicate 399 97).toArray⟩ ++ ("-" : Str))]))) := same_new no19
    have eo19 : upd Ko18 o19 (.lst ([.non, .bl true, .int (-1), .int 501, .int (10 ^ (19 : Int).toNat), .str "A", .str "Alike", .str " ", .ref o1, .ref o2, .ref o3, .ref o5, .ref o7, .ref o9] ++ [.ref o12, .ref o14, .ref o16, .str (⟨(List.replicate 399 97).toArray⟩ ++ ("-" : Str))])) o19 = some (.lst [.non, .bl true, .int (-1), .int 501, .int (10 ^ (19 : Int).toNat), .str "A", .str "Alike", .str " ", .ref o1, .ref o2, .ref o3, .ref o5, .ref o7, .ref o9, .ref o12, .ref o14, .ref o16, .str (⟨(List.replicate 399 97).toArray⟩ ++ ("-" : Str))]) := upd_same
    generalize upd Ko18 o19 (.lst ([.non, .bl true, .int (-1), .int 501, .int (10 ^ (19 : Int).toNat), .str "A", .str "Alike", .str " ", .ref o1, .ref o2, .ref o3, .ref o5, .ref o7, .ref o9] ++ [.ref o12, .ref o14, .ref o16, .str (⟨(List.replicate 399 97).toArray⟩ ++ ("-" : Str))])) = Ko19 at so19 eo19
    have to19 : Same Ko18 Ko19 := so19
    have to18 : Same Ko16 Ko19 := so18.trans to19
    have to16 : Same Ko15 Ko19 := so16.trans to18
    have to15 : Same Ko14 Ko19 := so15.trans to16
    have to14 : Same Ko13 Ko19 := so14.trans to15
    have to13 : Same Ko12 Ko19 := so13.trans to14
    have to12 : Same Ko11 Ko19 := so12.trans to13
    have to11 : Same Ko10 Ko19 := so11.trans to12
    have to10 : Same Ko9 Ko19 := so10.trans to11
    have to9 : Same Ko8 Ko19 := so9.trans to10
    have to8 : Same Ko7 Ko19 := so8.trans to9
    have to7 : Same Ko6 Ko19 := so7.trans to8
    have to6 : Same Ko5 Ko19 := so6.trans to7
    have to5 : Same Ko4 Ko19 := so5.trans to6
    have to4 : Same Ko3 Ko19 := so4.trans to5
    have to3 : Same Ko2 Ko19 := so3.trans to4
    have to2 : Same Ko1 Ko19 := so2.trans to3
    have to1 : Same H Ko19 := so1.trans to2
    have eo1 := to2 _ _ eo1
    have eo2 := to3 _ _ eo2
    have eo3 := to4 _ _ eo3
    have eo4 := to5 _ _ eo4
    have eo5 := to6 _ _ eo5
    have eo6 := to7 _ _ eo6
    have eo7 := to8 _ _ eo7
    have eo8 := to9 _ _ eo8
    have eo9 := to10 _ _ eo9
    have eo10 := to19 _ _ eo10
    have eo11 := to12 _ _ eo11
    have eo12 := to13 _ _ eo12
    have eo13 := to14 _ _ eo13
    have eo14 := to15 _ _ eo14
    have eo15 := to16 _ _ eo15
    have eo16 := to18 _ _ eo16
    have eo18 := to19 _ _ eo18
    have To : Same H Ko19 := to1
    have LK : Ladled p H Ko19 := Ladled.ofSame hp To
    have hK := LK.pot
    refine ⟨p, hK, .inl ⟨o19, _, rfl, .inl (.inl eo19), pot_neL hK eo19 (by show ¬ (18 : Nat) = 3; decide), by show 0 < 18; decide, by show 18 < 1000; decide, fun v G mem L => ?_⟩⟩
    have LH : Ladled p H G := LK.trans L
    simp only [List.mem_cons, List.not_mem_nil, or_false] at mem
    rcases mem with rfl | rfl | rfl | rfl | rfl | rfl | rfl | rfl | rfl | rfl | rfl | rfl | rfl | rfl | rfl | rfl | rfl | rfl
    · exact k _ G LH fun J j => (have q := L.trans j; odd_non)
    · exact k _ G LH fun J j => (have q := L.trans j; odd_bl)
    · exact k _ G LH fun J j => (have q := L.trans j; odd_int (by decide))
    · exact k _ G LH fun J j => (have q := L.trans j; odd_int (by decide))
    · exact k _ G LH fun J j => (have q := L.trans j; odd_int (by decide))
    · exact k _ G LH fun J j => (have q := L.trans j; odd_str (by decide +kernel) (by decide +kernel) (by decide +kernel) (by decide +kernel))
    · exact k _ G LH fun J j => (have q := L.trans j; odd_str (by decide +kernel) (by decide +kernel) (by decide +kernel) (by decide +kernel))
    · exact k _ G LH fun J j => (have q := L.trans j; odd_str (by decide +kernel) (by decide +kernel) (by decide +kernel) (by decide +kernel))
    · exact k _ G LH fun J j => (have q := L.trans j; odd_lst (q.lst0 hK eo1 (by show ¬ (0 : Nat) = 3; decide)))
    · exact k _ G LH fun J j => (have q := L.trans j; odd_dict (q.dict hK eo2))
    · exact k _ G LH fun J j => (have q := L.trans j; odd_tup (q.tup hK eo3) (.inl (.inl (isa_non (kit_ty (by decide +kernel))))))
    · exact k _ G LH fun J j => (have q := L.trans j; odd_tup (q.tup hK eo5) (.inl (.inr ⟨_, _, rfl, .inl (.inl (q.tup hK eo4)), by show ¬ (4 ≤ 3 ∧ 3 ≤ 4); decide⟩)))
    · exact k _ G LH fun J j => (have q := L.trans j; odd_tup (q.tup hK eo7) (.inr ⟨_, _, _, _, _, rfl, (q.tup hK eo6), ⟨_, rfl, by decide, by decide⟩, ⟨_, rfl, by decide, by decide⟩, .inr ⟨⟨_, rfl, by decide, by decide⟩, .inl (isa_int (kit_ty (by decide +kernel)))⟩⟩))
    · exact k _ G LH fun J j => (have q := L.trans j; odd_lst (q.lst0 hK eo9 (by show ¬ (1 : Nat) = 3; decide)))
    · exact k _ G LH fun J j => (have q := L.trans j; odd_tup (q.tup hK eo12) (.inr ⟨_, _, _, _, _, rfl, (q.tup hK eo11), ⟨_, rfl, by decide, by decide⟩, ⟨_, rfl, by decide, by decide⟩, .inl (.inl ⟨_, rfl, by decide⟩)⟩))
    · exact k _ G LH fun J j => (have q := L.trans j; odd_tup (q.tup hK eo14) (.inr ⟨_, _, _, _, _, rfl, (q.tup hK eo13), ⟨_, rfl, by decide, by decide⟩, ⟨_, rfl, by decide, by decide⟩, .inl (.inr (.inr ⟨isa_bl (kit_ty (by decide +kernel)), isa_bl (kit_ty (by decide +kernel))⟩))⟩))
    · exact k _ G LH fun J j => (have q := L.trans j; odd_tup (q.tup hK eo16) (.inr ⟨_, _, _, _, _, rfl, (q.tup hK eo15), ⟨_, rfl, by decide, by decide⟩, ⟨_, rfl, by decide, by decide⟩, .inr ⟨⟨_, rfl, by decide, by decide⟩, .inr ⟨_, rfl, by decide +kernel, by decide +kernel⟩⟩⟩))
    · exact k _ G LH fun J j => (have q := L.trans j; odd_str (by decide +kernel) (by decide +kernel) (by decide +kernel) (by decide +kernel))
end
end Gu
namespace Gu
open PySem PySem.Spec PyProof.Rows L2
/-! ### _law_bent, _law_right -/
def rListK (K : PySem.W.Frag) : List V → Hp → VK → Prop := fun xs H Q => ∃ p ys, xs = [.ref p] ∧ (SqL K H p ys ∨ SqT K H p ys) ∧ ∀ l, H l = none → Q (.ref l) (upd H l (.lst ys))
theorem oddWords_eq : oddWords = [("A" : Str), ("Alike" : Str), (" " : Str), ("aaaaaaaaaaaaaaaaaaaaaaaaaaaaaaaaaaaaaaaaaaaaaaaaaaaaaaaaaaaaaaaaaaaaaaaaaaaaaaaaaaaaaaaaaaaaaaaaaaaaaaaaaaaaaaaaaaaaaaaaaaaaaaaaaaaaaaaaaaaaaaaaaaaaaaaaaaaaaaaaaaaaaaaaaaaaaaaaaaaaaaaaaaaaaaaaaaaaaaaaaaaaaaaaaaaaaaaaaaaaaaaaaaaaaaaaaaaaaaaaaaaaaaaaaaaaaaaaaaaaaaaaaaaaaaaaaaaaaaaaaaaaaaaaaaaaaaaaaaaaaaaaaaaaaaaaaaaaaaaaaaaaaaaaaaaaaaaaaaaaaaaaaaaaaaaaaaaaaaaaaaaaaaaaaaaaaaaaaaaaaaaaaaaaaaaaaaaaaaa-" : Str)] := by
  unfold oddWords
  rw [show bigA = ("aaaaaaaaaaaaaaaaaaaaaaaaaaaaaaaaaaaaaaaaaaaaaaaaaaaaaaaaaaaaaaaaaaaaaaaaaaaaaaaaaaaaaaaaaaaaaaaaaaaaaaaaaaaaaaaaaaaaaaaaaaaaaaaaaaaaaaaaaaaaaaaaaaaaaaaaaaaaaaaaaaaaaaaaaaaaaaaaaaaaaaaaaaaaaaaaaaaaaaaaaaaaaaaaaaaaaaaaaaaaaaaaaaaaaaaaaaaaaaaaaaaaaaaaaaaaaaaaaaaaaaaaaaaaaaaaaaaaaaaaaaaaaaaaaaaaaaaaaaaaaaaaaaaaaaaaaaaaaaaaaaaaaaaaaaaaaaaaaaaaaaaaaaaaaaaaaaaaaaaaaaaaaaaaaaaaaaaaaaaaaaaaaaaaaaaaaaaaaaa-" : Str) from by decide +kernel]
theorem cutV_take (xs : List V) (i : Nat) : cutV xs none (some (i : Int)) = xs.take i := by
  unfold cutV
  rw [HT.sIx_none, HT.sIx_nat, List.drop_zero, Nat.sub_zero, List.take_eq_take_iff]
  omega
theorem forms_len {f : Str × List Pt × Pp} (h : f ∈ forms) : 1 ≤ f.2.1.length ∧ f.2.1.length ≤ 3 := by
  unfold forms at h
  simp only [List.mem_cons, List.not_mem_nil, or_false] at h
  rcases h with rfl | rfl | rfl | rfl | rfl | rfl | rfl <;> decide
theorem odd_part {K : PySem.W.Frag} {H : Hp} {v : V} (h : OddAt K H v) : ∀ k : Pt, PartNo K H k v
  | .r => h.row
  | .t => h.txt
  | .n => h.num
theorem odd_paper {K : PySem.W.Frag} {H : Hp} {v : V} (h : OddAt K H v) : ∀ k : Pp, PaperNo K H k v
  | .unit => h.unit
  | .txt => h.txt
  | .long => h.long
  | .pair => h.pair
section
variable {K : PySem.W.Frag} {H : Hp} {f : Str × List Pt × Pp} {c a : Addr} {xs ys : List V} {x v : V} {i : Nat}
theorem few_no (hc : H c = some (.tup xs)) (h : xs.length < 2 ∨ 4 < xs.length) : NoClaim K H (.ref c) := .inl (.inr ⟨c, xs, rfl, .inl (.inl hc), by omega⟩)
/-- the parts are too many or too few -/
theorem many_no (hf : f ∈ forms) (hc : H c = some (.tup (.str f.1 :: ys))) (h : ys.length ≠ f.2.1.length) : HoldsNo K H (.ref c) x := by
  by_cases e : 1 ≤ ys.length ∧ ys.length ≤ 3
  · exact .inr ⟨f, c, ys, hf, rfl, hc, e.1, e.2, .inl h⟩
  · exact .inl (few_no hc (by rw [List.length_cons]; omega))
/-- the word is left out, or something else -/
theorem word_no (hc : H c = some (.tup (v :: ys))) (h : Isa K H v "str" false ∨ ∃ z : Str, v = .str z ∧ z ∈ oddWords) : HoldsNo K H (.ref c) x := by
  by_cases e : 1 ≤ ys.length ∧ ys.length ≤ 3
  · exact .inl (.inr ⟨c, v, ys, rfl, hc, e.1, e.2, h⟩)
  · exact .inl (few_no hc (by rw [List.length_cons]; omega))
theorem part_no (hf : f ∈ forms) (l : ys.length = f.2.1.length) (ok : PartsOk K H f.2.1 ys) (hi : i < ys.length) (o : ∀ k, PartNo K H k v) (hc : H c = some (.tup (.str f.1 :: (ys.take i ++ v :: ys.drop (i + 1))))) : HoldsNo K H (.ref c) x := by
  have e : ys.take i ++ v :: ys.drop (i + 1) = ys.set i v := by rw [List.set_eq_take_append_cons_drop, if_pos hi]
  rw [e] at hc
  have fl := forms_len hf
  have hk : i < f.2.1.length := by omega
  refine .inr ⟨f, c, ys.set i v, hf, rfl, hc, by rw [List.length_set]; omega, by rw [List.length_set]; omega, .inr (.inl ⟨by rw [List.length_set]; exact l, i, f.2.1[i], v, List.getElem?_eq_getElem hk, by rw [List.getElem?_set_self hi], o _, fun j k z ij h1 h2 => ?_⟩)⟩
  rw [List.getElem?_set_ne (Ne.symm ij)] at h2
  exact ok j k z h1 h2
theorem paper_no (hf : f ∈ forms) (l : ys.length = f.2.1.length) (ok : PartsOk K H f.2.1 ys) (hc : H c = some (.tup (.str f.1 :: ys))) (n : PaperNo K H f.2.2 x) : HoldsNo K H (.ref c) x := by
  have fl := forms_len hf
  exact .inr ⟨f, c, ys, hf, rfl, hc, by omega, by omega, .inr (.inr ⟨l, ok, n⟩)⟩
end
section
variable {P : Program} {w : World} {K : PySem.W.Frag} {mg : Str → Option Value} {base : Heap} {C : Addr}
def spBentL (K : PySem.W.Frag) : Sp := fun vs H Q _ => ∃ (p c a : Addr) (x : V) (f : Str × List Pt × Pp) (xs : List V), vs = [.ref p, .ref c, x] ∧ Pot H p ∧ f ∈ forms ∧ H c = some (.tup (.str f.1 :: .ref a :: xs)) ∧ (V.ref a :: xs).length = f.2.1.length ∧ (∀ J, Ladled p H J → PartsOk K J f.2.1 (.ref a :: xs)) ∧
  ∀ (q : Addr) (u y : V) (G : Hp), Ladled p H G → G q = some (.tup [u, y]) → HoldsNo K G u y → Q (.ref q) G
theorem HoldsNo.same {K : PySem.W.Frag} {H G : Hp} {u y : V} (s : Same H G) (h : HoldsNo K H u y) : HoldsNo K G u y := by
  rcases h with (h | ⟨c, a, xs, e, hc, l1, l3, o⟩) | ⟨f, c, xs, hf, e, hc, l1, l3, b⟩
  · exact .inl (.inl (h.same s))
  · exact .inl (.inr ⟨c, a, xs, e, s _ _ hc, l1, l3, o.imp (Isa.same s) id⟩)
  · exact .inr ⟨f, c, xs, hf, e, s _ _ hc, l1, l3, b.same s⟩
set_option maxHeartbeats 4000000 in
theorem cal_bent (B : Bi mg) (D : At K mg "_law_bent" s_law_bent ps_law_bent) (C_law_ladle : Cal P w K mg base 1 "_law_ladle" ps_law_ladle spLadle) (C_law_odd : Cal P w K mg base 3 "_law_odd" ps_law_odd (spOddL K)) : Cal P w K mg base 4 "_law_bent" ps_law_bent (spBentL K) := by
  refine D.cal sc_law_bent (fun vs H Q E h => ?_) (fun f cdv A outer s H vs Q E hr h => ?_)
  · obtain ⟨p, c, a, x, f, xs, rfl, _⟩ := h
    rfl
  · obtain ⟨p, c, a, x, f, xs, rfl, hp, hf, hc, ln, ok, k⟩ := h
    refine ⟨_, (pss_cons (ps_par3 (i := 3) (j := 4) (l := 5) (by rfl) sc_law_bent.nd rfl rfl rfl (by decide) (by decide) (by decide) rfl rfl rfl (pa_cons (pe_own C_law_ladle hr (by decide) (by rfl) (pa_cons (pv 0) (pa_cons pe_int pa_nil))) (pa_cons (pe_own C_law_ladle hr (by decide) (by rfl) (pa_cons (pv 0) (pa_cons (pe_callB call_len (by rfl) B.len (by decide +kernel) (pa_cons (pv 1) pa_nil)) pa_nil))) (pa_cons (pe_own C_law_odd hr (by decide) (by rfl) (pa_cons (pv 0) pa_nil)) pa_nil))) (by rfl))
      (pss_cons (ps_if (pt_cmpR op_eq (pv 3) pe_int (nomark _)) (pss_one (ps_ret (pe_tup (pa_cons (pv 5) (pa_cons (pv 2) pa_nil))))) pss_nil)
      (pss_cons (ps_if (pt_cmpR op_eq (pv 3) pe_int (nomark _)) (pss_one (ps_ret (pe_tup (pa_cons (pv 1) (pa_cons (pv 5) pa_nil))))) pss_nil)
      (pss_cons (ps_if (pt_cmpR op_eq (pv 3) pe_int (nomark _)) (pss_one (ps_ret (pe_tup (pa_cons (pe_callTy call_list_of (by rfl) B.list (by decide +kernel) (pa_cons (pv 1) pa_nil)) (pa_cons (pv 2) pa_nil))))) pss_nil)
      (pss_cons (ps_if (pt_cmpR op_eq (pv 3) pe_int (nomark _)) (pss_one (ps_ret (pe_tup (pa_cons (pe_op op_catA (pv 1) (pe_tup (pa_cons (pv 5) pa_nil))) (pa_cons (pv 2) pa_nil))))) pss_nil)
      (pss_cons (ps_if (pt_cmpR op_eq (pv 3) pe_int (nomark _)) (pss_one (ps_ret (pe_tup (pa_cons (pe_op op_catA (pe_slice sl_tupA (pv 1) po_none (po_some (pv 4))) (pe_slice sl_tupA (pv 1) (po_some (pe_op op_add (pv 4) pe_int)) po_none)) (pa_cons (pv 2) pa_nil))))) pss_nil)
      (pss_one (ps_ret (pe_tup (pa_cons (pe_op op_catA (pe_op op_catA (pe_slice sl_tupA (pv 1) po_none (po_some (pv 4))) (pe_tup (pa_cons (pv 5) pa_nil))) (pe_slice sl_tupA (pv 1) (po_some (pe_op op_add (pv 4) pe_int)) po_none)) (pa_cons (pv 2) pa_nil))))))))))), ?_⟩
    have fl := forms_len hf
    refine ⟨_, rfl, p, 6, rfl, hp, by decide, by decide, fun d1 G1 d10 d16 L1 => ?_⟩
    have hc1 := L1.tup hp hc
    refine ⟨_, rfl, _, rfl, _, _, rfl, .inr ⟨_, .inl (.inl hc1), rfl⟩, p, _, rfl, L1.pot, by rw [List.length_cons]; omega, by rw [List.length_cons]; omega, fun d2 G2 d20 d2n L2 => ?_⟩
    refine ⟨_, rfl, p, rfl, L2.pot, fun v G3 L3 odd => ?_⟩
    have L := L1.trans (L2.trans L3)
    have hc3 := L.tup hp hc
    have odd3 := odd G3 (.refl L3.pot)
    have ok3 := ok G3 L
    rw [List.length_cons] at d2n
    obtain ⟨i, rfl⟩ := Int.eq_ofNat_of_zero_le d20
    generalize hys : V.ref a :: xs = ys at hc3 ln ok3 d2n
    clear hc1 L1 L2 L3 odd ok hc
    refine ⟨_, _, _, rfl, ?_⟩
    refine ⟨_, rfl, rfl, _, rfl, ite2 (fun _ => ?_) (fun _ => ?_)⟩
    · refine ⟨_, rfl, _, rfl, by show 2 ≤ sizeLine; decide, fun q nq => k q v x _ (L.same (same_new nq)) upd_same (HoldsNo.same (same_new nq) (.inl (.inl odd3.clm)))⟩
    refine ⟨_, rfl, rfl, _, rfl, ite2 (fun _ => ?_) (fun _ => ?_)⟩
    · refine ⟨_, rfl, _, rfl, by show 2 ≤ sizeLine; decide, fun q nq => k q _ v _ (L.same (same_new nq)) upd_same (HoldsNo.same (same_new nq) (paper_no hf ln ok3 hc3 (odd_paper odd3 _)))⟩
    refine ⟨_, rfl, rfl, _, rfl, ite2 (fun _ => ?_) (fun _ => ?_)⟩
    · refine ⟨_, rfl, c, _, rfl, .inr (.inl (.inl hc3)), fun l nl => ?_⟩
      refine ⟨_, rfl, by show 2 ≤ sizeLine; decide, fun q nq => k q (.ref l) x _ ((L.same (same_new nl)).same (same_new nq)) upd_same (HoldsNo.same (same_new nq) (.inl (.inl (.inl (isa_lst upd_same (kit_ty (by decide +kernel)))))))⟩
    refine ⟨_, rfl, rfl, _, rfl, ite2 (fun _ => ?_) (fun _ => ?_)⟩
    · refine ⟨_, rfl, _, rfl, by show 1 ≤ sizeLine; decide, fun u nu => ?_⟩
      have su : Same G3 (upd G3 u (.tup [v])) := same_new nu
      refine cat_ok (su _ _ hc3) (upd_same : upd G3 u (.tup [v]) u = _) (Nat.le_of_lt (small1000 (by show _ + 1 ≤ 1000; rw [List.length_cons]; omega))) fun U G4 s4 e4 => ?_
      refine ⟨_, rfl, by show 2 ≤ sizeLine; decide, fun q nq => k q (.ref U) x _ (((L.same su).same s4).same (same_new nq)) upd_same (HoldsNo.same (same_new nq) (many_no hf (ys := ys ++ [v]) e4 (by rw [List.length_append, ln]; show _ + 1 ≠ _; omega)))⟩
    refine ⟨_, rfl, rfl, _, rfl, ite2 (fun _ => ?_) (fun _ => ?_)⟩
    · refine ⟨_, rfl, _, rfl, _, rfl, sl_ok hc3 fun U1 G4 s4 e4 => ?_⟩
      rw [cutV_take] at e4
      refine ⟨_, rfl, _, rfl, _, _, rfl, rfl, _, rfl, ?_⟩
      refine noPart ?_
      refine sl_ok (s4 _ _ hc3) fun U2 G5 s5 e5 => ?_
      have e5 : G5 U2 = some (.tup ((V.str f.1 :: ys).drop (i + 1))) := by
        rw [e5]
        congr 1
        congr 1
        exact cutV_back (V.str f.1 :: ys) (i + 1)
      refine cat_ok (s5 _ _ e4) e5 (Nat.le_of_lt (small1000 (by rw [List.length_take, List.length_drop, List.length_cons]; omega))) fun U G6 s6 e6 => ?_
      refine ⟨_, rfl, by show 2 ≤ sizeLine; decide, fun q nq => k q (.ref U) x _ ((((L.same s4).same s5).same s6).same (same_new nq)) upd_same (HoldsNo.same (same_new nq) ?_)⟩
      cases i with
      | zero =>
        have e6 : G6 U = some (.tup ys) := e6
        rw [← hys] at e6
        have ea : ∃ ps, TRow K G3 a ps := by
          obtain ⟨b, ps, e, hT⟩ : PartOk K G3 .r (V.ref a) := by
            have z : ys[0]? = some (V.ref a) := by rw [← hys]; rfl
            unfold forms at hf
            simp only [List.mem_cons, List.not_mem_nil, or_false] at hf
            rcases hf with rfl | rfl | rfl | rfl | rfl | rfl | rfl <;> exact ok3 0 .r _ rfl z
          cases e
          exact ⟨ps, hT⟩
        obtain ⟨ps, hT⟩ := ea
        exact word_no e6 (.inl (isa_tup_str ((hT.same s4).same (s5.trans s6)).tp))
      | succ j =>
        have e6 : G6 U = some (.tup (V.str f.1 :: (ys.take j ++ ys.drop (j + 1)))) := e6
        refine many_no hf e6 ?_
        rw [List.length_append, List.length_take, List.length_drop]
        omega
    · refine ⟨_, rfl, _, rfl, _, rfl, sl_ok hc3 fun U1 G4 s4 e4 => ?_⟩
      rw [cutV_take] at e4
      refine ⟨_, rfl, by show 1 ≤ sizeLine; decide, fun u nu => ?_⟩
      have su : Same G4 (upd G4 u (.tup [v])) := same_new nu
      refine cat_ok (su _ _ e4) (upd_same : upd G4 u (.tup [v]) u = _) (Nat.le_of_lt (small1000 (by show _ + 1 ≤ 1000; rw [List.length_take, List.length_cons]; omega))) fun U3 G7 s7 e7 => ?_
      refine ⟨_, rfl, _, rfl, _, _, rfl, rfl, _, rfl, ?_⟩
      refine noPart ?_
      refine sl_ok (s7 _ _ (su _ _ (s4 _ _ hc3))) fun U2 G5 s5 e5 => ?_
      have e5 : G5 U2 = some (.tup ((V.str f.1 :: ys).drop (i + 1))) := by
        rw [e5]
        congr 1
        congr 1
        exact cutV_back (V.str f.1 :: ys) (i + 1)
      refine cat_ok (s5 _ _ e7) e5 (Nat.le_of_lt (small1000 (by rw [List.length_append, List.length_take, List.length_drop, List.length_cons]; show _ + 1 + _ ≤ 1000; omega))) fun U G6 s6 e6 => ?_
      have sa : Same G3 G6 := s4.trans (su.trans (s7.trans (s5.trans s6)))
      refine ⟨_, rfl, by show 2 ≤ sizeLine; decide, fun q nq => k q (.ref U) x _ ((L.same sa).same (same_new nq)) upd_same (HoldsNo.same (same_new nq) ?_)⟩
      cases i with
      | zero =>
        have e6 : G6 U = some (.tup (v :: ys)) := e6
        exact word_no e6 (odd3.word.imp (Isa.same sa) id)
      | succ j =>
        have e6 : G6 U = some (.tup (V.str f.1 :: (ys.take j ++ v :: ys.drop (j + 1)))) := by
          rw [e6]
          simp
        have odd6 : ∀ k, PartNo K G6 k v := fun k => (odd_part odd3 k).same sa
        exact part_no hf ln (ok3.same sa) (by omega) odd6 e6
theorem lst_part {K : PySem.W.Frag} {J : Hp} {l : Addr} {xs : List V} (e : J l = some (.lst xs)) : ∀ k : Pt, PartNo K J k (.ref l)
  | .r => .inl (.inl (isa_lst e (kit_ty (by decide +kernel))))
  | .t => .inl (isa_lst e (kit_ty (by decide +kernel)))
  | .n => .inr (.inl (isa_lst e (kit_ty (by decide +kernel))))
theorem first_row {K : PySem.W.Frag} {J : Hp} {f : Str × List Pt × Pp} {a : Addr} {xs : List V} (hf : f ∈ forms) (ok : PartsOk K J f.2.1 (.ref a :: xs)) : ∃ ps, TRow K J a ps := by
  obtain ⟨b, ps, e, hT⟩ : PartOk K J .r (V.ref a) := by
    unfold forms at hf
    simp only [List.mem_cons, List.not_mem_nil, or_false] at hf
    rcases hf with rfl | rfl | rfl | rfl | rfl | rfl | rfl <;> exact ok 0 .r _ rfl rfl
  cases e
  exact ⟨ps, hT⟩
theorem pap_isa {J : Hp} {pk : Pp} {x : V} (h : PapIs J pk x) : (∃ y : Str, x = .str y) ∨ ∃ (t : Addr) (ys : List V), x = .ref t ∧ J t = some (.tup ys) ∧ ((pk = .unit ∧ ys = []) ∨ (pk = .pair ∧ ys.length = 2)) := by
  rcases h with ⟨y, rfl, _⟩ | ⟨t, rfl, e, k⟩ | ⟨t, a, b, rfl, e, k⟩
  · exact .inl ⟨y, rfl⟩
  · exact .inr ⟨t, [], rfl, e, .inl ⟨k, rfl⟩⟩
  · exact .inr ⟨t, [a, b], rfl, e, .inr ⟨k, rfl⟩⟩
theorem list_paper {J : Hp} {l : Addr} {xs : List V} (e : J l = some (.lst xs)) : ∀ k : Pp, PaperNo K J k (.ref l)
  | .unit => .inl (isa_lst e (kit_ty (by decide +kernel)))
  | .txt => .inl (isa_lst e (kit_ty (by decide +kernel)))
  | .long => .inl (isa_lst e (kit_ty (by decide +kernel)))
  | .pair => .inl (isa_lst e (kit_ty (by decide +kernel)))
set_option maxHeartbeats 4000000 in
theorem cal_right (B : Bi mg) (D : At K mg "_law_right" s_law_right ps_law_right) (C_law_good : Cal P w K mg base 3 "_law_good" ps_law_good (spGoodL K)) (C_law_bent : Cal P w K mg base 4 "_law_bent" ps_law_bent (spBentL K)) (C_yes : Cal P w K mg base 7 "holds" ps_holds (spYes K)) (C_no : Cal P w K mg base 7 "holds" ps_holds (spHoldsB K)) : CalG P w K mg base 8 "_law_right" ps_law_right spRight := by
  refine D.calG sc_law_right (fun vs H Q E h => ?_) (fun f cdv A outer s H vs Q E hr quiet h => ?_)
  · obtain ⟨p, rfl, _⟩ := h
    rfl
  · obtain ⟨p, rfl, hp, k⟩ := h
    refine ⟨_, (pss_cons (ps_for PassesOwn.never rfl (pi_range1 (by rfl) B.range (pa_cons pe_int pa_nil)) (pg_name (i := 1) sc_law_right.nd rfl (.inl rfl))
      (pss_cons (ps_asg (pe_own C_law_good hr (by decide) (by rfl) (pa_cons (pv 0) pa_nil)) (pg_tupL rfl (pgs_cons (pg_name (i := 2) sc_law_right.nd rfl (.inl rfl)) (pgs_cons (pg_name (i := 3) sc_law_right.nd rfl (.inl rfl)) pgs_nil))))
      (pss_cons (ps_if (pt_cmpR op_notBl (pe_own C_yes hr (by decide) (by rfl) (pa_cons (pv 2) (pa_cons (pv 3) pa_nil))) pe_bl (nomark _)) (pss_one (ps_ret pe_bl)) pss_nil)
      (pss_cons (ps_asg (pe_own C_law_bent hr (by decide) (by rfl) (pa_cons (pv 0) (pa_cons (pv 2) (pa_cons (pv 3) pa_nil)))) (pg_tup rfl (pgs_cons (pg_name (i := 4) sc_law_right.nd rfl (.inl rfl)) (pgs_cons (pg_name (i := 5) sc_law_right.nd rfl (.inl rfl)) pgs_nil))))
      (pss_cons (ps_if (pt_cmpR op_notBl (pe_own C_no hr (by decide) (by rfl) (pa_cons (pv 4) (pa_cons (pv 5) pa_nil))) pe_bl (nomark _)) (pss_one (ps_ret pe_bl)) pss_nil)
      (C8.pss_cut (ps_if (pt_val (pe_callB call_isi (by rfl) B.isinstance (by decide +kernel) (pa_cons (pv 3) (pa_cons (pe_bltn (v := .ty "tuple") (by rfl) B.tuple (by decide +kernel) rfl) pa_nil)))) (pss_one (ps_if (PW.pt (pw_or (pt_val (pe_own C_no hr (by decide) (by rfl) (pa_cons (pv 2) (pa_cons (pe_callTy call_list_of (by rfl) B.list (by decide +kernel) (pa_cons (pv 3) pa_nil)) pa_nil)))) (pw_or1 (pt_val (pe_own C_no hr (by decide) (by rfl) (pa_cons (pv 2) (pa_cons (pe_op op_catA (pv 3) (pe_tup (pa_cons (pe_tup pa_nil) pa_nil))) pa_nil))))))) (pss_one (ps_ret pe_bl)) pss_nil)) pss_nil)
      (pss_one (ps_if (pt_cmpR op_notBl (pe_own C_no hr (by decide) (by rfl) (pa_cons (pe_op op_catA (pe_op op_catA (pe_slice sl_tupA (pv 2) po_none (po_some pe_int)) (pe_tup (pa_cons (pe_lc (own := [("_law_each", 6)]) (by rfl) sc_law_right.nd (pi_tup (pe_ix ix_tup (pv 2) pe_int (fun _ _ => rfl))) (blkOk_by (own := [("_law_each", 6)]) (N := ["_law_pot_here", "_law_again", "_law_claim_here", "_law_paper_here", "_law_one", "_law_two", "_law_each"]) (sc := defScope s_law_right) (by decide +kernel)) (fun _ _ _ _ _ => pg_name (i := 6) sc_law_right.nd rfl (.inl rfl)) (fun _ _ _ _ _ => pts_nil) (fun _ _ _ _ _ => (pe_callTy (r := rListK K) call_list_of (by rfl) B.list (by decide +kernel) (pa_cons (pv 6) pa_nil)))) pa_nil))) (pe_slice sl_tupA (pv 2) (po_some pe_int) po_none)) (pa_cons (pv 3) pa_nil))) pe_bl (nomark _)) (pss_one (ps_ret pe_bl)) pss_nil))))))))
      (pss_one (ps_ret (pe_and (pe_cmpR op_isBl (pe_own C_no hr (by decide) (by rfl) (pa_cons (pe_tup pa_nil) (pa_cons (pe_tup pa_nil) pa_nil))) pe_bl (nomark _)) (pe_one (pe_cmpR op_isBl (pe_own C_no hr (by decide) (by rfl) (pa_cons pe_str (pa_cons (pe_tup pa_nil) pa_nil))) pe_bl (nomark _))))))), ?_⟩
    refine ⟨12, rfl, by decide, by decide, for_range (lo := 0) (n := 12) (fun i σ J => ∃ a1 a2 a3 a4 a5 a6, σ = [some (.ref p), a1, a2, a3, a4, a5, a6] ∧ Ladled p H J) ⟨none, none, none, none, none, none, rfl, .refl hp⟩ ?_ ?_⟩
    · rintro i σ J hi ⟨a1, a2, a3, a4, a5, a6, rfl, M⟩
      clear hi
      generalize (V.int (0 + (i : Int))) = again
      refine ⟨_, rfl, p, rfl, M.pot, fun t G1 L1 gd => ?_⟩
      obtain ⟨c, a, x, f, xs, et, hf, hc, ln, ok⟩ := gd
      have M := M.trans L1
      refine ⟨t, _, rfl, et, rfl, _, _, rfl, _, _, rfl, rfl, ?_⟩
      refine ⟨_, rfl, _, rfl, _, x, rfl, (ok G1 (.refl M.pot)).2.1, fun G2 s2 => ?_⟩
      refine ⟨true, true, rfl, rfl, _, rfl, iteNS rfl ?_⟩
      have L2 : Ladled p G1 G2 := .ofSame M.pot s2
      -- one, two
      refine ⟨_, rfl, _, rfl, _, rfl, p, c, a, x, f, xs, rfl, L2.pot, hf, s2 _ _ hc, ln, fun J q => (ok J (L2.trans q)).1, fun q u y G3 L3 eq no => ?_⟩
      refine ⟨q, _, rfl, .inl (.inl eq), rfl, _, _, rfl, _, _, rfl, rfl, ?_⟩
      refine ⟨_, rfl, _, rfl, u, y, rfl, no, fun G4 s4 => ?_⟩
      refine ⟨false, false, rfl, rfl, _, rfl, iteNS rfl ?_⟩
      have L4 : Ladled p G1 G4 := L2.trans (L3.same s4)
      have M := M.trans L4
      obtain ⟨po, _, pap⟩ := ok G4 L4
      have hc4 := L4.tup L1.pot hc
      have hp4 := M.pot
      clear ok no eq L3 s4 s2 L2 et hc L4 L1
      refine ⟨fun σ J => σ = [some (.ref p), some again, some (.ref c), some x, some u, some y, a6] ∧ Same G4 J, ?_, ?_⟩
      · rcases pap_isa pap with ⟨z, rfl⟩ | ⟨tt, ys, rfl, et, hy⟩
        · exact ⟨_, rfl, _, _, _, _, false, rfl, .ty _, .base (.str z), kit_ty (by decide +kernel), _, rfl, iteF ⟨rfl, Same.refl _⟩⟩
        · refine ⟨_, rfl, _, _, _, _, true, rfl, .ty _, .base (.tup et), kit_ty (by decide +kernel), _, rfl, iteT ?_⟩
          refine ⟨_, rfl, _, rfl, tt, ys, rfl, .inr (.inl (.inl et)), fun l nl => ?_⟩
          have s5 : Same G4 (upd G4 l (.lst ys)) := same_new nl
          have no1 : HoldsNo K (upd G4 l (.lst ys)) (.ref c) (.ref l) := paper_no hf ln (po.same s5) (s5 _ _ hc4) (list_paper upd_same _)
          refine ⟨.ref c, .ref l, rfl, no1, fun G5 s6 => ⟨_, rfl, iteF ?_⟩⟩
          have s46 := s5.trans s6
          have yl : ys.length ≤ 2 := by
            rcases hy with ⟨_, e⟩ | ⟨_, e⟩ <;> simp [e]
          refine ⟨_, rfl, _, rfl, by show 0 ≤ sizeLine; decide, fun u0 n0 => ⟨by show 1 ≤ sizeLine; decide, fun u1 n1 => ?_⟩⟩
          have s7 : Same G5 (upd G5 u0 (.tup [])) := same_new n0
          have s8 : Same (upd G5 u0 (.tup [])) (upd (upd G5 u0 (.tup [])) u1 (.tup [.ref u0])) := same_new n1
          refine cat_ok (s8 _ _ (s7 _ _ (s46 _ _ et))) (upd_same : upd (upd G5 u0 (.tup [])) u1 (.tup [.ref u0]) u1 = _) (Nat.le_of_lt (small1000 (by show ys.length + 1 ≤ 1000; omega))) fun U G6 s9 e9 => ?_
          have s49 := s46.trans (s7.trans (s8.trans s9))
          have no2 : HoldsNo K G6 (.ref c) (.ref U) := by
            refine paper_no hf ln (po.same s49) (s49 _ _ hc4) ?_
            have q : SqT K G6 U (ys ++ [V.ref u0]) := .inl (.inl e9)
            rcases hy with ⟨e, h⟩ | ⟨e, h⟩
            · rw [e]
              exact .inr ⟨U, _, rfl, q, by rw [List.length_append, h]; show ¬ (0 ≤ 1 ∧ 1 ≤ 0); decide⟩
            · rw [e]
              exact .inr ⟨U, _, rfl, q, by rw [List.length_append, h]; show ¬ (2 ≤ 3 ∧ 3 ≤ 2); decide⟩
          exact ⟨.ref c, .ref U, rfl, no2, fun G7 s10 => ⟨_, rfl, iteF ⟨rfl, s49.trans s10⟩⟩⟩
      rintro σ G5 ⟨rfl, s5⟩
      have hc5 := s5 _ _ hc4
      have po5 := po.same s5
      have M := M.same s5
      obtain ⟨ps, hT⟩ := first_row hf po5
      clear pap po hc4 s5 hp4
      refine ⟨_, rfl, 1, rfl, sl_ok hc5 fun U1 J1 s1 e1 => ?_⟩
      have e1 : J1 U1 = some (.tup [.str f.1]) := e1
      have hT1 := hT.same s1
      refine ⟨_, rfl, c, _, _, _, rfl, rfl, .inl (.inl (s1 _ _ hc5)), (atI_nat (j := 1) rfl : atI (V.str f.1 :: V.ref a :: xs) 1 = some (V.ref a)), a, rfl, ⟨_, hT1.tp⟩, fun N nN => lc_tup (K := K) (a := a) (xs := ps.map fun q => V.ref q.1) (fun i J => ∃ ls : List V, ls.length = i ∧ J N = some (.lst ls) ∧ Same J1 J)
        ⟨[], rfl, upd_same, same_new nN⟩ (fun i J _ ⟨_, _, _, sJ⟩ => stH sJ hT1.tp) ?_ ?_⟩
      · rintro i v J hi ⟨ls, rfl, eN, sJ⟩
        rw [List.getElem?_map] at hi
        cases hq : ps[ls.length]? with
        | none =>
          rw [hq] at hi
          cases hi
        | some q =>
          rw [hq] at hi
          cases hi
          have il := (List.getElem?_eq_some_iff.mp hq).1
          have l4 := hT1.l4
          obtain ⟨h1, h2⟩ := hT1.el q (List.mem_of_getElem? hq)
          refine ⟨rfl, yes (iteT ⟨_, rfl, q.1, q.2.vs, rfl, .inr (.inl (.inl (sJ _ _ h1))), fun l nl => ?_⟩)⟩
          exact ⟨_, same_new nl _ _ eN, small1000 (by omega), ls ++ [.ref l], by rw [List.length_append]; rfl, upd_same, offT (sJ.trans (same_new nl)) nN⟩
      rintro J2 ⟨ls, _, eN, s2⟩
      refine ⟨by show 1 ≤ sizeLine; decide, fun u1 n1 => ?_⟩
      have s3 : Same J2 (upd J2 u1 (.tup [.ref N])) := same_new n1
      refine cat_ok (s3 _ _ (s2 _ _ e1)) (upd_same : upd J2 u1 (.tup [.ref N]) u1 = _) (by show 1 + 1 ≤ sizeLine; decide) fun U2 J3 s4 e4 => ?_
      have s14 := s1.trans (s2.trans (s3.trans s4))
      refine ⟨_, rfl, 2, rfl, ?_⟩
      refine noPart ?_
      refine sl_ok (s14 _ _ hc5) fun U3 J4 s6 e6 => ?_
      have e6 : J4 U3 = some (.tup xs) := by
        rw [e6]
        congr 1
        congr 1
        exact cutV_back (V.str f.1 :: V.ref a :: xs) 2
      have fl := forms_len hf
      refine cat_ok (s6 _ _ e4) e6 (Nat.le_of_lt (small1000 (by show 2 + _ ≤ 1000; rw [List.length_cons] at ln; omega))) fun U4 J5 s7 e7 => ?_
      have s17 := s14.trans (s6.trans s7)
      have no : HoldsNo K J5 (.ref U4) x := part_no (i := 0) (v := .ref N) hf ln (po5.same s17) (by show 0 < _ + 1; omega) (lst_part ((s3.trans (s4.trans (s6.trans s7))) _ _ eN)) e7
      refine ⟨_, rfl, .ref U4, x, rfl, no, fun J6 s8 => ?_⟩
      exact ⟨false, false, rfl, rfl, _, rfl, iteNS rfl ⟨_, _, _, _, _, _, rfl, M.same (s17.trans s8)⟩⟩
    · rintro σ J ⟨a1, a2, a3, a4, a5, a6, rfl, M⟩
      refine ⟨by show 0 ≤ sizeLine; decide, fun u1 n1 => ⟨by show 0 ≤ sizeLine; decide, fun u2 n2 => ?_⟩⟩
      have s1 : Same J (upd J u1 (.tup [])) := same_new n1
      have s2 : Same (upd J u1 (.tup [])) (upd (upd J u1 (.tup [])) u2 (.tup [])) := same_new n2
      refine ⟨.ref u1, .ref u2, rfl, .inl (few_no (s2 _ _ upd_same) (.inl (by show 0 < 2; decide))), fun G3 s3 => ?_⟩
      refine ⟨false, false, rfl, rfl, _, rfl, iteT ?_⟩
      refine ⟨by show 0 ≤ sizeLine; decide, fun u3 n3 => ?_⟩
      have s4 : Same G3 (upd G3 u3 (.tup [])) := same_new n3
      refine ⟨.str "alike", .ref u3, rfl, .inl (.inl (.inl (isa_str (kit_ty (by decide +kernel))))), fun G5 s5 => ⟨false, false, rfl, rfl, ?_⟩⟩
      exact k _ (M.same (s1.trans (s2.trans (s3.trans (s4.trans s5)))))
end
end Gu
namespace Gu
open PySem PySem.Spec PyProof.Rows L2
section
variable {P : Program} {w : World} {K : PySem.W.Frag} {mg : Str → Option Value} {base : Heap}
/-! ### law -/
def spLaw (K : PySem.W.Frag) : Sp := fun vs H Q _ => ∃ (a : Addr) (ns : List Int), vs = [.ref a] ∧ SqL K H a (ns.map V.int) ∧ ns.length ≤ 63 ∧ ∀ G, Q (.bl true) G
theorem cal_law {n : Nat} (B : Bi mg) {f : Addr} {fd : FuncData} (F : Fun K "law" "law" s_law f fd) (n1 : 1 ≤ n) (C_law_pot : Cal P w K mg base 1 "_law_pot" ps_law_pot (spPot K)) (C_law_right : CalG P w K mg base n "_law_right" ps_law_right spRight) : FnG P w K mg base (n + 1) f fd ps_law (spLaw K) := by
  refine okG F sc_law (fun vs H Q E h => ?_) (fun cdv A outer s H vs Q E hr quiet h => ?_)
  · obtain ⟨a, ns, rfl, _⟩ := h
    rfl
  · obtain ⟨a, ns, rfl, hS, hl, k⟩ := h
    have hk1 := n1
    refine ⟨_, (pss_one (ps_ret (pe_callB (cr_all rfl) (by rfl) B.all (by decide +kernel) (pa_cons (pe_lc (own := [("_law_k", 1)]) (by rfl) sc_law.nd (pi_range1 (by rfl) B.range (pa_cons (pe_callB (call_max2 rfl) (by rfl) B.max (by decide +kernel) (pa_cons pe_int (pa_cons (pe_callB (call_min2 rfl) (by rfl) B.min (by decide +kernel) (pa_cons (pe_callB call_len_seq (by rfl) B.len (by decide +kernel) (pa_cons (pv 0) pa_nil)) (pa_cons pe_int pa_nil))) pa_nil))) pa_nil)) (blkOk_by (own := [("_law_k", 1)]) (N := ["_law_script", "_law_k"]) (sc := defScope s_law) (by decide +kernel)) (fun _ _ _ _ _ => pg_name (i := 1) sc_law.nd rfl (.inl rfl)) (fun _ _ _ _ _ => pts_nil) (fun _ _ _ _ _ => (pe_ownG C_law_right hr (Nat.le_refl _) quiet (by rfl) (pa_cons (pe_own C_law_pot hr hk1 (by rfl) (pa_cons (pv 0) (pa_cons (pv 1) pa_nil))) pa_nil)))) pa_nil)))), ?_⟩
    refine ⟨_, rfl, a, _, rfl, .inl hS, _, _, rfl, _, _, rfl, ?_⟩
    rw [List.length_map]
    generalize hm : (if (5 : Int) < (ns.length : Int) then (5 : Int) else (ns.length : Int)) = m
    have m1 : m ≤ 5 := by rw [← hm]; split <;> omega
    refine ⟨_, rfl, by split <;> omega, by split <;> omega, fun D nD => ?_⟩
    refine lc_range (lo := 0) (n := (if m > (2 : Int) then m else 2).toNat) (fun i J => ∃ bs : List Bool, bs.length = i ∧ bs.all id = true ∧ J D = some (.lst (bs.map V.bl)) ∧ Same H J) ⟨[], rfl, rfl, upd_same, same_new nD⟩ ?_ ?_
    · rintro i J hi ⟨bs, rfl, ha, eD, sJ⟩
      have i5 : bs.length < 5 := by
        revert hi
        split <;> omega
      refine ⟨rfl, yes (iteT ⟨_, rfl, _, rfl, a, bs.length, ns, ?_, sJ.seq hS, by omega, fun p G np hp sG => ?_⟩)⟩
      · rw [Int.zero_add]
        rfl
      · refine ⟨p, rfl, hp, fun G2 L => ?_⟩
        have nDp : D ≠ p := ne_of_none eD np
        have gD : G2 D = some (.lst (bs.map V.bl)) := L.keep _ _ (sG _ _ eD) nDp
        refine ⟨_, gD, small1000 (by rw [List.length_map]; omega), bs ++ [true], by rw [List.length_append]; rfl, by rw [List.all_append, ha]; rfl, ?_, fun b o e => ?_⟩
        · rw [upd_same, List.map_append]
          rfl
        · rw [upd_ne (ne_of_none e nD)]
          exact L.keep _ _ (sG _ _ (sJ _ _ e)) (ne_of_none (sJ _ _ e) np)
    · rintro J ⟨bs, el, ha, eD, sJ⟩
      refine ⟨D, bs, rfl, .inl (.inl eD), ?_⟩
      rw [ha]
      exact k J
end
end Gu
namespace Gu
open PySem PySem.Spec PyProof.Rows L2
theorem at_mk {K : PySem.W.Frag} {h : Heap} {mg : Str → Option Value} {x : Str} {st : Stmt} {ps : List Str} {f : Addr} {oc : Value} {od an : Option Addr} {sl : Array (Option Value)} {kV dc pm cd ct : Value} (X : K.In h) (G : h.Ns mainGlobals mg)
    (hb : ∀ (kV doc pm : Value) (an : Option Addr) (cdv ct : Value) (us : List Value), us.length = ps.length → bindArgs (PySem.W.fnOf x x (defArgs st) (defBody st) (defScope st) .none kV doc pm an cdv ct) ⟨us, []⟩ = pure (ps.zip us))
    (a : PySem.W.nsIn K mainGlobals x = some (some (.ref f))) (l : K.lookup f = some ⟨oc, od, .func (PySem.W.fnOf x x (defArgs st) (defBody st) (defScope st) .none kV dc pm an cd ct), sl⟩) (c : PySem.W.codeIn K cd x = true) (k : PySem.W.keepIn K (.ref f) = true) : At K mg x st ps :=
  ⟨f, _, fun_mk l c k, (fun_mk l c k).binds hb, PySem.W.mg_of X G a⟩
theorem cst_mk {K : PySem.W.Frag} {h : Heap} {mg : Str → Option Value} {x : Str} {v : V} {u : Value} (X : K.In h) (G : h.Ns mainGlobals mg) (r : RelV v u) (a : PySem.W.nsIn K mainGlobals x = some (some u)) : ∃ u, mg x = some u ∧ RelV v u := ⟨u, PySem.W.mg_of X G a, r⟩
end Gu
namespace Gu
open PySem PySem.Spec PyProof.Rows L2
theorem fin {P : Program} {w : World} {K : PySem.W.Frag} {mg : Str → Option Value} {base : Heap} {C f : Addr} {fd : FuncData} (B : Bi mg) (Ck_alike : ChkW K mg w "alike" "alike_holds") (Ck_unlike : ChkW K mg w "unlike" "unlike_holds") (Ck_stable : ChkW K mg w "stable" "stable_holds") (Ck_unstable : ChkW K mg w "unstable" "unstable_holds") (Ck_possible : ChkW K mg w "possible" "possible_holds") (Ck_impossible : ChkW K mg w "impossible" "impossible_holds") (Ck_confused : ChkW K mg w "confused" "confused_holds") (Ck_no : NoWords K mg) (Ss : ShC K mg C) (Is : InitAt K C)
    (A_is_integer : At K mg "is_integer" s_is_integer ps_is_integer) (A_is_tuple : At K mg "is_tuple" s_is_tuple ps_is_tuple) (A_is_text : At K mg "is_text" s_is_text ps_is_text) (A_least_raised_at : At K mg "least_raised_at" s_least_raised_at ps_least_raised_at) (A_check_mark : At K mg "check_mark" s_check_mark ps_check_mark) (A_shortened : At K mg "shortened" s_shortened ps_shortened) (A_shown_by : At K mg "shown_by" s_shown_by ps_shown_by) (A_planned : At K mg "planned" s_planned ps_planned) (A_telling_lengths : At K mg "telling_lengths" s_telling_lengths ps_telling_lengths) (A_filled_in : At K mg "filled_in" s_filled_in ps_filled_in) (A_differing_places : At K mg "differing_places" s_differing_places ps_differing_places) (A_least_difference : At K mg "least_difference" s_least_difference ps_least_difference) (A_first_difference : At K mg "first_difference" s_first_difference ps_first_difference) (A_known_signs : At K mg "known_signs" s_known_signs ps_known_signs) (A_is_told : At K mg "is_told" s_is_told ps_is_told) (A_is_told_row : At K mg "is_told_row" s_is_told_row ps_is_told_row) (A_are_told_rows : At K mg "are_told_rows" s_are_told_rows ps_are_told_rows) (A_are_shown_parts : At K mg "are_shown_parts" s_are_shown_parts ps_are_shown_parts) (A_is_pair_of_texts : At K mg "is_pair_of_texts" s_is_pair_of_texts ps_is_pair_of_texts) (A_row_of : At K mg "row_of" s_row_of ps_row_of) (A_alike_holds : At K mg "alike_holds" s_alike_holds ps_alike_holds) (A_unlike_holds : At K mg "unlike_holds" s_unlike_holds ps_unlike_holds) (A_stable_holds : At K mg "stable_holds" s_stable_holds ps_stable_holds) (A_unstable_holds : At K mg "unstable_holds" s_unstable_holds ps_unstable_holds) (A_possible_holds : At K mg "possible_holds" s_possible_holds ps_possible_holds) (A_impossible_holds : At K mg "impossible_holds" s_impossible_holds ps_impossible_holds) (A_confused_holds : At K mg "confused_holds" s_confused_holds ps_confused_holds) (A_holds : At K mg "holds" s_holds ps_holds) (A_law_pot : At K mg "_law_pot" s_law_pot ps_law_pot) (A_law_ladle : At K mg "_law_ladle" s_law_ladle ps_law_ladle) (A_law_one_of : At K mg "_law_one_of" s_law_one_of ps_law_one_of) (A_law_good : At K mg "_law_good" s_law_good ps_law_good) (A_law_odd : At K mg "_law_odd" s_law_odd ps_law_odd) (A_law_bent : At K mg "_law_bent" s_law_bent ps_law_bent) (A_law_right : At K mg "_law_right" s_law_right ps_law_right)
    (F : Fun K "law" "law" s_law f fd) : FnG P w K mg base 9 f fd ps_law (spLaw K) := by
  have c1 : Cal P w K mg base 1 "_law_ladle" ps_law_ladle spLadle := cal_ladle B A_law_ladle
  have c2 : Cal P w K mg base 2 "_law_one_of" ps_law_one_of (spOneOf K) := cal_oneOf B A_law_one_of c1
  have c5 : Cal P w K mg base 1 "is_integer" ps_is_integer (spIsInteger K) := cal_isInteger B A_is_integer
  have c6 : Cal P w K mg base 1 "is_text" ps_is_text (spIsText K) := cal_isText B A_is_text
  have cmk : Cal P w K mg base 2 "check_mark" ps_check_mark spCheckMark := cal_checkMark B A_check_mark c6
  have m1 : Mak P w K mg base 3 "Shortener" C (spInit C) := mak_sh B Ss Is c5 cmk
  have t1 : Cal P w K mg base 1 "is_tuple" ps_is_tuple (spIsTuple K) := cal_isTuple B A_is_tuple
  have d2 : Cal P w K mg base 1 "shortened" ps_shortened (spShortT C) := cal_shortT B Ss A_shortened
  have d3 : Cal P w K mg base 2 "planned" ps_planned (spPlanned C) := cal_planned B Ss A_planned d2
  have d4 : Cal P w K mg base 1 "telling_lengths" ps_telling_lengths spTelling := cal_telling B A_telling_lengths
  have d5 : Cal P w K mg base 1 "filled_in" ps_filled_in (spFilled K) := cal_filled B A_filled_in
  have d6 : Cal P w K mg base 1 "differing_places" ps_differing_places (spDiffP K) := cal_diffP B A_differing_places
  have d7 : Cal P w K mg base 2 "least_difference" ps_least_difference (spLeastD K) := cal_leastD B A_least_difference d5 d6 (cal_raised B A_least_raised_at)
  have d8 : Cal P w K mg base 3 "first_difference" ps_first_difference (spFirstD C) := cal_firstD B A_first_difference d4 d3 d7
  have g2 : Cal P w K mg base 1 "shortened" ps_shortened (spShortS C) := cal_shortS B Ss A_shortened
  have sby : Cal P w K mg base 2 "shown_by" ps_shown_by (spShownBy C) := cal_shownBy B Ss A_shown_by g2
  have v4 : Cal P w K mg base 3 "known_signs" ps_known_signs (spKnown C) := cal_known B A_known_signs d3
  have h1 : Cal P w K mg base 2 "is_told" ps_is_told (spTrueT K C) := cal_isTold B A_is_told t1 c5 c6
  have h2 : Cal P w K mg base 3 "is_told_row" ps_is_told_row (spTrueR K) := cal_isToldRow B A_is_told_row t1 h1
  have h3 : Cal P w K mg base 4 "are_told_rows" ps_are_told_rows (spTrueQ K) := cal_areToldQ B A_are_told_rows h2
  have h4 : Cal P w K mg base 2 "is_pair_of_texts" ps_is_pair_of_texts (spPairG K) := cal_isPairG B A_is_pair_of_texts t1 c6
  have h5 : Cal P w K mg base 5 "row_of" ps_row_of (spRowOf K C) := cal_rowOf B A_row_of m1
  have h6 : Cal P w K mg base 4 "are_shown_parts" ps_are_shown_parts (spShownP K) := cal_shownP B A_are_shown_parts c6 c5 h2
  have w_alike : Cal P w K mg base 6 "alike_holds" ps_alike_holds (spAlikeH K) := cal_alikeH B A_alike_holds t1 h3 h5 d8
  have x_alike : Cal P w K mg base 7 "holds" ps_holds (spHoldsW "alike" (spAlikeH K)) := cal_holdsW rfl Ck_alike B A_holds t1 w_alike
  have w_unlike : Cal P w K mg base 6 "unlike_holds" ps_unlike_holds (spUnlikeH K) := cal_unlikeH B A_unlike_holds c6 h3 h5 sby
  have x_unlike : Cal P w K mg base 7 "holds" ps_holds (spHoldsW "unlike" (spUnlikeH K)) := cal_holdsW rfl Ck_unlike B A_holds t1 w_unlike
  have w_stable : Cal P w K mg base 6 "stable_holds" ps_stable_holds (spStableH K) := cal_stableH B A_stable_holds t1 h3 h5 d8
  have x_stable : Cal P w K mg base 7 "holds" ps_holds (spHoldsW "stable" (spStableH K)) := cal_holdsW rfl Ck_stable B A_holds t1 w_stable
  have w_unstable : Cal P w K mg base 6 "unstable_holds" ps_unstable_holds (spUnstableH K) := cal_unstableH B A_unstable_holds c6 h3 h5 sby
  have x_unstable : Cal P w K mg base 7 "holds" ps_holds (spHoldsW "unstable" (spUnstableH K)) := cal_holdsW rfl Ck_unstable B A_holds t1 w_unstable
  have w_possible : Cal P w K mg base 6 "possible_holds" ps_possible_holds (spPossH K) := cal_possH B A_possible_holds c6 h6 h5 sby
  have x_possible : Cal P w K mg base 7 "holds" ps_holds (spHoldsW "possible" (spPossH K)) := cal_holdsW rfl Ck_possible B A_holds t1 w_possible
  have w_impossible : Cal P w K mg base 6 "impossible_holds" ps_impossible_holds (spImpossH K) := cal_impossH B A_impossible_holds t1 h6 h5 v4
  have x_impossible : Cal P w K mg base 7 "holds" ps_holds (spHoldsW "impossible" (spImpossH K)) := cal_holdsW rfl Ck_impossible B A_holds t1 w_impossible
  have w_confused : Cal P w K mg base 6 "confused_holds" ps_confused_holds (spConfG K) := cal_confG B A_confused_holds h3 h4 h5 sby
  have x_confused : Cal P w K mg base 7 "holds" ps_holds (spHoldsW "confused" (spConfG K)) := cal_holdsW rfl Ck_confused B A_holds t1 w_confused
  have n1 : Cal P w K mg base 2 "is_told" ps_is_told (spNoTold K) := cal_noTold B A_is_told (tup_of t1) (num_of c5) (txt_of c6)
  have n2 : Cal P w K mg base 3 "is_told_row" ps_is_told_row (spRowTB K) := h2.or2 (cal_noRowT B A_is_told_row (tup_of t1) n1)
  have n3 : Cal P w K mg base 4 "are_told_rows" ps_are_told_rows (spOr (spTrueQ K) (spRowsNo K)) := h3.or2 (cal_rowsNo B A_are_told_rows n2)
  have n4 : Cal P w K mg base 4 "are_shown_parts" ps_are_shown_parts (spOr (spShownP K) (spShownNo K)) := h6.or2 (cal_shownNo B A_are_shown_parts (txt_of c6) (num_of c5) n2)
  have n5 : Cal P w K mg base 2 "is_pair_of_texts" ps_is_pair_of_texts (spPairNo K) := cal_pairNo B A_is_pair_of_texts (tup_of t1) (txt_of c6)
  have m_unlike : Cal P w K mg base 6 "unlike_holds" ps_unlike_holds (spBadH K (List.replicate 2 .r) .txt) := cal_unlikeN B A_unlike_holds n3 (txt_of c6)
  have u_unlike : Cal P w K mg base 7 "holds" ps_holds (spHoldsW "unlike" (spBadH K (List.replicate 2 .r) .txt)) := cal_holdsW rfl Ck_unlike B A_holds t1 m_unlike
  have m_alike : Cal P w K mg base 6 "alike_holds" ps_alike_holds (spBadH K (List.replicate 2 .r) .unit) := cal_alikeN B A_alike_holds n3 (tup_of t1)
  have u_alike : Cal P w K mg base 7 "holds" ps_holds (spHoldsW "alike" (spBadH K (List.replicate 2 .r) .unit)) := cal_holdsW rfl Ck_alike B A_holds t1 m_alike
  have m_stable : Cal P w K mg base 6 "stable_holds" ps_stable_holds (spBadH K (List.replicate 1 .r) .unit) := cal_stableN B A_stable_holds n3 (tup_of t1)
  have u_stable : Cal P w K mg base 7 "holds" ps_holds (spHoldsW "stable" (spBadH K (List.replicate 1 .r) .unit)) := cal_holdsW rfl Ck_stable B A_holds t1 m_stable
  have m_unstable : Cal P w K mg base 6 "unstable_holds" ps_unstable_holds (spBadH K (List.replicate 1 .r) .txt) := cal_unstableN B A_unstable_holds n3 (txt_of c6)
  have u_unstable : Cal P w K mg base 7 "holds" ps_holds (spHoldsW "unstable" (spBadH K (List.replicate 1 .r) .txt)) := cal_holdsW rfl Ck_unstable B A_holds t1 m_unstable
  have m_possible : Cal P w K mg base 6 "possible_holds" ps_possible_holds (spBadH K [.r, .t, .n] .long) := cal_possibleN B A_possible_holds n4 (txt_of c6)
  have u_possible : Cal P w K mg base 7 "holds" ps_holds (spHoldsW "possible" (spBadH K [.r, .t, .n] .long)) := cal_holdsW rfl Ck_possible B A_holds t1 m_possible
  have m_impossible : Cal P w K mg base 6 "impossible_holds" ps_impossible_holds (spBadH K [.r, .t, .n] .unit) := cal_impossibleN B A_impossible_holds n4 (tup_of t1)
  have u_impossible : Cal P w K mg base 7 "holds" ps_holds (spHoldsW "impossible" (spBadH K [.r, .t, .n] .unit)) := cal_holdsW rfl Ck_impossible B A_holds t1 m_impossible
  have m_confused : Cal P w K mg base 6 "confused_holds" ps_confused_holds (spBadH K (List.replicate 1 .r) .pair) := cal_confusedN B A_confused_holds n3 n5
  have u_confused : Cal P w K mg base 7 "holds" ps_holds (spHoldsW "confused" (spBadH K (List.replicate 1 .r) .pair)) := cal_holdsW rfl Ck_confused B A_holds t1 m_confused
  have no : Cal P w K mg base 7 "holds" ps_holds (spHoldsB K) := cal_holdsB (cal_noClaim Ck_alike Ck_no B A_holds (tup_of t1)) u_unlike u_alike u_stable u_unstable u_possible u_impossible u_confused
  have ye : Cal P w K mg base 7 "holds" ps_holds (spYes K) := cal_yes x_unlike x_alike x_stable x_unstable x_possible x_impossible x_confused
  have l1 : Cal P w K mg base 3 "_law_good" ps_law_good (spGoodL K) := cal_good B A_law_good c2
  have l2 : Cal P w K mg base 3 "_law_odd" ps_law_odd (spOddL K) := cal_odd B A_law_odd c2
  have l3 : Cal P w K mg base 4 "_law_bent" ps_law_bent (spBentL K) := cal_bent B A_law_bent c1 l2
  have e7 : CalG P w K mg base 8 "_law_right" ps_law_right spRight := cal_right B A_law_right l1 l3 ye no
  exact cal_law B F (by decide) (cal_pot B A_law_pot) e7
end Gu
namespace Gu
open PySem PySem.Spec PyProof.Rows L2
set_option maxHeartbeats 0 in
theorem all_mk {l : PySem.W.OpenLaw} {w : World} {K : PySem.W.Frag} {h : Heap} {mg : Str → Option Value} {fa : Addr} {f_is_integer : Addr} {oc_is_integer kV_is_integer dc_is_integer pm_is_integer cd_is_integer ct_is_integer : Value} {od_is_integer an_is_integer : Option Addr} {sl_is_integer : Array (Option Value)} {f_is_tuple : Addr} {oc_is_tuple kV_is_tuple dc_is_tuple pm_is_tuple cd_is_tuple ct_is_tuple : Value} {od_is_tuple an_is_tuple : Option Addr} {sl_is_tuple : Array (Option Value)} {f_is_text : Addr} {oc_is_text kV_is_text dc_is_text pm_is_text cd_is_text ct_is_text : Value} {od_is_text an_is_text : Option Addr} {sl_is_text : Array (Option Value)} {f_least_raised_at : Addr} {oc_least_raised_at kV_least_raised_at dc_least_raised_at pm_least_raised_at cd_least_raised_at ct_least_raised_at : Value} {od_least_raised_at an_least_raised_at : Option Addr} {sl_least_raised_at : Array (Option Value)} {f_check_mark : Addr} {oc_check_mark kV_check_mark dc_check_mark pm_check_mark cd_check_mark ct_check_mark : Value} {od_check_mark an_check_mark : Option Addr} {sl_check_mark : Array (Option Value)} {f_shortened : Addr} {oc_shortened kV_shortened dc_shortened pm_shortened cd_shortened ct_shortened : Value} {od_shortened an_shortened : Option Addr} {sl_shortened : Array (Option Value)} {f_shown_by : Addr} {oc_shown_by kV_shown_by dc_shown_by pm_shown_by cd_shown_by ct_shown_by : Value} {od_shown_by an_shown_by : Option Addr} {sl_shown_by : Array (Option Value)} {f_planned : Addr} {oc_planned kV_planned dc_planned pm_planned cd_planned ct_planned : Value} {od_planned an_planned : Option Addr} {sl_planned : Array (Option Value)} {f_telling_lengths : Addr} {oc_telling_lengths kV_telling_lengths dc_telling_lengths pm_telling_lengths cd_telling_lengths ct_telling_lengths : Value} {od_telling_lengths an_telling_lengths : Option Addr} {sl_telling_lengths : Array (Option Value)} {f_filled_in : Addr} {oc_filled_in kV_filled_in dc_filled_in pm_filled_in cd_filled_in ct_filled_in : Value} {od_filled_in an_filled_in : Option Addr} {sl_filled_in : Array (Option Value)} {f_differing_places : Addr} {oc_differing_places kV_differing_places dc_differing_places pm_differing_places cd_differing_places ct_differing_places : Value} {od_differing_places an_differing_places : Option Addr} {sl_differing_places : Array (Option Value)} {f_least_difference : Addr} {oc_least_difference kV_least_difference dc_least_difference pm_least_difference cd_least_difference ct_least_difference : Value} {od_least_difference an_least_difference : Option Addr} {sl_least_difference : Array (Option Value)} {f_first_difference : Addr} {oc_first_difference kV_first_difference dc_first_difference pm_first_difference cd_first_difference ct_first_difference : Value} {od_first_difference an_first_difference : Option Addr} {sl_first_difference : Array (Option Value)} {f_known_signs : Addr} {oc_known_signs kV_known_signs dc_known_signs pm_known_signs cd_known_signs ct_known_signs : Value} {od_known_signs an_known_signs : Option Addr} {sl_known_signs : Array (Option Value)} {f_is_told : Addr} {oc_is_told kV_is_told dc_is_told pm_is_told cd_is_told ct_is_told : Value} {od_is_told an_is_told : Option Addr} {sl_is_told : Array (Option Value)} {f_is_told_row : Addr} {oc_is_told_row kV_is_told_row dc_is_told_row pm_is_told_row cd_is_told_row ct_is_told_row : Value} {od_is_told_row an_is_told_row : Option Addr} {sl_is_told_row : Array (Option Value)} {f_are_told_rows : Addr} {oc_are_told_rows kV_are_told_rows dc_are_told_rows pm_are_told_rows cd_are_told_rows ct_are_told_rows : Value} {od_are_told_rows an_are_told_rows : Option Addr} {sl_are_told_rows : Array (Option Value)} {f_are_shown_parts : Addr} {oc_are_shown_parts kV_are_shown_parts dc_are_shown_parts pm_are_shown_parts cd_are_shown_parts ct_are_shown_parts : Value} {od_are_shown_parts an_are_shown_parts : Option Addr} {sl_are_shown_parts : Array (Option Value)} {f_is_pair_of_texts : Addr} {oc_is_pair_of_texts kV_is_pair_of_texts dc_is_pair_of_texts pm_is_pair_of_texts cd_is_pair_of_texts ct_is_pair_of_texts : Value} {od_is_pair_of_texts an_is_pair_of_texts : Option Addr} {sl_is_pair_of_texts : Array (Option Value)} {f_row_of : Addr} {oc_row_of kV_row_of dc_row_of pm_row_of cd_row_of ct_row_of : Value} {od_row_of an_row_of : Option Addr} {sl_row_of : Array (Option Value)} {f_alike_holds : Addr} {oc_alike_holds kV_alike_holds dc_alike_holds pm_alike_holds cd_alike_holds ct_alike_holds : Value} {od_alike_holds an_alike_holds : Option Addr} {sl_alike_holds : Array (Option Value)} {f_unlike_holds : Addr} {oc_unlike_holds kV_unlike_holds dc_unlike_holds pm_unlike_holds cd_unlike_holds ct_unlike_holds : Value} {od_unlike_holds an_unlike_holds : Option Addr} {sl_unlike_holds : Array (Option Value)} {f_stable_holds : Addr} {oc_stable_holds kV_stable_holds dc_stable_holds pm_stable_holds cd_stable_holds ct_stable_holds : Value} {od_stable_holds an_stable_holds : Option Addr} {sl_stable_holds : Array (Option Value)} {f_unstable_holds : Addr} {oc_unstable_holds kV_unstable_holds dc_unstable_holds pm_unstable_holds cd_unstable_holds ct_unstable_holds : Value} {od_unstable_holds an_unstable_holds : Option Addr} {sl_unstable_holds : Array (Option Value)} {f_possible_holds : Addr} {oc_possible_holds kV_possible_holds dc_possible_holds pm_possible_holds cd_possible_holds ct_possible_holds : Value} {od_possible_holds an_possible_holds : Option Addr} {sl_possible_holds : Array (Option Value)} {f_impossible_holds : Addr} {oc_impossible_holds kV_impossible_holds dc_impossible_holds pm_impossible_holds cd_impossible_holds ct_impossible_holds : Value} {od_impossible_holds an_impossible_holds : Option Addr} {sl_impossible_holds : Array (Option Value)} {f_confused_holds : Addr} {oc_confused_holds kV_confused_holds dc_confused_holds pm_confused_holds cd_confused_holds ct_confused_holds : Value} {od_confused_holds an_confused_holds : Option Addr} {sl_confused_holds : Array (Option Value)} {f_holds : Addr} {oc_holds kV_holds dc_holds pm_holds cd_holds ct_holds : Value} {od_holds an_holds : Option Addr} {sl_holds : Array (Option Value)} {f_law_pot : Addr} {oc_law_pot kV_law_pot dc_law_pot pm_law_pot cd_law_pot ct_law_pot : Value} {od_law_pot an_law_pot : Option Addr} {sl_law_pot : Array (Option Value)} {f_law_ladle : Addr} {oc_law_ladle kV_law_ladle dc_law_ladle pm_law_ladle cd_law_ladle ct_law_ladle : Value} {od_law_ladle an_law_ladle : Option Addr} {sl_law_ladle : Array (Option Value)} {f_law_one_of : Addr} {oc_law_one_of kV_law_one_of dc_law_one_of pm_law_one_of cd_law_one_of ct_law_one_of : Value} {od_law_one_of an_law_one_of : Option Addr} {sl_law_one_of : Array (Option Value)} {f_law_good : Addr} {oc_law_good kV_law_good dc_law_good pm_law_good cd_law_good ct_law_good : Value} {od_law_good an_law_good : Option Addr} {sl_law_good : Array (Option Value)} {f_law_odd : Addr} {oc_law_odd kV_law_odd dc_law_odd pm_law_odd cd_law_odd ct_law_odd : Value} {od_law_odd an_law_odd : Option Addr} {sl_law_odd : Array (Option Value)} {f_law_bent : Addr} {oc_law_bent kV_law_bent dc_law_bent pm_law_bent cd_law_bent ct_law_bent : Value} {od_law_bent an_law_bent : Option Addr} {sl_law_bent : Array (Option Value)} {f_law_right : Addr} {oc_law_right kV_law_right dc_law_right pm_law_right cd_law_right ct_law_right : Value} {od_law_right an_law_right : Option Addr} {sl_law_right : Array (Option Value)} {f_law : Addr} {oc_law kV_law dc_law pm_law cd_law ct_law : Value} {od_law an_law : Option Addr} {sl_law : Array (Option Value)} {C : Addr} {f_is : Addr} {oc_is kV_is dc_is pm_is cd_is ct_is : Value} {od_is an_is : Option Addr} {sl_is : Array (Option Value)} {u_MOST_SIGNS : Tok} {u_MOST_MARK : Tok} {u_MOST_ROW : Tok} {u_MOST_TEXT : Tok} {u_MOST_LENGTH : Tok} {u_SIGNS : Tok} {T_ck : Addr} {es_ck : Array DictEntry} {n_ck : Nat}
    (X : K.In h) (G : h.Ns mainGlobals mg) (hfa : mg "law" = some (.ref fa))
    (a_is_integer : PySem.W.nsIn K mainGlobals "is_integer" = some (some (.ref f_is_integer)))
    (l_is_integer : K.lookup f_is_integer = some ⟨oc_is_integer, od_is_integer, .func (PySem.W.fnOf "is_integer" "is_integer" (defArgs s_is_integer) (defBody s_is_integer) (defScope s_is_integer) .none kV_is_integer dc_is_integer pm_is_integer an_is_integer cd_is_integer ct_is_integer), sl_is_integer⟩)
    (c_is_integer : PySem.W.codeIn K cd_is_integer "is_integer" = true)
    (k_is_integer : PySem.W.keepIn K (.ref f_is_integer) = true)
    (a_is_tuple : PySem.W.nsIn K mainGlobals "is_tuple" = some (some (.ref f_is_tuple)))
    (l_is_tuple : K.lookup f_is_tuple = some ⟨oc_is_tuple, od_is_tuple, .func (PySem.W.fnOf "is_tuple" "is_tuple" (defArgs s_is_tuple) (defBody s_is_tuple) (defScope s_is_tuple) .none kV_is_tuple dc_is_tuple pm_is_tuple an_is_tuple cd_is_tuple ct_is_tuple), sl_is_tuple⟩)
    (c_is_tuple : PySem.W.codeIn K cd_is_tuple "is_tuple" = true)
    (k_is_tuple : PySem.W.keepIn K (.ref f_is_tuple) = true)
    (a_is_text : PySem.W.nsIn K mainGlobals "is_text" = some (some (.ref f_is_text)))
    (l_is_text : K.lookup f_is_text = some ⟨oc_is_text, od_is_text, .func (PySem.W.fnOf "is_text" "is_text" (defArgs s_is_text) (defBody s_is_text) (defScope s_is_text) .none kV_is_text dc_is_text pm_is_text an_is_text cd_is_text ct_is_text), sl_is_text⟩)
    (c_is_text : PySem.W.codeIn K cd_is_text "is_text" = true)
    (k_is_text : PySem.W.keepIn K (.ref f_is_text) = true)
    (a_least_raised_at : PySem.W.nsIn K mainGlobals "least_raised_at" = some (some (.ref f_least_raised_at)))
    (l_least_raised_at : K.lookup f_least_raised_at = some ⟨oc_least_raised_at, od_least_raised_at, .func (PySem.W.fnOf "least_raised_at" "least_raised_at" (defArgs s_least_raised_at) (defBody s_least_raised_at) (defScope s_least_raised_at) .none kV_least_raised_at dc_least_raised_at pm_least_raised_at an_least_raised_at cd_least_raised_at ct_least_raised_at), sl_least_raised_at⟩)
    (c_least_raised_at : PySem.W.codeIn K cd_least_raised_at "least_raised_at" = true)
    (k_least_raised_at : PySem.W.keepIn K (.ref f_least_raised_at) = true)
    (a_check_mark : PySem.W.nsIn K mainGlobals "check_mark" = some (some (.ref f_check_mark)))
    (l_check_mark : K.lookup f_check_mark = some ⟨oc_check_mark, od_check_mark, .func (PySem.W.fnOf "check_mark" "check_mark" (defArgs s_check_mark) (defBody s_check_mark) (defScope s_check_mark) .none kV_check_mark dc_check_mark pm_check_mark an_check_mark cd_check_mark ct_check_mark), sl_check_mark⟩)
    (c_check_mark : PySem.W.codeIn K cd_check_mark "check_mark" = true)
    (k_check_mark : PySem.W.keepIn K (.ref f_check_mark) = true)
    (a_shortened : PySem.W.nsIn K mainGlobals "shortened" = some (some (.ref f_shortened)))
    (l_shortened : K.lookup f_shortened = some ⟨oc_shortened, od_shortened, .func (PySem.W.fnOf "shortened" "shortened" (defArgs s_shortened) (defBody s_shortened) (defScope s_shortened) .none kV_shortened dc_shortened pm_shortened an_shortened cd_shortened ct_shortened), sl_shortened⟩)
    (c_shortened : PySem.W.codeIn K cd_shortened "shortened" = true)
    (k_shortened : PySem.W.keepIn K (.ref f_shortened) = true)
    (a_shown_by : PySem.W.nsIn K mainGlobals "shown_by" = some (some (.ref f_shown_by)))
    (l_shown_by : K.lookup f_shown_by = some ⟨oc_shown_by, od_shown_by, .func (PySem.W.fnOf "shown_by" "shown_by" (defArgs s_shown_by) (defBody s_shown_by) (defScope s_shown_by) .none kV_shown_by dc_shown_by pm_shown_by an_shown_by cd_shown_by ct_shown_by), sl_shown_by⟩)
    (c_shown_by : PySem.W.codeIn K cd_shown_by "shown_by" = true)
    (k_shown_by : PySem.W.keepIn K (.ref f_shown_by) = true)
    (a_planned : PySem.W.nsIn K mainGlobals "planned" = some (some (.ref f_planned)))
    (l_planned : K.lookup f_planned = some ⟨oc_planned, od_planned, .func (PySem.W.fnOf "planned" "planned" (defArgs s_planned) (defBody s_planned) (defScope s_planned) .none kV_planned dc_planned pm_planned an_planned cd_planned ct_planned), sl_planned⟩)
    (c_planned : PySem.W.codeIn K cd_planned "planned" = true)
    (k_planned : PySem.W.keepIn K (.ref f_planned) = true)
    (a_telling_lengths : PySem.W.nsIn K mainGlobals "telling_lengths" = some (some (.ref f_telling_lengths)))
    (l_telling_lengths : K.lookup f_telling_lengths = some ⟨oc_telling_lengths, od_telling_lengths, .func (PySem.W.fnOf "telling_lengths" "telling_lengths" (defArgs s_telling_lengths) (defBody s_telling_lengths) (defScope s_telling_lengths) .none kV_telling_lengths dc_telling_lengths pm_telling_lengths an_telling_lengths cd_telling_lengths ct_telling_lengths), sl_telling_lengths⟩)
    (c_telling_lengths : PySem.W.codeIn K cd_telling_lengths "telling_lengths" = true)
    (k_telling_lengths : PySem.W.keepIn K (.ref f_telling_lengths) = true)
    (a_filled_in : PySem.W.nsIn K mainGlobals "filled_in" = some (some (.ref f_filled_in)))
    (l_filled_in : K.lookup f_filled_in = some ⟨oc_filled_in, od_filled_in, .func (PySem.W.fnOf "filled_in" "filled_in" (defArgs s_filled_in) (defBody s_filled_in) (defScope s_filled_in) .none kV_filled_in dc_filled_in pm_filled_in an_filled_in cd_filled_in ct_filled_in), sl_filled_in⟩)
    (c_filled_in : PySem.W.codeIn K cd_filled_in "filled_in" = true)
    (k_filled_in : PySem.W.keepIn K (.ref f_filled_in) = true)
    (a_differing_places : PySem.W.nsIn K mainGlobals "differing_places" = some (some (.ref f_differing_places)))
    (l_differing_places : K.lookup f_differing_places = some ⟨oc_differing_places, od_differing_places, .func (PySem.W.fnOf "differing_places" "differing_places" (defArgs s_differing_places) (defBody s_differing_places) (defScope s_differing_places) .none kV_differing_places dc_differing_places pm_differing_places an_differing_places cd_differing_places ct_differing_places), sl_differing_places⟩)
    (c_differing_places : PySem.W.codeIn K cd_differing_places "differing_places" = true)
    (k_differing_places : PySem.W.keepIn K (.ref f_differing_places) = true)
    (a_least_difference : PySem.W.nsIn K mainGlobals "least_difference" = some (some (.ref f_least_difference)))
    (l_least_difference : K.lookup f_least_difference = some ⟨oc_least_difference, od_least_difference, .func (PySem.W.fnOf "least_difference" "least_difference" (defArgs s_least_difference) (defBody s_least_difference) (defScope s_least_difference) .none kV_least_difference dc_least_difference pm_least_difference an_least_difference cd_least_difference ct_least_difference), sl_least_difference⟩)
    (c_least_difference : PySem.W.codeIn K cd_least_difference "least_difference" = true)
    (k_least_difference : PySem.W.keepIn K (.ref f_least_difference) = true)
    (a_first_difference : PySem.W.nsIn K mainGlobals "first_difference" = some (some (.ref f_first_difference)))
    (l_first_difference : K.lookup f_first_difference = some ⟨oc_first_difference, od_first_difference, .func (PySem.W.fnOf "first_difference" "first_difference" (defArgs s_first_difference) (defBody s_first_difference) (defScope s_first_difference) .none kV_first_difference dc_first_difference pm_first_difference an_first_difference cd_first_difference ct_first_difference), sl_first_difference⟩)
    (c_first_difference : PySem.W.codeIn K cd_first_difference "first_difference" = true)
    (k_first_difference : PySem.W.keepIn K (.ref f_first_difference) = true)
    (a_known_signs : PySem.W.nsIn K mainGlobals "known_signs" = some (some (.ref f_known_signs)))
    (l_known_signs : K.lookup f_known_signs = some ⟨oc_known_signs, od_known_signs, .func (PySem.W.fnOf "known_signs" "known_signs" (defArgs s_known_signs) (defBody s_known_signs) (defScope s_known_signs) .none kV_known_signs dc_known_signs pm_known_signs an_known_signs cd_known_signs ct_known_signs), sl_known_signs⟩)
    (c_known_signs : PySem.W.codeIn K cd_known_signs "known_signs" = true)
    (k_known_signs : PySem.W.keepIn K (.ref f_known_signs) = true)
    (a_is_told : PySem.W.nsIn K mainGlobals "is_told" = some (some (.ref f_is_told)))
    (l_is_told : K.lookup f_is_told = some ⟨oc_is_told, od_is_told, .func (PySem.W.fnOf "is_told" "is_told" (defArgs s_is_told) (defBody s_is_told) (defScope s_is_told) .none kV_is_told dc_is_told pm_is_told an_is_told cd_is_told ct_is_told), sl_is_told⟩)
    (c_is_told : PySem.W.codeIn K cd_is_told "is_told" = true)
    (k_is_told : PySem.W.keepIn K (.ref f_is_told) = true)
    (a_is_told_row : PySem.W.nsIn K mainGlobals "is_told_row" = some (some (.ref f_is_told_row)))
    (l_is_told_row : K.lookup f_is_told_row = some ⟨oc_is_told_row, od_is_told_row, .func (PySem.W.fnOf "is_told_row" "is_told_row" (defArgs s_is_told_row) (defBody s_is_told_row) (defScope s_is_told_row) .none kV_is_told_row dc_is_told_row pm_is_told_row an_is_told_row cd_is_told_row ct_is_told_row), sl_is_told_row⟩)
    (c_is_told_row : PySem.W.codeIn K cd_is_told_row "is_told_row" = true)
    (k_is_told_row : PySem.W.keepIn K (.ref f_is_told_row) = true)
    (a_are_told_rows : PySem.W.nsIn K mainGlobals "are_told_rows" = some (some (.ref f_are_told_rows)))
    (l_are_told_rows : K.lookup f_are_told_rows = some ⟨oc_are_told_rows, od_are_told_rows, .func (PySem.W.fnOf "are_told_rows" "are_told_rows" (defArgs s_are_told_rows) (defBody s_are_told_rows) (defScope s_are_told_rows) .none kV_are_told_rows dc_are_told_rows pm_are_told_rows an_are_told_rows cd_are_told_rows ct_are_told_rows), sl_are_told_rows⟩)
    (c_are_told_rows : PySem.W.codeIn K cd_are_told_rows "are_told_rows" = true)
    (k_are_told_rows : PySem.W.keepIn K (.ref f_are_told_rows) = true)
    (a_are_shown_parts : PySem.W.nsIn K mainGlobals "are_shown_parts" = some (some (.ref f_are_shown_parts)))
    (l_are_shown_parts : K.lookup f_are_shown_parts = some ⟨oc_are_shown_parts, od_are_shown_parts, .func (PySem.W.fnOf "are_shown_parts" "are_shown_parts" (defArgs s_are_shown_parts) (defBody s_are_shown_parts) (defScope s_are_shown_parts) .none kV_are_shown_parts dc_are_shown_parts pm_are_shown_parts an_are_shown_parts cd_are_shown_parts ct_are_shown_parts), sl_are_shown_parts⟩)
    (c_are_shown_parts : PySem.W.codeIn K cd_are_shown_parts "are_shown_parts" = true)
    (k_are_shown_parts : PySem.W.keepIn K (.ref f_are_shown_parts) = true)
    (a_is_pair_of_texts : PySem.W.nsIn K mainGlobals "is_pair_of_texts" = some (some (.ref f_is_pair_of_texts)))
    (l_is_pair_of_texts : K.lookup f_is_pair_of_texts = some ⟨oc_is_pair_of_texts, od_is_pair_of_texts, .func (PySem.W.fnOf "is_pair_of_texts" "is_pair_of_texts" (defArgs s_is_pair_of_texts) (defBody s_is_pair_of_texts) (defScope s_is_pair_of_texts) .none kV_is_pair_of_texts dc_is_pair_of_texts pm_is_pair_of_texts an_is_pair_of_texts cd_is_pair_of_texts ct_is_pair_of_texts), sl_is_pair_of_texts⟩)
    (c_is_pair_of_texts : PySem.W.codeIn K cd_is_pair_of_texts "is_pair_of_texts" = true)
    (k_is_pair_of_texts : PySem.W.keepIn K (.ref f_is_pair_of_texts) = true)
    (a_row_of : PySem.W.nsIn K mainGlobals "row_of" = some (some (.ref f_row_of)))
    (l_row_of : K.lookup f_row_of = some ⟨oc_row_of, od_row_of, .func (PySem.W.fnOf "row_of" "row_of" (defArgs s_row_of) (defBody s_row_of) (defScope s_row_of) .none kV_row_of dc_row_of pm_row_of an_row_of cd_row_of ct_row_of), sl_row_of⟩)
    (c_row_of : PySem.W.codeIn K cd_row_of "row_of" = true)
    (k_row_of : PySem.W.keepIn K (.ref f_row_of) = true)
    (a_alike_holds : PySem.W.nsIn K mainGlobals "alike_holds" = some (some (.ref f_alike_holds)))
    (l_alike_holds : K.lookup f_alike_holds = some ⟨oc_alike_holds, od_alike_holds, .func (PySem.W.fnOf "alike_holds" "alike_holds" (defArgs s_alike_holds) (defBody s_alike_holds) (defScope s_alike_holds) .none kV_alike_holds dc_alike_holds pm_alike_holds an_alike_holds cd_alike_holds ct_alike_holds), sl_alike_holds⟩)
    (c_alike_holds : PySem.W.codeIn K cd_alike_holds "alike_holds" = true)
    (k_alike_holds : PySem.W.keepIn K (.ref f_alike_holds) = true)
    (a_unlike_holds : PySem.W.nsIn K mainGlobals "unlike_holds" = some (some (.ref f_unlike_holds)))
    (l_unlike_holds : K.lookup f_unlike_holds = some ⟨oc_unlike_holds, od_unlike_holds, .func (PySem.W.fnOf "unlike_holds" "unlike_holds" (defArgs s_unlike_holds) (defBody s_unlike_holds) (defScope s_unlike_holds) .none kV_unlike_holds dc_unlike_holds pm_unlike_holds an_unlike_holds cd_unlike_holds ct_unlike_holds), sl_unlike_holds⟩)
    (c_unlike_holds : PySem.W.codeIn K cd_unlike_holds "unlike_holds" = true)
    (k_unlike_holds : PySem.W.keepIn K (.ref f_unlike_holds) = true)
    (a_stable_holds : PySem.W.nsIn K mainGlobals "stable_holds" = some (some (.ref f_stable_holds)))
    (l_stable_holds : K.lookup f_stable_holds = some ⟨oc_stable_holds, od_stable_holds, .func (PySem.W.fnOf "stable_holds" "stable_holds" (defArgs s_stable_holds) (defBody s_stable_holds) (defScope s_stable_holds) .none kV_stable_holds dc_stable_holds pm_stable_holds an_stable_holds cd_stable_holds ct_stable_holds), sl_stable_holds⟩)
    (c_stable_holds : PySem.W.codeIn K cd_stable_holds "stable_holds" = true)
    (k_stable_holds : PySem.W.keepIn K (.ref f_stable_holds) = true)
    (a_unstable_holds : PySem.W.nsIn K mainGlobals "unstable_holds" = some (some (.ref f_unstable_holds)))
    (l_unstable_holds : K.lookup f_unstable_holds = some ⟨oc_unstable_holds, od_unstable_holds, .func (PySem.W.fnOf "unstable_holds" "unstable_holds" (defArgs s_unstable_holds) (defBody s_unstable_holds) (defScope s_unstable_holds) .none kV_unstable_holds dc_unstable_holds pm_unstable_holds an_unstable_holds cd_unstable_holds ct_unstable_holds), sl_unstable_holds⟩)
    (c_unstable_holds : PySem.W.codeIn K cd_unstable_holds "unstable_holds" = true)
    (k_unstable_holds : PySem.W.keepIn K (.ref f_unstable_holds) = true)
    (a_possible_holds : PySem.W.nsIn K mainGlobals "possible_holds" = some (some (.ref f_possible_holds)))
    (l_possible_holds : K.lookup f_possible_holds = some ⟨oc_possible_holds, od_possible_holds, .func (PySem.W.fnOf "possible_holds" "possible_holds" (defArgs s_possible_holds) (defBody s_possible_holds) (defScope s_possible_holds) .none kV_possible_holds dc_possible_holds pm_possible_holds an_possible_holds cd_possible_holds ct_possible_holds), sl_possible_holds⟩)
    (c_possible_holds : PySem.W.codeIn K cd_possible_holds "possible_holds" = true)
    (k_possible_holds : PySem.W.keepIn K (.ref f_possible_holds) = true)
    (a_impossible_holds : PySem.W.nsIn K mainGlobals "impossible_holds" = some (some (.ref f_impossible_holds)))
    (l_impossible_holds : K.lookup f_impossible_holds = some ⟨oc_impossible_holds, od_impossible_holds, .func (PySem.W.fnOf "impossible_holds" "impossible_holds" (defArgs s_impossible_holds) (defBody s_impossible_holds) (defScope s_impossible_holds) .none kV_impossible_holds dc_impossible_holds pm_impossible_holds an_impossible_holds cd_impossible_holds ct_impossible_holds), sl_impossible_holds⟩)
    (c_impossible_holds : PySem.W.codeIn K cd_impossible_holds "impossible_holds" = true)
    (k_impossible_holds : PySem.W.keepIn K (.ref f_impossible_holds) = true)
    (a_confused_holds : PySem.W.nsIn K mainGlobals "confused_holds" = some (some (.ref f_confused_holds)))
    (l_confused_holds : K.lookup f_confused_holds = some ⟨oc_confused_holds, od_confused_holds, .func (PySem.W.fnOf "confused_holds" "confused_holds" (defArgs s_confused_holds) (defBody s_confused_holds) (defScope s_confused_holds) .none kV_confused_holds dc_confused_holds pm_confused_holds an_confused_holds cd_confused_holds ct_confused_holds), sl_confused_holds⟩)
    (c_confused_holds : PySem.W.codeIn K cd_confused_holds "confused_holds" = true)
    (k_confused_holds : PySem.W.keepIn K (.ref f_confused_holds) = true)
    (a_holds : PySem.W.nsIn K mainGlobals "holds" = some (some (.ref f_holds)))
    (l_holds : K.lookup f_holds = some ⟨oc_holds, od_holds, .func (PySem.W.fnOf "holds" "holds" (defArgs s_holds) (defBody s_holds) (defScope s_holds) .none kV_holds dc_holds pm_holds an_holds cd_holds ct_holds), sl_holds⟩)
    (c_holds : PySem.W.codeIn K cd_holds "holds" = true)
    (k_holds : PySem.W.keepIn K (.ref f_holds) = true)
    (a_law_pot : PySem.W.nsIn K mainGlobals "_law_pot" = some (some (.ref f_law_pot)))
    (l_law_pot : K.lookup f_law_pot = some ⟨oc_law_pot, od_law_pot, .func (PySem.W.fnOf "_law_pot" "_law_pot" (defArgs s_law_pot) (defBody s_law_pot) (defScope s_law_pot) .none kV_law_pot dc_law_pot pm_law_pot an_law_pot cd_law_pot ct_law_pot), sl_law_pot⟩)
    (c_law_pot : PySem.W.codeIn K cd_law_pot "_law_pot" = true)
    (k_law_pot : PySem.W.keepIn K (.ref f_law_pot) = true)
    (a_law_ladle : PySem.W.nsIn K mainGlobals "_law_ladle" = some (some (.ref f_law_ladle)))
    (l_law_ladle : K.lookup f_law_ladle = some ⟨oc_law_ladle, od_law_ladle, .func (PySem.W.fnOf "_law_ladle" "_law_ladle" (defArgs s_law_ladle) (defBody s_law_ladle) (defScope s_law_ladle) .none kV_law_ladle dc_law_ladle pm_law_ladle an_law_ladle cd_law_ladle ct_law_ladle), sl_law_ladle⟩)
    (c_law_ladle : PySem.W.codeIn K cd_law_ladle "_law_ladle" = true)
    (k_law_ladle : PySem.W.keepIn K (.ref f_law_ladle) = true)
    (a_law_one_of : PySem.W.nsIn K mainGlobals "_law_one_of" = some (some (.ref f_law_one_of)))
    (l_law_one_of : K.lookup f_law_one_of = some ⟨oc_law_one_of, od_law_one_of, .func (PySem.W.fnOf "_law_one_of" "_law_one_of" (defArgs s_law_one_of) (defBody s_law_one_of) (defScope s_law_one_of) .none kV_law_one_of dc_law_one_of pm_law_one_of an_law_one_of cd_law_one_of ct_law_one_of), sl_law_one_of⟩)
    (c_law_one_of : PySem.W.codeIn K cd_law_one_of "_law_one_of" = true)
    (k_law_one_of : PySem.W.keepIn K (.ref f_law_one_of) = true)
    (a_law_good : PySem.W.nsIn K mainGlobals "_law_good" = some (some (.ref f_law_good)))
    (l_law_good : K.lookup f_law_good = some ⟨oc_law_good, od_law_good, .func (PySem.W.fnOf "_law_good" "_law_good" (defArgs s_law_good) (defBody s_law_good) (defScope s_law_good) .none kV_law_good dc_law_good pm_law_good an_law_good cd_law_good ct_law_good), sl_law_good⟩)
    (c_law_good : PySem.W.codeIn K cd_law_good "_law_good" = true)
    (k_law_good : PySem.W.keepIn K (.ref f_law_good) = true)
    (a_law_odd : PySem.W.nsIn K mainGlobals "_law_odd" = some (some (.ref f_law_odd)))
    (l_law_odd : K.lookup f_law_odd = some ⟨oc_law_odd, od_law_odd, .func (PySem.W.fnOf "_law_odd" "_law_odd" (defArgs s_law_odd) (defBody s_law_odd) (defScope s_law_odd) .none kV_law_odd dc_law_odd pm_law_odd an_law_odd cd_law_odd ct_law_odd), sl_law_odd⟩)
    (c_law_odd : PySem.W.codeIn K cd_law_odd "_law_odd" = true)
    (k_law_odd : PySem.W.keepIn K (.ref f_law_odd) = true)
    (a_law_bent : PySem.W.nsIn K mainGlobals "_law_bent" = some (some (.ref f_law_bent)))
    (l_law_bent : K.lookup f_law_bent = some ⟨oc_law_bent, od_law_bent, .func (PySem.W.fnOf "_law_bent" "_law_bent" (defArgs s_law_bent) (defBody s_law_bent) (defScope s_law_bent) .none kV_law_bent dc_law_bent pm_law_bent an_law_bent cd_law_bent ct_law_bent), sl_law_bent⟩)
    (c_law_bent : PySem.W.codeIn K cd_law_bent "_law_bent" = true)
    (k_law_bent : PySem.W.keepIn K (.ref f_law_bent) = true)
    (a_law_right : PySem.W.nsIn K mainGlobals "_law_right" = some (some (.ref f_law_right)))
    (l_law_right : K.lookup f_law_right = some ⟨oc_law_right, od_law_right, .func (PySem.W.fnOf "_law_right" "_law_right" (defArgs s_law_right) (defBody s_law_right) (defScope s_law_right) .none kV_law_right dc_law_right pm_law_right an_law_right cd_law_right ct_law_right), sl_law_right⟩)
    (c_law_right : PySem.W.codeIn K cd_law_right "_law_right" = true)
    (k_law_right : PySem.W.keepIn K (.ref f_law_right) = true)
    (a_law : PySem.W.nsIn K mainGlobals "law" = some (some (.ref f_law)))
    (l_law : K.lookup f_law = some ⟨oc_law, od_law, .func (PySem.W.fnOf "law" "law" (defArgs s_law) (defBody s_law) (defScope s_law) .none kV_law dc_law pm_law an_law cd_law ct_law), sl_law⟩)
    (c_law : PySem.W.codeIn K cd_law "law" = true)
    (k_law : PySem.W.keepIn K (.ref f_law) = true)
    (qn : PySem.W.specialIn K (.builtin "object.__class__") "__get__" = some (some (.builtin "getset_descriptor.__get__")))
    (qt : PySem.W.takesIn K (.builtin "object.__class__") = some true)
    (asC : PySem.W.nsIn K mainGlobals "Shortener" = some (some (.ref C)))
    (a_is : PySem.W.findIn K (.ref C) "__init__" = some (some (.ref f_is)))
    (l_is : K.lookup f_is = some ⟨oc_is, od_is, .func (PySem.W.fnOf "__init__" "Shortener.__init__" (defArgs s_Shortener_init) (defBody s_Shortener_init) (defScope s_Shortener_init) .none kV_is dc_is pm_is an_is cd_is ct_is), sl_is⟩)
    (c_is : PySem.W.codeIn K cd_is "Shortener.__init__" = true)
    (k_is : PySem.W.keepIn K (.ref f_is) = true)
    (i_is : PySem.W.isFn K (.ref f_is) = true)
    (pgs : PySem.W.plainGet K C Str.empty = true)
    (hds : PySem.W.hasDictIn K C = true)
    (pos : PySem.W.plainOver K C = true)
    (sas : PySem.W.findIn K (.ref C) "__setattr__" = some (some (.builtin "object.__setattr__")))
    (mksC : PySem.W.makesIn K C = true)
    (ksC : PySem.W.keepIn K (.ref C) = true)
    (ns_limit : PySem.W.findIn K (.ref C) "limit" = some none)
    (ns_head : PySem.W.findIn K (.ref C) "head" = some none)
    (ns_tail : PySem.W.findIn K (.ref C) "tail" = some none)
    (ns_mark : PySem.W.findIn K (.ref C) "mark" = some none)
    (ns_told : PySem.W.findIn K (.ref C) "told" = some none)
    (qas : PySem.W.findIn K (.ref C) "__class__" = some (some (.builtin "object.__class__")))
    (qms : PySem.W.mroIn K C (.type "object") = some true)
    (z_ValueError : PySem.W.nsIn K mainGlobals "ValueError" = some none)
    (z_abs : PySem.W.nsIn K mainGlobals "abs" = some none)
    (z_all : PySem.W.nsIn K mainGlobals "all" = some none)
    (z_bool : PySem.W.nsIn K mainGlobals "bool" = some none)
    (z_divmod : PySem.W.nsIn K mainGlobals "divmod" = some none)
    (z_int : PySem.W.nsIn K mainGlobals "int" = some none)
    (z_isinstance : PySem.W.nsIn K mainGlobals "isinstance" = some none)
    (z_len : PySem.W.nsIn K mainGlobals "len" = some none)
    (z_list : PySem.W.nsIn K mainGlobals "list" = some none)
    (z_max : PySem.W.nsIn K mainGlobals "max" = some none)
    (z_min : PySem.W.nsIn K mainGlobals "min" = some none)
    (z_range : PySem.W.nsIn K mainGlobals "range" = some none)
    (z_str : PySem.W.nsIn K mainGlobals "str" = some none)
    (z_tuple : PySem.W.nsIn K mainGlobals "tuple" = some none)
    (z_zip : PySem.W.nsIn K mainGlobals "zip" = some none)
    (z_MOST_SIGNS : PySem.W.nsIn K mainGlobals "MOST_SIGNS" = some (some (.int 40 u_MOST_SIGNS)))
    (z_MOST_MARK : PySem.W.nsIn K mainGlobals "MOST_MARK" = some (some (.int 3 u_MOST_MARK)))
    (z_MOST_ROW : PySem.W.nsIn K mainGlobals "MOST_ROW" = some (some (.int 4 u_MOST_ROW)))
    (z_MOST_TEXT : PySem.W.nsIn K mainGlobals "MOST_TEXT" = some (some (.int 200 u_MOST_TEXT)))
    (z_MOST_LENGTH : PySem.W.nsIn K mainGlobals "MOST_LENGTH" = some (some (.int 500 u_MOST_LENGTH)))
    (z_SIGNS : PySem.W.nsIn K mainGlobals "SIGNS" = some (some (.str ".0123456789abcdefghijklmnopqrstuvwxyz~" u_SIGNS)))
    (ck_g : PySem.W.nsIn K mainGlobals "CHECKS" = some (some (.ref T_ck)))
    (ck_l : K.lookup T_ck = some ⟨.type "dict", none, .dict es_ck n_ck, #[]⟩)
    (ck_k : PySem.W.KeysLit w.params es_ck.toList)
    (ck_s : (T_ck == sysModules) = false)
    (ck_alike : PySem.W.nsIn K T_ck "alike" = some (some (.ref f_alike_holds)))
    (ck_unlike : PySem.W.nsIn K T_ck "unlike" = some (some (.ref f_unlike_holds)))
    (ck_stable : PySem.W.nsIn K T_ck "stable" = some (some (.ref f_stable_holds)))
    (ck_unstable : PySem.W.nsIn K T_ck "unstable" = some (some (.ref f_unstable_holds)))
    (ck_possible : PySem.W.nsIn K T_ck "possible" = some (some (.ref f_possible_holds)))
    (ck_impossible : PySem.W.nsIn K T_ck "impossible" = some (some (.ref f_impossible_holds)))
    (ck_confused : PySem.W.nsIn K T_ck "confused" = some (some (.ref f_confused_holds)))
    (ckno_0 : PySem.W.nsIn K T_ck "A" = some none)
    (ckno_1 : PySem.W.nsIn K T_ck "Alike" = some none)
    (ckno_2 : PySem.W.nsIn K T_ck " " = some none)
    (ckno_3 : PySem.W.nsIn K T_ck "aaaaaaaaaaaaaaaaaaaaaaaaaaaaaaaaaaaaaaaaaaaaaaaaaaaaaaaaaaaaaaaaaaaaaaaaaaaaaaaaaaaaaaaaaaaaaaaaaaaaaaaaaaaaaaaaaaaaaaaaaaaaaaaaaaaaaaaaaaaaaaaaaaaaaaaaaaaaaaaaaaaaaaaaaaaaaaaaaaaaaaaaaaaaaaaaaaaaaaaaaaaaaaaaaaaaaaaaaaaaaaaaaaaaaaaaaaaaaaaaaaaaaaaaaaaaaaaaaaaaaaaaaaaaaaaaaaaaaaaaaaaaaaaaaaaaaaaaaaaaaaaaaaaaaaaaaaaaaaaaaaaaaaaaaaaaaaaaaaaaaaaaaaaaaaaaaaaaaaaaaaaaaaaaaaaaaaaaaaaaaaaaaaaaaaaaaaaaaaa-" = some none) :
    ∃ fd : FuncData, (∀ (s : Shared) (v : Value), BindsTo s fd ⟨[v], []⟩ [("_law_script", v)]) ∧ ∀ base : Heap, K.In base → base.Ns mainGlobals mg → FnG l.prog w K mg base 9 fa fd ["_law_script"] (spLaw K) := by
  have e := hfa.symm.trans (PySem.W.mg_of X G a_law)
  cases e
  have B : Bi mg := ⟨PySem.W.mg_none_of X G z_ValueError, PySem.W.mg_none_of X G z_abs, PySem.W.mg_none_of X G z_all, PySem.W.mg_none_of X G z_bool, PySem.W.mg_none_of X G z_divmod, PySem.W.mg_none_of X G z_int, PySem.W.mg_none_of X G z_isinstance, PySem.W.mg_none_of X G z_len, PySem.W.mg_none_of X G z_list, PySem.W.mg_none_of X G z_max, PySem.W.mg_none_of X G z_min, PySem.W.mg_none_of X G z_range, PySem.W.mg_none_of X G z_str, PySem.W.mg_none_of X G z_tuple, PySem.W.mg_none_of X G z_zip, cst_mk X G ⟨_, rfl⟩ z_MOST_SIGNS, cst_mk X G ⟨_, rfl⟩ z_MOST_MARK, cst_mk X G ⟨_, rfl⟩ z_MOST_ROW, cst_mk X G ⟨_, rfl⟩ z_MOST_TEXT, cst_mk X G ⟨_, rfl⟩ z_MOST_LENGTH, cst_mk X G ⟨_, rfl⟩ z_SIGNS⟩
  have Ck_alike : ChkW K mg w "alike" "alike_holds" := ⟨T_ck, f_alike_holds, es_ck, n_ck, PySem.W.mg_of X G ck_g, ⟨ck_l, ck_k, ck_s⟩, ck_alike, PySem.W.mg_of X G a_alike_holds⟩
  have Ck_unlike : ChkW K mg w "unlike" "unlike_holds" := ⟨T_ck, f_unlike_holds, es_ck, n_ck, PySem.W.mg_of X G ck_g, ⟨ck_l, ck_k, ck_s⟩, ck_unlike, PySem.W.mg_of X G a_unlike_holds⟩
  have Ck_stable : ChkW K mg w "stable" "stable_holds" := ⟨T_ck, f_stable_holds, es_ck, n_ck, PySem.W.mg_of X G ck_g, ⟨ck_l, ck_k, ck_s⟩, ck_stable, PySem.W.mg_of X G a_stable_holds⟩
  have Ck_unstable : ChkW K mg w "unstable" "unstable_holds" := ⟨T_ck, f_unstable_holds, es_ck, n_ck, PySem.W.mg_of X G ck_g, ⟨ck_l, ck_k, ck_s⟩, ck_unstable, PySem.W.mg_of X G a_unstable_holds⟩
  have Ck_possible : ChkW K mg w "possible" "possible_holds" := ⟨T_ck, f_possible_holds, es_ck, n_ck, PySem.W.mg_of X G ck_g, ⟨ck_l, ck_k, ck_s⟩, ck_possible, PySem.W.mg_of X G a_possible_holds⟩
  have Ck_impossible : ChkW K mg w "impossible" "impossible_holds" := ⟨T_ck, f_impossible_holds, es_ck, n_ck, PySem.W.mg_of X G ck_g, ⟨ck_l, ck_k, ck_s⟩, ck_impossible, PySem.W.mg_of X G a_impossible_holds⟩
  have Ck_confused : ChkW K mg w "confused" "confused_holds" := ⟨T_ck, f_confused_holds, es_ck, n_ck, PySem.W.mg_of X G ck_g, ⟨ck_l, ck_k, ck_s⟩, ck_confused, PySem.W.mg_of X G a_confused_holds⟩
  have Ck_no : NoWords K mg := fun T hT z hz => by
    have e := hT.symm.trans (PySem.W.mg_of X G ck_g)
    cases e
    rw [oddWords_eq] at hz
    simp only [List.mem_cons, List.not_mem_nil, or_false] at hz
    rcases hz with rfl | rfl | rfl | rfl
    · exact ckno_0
    · exact ckno_1
    · exact ckno_2
    · exact ckno_3
  have Ss : ShC K mg C := ⟨⟨pgs, hds, pos, sas⟩, ns_limit, ns_head, ns_tail, ns_mark, ns_told, PySem.W.mg_of X G asC, qas, qn, qt, qms, if_pos (beq_self_eq_true _)⟩
  have Is : InitAt K C := ⟨f_is, _, ⟨mksC, a_is, i_is, ksC⟩, fun_mk l_is c_is k_is, (fun_mk l_is c_is k_is).binds fun _ _ _ _ _ _ us hl => match us, hl with | [_, _, _, _, _], _ => rfl⟩
  have A_is_integer : At K mg "is_integer" s_is_integer ps_is_integer := at_mk X G (fun _ _ _ _ _ _ us hl => match us, hl with | [_, _, _], _ => rfl) a_is_integer l_is_integer c_is_integer k_is_integer
  have A_is_tuple : At K mg "is_tuple" s_is_tuple ps_is_tuple := at_mk X G (fun _ _ _ _ _ _ us hl => match us, hl with | [_, _, _], _ => rfl) a_is_tuple l_is_tuple c_is_tuple k_is_tuple
  have A_is_text : At K mg "is_text" s_is_text ps_is_text := at_mk X G (fun _ _ _ _ _ _ us hl => match us, hl with | [_, _], _ => rfl) a_is_text l_is_text c_is_text k_is_text
  have A_least_raised_at : At K mg "least_raised_at" s_least_raised_at ps_least_raised_at := at_mk X G (fun _ _ _ _ _ _ us hl => match us, hl with | [_, _], _ => rfl) a_least_raised_at l_least_raised_at c_least_raised_at k_least_raised_at
  have A_check_mark : At K mg "check_mark" s_check_mark ps_check_mark := at_mk X G (fun _ _ _ _ _ _ us hl => match us, hl with | [_], _ => rfl) a_check_mark l_check_mark c_check_mark k_check_mark
  have A_shortened : At K mg "shortened" s_shortened ps_shortened := at_mk X G (fun _ _ _ _ _ _ us hl => match us, hl with | [_, _, _], _ => rfl) a_shortened l_shortened c_shortened k_shortened
  have A_shown_by : At K mg "shown_by" s_shown_by ps_shown_by := at_mk X G (fun _ _ _ _ _ _ us hl => match us, hl with | [_, _], _ => rfl) a_shown_by l_shown_by c_shown_by k_shown_by
  have A_planned : At K mg "planned" s_planned ps_planned := at_mk X G (fun _ _ _ _ _ _ us hl => match us, hl with | [_, _], _ => rfl) a_planned l_planned c_planned k_planned
  have A_telling_lengths : At K mg "telling_lengths" s_telling_lengths ps_telling_lengths := at_mk X G (fun _ _ _ _ _ _ us hl => match us, hl with | [], _ => rfl) a_telling_lengths l_telling_lengths c_telling_lengths k_telling_lengths
  have A_filled_in : At K mg "filled_in" s_filled_in ps_filled_in := at_mk X G (fun _ _ _ _ _ _ us hl => match us, hl with | [_, _], _ => rfl) a_filled_in l_filled_in c_filled_in k_filled_in
  have A_differing_places : At K mg "differing_places" s_differing_places ps_differing_places := at_mk X G (fun _ _ _ _ _ _ us hl => match us, hl with | [_, _], _ => rfl) a_differing_places l_differing_places c_differing_places k_differing_places
  have A_least_difference : At K mg "least_difference" s_least_difference ps_least_difference := at_mk X G (fun _ _ _ _ _ _ us hl => match us, hl with | [_, _, _], _ => rfl) a_least_difference l_least_difference c_least_difference k_least_difference
  have A_first_difference : At K mg "first_difference" s_first_difference ps_first_difference := at_mk X G (fun _ _ _ _ _ _ us hl => match us, hl with | [_, _], _ => rfl) a_first_difference l_first_difference c_first_difference k_first_difference
  have A_known_signs : At K mg "known_signs" s_known_signs ps_known_signs := at_mk X G (fun _ _ _ _ _ _ us hl => match us, hl with | [_, _], _ => rfl) a_known_signs l_known_signs c_known_signs k_known_signs
  have A_is_told : At K mg "is_told" s_is_told ps_is_told := at_mk X G (fun _ _ _ _ _ _ us hl => match us, hl with | [_], _ => rfl) a_is_told l_is_told c_is_told k_is_told
  have A_is_told_row : At K mg "is_told_row" s_is_told_row ps_is_told_row := at_mk X G (fun _ _ _ _ _ _ us hl => match us, hl with | [_], _ => rfl) a_is_told_row l_is_told_row c_is_told_row k_is_told_row
  have A_are_told_rows : At K mg "are_told_rows" s_are_told_rows ps_are_told_rows := at_mk X G (fun _ _ _ _ _ _ us hl => match us, hl with | [_, _], _ => rfl) a_are_told_rows l_are_told_rows c_are_told_rows k_are_told_rows
  have A_are_shown_parts : At K mg "are_shown_parts" s_are_shown_parts ps_are_shown_parts := at_mk X G (fun _ _ _ _ _ _ us hl => match us, hl with | [_], _ => rfl) a_are_shown_parts l_are_shown_parts c_are_shown_parts k_are_shown_parts
  have A_is_pair_of_texts : At K mg "is_pair_of_texts" s_is_pair_of_texts ps_is_pair_of_texts := at_mk X G (fun _ _ _ _ _ _ us hl => match us, hl with | [_], _ => rfl) a_is_pair_of_texts l_is_pair_of_texts c_is_pair_of_texts k_is_pair_of_texts
  have A_row_of : At K mg "row_of" s_row_of ps_row_of := at_mk X G (fun _ _ _ _ _ _ us hl => match us, hl with | [_], _ => rfl) a_row_of l_row_of c_row_of k_row_of
  have A_alike_holds : At K mg "alike_holds" s_alike_holds ps_alike_holds := at_mk X G (fun _ _ _ _ _ _ us hl => match us, hl with | [_, _], _ => rfl) a_alike_holds l_alike_holds c_alike_holds k_alike_holds
  have A_unlike_holds : At K mg "unlike_holds" s_unlike_holds ps_unlike_holds := at_mk X G (fun _ _ _ _ _ _ us hl => match us, hl with | [_, _], _ => rfl) a_unlike_holds l_unlike_holds c_unlike_holds k_unlike_holds
  have A_stable_holds : At K mg "stable_holds" s_stable_holds ps_stable_holds := at_mk X G (fun _ _ _ _ _ _ us hl => match us, hl with | [_, _], _ => rfl) a_stable_holds l_stable_holds c_stable_holds k_stable_holds
  have A_unstable_holds : At K mg "unstable_holds" s_unstable_holds ps_unstable_holds := at_mk X G (fun _ _ _ _ _ _ us hl => match us, hl with | [_, _], _ => rfl) a_unstable_holds l_unstable_holds c_unstable_holds k_unstable_holds
  have A_possible_holds : At K mg "possible_holds" s_possible_holds ps_possible_holds := at_mk X G (fun _ _ _ _ _ _ us hl => match us, hl with | [_, _], _ => rfl) a_possible_holds l_possible_holds c_possible_holds k_possible_holds
  have A_impossible_holds : At K mg "impossible_holds" s_impossible_holds ps_impossible_holds := at_mk X G (fun _ _ _ _ _ _ us hl => match us, hl with | [_, _], _ => rfl) a_impossible_holds l_impossible_holds c_impossible_holds k_impossible_holds
  have A_confused_holds : At K mg "confused_holds" s_confused_holds ps_confused_holds := at_mk X G (fun _ _ _ _ _ _ us hl => match us, hl with | [_, _], _ => rfl) a_confused_holds l_confused_holds c_confused_holds k_confused_holds
  have A_holds : At K mg "holds" s_holds ps_holds := at_mk X G (fun _ _ _ _ _ _ us hl => match us, hl with | [_, _], _ => rfl) a_holds l_holds c_holds k_holds
  have A_law_pot : At K mg "_law_pot" s_law_pot ps_law_pot := at_mk X G (fun _ _ _ _ _ _ us hl => match us, hl with | [_, _], _ => rfl) a_law_pot l_law_pot c_law_pot k_law_pot
  have A_law_ladle : At K mg "_law_ladle" s_law_ladle ps_law_ladle := at_mk X G (fun _ _ _ _ _ _ us hl => match us, hl with | [_, _], _ => rfl) a_law_ladle l_law_ladle c_law_ladle k_law_ladle
  have A_law_one_of : At K mg "_law_one_of" s_law_one_of ps_law_one_of := at_mk X G (fun _ _ _ _ _ _ us hl => match us, hl with | [_, _], _ => rfl) a_law_one_of l_law_one_of c_law_one_of k_law_one_of
  have A_law_good : At K mg "_law_good" s_law_good ps_law_good := at_mk X G (fun _ _ _ _ _ _ us hl => match us, hl with | [_], _ => rfl) a_law_good l_law_good c_law_good k_law_good
  have A_law_odd : At K mg "_law_odd" s_law_odd ps_law_odd := at_mk X G (fun _ _ _ _ _ _ us hl => match us, hl with | [_], _ => rfl) a_law_odd l_law_odd c_law_odd k_law_odd
  have A_law_bent : At K mg "_law_bent" s_law_bent ps_law_bent := at_mk X G (fun _ _ _ _ _ _ us hl => match us, hl with | [_, _, _], _ => rfl) a_law_bent l_law_bent c_law_bent k_law_bent
  have A_law_right : At K mg "_law_right" s_law_right ps_law_right := at_mk X G (fun _ _ _ _ _ _ us hl => match us, hl with | [_], _ => rfl) a_law_right l_law_right c_law_right k_law_right
  exact ⟨_, fun s v => .of_eq rfl, fun base _ _ => fin B Ck_alike Ck_unlike Ck_stable Ck_unstable Ck_possible Ck_impossible Ck_confused Ck_no Ss Is A_is_integer A_is_tuple A_is_text A_least_raised_at A_check_mark A_shortened A_shown_by A_planned A_telling_lengths A_filled_in A_differing_places A_least_difference A_first_difference A_known_signs A_is_told A_is_told_row A_are_told_rows A_are_shown_parts A_is_pair_of_texts A_row_of A_alike_holds A_unlike_holds A_stable_holds A_unstable_holds A_possible_holds A_impossible_holds A_confused_holds A_holds A_law_pot A_law_ladle A_law_one_of A_law_good A_law_odd A_law_bent A_law_right (fun_mk l_law c_law k_law)⟩
end Gu
open PySem PySem.W PyProof.Rows
set_option maxHeartbeats 0 in
theorem PySem.Challenge.cw_shownshort_k21_things_of_any_kind_judged_holds : PySem.Challenge.rw_shownshort_k21_things_of_any_kind_judged.Holds := by
  w_on; o_law; k_head; (case hw => w_witness2)
  k_fill
  refine Gu.walkG (l := PySem.Challenge.rw_shownshort_k21_things_of_any_kind_judged) (n := 63) (k := 9) (x := "_law_script") (sp := Gu.spLaw) rfl (by decide) rfl ⟨rfl, by decide, by decide⟩ (fun w h Y => PySem.W.kIn_of Y) ?F (fun _ _ a ns hl hS => ⟨a, ns, rfl, hS, hl, fun _ => rfl⟩)
  case F =>
    intro w mg fa h KX G hmg
    refine' Gu.all_mk KX G hmg ?a_is_integer ?l_is_integer ?c_is_integer ?k_is_integer ?a_is_tuple ?l_is_tuple ?c_is_tuple ?k_is_tuple ?a_is_text ?l_is_text ?c_is_text ?k_is_text ?a_least_raised_at ?l_least_raised_at ?c_least_raised_at ?k_least_raised_at ?a_check_mark ?l_check_mark ?c_check_mark ?k_check_mark ?a_shortened ?l_shortened ?c_shortened ?k_shortened ?a_shown_by ?l_shown_by ?c_shown_by ?k_shown_by ?a_planned ?l_planned ?c_planned ?k_planned ?a_telling_lengths ?l_telling_lengths ?c_telling_lengths ?k_telling_lengths ?a_filled_in ?l_filled_in ?c_filled_in ?k_filled_in ?a_differing_places ?l_differing_places ?c_differing_places ?k_differing_places ?a_least_difference ?l_least_difference ?c_least_difference ?k_least_difference ?a_first_difference ?l_first_difference ?c_first_difference ?k_first_difference ?a_known_signs ?l_known_signs ?c_known_signs ?k_known_signs ?a_is_told ?l_is_told ?c_is_told ?k_is_told ?a_is_told_row ?l_is_told_row ?c_is_told_row ?k_is_told_row ?a_are_told_rows ?l_are_told_rows ?c_are_told_rows ?k_are_told_rows ?a_are_shown_parts ?l_are_shown_parts ?c_are_shown_parts ?k_are_shown_parts ?a_is_pair_of_texts ?l_is_pair_of_texts ?c_is_pair_of_texts ?k_is_pair_of_texts ?a_row_of ?l_row_of ?c_row_of ?k_row_of ?a_alike_holds ?l_alike_holds ?c_alike_holds ?k_alike_holds ?a_unlike_holds ?l_unlike_holds ?c_unlike_holds ?k_unlike_holds ?a_stable_holds ?l_stable_holds ?c_stable_holds ?k_stable_holds ?a_unstable_holds ?l_unstable_holds ?c_unstable_holds ?k_unstable_holds ?a_possible_holds ?l_possible_holds ?c_possible_holds ?k_possible_holds ?a_impossible_holds ?l_impossible_holds ?c_impossible_holds ?k_impossible_holds ?a_confused_holds ?l_confused_holds ?c_confused_holds ?k_confused_holds ?a_holds ?l_holds ?c_holds ?k_holds ?a_law_pot ?l_law_pot ?c_law_pot ?k_law_pot ?a_law_ladle ?l_law_ladle ?c_law_ladle ?k_law_ladle ?a_law_one_of ?l_law_one_of ?c_law_one_of ?k_law_one_of ?a_law_good ?l_law_good ?c_law_good ?k_law_good ?a_law_odd ?l_law_odd ?c_law_odd ?k_law_odd ?a_law_bent ?l_law_bent ?c_law_bent ?k_law_bent ?a_law_right ?l_law_right ?c_law_right ?k_law_right ?a_law ?l_law ?c_law ?k_law ?qn ?qt ?asC ?a_is ?l_is ?c_is ?k_is ?i_is ?pgs ?hds ?pos ?sas ?mksC ?ksC ?ns_limit ?ns_head ?ns_tail ?ns_mark ?ns_told ?qas ?qms ?z_ValueError ?z_abs ?z_all ?z_bool ?z_divmod ?z_int ?z_isinstance ?z_len ?z_list ?z_max ?z_min ?z_range ?z_str ?z_tuple ?z_zip ?z_MOST_SIGNS ?z_MOST_MARK ?z_MOST_ROW ?z_MOST_TEXT ?z_MOST_LENGTH ?z_SIGNS ?ck_g ?ck_l ?ck_k ?ck_s ?ck_alike ?ck_unlike ?ck_stable ?ck_unstable ?ck_possible ?ck_impossible ?ck_confused ?ckno_0 ?ckno_1 ?ckno_2 ?ckno_3
    (case a_is_integer => k_is)
    (case l_is_integer => k_is)
    (case c_is_integer => k_is)
    (case k_is_integer => k_is)
    (case a_is_tuple => k_is)
    (case l_is_tuple => k_is)
    (case c_is_tuple => k_is)
    (case k_is_tuple => k_is)
    (case a_is_text => k_is)
    (case l_is_text => k_is)
    (case c_is_text => k_is)
    (case k_is_text => k_is)
    (case a_least_raised_at => k_is)
    (case l_least_raised_at => k_is)
    (case c_least_raised_at => k_is)
    (case k_least_raised_at => k_is)
    (case a_check_mark => k_is)
    (case l_check_mark => k_is)
    (case c_check_mark => k_is)
    (case k_check_mark => k_is)
    (case a_shortened => k_is)
    (case l_shortened => k_is)
    (case c_shortened => k_is)
    (case k_shortened => k_is)
    (case a_shown_by => k_is)
    (case l_shown_by => k_is)
    (case c_shown_by => k_is)
    (case k_shown_by => k_is)
    (case a_planned => k_is)
    (case l_planned => k_is)
    (case c_planned => k_is)
    (case k_planned => k_is)
    (case a_telling_lengths => k_is)
    (case l_telling_lengths => k_is)
    (case c_telling_lengths => k_is)
    (case k_telling_lengths => k_is)
    (case a_filled_in => k_is)
    (case l_filled_in => k_is)
    (case c_filled_in => k_is)
    (case k_filled_in => k_is)
    (case a_differing_places => k_is)
    (case l_differing_places => k_is)
    (case c_differing_places => k_is)
    (case k_differing_places => k_is)
    (case a_least_difference => k_is)
    (case l_least_difference => k_is)
    (case c_least_difference => k_is)
    (case k_least_difference => k_is)
    (case a_first_difference => k_is)
    (case l_first_difference => k_is)
    (case c_first_difference => k_is)
    (case k_first_difference => k_is)
    (case a_known_signs => k_is)
    (case l_known_signs => k_is)
    (case c_known_signs => k_is)
    (case k_known_signs => k_is)
    (case a_is_told => k_is)
    (case l_is_told => k_is)
    (case c_is_told => k_is)
    (case k_is_told => k_is)
    (case a_is_told_row => k_is)
    (case l_is_told_row => k_is)
    (case c_is_told_row => k_is)
    (case k_is_told_row => k_is)
    (case a_are_told_rows => k_is)
    (case l_are_told_rows => k_is)
    (case c_are_told_rows => k_is)
    (case k_are_told_rows => k_is)
    (case a_are_shown_parts => k_is)
    (case l_are_shown_parts => k_is)
    (case c_are_shown_parts => k_is)
    (case k_are_shown_parts => k_is)
    (case a_is_pair_of_texts => k_is)
    (case l_is_pair_of_texts => k_is)
    (case c_is_pair_of_texts => k_is)
    (case k_is_pair_of_texts => k_is)
    (case a_row_of => k_is)
    (case l_row_of => k_is)
    (case c_row_of => k_is)
    (case k_row_of => k_is)
    (case a_alike_holds => k_is)
    (case l_alike_holds => k_is)
    (case c_alike_holds => k_is)
    (case k_alike_holds => k_is)
    (case a_unlike_holds => k_is)
    (case l_unlike_holds => k_is)
    (case c_unlike_holds => k_is)
    (case k_unlike_holds => k_is)
    (case a_stable_holds => k_is)
    (case l_stable_holds => k_is)
    (case c_stable_holds => k_is)
    (case k_stable_holds => k_is)
    (case a_unstable_holds => k_is)
    (case l_unstable_holds => k_is)
    (case c_unstable_holds => k_is)
    (case k_unstable_holds => k_is)
    (case a_possible_holds => k_is)
    (case l_possible_holds => k_is)
    (case c_possible_holds => k_is)
    (case k_possible_holds => k_is)
    (case a_impossible_holds => k_is)
    (case l_impossible_holds => k_is)
    (case c_impossible_holds => k_is)
    (case k_impossible_holds => k_is)
    (case a_confused_holds => k_is)
    (case l_confused_holds => k_is)
    (case c_confused_holds => k_is)
    (case k_confused_holds => k_is)
    (case a_holds => k_is)
    (case l_holds => k_is)
    (case c_holds => k_is)
    (case k_holds => k_is)
    (case a_law_pot => k_is)
    (case l_law_pot => k_is)
    (case c_law_pot => k_is)
    (case k_law_pot => k_is)
    (case a_law_ladle => k_is)
    (case l_law_ladle => k_is)
    (case c_law_ladle => k_is)
    (case k_law_ladle => k_is)
    (case a_law_one_of => k_is)
    (case l_law_one_of => k_is)
    (case c_law_one_of => k_is)
    (case k_law_one_of => k_is)
    (case a_law_good => k_is)
    (case l_law_good => k_is)
    (case c_law_good => k_is)
    (case k_law_good => k_is)
    (case a_law_odd => k_is)
    (case l_law_odd => k_is)
    (case c_law_odd => k_is)
    (case k_law_odd => k_is)
    (case a_law_bent => k_is)
    (case l_law_bent => k_is)
    (case c_law_bent => k_is)
    (case k_law_bent => k_is)
    (case a_law_right => k_is)
    (case l_law_right => k_is)
    (case c_law_right => k_is)
    (case k_law_right => k_is)
    (case a_law => k_is)
    (case l_law => k_is)
    (case c_law => k_is)
    (case k_law => k_is)
    (case qn => k_is)
    (case qt => k_is)
    (case asC => k_is)
    (case a_is => k_is)
    (case l_is => k_is)
    (case c_is => k_is)
    (case k_is => k_is)
    (case i_is => k_is)
    (case pgs => k_is)
    (case hds => k_is)
    (case pos => k_is)
    (case sas => k_is)
    (case mksC => k_is)
    (case ksC => k_is)
    (case ns_limit => k_is)
    (case ns_head => k_is)
    (case ns_tail => k_is)
    (case ns_mark => k_is)
    (case ns_told => k_is)
    (case qas => k_is)
    (case qms => k_is)
    (case z_ValueError => k_is)
    (case z_abs => k_is)
    (case z_all => k_is)
    (case z_bool => k_is)
    (case z_divmod => k_is)
    (case z_int => k_is)
    (case z_isinstance => k_is)
    (case z_len => k_is)
    (case z_list => k_is)
    (case z_max => k_is)
    (case z_min => k_is)
    (case z_range => k_is)
    (case z_str => k_is)
    (case z_tuple => k_is)
    (case z_zip => k_is)
    (case z_MOST_SIGNS => k_is)
    (case z_MOST_MARK => k_is)
    (case z_MOST_ROW => k_is)
    (case z_MOST_TEXT => k_is)
    (case z_MOST_LENGTH => k_is)
    (case z_SIGNS => k_is)
    (case ck_g => k_is)
    (case ck_l => k_is)
    (case ck_k => k_keys)
    (case ck_s => decide)
    (case ck_alike => k_is)
    (case ck_unlike => k_is)
    (case ck_stable => k_is)
    (case ck_unstable => k_is)
    (case ck_possible => k_is)
    (case ck_impossible => k_is)
    (case ck_confused => k_is)
    (case ckno_0 => k_is)
    (case ckno_1 => k_is)
    (case ckno_2 => k_is)
    (case ckno_3 => k_is)
