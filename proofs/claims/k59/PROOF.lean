import PyProof.Rows.All
import Wide.All
import OpenK.AllK
import Wide.FinOn
import HandS.Base
import HandS.Call
import HandS.List
import HandS.Comp
import HandS.Ends
import HandS.Dict
import HandS.Iter
import HandS.Text
import HandS.Words
import HandS.WordsList
import HandS.WordsDict
import HandS.Conv
import HandS.Walk
import HandS.IsInst
import HandS.MakeKw
import HandS.MakeKwOnly
import HandS.Flow
import HandS.TupAny
import HandS.TupMul
import HandS.FStr
import HandS.Zip
import HandS.Style
import HandS.Codes
import HandS.TupLe
import HandS.SetKeys
import KE.GoesMore
import KE.GoesZip
import PyProof.TupleOfStr
import PySem.Challenge.RW_shownshort_k59_whole_bases_by_shorteners
set_option Elab.async false
set_option linter.all false
set_option maxRecDepth 100000
namespace Gu
open PySem PySem.Spec PyProof.Rows L2
/-! the text, by places -/
def topS (i : Nat) : Stmt := PySem.Challenge.pw_shownshort_k59_whole_bases_by_shorteners.main.body.getD i (.Pass ⟨0, 0, 0, 0⟩)
abbrev s_InvalidNumber_init : Stmt := inClass (topS 2) 0
abbrev ps_InvalidNumber_init : List Str := ["self", "value"]
theorem sc_InvalidNumber_init : FnScope ["self", "value"] ps_InvalidNumber_init (defScope s_InvalidNumber_init) := ⟨rfl, rfl, rfl, by decide +kernel, rfl, by decide +kernel, by decide +kernel⟩
abbrev s_InvalidMark_init : Stmt := inClass (topS 3) 0
abbrev ps_InvalidMark_init : List Str := ["self", "value"]
theorem sc_InvalidMark_init : FnScope ["self", "value"] ps_InvalidMark_init (defScope s_InvalidMark_init) := ⟨rfl, rfl, rfl, by decide +kernel, rfl, by decide +kernel, by decide +kernel⟩
abbrev s_InvalidText_init : Stmt := inClass (topS 4) 0
abbrev ps_InvalidText_init : List Str := ["self", "value"]
theorem sc_InvalidText_init : FnScope ["self", "value"] ps_InvalidText_init (defScope s_InvalidText_init) := ⟨rfl, rfl, rfl, by decide +kernel, rfl, by decide +kernel, by decide +kernel⟩
abbrev s_InvalidRule_init : Stmt := inClass (topS 5) 0
abbrev ps_InvalidRule_init : List Str := ["self", "value"]
theorem sc_InvalidRule_init : FnScope ["self", "value"] ps_InvalidRule_init (defScope s_InvalidRule_init) := ⟨rfl, rfl, rfl, by decide +kernel, rfl, by decide +kernel, by decide +kernel⟩
abbrev s_InvalidWidth_init : Stmt := inClass (topS 6) 0
abbrev ps_InvalidWidth_init : List Str := ["self", "value"]
theorem sc_InvalidWidth_init : FnScope ["self", "value"] ps_InvalidWidth_init (defScope s_InvalidWidth_init) := ⟨rfl, rfl, rfl, by decide +kernel, rfl, by decide +kernel, by decide +kernel⟩
abbrev s_NotANamer_init : Stmt := inClass (topS 7) 0
abbrev ps_NotANamer_init : List Str := ["self", "value"]
theorem sc_NotANamer_init : FnScope ["self", "value"] ps_NotANamer_init (defScope s_NotANamer_init) := ⟨rfl, rfl, rfl, by decide +kernel, rfl, by decide +kernel, by decide +kernel⟩
abbrev s_InvalidRow_init : Stmt := inClass (topS 8) 0
abbrev ps_InvalidRow_init : List Str := ["self", "index"]
theorem sc_InvalidRow_init : FnScope ["self", "index"] ps_InvalidRow_init (defScope s_InvalidRow_init) := ⟨rfl, rfl, rfl, by decide +kernel, rfl, by decide +kernel, by decide +kernel⟩
abbrev s_InvalidTexts_init : Stmt := inClass (topS 9) 0
abbrev ps_InvalidTexts_init : List Str := ["self", "index"]
theorem sc_InvalidTexts_init : FnScope ["self", "index"] ps_InvalidTexts_init (defScope s_InvalidTexts_init) := ⟨rfl, rfl, rfl, by decide +kernel, rfl, by decide +kernel, by decide +kernel⟩
abbrev s_is_integer : Stmt := topS 17
abbrev ps_is_integer : List Str := ["value", "least", "most"]
theorem sc_is_integer : FnScope ["value", "least", "most"] ps_is_integer (defScope s_is_integer) := ⟨rfl, rfl, rfl, by decide +kernel, rfl, by decide +kernel, by decide +kernel⟩
abbrev s_is_tuple : Stmt := topS 18
abbrev ps_is_tuple : List Str := ["value", "least", "most"]
theorem sc_is_tuple : FnScope ["value", "least", "most"] ps_is_tuple (defScope s_is_tuple) := ⟨rfl, rfl, rfl, by decide +kernel, rfl, by decide +kernel, by decide +kernel⟩
abbrev s_is_text : Stmt := topS 19
abbrev ps_is_text : List Str := ["value", "most"]
theorem sc_is_text : FnScope ["value", "most", "character"] ps_is_text (defScope s_is_text) := ⟨rfl, rfl, rfl, by decide +kernel, rfl, by decide +kernel, by decide +kernel⟩
abbrev s_check_mark : Stmt := topS 20
abbrev ps_check_mark : List Str := ["mark"]
theorem sc_check_mark : FnScope ["mark"] ps_check_mark (defScope s_check_mark) := ⟨rfl, rfl, rfl, by decide +kernel, rfl, by decide +kernel, by decide +kernel⟩
abbrev s_check_text : Stmt := topS 21
abbrev ps_check_text : List Str := ["text"]
theorem sc_check_text : FnScope ["text"] ps_check_text (defScope s_check_text) := ⟨rfl, rfl, rfl, by decide +kernel, rfl, by decide +kernel, by decide +kernel⟩
abbrev s_check_texts : Stmt := topS 22
abbrev ps_check_texts : List Str := ["texts", "most"]
theorem sc_check_texts : FnScope ["texts", "most", "place", "text"] ps_check_texts (defScope s_check_texts) := ⟨rfl, rfl, rfl, by decide +kernel, rfl, by decide +kernel, by decide +kernel⟩
abbrev s_Namer_init : Stmt := inClass (topS 26) 0
abbrev ps_Namer_init : List Str := ["self", "rule", "width"]
theorem sc_Namer_init : FnScope ["self", "rule", "width"] ps_Namer_init (defScope s_Namer_init) := ⟨rfl, rfl, rfl, by decide +kernel, rfl, by decide +kernel, by decide +kernel⟩
abbrev s_Namer_eq : Stmt := inClass (topS 26) 1
abbrev ps_Namer_eq : List Str := ["self", "other"]
theorem sc_Namer_eq : FnScope ["self", "other"] ps_Namer_eq (defScope s_Namer_eq) := ⟨rfl, rfl, rfl, by decide +kernel, rfl, by decide +kernel, by decide +kernel⟩
abbrev s_Namer_repr : Stmt := inClass (topS 26) 2
abbrev ps_Namer_repr : List Str := ["self"]
theorem sc_Namer_repr : FnScope ["self"] ps_Namer_repr (defScope s_Namer_repr) := ⟨rfl, rfl, rfl, by decide +kernel, rfl, by decide +kernel, by decide +kernel⟩
abbrev s_check_namer : Stmt := topS 27
abbrev ps_check_namer : List Str := ["namer"]
theorem sc_check_namer : FnScope ["namer"] ps_check_namer (defScope s_check_namer) := ⟨rfl, rfl, rfl, by decide +kernel, rfl, by decide +kernel, by decide +kernel⟩
abbrev s_base_of : Stmt := topS 28
abbrev ps_base_of : List Str := ["namer", "text"]
theorem sc_base_of : FnScope ["namer", "text"] ps_base_of (defScope s_base_of) := ⟨rfl, rfl, rfl, by decide +kernel, rfl, by decide +kernel, by decide +kernel⟩
abbrev s_numbered : Stmt := topS 29
abbrev ps_numbered : List Str := ["namer", "base", "number"]
theorem sc_numbered : FnScope ["namer", "base", "number", "ending"] ps_numbered (defScope s_numbered) := ⟨rfl, rfl, rfl, by decide +kernel, rfl, by decide +kernel, by decide +kernel⟩
abbrev s_counted_name : Stmt := topS 30
abbrev ps_counted_name : List Str := ["namer", "base", "texts"]
theorem sc_counted_name : FnScope ["namer", "base", "texts", "number", "text"] ps_counted_name (defScope s_counted_name) := ⟨rfl, rfl, rfl, by decide +kernel, rfl, by decide +kernel, by decide +kernel⟩
abbrev s_free_name : Stmt := topS 31
abbrev ps_free_name : List Str := ["namer", "base", "taken"]
theorem sc_free_name : FnScope ["namer", "base", "taken", "name", "number"] ps_free_name (defScope s_free_name) := ⟨rfl, rfl, rfl, by decide +kernel, rfl, by decide +kernel, by decide +kernel⟩
abbrev s_name_of_next : Stmt := topS 32
abbrev ps_name_of_next : List Str := ["namer", "text", "texts", "taken"]
theorem sc_name_of_next : FnScope ["namer", "text", "texts", "taken", "base"] ps_name_of_next (defScope s_name_of_next) := ⟨rfl, rfl, rfl, by decide +kernel, rfl, by decide +kernel, by decide +kernel⟩
abbrev s_named : Stmt := topS 33
abbrev ps_named : List Str := ["namer", "texts"]
theorem sc_named : FnScope ["namer", "texts", "given", "place", "text"] ps_named (defScope s_named) := ⟨rfl, rfl, rfl, by decide +kernel, rfl, by decide +kernel, by decide +kernel⟩
abbrev s_names : Stmt := topS 34
abbrev ps_names : List Str := ["namer", "texts"]
theorem sc_names : FnScope ["namer", "texts"] ps_names (defScope s_names) := ⟨rfl, rfl, rfl, by decide +kernel, rfl, by decide +kernel, by decide +kernel⟩
abbrev s_Shortener_init : Stmt := inClass (topS 36) 0
abbrev ps_Shortener_init : List Str := ["self", "limit", "head", "tail", "mark"]
theorem sc_Shortener_init : FnScope ["self", "limit", "head", "tail", "mark", "number"] ps_Shortener_init (defScope s_Shortener_init) := ⟨rfl, rfl, rfl, by decide +kernel, rfl, by decide +kernel, by decide +kernel⟩
abbrev s_Shortener_eq : Stmt := inClass (topS 36) 1
abbrev ps_Shortener_eq : List Str := ["self", "other"]
theorem sc_Shortener_eq : FnScope ["self", "other"] ps_Shortener_eq (defScope s_Shortener_eq) := ⟨rfl, rfl, rfl, by decide +kernel, rfl, by decide +kernel, by decide +kernel⟩
abbrev s_Shortener_repr : Stmt := inClass (topS 36) 2
abbrev ps_Shortener_repr : List Str := ["self"]
theorem sc_Shortener_repr : FnScope ["self"] ps_Shortener_repr (defScope s_Shortener_repr) := ⟨rfl, rfl, rfl, by decide +kernel, rfl, by decide +kernel, by decide +kernel⟩
abbrev s_check_row : Stmt := topS 37
abbrev ps_check_row : List Str := ["row"]
theorem sc_check_row : FnScope ["row", "place", "shortener"] ps_check_row (defScope s_check_row) := ⟨rfl, rfl, rfl, by decide +kernel, rfl, by decide +kernel, by decide +kernel⟩
abbrev s_shortened : Stmt := topS 38
abbrev ps_shortened : List Str := ["shortener", "whole", "mark"]
theorem sc_shortened : FnScope ["shortener", "whole", "mark", "tail_start"] ps_shortened (defScope s_shortened) := ⟨rfl, rfl, rfl, by decide +kernel, rfl, by decide +kernel, by decide +kernel⟩
abbrev s_shown_by : Stmt := topS 39
abbrev ps_shown_by : List Str := ["row", "text"]
theorem sc_shown_by : FnScope ["row", "text", "shown", "shortener"] ps_shown_by (defScope s_shown_by) := ⟨rfl, rfl, rfl, by decide +kernel, rfl, by decide +kernel, by decide +kernel⟩
abbrev s_show : Stmt := topS 40
abbrev ps_show : List Str := ["row", "text"]
theorem sc_show : FnScope ["row", "text"] ps_show (defScope s_show) := ⟨rfl, rfl, rfl, by decide +kernel, rfl, by decide +kernel, by decide +kernel⟩
abbrev s_law_source : Stmt := topS 42
abbrev ps_law_source : List Str := ["_law_cells", "_law_turn"]
theorem sc_law_source : FnScope ["_law_cells", "_law_turn", "_law_mixed", "_law_cell", "_law_own"] ps_law_source (defScope s_law_source) := ⟨rfl, rfl, rfl, by decide +kernel, rfl, by decide +kernel, by decide +kernel⟩
abbrev s_law_draw : Stmt := topS 43
abbrev ps_law_draw : List Str := ["_law_source_here", "_law_size"]
theorem sc_law_draw : FnScope ["_law_source_here", "_law_size", "_law_digit", "_law_state", "_law_factor"] ps_law_draw (defScope s_law_draw) := ⟨rfl, rfl, rfl, by decide +kernel, rfl, by decide +kernel, by decide +kernel⟩
abbrev s_law_one : Stmt := topS 44
abbrev ps_law_one : List Str := ["_law_source_here", "_law_some"]
theorem sc_law_one : FnScope ["_law_source_here", "_law_some"] ps_law_one (defScope s_law_one) := ⟨rfl, rfl, rfl, by decide +kernel, rfl, by decide +kernel, by decide +kernel⟩
abbrev s_law_stem : Stmt := topS 45
abbrev ps_law_stem : List Str := ["_law_source_here", "_law_size"]
theorem sc_law_stem : FnScope ["_law_source_here", "_law_size", "_law_abc", "_law_k"] ps_law_stem (defScope s_law_stem) := ⟨rfl, rfl, rfl, by decide +kernel, rfl, by decide +kernel, by decide +kernel⟩
abbrev s_law_word : Stmt := topS 46
abbrev ps_law_word : List Str := ["_law_source_here", "_law_stems"]
theorem sc_law_word : FnScope ["_law_source_here", "_law_stems", "_law_way", "_law_stem_here"] ps_law_word (defScope s_law_word) := ⟨rfl, rfl, rfl, by decide +kernel, rfl, by decide +kernel, by decide +kernel⟩
abbrev s_law_pair_right : Stmt := topS 47
abbrev ps_law_pair_right : List Str := ["_law_size", "_law_first", "_law_second"]
theorem sc_law_pair_right : FnScope ["_law_size", "_law_first", "_law_second", "_law_whole", "_law_short", "_law_one_base", "_law_two_base", "_law_sort", "_law_space", "_law_told", "_law_ahead"] ps_law_pair_right (defScope s_law_pair_right) := ⟨rfl, rfl, rfl, by decide +kernel, rfl, by decide +kernel, by decide +kernel⟩
abbrev s_law_right : Stmt := topS 48
abbrev ps_law_right : List Str := ["_law_source_here"]
theorem sc_law_right : FnScope ["_law_source_here", "_law_stems", "_law_size", "_law_line", "_law_k"] ps_law_right (defScope s_law_right) := ⟨rfl, rfl, rfl, by decide +kernel, rfl, by decide +kernel, by decide +kernel⟩
abbrev s_law : Stmt := topS 49
abbrev ps_law : List Str := ["_law_script"]
theorem sc_law : FnScope ["_law_script", "_law_k"] ps_law (defScope s_law) := ⟨rfl, rfl, rfl, by decide +kernel, rfl, by decide +kernel, by decide +kernel⟩
/-- names that the module leaves to Python -/
structure Bi (mg : Str → Option Value) : Prop where
  ValueError : mg "ValueError" = none
  abs : mg "abs" = none
  all : mg "all" = none
  bool : mg "bool" = none
  divmod : mg "divmod" = none
  enumerate : mg "enumerate" = none
  int : mg "int" = none
  isinstance : mg "isinstance" = none
  len : mg "len" = none
  max : mg "max" = none
  min : mg "min" = none
  range : mg "range" = none
  str : mg "str" = none
  tuple : mg "tuple" = none
  MOST_SIGNS : ∃ u, mg "MOST_SIGNS" = some u ∧ RelV (.int 40) u
  MOST_MARK : ∃ u, mg "MOST_MARK" = some u ∧ RelV (.int 3) u
  MOST_ROW : ∃ u, mg "MOST_ROW" = some u ∧ RelV (.int 4) u
  MOST_TEXT : ∃ u, mg "MOST_TEXT" = some u ∧ RelV (.int 200) u
  MOST_LISTED : ∃ u, mg "MOST_LISTED" = some u ∧ RelV (.int 6) u
  SIGNS : ∃ u, mg "SIGNS" = some u ∧ RelV (.str ".0123456789abcdefghijklmnopqrstuvwxyz~") u
  LEAST_WIDTH : ∃ u, mg "LEAST_WIDTH" = some u ∧ RelV (.int 6) u
end Gu
namespace Gu
open PySem PySem.Spec PyProof.Rows L2
/-! cuts -/
/-- from a middle state on -/
def tHalt (t u : TS) : TS := fun D σ H => ∃ M : L2.St → Hp → Prop, t { D with nx := M } σ H ∧ ∀ σ1 H1, M σ1 H1 → u D σ1 H1
/-! defs as they stand behind the top -/
structure At (K : PySem.W.Frag) (mg : Str → Option Value) (x : Str) (st : Stmt) (ps : List Str) : Prop where
  ex : ∃ (f : Addr) (fd : FuncData), Fun K x x st f fd ∧ Binds K fd ps [] ∧ mg x = some (.ref f)
structure Cal (P : Program) (w : World) (K : PySem.W.Frag) (mg : Str → Option Value) (base : Heap) (k : Nat) (x : Str) (ps : List Str) (sp : Sp) : Prop where
  ex : ∃ (f : Addr) (fd : FuncData), FnOk P w K mg base CX0 k f fd ps sp ∧ mg x = some (.ref f) ∧ PySem.W.keepIn K (.ref f) = true ∧ Binds K fd ps [] ∧ ∃ oc od sl, K.lookup f = some ⟨oc, od, .func fd, sl⟩
theorem At.cal {P : Program} {w : World} {K : PySem.W.Frag} {mg : Str → Option Value} {base : Heap} {x : Str} {st : Stmt} {N ps : List Str} {k : Nat} {sp : Sp} (D : At K mg x st ps) (S : FnScope N ps (defScope st)) (len : ∀ vs H Q E, sp vs H Q E → vs.length = ps.length)
    (body : ∀ (f : Addr) (cdv : Value) (A : Around) (outer : List Env) (s : Shared) (H : Hp) (vs : List V) (Q : VK) (E : XK), Room k (A.deeper (envOfC x (defScope st) s.heap.objs.size f cdv)) → sp vs H Q E →
      ∃ t, PSs (cxOf CX0 P w K mg base N x (defScope st) f cdv A outer s H E).nox (defBody st) t ∧ t { nx := fun _ H' => Q .non H', rt := Q } (start N vs) H) : Cal P w K mg base (k + 1) x ps sp := by
  obtain ⟨f, fd, F, b, g⟩ := D.ex
  obtain ⟨oc, od, kV, doc, pm, an, cdv, ct, osl, e, lk, hcd⟩ := F.ex
  exact ⟨f, fd, F.ok S len (body f), g, F.kp, b, oc, od, osl, lk⟩
section
variable {X : Cx} {k j : Nat} {x : Str} {ps : List Str} {sp : Sp} {p pos : Pos} {e : Expr} {es : List Expr} {t : TA}
theorem pe_own (c : Cal X.prog X.w X.K X.mg X.base k x ps sp) (hr : Room j X.A) (hk : k ≤ j) (hg : Gl X x) (ha : PA X (e :: es) t)
    (hdb : (x == ("__debug__" : Str)) = false := by decide) (he : starEach (e :: es) X.env = (false, eval e X.env) :: starEach es X.env := by rfl) (hpl : (backTo pos (starEach es X.env)).any (·.1) = false := by rfl) :
    PE X (.Call (.Name x p) (e :: es) [] pos) (tCall sp [] E0 t) := by
  obtain ⟨f, fd, F, hm, kp, b, _⟩ := c.ex
  exact pe_call F (hr.mono hk) hg hm kp b .nil pass0 ha hdb he hpl
theorem pe_cst {v : V} (h : ∃ u, X.mg x = some u ∧ RelV v u) (hg : Gl X x) (hdb : (x == ("__debug__" : Str)) = false := by decide) : PE X (.Name x pos) (tC v) := by
  obtain ⟨u, hm, r⟩ := h
  exact pe_glob hg hm r hdb
end
def tMid (t : TE) : TE := fun σ H Q => ∃ M : VK, t σ H M ∧ ∀ v G, M v G → Q v G
theorem pe_mid {X : Cx} {e : Expr} {t : TE} (d : PE X e t) : PE X e (tMid t) := ⟨fun pins s σ H Q I ⟨M, m, k⟩ => thn (d.run pins s σ H M I m) fun u s1 ⟨v, G, I1, r1, m1⟩ => ⟨v, G, I1, r1, k v G m1⟩⟩
/-! ### heaps -/
theorem same_new {H : Hp} {p : Addr} {o : HO} (h : H p = none) : Same H (upd H p o) := fun b x e => by
  rw [upd_ne (ne_of_none e h)]
  exact e
/-- a pot of three ints stands at p -/
def Pot (H : Hp) (p : Addr) : Prop := ∃ x y z : Int, H p = some (.lst [.int x, .int y, .int z])
/-- from H to G the pot at p may have changed, the rest stands -/
structure Ladled (p : Addr) (H G : Hp) : Prop where
  pot : Pot G p
  keep : ∀ b o, H b = some o → b ≠ p → G b = some o
theorem Pot.some {H : Hp} {p : Addr} (h : Pot H p) : ∃ o, H p = some o := by
  obtain ⟨x, y, z, e⟩ := h
  exact ⟨_, e⟩
theorem Pot.same {H G : Hp} {p : Addr} (s : Same H G) (h : Pot H p) : Pot G p := by
  obtain ⟨x, y, z, e⟩ := h
  exact ⟨x, y, z, s _ _ e⟩
theorem Ladled.refl {H : Hp} {p : Addr} (h : Pot H p) : Ladled p H H := ⟨h, fun _ _ e _ => e⟩
theorem Ladled.trans {H G J : Hp} {p : Addr} (a : Ladled p H G) (b : Ladled p G J) : Ladled p H J := ⟨b.pot, fun c o e n => b.keep c o (a.keep c o e n) n⟩
theorem Ladled.same {H G J : Hp} {p : Addr} (a : Ladled p H G) (b : Same G J) : Ladled p H J := ⟨a.pot.same b, fun c o e n => b _ _ (a.keep c o e n)⟩
theorem Ladled.ofSame {H G : Hp} {p : Addr} (h : Pot H p) (b : Same H G) : Ladled p H G := ⟨h.same b, fun c o e _ => b _ _ e⟩
theorem Ladled.new {H G : Hp} {p q : Addr} {o : HO} (a : Ladled p H G) (h : G q = none) : Ladled p H (upd G q o) := a.same (same_new h)
theorem Ladled.free {H G : Hp} {p l : Addr} (a : Ladled p H G) (h : G l = none) : H l = none := by
  cases q : H l with
  | none => rfl
  | some o =>
    by_cases e : l = p
    · subst e
      obtain ⟨u, hu⟩ := a.pot.some
      rw [hu] at h
      cases h
    · rw [a.keep l o q e] at h
      cases h
/-- what is not known at first may change -/
theorem Ladled.mut {H G : Hp} {p q : Addr} {o : HO} (a : Ladled p H G) (h : H q = none) (n : q ≠ p) : Ladled p H (upd G q o) := by
  refine ⟨?_, fun b u e nb => ?_⟩
  · obtain ⟨x, y, z, e⟩ := a.pot
    exact ⟨x, y, z, by rw [upd_ne (Ne.symm n)]; exact e⟩
  · rw [upd_ne (ne_of_none e h)]
    exact a.keep b u e nb
end Gu
namespace Gu
open PySem PySem.Spec PyProof.Rows L2
section
variable {P : Program} {w : World} {K : PySem.W.Frag} {mg : Str → Option Value} {base : Heap}
/-! ### _law_draw -/
def spLadle : Sp := fun vs H Q _ => ∃ (p : Addr) (m : Int), vs = [.ref p, .int m] ∧ Pot H p ∧ 0 < m ∧ m < 1000000 ∧ ∀ d G, 0 ≤ d → d < m → Ladled p H G → Q (.int d) G
theorem cal_draw (B : Bi mg) (D : At K mg "_law_draw" s_law_draw ps_law_draw) : Cal P w K mg base 1 "_law_draw" ps_law_draw spLadle := by
  refine D.cal sc_law_draw (fun vs H Q E h => ?_) (fun f cdv A outer s H vs Q E hr h => ?_)
  · obtain ⟨p, m, rfl, _⟩ := h
    rfl
  · obtain ⟨p, m, rfl, ⟨x, y, z, hp⟩, m0, m1, k⟩ := h
    refine ⟨_, (pss_cons (ps_asg (pe_op op_add (pe_ix ix_list (pv 0) pe_int (fun _ _ => rfl)) pe_int) (pg_sub (pv 0) pe_int set_list))
      (pss_cons (ps_if (pt_cmpR op_gt (pe_ix ix_list (pv 0) pe_int (fun _ _ => rfl)) pe_int (nomark _)) (pss_cons (ps_asg (pe_callB call_divmod (by rfl) B.divmod (by decide +kernel) (pa_cons (pe_ix ix_list (pv 0) pe_int (fun _ _ => rfl)) (pa_cons (pv 1) pa_nil))) (pg_tup rfl (pgs_cons (pg_sub (pv 0) pe_int set_list) (pgs_cons (pg_name (i := 2) sc_law_draw.nd rfl (.inl rfl)) pgs_nil))))
      (pss_one (ps_ret (pv 2)))) pss_nil)
      (pss_cons (ps_set (i := 3) sc_law_draw.nd rfl (.inl rfl) (pe_callTy call_int1 (by rfl) B.int (by decide +kernel) (pa_cons (pe_ix ix_list (pv 0) pe_int (fun _ _ => rfl)) pa_nil)))
      (pss_cons (ps_set (i := 4) sc_law_draw.nd rfl (.inl rfl) (pe_op op_add (pe_op op_mod (pe_callTy call_int1 (by rfl) B.int (by decide +kernel) (pa_cons (pv 3) pa_nil)) pe_int) pe_int))
      (pss_cons (ps_asg (pe_op op_mod (pe_callTy call_int1 (by rfl) B.int (by decide +kernel) (pa_cons (pe_op op_add (pe_op op_add (pe_op op_mul (pv 3) (pv 4)) (pe_op op_mul pe_int (pe_ix ix_list (pv 0) pe_int (fun _ _ => rfl)))) pe_int) pa_nil)) pe_int) (pg_sub (pv 0) pe_int set_list))
      (pss_one (ps_ret (pe_op op_mod (pe_op op_fdiv (pe_callTy call_int1 (by rfl) B.int (by decide +kernel) (pa_cons (pe_ix ix_list (pv 0) pe_int (fun _ _ => rfl)) pa_nil)) pe_int) (pv 1))))))))), ?_⟩
    refine ⟨_, rfl, p, _, _, _, rfl, rfl, .inl (.inl hp), (rfl : atI [V.int x, V.int y, V.int z] 2 = some (V.int z)), _, _, rfl, rfl, _, rfl, p, _, _, 2, rfl, rfl, hp, rfl, ?_⟩
    have h1 : upd H p (.lst ([V.int x, V.int y, V.int z].set 2 (.int (z + 1)))) p = some (.lst [.int x, .int y, .int (z + 1)]) := upd_same
    refine ⟨_, rfl, p, _, _, _, rfl, rfl, .inl (.inl h1), (rfl : atI [V.int x, V.int y, V.int (z + 1)] 0 = some (V.int x)), _, _, rfl, rfl, _, rfl, ite2 (fun _ => ?_) (fun _ => ?_)⟩
    · refine ⟨_, rfl, p, _, _, _, rfl, rfl, .inl (.inl h1), (rfl : atI [V.int x, V.int y, V.int (z + 1)] 0 = some (V.int x)), _, rfl, _, _, rfl, ⟨m0, by omega⟩, fun q hq => ?_⟩
      have npq : p ≠ q := ne_of_none h1 hq
      refine ⟨q, _, rfl, .inl (.inl upd_same), rfl, _, _, rfl, ⟨_, rfl, p, _, _, 0, rfl, rfl, (by rw [upd_ne npq]; exact h1), rfl, _, _, rfl, rfl, ?_⟩⟩
      refine ⟨_, rfl, ?_⟩
      refine k (x % m) _ (Int.emod_nonneg _ (by omega)) (Int.emod_lt_of_pos _ m0) ⟨⟨_, _, _, upd_same⟩, fun b o e n => ?_⟩
      have hb : upd H p (.lst ([V.int x, V.int y, V.int z].set 2 (.int (z + 1)))) b = some o := by rw [upd_ne n]; exact e
      rw [upd_ne n, upd_ne (ne_of_none hb hq), upd_ne n]
      exact e
    · have f0 : 0 ≤ y % 9973 := Int.emod_nonneg _ (by decide)
      have f1 : y % 9973 < 9973 := Int.emod_lt_of_pos _ (by decide)
      refine ⟨_, rfl, p, _, _, _, rfl, rfl, .inl (.inl h1), (rfl : atI [V.int x, V.int y, V.int (z + 1)] 1 = some (V.int y)), .inl ⟨_, rfl, ?_⟩⟩
      refine ⟨_, rfl, .inl ⟨_, rfl, _, _, rfl, rfl, (by decide : (0 : Int) < 9973), _, _, rfl, rfl, ?_⟩⟩
      refine ⟨_, rfl, _, rfl, _, _, rfl, rfl, .inr ⟨by omega, by omega⟩, _, rfl, p, _, _, _, rfl, rfl, .inl (.inl h1), (rfl : atI [V.int x, V.int y, V.int (z + 1)] 2 = some (V.int (z + 1))), _, _, rfl, rfl, .inl ⟨by decide, by decide⟩, _, _, rfl, rfl, _, _, rfl, rfl, .inl ⟨_, rfl, _, _, rfl, rfl, (by decide : (0 : Int) < 2147483587), ?_⟩⟩
      refine ⟨_, rfl, p, _, _, 1, rfl, rfl, h1, rfl, ?_⟩
      refine ⟨_, rfl, p, _, _, _, rfl, rfl, .inl (.inl upd_same), rfl, .inl ⟨_, rfl, _, _, rfl, rfl, ⟨by decide, by decide⟩, _, rfl, _, _, rfl, rfl, m0, ?_⟩⟩
      refine k _ _ (Int.emod_nonneg _ (by omega)) (Int.emod_lt_of_pos _ m0) ⟨⟨_, _, _, upd_same⟩, fun b o e n => ?_⟩
      rw [upd_ne n, upd_ne n]
      exact e
/-! ### _law_one: of a list -/
def spOneOf (K : PySem.W.Frag) : Sp := fun vs H Q _ => ∃ (p : Addr), Pot H p ∧
  (∃ (l : Addr) (xs : List V), vs = [.ref p, .ref l] ∧ SqL K H l xs ∧ l ≠ p ∧ 0 < xs.length ∧ xs.length < 1000 ∧ ∀ v G, v ∈ xs → Ladled p H G → Q v G)
theorem Ladled.seq {K : PySem.W.Frag} {H G : Hp} {p l : Addr} {xs : List V} (a : Ladled p H G) (n : l ≠ p) (h : SqL K H l xs) : SqL K G l xs := by
  rcases h with (h | ⟨o, h⟩) | h
  · exact .inl (.inl (a.keep _ _ h n))
  · exact .inl (.inr ⟨o, a.keep _ _ h n⟩)
  · exact .inr h
theorem at_in {α : Type} {xs : List α} {d : Int} (h0 : 0 ≤ d) (h1 : d < (xs.length : Int)) : ∃ v, v ∈ xs ∧ atI xs d = some v := by
  obtain ⟨j, rfl⟩ := Int.eq_ofNat_of_zero_le h0
  have hj : j < xs.length := by omega
  exact ⟨xs[j], List.getElem_mem hj, atI_nat (List.getElem?_eq_getElem hj)⟩
theorem cal_one (B : Bi mg) (D : At K mg "_law_one" s_law_one ps_law_one) (C_law_draw : Cal P w K mg base 1 "_law_draw" ps_law_draw spLadle) : Cal P w K mg base 2 "_law_one" ps_law_one (spOneOf K) := by
  refine D.cal sc_law_one (fun vs H Q E h => ?_) (fun f cdv A outer s H vs Q E hr h => ?_)
  · obtain ⟨p, _, l, xs, rfl, _⟩ := h
    rfl
  · refine ⟨_, (pss_one (ps_ret (pe_ix ix_list (pv 1) (pe_own C_law_draw hr (by decide) (by rfl) (pa_cons (pv 0) (pa_cons (pe_callB call_len (by rfl) B.len (by decide +kernel) (pa_cons (pv 1) pa_nil)) pa_nil))) (fun _ _ => rfl)))), ?_⟩
    obtain ⟨p, hp, l, xs, rfl, hl, np, l0, l1, k⟩ := h
    refine ⟨_, rfl, _, rfl, _, rfl, _, _, rfl, .inl ⟨_, hl, rfl⟩, p, _, rfl, hp, by omega, by omega, fun d G d0 d1 L => ?_⟩
    obtain ⟨v, hv, ha⟩ := at_in (xs := xs) d0 d1
    exact ⟨l, xs, d, v, rfl, rfl, L.seq np hl, ha, k v G hv L⟩
/-! ### _law_source -/
theorem sq_same {K : PySem.W.Frag} {H G : Hp} {l : Addr} {xs : List V} (a : Same H G) (h : SqL K H l xs) : SqL K G l xs := by
  rcases h with (h | ⟨o, h⟩) | h
  · exact .inl (.inl (a _ _ h))
  · exact .inl (.inr ⟨o, a _ _ h⟩)
  · exact .inr h
def spPot (K : PySem.W.Frag) : Sp := fun vs H Q _ => ∃ (a : Addr) (k : Nat) (ns : List Int), vs = [.ref a, .int (k : Int)] ∧ SqL K H a (ns.map V.int) ∧ k < 1000 ∧ ∀ p G, H p = none → Pot G p → Same H G → Q (.ref p) G
theorem cal_source (B : Bi mg) (D : At K mg "_law_source" s_law_source ps_law_source) : Cal P w K mg base 1 "_law_source" ps_law_source (spPot K) := by
  refine D.cal sc_law_source (fun vs H Q E h => ?_) (fun f cdv A outer s H vs Q E hr h => ?_)
  · obtain ⟨a, k, ns, rfl, _⟩ := h
    rfl
  · obtain ⟨a, k, ns, rfl, hS, hk, q⟩ := h
    refine ⟨_, (pss_cons (ps_set (i := 2) sc_law_source.nd rfl (.inl rfl) (pe_op op_add pe_int (pe_op op_mul pe_int (pv 1))))
      (pss_cons (ps_for PassesOwn.never rfl (pi_list (pe_slice sl_list (pv 0) po_none (po_some pe_int))) (pg_name (i := 3) sc_law_source.nd rfl (.inl rfl))
      (pss_one (ps_set (i := 2) sc_law_source.nd rfl (.inl rfl) (pe_op op_mod (pe_callTy call_int1 (by rfl) B.int (by decide +kernel) (pa_cons (pe_op op_add (pe_op op_mul (pv 2) pe_int) (pv 3)) pa_nil)) pe_int))))
      (pss_cons (ps_set (i := 4) sc_law_source.nd rfl (.inl rfl) (pe_mid (pe_ifExp (pt_cmpR op_lt (pv 1) (pe_callB call_len_seq (by rfl) B.len (by decide +kernel) (pa_cons (pv 0) pa_nil)) (nomark _)) (pe_ix ix_list (pv 0) (pv 1) (fun _ _ => rfl)) (pv 2))))
      (pss_cons (ps_set (i := 2) sc_law_source.nd rfl (.inl rfl) (pe_op op_mod (pe_callTy call_int1 (by rfl) B.int (by decide +kernel) (pa_cons (pe_op op_add (pe_op op_mul (pv 2) pe_int) (pv 4)) pa_nil)) pe_int))
      (pss_one (ps_ret (pe_lst (pa_cons (pe_mid (pe_ifExp (pt_cmpR op_ge (pe_callB call_abs (by rfl) B.abs (by decide +kernel) (pa_cons (pv 4) pa_nil)) (pe_op op_pow pe_int pe_int) (nomark _)) (pe_callB call_abs (by rfl) B.abs (by decide +kernel) (pa_cons (pv 4) pa_nil)) pe_int)) (pa_cons (pv 2) (pa_cons pe_int pa_nil)))))))))), ?_⟩
    refine ⟨_, rfl, _, _, rfl, rfl, .inl ⟨by decide, by decide⟩, _, _, rfl, rfl, ?_⟩
    refine ⟨_, rfl, 6, rfl, a, _, rfl, hS, fun c nc => ?_⟩
    have sc : Same H (upd H c (.lst (cutV (ns.map V.int) none (some 6)))) := same_new nc
    have hC : cutV (ns.map V.int) none (some 6) = (ns.take 6).map V.int := by
      unfold cutV
      rw [HT.sIx_none, show HT.sIx (ns.map V.int).length (ns.map V.int).length (some 6) = min 6 (ns.map V.int).length from HT.sIx_nat _ _ 6, List.drop_zero, Nat.sub_zero, List.map_take, List.take_eq_take_iff]
      omega
    refine ⟨c, rfl, ⟨_, .inl (.inl upd_same)⟩, for_list (K := K) (a := c) (xs := (ns.take 6).map V.int) (fun i σ J => ∃ (mx : Int) (u : Option V), σ = [some (.ref a), some (.int (k : Int)), some (.int mx), u, none] ∧ Same H J ∧ J c = some (.lst ((ns.take 6).map V.int)))
      ⟨_, none, rfl, sc, by rw [upd_same, hC]⟩ (fun i σ J _ ⟨_, _, _, _, e⟩ => .inl (.inl e)) ?_ ?_⟩
    · rintro i v σ J hi ⟨mx, u, rfl, sJ, eJ⟩
      obtain ⟨t, rfl⟩ : ∃ t, v = V.int t := by
        rw [List.getElem?_map] at hi
        cases e : (ns.take 6)[i]? with
        | none =>
          rw [e] at hi
          cases hi
        | some t =>
          rw [e] at hi
          exact ⟨t, (Option.some.inj hi).symm⟩
      refine ⟨_, rfl, _, _, rfl, rfl, .inr ⟨by decide, by decide⟩, _, rfl, _, _, rfl, rfl, .inl ⟨_, rfl, _, _, rfl, rfl, (by decide : (0 : Int) < 2147483629), ?_⟩⟩
      exact ⟨_, _, rfl, sJ, eJ⟩
    · rintro σ J ⟨mx, u, rfl, sJ, eJ⟩
      refine ⟨fun v J1 => (∃ i : Int, v = .int i) ∧ J1 = J, ?_, ?_⟩
      · refine ⟨_, rfl, _, rfl, a, _, rfl, .inl (sq_same sJ hS), _, _, rfl, rfl, _, rfl, ite2 (fun e => ?_) (fun _ => ?_)⟩
        · have hlt := of_decide_eq_true e
          have hj : k < ns.length := by
            rw [List.length_map] at hlt
            omega
          refine ⟨_, rfl, _, rfl, a, _, _, _, rfl, rfl, sq_same sJ hS, atI_nat (j := k) (v := .int ns[k]) (by rw [List.getElem?_map, List.getElem?_eq_getElem hj]; rfl), ⟨_, rfl⟩, rfl⟩
        · exact ⟨_, rfl, ⟨_, rfl⟩, rfl⟩
      · rintro _ _ ⟨⟨own, rfl⟩, rfl⟩
        refine ⟨_, rfl, _, _, rfl, rfl, .inr ⟨by decide, by decide⟩, _, rfl, _, _, rfl, rfl, .inl ⟨_, rfl, _, _, rfl, rfl, (by decide : (0 : Int) < 2147483629), ?_⟩⟩
        refine ⟨fun v J1 => (∃ i : Int, v = .int i) ∧ Same H J1, ?_, ?_⟩
        · refine ⟨_, rfl, _, rfl, _, _, rfl, rfl, ⟨by decide, by decide, by decide⟩, _, _, rfl, rfl, _, rfl, ite2 (fun _ => ⟨_, rfl, _, rfl, ⟨_, rfl⟩, sJ⟩) (fun _ => ⟨⟨_, rfl⟩, sJ⟩)⟩
        · rintro _ J1 ⟨⟨x, rfl⟩, s1⟩
          exact ⟨_, rfl, by show 3 ≤ sizeLine; decide, fun p np => q p _ (s1.free np) ⟨_, _, _, upd_same⟩ (s1.trans (same_new np))⟩
end
end Gu
namespace Gu
open PySem PySem.Spec PyProof.Rows L2
/-! ### texts of the laws about names -/
def abc : Str := ".0123456789abcdefghijklmnopqrstuvwxyz~"
/-- at most n signs -/
structure Wd (n : Nat) (y : Str) : Prop where
  len : y.cps.toList.length ≤ n
  sgn : ∀ c ∈ y.cps.toList, c ∈ abc.cps.toList
theorem Wd.mono {n m : Nat} {y : Str} (h : Wd n y) (k : n ≤ m) : Wd m y := ⟨Nat.le_trans h.len k, h.sgn⟩
theorem str_app (a b : Str) : (a ++ b).cps.toList = a.cps.toList ++ b.cps.toList := by
  show (a.cps ++ b.cps).toList = _
  rw [Array.toList_append]
theorem Wd.app {n m k : Nat} {y z : Str} (a : Wd n y) (b : Wd m z) (h : n + m ≤ k) : Wd k (y ++ z) := by
  have h1 := a.len
  have h2 := b.len
  refine ⟨?_, fun c hc => ?_⟩
  · rw [str_app, List.length_append]
    omega
  · rw [str_app] at hc
    rcases List.mem_append.mp hc with hc | hc
    · exact a.sgn c hc
    · exact b.sgn c hc
theorem Wd.cut {n : Nat} {y : Str} (a : Wd n y) (lo hi : Option Int) : Wd n (cutS y lo hi) :=
  ⟨Nat.le_trans (cutS_length y lo hi) a.len, fun c hc => a.sgn c (List.mem_of_mem_drop (List.mem_of_mem_take hc))⟩
theorem cutS_head (y : Str) {h : Int} (h0 : 0 ≤ h) : (cutS y none (some h)).cps.toList = y.cps.toList.take h.toNat := by
  obtain ⟨k, rfl⟩ := Int.eq_ofNat_of_zero_le h0
  unfold cutS
  rw [HT.sIx_none, HT.sIx_nat, List.drop_zero, Nat.sub_zero, Int.toNat_natCast]
  show y.cps.toList.take (min k y.cps.toList.length) = _
  rw [List.take_eq_take_iff]
  omega
theorem wd_head {y : Str} (a : ∀ c ∈ y.cps.toList, c ∈ abc.cps.toList) {h : Int} (h0 : 0 ≤ h) {m : Nat} (hm : h ≤ m) : Wd m (cutS y none (some h)) := by
  refine ⟨?_, fun c hc => ?_⟩
  · rw [cutS_head y h0, List.length_take]
    omega
  · rw [cutS_head y h0] at hc
    exact a c (List.mem_of_mem_take hc)
theorem wd_lit {z : Str} {n : Nat} (h : decide (z.cps.toList.length ≤ n ∧ ∀ c ∈ z.cps.toList, c ∈ abc.cps.toList) = true) : Wd n z := ⟨(of_decide_eq_true h).1, (of_decide_eq_true h).2⟩
theorem wd_digit {i : Int} (h0 : 0 ≤ i) (h1 : i < 10) : Wd 1 (toString i : String) := by
  obtain ⟨k, rfl⟩ := Int.eq_ofNat_of_zero_le h0
  have a : ∀ k ∈ List.range 10, ((toString (Int.ofNat k) : String) : Str).cps.toList.length ≤ 1 ∧ ∀ c ∈ ((toString (Int.ofNat k) : String) : Str).cps.toList, c ∈ abc.cps.toList := by decide +kernel
  have b := a k (List.mem_range.mpr (by omega))
  exact ⟨b.1, b.2⟩
theorem log_small {i : Int} (h0 : 0 ≤ i) (h1 : i < 1000) : i.natAbs.log2 < 1920 := by
  by_cases e : i.natAbs = 0
  · rw [e]
    decide
  · exact (Nat.log2_lt e).mpr (Nat.lt_of_lt_of_le (by omega : i.natAbs < 2 ^ 10) (Nat.pow_le_pow_right (by decide) (by decide)))
theorem Pot.off {H : Hp} {p q : Addr} (h : Pot H p) (n : H q = none) : q ≠ p := fun e => by
  subst e
  obtain ⟨o, ho⟩ := h.some
  rw [n] at ho
  cases ho
theorem yesT {σ : L2.St} {H : Hp} {Q : Bool → Hp → Prop} (h : Q true H) : tYes σ H Q := h
/-! single signs -/
def sg (c : Nat) : Str := ⟨#[c]⟩
theorem join_sgs : ∀ cs : List Nat, (Str.join ⟨#[]⟩ (cs.map sg)).cps.toList = cs
  | [] => rfl
  | c :: r => by
    rw [List.map_cons, join_nil_cons, str_app, join_sgs r]
    rfl
theorem tjoin_sgs (cs : List Nat) : (Txt.join "" (cs.map sg)).cps.toList = cs := by
  have e : (("" : String) : Str) = ⟨#[]⟩ := by decide +kernel
  show (Builtin.Str.glued _ _).cps.toList = cs
  rw [e, StrLaws.glued_eq_join]
  exact join_sgs cs
theorem sgs_len (cs : List Nat) : ((cs.map sg).map (·.length)).sum = cs.length := by
  induction cs with
  | nil => rfl
  | cons c r ih =>
    rw [List.map_cons, List.map_cons, List.sum_cons, ih]
    show 1 + r.length = r.length + 1
    omega
/-! text * int -/
def rRepS : R2 := fun x y H Q => ∃ z k, x = .str z ∧ y = .int k ∧ 2 ≤ k ∧ k ≤ 1000 ∧ 0 < z.length ∧ z.length ≤ 1000 ∧ ∀ y : Str, y.cps.toList = (List.replicate k.toNat z.cps.toList).flatten → Q (.str y) H
theorem fold_rep (z : Array Nat) : ∀ (k : Nat) (acc : Array Nat), ((List.replicate k z).foldl (· ++ ·) acc).toList = acc.toList ++ (List.replicate k z.toList).flatten
  | 0, acc => by simp
  | k + 1, acc => by
    rw [List.replicate_succ, List.foldl_cons, fold_rep z k, List.replicate_succ, List.flatten_cons, Array.toList_append, List.append_assoc]
theorem op_mul_str {X : Cx} : OpR X (binaryOp .Mult) rRepS := by
  intro pins s σ H x y v u Q I rx ry h
  obtain ⟨z, k, rfl, rfl, k0, k1, z0, z1, q⟩ := h
  obtain ⟨t, rfl⟩ := rx
  obtain ⟨t', rfl⟩ := ry
  have n1 : ¬ k < 1 := by omega
  have n2 : (k == 1 || z.length == 0) = false := by
    rw [Bool.or_eq_false_iff]
    exact ⟨beq_eq_false_iff_ne.mpr (by omega), beq_eq_false_iff_ne.mpr (by omega)⟩
  have m1 : (z.length : Int) * k ≤ 1000 * 1000 := Int.mul_le_mul (by omega) k1 (by omega) (by omega)
  have m2 : z.length * k.toNat ≤ 1000 * 1000 := Nat.mul_le_mul z1 (by omega)
  refine PySem.P.mul_str ?_ (fun _ _ => Int.not_lt.mpr ((Int.le_ediv_iff_mul_le (by omega)).mpr (by omega))) (fun _ _ => decide_eq_false (by rw [sizeLine_eq]; omega)) ?_
  · rw [Bool.or_eq_false_iff]
    exact ⟨decide_eq_false (by omega), decide_eq_false (by omega)⟩
  · rw [if_neg n1, n2, if_neg Bool.false_ne_true]
    have e : ((List.replicate k.toNat z.cps).foldl (· ++ ·) #[]).toList = (List.replicate k.toNat z.cps.toList).flatten := by
      rw [fold_rep]
      rfl
    refine ⟨?_, .str ⟨(List.replicate k.toNat z.cps).foldl (· ++ ·) #[]⟩, H, I.tok _, ⟨_, rfl⟩, q _ e⟩
    show ((List.replicate k.toNat z.cps).foldl (· ++ ·) #[]).size ≤ _
    rw [← Array.length_toList, e, PyProof.Rows.lm_len_rep_flat]
    show k.toNat * z.length ≤ sizeLine
    rw [Nat.mul_comm, sizeLine_eq]
    omega
end Gu
namespace Gu
open PySem PySem.Spec PyProof.Rows L2
section
variable {P : Program} {w : World} {K : PySem.W.Frag} {mg : Str → Option Value} {base : Heap}
/-! ### _law_stem -/
def spStem : Sp := fun vs H Q _ => ∃ (p : Addr) (m : Int), vs = [.ref p, .int m] ∧ Pot H p ∧ 0 < m ∧ m < 100 ∧ ∀ (y : Str) (G : Hp), Ladled p H G → 0 < y.cps.toList.length → Wd m.toNat y → Q (.str y) G
theorem cal_stem (B : Bi mg) (D : At K mg "_law_stem" s_law_stem ps_law_stem) (C_law_draw : Cal P w K mg base 1 "_law_draw" ps_law_draw spLadle) : Cal P w K mg base 2 "_law_stem" ps_law_stem spStem := by
  refine D.cal sc_law_stem (fun vs H Q E h => ?_) (fun f cdv A outer s H vs Q E hr h => ?_)
  · obtain ⟨p, m, rfl, _⟩ := h
    rfl
  · obtain ⟨p, m, rfl, hp, m0, m1, k⟩ := h
    refine ⟨_, (pss_cons (ps_set (i := 2) sc_law_stem.nd rfl (.inr rfl) pe_str)
      (pss_one (ps_ret (pe_join pe_str (pe_lc (own := [("_law_k", 3)]) (by rfl) sc_law_stem.nd (pi_range1 (by rfl) B.range (pa_cons (pe_op op_add pe_int (pe_own C_law_draw hr (by decide) (by rfl) (pa_cons (pv 0) (pa_cons (pv 1) pa_nil)))) pa_nil)) (blkOk_by (own := [("_law_k", 3)]) (N := ["_law_source_here", "_law_size", "_law_abc", "_law_k"]) (sc := defScope s_law_stem) (by decide +kernel)) (fun _ _ _ _ _ => pg_name (i := 3) sc_law_stem.nd rfl (.inl rfl)) (fun _ _ _ _ _ => pts_nil) (fun _ _ _ _ _ => (pe_ix ix_str (pv 2) (pe_own C_law_draw hr (by decide) (by rfl) (pa_cons (pv 0) (pa_cons pe_int pa_nil))) (fun _ _ => rfl)))))))), ?_⟩
    refine ⟨⟨_, rfl⟩, _, rfl, _, rfl, p, m, rfl, hp, m0, by omega, fun d G1 d0 d1 L1 => ?_⟩
    refine ⟨_, _, rfl, rfl, _, rfl, by omega, by omega, fun M nM => lc_range (lo := 0) (n := (1 + d).toNat) (fun i J => ∃ cs : List Nat, cs.length = i ∧ (∀ c ∈ cs, c ∈ abc.cps.toList) ∧ J M = some (.lst ((cs.map sg).map V.str)) ∧ Ladled p H J)
      ⟨[], rfl, (fun c hc => by cases hc), upd_same, L1.mut (L1.free nM) (L1.pot.off nM)⟩ ?_ ?_⟩
    · rintro i J hi ⟨cs, rfl, hc, eM, L⟩
      have hM : H M = none := L1.free nM
      refine ⟨rfl, yesT (iteT ⟨_, rfl, _, rfl, p, 38, rfl, L.pot, by decide, by decide, fun c G c0 c1 L2 => ?_⟩)⟩
      obtain ⟨v, hv, ha⟩ := at_in (xs := abc.cps.toList) c0 c1
      have gM := L2.keep _ _ eM (hp.off hM)
      refine ⟨abc, c, v, rfl, rfl, by decide +kernel, ha, _, gM, small1000 (by rw [List.length_map, List.length_map]; omega), cs ++ [v], by rw [List.length_append]; rfl, fun x hx => ?_, ?_, (L.trans L2).mut hM (hp.off hM)⟩
      · rcases List.mem_append.mp hx with hx | hx
        · exact hc x hx
        · rw [List.mem_singleton.mp hx]
          exact hv
      · rw [upd_same, List.map_append, List.map_append]
        rfl
    · rintro J ⟨cs, el, hc, eM, L⟩
      refine ⟨_, M, _, rfl, rfl, .inl (.inl (.inl eM)), ?_, k _ J L ?_ ⟨?_, ?_⟩⟩
      · rw [sgs_len, List.length_map]
        have e0 : (("" : String) : Str).length = 0 := by decide +kernel
        rw [e0]
        omega
      · rw [tjoin_sgs]
        omega
      · rw [tjoin_sgs]
        omega
      · rw [tjoin_sgs]
        exact hc
end
end Gu
namespace Gu
open PySem PySem.Spec PyProof.Rows L2
section
variable {P : Program} {w : World} {K : PySem.W.Frag} {mg : Str → Option Value} {base : Heap}
/-! ### _law_word -/
def spWord (K : PySem.W.Frag) : Sp := fun vs H Q _ => ∃ (p l : Addr) (ys : List Str), vs = [.ref p, .ref l] ∧ Pot H p ∧ SqL K H l (ys.map V.str) ∧ l ≠ p ∧ 0 < ys.length ∧ ys.length < 1000 ∧ (∀ y ∈ ys, 0 < y.cps.toList.length ∧ Wd 12 y) ∧ ∀ (y : Str) (G : Hp), Ladled p H G → Wd 200 y → Q (.str y) G
theorem rep_sgn {z y : Str} {k : Nat} (a : ∀ c ∈ z.cps.toList, c ∈ abc.cps.toList) (e : y.cps.toList = (List.replicate k z.cps.toList).flatten) : ∀ c ∈ y.cps.toList, c ∈ abc.cps.toList := by
  intro c hc
  rw [e] at hc
  obtain ⟨l, hl, h⟩ := List.mem_flatten.mp hc
  rw [(List.mem_replicate.mp hl).2] at h
  exact a c h
theorem rep_len {z y : Str} {k : Nat} (a : z.cps.toList.length ≤ 12) (hk : k ≤ 200) (e : y.cps.toList = (List.replicate k z.cps.toList).flatten) : y.length ≤ sizeLine := by
  show y.cps.toList.length ≤ sizeLine
  rw [e, PyProof.Rows.lm_len_rep_flat, sizeLine_eq]
  have := Nat.mul_le_mul hk a
  omega
theorem cal_word (B : Bi mg) (D : At K mg "_law_word" s_law_word ps_law_word) (C_law_draw : Cal P w K mg base 1 "_law_draw" ps_law_draw spLadle) (C_law_one : Cal P w K mg base 2 "_law_one" ps_law_one (spOneOf K)) (C_law_stem : Cal P w K mg base 2 "_law_stem" ps_law_stem spStem) : Cal P w K mg base 3 "_law_word" ps_law_word (spWord K) := by
  refine D.cal sc_law_word (fun vs H Q E h => ?_) (fun f cdv A outer s H vs Q E hr h => ?_)
  · obtain ⟨p, l, ys, rfl, _⟩ := h
    rfl
  · obtain ⟨p, l, ys, rfl, hp, hl, np, y0, y1, hy, k⟩ := h
    refine ⟨_, (pss_cons (ps_par (i := 2) (j := 3) (by rfl) sc_law_word.nd rfl rfl (by decide) rfl rfl (pa_cons (pe_own C_law_draw hr (by decide) (by rfl) (pa_cons (pv 0) (pa_cons pe_int pa_nil))) (pa_cons (pe_own C_law_one hr (by decide) (by rfl) (pa_cons (pv 0) (pa_cons (pv 1) pa_nil))) pa_nil)) (by rfl))
      (pss_cons (ps_if (pt_cmpR op_lt (pv 2) pe_int (nomark _)) (pss_one (ps_ret (pv 3))) pss_nil)
      (pss_cons (ps_if (pt_cmpR op_lt (pv 2) pe_int (nomark _)) (pss_one (ps_ret (pe_op op_add_str (pe_op op_add_str (pv 3) pe_str) (pe_callTy call_str_int (by rfl) B.str (by decide +kernel) (pa_cons (pe_op op_add pe_int (pe_own C_law_draw hr (by decide) (by rfl) (pa_cons (pv 0) (pa_cons pe_int pa_nil)))) pa_nil))))) pss_nil)
      (pss_cons (ps_if (pt_cmpR op_eq (pv 2) pe_int (nomark _)) (pss_one (ps_ret (pe_slice sl_str (pv 3) po_none (po_some (pe_own C_law_draw hr (by decide) (by rfl) (pa_cons (pv 0) (pa_cons (pe_op op_add (pe_callB call_len (by rfl) B.len (by decide +kernel) (pa_cons (pv 3) pa_nil)) pe_int) pa_nil))))))) pss_nil)
      (pss_cons (ps_if (pt_cmpR op_eq (pv 2) pe_int (nomark _)) (pss_one (ps_ret (pe_slice sl_str (pe_op op_mul_str (pv 3) pe_int) po_none (po_some (pe_own C_law_one hr (by decide) (by rfl) (pa_cons (pv 0) (pa_cons (pe_lst (pa_cons pe_int (pa_cons pe_int (pa_cons pe_int (pa_cons pe_int pa_nil))))) pa_nil))))))) pss_nil)
      (pss_one (ps_ret (pe_mid (pe_ifExp (pt_cmpR op_eq (pv 2) pe_int (nomark _)) (pe_op op_add_str (pv 3) (pe_own C_law_stem hr (by decide) (by rfl) (pa_cons (pv 0) (pa_cons pe_int pa_nil)))) (pe_own C_law_stem hr (by decide) (by rfl) (pa_cons (pv 0) (pa_cons pe_int pa_nil)))))))))))), ?_⟩
    refine ⟨_, rfl, p, 9, rfl, hp, by decide, by decide, fun way G1 w0 w1 L1 => ?_⟩
    refine ⟨_, rfl, _, rfl, p, L1.pot, l, _, rfl, L1.seq np hl, np, by rw [List.length_map]; exact y0, by rw [List.length_map]; exact y1, fun v G2 hv L2 => ?_⟩
    obtain ⟨z, hz, rfl⟩ := List.mem_map.mp hv
    obtain ⟨z0, wz⟩ := hy z hz
    have zl := wz.len
    have ez : z.length = z.cps.toList.length := rfl
    have M2 : Ladled p H G2 := L1.trans L2
    refine ⟨_, _, rfl, ?_⟩
    -- way < 3
    refine ⟨_, rfl, _, _, rfl, rfl, _, rfl, ite2 (fun _ => ?_) (fun _ => ?_)⟩
    · exact ⟨_, rfl, k z G2 M2 (wz.mono (by decide))⟩
    -- way < 5
    refine ⟨_, rfl, _, _, rfl, rfl, _, rfl, ite2 (fun _ => ?_) (fun _ => ?_)⟩
    · refine ⟨_, rfl, _, _, rfl, rfl, by rw [sizeLine_eq]; have e1 : (("~" : String) : Str).length = 1 := by decide +kernel
                                         omega, _, rfl, p, 3, rfl, M2.pot, by decide, by decide, fun d G3 d0 d1 L3 => ?_⟩
      have M3 := M2.trans L3
      refine ⟨_, _, rfl, rfl, _, rfl, ?_, ?_⟩
      · exact log_small (by omega) (by omega)
      · have wd := wd_digit (i := 2 + d) (by omega) (by omega)
        have wt : Wd 1 ("~" : String) := wd_lit (by decide +kernel)
        have w1 : Wd 13 (z ++ (("~" : String) : Str)) := wz.app wt (by decide)
        exact ⟨_, _, rfl, rfl, Nat.le_of_lt (small1000 (Nat.le_trans (Nat.add_le_add w1.len wd.len) (by decide))), k _ _ M3 ((w1.app wd (by decide)).mono (Nat.le_refl _))⟩
    -- way == 5
    refine ⟨_, rfl, rfl, _, rfl, ite2 (fun _ => ?_) (fun _ => ?_)⟩
    · refine ⟨_, rfl, _, rfl, _, rfl, _, _, rfl, ⟨Nat.le_of_lt (small1000 (by omega)), rfl⟩, _, _, rfl, rfl, p, _, rfl, M2.pot, by omega, by omega, fun d G3 d0 d1 L3 => ?_⟩
      exact ⟨d, rfl, z, rfl, Nat.le_of_lt (small1000 (by omega)), k _ _ (M2.trans L3) (wz.cut _ _ |>.mono (by decide))⟩
    -- way == 6
    refine ⟨_, rfl, rfl, _, rfl, ite2 (fun _ => ?_) (fun _ => ?_)⟩
    · refine ⟨_, rfl, z, 200, rfl, rfl, by decide, by decide, by omega, by omega, fun y ey => ?_⟩
      refine ⟨_, rfl, by show 4 ≤ sizeLine; decide, fun q nq => ?_⟩
      refine ⟨p, M2.pot.same (same_new nq), q, _, rfl, .inl (.inl upd_same), M2.pot.off nq, by decide, by decide, fun v G3 hv L3 => ?_⟩
      obtain ⟨b, b0, b1, rfl⟩ : ∃ b : Int, 0 ≤ b ∧ b ≤ 200 ∧ v = .int b := by
        rcases List.mem_cons.mp hv with rfl | hv
        · exact ⟨40, by decide, by decide, rfl⟩
        rcases List.mem_cons.mp hv with rfl | hv
        · exact ⟨41, by decide, by decide, rfl⟩
        rcases List.mem_cons.mp hv with rfl | hv
        · exact ⟨199, by decide, by decide, rfl⟩
        rcases List.mem_cons.mp hv with rfl | hv
        · exact ⟨200, by decide, by decide, rfl⟩
        cases hv
      exact ⟨b, rfl, y, rfl, rep_len zl (by decide) ey, k _ _ ((M2.new nq).trans L3) (wd_head (rep_sgn wz.sgn ey) b0 b1)⟩
    -- way == 7
    refine ⟨fun v J => ∃ y, v = .str y ∧ Ladled p H J ∧ Wd 200 y, ?_, ?_⟩
    · refine ⟨_, rfl, rfl, _, rfl, ite2 (fun _ => ?_) (fun _ => ?_)⟩
      · refine ⟨_, rfl, _, rfl, p, 3, rfl, M2.pot, by decide, by decide, fun y G3 L3 yl wy => ?_⟩
        have y3 := wy.len
        have ey : y.length = y.cps.toList.length := rfl
        refine ⟨_, _, rfl, rfl, Nat.le_of_lt (small1000 (by omega)), _, rfl, M2.trans L3, wz.app wy (by decide)⟩
      · refine ⟨_, rfl, p, 12, rfl, M2.pot, by decide, by decide, fun y G3 L3 yl wy => ?_⟩
        exact ⟨_, rfl, M2.trans L3, wy.mono (by decide)⟩
    · rintro _ J ⟨y, rfl, L, W⟩
      exact k y J L W
end
end Gu
namespace Gu
open PySem PySem.Spec PyProof.Rows L2
/-! ### _law_numbered -/
def ending (n : Int) : Str := (("~" : String) : Str) ++ ((toString n : String) : Str)
def nbase (w : Int) (t : Str) : Str := cutS t none (some w)
def numbered (so : Str) (w : Int) (t : Str) (n : Int) : Str :=
  if decide (so = ("tight" : String)) && decide (w < ((nbase w t).length : Int) + ((ending n).length : Int)) then cutS (nbase w t) none (some (w - (ending n).length)) ++ ending n else nbase w t ++ ending n
theorem ending_len {n : Int} (h0 : 0 ≤ n) (h1 : n < 10) : (ending n).length ≤ 2 := by
  have a := (wd_digit h0 h1).len
  have e : (ending n).length = 1 + ((toString n : String) : Str).length := by
    show (ending n).cps.toList.length = _
    unfold ending
    rw [str_app, List.length_append]
    rfl
  rw [e]
  show 1 + ((toString n : String) : Str).cps.toList.length ≤ 2
  omega
theorem str_eq_iff {a b : Str} : decide (V.str a = V.str b) = decide (a = b) := by
  by_cases e : a = b
  · rw [decide_eq_true e, decide_eq_true (by rw [e])]
  · rw [decide_eq_false e, decide_eq_false (fun h => e (V.str.inj h))]
end Gu
namespace Gu
open PySem PySem.Spec PyProof.Rows L2
/-! ### names, as the laws tell them -/
/-- the first of f a, f (a + 1), .. that is not taken, f (a + k) at the latest -/
def seek (f : Nat → Str) (ys : List Str) : Nat → Nat → Str
  | 0, a => f a
  | k + 1, a => if f a ∈ ys then seek f ys k (a + 1) else f a
theorem seek_at {f : Nat → Str} {ys : List Str} : ∀ (d k a : Nat), d ≤ k → (∀ j, j < d → f (a + j) ∈ ys) → f (a + d) ∉ ys → seek f ys k a = f (a + d)
  | 0, 0, a, _, _, _ => rfl
  | 0, k + 1, a, _, _, n => by
    unfold seek
    rw [if_neg (show f a ∉ ys from n)]
    rfl
  | d + 1, 0, _, h, _, _ => absurd h (by omega)
  | d + 1, k + 1, a, h, t, n => by
    unfold seek
    rw [if_pos (show f a ∈ ys from t 0 (by omega)), seek_at d k (a + 1) (by omega) (fun j hj => by
      have := t (j + 1) (by omega)
      rw [show a + 1 + j = a + (j + 1) by omega]
      exact this) (by
      rw [show a + 1 + d = a + (d + 1) by omega]
      exact n), show a + 1 + d = a + (d + 1) by omega]
theorem fewer : ∀ (xs ys : List Str), xs.Nodup → (∀ x ∈ xs, x ∈ ys) → xs.length ≤ ys.length
  | [], _, _, _ => Nat.zero_le _
  | x :: xs, ys, hn, h => by
    have hx := h x (List.mem_cons_self ..)
    have hc := List.nodup_cons.mp hn
    have ne : ∀ y ∈ xs, y ≠ x := fun y hy e => by
      subst e
      exact hc.1 hy
    have := fewer xs (ys.erase x) hc.2 fun y hy => (List.mem_erase_of_ne (ne y hy)).mpr (h y (List.mem_cons_of_mem _ hy))
    rw [List.length_erase_of_mem hx] at this
    have := List.length_pos_of_mem hx
    rw [List.length_cons]
    omega
def cand (so : Str) (w : Int) (t : Str) (i : Nat) : Str := numbered so w t (2 + (i : Int))
theorem last_of (a : Str) {n : Int} (h0 : 0 ≤ n) (h1 : n < 10) : (a ++ ending n).cps.toList.getLast? = some (48 + n.toNat) := by
  obtain ⟨k, rfl⟩ := Int.eq_ofNat_of_zero_le h0
  have e : ∀ k ∈ List.range 10, (ending (Int.ofNat k)).cps.toList.getLast? = some (48 + k) := by decide +kernel
  have b := e k (List.mem_range.mpr (by omega))
  rw [str_app, List.getLast?_append, show (Int.toNat ((k : Nat) : Int)) = k from rfl, show (ending ((k : Nat) : Int)).cps.toList.getLast? = some (48 + k) from b]
  rfl
theorem cand_last (so : Str) (w : Int) (t : Str) {i : Nat} (h : i < 8) : (cand so w t i).cps.toList.getLast? = some (50 + i) := by
  have e : 48 + (2 + (i : Int)).toNat = 50 + i := by omega
  unfold cand numbered
  split
  · rw [last_of _ (by omega) (by omega), e]
  · rw [last_of _ (by omega) (by omega), e]
theorem cands_nodup (so : Str) (w : Int) (t : Str) : ∀ n, n ≤ 8 → ((List.range n).map (cand so w t)).Nodup
  | 0, _ => List.nodup_nil
  | n + 1, h => by
    rw [List.range_succ, List.map_append]
    refine List.nodup_append.mpr ⟨cands_nodup so w t n (by omega), List.nodup_cons.mpr ⟨List.not_mem_nil, List.nodup_nil⟩, fun x hx y hy e => ?_⟩
    obtain ⟨i, hi, rfl⟩ := List.mem_map.mp hx
    have hi := List.mem_range.mp hi
    rw [List.mem_singleton.mp hy] at e
    have a := cand_last so w t (i := i) (by omega)
    rw [e, cand_last so w t (i := n) (by omega)] at a
    have := Option.some.inj a
    omega
/-- not all of them are taken -/
theorem some_free {so : Str} {w : Int} {t : Str} {ys : List Str} (h : ys.length ≤ 6) (a : ∀ j, j < ys.length + 1 → cand so w t j ∈ ys) : False := by
  have := fewer _ ys (cands_nodup so w t (ys.length + 1) (by omega)) fun x hx => by
    obtain ⟨i, hi, rfl⟩ := List.mem_map.mp hx
    exact a i (List.mem_range.mp hi)
  rw [List.length_map, List.length_range] at this
  omega
def mates (w : Int) (t : Str) (ps : List (Str × Str)) : List (Str × Str) := ps.filter fun q => decide (nbase w q.1 = nbase w t)
def nameOf (so : Str) (w : Int) (t : Str) (ps : List (Str × Str)) : Str :=
  if so = ("count" : String) then (if (mates w t ps).length = 0 then nbase w t else numbered so w t (((mates w t ps).length : Int) + 1))
  else if nbase w t ∈ ps.map (·.2) then seek (cand so w t) (ps.map (·.2)) (ps.map (·.2)).length 0 else nbase w t
theorem wd_base {n : Nat} {t : Str} (h : Wd n t) (w : Int) : Wd n (nbase w t) := h.cut _ _
theorem wd_numbered {n : Nat} {t : Str} {so : Str} {w k : Int} (h : Wd n t) (h0 : 0 ≤ k) (h1 : k < 10) : Wd (n + 2) (numbered so w t k) := by
  have a : Wd 2 (ending k) := (wd_lit (z := ("~" : String)) (n := 1) (by decide +kernel)).app (wd_digit h0 h1) (by decide)
  unfold numbered
  split
  · exact ((wd_base h w).cut _ _).app a (Nat.le_refl _)
  · exact (wd_base h w).app a (Nat.le_refl _)
theorem wd_seek {n : Nat} {so : Str} {w : Int} {t : Str} {ys : List Str} (h : Wd n t) : ∀ (k a : Nat), a + k < 8 → Wd (n + 2) (seek (cand so w t) ys k a)
  | 0, a, l => wd_numbered h (by omega) (by omega)
  | k + 1, a, l => by
    unfold seek
    split
    · exact wd_seek h k (a + 1) (by omega)
    · exact wd_numbered h (by omega) (by omega)
theorem wd_name {n : Nat} {so : Str} {w : Int} {t : Str} {ps : List (Str × Str)} (h : Wd n t) (l : ps.length ≤ 6) : Wd (n + 2) (nameOf so w t ps) := by
  have m : (mates w t ps).length ≤ ps.length := List.length_filter_le ..
  unfold nameOf
  split
  · split
    · exact (wd_base h w).mono (by omega)
    · exact wd_numbered h (by omega) (by omega)
  · split
    · exact wd_seek h _ _ (by rw [List.length_map]; omega)
    · exact (wd_base h w).mono (by omega)
/-! lists that == looks into -/
theorem shaped_of {ds : List PyData} (h : ∀ d ∈ ds, d.canLay0 = true ∧ d.depth ≤ 10) : SeqAt.shaped (.list ds) = true := by
  have a : ∀ ds : List PyData, (∀ d ∈ ds, d.canLay0 = true ∧ d.depth ≤ 10) → PyData.canLayAll0 ds = true ∧ PyData.depthAll ds ≤ 10 := by
    intro ds
    induction ds with
    | nil => exact fun _ => ⟨rfl, Nat.zero_le _⟩
    | cons d ds ih =>
      intro h
      have b := ih fun e he => h e (List.mem_cons_of_mem _ he)
      have c := h d (List.mem_cons_self ..)
      refine ⟨?_, Nat.max_le.mpr ⟨c.2, b.2⟩⟩
      show (d.canLay0 && PyData.canLayAll0 ds) = true
      rw [c.1, b.1]
      rfl
  have b := a ds h
  unfold SeqAt.shaped
  rw [Bool.and_eq_true]
  refine ⟨b.1, decide_eq_true ?_⟩
  show PyData.depthAll ds + 1 ≤ 64
  omega
theorem wd_lay {n : Nat} {y : Str} (h : Wd n y) : (PyData.str y).canLay0 = true := by
  have a : ∀ c ∈ abc.cps.toList, c < 0x110000 := by decide +kernel
  show y.cps.all _ = true
  rw [← Array.all_toList, List.all_eq_true]
  exact fun c hc => decide_eq_true (a c (h.sgn c hc))
def pdat (q : Str × Str) : PyData := .tuple [.str q.1, .str q.2]
theorem pdat_ok {n : Nat} {q : Str × Str} (a : Wd n q.1) (b : Wd n q.2) : (pdat q).canLay0 = true ∧ (pdat q).depth ≤ 10 := by
  refine ⟨?_, by show 1 ≤ 10; decide⟩
  show ((PyData.str q.1).canLay0 && ((PyData.str q.2).canLay0 && true)) = true
  rw [wd_lay a, wd_lay b]
  rfl
theorem eqv_nil (ds : List PyData) : PyData.eqv (.list ds) (.list []) = decide (ds.length = 0) := by
  cases ds with
  | nil => rfl
  | cons d ds => rfl
end Gu
namespace Gu
open PySem PySem.Spec PyProof.Rows L2
/-! ### _law_name -/
/-- a list of pairs of texts -/
structure PairsAt (H : Hp) (a : Addr) (qs : List (Addr × Str × Str)) : Prop where
  ls : H a = some (.lst (qs.map fun q => V.ref q.1))
  tp : ∀ q ∈ qs, H q.1 = some (.tup [.str q.2.1, .str q.2.2])
theorem PairsAt.same {H G : Hp} {a : Addr} {qs : List (Addr × Str × Str)} (s : Same H G) (h : PairsAt H a qs) : PairsAt G a qs := ⟨s _ _ h.ls, fun q hq => s _ _ (h.tp q hq)⟩
theorem ref_at {qs : List (Addr × Str × Str)} {i : Nat} {v : V} (hi : (qs.map fun q => V.ref q.1)[i]? = some v) : ∃ q, qs[i]? = some q ∧ v = .ref q.1 ∧ q ∈ qs := by
  rw [List.getElem?_map] at hi
  cases e : qs[i]? with
  | none =>
    rw [e] at hi
    cases hi
  | some q =>
    rw [e] at hi
    exact ⟨q, rfl, (Option.some.inj hi).symm, List.mem_of_getElem? e⟩
theorem same_off {H J : Hp} {M : Addr} {o : HO} (s : Same H J) (n : H M = none) : Same H (upd J M o) := fun b x e => by
  rw [upd_ne (ne_of_none e n)]
  exact s b x e
theorem dp_pairs {K : PySem.W.Frag} {H : Hp} : ∀ {qs : List (Addr × Str × Str)}, (∀ q ∈ qs, H q.1 = some (.tup [.str q.2.1, .str q.2.2])) → DpAll K H (qs.map fun q => V.ref q.1) (qs.map fun q => pdat q.2)
  | [], _ => .nil
  | q :: qs, h => .cons (.tup (.inl (.inl (h q (List.mem_cons_self ..)))) (.cons (.str _) (.cons (.str _) .nil))) (dp_pairs fun r hr => h r (List.mem_cons_of_mem _ hr))
theorem mates_len (w : Int) (t : Str) (qs : List (Addr × Str × Str)) : (mates w t (qs.map (·.2))).length = (qs.filter fun q => decide (nbase w q.2.1 = nbase w t)).length := by
  unfold mates
  rw [List.filter_map, List.length_map]
  rfl
theorem in_strs (x : Str) (ys : List Str) : inV (.str x) (ys.map V.str) = decide (x ∈ ys) := by
  unfold inV
  rw [List.any_map]
  by_cases e : x ∈ ys
  · rw [decide_eq_true e, List.any_eq_true]
    exact ⟨x, e, beq_self_eq_true x⟩
  · rw [decide_eq_false e, List.any_eq_false]
    intro y hy h
    have h := eq_of_beq (show (y == x) = true from h)
    exact e (h ▸ hy)
theorem flat_strs (ys : List Str) : (ys.map V.str).all flatV = true := by
  rw [List.all_map, List.all_eq_true]
  exact fun _ _ => rfl
theorem take_next {α : Type} {qs : List α} {i : Nat} {q : α} (h : qs[i]? = some q) : qs.take (i + 1) = qs.take i ++ [q] := by
  rw [List.take_add_one, h]
  rfl
end Gu
namespace Gu
open PySem PySem.Spec PyProof.Rows L2
/-! ### _law_names -/
def pairsOf (so : Str) (w : Int) (ts : List Str) : List (Str × Str) := ts.foldl (fun ps t => ps ++ [(t, nameOf so w t ps)]) []
def namesOf (so : Str) (w : Int) (ts : List Str) : List Str := (pairsOf so w ts).map (·.2)
theorem pairsOf_snoc (so : Str) (w : Int) (ts : List Str) (t : Str) : pairsOf so w (ts ++ [t]) = pairsOf so w ts ++ [(t, nameOf so w t (pairsOf so w ts))] := by
  unfold pairsOf
  rw [List.foldl_append]
  rfl
theorem pairsOf_len (so : Str) (w : Int) (ts : List Str) : (pairsOf so w ts).length = ts.length := by
  have a : ∀ (ts : List Str) (acc : List (Str × Str)), (ts.foldl (fun ps t => ps ++ [(t, nameOf so w t ps)]) acc).length = acc.length + ts.length := by
    intro ts
    induction ts with
    | nil => exact fun _ => rfl
    | cons t ts ih =>
      intro acc
      rw [List.foldl_cons, ih, List.length_append, List.length_cons]
      show acc.length + 1 + ts.length = acc.length + (ts.length + 1)
      omega
  have b := a ts []
  rw [List.length_nil, Nat.zero_add] at b
  exact b
theorem st_same {K : PySem.W.Frag} {H G : Hp} {l : Addr} {xs : List V} (a : Same H G) (h : SqT K H l xs) : SqT K G l xs := by
  rcases h with (h | ⟨o, h⟩) | h
  · exact .inl (.inl (a _ _ h))
  · exact .inl (.inr ⟨o, a _ _ h⟩)
  · exact .inr h
theorem pairs_wd {so : Str} {w : Int} (ts : List Str) (l : ts.length ≤ 7) (h : ∀ t ∈ ts, Wd 200 t) : ∀ q ∈ pairsOf so w ts, Wd 200 q.1 ∧ Wd 202 q.2 := by
  have a : ∀ (ts : List Str) (acc : List (Str × Str)), acc.length + ts.length ≤ 7 → (∀ t ∈ ts, Wd 200 t) → (∀ q ∈ acc, Wd 200 q.1 ∧ Wd 202 q.2) → ∀ q ∈ ts.foldl (fun ps t => ps ++ [(t, nameOf so w t ps)]) acc, Wd 200 q.1 ∧ Wd 202 q.2 := by
    intro ts
    induction ts with
    | nil => exact fun _ _ _ h => h
    | cons t ts ih =>
      intro acc l ht ha
      rw [List.length_cons] at l
      rw [List.foldl_cons]
      refine ih _ (by rw [List.length_append, List.length_singleton]; omega) (fun x hx => ht x (List.mem_cons_of_mem _ hx)) fun q hq => ?_
      rcases List.mem_append.mp hq with hq | hq
      · exact ha q hq
      · rw [List.mem_singleton.mp hq]
        exact ⟨ht t (List.mem_cons_self ..), wd_name (ht t (List.mem_cons_self ..)) (by omega)⟩
  exact a ts [] (by rw [List.length_nil]; omega) h fun q hq => by cases hq
end Gu
namespace Gu
open PySem PySem.Spec PyProof.Rows L2
/-! ### calls by keywords alone -/
structure CalK (P : Program) (w : World) (K : PySem.W.Frag) (mg : Str → Option Value) (base : Heap) (k : Nat) (x : Str) (ks : List Str) (gV : List V → List V) (sp : Sp) : Prop where
  ex : ∃ (f : Addr) (fd : FuncData) (ps : List Str) (g : List Value → List Value), FnOk P w K mg base CX0 k f fd ps sp ∧ mg x = some (.ref f) ∧ PySem.W.keepIn K (.ref f) = true ∧ KBn K fd ps 0 ks (fun _ ws => g ws) (fun _ zs => gV zs)
theorem Cal.kw {P : Program} {w : World} {K : PySem.W.Frag} {mg : Str → Option Value} {base : Heap} {k : Nat} {x : Str} {st : Stmt} {ps ks : List Str} {sp : Sp} (g : {α : Type} → List α → List α) (c : Cal P w K mg base k x ps sp) (D : At K mg x st ps)
    (hv : ∀ {zs : List V} {ws : List Value}, Vals zs ws → Vals (g zs) (g ws))
    (hb : ∀ (kV doc pm : Value) (an : Option Addr) (cdv ct : Value) (ws : List Value), ws.length = ks.length → bindArgs (PySem.W.fnOf x x (defArgs st) (defBody st) (defScope st) .none kV doc pm an cdv ct) ⟨[], ks.zip ws⟩ = pure (ps.zip (g ws))) : CalK P w K mg base k x ks g sp := by
  obtain ⟨f, fd, F, hm, kp, b, oc, od, sl, lk⟩ := c.ex
  obtain ⟨f2, fd2, F2, b2, hm2⟩ := D.ex
  cases hm.symm.trans hm2
  obtain ⟨oc2, od2, kV, doc, pm, an, cdv, ct, sl2, e, lk2, hcd⟩ := F2.ex
  cases lk.symm.trans lk2
  refine ⟨f, fd, ps, g, F, hm, kp, ⟨fun s us ws I l1 l2 => ?_, fun _ r => hv r⟩⟩
  cases us with
  | nil =>
    rw [e]
    exact BindsTo.of_eq (hb kV doc pm an cdv ct ws l2)
  | cons u r => cases l1
def tKw (m : Nat) (gV : List V → List V) (sp : Sp) (tk : TA) : TE := fun σ H Q => tk σ H fun zs G => zs.length = m ∧ sp (gV zs) G Q E0
section
variable {X : Cx} {k j : Nat} {x : Str} {ks : List Str} {gV : List V → List V} {sp : Sp} {p pos : Pos} {kws : List Keyword} {tk : TA}
theorem pe_kw (c : CalK X.prog X.w X.K X.mg X.base k x ks gV sp) (hr : Room j X.A) (hk : k ≤ j) (hg : Gl X x) (hkw : PK X kws tk) (hall : (backToKw pos (keywordEach kws X.env)).all (·.1.isSome) = true := by rfl)
    (hks : (backToKw pos (keywordEach kws X.env)).filterMap (·.1) = ks := by rfl) (hdb : (x == ("__debug__" : Str)) = false := by decide)
    (hpl : ((backTo pos (starEach [] X.env)).any (·.1) || (backToKw pos (keywordEach kws X.env)).any (·.1.isNone)) = false := by rfl) : PE X (.Call (.Name x p) [] kws pos) (tKw ks.length gV sp tk) := by
  obtain ⟨f, fd, ps, g, F, hm, kp, b⟩ := c.ex
  refine ⟨fun pins s σ H Q I h => ?_⟩
  refine wpAny_Call_Name_kw (ld_glob I hg hm ?_ hdb)
  refine PySem.W.callWith_KW0 (h₀ := X.base) I.ok.mod.kin kp hall ?_ hpl
  refine thn (hkw.run pos pins s σ H _ I h) fun ws s2 ⟨zs, G, I2, rz, l2, q2⟩ => ⟨I2.kIn, ?_⟩
  rw [hks]
  exact run_fnN (us := []) (vs := []) F (hr.mono hk) b pass0 I2 .nil rz rfl l2 q2
end
def swap2 {α : Type} : List α → List α
  | [a, b] => [b, a]
  | l => l
theorem swap2_vals {zs : List V} {ws : List Value} (r : Vals zs ws) : Vals (swap2 zs) (swap2 ws) := by
  cases r with
  | nil => exact .nil
  | cons a r =>
    cases r with
    | nil => exact .cons a .nil
    | cons b r =>
      cases r with
      | nil => exact .cons b (.cons a .nil)
      | cons c r => exact .cons a (.cons b (.cons c r))
theorem str_ext {a b : Str} (h : a.cps.toList = b.cps.toList) : a = b := by
  cases a
  cases b
  exact congrArg Str.mk (Array.ext' h)
end Gu
namespace Gu
open PySem PySem.Spec PyProof.Rows L2
/-! ### defs that are called where no container is being written out -/
structure FnG (P : Program) (w : World) (K : PySem.W.Frag) (mg : Str → Option Value) (base : Heap) (k : Nat) (f : Addr) (fd : FuncData) (ps : List Str) (sp : Sp) : Prop where
  len : ∀ vs H Q E, sp vs H Q E → vs.length = ps.length
  run : ∀ (A : Around) (outer : List Env) (s : Shared) (H : Hp) (args : Args) (us : List Value) (vs : List V) (Q : VK) (E : XK), Room k A → A.guards = some [] → Env0 P w K mg base A outer s H → BindsTo s fd args (ps.zip us) → Vals vs us → sp vs H Q E →
    codeAny (model P w) A (.call (.ref f) args) (CR CX0 outer P w H s Q E) s
section
variable {P : Program} {w : World} {K : PySem.W.Frag} {mg : Str → Option Value} {base : Heap}
theorem okG {x qual : Str} {st : Stmt} {f : Addr} {fd : FuncData} {N ps : List Str} {k : Nat} {sp : Sp} (F : Fun K x qual st f fd) (S : FnScope N ps (defScope st)) (len : ∀ vs H Q E, sp vs H Q E → vs.length = ps.length)
    (body : ∀ (cdv : Value) (A : Around) (outer : List Env) (s : Shared) (H : Hp) (vs : List V) (Q : VK) (E : XK), Room k (A.deeper (envOfC qual (defScope st) s.heap.objs.size f cdv)) → A.guards = some [] → sp vs H Q E →
      ∃ t, PSs (cxOf CX0 P w K mg base N qual (defScope st) f cdv A outer s H E).nox (defBody st) t ∧ t { nx := fun _ G => Q .non G, rt := Q } (start N vs) H) : FnG P w K mg base (k + 1) f fd ps sp := by
  obtain ⟨oc, od, kV, doc, pm, an, cdv, ct, osl, rfl, lk, hcd⟩ := F.ex
  refine ⟨len, fun A outer s H args us vs Q E room quiet env binds rel want => ?_⟩
  have stays : ∀ b o, base.get? b = some o → s.heap.get? b = some o := fun b o e => (env.bs b o e).1
  have inK : K.In s.heap := env.mod.kin.keeps stays
  have free : s.heap.NoLimit := env.mod.nolimit.keeps stays
  refine codeAny_call_function room.depth (inK _ _ lk) rfl S.co S.gen rfl (PySem.W.codeRec_of inK hcd) (binds _ _ _ _ ?_)
  refine wpAny_newFunctionEnv_cells S.kind (fun ⟨n, v⟩ hy => (S.par n (List.of_mem_zip hy).1).imp id fun q => ⟨q, PySem.W.cellsFrom_some _ _ _ (.inl q)⟩) fun env1 e1 s1 c1 => ?_
  subst e1
  refine ⟨free.keeps c1.toInCall.keep, codeAny_func ?_⟩
  obtain ⟨t, d, q⟩ := body cdv A outer s H vs Q E (room.deeper _) quiet want
  refine wpAny_mono (d.nox.run [] s1 (start N vs) H _ (inv_start S room.hd env (len _ _ _ _ want) rel c1) q) (fun fl s2 h2 => ?_) fun e s2 h2 => h2
  cases fl with
  | ret u =>
    obtain ⟨v, σ2, G, J, rv, r⟩ := h2
    exact ⟨v, G, J.os, J.bare, J.base, J.hok, rv, r⟩
  | next =>
    obtain ⟨σ2, G, J, r⟩ := h2
    exact ⟨V.non, G, J.os, J.bare, J.base, J.hok, rfl, r⟩
  | brk => exact (h2.choose_spec.choose_spec.2 : False).elim
  | cont => exact (h2.choose_spec.choose_spec.2 : False).elim
structure CalG (P : Program) (w : World) (K : PySem.W.Frag) (mg : Str → Option Value) (base : Heap) (k : Nat) (x : Str) (ps : List Str) (sp : Sp) : Prop where
  ex : ∃ (f : Addr) (fd : FuncData), FnG P w K mg base k f fd ps sp ∧ mg x = some (.ref f) ∧ PySem.W.keepIn K (.ref f) = true ∧ Binds K fd ps []
theorem At.calG {x : Str} {st : Stmt} {N ps : List Str} {k : Nat} {sp : Sp} (D : At K mg x st ps) (S : FnScope N ps (defScope st)) (len : ∀ vs H Q E, sp vs H Q E → vs.length = ps.length)
    (body : ∀ (f : Addr) (cdv : Value) (A : Around) (outer : List Env) (s : Shared) (H : Hp) (vs : List V) (Q : VK) (E : XK), Room k (A.deeper (envOfC x (defScope st) s.heap.objs.size f cdv)) → A.guards = some [] → sp vs H Q E →
      ∃ t, PSs (cxOf CX0 P w K mg base N x (defScope st) f cdv A outer s H E).nox (defBody st) t ∧ t { nx := fun _ G => Q .non G, rt := Q } (start N vs) H) : CalG P w K mg base (k + 1) x ps sp := by
  obtain ⟨f, fd, F, b, g⟩ := D.ex
  exact ⟨f, fd, okG F S len (body f), g, F.kp, b⟩
end
def tCallG (sp : Sp) (t : TA) : TE := fun σ H Q => t σ H fun vs G => sp vs G Q E0
section
variable {X : Cx} {k j : Nat} {x : Str} {ps : List Str} {sp : Sp} {p pos : Pos} {e : Expr} {es : List Expr} {t : TA}
theorem pe_ownG (c : CalG X.prog X.w X.K X.mg X.base k x ps sp) (hr : Room j X.A) (hk : k ≤ j) (quiet : X.A.guards = some []) (hg : Gl X x) (ha : PA X (e :: es) t)
    (hdb : (x == ("__debug__" : Str)) = false := by decide) (he : starEach (e :: es) X.env = (false, eval e X.env) :: starEach es X.env := by rfl) (hpl : (backTo pos (starEach es X.env)).any (·.1) = false := by rfl) :
    PE X (.Call (.Name x p) (e :: es) [] pos) (tCallG sp t) := by
  obtain ⟨f, fd, F, hm, kp, b⟩ := c.ex
  refine ⟨fun pins s σ H Q I h => wpAny_Call_Name_kw (ld_glob I hg hm (PySem.W.callWith_K (h₀ := X.base) I.ok.mod.kin kp (thn (ha.run pos pins s σ H _ I h) fun us s1 ⟨vs, G, I1, r, q⟩ => ⟨I1.kIn, ?_⟩) he hpl) hdb)⟩
  have ll : (us ++ []).length = ps.length := by
    rw [List.append_nil, ← r.length]
    exact F.len _ _ _ _ q
  have bt := b s1 us I1.kIn ll
  rw [List.append_nil] at bt
  refine wpAny_call (codeAny_mono (F.run X.A X.stack s1 G ⟨us, []⟩ us vs Q E0 (hr.mono hk) quiet I1.env0 bt r q) fun rr s2 h2 => ?_)
  cases rr with
  | error e => exact (h2 : False).elim
  | ok fl =>
    cases fl with
    | ret u => exact I1.after h2
    | next => exact (h2 : False).elim
    | brk => exact (h2 : False).elim
    | cont => exact (h2 : False).elim
end
end Gu
namespace Gu
open PySem PySem.Spec PyProof.Rows L2
/-- a heap in which nothing is tracked but, at most, the script at a, which stands still there -/
theorem quiet_end {P : Program} {w : World} {K : PySem.W.Frag} {mg mb : Str → Option Value} {k : Nat} {fa a : Addr} {fd : FuncData} {x : Str} {sp : Sp} {s : Shared} {us : List Value} {H : Hp} (inK : K.In s.heap) (nsG : s.heap.Ns mainGlobals mg) (nsB : s.heap.Ns builtinsNs mb)
    (bb : ∀ x : Str, x ≠ "__name__" → mb x = bootBuiltins x) (nl : s.heap.NoLimit) (ng : s.gens = #[]) (at_a : s.heap.get? a = some { cls := .type "list", data := .seq us.toArray }) (room : Room k callerA)
    (F : ∀ base : Heap, K.In base → base.Ns mainGlobals mg → FnG P w K mg base k fa fd [x] sp) (bind : ∀ (s : Shared) (u : Value), BindsTo s fd ⟨[u], []⟩ [(x, u)]) (want : sp [.ref a] H (fun v _ => v = .bl true) fun _ _ _ => False)
    (only : Only H) (ok : HOk P w H s.heap) (one : ∀ b, H b ≠ none → b = a ∧ K.lookup a = none) :
    codeAny (model P w) callerA (.call (.ref fa) ⟨[.ref a], []⟩) (fun r s2 => r = .ok (.ret (.bool true)) ∧ OldK s.heap s2.heap ∧ s2.os = s.os ∧ AllBare s2.gens) s := by
  have dictFree : ∀ (b : Addr) (o : Obj) (es : Array DictEntry) (ep : Nat), s.heap.get? b = some o → o.data = .dict es ep → H b = none := fun b o es ep e d =>
    Classical.byContradiction fun z => by
      have hb := (one b z).1
      rw [hb, at_a] at e
      cases e
      exact Data.noConfusion d
  have hiddenNs : ∀ (b : Addr) (m : Str → Option Value), s.heap.Ns b m → (hidT s.heap H).Ns b m := fun b m h => by
    obtain ⟨o, es, ep, e, d, r⟩ := h
    exact ⟨o, es, ep, hidT_get e (dictFree b o es ep e d), d, r⟩
  have hiddenK : K.In (hidT s.heap H) := fun b o e => hidT_get (inK b o e) (Classical.byContradiction fun z => by
    obtain ⟨h1, h2⟩ := one b z
    rw [h1, h2] at e
    cases e)
  have env : Env0 P w K mg (hidT s.heap H) callerA [] s H := by
    refine ⟨rfl, ⟨hiddenK, hiddenNs _ _ nsG, ⟨mb, hiddenNs _ _ nsB, bb⟩, ?_⟩, fun b o e => of_hidT e, Nat.le_of_eq (hidT_size _ _), trivial, fun b hb => absurd (show b ∈ ([] : List Addr) from hb) List.not_mem_nil, ok, .of_eq ng⟩
    obtain ⟨mc, h1, h2⟩ := nl
    exact ⟨mc, hiddenNs _ _ h1, h2⟩
  refine codeAny_mono ((F _ hiddenK (hiddenNs _ _ nsG)).run callerA [] s H ⟨[.ref a], []⟩ [.ref a] [.ref a] _ _ room rfl env (bind s (.ref a)) (.cons rfl .nil) want) fun r s2 h2 => ?_
  cases r with
  | error e => exact (h2 : False).elim
  | ok fl =>
    cases fl with
    | next => exact (h2 : False).elim
    | brk => exact (h2 : False).elim
    | cont => exact (h2 : False).elim
    | ret u =>
      obtain ⟨v, G, os, bare, un, ok2, rv, hv⟩ := h2
      cases (show v = .bl true from hv)
      cases (show u = Value.bool true from rv)
      refine ⟨rfl, OldK.of_keep fun b o e => ?_, os, bare⟩
      rcases only b with z | ⟨ob, xs, z⟩
      · exact un.keep b o e z (fun y => absurd (show b ∈ ([] : List Addr) from y) List.not_mem_nil) (by simp)
      · have e1 := (ok b _ z).1
        have e2 := (ok2 b _ (un.frzs b ob _ z)).1
        rw [e] at e1
        cases e1
        exact e2
/-- the law's call, by its promise -/
theorem quiet_call {P : Program} {w : World} {K : PySem.W.Frag} {mg mb : Str → Option Value} {k : Nat} {fa a : Addr} {fd : FuncData} {x : Str} {sp : Sp} {s : Shared} {us : List Value} {ns : List Int} (inK : K.In s.heap) (nsG : s.heap.Ns mainGlobals mg) (nsB : s.heap.Ns builtinsNs mb)
    (bb : ∀ x : Str, x ≠ "__name__" → mb x = bootBuiltins x) (nl : s.heap.NoLimit) (ng : s.gens = #[]) (at_a : s.heap.get? a = some { cls := .type "list", data := .seq us.toArray }) (nums : IntsAre us ns) (small : ns.length ≤ sizeLine) (room : Room k callerA)
    (F : ∀ base : Heap, K.In base → base.Ns mainGlobals mg → FnG P w K mg base k fa fd [x] sp) (bind : ∀ (s : Shared) (u : Value), BindsTo s fd ⟨[u], []⟩ [(x, u)])
    (want : ∀ H : Hp, SqL K H a (ns.map V.int) → sp [.ref a] H (fun v _ => v = .bl true) fun _ _ _ => False) :
    codeAny (model P w) callerA (.call (.ref fa) ⟨[.ref a], []⟩) (fun r s2 => r = .ok (.ret (.bool true)) ∧ OldK s.heap s2.heap ∧ s2.os = s.os ∧ AllBare s2.gens) s := by
  have rel := vals_ints nums
  cases hk : K.lookup a with
  | some o =>
    have e := inK a o hk
    rw [at_a] at e
    cases e
    refine quiet_end (H := fun _ => none) inK nsG nsB bb nl ng at_a room F bind (want _ (.inr ⟨_, us.toArray, _, hk, rfl, rfl, rfl, ?_, rel⟩)) (fun _ => .inl rfl) (fun b u z => nomatch (show (none : Option HO) = some u from z)) fun b z => absurd rfl z
    rw [List.size_toArray, nums.length]
    exact small
  | none =>
    refine quiet_end (H := upd (fun _ => none) a (.frz { cls := .type "list", data := .seq us.toArray } (.lst (ns.map V.int)))) inK nsG nsB bb nl ng at_a room F bind (want _ (.inl (.inr ⟨_, upd_same⟩))) (fun b => ?_) (fun b u z => ?_) fun b z => ?_
    · by_cases hb : b = a
      · exact .inr ⟨_, _, by rw [hb]; exact upd_same⟩
      · exact .inl (upd_ne hb)
    · by_cases hb : b = a
      · subst hb
        rw [upd_same] at z
        cases z
        exact ⟨at_a, by rw [List.length_map]; exact small, us, _, rel, at_a⟩
      · rw [upd_ne hb] at z
        cases z
    · by_cases hb : b = a
      · exact ⟨hb, hk⟩
      · exact absurd (upd_ne hb) z
theorem walkG {l : PySem.W.OpenLaw} {n k : Nat} {q : Program} {loose : List Str} {XP : (Str → Option Value) → Heap → Prop} {YP : World → Heap → Prop} {d : DefRec} {K : Params → PySem.W.Frag} {x : Str} {sp : PySem.W.Frag → Sp} (most : l.most = some n) (small : n ≤ sizeLine) (plain : d.params.defaults = []) (room : Room k callerA)
    (left : ∀ (w : World) (h : Heap), YP w h → (K w.params).In h)
    (F : ∀ (w : World) (mg : Str → Option Value) (fa : Addr) (h : Heap), (K w.params).In h → h.Ns mainGlobals mg → mg d.name = some (.ref fa) → ∃ fd : FuncData, (∀ (s : Shared) (u : Value), BindsTo s fd ⟨[u], []⟩ [(x, u)]) ∧
      ∀ base : Heap, (K w.params).In base → base.Ns mainGlobals mg → FnG l.prog w (K w.params) mg base k fa fd [x] (sp (K w.params)))
    (want : ∀ (w : World) (H : Hp) (a : Addr) (ns : List Int), ns.length ≤ n → SqL (K w.params) H a (ns.map V.int) → sp (K w.params) [.ref a] H (fun v _ => v = .bl true) fun _ _ _ => False) :
    PySem.W.WalkO q loose XP YP l.row.toRowW d [] (fun f vs => PySem.call f vs) := by
  refine Att.attach_call most plain fun w s0 s mg mb fa o pm cd doc a us ns G Y ho hd hcd hmg at_a nums le ng => ?_
  obtain ⟨fd, bind, fn⟩ := F w mg fa _ (left w _ Y) G.T.g hmg
  exact quiet_call (left w _ Y) G.T.g G.T.b G.T.builtins G.T.nolimit ng at_a nums (Nat.le_trans le small) room fn bind fun H hS => want w H a ns le hS
end Gu
namespace Gu
open PySem PySem.Spec PyProof.Rows L2
/-! ### what can be written out -/
structure Fine (n W : Nat) (d : PyData) : Prop where
  nd : d.hasDict = false
  sh : d.showable = true
  ls : d.leavesShort 80 = true
  dp : d.depth ≤ n
  wt : d.weight ≤ W
structure FineAll (n W : Nat) (ds : List PyData) : Prop where
  nd : PyData.hasDictAll ds = false
  sh : PyData.showableAll ds = true
  ls : PyData.leavesShortAll 80 ds = true
  dp : PyData.depthAll ds ≤ n
  wt : PyData.weightAll ds ≤ ds.length * (W + 1)
theorem FineAll.of {n W : Nat} : ∀ {ds : List PyData}, (∀ d ∈ ds, Fine n W d) → FineAll n W ds
  | [], _ => ⟨rfl, rfl, rfl, Nat.zero_le _, Nat.zero_le _⟩
  | d :: ds, h => by
    have a := h d (List.mem_cons_self ..)
    have b := FineAll.of (ds := ds) fun e he => h e (List.mem_cons_of_mem _ he)
    refine ⟨?_, ?_, ?_, Nat.max_le.mpr ⟨a.dp, b.dp⟩, ?_⟩
    · show (d.hasDict || PyData.hasDictAll ds) = false
      rw [a.nd, b.nd]
      rfl
    · show (d.showable && PyData.showableAll ds) = true
      rw [a.sh, b.sh]
      rfl
    · show (d.leavesShort 80 && PyData.leavesShortAll 80 ds) = true
      rw [a.ls, b.ls]
      rfl
    · show d.weight + 1 + PyData.weightAll ds ≤ (ds.length + 1) * (W + 1)
      have := a.wt
      have := b.wt
      rw [Nat.succ_mul]
      omega
theorem FineAll.list {n W : Nat} {ds : List PyData} (a : FineAll n W ds) : Fine (n + 1) (ds.length * (W + 1)) (.list ds) := ⟨a.nd, a.sh, a.ls, Nat.succ_le_succ a.dp, a.wt⟩
theorem FineAll.tup {n W : Nat} {ds : List PyData} (a : FineAll n W ds) : Fine (n + 1) (ds.length * (W + 1)) (.tuple ds) := ⟨a.nd, a.sh, a.ls, Nat.succ_le_succ a.dp, a.wt⟩
theorem Fine.mono {n m W Z : Nat} {d : PyData} (h : Fine n W d) (a : n ≤ m) (b : W ≤ Z) : Fine m Z d := ⟨h.nd, h.sh, h.ls, Nat.le_trans h.dp a, Nat.le_trans h.wt b⟩
theorem Fine.bool (b : Bool) : Fine 0 0 (.bool b) := ⟨rfl, rfl, rfl, Nat.le_refl _, Nat.le_refl _⟩
theorem Fine.none : Fine 0 0 .none := ⟨rfl, rfl, rfl, Nat.le_refl _, Nat.le_refl _⟩
theorem Fine.int {i : Int} (h : i.natAbs < 2 ^ 70) : Fine 0 70 (.int i) := by
  have l : i.natAbs.log2 < 70 := PySem.Flt.log2_lt_of (by decide) h
  refine ⟨rfl, decide_eq_true (by omega), decide_eq_true ?_, Nat.le_refl _, ?_⟩
  · have e := int_text_length_le (a := i) (k := 70) (by decide) l
    show (Str.ofString (toString i)).length ≤ 80
    rw [PySem.ofString_length]
    omega
  · show (if i == 0 then 0 else i.natAbs.log2 + 1) ≤ 70
    split <;> omega
theorem Fine.str {z : Str} {W : Nat} (h : ∀ c ∈ z.cps.toList, c < 16 ^ 8) (w : z.cps.toList.length ≤ W) : Fine 0 W (.str z) := by
  refine ⟨rfl, rfl, ?_, Nat.le_refl _, w⟩
  show (z.cps.toList.all fun c => decide (c < 16 ^ 8)) = true
  rw [List.all_eq_true]
  exact fun c hc => decide_eq_true (h c hc)
theorem Fine.fits {d : PyData} (h : Fine 60 100000 d) : d.shown.length ≤ sizeLine := by
  have a := PyData.shown_le 80 (by decide) d h.ls
  have b := h.wt
  have c : (80 + 2) * d.weight ≤ 82 * 100000 := Nat.mul_le_mul_left _ b
  have e : sizeLine = 16777216 := by decide
  omega
section
variable {X : Cx}
/-- repr of a list or tuple, where none is being written out -/
theorem call_reprD (quiet : X.A.guards = some []) (hu : X.A.units + 64 < cLine) : CallR X (.builtin "repr") (fun xs H Q => ∃ (a : Addr) (d : PyData), xs = [.ref a] ∧ Dp X.K H (.ref a) d ∧ Fine 60 100000 d ∧ Q (.str d.shown) H) := by
  intro pins s σ H xs us Q I r h
  obtain ⟨a, d, rfl, hd, fine, q⟩ := h
  cases r with
  | cons r rr =>
    cases rr
    cases (show _ = Value.ref a from r)
    obtain ⟨as, rd⟩ := Dp.reads I d (.ref a) (.ref a) hd rfl
    have dp := fine.dp
    exact repr_of_reads' rd fine.sh (PyData.noDict_hsm fine.nd) quiet (by omega) (fun _ _ e => e) (fun g u tk keep => ⟨.str d.shown, H, I.kept (t' := tk) keep, ⟨_, rfl⟩, q⟩) fine.fits
end
end Gu
namespace Gu
open PySem PySem.Spec PyProof.Rows L2
def spRight : Sp := fun vs H Q _ => ∃ (p : Addr), vs = [.ref p] ∧ Pot H p ∧ ∀ G, Ladled p H G → Q (.bl true) G
end Gu
namespace Gu
open PySem PySem.Spec PyProof.Rows L2
def sorts : List Str := ["count", "free", "tight"]
section
variable {P : Program} {w : World} {K : PySem.W.Frag} {mg : Str → Option Value} {base : Heap} {C : Addr}
/-- Namer.__init__, Nm: what stands at a namer -/
def spNInit (C : Addr) (Nm : Hp → Addr → Str → Int → Prop) : Sp := fun vs H Q _ => ∃ (x dx : Addr) (so : Str) (w : Int), vs = [.ref x, .str so, .int w] ∧ H x = some (.ins C dx []) ∧ so ∈ sorts ∧ 6 ≤ w ∧ w ≤ 40 ∧
  ∀ (G : Hp), Nm G x so w → (∀ c o, H c = some o → c ≠ x → G c = some o) → Q .non G
def spNamesP (K : PySem.W.Frag) (Nm : Hp → Addr → Str → Int → Prop) : Sp := fun vs H Q _ => ∃ (x l : Addr) (so : Str) (w : Int) (ts : List Str), vs = [.ref x, .ref l] ∧ Nm H x so w ∧ so ∈ sorts ∧ 6 ≤ w ∧ w ≤ 40 ∧ SqT K H l (ts.map V.str) ∧ ts.length ≤ 6 ∧ (∀ t ∈ ts, Wd 200 t) ∧
  ∀ (p : Addr) (G : Hp), SqT K G p ((namesOf so w ts).map V.str) → Same H G → Q (.ref p) G
theorem names_wd {so : Str} {w : Int} {ts : List Str} (l : ts.length ≤ 6) (h : ∀ t ∈ ts, Wd 200 t) : ∀ y ∈ namesOf so w ts, Wd 202 y := fun y hy => by
  obtain ⟨q, hq, rfl⟩ := List.mem_map.mp hy
  exact (pairs_wd ts (by omega) h q hq).2
theorem names_len (so : Str) (w : Int) (ts : List Str) : (namesOf so w ts).length = ts.length := by
  unfold namesOf
  rw [List.length_map, pairsOf_len]
theorem dp_strs {K : PySem.W.Frag} {H : Hp} : ∀ ys : List Str, DpAll K H (ys.map V.str) (ys.map PyData.str)
  | [] => .nil
  | y :: ys => .cons (.str y) (dp_strs ys)
theorem fine_strs {ys : List Str} (l : ys.length ≤ 100) (h : ∀ y ∈ ys, Wd 300 y) : Fine 60 100000 (.tuple (ys.map PyData.str)) := by
  have a : ∀ c ∈ abc.cps.toList, c < 16 ^ 8 := by decide +kernel
  have b : FineAll 0 300 (ys.map PyData.str) := FineAll.of fun d hd => by
    obtain ⟨y, hy, rfl⟩ := List.mem_map.mp hd
    exact Fine.str (fun c hc => a c ((h y hy).sgn c hc)) (h y hy).len
  refine b.tup.mono (by decide) ?_
  rw [List.length_map]
  have := Nat.mul_le_mul_right (300 + 1) l
  omega
/-! names are short -/
theorem wd_num {m : Nat} {so t : Str} {w k : Int} (h : Wd m (nbase w t)) (h0 : 0 ≤ k) (h1 : k < 10) : Wd (m + 2) (numbered so w t k) := by
  have a : Wd 2 (ending k) := (wd_lit (z := ("~" : String)) (n := 1) (by decide +kernel)).app (wd_digit h0 h1) (by decide)
  unfold numbered
  split
  · exact (h.cut _ _).app a (Nat.le_refl _)
  · exact h.app a (Nat.le_refl _)
theorem short_seek {m : Nat} {so t : Str} {w : Int} {ys : List Str} (h : Wd m (nbase w t)) : ∀ (k a : Nat), a + k < 8 → Wd (m + 2) (seek (cand so w t) ys k a)
  | 0, a, l => wd_num h (by omega) (by omega)
  | k + 1, a, l => by
    unfold seek
    split
    · exact short_seek h k (a + 1) (by omega)
    · exact wd_num h (by omega) (by omega)
theorem short_name {n : Nat} {so t : Str} {w : Int} {ps : List (Str × Str)} (h : Wd n t) (w0 : 0 ≤ w) (w1 : w ≤ 40) (l : ps.length ≤ 6) : Wd 42 (nameOf so w t ps) := by
  have b : Wd 40 (nbase w t) := wd_head h.sgn w0 (by omega)
  have m : (mates w t ps).length ≤ ps.length := List.length_filter_le ..
  unfold nameOf
  split
  · split
    · exact b.mono (by decide)
    · exact wd_num b (by omega) (by omega)
  · split
    · exact short_seek b _ _ (by rw [List.length_map]; omega)
    · exact b.mono (by decide)
theorem pairs_are {so : Str} {w : Int} (ts : List Str) (l : ts.length ≤ 7) : ∀ q ∈ pairsOf so w ts, ∃ ps : List (Str × Str), q.1 ∈ ts ∧ ps.length ≤ 6 ∧ q.2 = nameOf so w q.1 ps := by
  have a : ∀ (ts : List Str) (acc : List (Str × Str)) (all : List Str), acc.length + ts.length ≤ 7 → (∀ t ∈ ts, t ∈ all) → (∀ q ∈ acc, ∃ ps : List (Str × Str), q.1 ∈ all ∧ ps.length ≤ 6 ∧ q.2 = nameOf so w q.1 ps) → ∀ q ∈ ts.foldl (fun ps t => ps ++ [(t, nameOf so w t ps)]) acc, ∃ ps : List (Str × Str), q.1 ∈ all ∧ ps.length ≤ 6 ∧ q.2 = nameOf so w q.1 ps := by
    intro ts
    induction ts with
    | nil => exact fun _ _ _ _ h => h
    | cons t ts ih =>
      intro acc all l ht ha
      rw [List.length_cons] at l
      rw [List.foldl_cons]
      refine ih _ all (by rw [List.length_append, List.length_singleton]; omega) (fun x hx => ht x (List.mem_cons_of_mem _ hx)) fun q hq => ?_
      rcases List.mem_append.mp hq with hq | hq
      · exact ha q hq
      · rw [List.mem_singleton.mp hq]
        exact ⟨acc, ht t (List.mem_cons_self ..), by omega, rfl⟩
  exact a ts [] ts (by rw [List.length_nil]; omega) (fun _ h => h) fun q hq => by cases hq
theorem names_short {so : Str} {w : Int} {ts : List Str} (l : ts.length ≤ 6) (h : ∀ t ∈ ts, Wd 200 t) (w0 : 0 ≤ w) (w1 : w ≤ 40) : ∀ y ∈ namesOf so w ts, Wd 42 y := fun y hy => by
  obtain ⟨q, hq, rfl⟩ := List.mem_map.mp hy
  obtain ⟨ps, h1, h2, h3⟩ := pairs_are ts (by omega) q hq
  rw [h3]
  exact short_name (h _ h1) w0 w1 h2
end
end Gu
namespace Gu
open PySem PySem.Spec PyProof.Rows L2
/-! ### _law_told -/
def marks : List Str := ["", "~", "..", "...", "a.b", "~"]
/-- four things as they are drawn -/
structure Four (l h t : Int) (z : Str) : Prop where
  l0 : 0 ≤ l
  l1 : l ≤ 40
  h0 : 0 ≤ h
  h1 : h ≤ 40
  t0 : 0 ≤ t
  t1 : t ≤ 40
  z : z ∈ marks
theorem marks_len {z : Str} (h : z ∈ marks) : z.cps.toList.length ≤ 3 := by
  have a : ∀ y ∈ marks, y.cps.toList.length ≤ 3 := by decide +kernel
  exact a z h
end Gu
namespace Gu
open PySem PySem.Spec PyProof.Rows L2
/-! ### _law_tolds -/
structure Rec where
  l : Int
  h : Int
  t : Int
  z : Str
def Rec.vs (r : Rec) : List V := [.int r.l, .int r.h, .int r.t, .str r.z]
def Rec.ok (r : Rec) : Prop := Four r.l r.h r.t r.z
theorem Pot.ne {H : Hp} {p q : Addr} (h : Pot H p) (n : H q = none) : q ≠ p := fun e => by
  subst e
  obtain ⟨o, ho⟩ := h.some
  rw [n] at ho
  cases ho
theorem yes {σ : L2.St} {H : Hp} {Q : Bool → Hp → Prop} (h : Q true H) : tYes σ H Q := h
section
variable {P : Program} {w : World} {K : PySem.W.Frag} {mg : Str → Option Value} {base : Heap}
/-- told tuples: a list of them at D -/
structure ToldsAt (G : Hp) (D : Addr) (ps : List (Addr × Rec)) : Prop where
  ls : G D = some (.lst (ps.map fun q => V.ref q.1))
  tp : ∀ q ∈ ps, G q.1 = some (.tup q.2.vs) ∧ q.2.ok
end
end Gu
namespace Gu
open PySem PySem.Spec PyProof.Rows L2
/-! ### is_integer, is_text -/
/-- isinstance(x, T) is b -/
def Isa (K : PySem.W.Frag) (H : Hp) (x : V) (T : String) (b : Bool) : Prop := ∃ t, TyX K H x t ∧ PySem.W.kitOne K t (.type T) = some b
def signs : Str := ".0123456789abcdefghijklmnopqrstuvwxyz~"
def isTxt (z : Str) (m : Int) : Bool := decide ((z.length : Int) ≤ m) && z.cps.toList.all fun c => decide (c ∈ signs.cps.toList)
section
variable {P : Program} {w : World} {K : PySem.W.Frag} {mg : Str → Option Value} {base : Heap}
theorem Isa.int_int {H : Hp} {i : Int} : Isa K H (.int i) "int" true := ⟨_, .base (.int i), kit_ty (by decide +kernel)⟩
theorem Isa.int_bool {H : Hp} {i : Int} : Isa K H (.int i) "bool" false := ⟨_, .base (.int i), kit_ty (by decide +kernel)⟩
theorem Isa.str_str {H : Hp} {z : Str} : Isa K H (.str z) "str" true := ⟨_, .base (.str z), kit_ty (by decide +kernel)⟩
def spIsInteger (K : PySem.W.Frag) : Sp := fun vs H Q _ => ∃ (x : V) (a b : Int), vs = [x, .int a, .int b] ∧
  ((∃ v, x = .int v ∧ Q (.bl (decide (a ≤ v ∧ v ≤ b))) H) ∨ (Isa K H x "int" false ∧ Q (.bl false) H) ∨ (Isa K H x "int" true ∧ Isa K H x "bool" true ∧ Q (.bl false) H))
theorem cal_isInteger (B : Bi mg) (D : At K mg "is_integer" s_is_integer ps_is_integer) : Cal P w K mg base 1 "is_integer" ps_is_integer (spIsInteger K) := by
  refine D.cal sc_is_integer (fun vs H Q E h => ?_) (fun f cdv A outer s H vs Q E hr h => ?_)
  · obtain ⟨x, a, b, rfl, _⟩ := h
    rfl
  · obtain ⟨x, a, b, rfl, h⟩ := h
    refine ⟨_, (pss_cons (ps_if (PW.pt (pw_or (pt_not (pt_val (pe_callB call_isi (by rfl) B.isinstance (by decide +kernel) (pa_cons (pv 0) (pa_cons (pe_bltn (v := .ty "int") (by rfl) B.int (by decide +kernel) rfl) pa_nil))))) (pw_or1 (pt_val (pe_callB call_isi (by rfl) B.isinstance (by decide +kernel) (pa_cons (pv 0) (pa_cons (pe_bltn (v := .ty "bool") (by rfl) B.bool (by decide +kernel) rfl) pa_nil))))))) (pss_one (ps_ret pe_bl)) pss_nil)
      (pss_one (ps_ret (pe_chain op_le op_le (pv 1) (pv 0) (pv 2))))), ?_⟩
    rcases h with ⟨v, rfl, k⟩ | ⟨⟨t, i1, i2⟩, k⟩ | ⟨⟨t, i1, i2⟩, ⟨t', j1, j2⟩, k⟩
    · obtain ⟨t, i1, i2⟩ := Isa.int_int (K := K) (H := H) (i := v)
      obtain ⟨t', j1, j2⟩ := Isa.int_bool (K := K) (H := H) (i := v)
      refine ⟨_, rfl, _, _, t, _, true, rfl, .ty _, i1, i2, _, rfl, iteF ⟨_, rfl, _, _, t', _, false, rfl, .ty _, j1, j2, _, rfl, iteF ?_⟩⟩
      refine ⟨_, rfl, _, rfl, _, _, rfl, rfl, _, rfl, ?_⟩
      by_cases e1 : a ≤ v
      · rw [decide_eq_true e1]
        refine iteT ⟨_, rfl, _, _, rfl, rfl, ?_⟩
        have e : decide (a ≤ v ∧ v ≤ b) = decide (v ≤ b) := by simp only [e1, true_and]
        rw [e] at k
        exact k
      · rw [decide_eq_false e1]
        refine iteF ?_
        have e : decide (a ≤ v ∧ v ≤ b) = false := by simp only [e1, false_and, decide_false]
        rw [e] at k
        exact k
    · refine ⟨_, rfl, _, _, t, _, false, rfl, .ty _, i1, i2, _, rfl, iteT (iteT k)⟩
    · refine ⟨_, rfl, _, _, t, _, true, rfl, .ty _, i1, i2, _, rfl, iteF ⟨_, rfl, _, _, t', _, true, rfl, .ty _, j1, j2, _, rfl, iteT k⟩⟩
def spIsText (K : PySem.W.Frag) : Sp := fun vs H Q _ => ∃ (x : V) (m : Int), vs = [x, .int m] ∧
  ((∃ z : Str, x = .str z ∧ z.length ≤ 1000 ∧ ∀ G, Same H G → Q (.bl (isTxt z m)) G) ∨ (Isa K H x "str" false ∧ Q (.bl false) H))
theorem cal_isText (B : Bi mg) (D : At K mg "is_text" s_is_text ps_is_text) : Cal P w K mg base 1 "is_text" ps_is_text (spIsText K) := by
  refine D.cal sc_is_text (fun vs H Q E h => ?_) (fun f cdv A outer s H vs Q E hr h => ?_)
  · obtain ⟨x, m, rfl, _⟩ := h
    rfl
  · obtain ⟨x, m, rfl, h⟩ := h
    refine ⟨_, (pss_cons (ps_if (PW.pt (pw_or (pt_not (pt_val (pe_callB call_isi (by rfl) B.isinstance (by decide +kernel) (pa_cons (pv 0) (pa_cons (pe_bltn (v := .ty "str") (by rfl) B.str (by decide +kernel) rfl) pa_nil))))) (pw_or1 (pt_cmpR op_gt (pe_callB call_len (by rfl) B.len (by decide +kernel) (pa_cons (pv 0) pa_nil)) (pv 1) (nomark _))))) (pss_one (ps_ret pe_bl)) pss_nil)
      (pss_one (ps_ret (pe_callB (cr_all rfl) (by rfl) B.all (by decide +kernel) (pa_cons (pe_lc (own := [("character", 2)]) (by rfl) sc_is_text.nd (pi_str (pv 0)) (blkOk_by (own := [("character", 2)]) (N := ["value", "most", "character"]) (sc := defScope s_is_text) (by decide +kernel)) (fun _ _ _ _ _ => pg_name (i := 2) sc_is_text.nd rfl (.inl rfl)) (fun _ _ _ _ _ => pts_nil) (fun _ _ _ _ _ => (pe_cmpR op_in_sign (pv 2) (pe_cst B.SIGNS (by rfl)) (by rfl)))) pa_nil))))), ?_⟩
    rcases h with ⟨z, rfl, zl, k⟩ | ⟨⟨t, i1, i2⟩, k⟩
    · obtain ⟨t, i1, i2⟩ := Isa.str_str (K := K) (H := H) (z := z)
      refine ⟨_, rfl, _, _, t, _, true, rfl, .ty _, i1, i2, _, rfl, iteF ⟨_, rfl, _, _, rfl, ⟨Nat.le_of_lt (small1000 zl), rfl⟩, _, rfl, _, _, rfl, rfl, _, rfl, ite2 (fun e => ?_) (fun e => ?_)⟩⟩
      · have e1 : ¬ (z.length : Int) ≤ m := by
          have := of_decide_eq_true e
          omega
        have e2 : isTxt z m = false := by
          unfold isTxt
          rw [decide_eq_false e1, Bool.false_and]
        rw [e2] at k
        exact k H (Same.refl H)
      · have e1 : (z.length : Int) ≤ m := by
          have h2 : ¬ m < (z.length : Int) := fun h3 => e (decide_eq_true h3)
          omega
        refine ⟨_, rfl, z, rfl, fun D nD => lc_it walk_str (fun i J => Same H J ∧ J D = some (.lst (((z.cps.toList.take i).map fun c => decide (c ∈ signs.cps.toList)).map V.bl)))
          ⟨same_new nD, by rw [upd_same]; rfl⟩ (fun _ _ _ _ => trivial) ?_ ?_⟩
        · rintro i v J _ hi ⟨sJ, eJ⟩ ⟨rfl, c, hc, rfl⟩
          refine ⟨rfl, yes (iteT ?_)⟩
          refine ⟨_, rfl, c, signs, rfl, rfl, _, eJ, small1000 ?_, ?_, ?_⟩
          · rw [List.length_map, List.length_map, List.length_take]
            have : z.length = z.cps.toList.length := rfl
            omega
          · exact fun b o e => by
              rw [upd_ne (ne_of_none e nD)]
              exact sJ b o e
          · rw [upd_same]
            have hc' : z.cps.toList[i]? = some c := by
              rw [← Array.getElem?_toList] at hc
              exact hc
            rw [List.take_add_one, hc', List.map_append, List.map_append]
            rfl
        · rintro J ⟨sJ, eJ⟩
          refine ⟨D, ((z.cps.toList.take z.cps.size).map fun c => decide (c ∈ signs.cps.toList)), rfl, .inl (.inl eJ), ?_⟩
          have e2 : ((z.cps.toList.take z.cps.size).map fun c => decide (c ∈ signs.cps.toList)).all id = isTxt z m := by
            unfold isTxt
            rw [decide_eq_true e1, Bool.true_and, List.take_of_length_le (show z.cps.toList.length ≤ z.cps.size from Nat.le_refl _), List.all_map]
            rfl
          rw [e2]
          exact k J sJ
    · refine ⟨_, rfl, _, _, t, _, false, rfl, .ty _, i1, i2, _, rfl, iteT (iteT k)⟩
end
end Gu
namespace Gu
open PySem PySem.Spec PyProof.Rows L2
/-! ### is_tuple -/
theorem isaTupP {K : PySem.W.Frag} {H : Hp} {l : Addr} {xs : List V} (h : SqT K H l xs) : Isa K H (.ref l) "tuple" true := by
  rcases h with (h | ⟨o, h⟩) | ⟨o, its, n, e, c, _⟩
  · exact ⟨_, .base (.tup h), kit_ty (by decide +kernel)⟩
  · exact ⟨_, .fTuple h, kit_ty (by decide +kernel)⟩
  · exact ⟨_, .kTuple e c, kit_ty (by decide +kernel)⟩
section
variable {P : Program} {w : World} {K : PySem.W.Frag} {mg : Str → Option Value} {base : Heap} {C : Addr}
def spIsTuple (K : PySem.W.Frag) : Sp := fun vs H Q _ => ∃ (x : V) (a b : Int), vs = [x, .int a, .int b] ∧
  ((∃ (l : Addr) (xs : List V), x = .ref l ∧ SqT K H l xs ∧ Q (.bl (decide (a ≤ (xs.length : Int) ∧ (xs.length : Int) ≤ b))) H) ∨ (Isa K H x "tuple" false ∧ Q (.bl false) H))
theorem cal_isTuple (B : Bi mg) (D : At K mg "is_tuple" s_is_tuple ps_is_tuple) : Cal P w K mg base 1 "is_tuple" ps_is_tuple (spIsTuple K) := by
  refine D.cal sc_is_tuple (fun vs H Q E h => ?_) (fun f cdv A outer s H vs Q E hr h => ?_)
  · obtain ⟨x, a, b, rfl, _⟩ := h
    rfl
  · obtain ⟨x, a, b, rfl, h⟩ := h
    refine ⟨_, (pss_one (ps_ret (pe_and (pe_callB call_isi (by rfl) B.isinstance (by decide +kernel) (pa_cons (pv 0) (pa_cons (pe_bltn (v := .ty "tuple") (by rfl) B.tuple (by decide +kernel) rfl) pa_nil))) (pe_one (pe_chain op_le op_le (pv 1) (pe_callB call_len (by rfl) B.len (by decide +kernel) (pa_cons (pv 0) pa_nil)) (pv 2)))))), ?_⟩
    rcases h with ⟨l, xs, rfl, hT, k⟩ | ⟨⟨t, i1, i2⟩, k⟩
    · obtain ⟨t, i1, i2⟩ := isaTupP hT
      refine ⟨_, rfl, _, _, t, _, true, rfl, .ty _, i1, i2, _, rfl, iteT ?_⟩
      refine ⟨_, rfl, _, rfl, _, _, rfl, .inr ⟨_, hT, rfl⟩, _, _, rfl, rfl, _, rfl, ?_⟩
      by_cases e1 : a ≤ (xs.length : Int)
      · rw [decide_eq_true e1]
        refine iteT ⟨_, rfl, _, _, rfl, rfl, ?_⟩
        have e : decide (a ≤ (xs.length : Int) ∧ (xs.length : Int) ≤ b) = decide ((xs.length : Int) ≤ b) := by simp only [e1, true_and]
        rw [e] at k
        exact k
      · rw [decide_eq_false e1]
        refine iteF ?_
        have e : decide (a ≤ (xs.length : Int) ∧ (xs.length : Int) ≤ b) = false := by simp only [e1, false_and, decide_false]
        rw [e] at k
        exact k
    · exact ⟨_, rfl, _, _, t, _, false, rfl, .ty _, i1, i2, _, rfl, iteF k⟩
end
end Gu
namespace PySem
open Sem (wp)
open AutoSeq1 (wpAny_loadPart')
theorem gu_new_enum (a : Addr) (vs : Array Value) (n : Nat) (dt : Option Addr) (sl : Array (Option Value)) : Meets (Builtin.«enumerate.__new__» ⟨[.type "enumerate", .ref a], []⟩) (fun _ R s =>
    s.heap.get? a = some ⟨.type "tuple", dt, .seq vs n, sl⟩ ∧ R (.ok (.ret (.ref (s.heap.push { cls := .type "tuple_iterator", data := .fields #[.ref a, .int 0 0] }).objs.size))) { s with heap := (s.heap.push { cls := .type "tuple_iterator", data := .fields #[.ref a, .int 0 0] }).push { cls := .type "enumerate", data := .fields #[.none, .bool false, .ref s.heap.objs.size, rawInt 0, .none, .none] } }) :=
  .of_wp fun prog w A R s h => by
    obtain ⟨s1, s2, s3, s4, s5⟩ := s
    obtain ⟨ha, h⟩ := h
    have sb := sub_enumerate
    have hT : Heap.IsTuple (Shared.heap ⟨s1, s2, s3, s4, s5⟩) a vs := ⟨_, ha, rfl, n, rfl⟩
    wp_walk using wpAny_loadPart' ha
    refine wpAny_stack_any fun fr => wpAny_pure ?_
    split
    · next c _ _ _ _ _ =>
      cases (c == Value.type "enumerate") <;> (wp_walk using wpAny_loadPart' ha, wpAny_pyIter_tuple hT; exact ⟨_, rfl, h⟩)
    · wp_walk using wpAny_loadPart' ha, wpAny_pyIter_tuple hT
      exact ⟨_, rfl, h⟩
section
variable {prog : Program} {w : World} {A : Around} {E : Value → Shared → Prop} {s : Shared}
theorem gu_call_enum {a : Addr} {vs : Array Value} {Q : Value → Shared → Prop} (hT : s.heap.IsTuple a vs)
    (h : ∀ g, IsEnum g (s.heap.objs.size + 1) s.heap.objs.size 0 .none → g.IsTupleIter s.heap.objs.size a 0 → (∀ b o, s.heap.get? b = some o → g.get? b = some o) → Q (.ref (s.heap.objs.size + 1)) { s with heap := g }) :
    wpAny (model prog w) A (call (.type "enumerate") [.ref a]) Q E s := by
  obtain ⟨⟨oc, od, dd, sl⟩, ha, hc, n, hd⟩ := hT
  cases (show oc = .type "tuple" from hc)
  cases (show dd = .seq vs n from hd)
  refine callType_new F.called_enumerate (by decide) (F.typeCall_enumerate_1 _) (F.newCall_enumerate_1 _) (fun o => F.args_object_init_2 o _) F.entry_enumerate_new (gu_new_enum a vs n od sl) ⟨ha, ?_⟩
  have z1 : (s.heap.push { cls := .type "tuple_iterator", data := .fields #[.ref a, .int 0 0] }).objs.size = s.heap.objs.size + 1 := Heap.size_push ..
  show _ ∧ _
  rw [z1]
  have en : IsEnum ((s.heap.push { cls := .type "tuple_iterator", data := .fields #[.ref a, .int 0 0] }).push { cls := .type "enumerate", data := .fields #[.none, .bool false, .ref s.heap.objs.size, rawInt 0, .none, .none] }) (s.heap.objs.size + 1) s.heap.objs.size 0 .none := by
    have q := Heap.get?_push_size (s.heap.push { cls := .type "tuple_iterator", data := .fields #[.ref a, .int 0 0] }) (o := { cls := .type "enumerate", data := .fields #[.none, .bool false, .ref s.heap.objs.size, rawInt 0, .none, .none] }) rfl
    rw [z1] at q
    exact q
  exact ⟨⟨_, en, rfl⟩, h _ en ⟨_, Heap.get?_push_of_some _ (Heap.get?_push_size _ rfl), rfl, rfl⟩ fun b o x => Heap.get?_push_of_some _ (Heap.get?_push_of_some _ x)⟩
end
end PySem
namespace Gu
open PySem PySem.Spec PyProof.Rows L2
/-- the tuple at a, each item in a new pair with its place -/
def EnT (K : PySem.W.Frag) (a : Addr) : It where
  go := fun i H => ∃ (xs : List V) (x : V), SqT K H a xs ∧ xs[i]? = some x
  yld := fun i H v G => ∃ T x, v = .ref T ∧ H T = none ∧ G = upd H T (.tup [.int (i : Nat), x]) ∧ ∀ xs, SqT K H a xs → xs[i]? = some x
  stop := fun i H => ∃ xs : List V, SqT K H a xs ∧ xs.length = i
theorem turn_enT {P : Program} {w : World} {K : PySem.W.Frag} {es : List Expr} {kk : Nat} {tp : Pos} (a e it : Addr) :
    Turn P w K (.Tuple es kk tp) (EnT K a) [e, it] e (fun i h => (∃ old, IsEnum h e it ((i : Nat) : Int) old) ∧ h.IsTupleIter it a i ∧ e ≠ it) where
  mem := List.mem_cons_self ..
  obj := fun i h st b hb => by
    obtain ⟨⟨old, he⟩, ⟨o, ho, hc, hd⟩, _⟩ := st
    simp only [List.mem_cons, List.not_mem_nil, or_false] at hb
    rcases hb with rfl | rfl
    · exact ⟨_, he, fun v q => nomatch q⟩
    · exact ⟨o, ho, fun v q => by rw [hd] at q; cases q⟩
  keep := fun i h g st k => by
    obtain ⟨⟨old, he⟩, hi, ne⟩ := st
    exact ⟨⟨old, k e (by simp) _ he⟩, hi.at fun o q => k it (by simp) o q, ne⟩
  item := by
    intro X hP hw hK hc i pins s σ H E I hf st hg
    subst hP hw hK
    obtain ⟨⟨old, he⟩, hit, ne⟩ := st
    obtain ⟨xs, x, hq, hx⟩ := hg
    obtain ⟨its, rv, tp, hz⟩ := I.tuple hq
    obtain ⟨u, hu, ru⟩ := rv.get hx
    have el : e < s.heap.objs.size := Heap.lt_size he
    have il : it < s.heap.objs.size := by
      obtain ⟨_, q, _⟩ := hit
      exact Heap.lt_size q
    have tp' : s.heap.IsTuple a its.toArray := tp
    have nai : a ≠ it := fun z => by
      obtain ⟨o1, g1, c1, _⟩ := tp'
      obtain ⟨o2, g2, c2, _⟩ := hit
      rw [z] at g1
      cases g1.symm.trans g2
      exact absurd (Value.type.inj (c1.symm.trans c2)) (by decide)
    have nea : e ≠ a := fun z => by
      obtain ⟨o1, g1, c1, _⟩ := tp'
      have g2 := he
      rw [z] at g2
      cases g1.symm.trans g2
      exact absurd (Value.type.inj c1) (by decide)
    have hd : X.A.in1.handled = none := I.ok.hd hc
    refine wpAny_pyNext_enum_itemD (Draws.tuple hd it a nai its.toArray) he ⟨hit, tp'⟩ (i := i) (by
      have := (List.getElem?_eq_some_iff.mp hu).1
      simpa using this) ne (by simp [ne, nea]) fun y g tk hy ho st' hT hsz hk => ?_
    have ey : y = u := by
      have : its[i]? = some y := by simpa using hy
      rw [hu] at this
      exact (Option.some.inj this).symm
    subst ey
    refine ⟨_, rfl, wpAny_letOwnedTupleGo_enum (s := { s with heap := g, toks := tk + 1 }) ho fun g2 he' sb => ?_⟩
    have hT2 : g2.get? s.heap.objs.size = some { cls := .type "tuple", data := .seq #[.int i tk, y] } := (sb.2 _ (Nat.ne_of_gt el)).trans hT
    have nw : ObjOk X.prog X.w (upd H s.heap.objs.size (.tup [.int (i : Nat), x])) g2 s.heap.objs.size (.tup [.int (i : Nat), x]) := ⟨by show 2 ≤ sizeLine; decide, [.int i tk, y], .cons ⟨_, rfl⟩ (.cons ru .nil), ⟨_, hT2, rfl, _, rfl⟩⟩
    have I1 : Inv X pins σ (upd H s.heap.objs.size (.tup [.int (i : Nat), x])) { s with heap := g2, toks := tk + 1 } :=
      I.turnedNew (ch := [e, it]) (fun b ob hb q => (sb.2 b (fun z => hb (by simp [z]))).trans (hk b ob (fun z => hb (by simp [z])) (fun z => hb (by simp [z])) q)) hf (Nat.le_refl _) nw
    refine ⟨.ref s.heap.objs.size, _, I1, rfl, ⟨_, x, rfl, I.hok.fresh (Nat.le_refl _), rfl, fun ys hy => by rw [I.tuple_inj hy hq]; exact hx⟩, ⟨⟨y, ?_⟩, st'.1.at fun o q => (sb.2 it (Ne.symm ne)).trans q, ne⟩, fun b hb => ?_⟩
    · rw [show ((i + 1 : Nat) : Int) = (i : Int) + 1 by omega]
      exact he'
    · have hb' : b < s.heap.objs.size := by
        simp only [List.mem_cons, List.not_mem_nil, or_false] at hb
        rcases hb with rfl | rfl
        · exact el
        · exact il
      rw [upd_ne (Nat.ne_of_lt hb')]
      exact (hf b hb).1
  done := by
    intro X hP hw hK hc i pins s σ H E I hf st hg
    subst hP hw hK
    obtain ⟨⟨old, he⟩, hit, ne⟩ := st
    obtain ⟨xs, hq, hx⟩ := hg
    obtain ⟨its, rv, tp, hz⟩ := I.tuple hq
    have tp' : s.heap.IsTuple a its.toArray := tp
    have nai : a ≠ it := fun z => by
      obtain ⟨o1, g1, c1, _⟩ := tp'
      obtain ⟨o2, g2, c2, _⟩ := hit
      rw [z] at g1
      cases g1.symm.trans g2
      exact absurd (Value.type.inj (c1.symm.trans c2)) (by decide)
    have hd : X.A.in1.handled = none := I.ok.hd hc
    have en : its.toArray.size = i := by
      have := rv.length
      simp only [List.size_toArray]
      omega
    obtain ⟨f0, f1, f2, f3, f4, f5⟩ := hf it (by simp)
    exact wpAny_pyNext_enum_endD (Draws.tuple hd it a nai its.toArray) he ⟨by rw [en]; exact hit, tp'⟩ fun g eb => ⟨rfl, I.turned (t' := s.toks) (fun b o hb q => eb b o hb q) f0 f1 f3 f4 f5⟩
  self := fun A i s Q E st h => by
    obtain ⟨⟨_, he⟩, _⟩ := st
    exact wpAny_pyIter_enum he h
def iEnT (K : PySem.W.Frag) (ta : TA) : TI := fun σ H R => ta σ H fun vs G => ∃ a xs, vs = [.ref a] ∧ SqT K G a xs ∧ R (EnT K a) G
theorem pi_enT {X : Cx} {e : Expr} {ta : TA} {p pos tp : Pos} {es : List Expr} {kk : Nat} (hg : Gl X "enumerate") (hm : X.mg "enumerate" = none) (ha : PA X [e] ta) (hs : starEach [e] X.env = [(false, eval e X.env)] := by rfl) :
    PI X (.Tuple es kk tp) (.Call (.Name "enumerate" p) [e] [] pos) (iEnT X.K ta) := by
  refine ⟨fun pins s σ H R I h => ?_⟩
  refine Call_ (ld_blt I hg hm boot_enumerate (PyProof.Rows.callWith_type1 (thn (ha.run pos pins s σ H _ I h) fun us s1 ⟨vs, G, I1, r1, q1⟩ => ?_) hs rfl))
  obtain ⟨a, xs, ex, hq, q⟩ := q1
  subst ex
  cases r1 with
  | cons r rr =>
    cases rr
    cases r
    obtain ⟨its, rv, tq, hz⟩ := I1.tuple hq
    refine gu_call_enum (show s1.heap.IsTuple a its.toArray from tq) fun g he hit hk => wpAny_pyIter_enum he ?_
    have I2 : Inv X pins σ G { s1 with heap := g } := I1.kept (t' := s1.toks) hk
    refine ⟨s1.heap.objs.size + 1, [s1.heap.objs.size + 1, s1.heap.objs.size], _, _, G, rfl, I2, turn_enT a (s1.heap.objs.size + 1) s1.heap.objs.size, ⟨⟨.none, he⟩, hit, Nat.succ_ne_self _⟩, fun b hb => ?_, q⟩
    have le : s1.heap.objs.size ≤ b := by
      simp only [List.mem_cons, List.not_mem_nil, or_false] at hb
      rcases hb with rfl | rfl
      · exact Nat.le_add_right _ _
      · exact Nat.le_refl _
    exact I1.fpOk le (I1.hok.fresh le)
/-- the walk of such a loop: a new pair each turn -/
theorem walk_enT {K : PySem.W.Frag} {a : Addr} {xs : List V} : Walk (EnT K a) xs.length (fun H => SqT K H a xs) (fun i H v G => ∃ T x, xs[i]? = some x ∧ v = .ref T ∧ H T = none ∧ G = upd H T (.tup [.int (i : Nat), x])) where
  goes := fun i H hi h => ⟨xs, xs[i], h, List.getElem?_eq_getElem hi⟩
  stops := fun H h => ⟨xs, h, rfl⟩
  yields := fun i H v G hi h ⟨T, x, e1, e2, e3, e4⟩ => ⟨T, x, e4 xs h, e1, e2, e3⟩
end Gu
namespace Gu
open PySem PySem.Spec PyProof.Rows L2
/-! ### the class Shortener, its __init__ -/
def flds (r : Rec) (b : Addr) : List (Str × V) := putF "told" (.ref b) (putF "mark" (.str r.z) (putF "tail" (.int r.t) (putF "head" (.int r.h) (putF "limit" (.int r.l) []))))
theorem flds_limit (r : Rec) (b : Addr) : (flds r b).lookup ("limit" : Str) = some (.int r.l) := by
  unfold flds
  rw [lookup_putF, if_neg (by decide +kernel), lookup_putF, if_neg (by decide +kernel), lookup_putF, if_neg (by decide +kernel), lookup_putF, if_neg (by decide +kernel), lookup_putF, if_pos rfl]
theorem flds_head (r : Rec) (b : Addr) : (flds r b).lookup ("head" : Str) = some (.int r.h) := by
  unfold flds
  rw [lookup_putF, if_neg (by decide +kernel), lookup_putF, if_neg (by decide +kernel), lookup_putF, if_neg (by decide +kernel), lookup_putF, if_pos rfl]
theorem flds_tail (r : Rec) (b : Addr) : (flds r b).lookup ("tail" : Str) = some (.int r.t) := by
  unfold flds
  rw [lookup_putF, if_neg (by decide +kernel), lookup_putF, if_neg (by decide +kernel), lookup_putF, if_pos rfl]
theorem flds_mark (r : Rec) (b : Addr) : (flds r b).lookup ("mark" : Str) = some (.str r.z) := by
  unfold flds
  rw [lookup_putF, if_neg (by decide +kernel), lookup_putF, if_pos rfl]
theorem flds_told (r : Rec) (b : Addr) : (flds r b).lookup ("told" : Str) = some (.ref b) := by
  unfold flds
  rw [lookup_putF, if_pos rfl]
/-- what a Shortener may be made of -/
structure Rec.fit (r : Rec) : Prop where
  l : 0 ≤ r.l ∧ r.l ≤ 40
  h : 0 ≤ r.h ∧ r.h ≤ 40
  t : 0 ≤ r.t ∧ r.t ≤ 40
  z : isTxt r.z 3 = true
theorem isTxt_len {z : Str} {m : Int} (h : isTxt z m = true) : (z.length : Int) ≤ m := by
  unfold isTxt at h
  rw [Bool.and_eq_true] at h
  exact of_decide_eq_true h.1
theorem Rec.ok.fit {r : Rec} (o : r.ok) : r.fit := by
  have a : ∀ y ∈ marks, isTxt y 3 = true := by decide +kernel
  exact ⟨⟨o.l0, o.l1⟩, ⟨o.h0, o.h1⟩, ⟨o.t0, o.t1⟩, a _ o.z⟩
/-- the class as the top has left it -/
structure ShC (K : PySem.W.Frag) (mg : Str → Option Value) (C : Addr) : Prop where
  cl : Cls K C
  nL : NoAttr K C "limit"
  nH : NoAttr K C "head"
  nT : NoAttr K C "tail"
  nM : NoAttr K C "mark"
  nD : NoAttr K C "told"
  g : mg "Shortener" = some (.ref C)
  ha : PySem.W.findIn K (.ref C) "__class__" = some (some (.builtin "object.__class__"))
  hn : PySem.W.specialIn K (.builtin "object.__class__") "__get__" = some (some (.builtin "getset_descriptor.__get__"))
  ht : PySem.W.takesIn K (.builtin "object.__class__") = some true
  hm : PySem.W.mroIn K C (.type "object") = some true
  kk : PySem.W.kitOne K (.ref C) (.ref C) = some true
structure InitAt (K : PySem.W.Frag) (C : Addr) : Prop where
  ex : ∃ (f : Addr) (fd : FuncData), Mk K C f ∧ Fun K "__init__" "Shortener.__init__" s_Shortener_init f fd ∧ Binds K fd ps_Shortener_init []
structure Mak (P : Program) (w : World) (K : PySem.W.Frag) (mg : Str → Option Value) (base : Heap) (k : Nat) (x : Str) (C : Addr) (sp : Sp) : Prop where
  ex : ∃ (f : Addr) (fd : FuncData) (ps : List Str), Mk K C f ∧ FnOk P w K mg base CX0 k f fd ps sp ∧ mg x = some (.ref C) ∧ Binds K fd ps []
section
variable {X : Cx} {k j : Nat} {x : Str} {C : Addr} {sp : Sp} {p pos : Pos} {e : Expr} {es : List Expr} {t : TA}
theorem pe_new (c : Mak X.prog X.w X.K X.mg X.base k x C sp) (hr : Room j X.A) (hk : k + 1 ≤ j) (hg : Gl X x) (ha : PA X (e :: es) t)
    (hdb : (x == ("__debug__" : Str)) = false := by decide) (he : starEach (e :: es) X.env = (false, eval e X.env) :: starEach es X.env := by rfl) (hpl : (backTo pos (starEach es X.env)).any (·.1) = false := by rfl) :
    PE X (.Call (.Name x p) (e :: es) [] pos) (tMake C sp [] E0 t) := by
  obtain ⟨f, fd, ps, M, F, hm, b⟩ := c.ex
  exact pe_make M F (hr.mono hk) hg hm b .nil pass0 ha hdb he hpl
end
section
variable {P : Program} {w : World} {K : PySem.W.Frag} {mg : Str → Option Value} {base : Heap} {C : Addr}
def spCheckMark : Sp := fun vs H Q _ => ∃ (z : Str), vs = [.str z] ∧ isTxt z 3 = true ∧ ∀ G, Same H G → Q .non G
theorem cal_checkMark (B : Bi mg) (D : At K mg "check_mark" s_check_mark ps_check_mark) (C_is_text : Cal P w K mg base 1 "is_text" ps_is_text (spIsText K)) : Cal P w K mg base 2 "check_mark" ps_check_mark spCheckMark := by
  refine D.cal sc_check_mark (fun vs H Q E h => ?_) (fun f cdv A outer s H vs Q E hr h => ?_)
  · obtain ⟨z, rfl, _⟩ := h
    rfl
  · obtain ⟨z, rfl, hz, k⟩ := h
    have zl := isTxt_len hz
    refine ⟨_, (pss_one (ps_if (pt_not (pt_val (pe_own C_is_text hr (by decide) (by rfl) (pa_cons (pv 0) (pa_cons (pe_cst B.MOST_MARK (by rfl)) pa_nil))))) pss_never pss_nil)), ?_⟩
    refine ⟨_, rfl, _, _, rfl, .inl ⟨z, rfl, by omega, fun G sG => ⟨_, rfl, ?_⟩⟩⟩
    rw [hz]
    exact iteF (k G sG)
def spInit (C : Addr) : Sp := fun vs H Q _ => ∃ (x dx : Addr) (r : Rec), vs = [.ref x, .int r.l, .int r.h, .int r.t, .str r.z] ∧ H x = some (.ins C dx []) ∧ r.fit ∧
  ∀ (b : Addr) (G : Hp), H b = none → G x = some (.ins C dx (flds r b)) → G b = some (.tup r.vs) → (∀ c o, H c = some o → c ≠ x → G c = some o) → Q .non G
theorem ok_init {f : Addr} {fd : FuncData} (B : Bi mg) (S : ShC K mg C) (F : Fun K "__init__" "Shortener.__init__" s_Shortener_init f fd) (C_is_integer : Cal P w K mg base 1 "is_integer" ps_is_integer (spIsInteger K)) (C_check_mark : Cal P w K mg base 2 "check_mark" ps_check_mark spCheckMark) : FnOk P w K mg base CX0 3 f fd ps_Shortener_init (spInit C) := by
  refine F.ok sc_Shortener_init (fun vs H Q E h => ?_) (fun cdv A outer s H vs Q E hr h => ?_)
  · obtain ⟨x, dx, r, rfl, _⟩ := h
    rfl
  · obtain ⟨x, dx, r, rfl, hx, fit, k⟩ := h
    refine ⟨_, (pss_cons (ps_for PassesOwn.never rfl (pi_tup (pe_tup (pa_cons (pv 1) (pa_cons (pv 2) (pa_cons (pv 3) pa_nil))))) (pg_name (i := 5) sc_Shortener_init.nd rfl (.inl rfl))
      (pss_one (ps_if (pt_not (pt_val (pe_own C_is_integer hr (by decide) (by rfl) (pa_cons (pv 5) (pa_cons pe_int (pa_cons (pe_cst B.MOST_SIGNS (by rfl)) pa_nil)))))) pss_never pss_nil)))
      (pss_cons (ps_expr (pe_own C_check_mark hr (by decide) (by rfl) (pa_cons (pv 4) pa_nil)))
      (pss_cons (ps_fld (pv 0) (pv 1) rfl)
      (pss_cons (ps_fld (pv 0) (pv 2) rfl)
      (pss_cons (ps_fld (pv 0) (pv 3) rfl)
      (pss_cons (ps_fld (pv 0) (pv 4) rfl)
      (pss_one (ps_fld (pv 0) (pe_tup (pa_cons (pv 1) (pa_cons (pv 2) (pa_cons (pv 3) (pa_cons (pv 4) pa_nil))))) rfl)))))))), ?_⟩
    refine ⟨_, rfl, _, rfl, _, rfl, by show 3 ≤ sizeLine; decide, fun T nT => ?_⟩
    have nxT : x ≠ T := ne_of_none hx nT
    have hxT : upd H T (.tup [.int r.l, .int r.h, .int r.t]) x = some (.ins C dx []) := by rw [upd_ne nxT]; exact hx
    refine ⟨T, rfl, ⟨_, .inl (.inl upd_same)⟩, for_tup (K := K) (a := T) (xs := [.int r.l, .int r.h, .int r.t]) (fun i σ J => ∃ u, σ = [some (.ref x), some (.int r.l), some (.int r.h), some (.int r.t), some (.str r.z), u] ∧ J = upd H T (.tup [.int r.l, .int r.h, .int r.t]))
      ⟨none, rfl, rfl⟩ (fun i σ J _ ⟨_, _, e⟩ => by rw [e]; exact .inl (.inl upd_same)) ?_ ?_⟩
    · rintro i v σ J hi ⟨u, rfl, rfl⟩
      obtain ⟨n, n0, n1, rfl⟩ : ∃ n : Int, 0 ≤ n ∧ n ≤ 40 ∧ v = .int n := by
        have hv := List.mem_of_getElem? hi
        simp only [List.mem_cons, List.not_mem_nil, or_false] at hv
        rcases hv with rfl | rfl | rfl
        · exact ⟨_, fit.l.1, fit.l.2, rfl⟩
        · exact ⟨_, fit.h.1, fit.h.2, rfl⟩
        · exact ⟨_, fit.t.1, fit.t.2, rfl⟩
      refine ⟨_, rfl, _, _, _, rfl, .inl ⟨_, rfl, _, rfl, ?_⟩⟩
      rw [decide_eq_true ⟨n0, n1⟩]
      exact iteF ⟨_, rfl, rfl⟩
    · rintro σ J ⟨u, rfl, rfl⟩
      refine ⟨_, rfl, _, rfl, fit.z, fun G sG => ?_⟩
      have g0 : G x = some (.ins C dx []) := sG _ _ hxT
      refine ⟨_, rfl, _, rfl, x, C, dx, [], rfl, g0, S.cl, S.nL, by decide, ?_⟩
      refine ⟨_, rfl, _, rfl, x, C, dx, _, rfl, upd_same, S.cl, S.nH, by exact Nat.lt_of_le_of_lt (length_putF _ _ _) (by decide), ?_⟩
      rw [upd_upd]
      refine ⟨_, rfl, _, rfl, x, C, dx, _, rfl, upd_same, S.cl, S.nT, by exact Nat.lt_of_le_of_lt (length_putF _ _ _) (Nat.lt_of_le_of_lt (Nat.succ_le_succ (length_putF _ _ _)) (by decide)), ?_⟩
      rw [upd_upd]
      refine ⟨_, rfl, _, rfl, x, C, dx, _, rfl, upd_same, S.cl, S.nM, by exact Nat.lt_of_le_of_lt (length_putF _ _ _) (Nat.lt_of_le_of_lt (Nat.succ_le_succ (Nat.le_trans (length_putF _ _ _) (Nat.succ_le_succ (length_putF _ _ _)))) (by decide)), ?_⟩
      rw [upd_upd]
      refine ⟨_, rfl, _, rfl, _, rfl, _, rfl, by show 4 ≤ sizeLine; decide, fun b nb => ?_⟩
      have nxb : x ≠ b := ne_of_none upd_same nb
      refine ⟨_, rfl, x, C, dx, _, rfl, (by rw [upd_ne nxb, upd_same]), S.cl, S.nD, by exact Nat.lt_of_le_of_lt (length_putF _ _ _) (Nat.lt_of_le_of_lt (Nat.succ_le_succ (Nat.le_trans (length_putF _ _ _) (Nat.succ_le_succ (Nat.le_trans (length_putF _ _ _) (Nat.succ_le_succ (length_putF _ _ _)))))) (by decide)), ?_⟩
      have nb1 : G b = none := by rw [upd_ne nxb.symm] at nb; exact nb
      have nb0 : H b = none := (same_new nT).free (sG.free nb1)
      refine k b _ nb0 upd_same (by rw [upd_ne nxb.symm, upd_same]; rfl) fun c o e nc => ?_
      rw [upd_ne nc, upd_ne (ne_of_none e nb0), upd_ne nc]
      exact sG _ _ (same_new nT _ _ e)
theorem mak_sh (B : Bi mg) (S : ShC K mg C) (D : InitAt K C) (C_is_integer : Cal P w K mg base 1 "is_integer" ps_is_integer (spIsInteger K)) (C_check_mark : Cal P w K mg base 2 "check_mark" ps_check_mark spCheckMark) : Mak P w K mg base 3 "Shortener" C (spInit C) := by
  obtain ⟨f, fd, M, F, b⟩ := D.ex
  exact ⟨f, fd, ps_Shortener_init, M, ok_init B S F C_is_integer C_check_mark, S.g, b⟩
end
end Gu
namespace Gu
open PySem PySem.Spec PyProof.Rows L2
/-! ### what is cut, as lists -/
def cut {α : Type} (l h t : Nat) (m xs : List α) : List α := if xs.length ≤ l then xs else xs.take h ++ m ++ xs.drop (xs.length - t)
theorem cut_front {α : Type} (xs : List α) {h : Int} (h0 : 0 ≤ h) : (xs.drop (HT.sIx xs.length 0 none)).take (HT.sIx xs.length xs.length (some h) - HT.sIx xs.length 0 none) = xs.take h.toNat := by
  obtain ⟨k, rfl⟩ := Int.eq_ofNat_of_zero_le h0
  rw [HT.sIx_none, HT.sIx_nat, List.drop_zero, Nat.sub_zero, Int.toNat_natCast, List.take_eq_take_iff]
  omega
theorem cut_back {α : Type} (xs : List α) {h : Int} (h0 : 0 ≤ h) : (xs.drop (HT.sIx xs.length 0 (some h))).take (HT.sIx xs.length xs.length none - HT.sIx xs.length 0 (some h)) = xs.drop h.toNat := by
  obtain ⟨k, rfl⟩ := Int.eq_ofNat_of_zero_le h0
  rw [HT.sIx_none, HT.sIx_nat, Int.toNat_natCast]
  rw [List.take_of_length_le (by rw [List.length_drop]; omega)]
  by_cases e : k ≤ xs.length
  · rw [Nat.min_eq_left e]
  · rw [Nat.min_eq_right (by omega), List.drop_length, List.drop_eq_nil_of_le (by omega)]
theorem cut_length {α : Type} {l h t : Nat} {m xs : List α} : (cut l h t m xs).length ≤ max xs.length (h + m.length + t) := by
  unfold cut
  split
  · omega
  · rw [List.length_append, List.length_append, List.length_take, List.length_drop]
    omega
theorem app_cps (a b : Str) : (a ++ b).cps.toList = a.cps.toList ++ b.cps.toList := by
  show (a.cps ++ b.cps).toList = _
  rw [Array.toList_append]
def Rec.cut (r : Rec) (xs : List Nat) : List Nat := Gu.cut r.l.toNat r.h.toNat r.t.toNat r.z.cps.toList xs
def cuts (rs : List Rec) (xs : List Nat) : List Nat := rs.foldl (fun acc r => r.cut acc) xs
theorem Rec.fit.zl {r : Rec} (f : r.fit) : r.z.cps.toList.length ≤ 3 := by
  have h := isTxt_len f.z
  have e : r.z.length = r.z.cps.toList.length := rfl
  omega
theorem Rec.fit.cut_len {r : Rec} (f : r.fit) {xs : List Nat} (h : xs.length ≤ 200) : (r.cut xs).length ≤ 200 := by
  have a : (r.cut xs).length ≤ _ := cut_length
  have b := f.zl
  have c := f.h
  have d := f.t
  omega
/-! ### shorteners and rows in the heap -/
def ShAt (C : Addr) (H : Hp) (x : Addr) (r : Rec) : Prop := ∃ dx b, H x = some (.ins C dx (flds r b)) ∧ H b = some (.tup r.vs)
structure RowAt (C : Addr) (H : Hp) (a : Addr) (rs : List (Addr × Rec)) : Prop where
  tp : H a = some (.tup (rs.map fun q => V.ref q.1))
  sh : ∀ q ∈ rs, ShAt C H q.1 q.2 ∧ q.2.fit
theorem ShAt.same {C : Addr} {H G : Hp} {x : Addr} {r : Rec} (s : Same H G) (h : ShAt C H x r) : ShAt C G x r := by
  obtain ⟨dx, b, h1, h2⟩ := h
  exact ⟨dx, b, s _ _ h1, s _ _ h2⟩
theorem RowAt.same {C : Addr} {H G : Hp} {a : Addr} {rs : List (Addr × Rec)} (s : Same H G) (h : RowAt C H a rs) : RowAt C G a rs := ⟨s _ _ h.tp, fun q hq => ⟨(h.sh q hq).1.same s, (h.sh q hq).2⟩⟩
section
variable {P : Program} {w : World} {K : PySem.W.Frag} {mg : Str → Option Value} {base : Heap} {C : Addr}
/-! ### check_row, check_text -/
def spCheckRow (C : Addr) : Sp := fun vs H Q _ => ∃ (a : Addr) (rs : List (Addr × Rec)), vs = [.ref a] ∧ RowAt C H a rs ∧ 1 ≤ rs.length ∧ rs.length ≤ 4 ∧ ∀ G, Same H G → Q .non G
theorem cal_checkRow (B : Bi mg) (S : ShC K mg C) (D : At K mg "check_row" s_check_row ps_check_row) (C_is_tuple : Cal P w K mg base 1 "is_tuple" ps_is_tuple (spIsTuple K)) : Cal P w K mg base 2 "check_row" ps_check_row (spCheckRow C) := by
  refine D.cal sc_check_row (fun vs H Q E h => ?_) (fun f cdv A outer s H vs Q E hr h => ?_)
  · obtain ⟨a, rs, rfl, _⟩ := h
    rfl
  · obtain ⟨a, rs, rfl, hR, l1, l4, k⟩ := h
    refine ⟨_, (pss_cons (ps_if (pt_not (pt_val (pe_own C_is_tuple hr (by decide) (by rfl) (pa_cons (pv 0) (pa_cons pe_int (pa_cons (pe_cst B.MOST_ROW (by rfl)) pa_nil)))))) pss_never pss_nil)
      (pss_one (ps_for PassesOwn.never rfl (pi_enT (by rfl) B.enumerate (pa_cons (pv 0) pa_nil)) (pg_tup rfl (pgs_cons (pg_name (i := 1) sc_check_row.nd rfl (.inl rfl)) (pgs_cons (pg_name (i := 2) sc_check_row.nd rfl (.inl rfl)) pgs_nil)))
      (pss_one (ps_if (pt_not (pt_val (pe_callB call_isi (by rfl) B.isinstance (by decide +kernel) (pa_cons (pv 2) (pa_cons (pe_glob (v := .ref C) (by rfl) S.g rfl) pa_nil))))) pss_never pss_nil))))), ?_⟩
    refine ⟨_, rfl, _, _, _, rfl, .inl ⟨a, _, rfl, .inl (.inl hR.tp), _, rfl, ?_⟩⟩
    rw [decide_eq_true (show (1 : Int) ≤ ((rs.map fun q => V.ref q.1).length : Int) ∧ ((rs.map fun q => V.ref q.1).length : Int) ≤ 4 by rw [List.length_map]; omega)]
    refine iteF ⟨_, rfl, a, _, rfl, .inl (.inl hR.tp), for_it walk_enT (fun i σ J => ∃ u v, σ = [some (.ref a), u, v] ∧ Same H J) ⟨none, none, rfl, Same.refl H⟩ (fun i σ J _ ⟨_, _, _, sJ⟩ => .inl (.inl (sJ _ _ hR.tp))) ?_ ?_⟩
    · rintro i v σ J J1 hi ⟨u, v2, rfl, sJ⟩ ⟨T, x, hx, rfl, nT, rfl⟩
      obtain ⟨q, hq, rfl⟩ : ∃ q ∈ rs, x = .ref q.1 := by
        obtain ⟨q, h1, h2⟩ := List.mem_map.mp (List.mem_of_getElem? hx)
        exact ⟨q, h1, h2.symm⟩
      have sT : Same H (upd J T (.tup [.int (i : Nat), .ref q.1])) := sJ.trans (same_new nT)
      obtain ⟨dx, b, e1, _⟩ := ((hR.sh q hq).1).same sT
      refine ⟨T, _, rfl, .inl (.inl upd_same), rfl, _, _, rfl, _, _, rfl, rfl, ?_⟩
      refine ⟨_, rfl, _, _, _, _, true, rfl, .own C, .base (.ins e1 S.cl S.ha S.hn S.ht S.hm), S.kk, _, rfl, iteF ⟨_, _, rfl, sT⟩⟩
    · rintro σ J ⟨u, v, rfl, sJ⟩
      exact k J sJ
def spCheckText : Sp := fun vs H Q _ => ∃ (z : Str), vs = [.str z] ∧ isTxt z 200 = true ∧ ∀ G, Same H G → Q .non G
theorem cal_checkText (B : Bi mg) (D : At K mg "check_text" s_check_text ps_check_text) (C_is_text : Cal P w K mg base 1 "is_text" ps_is_text (spIsText K)) : Cal P w K mg base 2 "check_text" ps_check_text spCheckText := by
  refine D.cal sc_check_text (fun vs H Q E h => ?_) (fun f cdv A outer s H vs Q E hr h => ?_)
  · obtain ⟨z, rfl, _⟩ := h
    rfl
  · obtain ⟨z, rfl, hz, k⟩ := h
    have zl := isTxt_len hz
    refine ⟨_, (pss_one (ps_if (pt_not (pt_val (pe_own C_is_text hr (by decide) (by rfl) (pa_cons (pv 0) (pa_cons (pe_cst B.MOST_TEXT (by rfl)) pa_nil))))) pss_never pss_nil)), ?_⟩
    refine ⟨_, rfl, _, _, rfl, .inl ⟨z, rfl, by omega, fun G sG => ⟨_, rfl, ?_⟩⟩⟩
    rw [hz]
    exact iteF (k G sG)
/-! ### shortened: of a text -/
def spShortS (C : Addr) : Sp := fun vs H Q _ => ∃ (x : Addr) (r : Rec) (z : Str), vs = [.ref x, .str z, .str r.z] ∧ ShAt C H x r ∧ r.fit ∧ z.length ≤ 1000 ∧ ∀ y : Str, y.cps.toList = r.cut z.cps.toList → Q (.str y) H
theorem cal_shortS (B : Bi mg) (S : ShC K mg C) (D : At K mg "shortened" s_shortened ps_shortened) : Cal P w K mg base 1 "shortened" ps_shortened (spShortS C) := by
  refine D.cal sc_shortened (fun vs H Q E h => ?_) (fun f cdv A outer s H vs Q E hr h => ?_)
  · obtain ⟨x, r, z, rfl, _⟩ := h
    rfl
  · obtain ⟨x, r, z, rfl, ⟨dx, b, hx, _⟩, fit, zl, k⟩ := h
    have ez : z.length = z.cps.toList.length := rfl
    have zs : z.length ≤ sizeLine := Nat.le_of_lt (small1000 zl)
    have f1 := fit.l
    have f2 := fit.h
    have f3 := fit.t
    have f4 := fit.zl
    refine ⟨_, (pss_cons (ps_if (pt_cmpR op_le (pe_callB call_len (by rfl) B.len (by decide +kernel) (pa_cons (pv 1) pa_nil)) (pe_fld (pv 0) rfl) (nomark _)) (pss_one (ps_ret (pv 1))) pss_nil)
      (pss_cons (ps_set (i := 3) sc_shortened.nd rfl (.inl rfl) (pe_callB (call_max2 rfl) (by rfl) B.max (by decide +kernel) (pa_cons pe_int (pa_cons (pe_op op_sub (pe_callB call_len (by rfl) B.len (by decide +kernel) (pa_cons (pv 1) pa_nil)) (pe_fld (pv 0) rfl)) pa_nil))))
      (pss_one (ps_ret (pe_op op_add_str (pe_op op_add_str (pe_slice sl_str (pv 1) po_none (po_some (pe_fld (pv 0) rfl))) (pv 2)) (pe_slice sl_str (pv 1) (po_some (pv 3)) po_none)))))), ?_⟩
    refine ⟨_, rfl, _, _, rfl, ⟨zs, rfl⟩, _, rfl, x, C, dx, _, _, rfl, hx, S.cl, S.nL, flds_limit _ _, _, _, rfl, rfl, _, rfl, ite2 (fun e => ?_) (fun e => ?_)⟩
    · have e1 := of_decide_eq_true e
      refine ⟨_, rfl, k z ?_⟩
      unfold Rec.cut cut
      rw [if_pos (by omega)]
    · have e1 : ¬ (z.length : Int) ≤ r.l := fun h => e (decide_eq_true h)
      refine ⟨_, rfl, _, _, rfl, ⟨zs, rfl⟩, _, rfl, x, C, dx, _, _, rfl, hx, S.cl, S.nT, flds_tail _ _, _, _, rfl, rfl, _, _, rfl, ?_⟩
      refine ⟨_, rfl, _, rfl, x, C, dx, _, _, rfl, hx, S.cl, S.nH, flds_head _ _, _, rfl, z, rfl, zs, _, rfl, _, _, rfl, rfl, ?_, _, rfl, _, rfl, _, rfl, z, rfl, zs, _, _, rfl, rfl, ?_, k _ ?_⟩
      · have a := cutS_length z none (some r.h)
        have b : r.z.length = r.z.cps.toList.length := rfl
        exact Nat.le_of_lt (Nat.lt_of_le_of_lt (show _ ≤ 2000 by omega) (by decide))
      · have a := cutS_length z none (some r.h)
        have b : r.z.length = r.z.cps.toList.length := rfl
        have c := cutS_length z (some (if (z.length : Int) - r.t > 0 then (z.length : Int) - r.t else 0)) none
        have d : (cutS z none (some r.h) ++ r.z).length = (cutS z none (some r.h)).length + r.z.length := by
          show (cutS z none (some r.h) ++ r.z).cps.toList.length = _
          rw [app_cps, List.length_append]
          rfl
        exact Nat.le_of_lt (Nat.lt_of_le_of_lt (show _ ≤ 4000 by omega) (by decide))
      · rw [app_cps, app_cps]
        have a : (cutS z none (some r.h)).cps.toList = z.cps.toList.take r.h.toNat := by
          show ((z.cps.toList.drop _).take _).toArray.toList = _
          rw [List.toList_toArray]
          exact cut_front z.cps.toList f2.1
        have c : (cutS z (some (if (z.length : Int) - r.t > 0 then (z.length : Int) - r.t else 0)) none).cps.toList = z.cps.toList.drop (z.cps.toList.length - r.t.toNat) := by
          show ((z.cps.toList.drop _).take _).toArray.toList = _
          rw [List.toList_toArray]
          have q := cut_back z.cps.toList (h := if (z.length : Int) - r.t > 0 then (z.length : Int) - r.t else 0) (by split <;> omega)
          have n : (if (z.length : Int) - r.t > 0 then (z.length : Int) - r.t else 0).toNat = z.cps.toList.length - r.t.toNat := by split <;> omega
          rw [n] at q
          exact q
        rw [a, c]
        unfold Rec.cut cut
        rw [if_neg (show ¬ z.cps.toList.length ≤ r.l.toNat by omega)]
/-! ### shown_by, show -/
theorem Rec.fit.cut_lenW {r : Rec} (f : r.fit) {xs : List Nat} (h : xs.length ≤ 600) : (r.cut xs).length ≤ 600 := by
  have a : (r.cut xs).length ≤ _ := cut_length
  have b := f.zl
  have c := f.h
  have d := f.t
  omega
def spShownBy (C : Addr) : Sp := fun vs H Q _ => ∃ (a : Addr) (rs : List (Addr × Rec)) (z : Str), vs = [.ref a, .str z] ∧ RowAt C H a rs ∧ z.cps.toList.length ≤ 600 ∧ ∀ (y : Str), y.cps.toList = cuts (rs.map (·.2)) z.cps.toList → Q (.str y) H
theorem cal_shownBy (B : Bi mg) (S : ShC K mg C) (D : At K mg "shown_by" s_shown_by ps_shown_by) (C_shortened : Cal P w K mg base 1 "shortened" ps_shortened (spShortS C)) : Cal P w K mg base 2 "shown_by" ps_shown_by (spShownBy C) := by
  refine D.cal sc_shown_by (fun vs H Q E h => ?_) (fun f cdv A outer s H vs Q E hr h => ?_)
  · obtain ⟨a, rs, z, rfl, _⟩ := h
    rfl
  · obtain ⟨a, rs, z, rfl, R2, zl, k⟩ := h
    refine ⟨_, (pss_cons (ps_set (i := 2) sc_shown_by.nd rfl (.inl rfl) (pv 1))
      (pss_cons (ps_for PassesOwn.never rfl (pi_tup (pv 0)) (pg_name (i := 3) sc_shown_by.nd rfl (.inl rfl))
      (pss_one (ps_set (i := 2) sc_shown_by.nd rfl (.inl rfl) (pe_own C_shortened hr (by decide) (by rfl) (pa_cons (pv 3) (pa_cons (pv 2) (pa_cons (pe_fld (pv 3) rfl) pa_nil)))))))
      (pss_one (ps_ret (pv 2))))), ?_⟩
    refine ⟨_, rfl, _, rfl, a, rfl, ⟨_, .inl (.inl R2.tp)⟩, for_tup (K := K) (a := a) (xs := rs.map fun q => V.ref q.1) (fun i σ J => ∃ (y : Str) (u : Option V), σ = [some (.ref a), some (.str z), some (.str y), u] ∧ J = H ∧ y.cps.toList = cuts ((rs.take i).map (·.2)) z.cps.toList ∧ y.cps.toList.length ≤ 600)
      ⟨z, none, rfl, rfl, rfl, zl⟩ (fun i σ J _ ⟨_, _, _, e, _⟩ => by rw [e]; exact .inl (.inl R2.tp)) ?_ ?_⟩
    · rintro i v σ J hi ⟨y, u, rfl, rfl, ey, ly⟩
      rw [List.getElem?_map] at hi
      cases hq : rs[i]? with
      | none =>
        rw [hq] at hi
        cases hi
      | some q =>
        rw [hq] at hi
        cases hi
        have mq : q ∈ rs := List.mem_of_getElem? hq
        obtain ⟨sq, fq⟩ := R2.sh q mq
        obtain ⟨dx, b, e1, e2⟩ := id sq
        have lz : y.length = y.cps.toList.length := rfl
        refine ⟨_, rfl, _, rfl, _, rfl, q.1, C, dx, _, _, rfl, e1, S.cl, S.nM, flds_mark _ _, q.1, q.2, y, rfl, sq, fq, by omega, fun y2 h2 => ⟨y2, _, rfl, rfl, ?_, ?_⟩⟩
        · rw [h2, ey, List.take_add_one, hq]
          unfold cuts
          rw [List.map_append, List.foldl_append]
          rfl
        · rw [h2]
          exact fq.cut_lenW ly
    · rintro σ J ⟨y, u, rfl, rfl, ey, ly⟩
      rw [List.length_map, List.take_length] at ey
      exact ⟨_, rfl, k y ey⟩
def spShow (C : Addr) : Sp := fun vs H Q _ => ∃ (a : Addr) (rs : List (Addr × Rec)) (z : Str), vs = [.ref a, .str z] ∧ RowAt C H a rs ∧ 1 ≤ rs.length ∧ rs.length ≤ 4 ∧ isTxt z 200 = true ∧ ∀ (y : Str) (G : Hp), Same H G → y.cps.toList = cuts (rs.map (·.2)) z.cps.toList → Q (.str y) G
theorem cal_show (B : Bi mg) (D : At K mg "show" s_show ps_show) (C_check_row : Cal P w K mg base 2 "check_row" ps_check_row (spCheckRow C)) (C_check_text : Cal P w K mg base 2 "check_text" ps_check_text spCheckText) (C_shown_by : Cal P w K mg base 2 "shown_by" ps_shown_by (spShownBy C)) : Cal P w K mg base 3 "show" ps_show (spShow C) := by
  refine D.cal sc_show (fun vs H Q E h => ?_) (fun f cdv A outer s H vs Q E hr h => ?_)
  · obtain ⟨a, rs, z, rfl, _⟩ := h
    rfl
  · obtain ⟨a, rs, z, rfl, hR, l1, l4, hz, k⟩ := h
    have zl := isTxt_len hz
    have ez : z.length = z.cps.toList.length := rfl
    refine ⟨_, (pss_cons (ps_expr (pe_own C_check_row hr (by decide) (by rfl) (pa_cons (pv 0) pa_nil)))
      (pss_cons (ps_expr (pe_own C_check_text hr (by decide) (by rfl) (pa_cons (pv 1) pa_nil)))
      (pss_one (ps_ret (pe_own C_shown_by hr (by decide) (by rfl) (pa_cons (pv 0) (pa_cons (pv 1) pa_nil))))))), ?_⟩
    refine ⟨_, rfl, a, rs, rfl, hR, l1, l4, fun G1 s1 => ⟨_, rfl, z, rfl, hz, fun G2 s2 => ?_⟩⟩
    have s12 : Same H G2 := s1.trans s2
    exact ⟨_, rfl, _, rfl, a, rs, z, rfl, hR.same s12, by omega, fun y ey => k y G2 s12 ey⟩
end
end Gu
namespace Gu
open PySem PySem.Spec PyProof.Rows L2
/-! ### the class Namer, its __init__ -/
def nflds (so : Str) (w : Int) : List (Str × V) := putF "width" (.int w) (putF "rule" (.str so) [])
theorem nflds_rule (so : Str) (w : Int) : (nflds so w).lookup ("rule" : Str) = some (.str so) := by
  unfold nflds
  rw [lookup_putF, if_neg (by decide +kernel), lookup_putF, if_pos rfl]
theorem nflds_width (so : Str) (w : Int) : (nflds so w).lookup ("width" : Str) = some (.int w) := by
  unfold nflds
  rw [lookup_putF, if_pos rfl]
/-- what stands at a namer -/
def NmAt (C : Addr) (H : Hp) (x : Addr) (so : Str) (w : Int) : Prop := ∃ dx, H x = some (.ins C dx (nflds so w))
theorem NmAt.same {C : Addr} {H G : Hp} {x : Addr} {so : Str} {w : Int} (s : Same H G) (h : NmAt C H x so w) : NmAt C G x so w := by
  obtain ⟨dx, e⟩ := h
  exact ⟨dx, s _ _ e⟩
structure NmC (K : PySem.W.Frag) (mg : Str → Option Value) (C : Addr) : Prop where
  cl : Cls K C
  nR : NoAttr K C "rule"
  nW : NoAttr K C "width"
  g : mg "Namer" = some (.ref C)
  ha : PySem.W.findIn K (.ref C) "__class__" = some (some (.builtin "object.__class__"))
  hn : PySem.W.specialIn K (.builtin "object.__class__") "__get__" = some (some (.builtin "getset_descriptor.__get__"))
  ht : PySem.W.takesIn K (.builtin "object.__class__") = some true
  hm : PySem.W.mroIn K C (.type "object") = some true
  kk : PySem.W.kitOne K (.ref C) (.ref C) = some true
  rules : ∃ T, mg "RULES" = some (.ref T) ∧ ∀ H : Hp, SqT K H T (sorts.map V.str)
structure NInitAt (K : PySem.W.Frag) (C : Addr) : Prop where
  ex : ∃ (f : Addr) (fd : FuncData), Mk K C f ∧ Fun K "__init__" "Namer.__init__" s_Namer_init f fd ∧ Binds K fd ps_Namer_init []
section
variable {P : Program} {w : World} {K : PySem.W.Frag} {mg : Str → Option Value} {base : Heap} {C : Addr}
theorem ok_ninit {f : Addr} {fd : FuncData} (B : Bi mg) (S : NmC K mg C) (F : Fun K "__init__" "Namer.__init__" s_Namer_init f fd) (C_is_integer : Cal P w K mg base 1 "is_integer" ps_is_integer (spIsInteger K)) : FnOk P w K mg base CX0 2 f fd ps_Namer_init (spNInit C (NmAt C)) := by
  refine F.ok sc_Namer_init (fun vs H Q E h => ?_) (fun cdv A outer s H vs Q E hr h => ?_)
  · obtain ⟨x, dx, so, w, rfl, _⟩ := h
    rfl
  · obtain ⟨x, dx, so, w, rfl, hx, hso, w0, w1, k⟩ := h
    obtain ⟨T, gT, hT⟩ := S.rules
    refine ⟨_, (pss_cons (ps_if (PW.pt (pw_or (pt_not (pt_val (pe_callB call_isi (by rfl) B.isinstance (by decide +kernel) (pa_cons (pv 1) (pa_cons (pe_bltn (v := .ty "str") (by rfl) B.str (by decide +kernel) rfl) pa_nil))))) (pw_or1 (pt_cmpR op_notIn_seq (pv 1) (pe_glob (v := .ref T) (by rfl) gT rfl) (by rfl))))) pss_never pss_nil)
      (pss_cons (ps_if (pt_not (pt_val (pe_own C_is_integer hr (by decide) (by rfl) (pa_cons (pv 2) (pa_cons (pe_cst B.LEAST_WIDTH (by rfl)) (pa_cons (pe_cst B.MOST_SIGNS (by rfl)) pa_nil)))))) pss_never pss_nil)
      (pss_cons (ps_fld (pv 0) (pv 1) rfl)
      (pss_one (ps_fld (pv 0) (pv 2) rfl))))), ?_⟩
    obtain ⟨t, i1, i2⟩ := Isa.str_str (K := K) (H := H) (z := so)
    refine ⟨_, rfl, _, _, t, _, true, rfl, .ty _, i1, i2, _, rfl, iteF ?_⟩
    refine ⟨_, rfl, T, _, rfl, .inr (hT H), rfl, flat_strs sorts, _, rfl, ?_⟩
    rw [in_strs so sorts, decide_eq_true hso]
    refine iteF ?_
    refine ⟨_, rfl, _, _, _, rfl, .inl ⟨_, rfl, _, rfl, ?_⟩⟩
    rw [decide_eq_true ⟨w0, w1⟩]
    refine iteF ?_
    refine ⟨_, rfl, _, rfl, x, C, dx, [], rfl, hx, S.cl, S.nR, by decide, ?_⟩
    refine ⟨_, rfl, _, rfl, x, C, dx, _, rfl, upd_same, S.cl, S.nW, by exact Nat.lt_of_le_of_lt (length_putF _ _ _) (by decide), ?_⟩
    rw [upd_upd]
    refine k _ ⟨dx, upd_same⟩ fun c o e nc => ?_
    rw [upd_ne nc]
    exact e
theorem mak_nm (B : Bi mg) (S : NmC K mg C) (D : NInitAt K C) (C_is_integer : Cal P w K mg base 1 "is_integer" ps_is_integer (spIsInteger K)) : Mak P w K mg base 2 "Namer" C (spNInit C (NmAt C)) := by
  obtain ⟨f, fd, M, F, b⟩ := D.ex
  exact ⟨f, fd, ps_Namer_init, M, ok_ninit B S F C_is_integer, S.g, b⟩
end
end Gu
namespace Gu
open PySem PySem.Spec PyProof.Rows L2
/-! ### the program: names -/
section
variable {P : Program} {w : World} {K : PySem.W.Frag} {mg : Str → Option Value} {base : Heap} {C : Addr}
/-! texts that are as they should be -/
theorem wd_isTxt {n : Nat} {z : Str} (h : Wd n z) : isTxt z n = true := by
  have e : z.length = z.cps.toList.length := rfl
  have l := h.len
  unfold isTxt
  rw [decide_eq_true (by omega), Bool.true_and, List.all_eq_true]
  exact fun c hc => decide_eq_true (h.sgn c hc)
theorem atP_strs {ts : List Str} {i : Nat} {v : V} (hi : (ts.map V.str)[i]? = some v) : ∃ t, ts[i]? = some t ∧ v = .str t ∧ t ∈ ts := by
  rw [List.getElem?_map] at hi
  cases e : ts[i]? with
  | none =>
    rw [e] at hi
    cases hi
  | some t =>
    rw [e] at hi
    exact ⟨t, rfl, (Option.some.inj hi).symm, List.mem_of_getElem? e⟩
def spCheckTexts (K : PySem.W.Frag) : Sp := fun vs H Q _ => ∃ (l : Addr) (ts : List Str) (m : Int), vs = [.ref l, .int m] ∧ SqT K H l (ts.map V.str) ∧ (ts.length : Int) ≤ m ∧ (∀ t ∈ ts, Wd 200 t) ∧ ∀ G, Same H G → Q .non G
theorem cal_checkTexts (B : Bi mg) (D : At K mg "check_texts" s_check_texts ps_check_texts) (C_is_tuple : Cal P w K mg base 1 "is_tuple" ps_is_tuple (spIsTuple K)) (C_is_text : Cal P w K mg base 1 "is_text" ps_is_text (spIsText K)) : Cal P w K mg base 2 "check_texts" ps_check_texts (spCheckTexts K) := by
  refine D.cal sc_check_texts (fun vs H Q E h => ?_) (fun f cdv A outer s H vs Q E hr h => ?_)
  · obtain ⟨l, ts, m, rfl, _⟩ := h
    rfl
  · obtain ⟨l, ts, m, rfl, hl, tm, wt, k⟩ := h
    refine ⟨_, (pss_cons (ps_if (pt_not (pt_val (pe_own C_is_tuple hr (by decide) (by rfl) (pa_cons (pv 0) (pa_cons pe_int (pa_cons (pv 1) pa_nil)))))) pss_never pss_nil)
      (pss_one (ps_for PassesOwn.never rfl (pi_enT (by rfl) B.enumerate (pa_cons (pv 0) pa_nil)) (pg_tup rfl (pgs_cons (pg_name (i := 2) sc_check_texts.nd rfl (.inl rfl)) (pgs_cons (pg_name (i := 3) sc_check_texts.nd rfl (.inl rfl)) pgs_nil)))
      (pss_one (ps_if (pt_not (pt_val (pe_own C_is_text hr (by decide) (by rfl) (pa_cons (pv 3) (pa_cons (pe_cst B.MOST_TEXT (by rfl)) pa_nil))))) pss_never pss_nil))))), ?_⟩
    refine ⟨_, rfl, _, rfl, _, _, _, rfl, .inl ⟨l, _, rfl, hl, _, rfl, ?_⟩⟩
    rw [decide_eq_true (show (0 : Int) ≤ ((ts.map V.str).length : Int) ∧ ((ts.map V.str).length : Int) ≤ m by rw [List.length_map]; omega)]
    refine iteF ⟨_, rfl, l, _, rfl, hl, for_it walk_enT (fun i σ J => ∃ u v, σ = [some (.ref l), some (.int m), u, v] ∧ Same H J) ⟨none, none, rfl, Same.refl H⟩ (fun i σ J _ ⟨_, _, _, sJ⟩ => st_same sJ hl) ?_ ?_⟩
    · rintro i v σ J J1 hi ⟨u, v2, rfl, sJ⟩ ⟨T, x, hx, rfl, nT, rfl⟩
      obtain ⟨t, ht, rfl, mt⟩ := atP_strs hx
      have sT : Same H (upd J T (.tup [.int (i : Nat), .str t])) := sJ.trans (same_new nT)
      have tl : t.length ≤ 200 := (wt t mt).len
      refine ⟨T, _, rfl, .inl (.inl upd_same), rfl, _, _, rfl, _, _, rfl, rfl, ?_⟩
      refine ⟨_, rfl, _, _, rfl, .inl ⟨t, rfl, by omega, fun G sG => ⟨_, rfl, ?_⟩⟩⟩
      rw [show isTxt t 200 = true from wd_isTxt (wt t mt)]
      exact iteF ⟨_, _, rfl, sT.trans sG⟩
    · rintro σ J ⟨u, v, rfl, sJ⟩
      exact k J sJ
def spCheckNamer (C : Addr) : Sp := fun vs H Q _ => ∃ (x : Addr) (so : Str) (w : Int), vs = [.ref x] ∧ NmAt C H x so w ∧ Q .non H
theorem cal_checkNamer (B : Bi mg) (S : NmC K mg C) (D : At K mg "check_namer" s_check_namer ps_check_namer) : Cal P w K mg base 1 "check_namer" ps_check_namer (spCheckNamer C) := by
  refine D.cal sc_check_namer (fun vs H Q E h => ?_) (fun f cdv A outer s H vs Q E hr h => ?_)
  · obtain ⟨x, so, w, rfl, _⟩ := h
    rfl
  · obtain ⟨x, so, w, rfl, ⟨dx, e1⟩, k⟩ := h
    refine ⟨_, (pss_one (ps_if (pt_not (pt_val (pe_callB call_isi (by rfl) B.isinstance (by decide +kernel) (pa_cons (pv 0) (pa_cons (pe_glob (v := .ref C) (by rfl) S.g rfl) pa_nil))))) pss_never pss_nil)), ?_⟩
    exact ⟨_, rfl, _, _, _, _, true, rfl, .own C, .base (.ins e1 S.cl S.ha S.hn S.ht S.hm), S.kk, _, rfl, iteF k⟩
def spBaseOf (C : Addr) : Sp := fun vs H Q _ => ∃ (x : Addr) (so : Str) (w : Int) (t : Str), vs = [.ref x, .str t] ∧ NmAt C H x so w ∧ t.length ≤ 1000 ∧ Q (.str (nbase w t)) H
theorem cal_baseOf (B : Bi mg) (S : NmC K mg C) (D : At K mg "base_of" s_base_of ps_base_of) : Cal P w K mg base 1 "base_of" ps_base_of (spBaseOf C) := by
  refine D.cal sc_base_of (fun vs H Q E h => ?_) (fun f cdv A outer s H vs Q E hr h => ?_)
  · obtain ⟨x, so, w, t, rfl, _⟩ := h
    rfl
  · obtain ⟨x, so, w, t, rfl, ⟨dx, e1⟩, tl, k⟩ := h
    refine ⟨_, (pss_one (ps_ret (pe_slice sl_str (pv 1) po_none (po_some (pe_fld (pv 0) rfl))))), ?_⟩
    exact ⟨_, rfl, _, rfl, x, C, dx, _, _, rfl, e1, S.cl, S.nW, nflds_width _ _, w, rfl, t, rfl, Nat.le_of_lt (small1000 tl), k⟩
theorem cutS_allP {y : Str} {h : Int} (l : (y.length : Int) ≤ h) : cutS y none (some h) = y := by
  refine str_ext ?_
  have e : y.length = y.cps.toList.length := rfl
  rw [cutS_head y (by omega), List.take_of_length_le (by omega)]
/-- the program's way to cut the base -/
theorem numbered_tight {so : Str} {w : Int} {t : Str} {n : Int} (h : so = ("tight" : String)) : numbered so w t n = cutS (nbase w t) none (some (w - (ending n).length)) ++ ending n := by
  unfold numbered
  rw [decide_eq_true h, Bool.true_and]
  split
  · rfl
  · next e =>
    have e := of_decide_eq_false (Bool.eq_false_iff.mpr e)
    rw [cutS_allP (y := nbase w t) (by omega)]
theorem numbered_other {so : Str} {w : Int} {t : Str} {n : Int} (h : ¬ so = ("tight" : String)) : numbered so w t n = nbase w t ++ ending n := by
  unfold numbered
  rw [decide_eq_false h, Bool.false_and]
  rfl
theorem ending_is (n : Int) : Str.empty ++ (("~" : String) : Str) ++ ((toString n : String) : Str) = ending n := by
  have e : Str.empty ++ (("~" : String) : Str) = (("~" : String) : Str) := by decide +kernel
  rw [e]
  rfl
def spNumP (C : Addr) : Sp := fun vs H Q _ => ∃ (x : Addr) (so : Str) (w n : Int) (t : Str), vs = [.ref x, .str (nbase w t), .int n] ∧ NmAt C H x so w ∧ 0 ≤ n ∧ n < 10 ∧ t.length ≤ 1000 ∧ Q (.str (numbered so w t n)) H
theorem cal_numP (B : Bi mg) (S : NmC K mg C) (D : At K mg "numbered" s_numbered ps_numbered) : Cal P w K mg base 1 "numbered" ps_numbered (spNumP C) := by
  refine D.cal sc_numbered (fun vs H Q E h => ?_) (fun f cdv A outer s H vs Q E hr h => ?_)
  · obtain ⟨x, so, w, n, t, rfl, _⟩ := h
    rfl
  · obtain ⟨x, so, w, n, t, rfl, ⟨dx, e1⟩, n0, n1, tl, k⟩ := h
    have el := ending_len n0 n1
    have bl : (nbase w t).length ≤ t.length := cutS_length t none (some w)
    have s1 : (Str.empty ++ (("~" : String) : Str)).length = 1 := by decide +kernel
    refine ⟨_, (pss_cons (ps_set (i := 3) sc_numbered.nd rfl (.inl rfl) (pe_joined (.cons pe_str (.cons (pe_fmt (pv 2)) .nil))))
      (pss_cons (ps_if (pt_cmpR op_eq (pe_fld (pv 0) rfl) pe_str (nomark _)) (pss_one (ps_ret (pe_op op_add_str (pe_slice sl_str (pv 1) po_none (po_some (pe_op op_sub (pe_fld (pv 0) rfl) (pe_callB call_len (by rfl) B.len (by decide +kernel) (pa_cons (pv 3) pa_nil))))) (pv 3)))) pss_nil)
      (pss_one (ps_ret (pe_op op_add_str (pv 1) (pv 3)))))), ?_⟩
    refine ⟨_, rfl, by rw [s1]; decide, _, rfl, .inr ⟨n, rfl, log_small n0 (by omega), _, rfl, ?_, ?_⟩⟩
    · rw [ending_is]
      exact Nat.le_of_lt (small1000 (by omega))
    rw [ending_is]
    refine ⟨_, rfl, x, C, dx, _, _, rfl, e1, S.cl, S.nR, nflds_rule _ _, rfl, _, rfl, ite2 (fun h1 => ?_) (fun h1 => ?_)⟩
    · rw [str_eq_iff] at h1
      rw [numbered_tight (of_decide_eq_true h1)] at k
      refine ⟨_, rfl, _, rfl, x, C, dx, _, _, rfl, e1, S.cl, S.nW, nflds_width _ _, _, rfl, _, _, rfl, ⟨Nat.le_of_lt (small1000 (by omega)), rfl⟩, _, _, rfl, rfl, _, rfl, _, rfl, Nat.le_of_lt (small1000 (by omega)), _, rfl, _, _, rfl, rfl, ?_, k⟩
      have a := cutS_length (nbase w t) none (some (w - ((ending n).length : Int)))
      exact Nat.le_of_lt (Nat.lt_of_le_of_lt (show _ ≤ 2000 by omega) (by decide))
    · rw [str_eq_iff] at h1
      rw [numbered_other (of_decide_eq_false (Bool.eq_false_iff.mpr h1))] at k
      refine ⟨_, rfl, _, rfl, _, _, rfl, rfl, ?_, k⟩
      exact Nat.le_of_lt (Nat.lt_of_le_of_lt (show _ ≤ 2000 by omega) (by decide))
/-- how many of us have the base of t -/
def alike (w : Int) (t : Str) (us : List Str) : List Str := us.filter fun u => decide (nbase w u = nbase w t)
def countedOf (so : Str) (w : Int) (t : Str) (us : List Str) : Str := if (alike w t us).length = 0 then nbase w t else numbered so w t (((alike w t us).length : Int) + 1)
def spCounted (K : PySem.W.Frag) (C : Addr) : Sp := fun vs H Q _ => ∃ (x l : Addr) (so : Str) (w : Int) (t : Str) (us : List Str), vs = [.ref x, .str (nbase w t), .ref l] ∧ NmAt C H x so w ∧ t.length ≤ 1000 ∧ SqT K H l (us.map V.str) ∧ us.length ≤ 6 ∧ (∀ u ∈ us, Wd 200 u) ∧ ∀ G, Same H G → Q (.str (countedOf so w t us)) G
theorem cal_counted (B : Bi mg) (S : NmC K mg C) (D : At K mg "counted_name" s_counted_name ps_counted_name) (C_base_of : Cal P w K mg base 1 "base_of" ps_base_of (spBaseOf C)) (C_numbered : Cal P w K mg base 1 "numbered" ps_numbered (spNumP C)) : Cal P w K mg base 2 "counted_name" ps_counted_name (spCounted K C) := by
  refine D.cal sc_counted_name (fun vs H Q E h => ?_) (fun f cdv A outer s H vs Q E hr h => ?_)
  · obtain ⟨x, l, so, w, t, us, rfl, _⟩ := h
    rfl
  · obtain ⟨x, l, so, w, t, us, rfl, hN, tl, hl, u6, wu, k⟩ := h
    refine ⟨_, (pss_cons (ps_set (i := 3) sc_counted_name.nd rfl (.inl rfl) (pe_op op_add pe_int (pe_callB call_len (by rfl) B.len (by decide +kernel) (pa_cons (pe_lc (own := [("text", 4)]) (by rfl) sc_counted_name.nd (pi_tup (pv 2)) (blkOk_by (own := [("text", 4)]) (N := ["namer", "base", "texts", "number", "text"]) (sc := defScope s_counted_name) (by decide +kernel)) (fun _ _ _ _ _ => pg_name (i := 4) sc_counted_name.nd rfl (.inl rfl)) (fun _ _ _ _ _ => (pts_one (pt_cmpR op_eq (pe_own C_base_of hr (by decide) (by rfl) (pa_cons (pv 0) (pa_cons (pv 4) pa_nil))) (pv 1) (nomark _)))) (fun _ _ _ _ _ => (pv 4))) pa_nil))))
      (pss_one (ps_ret (pe_mid (pe_ifExp (pt_cmpR op_eq (pv 3) pe_int (nomark _)) (pv 1) (pe_own C_numbered hr (by decide) (by rfl) (pa_cons (pv 0) (pa_cons (pv 1) (pa_cons (pv 3) pa_nil))))))))), ?_⟩
    refine ⟨_, rfl, l, rfl, ⟨_, hl⟩, fun M nM => lc_tup (K := K) (a := l) (xs := us.map V.str) (fun i J => J M = some (.lst ((alike w t (us.take i)).map V.str)) ∧ Same H J)
      ⟨upd_same, same_new nM⟩ (fun i J _ ⟨_, sJ⟩ => st_same sJ hl) ?_ ?_⟩
    · rintro i v J hi ⟨eM, sJ⟩
      obtain ⟨u, hu, rfl, mu⟩ := atP_strs hi
      have ul : u.length ≤ 200 := (wu u mu).len
      refine ⟨rfl, _, rfl, _, rfl, x, so, w, u, rfl, hN.same sJ, by omega, _, rfl, rfl, _, rfl, ?_⟩
      rw [str_eq_iff]
      refine ite2 (fun hb => ?_) (fun hb => ?_)
      · refine ⟨_, rfl, _, eM, small1000 ?_, ?_, same_off sJ nM⟩
        · rw [List.length_map]
          refine Nat.le_trans (List.length_filter_le ..) ?_
          rw [List.length_take]
          omega
        · unfold alike
          rw [upd_same, take_next hu, List.filter_append, List.map_append, List.filter_cons, hb]
          rfl
      · refine ⟨?_, sJ⟩
        unfold alike at eM ⊢
        rw [eM, take_next hu, List.filter_append, List.filter_cons, Bool.eq_false_iff.mpr hb]
        simp only [Bool.false_eq_true, if_false, List.filter_nil, List.append_nil]
    · rintro J ⟨eM, sJ⟩
      rw [List.length_map, List.take_length] at eM
      have a6 : (alike w t us).length ≤ us.length := List.length_filter_le ..
      refine ⟨_, _, rfl, .inl ⟨_, .inl (.inl eM), rfl⟩, _, _, rfl, rfl, ?_⟩
      rw [List.length_map]
      refine ⟨fun v J1 => v = .str (countedOf so w t us) ∧ Same H J1, ?_, ?_⟩
      · refine ⟨_, rfl, rfl, _, rfl, ite2 (fun h1 => ?_) (fun h1 => ?_)⟩
        · have h1 : (alike w t us).length = 0 := by
            have := V.int.inj (of_decide_eq_true h1)
            omega
          refine ⟨_, rfl, ?_, sJ⟩
          unfold countedOf
          rw [if_pos h1]
        · have h1 : ¬ (alike w t us).length = 0 := fun h => h1 (decide_eq_true (by rw [h]; rfl))
          refine ⟨_, rfl, _, rfl, _, rfl, x, so, w, _, t, rfl, hN.same sJ, by omega, by omega, tl, ?_, sJ⟩
          unfold countedOf
          rw [if_neg h1, Int.add_comm]
      · rintro _ J1 ⟨rfl, s1⟩
        exact k J1 s1
/-- the names that are triedP -/
def triedP (so : Str) (w : Int) (t : Str) : Nat → Str
  | 0 => nbase w t
  | i + 1 => cand so w t i
def freeP (so : Str) (w : Int) (t : Str) (ys : List Str) : Str := if nbase w t ∈ ys then seek (cand so w t) ys ys.length 0 else nbase w t
theorem triedP_free {so : Str} {w : Int} {t : Str} {ys : List Str} (l : ys.length ≤ 6) {i : Nat} (a : ∀ j, j < i → triedP so w t j ∈ ys) : i ≤ ys.length + 1 := by
  refine Decidable.byContradiction fun h => some_free (so := so) (w := w) (t := t) l fun j hj => ?_
  exact a (j + 1) (by omega)
theorem triedP_is {so : Str} {w : Int} {t : Str} {ys : List Str} (l : ys.length ≤ 6) {i : Nat} (a : ∀ j, j < i → triedP so w t j ∈ ys) (b : triedP so w t i ∉ ys) : freeP so w t ys = triedP so w t i := by
  have h := triedP_free l a
  unfold freeP
  cases i with
  | zero => rw [if_neg (show nbase w t ∉ ys from b)]; rfl
  | succ i =>
    rw [if_pos (show nbase w t ∈ ys from a 0 (by omega))]
    have e := seek_at (f := cand so w t) (ys := ys) i ys.length 0 (by omega) (fun j hj => by
      rw [Nat.zero_add]
      exact a (j + 1) (by omega)) (by
      rw [Nat.zero_add]
      exact b)
    rw [Nat.zero_add] at e
    exact e
def spFree (K : PySem.W.Frag) (C : Addr) : Sp := fun vs H Q _ => ∃ (x l : Addr) (so : Str) (w : Int) (t : Str) (ys : List Str), vs = [.ref x, .str (nbase w t), .ref l] ∧ NmAt C H x so w ∧ t.length ≤ 1000 ∧ SqL K H l (ys.map V.str) ∧ ys.length ≤ 6 ∧ Q (.str (freeP so w t ys)) H
theorem cal_free (B : Bi mg) (D : At K mg "free_name" s_free_name ps_free_name) (C_numbered : Cal P w K mg base 1 "numbered" ps_numbered (spNumP C)) : Cal P w K mg base 2 "free_name" ps_free_name (spFree K C) := by
  refine D.cal sc_free_name (fun vs H Q E h => ?_) (fun f cdv A outer s H vs Q E hr h => ?_)
  · obtain ⟨x, l, so, w, t, ys, rfl, _⟩ := h
    rfl
  · obtain ⟨x, l, so, w, t, ys, rfl, hN, tl, hl, y6, k⟩ := h
    refine ⟨_, (pss_cons (ps_set (i := 3) sc_free_name.nd rfl (.inl rfl) (pv 1))
      (pss_cons (ps_set (i := 4) sc_free_name.nd rfl (.inl rfl) pe_int)
      (pss_cons (ps_while PassesOwn.never (pt_cmpR op_in_seq (pv 3) (pv 2) (by rfl))
      (pss_cons (ps_aug (i := 4) sc_free_name.nd rfl (.inl rfl) pe_int ip_add)
      (pss_one (ps_set (i := 3) sc_free_name.nd rfl (.inl rfl) (pe_own C_numbered hr (by decide) (by rfl) (pa_cons (pv 0) (pa_cons (pv 1) (pa_cons (pv 4) pa_nil))))))))
      (pss_one (ps_ret (pv 3)))))), ?_⟩
    refine ⟨_, rfl, ?_⟩
    refine ⟨fun m σ J => ∃ i : Nat, m = 9 - i ∧ σ = [some (.ref x), some (.str (nbase w t)), some (.ref l), some (.str (triedP so w t i)), some (.int (1 + (i : Int)))] ∧ J = H ∧ ∀ j, j < i → triedP so w t j ∈ ys, ⟨9, 0, rfl, rfl, rfl, fun j hj => absurd hj (by omega)⟩, ?_⟩
    rintro m σ J ⟨i, rfl, rfl, rfl, hj⟩
    have hi := triedP_free y6 hj
    refine ⟨_, rfl, _, rfl, l, _, rfl, .inl hl, rfl, flat_strs ys, _, rfl, ?_⟩
    rw [in_strs]
    refine ite2 (fun h1 => ?_) (fun h1 => ?_)
    · have h1 : triedP so w t i ∈ ys := of_decide_eq_true h1
      have hj2 : ∀ j, j < i + 1 → triedP so w t j ∈ ys := fun j hj3 => by
        rcases Nat.lt_or_ge j i with h | h
        · exact hj j h
        · rw [show j = i by omega]
          exact h1
      have hi2 := triedP_free y6 hj2
      refine ⟨_, fun σ' H' h => h, _, rfl, _, _, rfl, rfl, ?_⟩
      refine ⟨_, rfl, _, rfl, _, rfl, x, so, w, _, t, rfl, hN, by show (0 : Int) ≤ 1 + (i : Int) + 1; omega, by show 1 + (i : Int) + 1 < 10; omega, tl, ?_⟩
      refine ⟨9 - (i + 1), by omega, i + 1, rfl, ?_, rfl, hj2⟩
      have e : (1 + (i : Int) + 1) = 2 + (i : Int) := by omega
      have e2 : (1 + ((i + 1 : Nat) : Int)) = 2 + (i : Int) := by omega
      rw [e2]
      show [_, _, _, some (V.str (numbered so w t (1 + (i : Int) + 1))), some (V.int (1 + (i : Int) + 1))] = _
      rw [e]
      rfl
    · have h1 : triedP so w t i ∉ ys := fun h => h1 (decide_eq_true h)
      rw [triedP_is y6 hj h1] at k
      exact ⟨_, rfl, k⟩
/-- a name by what is there -/
def nextOf (so : Str) (w : Int) (t : Str) (us ys : List Str) : Str := if so = ("count" : String) then countedOf so w t us else freeP so w t ys
def spNext (K : PySem.W.Frag) (C : Addr) : Sp := fun vs H Q _ => ∃ (x a l : Addr) (so : Str) (w : Int) (t : Str) (us ys : List Str), vs = [.ref x, .str t, .ref a, .ref l] ∧ NmAt C H x so w ∧ t.length ≤ 1000 ∧ SqT K H a (us.map V.str) ∧ us.length ≤ 6 ∧ (∀ u ∈ us, Wd 200 u) ∧ SqL K H l (ys.map V.str) ∧ ys.length ≤ 6 ∧ ∀ G, Same H G → Q (.str (nextOf so w t us ys)) G
theorem cal_next (B : Bi mg) (S : NmC K mg C) (D : At K mg "name_of_next" s_name_of_next ps_name_of_next) (C_base_of : Cal P w K mg base 1 "base_of" ps_base_of (spBaseOf C)) (C_counted_name : Cal P w K mg base 2 "counted_name" ps_counted_name (spCounted K C)) (C_free_name : Cal P w K mg base 2 "free_name" ps_free_name (spFree K C)) : Cal P w K mg base 3 "name_of_next" ps_name_of_next (spNext K C) := by
  refine D.cal sc_name_of_next (fun vs H Q E h => ?_) (fun f cdv A outer s H vs Q E hr h => ?_)
  · obtain ⟨x, a, l, so, w, t, us, ys, rfl, _⟩ := h
    rfl
  · obtain ⟨x, a, l, so, w, t, us, ys, rfl, hN, tl, ha, u6, wu, hl, y6, k⟩ := h
    obtain ⟨dx, e1⟩ := id hN
    refine ⟨_, (pss_cons (ps_set (i := 4) sc_name_of_next.nd rfl (.inl rfl) (pe_own C_base_of hr (by decide) (by rfl) (pa_cons (pv 0) (pa_cons (pv 1) pa_nil))))
      (pss_cons (ps_if (pt_cmpR op_eq (pe_fld (pv 0) rfl) pe_str (nomark _)) (pss_one (ps_ret (pe_own C_counted_name hr (by decide) (by rfl) (pa_cons (pv 0) (pa_cons (pv 4) (pa_cons (pv 2) pa_nil)))))) pss_nil)
      (pss_one (ps_ret (pe_own C_free_name hr (by decide) (by rfl) (pa_cons (pv 0) (pa_cons (pv 4) (pa_cons (pv 3) pa_nil)))))))), ?_⟩
    refine ⟨_, rfl, _, rfl, x, so, w, t, rfl, hN, tl, ?_⟩
    refine ⟨_, rfl, x, C, dx, _, _, rfl, e1, S.cl, S.nR, nflds_rule _ _, rfl, _, rfl, ite2 (fun h1 => ?_) (fun h1 => ?_)⟩
    · rw [str_eq_iff] at h1
      unfold nextOf at k
      rw [if_pos (of_decide_eq_true h1)] at k
      exact ⟨_, rfl, _, rfl, _, rfl, x, a, so, w, t, us, rfl, hN, tl, ha, u6, wu, k⟩
    · rw [str_eq_iff] at h1
      unfold nextOf at k
      rw [if_neg (of_decide_eq_false (Bool.eq_false_iff.mpr h1))] at k
      exact ⟨_, rfl, _, rfl, _, rfl, x, l, so, w, t, ys, rfl, hN, tl, hl, y6, k H (Same.refl H)⟩
theorem pairsOf_fst (so : Str) (w : Int) : ∀ (n : Nat) (ts : List Str), ts.length = n → (pairsOf so w ts).map (·.1) = ts
  | 0, ts, h => by
    cases ts with
    | nil => rfl
    | cons t ts => cases h
  | n + 1, ts, h => by
    rcases List.eq_nil_or_concat ts with rfl | ⟨us, t, rfl⟩
    · rfl
    · rw [List.concat_eq_append] at h ⊢
      rw [List.length_append] at h
      rw [pairsOf_snoc, List.map_append, pairsOf_fst so w n us (by simp only [List.length_singleton] at h; omega)]
      rfl
theorem nextOf_pairs (so : Str) (w : Int) (t : Str) (us : List Str) : nextOf so w t us (namesOf so w us) = nameOf so w t (pairsOf so w us) := by
  have e : (alike w t us).length = (mates w t (pairsOf so w us)).length := by
    unfold mates alike
    rw [← List.length_map (f := fun q : Str × Str => q.1), ← List.countP_eq_length_filter, List.length_map, ← List.countP_eq_length_filter]
    conv => lhs; rw [← pairsOf_fst so w us.length us rfl]
    rw [List.countP_map]
    rfl
  unfold nextOf nameOf countedOf freeP namesOf
  rw [e]
theorem namesOf_snoc (so : Str) (w : Int) (ts : List Str) (t : Str) : namesOf so w (ts ++ [t]) = namesOf so w ts ++ [nextOf so w t ts (namesOf so w ts)] := by
  rw [nextOf_pairs]
  unfold namesOf
  rw [pairsOf_snoc, List.map_append]
  rfl
theorem slTP_ok {H : Hp} {a : Addr} {xs : List V} {Q : VK} {lo hi : Option Int} (ha : SqT K H a xs) (q : ∀ U G, Same H G → SqT K G U (cutV xs lo hi) → Q (.ref U) G) : rSlA K (.ref a) lo hi H Q := by
  refine ⟨a, xs, rfl, ha, fun ⟨e1, e2⟩ => q a H (Same.refl H) ?_, fun _ p np => q p _ (same_new np) (.inl (.inl upd_same))⟩
  unfold cutV
  rw [e1, e2, List.drop_zero, Nat.sub_zero, List.take_length]
  exact ha
theorem cutV_headP (xs : List V) (i : Nat) : cutV xs none (some (i : Int)) = xs.take i := by
  unfold cutV
  rw [HT.sIx_none, HT.sIx_nat, List.drop_zero, Nat.sub_zero, List.take_eq_take_iff]
  omega
theorem cal_named (B : Bi mg) (D : At K mg "named" s_named ps_named) (C_name_of_next : Cal P w K mg base 3 "name_of_next" ps_name_of_next (spNext K C)) : Cal P w K mg base 4 "named" ps_named (spNamesP K (NmAt C)) := by
  refine D.cal sc_named (fun vs H Q E h => ?_) (fun f cdv A outer s H vs Q E hr h => ?_)
  · obtain ⟨x, l, so, w, ts, rfl, _⟩ := h
    rfl
  · obtain ⟨x, l, so, w, ts, rfl, hN, hso, w0, w1, hl, t6, wt, k⟩ := h
    refine ⟨_, (pss_cons (ps_set (i := 2) sc_named.nd rfl (.inl rfl) (pe_lst pa_nil))
      (pss_cons (ps_for PassesOwn.never rfl (pi_enT (by rfl) B.enumerate (pa_cons (pv 1) pa_nil)) (pg_tup rfl (pgs_cons (pg_name (i := 3) sc_named.nd rfl (.inl rfl)) (pgs_cons (pg_name (i := 4) sc_named.nd rfl (.inl rfl)) pgs_nil)))
      (pss_one (ps_expr (pe_bm PySem.F.plainAttrs_list PySem.F.slot_list_append PySem.F.type_list_append mt_append (pv 2) (pa_cons (pe_own C_name_of_next hr (by decide) (by rfl) (pa_cons (pv 0) (pa_cons (pv 4) (pa_cons (pe_slice sl_tupA (pv 1) po_none (po_some (pv 3))) (pa_cons (pv 2) pa_nil))))) pa_nil)))))
      (pss_one (ps_ret (pe_callTy call_tuple_of (by rfl) B.tuple (by decide +kernel) (pa_cons (pv 2) pa_nil)))))), ?_⟩
    refine ⟨Nat.zero_le _, fun g ng => ?_⟩
    have s0 : Same H (upd H g (.lst [])) := same_new ng
    refine ⟨_, rfl, l, _, rfl, st_same s0 hl, for_it walk_enT (fun i σ J => ∃ u v, σ = [some (.ref x), some (.ref l), some (.ref g), u, v] ∧ Same H J ∧ J g = some (.lst ((namesOf so w (ts.take i)).map V.str)))
      ⟨none, none, rfl, s0, upd_same⟩ (fun i σ J _ ⟨_, _, _, sJ, _⟩ => st_same sJ hl) ?_ ?_⟩
    · rintro i v σ J J1 hi ⟨u, v2, rfl, sJ, eg⟩ ⟨T, z, hx, rfl, nT, rfl⟩
      obtain ⟨t, ht, rfl, mt⟩ := atP_strs hx
      have il : i < ts.length := (List.getElem?_eq_some_iff.mp ht).1
      have sT : Same J (upd J T (.tup [.int (i : Nat), .str t])) := same_new nT
      have tl : t.length ≤ 200 := (wt t mt).len
      refine ⟨T, _, rfl, .inl (.inl upd_same), rfl, _, _, rfl, _, _, rfl, rfl, ?_⟩
      have nl : (namesOf so w (ts.take i)).length = i := by
        rw [names_len, List.length_take]
        omega
      refine ⟨_, rfl, .inl ⟨rfl, _, .inl (.inl (sT _ _ eg))⟩, ?_⟩
      refine ⟨_, rfl, _, rfl, _, rfl, _, rfl, _, rfl, slTP_ok (st_same (sJ.trans sT) hl) fun U G sU eU => ?_⟩
      rw [cutV_headP, ← List.map_take] at eU
      refine ⟨_, rfl, x, U, g, so, w, t, ts.take i, namesOf so w (ts.take i), rfl, hN.same (sJ.trans (sT.trans sU)), by omega, eU, ?_, fun y hy => wt y (List.mem_of_mem_take hy), .inl (.inl (sU _ _ (sT _ _ eg))), by omega, fun G2 s2 => ?_⟩
      · rw [List.length_take]
        omega
      · have sA : Same H G2 := sJ.trans (sT.trans (sU.trans s2))
        refine ⟨g, _, _, rfl, rfl, s2 _ _ (sU _ _ (sT _ _ eg)), ?_, ?_⟩
        · rw [List.length_map]
          exact small1000 (by omega)
        · refine ⟨_, _, rfl, same_off sA ng, ?_⟩
          rw [upd_same, take_next ht, namesOf_snoc, List.map_append]
          rfl
    · rintro σ J ⟨u, v, rfl, sJ, eg⟩
      rw [List.length_map, List.take_length] at eg
      exact ⟨_, rfl, g, _, rfl, .inl ⟨.inl (.inl eg), fun p np => k p _ (.inl (.inl upd_same)) (sJ.trans (same_new np))⟩⟩
theorem cal_namesP (B : Bi mg) (D : At K mg "names" s_names ps_names) (C_check_namer : Cal P w K mg base 1 "check_namer" ps_check_namer (spCheckNamer C)) (C_check_texts : Cal P w K mg base 2 "check_texts" ps_check_texts (spCheckTexts K)) (C_named : Cal P w K mg base 4 "named" ps_named (spNamesP K (NmAt C))) : Cal P w K mg base 5 "names" ps_names (spNamesP K (NmAt C)) := by
  refine D.cal sc_names (fun vs H Q E h => ?_) (fun f cdv A outer s H vs Q E hr h => ?_)
  · obtain ⟨x, l, so, w, ts, rfl, _⟩ := h
    rfl
  · obtain ⟨x, l, so, w, ts, rfl, hN, hso, w0, w1, hl, t6, wt, k⟩ := h
    refine ⟨_, (pss_cons (ps_expr (pe_own C_check_namer hr (by decide) (by rfl) (pa_cons (pv 0) pa_nil)))
      (pss_cons (ps_expr (pe_own C_check_texts hr (by decide) (by rfl) (pa_cons (pv 1) (pa_cons (pe_cst B.MOST_LISTED (by rfl)) pa_nil))))
      (pss_one (ps_ret (pe_own C_named hr (by decide) (by rfl) (pa_cons (pv 0) (pa_cons (pv 1) pa_nil))))))), ?_⟩
    refine ⟨_, rfl, x, so, w, rfl, hN, ?_⟩
    refine ⟨_, rfl, l, ts, _, rfl, hl, by omega, wt, fun G sG => ?_⟩
    exact ⟨_, rfl, _, rfl, x, l, so, w, ts, rfl, hN.same sG, hso, w0, w1, st_same sG hl, t6, wt, fun p G2 e2 s2 => k p G2 e2 (sG.trans s2)⟩
end
end Gu
namespace Gu
open PySem PySem.Spec PyProof.Rows L2
/-! ### tuples of texts, told apart -/
theorem eqv_strs : ∀ xs ys : List Str, PyData.eqvAll (xs.map PyData.str) (ys.map PyData.str) = decide (xs = ys)
  | [], [] => rfl
  | [], _ :: _ => rfl
  | _ :: _, [] => rfl
  | x :: xs, y :: ys => by
    show ((x == y) && PyData.eqvAll (xs.map PyData.str) (ys.map PyData.str)) = _
    rw [eqv_strs xs ys]
    by_cases e : x = y
    · subst e
      by_cases f : xs = ys
      · subst f
        rw [decide_eq_true rfl, decide_eq_true rfl, beq_self_eq_true]
        rfl
      · rw [decide_eq_false f, decide_eq_false (fun h => f (List.cons.inj h).2), Bool.and_false]
    · rw [decide_eq_false (fun h => e (List.cons.inj h).1), beq_eq_false_iff_ne.mpr e, Bool.false_and]
theorem shaped_strs {ys : List Str} (h : ∀ y ∈ ys, Wd 300 y) : SeqAt.shaped (.tuple (ys.map PyData.str)) = true := by
  have a : ∀ ys : List Str, (∀ y ∈ ys, Wd 300 y) → PyData.canLayAll0 (ys.map PyData.str) = true ∧ PyData.depthAll (ys.map PyData.str) = 0 := by
    intro ys
    induction ys with
    | nil => exact fun _ => ⟨rfl, rfl⟩
    | cons y ys ih =>
      intro h
      have b := ih fun e he => h e (List.mem_cons_of_mem _ he)
      refine ⟨?_, ?_⟩
      · show ((PyData.str y).canLay0 && PyData.canLayAll0 (ys.map PyData.str)) = true
        rw [wd_lay (h y (List.mem_cons_self ..)), b.1]
        rfl
      · show max (PyData.str y).depth (PyData.depthAll (ys.map PyData.str)) = 0
        rw [b.2]
        rfl
  have b := a ys h
  unfold SeqAt.shaped
  rw [Bool.and_eq_true]
  refine ⟨b.1, decide_eq_true ?_⟩
  show PyData.depthAll (ys.map PyData.str) + 1 ≤ 64
  omega
theorem ne_strs {K : PySem.W.Frag} {H : Hp} {a b : Addr} {xs ys : List Str} {Q : VK} (ha : SqT K H a (xs.map V.str)) (hb : SqT K H b (ys.map V.str)) (wx : ∀ y ∈ xs, Wd 300 y) (wy : ∀ y ∈ ys, Wd 300 y) (q : Q (.bl (!decide (xs = ys))) H) : rNeD K (.ref a) (.ref b) H Q :=
  ⟨_, _, .tup ha (dp_strs xs), .tup hb (dp_strs ys), shaped_strs wx, shaped_strs wy, by
    rw [show PyData.eqv (.tuple (xs.map PyData.str)) (.tuple (ys.map PyData.str)) = decide (xs = ys) from eqv_strs xs ys]
    exact q⟩
theorem ne_no {K : PySem.W.Frag} {H : Hp} {a b : Addr} {xs ys : List Str} {Q : VK} (e : xs = ys) (ha : SqT K H a (xs.map V.str)) (hb : SqT K H b (ys.map V.str)) (wx : ∀ y ∈ xs, Wd 300 y) (q : Q (.bl false) H) : rNeD K (.ref a) (.ref b) H Q := by
  subst e
  refine ne_strs ha hb wx wx ?_
  rw [decide_eq_true rfl]
  exact q
/-! ### a shortener with no tail and no mark -/
def wholeR (w : Int) : Rec := ⟨w, w, 0, ("" : String)⟩
theorem whole_fit {w : Int} (h0 : 0 ≤ w) (h1 : w ≤ 40) : (wholeR w).fit := ⟨⟨h0, h1⟩, ⟨h0, h1⟩, ⟨by show (0 : Int) ≤ 0; decide, by show (0 : Int) ≤ 40; decide⟩, by show isTxt ("" : String) 3 = true; decide +kernel⟩
theorem whole_cut {w : Int} (h0 : 0 ≤ w) {z y : Str} (e : y.cps.toList = cuts [wholeR w] z.cps.toList) : y = nbase w z := by
  refine str_ext ?_
  unfold nbase
  rw [e, cutS_head z h0]
  show cut w.toNat w.toNat (0 : Int).toNat ((("" : String) : Str).cps.toList) z.cps.toList = _
  have m : (("" : String) : Str).cps.toList = [] := by decide +kernel
  unfold cut
  rw [m]
  split
  · next h => rw [List.take_of_length_le h]
  · rw [show (0 : Int).toNat = 0 from rfl, Nat.sub_zero, List.drop_length, List.append_nil, List.append_nil]
/-! ### the names of one text, of two -/
theorem names_one (so : Str) (w : Int) (a : Str) : namesOf so w [a] = [nbase w a] := by
  have e : namesOf so w ([] ++ [a]) = namesOf so w [] ++ [nextOf so w a [] (namesOf so w [])] := namesOf_snoc so w [] a
  rw [List.nil_append] at e
  rw [e]
  show [nextOf so w a [] []] = _
  unfold nextOf countedOf freeP alike
  split
  · rw [List.filter_nil]
    rfl
  · rw [if_neg List.not_mem_nil]
theorem names_two (so : Str) (w : Int) (a b : Str) : namesOf so w [a, b] = [nbase w a, nextOf so w b [a] [nbase w a]] := by
  have e : namesOf so w ([a] ++ [b]) = namesOf so w [a] ++ [nextOf so w b [a] (namesOf so w [a])] := namesOf_snoc so w [a] b
  rw [names_one] at e
  exact e
theorem app_two (y : Str) : (y ++ ending 2).cps.toList.length = y.cps.toList.length + 2 := by
  rw [str_app, List.length_append]
  rfl
theorem two_other {so : Str} {w : Int} {a b : Str} (h : ¬ nbase w a = nbase w b) : namesOf so w [a, b] = [nbase w a, nbase w b] := by
  rw [names_two]
  unfold nextOf countedOf freeP alike
  split
  · rw [List.filter_cons, decide_eq_false h, if_neg Bool.false_ne_true, List.filter_nil]
    rfl
  · rw [if_neg (fun hm => h (List.mem_singleton.mp hm).symm)]
theorem end2 : (("~2" : String) : Str) = ending 2 := by decide +kernel
theorem end3 : (("~3" : String) : Str) = ending 3 := by decide +kernel
theorem two_same {so : Str} {w : Int} {a b : Str} (h : nbase w a = nbase w b) (n : ¬ so = ("tight" : String)) : namesOf so w [a, b] = [nbase w a, nbase w a ++ (("~2" : String) : Str)] := by
  rw [names_two, end2]
  unfold nextOf countedOf freeP alike
  split
  · rw [List.filter_cons, decide_eq_true h, if_pos rfl, List.filter_nil, if_neg (show ¬ [a].length = 0 from fun h => nomatch h), numbered_other n, h]
    rfl
  · have e : cand so w b 0 = nbase w a ++ ending 2 := by
      unfold cand
      rw [numbered_other n, h]
      rfl
    rw [if_pos (List.mem_singleton.mpr h.symm)]
    show [nbase w a, if cand so w b 0 ∈ [nbase w a] then _ else cand so w b 0] = _
    rw [e, if_neg]
    intro hm
    have := congrArg (fun y : Str => y.cps.toList.length) (List.mem_singleton.mp hm)
    simp only [app_two] at this
    omega
theorem cut_again {w : Int} (h : 6 ≤ w) (a : Str) : cutS (nbase w a) none (some (w - 2)) = nbase (w - 2) a := by
  refine str_ext ?_
  unfold nbase
  rw [cutS_head _ (by omega), cutS_head _ (by omega), cutS_head _ (by omega), List.take_take]
  congr 1
  omega
theorem two_tight {so : Str} {w : Int} {a b : Str} (w0 : 6 ≤ w) (h : nbase w a = nbase w b) (n : so = ("tight" : String)) :
    namesOf so w [a, b] = if nbase w a = nbase (w - 2) a ++ (("~2" : String) : Str) then [nbase w a, nbase (w - 2) a ++ (("~3" : String) : Str)] else [nbase w a, nbase (w - 2) a ++ (("~2" : String) : Str)] := by
  rw [names_two, end2, end3]
  have c0 : cand so w b 0 = nbase (w - 2) a ++ ending 2 := by
    unfold cand
    rw [numbered_tight n, ← h]
    show cutS (nbase w a) none (some (w - 2)) ++ ending 2 = _
    rw [cut_again w0]
  have c1 : cand so w b 1 = nbase (w - 2) a ++ ending 3 := by
    unfold cand
    rw [numbered_tight n, ← h]
    show cutS (nbase w a) none (some (w - 2)) ++ ending 3 = _
    rw [cut_again w0]
  unfold nextOf freeP
  rw [if_neg (by rw [n]; decide +kernel), if_pos (List.mem_singleton.mpr h.symm)]
  show [nbase w a, if cand so w b 0 ∈ [nbase w a] then cand so w b 1 else cand so w b 0] = _
  rw [c0, c1]
  by_cases e : nbase w a = nbase (w - 2) a ++ ending 2
  · rw [if_pos (List.mem_singleton.mpr e.symm), if_pos e]
  · rw [if_neg (fun hm => e (List.mem_singleton.mp hm).symm), if_neg e]
end Gu
namespace Gu
open PySem PySem.Spec PyProof.Rows L2
section
variable {P : Program} {w : World} {K : PySem.W.Frag} {mg : Str → Option Value} {base : Heap} {C N : Addr}
/-! ### _law_pair_right -/
def spPairR : Sp := fun vs H Q _ => ∃ (w : Int) (a b : Str), vs = [.int w, .str a, .str b] ∧ 6 ≤ w ∧ w ≤ 40 ∧ Wd 200 a ∧ Wd 200 b ∧ ∀ G, Same H G → Q (.bl true) G
theorem made_same {H G : Hp} {x dx : Addr} {o : HO} {p : HO} (nx : H x = none) (ndx : H dx = none) (keep : ∀ c q, upd (upd H dx p) x o c = some q → c ≠ x → G c = some q) : Same H G := fun c q e => keep c q (by rw [upd_ne (ne_of_none e nx), upd_ne (ne_of_none e ndx)]; exact e) (ne_of_none e nx)
theorem len_two : (("~2" : String) : Str).length = 2 := by decide +kernel
theorem len_three : (("~3" : String) : Str).length = 2 := by decide +kernel
theorem two_wd {a b : Str} (ha : Wd 300 a) (hb : Wd 300 b) : ∀ y ∈ [a, b], Wd 300 y := fun y hy => by
  rcases List.mem_cons.mp hy with rfl | hy
  · exact ha
  · rw [List.mem_singleton.mp hy]
    exact hb
theorem two_three (y : Str) : ¬ y ++ (("~3" : String) : Str) = y ++ (("~2" : String) : Str) := fun h => by
  have e := congrArg (fun z : Str => z.cps.toList) h
  simp only [str_app] at e
  exact absurd (List.append_cancel_left e) (by decide +kernel)
theorem cal_pairR (B : Bi mg) (D : At K mg "_law_pair_right" s_law_pair_right ps_law_pair_right) (M_sh : Mak P w K mg base 3 "Shortener" C (spInit C)) (C_show : Cal P w K mg base 3 "show" ps_show (spShow C)) (M_nm : Mak P w K mg base 2 "Namer" N (spNInit N (NmAt N))) (C_names : Cal P w K mg base 5 "names" ps_names (spNamesP K (NmAt N))) : Cal P w K mg base 6 "_law_pair_right" ps_law_pair_right spPairR := by
  refine D.cal sc_law_pair_right (fun vs H Q E h => ?_) (fun f cdv A outer s H vs Q E hr h => ?_)
  · obtain ⟨w, a, b, rfl, _⟩ := h
    rfl
  · obtain ⟨w, a, b, rfl, w0, w1, wa, wb, k⟩ := h
    refine ⟨_, (pss_cons (ps_par (i := 3) (j := 4) (by rfl) sc_law_pair_right.nd rfl rfl (by decide) rfl rfl (pa_cons (pe_tup (pa_cons (pe_new M_sh hr (by decide) (by rfl) (pa_cons (pv 0) (pa_cons (pv 0) (pa_cons pe_int (pa_cons pe_str pa_nil))))) pa_nil)) (pa_cons (pe_tup (pa_cons (pe_new M_sh hr (by decide) (by rfl) (pa_cons (pe_op op_sub (pv 0) pe_int) (pa_cons (pe_op op_sub (pv 0) pe_int) (pa_cons pe_int (pa_cons pe_str pa_nil))))) pa_nil)) pa_nil)) (by rfl))
      (pss_cons (ps_par (i := 5) (j := 6) (by rfl) sc_law_pair_right.nd rfl rfl (by decide) rfl rfl (pa_cons (pe_own C_show hr (by decide) (by rfl) (pa_cons (pv 3) (pa_cons (pv 1) pa_nil))) (pa_cons (pe_own C_show hr (by decide) (by rfl) (pa_cons (pv 3) (pa_cons (pv 2) pa_nil))) pa_nil)) (by rfl))
      (pss_cons (ps_for PassesOwn.never rfl (pi_list (pe_lst (pa_cons pe_str (pa_cons pe_str (pa_cons pe_str pa_nil))))) (pg_name (i := 7) sc_law_pair_right.nd rfl (.inl rfl))
      (pss_cons (ps_set (i := 8) sc_law_pair_right.nd rfl (.inl rfl) (pe_new M_nm hr (by decide) (by rfl) (pa_cons (pv 7) (pa_cons (pv 0) pa_nil))))
      (pss_cons (ps_if (PW.pt (pw_or (pt_cmpR (op_neD hr.units) (pe_own C_names hr (by decide) (by rfl) (pa_cons (pv 8) (pa_cons (pe_tup (pa_cons (pv 1) pa_nil)) pa_nil))) (pe_tup (pa_cons (pv 5) pa_nil)) (nomark _)) (pw_or1 (pt_cmpR (op_neD hr.units) (pe_own C_names hr (by decide) (by rfl) (pa_cons (pv 8) (pa_cons (pe_tup (pa_cons (pv 2) pa_nil)) pa_nil))) (pe_tup (pa_cons (pv 6) pa_nil)) (nomark _))))) (pss_one (ps_ret pe_bl)) pss_nil)
      (pss_cons (ps_set (i := 9) sc_law_pair_right.nd rfl (.inl rfl) (pe_own C_names hr (by decide) (by rfl) (pa_cons (pv 8) (pa_cons (pe_tup (pa_cons (pv 1) (pa_cons (pv 2) pa_nil))) pa_nil))))
      (pss_one (ps_if (pt_cmpR op_ne (pv 5) (pv 6) (nomark _)) (pss_one (ps_if (pt_cmpR (op_neD hr.units) (pv 9) (pe_tup (pa_cons (pv 5) (pa_cons (pv 6) pa_nil))) (nomark _)) (pss_one (ps_ret pe_bl)) pss_nil)) (pss_one (ps_if (pt_cmpR (op_neD hr.units) (pv 9) (pe_tup (pa_cons (pv 5) (pa_cons (pe_op op_add_str (pe_mid (pe_ifExp (pt_cmpR op_eq (pv 7) pe_str (nomark _)) (pe_own C_show hr (by decide) (by rfl) (pa_cons (pv 4) (pa_cons (pv 1) pa_nil))) (pv 5))) pe_str) pa_nil))) (nomark _)) (pss_cons (ps_set (i := 10) sc_law_pair_right.nd rfl (.inl rfl) (pe_own C_show hr (by decide) (by rfl) (pa_cons (pv 4) (pa_cons (pv 1) pa_nil))))
      (pss_one (ps_if (PW.pt (pw_or (pt_cmpR op_ne (pv 7) pe_str (nomark _)) (pw_or (pt_cmpR (op_neD hr.units) (pv 9) (pe_tup (pa_cons (pv 5) (pa_cons (pe_op op_add_str (pv 10) pe_str) pa_nil))) (nomark _)) (pw_or1 (pt_cmpR op_ne (pv 5) (pe_op op_add_str (pv 10) pe_str) (nomark _)))))) (pss_one (ps_ret pe_bl)) pss_nil))) pss_nil))))))))
      (pss_one (ps_ret pe_bl))))), ?_⟩
    -- the two shorteners
    refine ⟨_, rfl, _, rfl, fun x dx nx ndx nex => ⟨x, dx, wholeR w, rfl, upd_same, whole_fit (by omega) w1, fun t1 G1 nt1 ex1 et1 keep1 => ⟨rfl, ?_⟩⟩⟩
    have s1 : Same H G1 := made_same nx ndx keep1
    have sh1 : ShAt C G1 x (wholeR w) := ⟨dx, t1, ex1, et1⟩
    refine ⟨by show 1 ≤ sizeLine; decide, fun p1 np1 => ?_⟩
    have sp1 : Same G1 (upd G1 p1 (.tup [.ref x])) := same_new np1
    have row1 : RowAt C (upd G1 p1 (.tup [.ref x])) p1 [(x, wholeR w)] := ⟨upd_same, fun q hq => by rw [List.mem_singleton.mp hq]; exact ⟨sh1.same sp1, whole_fit (by omega) w1⟩⟩
    have sA : Same H (upd G1 p1 (.tup [.ref x])) := s1.trans sp1
    generalize upd G1 p1 (.tup [.ref x]) = HA at row1 sA
    refine ⟨_, rfl, _, _, rfl, rfl, _, rfl, _, _, rfl, rfl, fun x2 dx2 nx2 ndx2 nex2 => ⟨x2, dx2, wholeR (w - 2), rfl, upd_same, whole_fit (by omega) (by omega), fun t2 G2 nt2 ex2 et2 keep2 => ⟨rfl, ?_⟩⟩⟩
    have s2 : Same HA G2 := made_same nx2 ndx2 keep2
    have sh2 : ShAt C G2 x2 (wholeR (w - 2)) := ⟨dx2, t2, ex2, et2⟩
    refine ⟨by show 1 ≤ sizeLine; decide, fun p2 np2 => ?_⟩
    have sp2 : Same G2 (upd G2 p2 (.tup [.ref x2])) := same_new np2
    have row2 : RowAt C (upd G2 p2 (.tup [.ref x2])) p2 [(x2, wholeR (w - 2))] := ⟨upd_same, fun q hq => by rw [List.mem_singleton.mp hq]; exact ⟨sh2.same sp2, whole_fit (by omega) (by omega)⟩⟩
    have rowB := row1.same (s2.trans sp2)
    have sB : Same H (upd G2 p2 (.tup [.ref x2])) := sA.trans (s2.trans sp2)
    generalize upd G2 p2 (.tup [.ref x2]) = HB at row2 rowB sB
    refine ⟨_, _, rfl, ?_⟩
    -- the bases
    have ta : isTxt a 200 = true := wd_isTxt wa
    have tb : isTxt b 200 = true := wd_isTxt wb
    refine ⟨_, rfl, _, rfl, p1, _, a, rfl, rowB, by show 1 ≤ 1; decide, by show 1 ≤ 4; decide, ta, fun y1 G3 s3 e1 => ?_⟩
    obtain rfl := whole_cut (by omega) e1
    refine ⟨_, rfl, _, rfl, p1, _, b, rfl, rowB.same s3, by show 1 ≤ 1; decide, by show 1 ≤ 4; decide, tb, fun y2 G4 s4 e2 => ?_⟩
    obtain rfl := whole_cut (by omega) e2
    refine ⟨_, _, rfl, ?_⟩
    have row4 := row2.same (s3.trans s4)
    have sD : Same H G4 := sB.trans (s3.trans s4)
    have wna : Wd 300 (nbase w a) := (wa.cut _ _).mono (by decide)
    have wnb : Wd 300 (nbase w b) := (wb.cut _ _).mono (by decide)
    -- the rules
    refine ⟨by show 3 ≤ sizeLine; decide, fun L nL => ?_⟩
    have sL : Same G4 (upd G4 L (.lst (sorts.map V.str))) := same_new nL
    refine ⟨L, rfl, ⟨_, .inl (.inl upd_same)⟩, for_list (K := K) (a := L) (xs := sorts.map V.str) (fun i σ J => ∃ u1 u2 u3 u4, σ = [some (.int w), some (.str a), some (.str b), some (.ref p1), some (.ref p2), some (.str (nbase w a)), some (.str (nbase w b)), u1, u2, u3, u4] ∧ Same (upd G4 L (.lst (sorts.map V.str))) J)
      ⟨none, none, none, none, rfl, Same.refl _⟩ (fun i σ J _ ⟨_, _, _, _, _, sJ⟩ => .inl (.inl (sJ _ _ upd_same))) ?_ ?_⟩
    · rintro i v σ J hi ⟨u1, u2, u3, u4, rfl, sJ⟩
      obtain ⟨so, _, rfl, hso⟩ := atP_strs hi
      refine ⟨_, rfl, _, rfl, fun x3 dx3 nx3 ndx3 nex3 => ⟨x3, dx3, so, w, rfl, upd_same, hso, w0, w1, fun G5 hN keep3 => ⟨rfl, ?_⟩⟩⟩
      have s5 : Same J G5 := made_same nx3 ndx3 keep3
      -- each alone
      refine ⟨_, rfl, _, rfl, by show 1 ≤ sizeLine; decide, fun l1 nl1 => ?_⟩
      have c1 : Same G5 (upd G5 l1 (.tup [.str a])) := same_new nl1
      refine ⟨x3, l1, so, w, [a], rfl, hN.same c1, hso, w0, w1, .inl (.inl upd_same), by show 1 ≤ 6; decide, (fun t ht => by rw [List.mem_singleton.mp ht]; exact wa), fun q1 G6 e6 s6 => ?_⟩
      rw [names_one] at e6
      refine ⟨_, rfl, by show 1 ≤ sizeLine; decide, fun l2 nl2 => ?_⟩
      have c2 : Same G6 (upd G6 l2 (.tup [.str (nbase w a)])) := same_new nl2
      refine ne_no (xs := [nbase w a]) (ys := [nbase w a]) rfl (st_same c2 e6) (.inl (.inl upd_same)) (fun y hy => by rw [List.mem_singleton.mp hy]; exact wna) ⟨_, rfl, iteF ?_⟩
      have s7 : Same G5 (upd G6 l2 (.tup [.str (nbase w a)])) := c1.trans (s6.trans c2)
      generalize upd G6 l2 (.tup [.str (nbase w a)]) = H7 at s7
      refine ⟨_, rfl, _, rfl, by show 1 ≤ sizeLine; decide, fun l3 nl3 => ?_⟩
      have c3 : Same H7 (upd H7 l3 (.tup [.str b])) := same_new nl3
      refine ⟨x3, l3, so, w, [b], rfl, hN.same (s7.trans c3), hso, w0, w1, .inl (.inl upd_same), by show 1 ≤ 6; decide, (fun t ht => by rw [List.mem_singleton.mp ht]; exact wb), fun q2 G8 e8 s8 => ?_⟩
      rw [names_one] at e8
      refine ⟨_, rfl, by show 1 ≤ sizeLine; decide, fun l4 nl4 => ?_⟩
      have c4 : Same G8 (upd G8 l4 (.tup [.str (nbase w b)])) := same_new nl4
      refine ne_no (xs := [nbase w b]) (ys := [nbase w b]) rfl (st_same c4 e8) (.inl (.inl upd_same)) (fun y hy => by rw [List.mem_singleton.mp hy]; exact wnb) ⟨_, rfl, iteF ?_⟩
      have s9 : Same G5 (upd G8 l4 (.tup [.str (nbase w b)])) := s7.trans (c3.trans (s8.trans c4))
      generalize upd G8 l4 (.tup [.str (nbase w b)]) = H9 at s9
      -- both
      refine ⟨_, rfl, _, rfl, _, rfl, by show 2 ≤ sizeLine; decide, fun l5 nl5 => ?_⟩
      have c5 : Same H9 (upd H9 l5 (.tup [.str a, .str b])) := same_new nl5
      have wab : ∀ t ∈ [a, b], Wd 200 t := fun t ht => by
        rcases List.mem_cons.mp ht with rfl | ht
        · exact wa
        · rw [List.mem_singleton.mp ht]
          exact wb
      refine ⟨x3, l5, so, w, [a, b], rfl, hN.same (s9.trans c5), hso, w0, w1, .inl (.inl upd_same), by show 2 ≤ 6; decide, wab, fun q3 G10 e10 s10 => ?_⟩
      have wn : ∀ y ∈ namesOf so w [a, b], Wd 300 y := fun y hy => (names_wd (by show 2 ≤ 6; decide) wab y hy).mono (by decide)
      have sE : Same (upd G4 L (.lst (sorts.map V.str))) G10 := sJ.trans (s5.trans (s9.trans (c5.trans s10)))
      refine ⟨_, rfl, _, rfl, rfl, _, rfl, ?_⟩
      have rowE := row4.same (sL.trans sE)
      by_cases hb : nbase w a = nbase w b
      · refine iteNS (by rw [hb]) ?_
        refine ⟨_, rfl, _, rfl, ?_⟩
        by_cases ht : so = ("tight" : String)
        · rw [two_tight w0 hb ht] at e10 wn
          refine ⟨fun v J1 => v = .str (nbase (w - 2) a) ∧ Same G10 J1, ?_, ?_⟩
          · refine ⟨_, rfl, rfl, _, rfl, ?_⟩
            rw [str_eq_iff, decide_eq_true ht]
            refine iteT ⟨_, rfl, _, rfl, p2, _, a, rfl, rowE, by show 1 ≤ 1; decide, by show 1 ≤ 4; decide, ta, fun y3 G11 s11 e3 => ⟨whole_cut (by omega) e3 ▸ rfl, s11⟩⟩
          · rintro _ J1 ⟨rfl, s11⟩
            have l2 : (nbase (w - 2) a).length ≤ 200 := (wa.cut _ _).len
            have a2 := len_two
            have a3 := len_three
            have w2 : Wd 300 (nbase (w - 2) a ++ (("~2" : String) : Str)) := (wa.cut _ _).app (wd_lit (n := 2) (by decide +kernel)) (by decide)
            have w3 : Wd 300 (nbase (w - 2) a ++ (("~3" : String) : Str)) := (wa.cut _ _).app (wd_lit (n := 2) (by decide +kernel)) (by decide)
            refine ⟨_, _, rfl, rfl, Nat.le_of_lt (small1000 (by omega)), by show 2 ≤ sizeLine; decide, fun l6 nl6 => ?_⟩
            have c6 : Same J1 (upd J1 l6 (.tup [.str (nbase w a), .str (nbase (w - 2) a ++ (("~2" : String) : Str))])) := same_new nl6
            refine ne_strs (ys := [nbase w a, nbase (w - 2) a ++ (("~2" : String) : Str)]) (st_same (s11.trans c6) e10) (.inl (.inl upd_same)) wn (two_wd wna w2) ⟨_, rfl, ?_⟩
            have sF := sE.trans (s11.trans c6)
            have e11 := st_same (s11.trans c6) e10
            generalize upd J1 l6 (.tup [.str (nbase w a), .str (nbase (w - 2) a ++ (("~2" : String) : Str))]) = H12 at sF e11
            by_cases ex : nbase w a = nbase (w - 2) a ++ (("~2" : String) : Str)
            · rw [if_pos ex] at e11 wn ⊢
              rw [decide_eq_false (fun h => two_three _ (List.cons.inj (List.cons.inj h).2).1)]
              refine iteT ⟨_, rfl, _, rfl, p2, _, a, rfl, row4.same (sL.trans sF), by show 1 ≤ 1; decide, by show 1 ≤ 4; decide, ta, fun y3 G13 s13 e3 => ?_⟩
              obtain rfl := whole_cut (by omega) e3
              refine ⟨_, rfl, rfl, _, rfl, iteNS (by rw [ht]) ?_⟩
              refine ⟨_, rfl, _, rfl, _, rfl, _, _, rfl, rfl, Nat.le_of_lt (small1000 (by omega)), by show 2 ≤ sizeLine; decide, fun l7 nl7 => ?_⟩
              have c7 : Same G13 (upd G13 l7 (.tup [.str (nbase w a), .str (nbase (w - 2) a ++ (("~3" : String) : Str))])) := same_new nl7
              refine ne_no (ys := [nbase w a, nbase (w - 2) a ++ (("~3" : String) : Str)]) rfl (st_same (s13.trans c7) e11) (.inl (.inl upd_same)) wn ⟨_, rfl, iteF ?_⟩
              refine ⟨_, rfl, _, rfl, _, _, rfl, rfl, Nat.le_of_lt (small1000 (by omega)), rfl, _, rfl, iteNS (by rw [← ex]) ?_⟩
              exact ⟨_, _, _, _, rfl, sF.trans (s13.trans c7)⟩
            · rw [if_neg ex, decide_eq_true rfl]
              exact iteF ⟨_, _, _, _, rfl, sF⟩
        · rw [two_same hb ht] at e10 wn
          refine ⟨fun v J1 => v = .str (nbase w a) ∧ Same G10 J1, ?_, ?_⟩
          · refine ⟨_, rfl, rfl, _, rfl, ?_⟩
            rw [str_eq_iff, decide_eq_false ht]
            exact iteF ⟨_, rfl, rfl, Same.refl _⟩
          · rintro _ J1 ⟨rfl, s11⟩
            have l2 : (nbase w a).length ≤ 200 := (wa.cut _ _).len
            refine ⟨_, _, rfl, rfl, Nat.le_of_lt (small1000 (by have := len_two; omega)), by show 2 ≤ sizeLine; decide, fun l6 nl6 => ?_⟩
            have c6 : Same J1 (upd J1 l6 (.tup [.str (nbase w a), .str (nbase w a ++ (("~2" : String) : Str))])) := same_new nl6
            refine ne_no (ys := [nbase w a, nbase w a ++ (("~2" : String) : Str)]) rfl (st_same (s11.trans c6) e10) (.inl (.inl upd_same)) wn ⟨_, rfl, iteF ?_⟩
            exact ⟨_, _, _, _, rfl, sE.trans (s11.trans c6)⟩
      · rw [two_other hb] at e10 wn
        rw [decide_eq_false (fun h => hb (V.str.inj h))]
        refine iteT ⟨_, rfl, _, rfl, _, rfl, by show 2 ≤ sizeLine; decide, fun l6 nl6 => ?_⟩
        have c6 : Same G10 (upd G10 l6 (.tup [.str (nbase w a), .str (nbase w b)])) := same_new nl6
        refine ne_no (ys := [nbase w a, nbase w b]) rfl (st_same c6 e10) (.inl (.inl upd_same)) wn ⟨_, rfl, iteF ?_⟩
        exact ⟨_, _, _, _, rfl, sE.trans c6⟩
    · rintro σ J ⟨u1, u2, u3, u4, rfl, sJ⟩
      exact k J (sD.trans (sL.trans sJ))
theorem cal_right (B : Bi mg) (D : At K mg "_law_right" s_law_right ps_law_right) (C_law_draw : Cal P w K mg base 1 "_law_draw" ps_law_draw spLadle) (C_law_one : Cal P w K mg base 2 "_law_one" ps_law_one (spOneOf K)) (C_law_stem : Cal P w K mg base 2 "_law_stem" ps_law_stem spStem) (C_law_word : Cal P w K mg base 3 "_law_word" ps_law_word (spWord K)) (C_law_pair_right : Cal P w K mg base 6 "_law_pair_right" ps_law_pair_right spPairR) : CalG P w K mg base 7 "_law_right" ps_law_right spRight := by
  refine D.calG sc_law_right (fun vs H Q E h => ?_) (fun f cdv A outer s H vs Q E hr quiet h => ?_)
  · obtain ⟨p, rfl, _⟩ := h
    rfl
  · obtain ⟨p, rfl, hp, k⟩ := h
    refine ⟨_, (pss_cons (ps_asg (pe_tup (pa_cons (pe_lst (pa_cons (pe_own C_law_stem hr (by decide) (by rfl) (pa_cons (pv 0) (pa_cons pe_int pa_nil))) (pa_cons (pe_own C_law_stem hr (by decide) (by rfl) (pa_cons (pv 0) (pa_cons pe_int pa_nil))) pa_nil))) (pa_cons (pe_op op_add pe_int (pe_own C_law_draw hr (by decide) (by rfl) (pa_cons (pv 0) (pa_cons (pe_own C_law_one hr (by decide) (by rfl) (pa_cons (pv 0) (pa_cons (pe_lst (pa_cons pe_int (pa_cons pe_int (pa_cons pe_int pa_nil)))) pa_nil))) pa_nil)))) pa_nil))) (pg_tup rfl (pgs_cons (pg_name (i := 1) sc_law_right.nd rfl (.inr rfl)) (pgs_cons (pg_name (i := 2) sc_law_right.nd rfl (.inr rfl)) pgs_nil))))
      (pss_cons (ps_set (i := 3) sc_law_right.nd rfl (.inr rfl) (pe_lc (own := [("_law_k", 4)]) (by rfl) sc_law_right.nd (pi_range1 (by rfl) B.range (pa_cons pe_int pa_nil)) (blkOk_by (own := [("_law_k", 4)]) (N := ["_law_source_here", "_law_stems", "_law_size", "_law_line", "_law_k"]) (sc := defScope s_law_right) (by decide +kernel)) (fun _ _ _ _ _ => pg_name (i := 4) sc_law_right.nd rfl (.inl rfl)) (fun _ _ _ _ _ => pts_nil) (fun _ _ _ _ _ => (pe_own C_law_word hr (by decide) (by rfl) (pa_cons (pv 0) (pa_cons (pv 1) pa_nil))))))
      (pss_one (ps_ret (pe_callB (cr_all rfl) (by rfl) B.all (by decide +kernel) (pa_cons (pe_lc (own := [("_law_k", 4)]) (by rfl) sc_law_right.nd (pi_range1 (by rfl) B.range (pa_cons pe_int pa_nil)) (blkOk_by (own := [("_law_k", 4)]) (N := ["_law_source_here", "_law_stems", "_law_size", "_law_line", "_law_k"]) (sc := defScope s_law_right) (by decide +kernel)) (fun _ _ _ _ _ => pg_name (i := 4) sc_law_right.nd rfl (.inl rfl)) (fun _ _ _ _ _ => pts_nil) (fun _ _ _ _ _ => (pe_own C_law_pair_right hr (by decide) (by rfl) (pa_cons (pv 2) (pa_cons (pe_ix (r := rIxL K) ix_list (pv 3) (pv 4) (fun _ _ => rfl)) (pa_cons (pe_ix (r := rIxL K) ix_list (pv 3) (pe_op op_mod (pe_callTy call_int1 (by rfl) B.int (by decide +kernel) (pa_cons (pe_op op_add (pv 4) pe_int) pa_nil)) pe_int) (fun _ _ => rfl)) pa_nil)))))) pa_nil)))))), ?_⟩
    refine ⟨_, rfl, p, 12, rfl, hp, by decide, by decide, fun y1 G1 M1 z1 w1 => ?_⟩
    refine ⟨_, rfl, p, 9, rfl, M1.pot, by decide, by decide, fun y2 G2 L2 z2 w2 => ?_⟩
    have M2 := M1.trans L2
    refine ⟨by show 2 ≤ sizeLine; decide, fun q nq => ?_⟩
    have M3 := M2.new (o := .lst [.str y1, .str y2]) nq
    have nqp : q ≠ p := M2.pot.off nq
    have eq : upd G2 q (.lst [.str y1, .str y2]) q = some (.lst [.str y1, .str y2]) := upd_same
    generalize upd G2 q (.lst [.str y1, .str y2]) = G3 at M3 eq
    refine ⟨_, rfl, _, rfl, by show 3 ≤ sizeLine; decide, fun q1 n1 => ?_⟩
    refine ⟨p, M3.pot.same (same_new n1), q1, _, rfl, .inl (.inl upd_same), M3.pot.off n1, by decide, by decide, fun v G4 hv L4 => ?_⟩
    obtain ⟨b, b0, b1, rfl⟩ : ∃ b : Int, 0 < b ∧ b ≤ 35 ∧ v = .int b := by
      rcases List.mem_cons.mp hv with rfl | hv
      · exact ⟨1, by decide, by decide, rfl⟩
      rcases List.mem_cons.mp hv with rfl | hv
      · exact ⟨6, by decide, by decide, rfl⟩
      rcases List.mem_cons.mp hv with rfl | hv
      · exact ⟨35, by decide, by decide, rfl⟩
      cases hv
    have M4 := (M3.new (o := .lst [.int 1, .int 6, .int 35]) n1).trans L4
    have eq4 : G4 q = some (.lst [.str y1, .str y2]) := L4.keep _ _ (same_new n1 _ _ eq) nqp
    refine ⟨p, b, rfl, M4.pot, b0, by omega, fun d2 G5 d0 d1 L5 => ⟨_, _, rfl, rfl, ?_⟩⟩
    have M5 := M4.trans L5
    have eq5 := L5.keep _ _ eq4 nqp
    have sz0 : 6 ≤ 6 + d2 := by omega
    have sz1 : 6 + d2 ≤ 40 := by omega
    refine ⟨by show 2 ≤ sizeLine; decide, fun T nT => ?_⟩
    have M6 := M5.new (o := .tup [.ref q, .int (6 + d2)]) nT
    have eq6 : upd G5 T (.tup [.ref q, .int (6 + d2)]) q = some (.lst [.str y1, .str y2]) := same_new nT _ _ eq5
    refine ⟨T, _, rfl, .inl (.inl upd_same), rfl, _, _, rfl, _, _, rfl, rfl, ?_⟩
    generalize upd G5 T (.tup [.ref q, .int (6 + d2)]) = G6 at M6 eq6
    -- the line
    refine ⟨6, rfl, by decide, by decide, fun X nX => lc_range (lo := 0) (n := 6) (fun i J => ∃ ts : List Str, ts.length = i ∧ (∀ t ∈ ts, Wd 200 t) ∧ J X = some (.lst (ts.map V.str)) ∧ Ladled p H J ∧ J q = some (.lst [.str y1, .str y2]))
      ⟨[], rfl, (fun t ht => by cases ht), upd_same, M6.mut (M6.free nX) (M6.pot.off nX), by rw [upd_ne (ne_of_none eq6 nX)]; exact eq6⟩ ?_ ?_⟩
    · rintro j J1 hj ⟨ts, rfl, wt, eX, LJ, eqJ⟩
      have nXp : X ≠ p := M6.pot.off nX
      have nXq : q ≠ X := ne_of_none eq6 nX
      refine ⟨rfl, yesT (iteT ⟨_, rfl, _, rfl, p, q, [y1, y2], rfl, LJ.pot, .inl (.inl eqJ), nqp, by show 0 < 2; decide, by show 2 < 1000; decide, fun y hy => ?_, fun y GJ Ly wy => ?_⟩)⟩
      · rcases List.mem_cons.mp hy with rfl | hy
        · exact ⟨z1, w1⟩
        rcases List.mem_cons.mp hy with rfl | hy
        · exact ⟨z2, w2.mono (by decide)⟩
        cases hy
      · have gX := Ly.keep _ _ eX nXp
        refine ⟨_, gX, small1000 (by rw [List.length_map]; omega), ts ++ [y], by rw [List.length_append]; rfl, fun t ht => ?_, ?_, (LJ.trans Ly).mut (M6.free nX) nXp, ?_⟩
        · rcases List.mem_append.mp ht with ht | ht
          · exact wt t ht
          · rw [List.mem_singleton.mp ht]
            exact wy
        · rw [upd_same, List.map_append]
          rfl
        · rw [upd_ne nXq]
          exact Ly.keep _ _ eqJ nqp
    · rintro J1 ⟨ts, tl, wt, eX, LJ, eqJ⟩
      refine ⟨6, rfl, by decide, by decide, fun Y nY => lc_range (lo := 0) (n := 6) (fun i J => ∃ bs : List Bool, bs.length = i ∧ bs.all id = true ∧ J Y = some (.lst (bs.map V.bl)) ∧ Same J1 J)
        ⟨[], rfl, rfl, upd_same, same_new nY⟩ ?_ ?_⟩
      · rintro j J2 hj ⟨bs, rfl, ha, eY, sJ⟩
        have pick : ∀ n : Nat, n < 6 → ∃ t ∈ ts, atI (ts.map V.str) (n : Int) = some (V.str t) := fun n hn => by
          have hn : n < ts.length := by omega
          exact ⟨ts[n], List.getElem_mem hn, atI_nat (by rw [List.getElem?_map, List.getElem?_eq_getElem hn]; rfl)⟩
        obtain ⟨t1, m1, a1⟩ := pick bs.length hj
        obtain ⟨t2, m2, a2⟩ := pick ((bs.length + 1) % 6) (Nat.mod_lt _ (by decide))
        refine ⟨rfl, yesT (iteT ?_)⟩
        refine ⟨_, rfl, _, rfl, _, rfl, X, _, _, _, rfl, rfl, .inl (.inl (sJ _ _ eX)), (by rw [Int.zero_add]; exact a1), ?_⟩
        refine ⟨_, rfl, _, rfl, _, _, rfl, rfl, .inl ⟨_, rfl, _, _, rfl, rfl, (by decide : (0 : Int) < 6), ?_⟩⟩
        refine ⟨X, _, _, _, rfl, rfl, .inl (.inl (sJ _ _ eX)), (show atI _ ((0 + (bs.length : Int) + 1) % 6) = some (V.str t2) by rw [Int.zero_add]; exact a2), ?_⟩
        refine ⟨6 + d2, t1, t2, rfl, sz0, sz1, wt _ m1, wt _ m2, fun G7 s7 => ?_⟩
        refine ⟨_, s7 _ _ eY, small1000 (by rw [List.length_map]; omega), bs ++ [true], by rw [List.length_append]; rfl, by rw [List.all_append, ha]; rfl, ?_, same_off (sJ.trans s7) nY⟩
        rw [upd_same, List.map_append]
        rfl
      · rintro J2 ⟨bs, el, ha, eY, sJ⟩
        refine ⟨Y, bs, rfl, .inl (.inl eY), ?_⟩
        rw [ha]
        exact k J2 (LJ.same sJ)
/-! ### law -/
def spLaw (K : PySem.W.Frag) : Sp := fun vs H Q _ => ∃ (a : Addr) (ns : List Int), vs = [.ref a] ∧ SqL K H a (ns.map V.int) ∧ ns.length ≤ 63 ∧ ∀ G, Q (.bl true) G
def ex1 : List Str := ["abcd~2", "abcd~2x"]
theorem ex1_ok : ∀ t ∈ ex1, Wd 200 t := by
  have a : ∀ t ∈ ex1, t.cps.toList.length ≤ 200 ∧ ∀ c ∈ t.cps.toList, c ∈ abc.cps.toList := by decide +kernel
  exact fun t ht => ⟨(a t ht).1, (a t ht).2⟩
def ex2 : List Str := ["abcd~2", "abcd~3"]
theorem ex1_names : namesOf ("tight" : String) 6 ex1 = ex2 := by decide +kernel
theorem ex2_ok : ∀ t ∈ ex2, Wd 300 t := by
  have a : ∀ t ∈ ex2, t.cps.toList.length ≤ 300 ∧ ∀ c ∈ t.cps.toList, c ∈ abc.cps.toList := by decide +kernel
  exact fun t ht => ⟨(a t ht).1, (a t ht).2⟩
theorem cal_law (B : Bi mg) {f : Addr} {fd : FuncData} (F : Fun K "law" "law" s_law f fd) (C_law_source : Cal P w K mg base 1 "_law_source" ps_law_source (spPot K)) (M_nm : Mak P w K mg base 2 "Namer" N (spNInit N (NmAt N))) (C_names : Cal P w K mg base 5 "names" ps_names (spNamesP K (NmAt N))) (C_law_right : CalG P w K mg base 7 "_law_right" ps_law_right spRight) : FnG P w K mg base 8 f fd ps_law (spLaw K) := by
  refine okG F sc_law (fun vs H Q E h => ?_) (fun cdv A outer s H vs Q E hr quiet h => ?_)
  · obtain ⟨a, ns, rfl, _⟩ := h
    rfl
  · obtain ⟨a, ns, rfl, hS, hl, k⟩ := h
    refine ⟨_, (pss_cons (ps_if (pt_cmpR (op_neD hr.units) (pe_own C_names hr (by decide) (by rfl) (pa_cons (pe_new M_nm hr (by decide) (by rfl) (pa_cons pe_str (pa_cons pe_int pa_nil))) (pa_cons (pe_tup (pa_cons pe_str (pa_cons pe_str pa_nil))) pa_nil))) (pe_tup (pa_cons pe_str (pa_cons pe_str pa_nil))) (nomark _)) (pss_one (ps_ret pe_bl)) pss_nil)
      (pss_one (ps_ret (pe_callB (cr_all rfl) (by rfl) B.all (by decide +kernel) (pa_cons (pe_lc (own := [("_law_k", 1)]) (by rfl) sc_law.nd (pi_range1 (by rfl) B.range (pa_cons (pe_callB (call_max2 rfl) (by rfl) B.max (by decide +kernel) (pa_cons pe_int (pa_cons (pe_callB (call_min2 rfl) (by rfl) B.min (by decide +kernel) (pa_cons (pe_callB call_len_seq (by rfl) B.len (by decide +kernel) (pa_cons (pv 0) pa_nil)) (pa_cons pe_int pa_nil))) pa_nil))) pa_nil)) (blkOk_by (own := [("_law_k", 1)]) (N := ["_law_script", "_law_k"]) (sc := defScope s_law) (by decide +kernel)) (fun _ _ _ _ _ => pg_name (i := 1) sc_law.nd rfl (.inl rfl)) (fun _ _ _ _ _ => pts_nil) (fun _ _ _ _ _ => (pe_ownG C_law_right hr (Nat.le_refl _) quiet (by rfl) (pa_cons (pe_own C_law_source hr (by decide) (by rfl) (pa_cons (pv 0) (pa_cons (pv 1) pa_nil))) pa_nil)))) pa_nil))))), ?_⟩
    have cs : (("tight" : String) : Str) ∈ sorts := by decide
    refine fun x dx nx ndx nex => ⟨x, dx, _, 6, rfl, upd_same, cs, by decide, by decide, fun G1 hN keep => ⟨rfl, ?_⟩⟩
    have s1 : Same H G1 := made_same nx ndx keep
    refine ⟨by show 2 ≤ sizeLine; decide, fun l nl => ?_⟩
    refine ⟨x, l, _, 6, ex1, rfl, hN.same (same_new nl), cs, by decide, by decide, .inl (.inl upd_same), by decide, ex1_ok, fun t G2 eT s2 => ?_⟩
    rw [ex1_names] at eT
    refine ⟨by show 2 ≤ sizeLine; decide, fun u nu => ?_⟩
    refine ne_no (xs := ex2) (ys := ex2) rfl (st_same (same_new nu) eT) (.inl (.inl upd_same)) ex2_ok ⟨_, rfl, iteF ?_⟩
    have sU : Same H (upd G2 u (.tup [.str "abcd~2", .str "abcd~3"])) := s1.trans ((same_new nl).trans (s2.trans (same_new nu)))
    generalize upd G2 u (.tup [.str "abcd~2", .str "abcd~3"]) = H2 at sU
    have hS2 := sq_same sU hS
    -- the numbers
    refine ⟨_, rfl, a, _, rfl, .inl hS2, _, _, rfl, _, _, rfl, ?_⟩
    rw [List.length_map]
    generalize hm : (if (5 : Int) < (ns.length : Int) then (5 : Int) else (ns.length : Int)) = m
    have m1 : m ≤ 5 := by rw [← hm]; split <;> omega
    refine ⟨_, rfl, by split <;> omega, by split <;> omega, fun D nD => ?_⟩
    refine lc_range (lo := 0) (n := (if m > (2 : Int) then m else 2).toNat) (fun i J => ∃ bs : List Bool, bs.length = i ∧ bs.all id = true ∧ J D = some (.lst (bs.map V.bl)) ∧ Same H2 J) ⟨[], rfl, rfl, upd_same, same_new nD⟩ ?_ ?_
    · rintro i J hi ⟨bs, rfl, ha, eD, sJ⟩
      have i5 : bs.length < 6 := by
        revert hi
        split <;> omega
      refine ⟨rfl, yesT (iteT ⟨_, rfl, _, rfl, a, bs.length, ns, ?_, sq_same sJ hS2, by omega, fun p G np hp sG => ?_⟩)⟩
      · rw [Int.zero_add]
        rfl
      · refine ⟨p, rfl, hp, fun G2 L => ?_⟩
        have nDp : D ≠ p := ne_of_none eD np
        have gD : G2 D = some (.lst (bs.map V.bl)) := L.keep _ _ (sG _ _ eD) nDp
        refine ⟨_, gD, small1000 (by rw [List.length_map]; omega), bs ++ [true], by rw [List.length_append]; rfl, by rw [List.all_append, ha]; rfl, ?_, fun b o e => ?_⟩
        · rw [upd_same, List.map_append]
          rfl
        · rw [upd_ne (ne_of_none e nD)]
          exact L.keep _ _ (sG _ _ (sJ _ _ e)) (ne_of_none (sJ _ _ e) np)
    · rintro J ⟨bs, el, ha, eD, sJ⟩
      refine ⟨D, bs, rfl, .inl (.inl eD), ?_⟩
      rw [ha]
      exact k J
end
end Gu
namespace Gu
open PySem PySem.Spec PyProof.Rows L2
theorem at_mk {K : PySem.W.Frag} {h : Heap} {mg : Str → Option Value} {x : Str} {st : Stmt} {ps : List Str} {f : Addr} {oc : Value} {od an : Option Addr} {sl : Array (Option Value)} {kV dc pm cd ct : Value} (X : K.In h) (G : h.Ns mainGlobals mg)
    (hb : ∀ (kV doc pm : Value) (an : Option Addr) (cdv ct : Value) (us : List Value), us.length = ps.length → bindArgs (PySem.W.fnOf x x (defArgs st) (defBody st) (defScope st) .none kV doc pm an cdv ct) ⟨us, []⟩ = pure (ps.zip us))
    (a : PySem.W.nsIn K mainGlobals x = some (some (.ref f))) (l : K.lookup f = some ⟨oc, od, .func (PySem.W.fnOf x x (defArgs st) (defBody st) (defScope st) .none kV dc pm an cd ct), sl⟩) (c : PySem.W.codeIn K cd x = true) (k : PySem.W.keepIn K (.ref f) = true) : At K mg x st ps :=
  ⟨f, _, fun_mk l c k, (fun_mk l c k).binds hb, PySem.W.mg_of X G a⟩
theorem cst_mk {K : PySem.W.Frag} {h : Heap} {mg : Str → Option Value} {x : Str} {v : V} {u : Value} (X : K.In h) (G : h.Ns mainGlobals mg) (r : RelV v u) (a : PySem.W.nsIn K mainGlobals x = some (some u)) : ∃ u, mg x = some u ∧ RelV v u := ⟨u, PySem.W.mg_of X G a, r⟩
end Gu
namespace Gu
open PySem PySem.Spec PyProof.Rows L2
theorem fin {P : Program} {w : World} {K : PySem.W.Frag} {mg : Str → Option Value} {base : Heap} {C N f : Addr} {fd : FuncData} (B : Bi mg) (Ss : ShC K mg C) (Is : InitAt K C) (Sn : NmC K mg N) (In : NInitAt K N)
    (A_check_mark : At K mg "check_mark" s_check_mark ps_check_mark) (A_check_text : At K mg "check_text" s_check_text ps_check_text) (A_check_row : At K mg "check_row" s_check_row ps_check_row) (A_shortened : At K mg "shortened" s_shortened ps_shortened) (A_shown_by : At K mg "shown_by" s_shown_by ps_shown_by) (A_show : At K mg "show" s_show ps_show) (A_is_integer : At K mg "is_integer" s_is_integer ps_is_integer) (A_is_tuple : At K mg "is_tuple" s_is_tuple ps_is_tuple) (A_is_text : At K mg "is_text" s_is_text ps_is_text) (A_check_texts : At K mg "check_texts" s_check_texts ps_check_texts) (A_check_namer : At K mg "check_namer" s_check_namer ps_check_namer) (A_base_of : At K mg "base_of" s_base_of ps_base_of) (A_numbered : At K mg "numbered" s_numbered ps_numbered) (A_counted_name : At K mg "counted_name" s_counted_name ps_counted_name) (A_free_name : At K mg "free_name" s_free_name ps_free_name) (A_name_of_next : At K mg "name_of_next" s_name_of_next ps_name_of_next) (A_named : At K mg "named" s_named ps_named) (A_names : At K mg "names" s_names ps_names) (A_law_source : At K mg "_law_source" s_law_source ps_law_source) (A_law_draw : At K mg "_law_draw" s_law_draw ps_law_draw) (A_law_one : At K mg "_law_one" s_law_one ps_law_one) (A_law_stem : At K mg "_law_stem" s_law_stem ps_law_stem) (A_law_word : At K mg "_law_word" s_law_word ps_law_word) (A_law_pair_right : At K mg "_law_pair_right" s_law_pair_right ps_law_pair_right) (A_law_right : At K mg "_law_right" s_law_right ps_law_right)
    (F : Fun K "law" "law" s_law f fd) : FnG P w K mg base 8 f fd ps_law (spLaw K) := by
  have c1 : Cal P w K mg base 1 "_law_draw" ps_law_draw spLadle := cal_draw B A_law_draw
  have c2 : Cal P w K mg base 2 "_law_one" ps_law_one (spOneOf K) := cal_one B A_law_one c1
  have c3 : Cal P w K mg base 2 "_law_stem" ps_law_stem spStem := cal_stem B A_law_stem c1
  have c4 : Cal P w K mg base 3 "_law_word" ps_law_word (spWord K) := cal_word B A_law_word c1 c2 c3
  have c8 : Cal P w K mg base 1 "is_integer" ps_is_integer (spIsInteger K) := cal_isInteger B A_is_integer
  have m1 : Mak P w K mg base 2 "Namer" N (spNInit N (NmAt N)) := mak_nm B Sn In c8
  have p1 : Cal P w K mg base 1 "is_tuple" ps_is_tuple (spIsTuple K) := cal_isTuple B A_is_tuple
  have p2 : Cal P w K mg base 1 "is_text" ps_is_text (spIsText K) := cal_isText B A_is_text
  have p3 : Cal P w K mg base 2 "check_texts" ps_check_texts (spCheckTexts K) := cal_checkTexts B A_check_texts p1 p2
  have p4 : Cal P w K mg base 1 "check_namer" ps_check_namer (spCheckNamer N) := cal_checkNamer B Sn A_check_namer
  have p5 : Cal P w K mg base 1 "base_of" ps_base_of (spBaseOf N) := cal_baseOf B Sn A_base_of
  have p6 : Cal P w K mg base 1 "numbered" ps_numbered (spNumP N) := cal_numP B Sn A_numbered
  have p7 : Cal P w K mg base 2 "counted_name" ps_counted_name (spCounted K N) := cal_counted B Sn A_counted_name p5 p6
  have p8 : Cal P w K mg base 2 "free_name" ps_free_name (spFree K N) := cal_free B A_free_name p6
  have p9 : Cal P w K mg base 3 "name_of_next" ps_name_of_next (spNext K N) := cal_next B Sn A_name_of_next p5 p7 p8
  have p10 : Cal P w K mg base 4 "named" ps_named (spNamesP K (NmAt N)) := cal_named B A_named p9
  have d1 : Cal P w K mg base 5 "names" ps_names (spNamesP K (NmAt N)) := cal_namesP B A_names p4 p3 p10
  have e1 : Cal P w K mg base 2 "check_text" ps_check_text spCheckText := cal_checkText B A_check_text p2
  have e2 : Cal P w K mg base 2 "check_row" ps_check_row (spCheckRow C) := cal_checkRow B Ss A_check_row p1
  have e3 : Cal P w K mg base 1 "shortened" ps_shortened (spShortS C) := cal_shortS B Ss A_shortened
  have sby : Cal P w K mg base 2 "shown_by" ps_shown_by (spShownBy C) := cal_shownBy B Ss A_shown_by e3
  have e4 : Cal P w K mg base 3 "show" ps_show (spShow C) := cal_show B A_show e2 e1 sby
  have cmk : Cal P w K mg base 2 "check_mark" ps_check_mark spCheckMark := cal_checkMark B A_check_mark p2
  have m2 : Mak P w K mg base 3 "Shortener" C (spInit C) := mak_sh B Ss Is c8 cmk
  have d2 : Cal P w K mg base 6 "_law_pair_right" ps_law_pair_right spPairR := cal_pairR B A_law_pair_right m2 e4 m1 d1
  have d3 : Cal P w K mg base 1 "_law_source" ps_law_source (spPot K) := cal_source B A_law_source
  have d4 : CalG P w K mg base 7 "_law_right" ps_law_right spRight := cal_right B A_law_right c1 c2 c3 c4 d2
  exact cal_law B F d3 m1 d1 d4
end Gu
namespace Gu
open PySem PySem.Spec PyProof.Rows L2
theorem all_mk {l : PySem.W.OpenLaw} {w : World} {K : PySem.W.Frag} {h : Heap} {mg : Str → Option Value} {fa : Addr} {f_check_mark : Addr} {oc_check_mark kV_check_mark dc_check_mark pm_check_mark cd_check_mark ct_check_mark : Value} {od_check_mark an_check_mark : Option Addr} {sl_check_mark : Array (Option Value)} {f_check_text : Addr} {oc_check_text kV_check_text dc_check_text pm_check_text cd_check_text ct_check_text : Value} {od_check_text an_check_text : Option Addr} {sl_check_text : Array (Option Value)} {f_check_row : Addr} {oc_check_row kV_check_row dc_check_row pm_check_row cd_check_row ct_check_row : Value} {od_check_row an_check_row : Option Addr} {sl_check_row : Array (Option Value)} {f_shortened : Addr} {oc_shortened kV_shortened dc_shortened pm_shortened cd_shortened ct_shortened : Value} {od_shortened an_shortened : Option Addr} {sl_shortened : Array (Option Value)} {f_shown_by : Addr} {oc_shown_by kV_shown_by dc_shown_by pm_shown_by cd_shown_by ct_shown_by : Value} {od_shown_by an_shown_by : Option Addr} {sl_shown_by : Array (Option Value)} {f_show : Addr} {oc_show kV_show dc_show pm_show cd_show ct_show : Value} {od_show an_show : Option Addr} {sl_show : Array (Option Value)} {f_is_integer : Addr} {oc_is_integer kV_is_integer dc_is_integer pm_is_integer cd_is_integer ct_is_integer : Value} {od_is_integer an_is_integer : Option Addr} {sl_is_integer : Array (Option Value)} {f_is_tuple : Addr} {oc_is_tuple kV_is_tuple dc_is_tuple pm_is_tuple cd_is_tuple ct_is_tuple : Value} {od_is_tuple an_is_tuple : Option Addr} {sl_is_tuple : Array (Option Value)} {f_is_text : Addr} {oc_is_text kV_is_text dc_is_text pm_is_text cd_is_text ct_is_text : Value} {od_is_text an_is_text : Option Addr} {sl_is_text : Array (Option Value)} {f_check_texts : Addr} {oc_check_texts kV_check_texts dc_check_texts pm_check_texts cd_check_texts ct_check_texts : Value} {od_check_texts an_check_texts : Option Addr} {sl_check_texts : Array (Option Value)} {f_check_namer : Addr} {oc_check_namer kV_check_namer dc_check_namer pm_check_namer cd_check_namer ct_check_namer : Value} {od_check_namer an_check_namer : Option Addr} {sl_check_namer : Array (Option Value)} {f_base_of : Addr} {oc_base_of kV_base_of dc_base_of pm_base_of cd_base_of ct_base_of : Value} {od_base_of an_base_of : Option Addr} {sl_base_of : Array (Option Value)} {f_numbered : Addr} {oc_numbered kV_numbered dc_numbered pm_numbered cd_numbered ct_numbered : Value} {od_numbered an_numbered : Option Addr} {sl_numbered : Array (Option Value)} {f_counted_name : Addr} {oc_counted_name kV_counted_name dc_counted_name pm_counted_name cd_counted_name ct_counted_name : Value} {od_counted_name an_counted_name : Option Addr} {sl_counted_name : Array (Option Value)} {f_free_name : Addr} {oc_free_name kV_free_name dc_free_name pm_free_name cd_free_name ct_free_name : Value} {od_free_name an_free_name : Option Addr} {sl_free_name : Array (Option Value)} {f_name_of_next : Addr} {oc_name_of_next kV_name_of_next dc_name_of_next pm_name_of_next cd_name_of_next ct_name_of_next : Value} {od_name_of_next an_name_of_next : Option Addr} {sl_name_of_next : Array (Option Value)} {f_named : Addr} {oc_named kV_named dc_named pm_named cd_named ct_named : Value} {od_named an_named : Option Addr} {sl_named : Array (Option Value)} {f_names : Addr} {oc_names kV_names dc_names pm_names cd_names ct_names : Value} {od_names an_names : Option Addr} {sl_names : Array (Option Value)} {f_law_source : Addr} {oc_law_source kV_law_source dc_law_source pm_law_source cd_law_source ct_law_source : Value} {od_law_source an_law_source : Option Addr} {sl_law_source : Array (Option Value)} {f_law_draw : Addr} {oc_law_draw kV_law_draw dc_law_draw pm_law_draw cd_law_draw ct_law_draw : Value} {od_law_draw an_law_draw : Option Addr} {sl_law_draw : Array (Option Value)} {f_law_one : Addr} {oc_law_one kV_law_one dc_law_one pm_law_one cd_law_one ct_law_one : Value} {od_law_one an_law_one : Option Addr} {sl_law_one : Array (Option Value)} {f_law_stem : Addr} {oc_law_stem kV_law_stem dc_law_stem pm_law_stem cd_law_stem ct_law_stem : Value} {od_law_stem an_law_stem : Option Addr} {sl_law_stem : Array (Option Value)} {f_law_word : Addr} {oc_law_word kV_law_word dc_law_word pm_law_word cd_law_word ct_law_word : Value} {od_law_word an_law_word : Option Addr} {sl_law_word : Array (Option Value)} {f_law_pair_right : Addr} {oc_law_pair_right kV_law_pair_right dc_law_pair_right pm_law_pair_right cd_law_pair_right ct_law_pair_right : Value} {od_law_pair_right an_law_pair_right : Option Addr} {sl_law_pair_right : Array (Option Value)} {f_law_right : Addr} {oc_law_right kV_law_right dc_law_right pm_law_right cd_law_right ct_law_right : Value} {od_law_right an_law_right : Option Addr} {sl_law_right : Array (Option Value)} {f_law : Addr} {oc_law kV_law dc_law pm_law cd_law ct_law : Value} {od_law an_law : Option Addr} {sl_law : Array (Option Value)} {C : Addr} {f_is : Addr} {oc_is kV_is dc_is pm_is cd_is ct_is : Value} {od_is an_is : Option Addr} {sl_is : Array (Option Value)} {N : Addr} {f_in : Addr} {oc_in kV_in dc_in pm_in cd_in ct_in : Value} {od_in an_in : Option Addr} {sl_in : Array (Option Value)} {u_MOST_SIGNS : Tok} {u_MOST_MARK : Tok} {u_MOST_ROW : Tok} {u_MOST_TEXT : Tok} {u_MOST_LISTED : Tok} {u_SIGNS : Tok} {T_RULES : Addr} {td_RULES : Option Addr} {ts_RULES : Array (Option Value)} {tn_RULES : Nat} {e_RULES_0 e_RULES_1 e_RULES_2 : Tok} {u_LEAST_WIDTH : Tok}
    (X : K.In h) (G : h.Ns mainGlobals mg) (hfa : mg "law" = some (.ref fa))
    (a_check_mark : PySem.W.nsIn K mainGlobals "check_mark" = some (some (.ref f_check_mark)))
    (l_check_mark : K.lookup f_check_mark = some ⟨oc_check_mark, od_check_mark, .func (PySem.W.fnOf "check_mark" "check_mark" (defArgs s_check_mark) (defBody s_check_mark) (defScope s_check_mark) .none kV_check_mark dc_check_mark pm_check_mark an_check_mark cd_check_mark ct_check_mark), sl_check_mark⟩)
    (c_check_mark : PySem.W.codeIn K cd_check_mark "check_mark" = true)
    (k_check_mark : PySem.W.keepIn K (.ref f_check_mark) = true)
    (a_check_text : PySem.W.nsIn K mainGlobals "check_text" = some (some (.ref f_check_text)))
    (l_check_text : K.lookup f_check_text = some ⟨oc_check_text, od_check_text, .func (PySem.W.fnOf "check_text" "check_text" (defArgs s_check_text) (defBody s_check_text) (defScope s_check_text) .none kV_check_text dc_check_text pm_check_text an_check_text cd_check_text ct_check_text), sl_check_text⟩)
    (c_check_text : PySem.W.codeIn K cd_check_text "check_text" = true)
    (k_check_text : PySem.W.keepIn K (.ref f_check_text) = true)
    (a_check_row : PySem.W.nsIn K mainGlobals "check_row" = some (some (.ref f_check_row)))
    (l_check_row : K.lookup f_check_row = some ⟨oc_check_row, od_check_row, .func (PySem.W.fnOf "check_row" "check_row" (defArgs s_check_row) (defBody s_check_row) (defScope s_check_row) .none kV_check_row dc_check_row pm_check_row an_check_row cd_check_row ct_check_row), sl_check_row⟩)
    (c_check_row : PySem.W.codeIn K cd_check_row "check_row" = true)
    (k_check_row : PySem.W.keepIn K (.ref f_check_row) = true)
    (a_shortened : PySem.W.nsIn K mainGlobals "shortened" = some (some (.ref f_shortened)))
    (l_shortened : K.lookup f_shortened = some ⟨oc_shortened, od_shortened, .func (PySem.W.fnOf "shortened" "shortened" (defArgs s_shortened) (defBody s_shortened) (defScope s_shortened) .none kV_shortened dc_shortened pm_shortened an_shortened cd_shortened ct_shortened), sl_shortened⟩)
    (c_shortened : PySem.W.codeIn K cd_shortened "shortened" = true)
    (k_shortened : PySem.W.keepIn K (.ref f_shortened) = true)
    (a_shown_by : PySem.W.nsIn K mainGlobals "shown_by" = some (some (.ref f_shown_by)))
    (l_shown_by : K.lookup f_shown_by = some ⟨oc_shown_by, od_shown_by, .func (PySem.W.fnOf "shown_by" "shown_by" (defArgs s_shown_by) (defBody s_shown_by) (defScope s_shown_by) .none kV_shown_by dc_shown_by pm_shown_by an_shown_by cd_shown_by ct_shown_by), sl_shown_by⟩)
    (c_shown_by : PySem.W.codeIn K cd_shown_by "shown_by" = true)
    (k_shown_by : PySem.W.keepIn K (.ref f_shown_by) = true)
    (a_show : PySem.W.nsIn K mainGlobals "show" = some (some (.ref f_show)))
    (l_show : K.lookup f_show = some ⟨oc_show, od_show, .func (PySem.W.fnOf "show" "show" (defArgs s_show) (defBody s_show) (defScope s_show) .none kV_show dc_show pm_show an_show cd_show ct_show), sl_show⟩)
    (c_show : PySem.W.codeIn K cd_show "show" = true)
    (k_show : PySem.W.keepIn K (.ref f_show) = true)
    (a_is_integer : PySem.W.nsIn K mainGlobals "is_integer" = some (some (.ref f_is_integer)))
    (l_is_integer : K.lookup f_is_integer = some ⟨oc_is_integer, od_is_integer, .func (PySem.W.fnOf "is_integer" "is_integer" (defArgs s_is_integer) (defBody s_is_integer) (defScope s_is_integer) .none kV_is_integer dc_is_integer pm_is_integer an_is_integer cd_is_integer ct_is_integer), sl_is_integer⟩)
    (c_is_integer : PySem.W.codeIn K cd_is_integer "is_integer" = true)
    (k_is_integer : PySem.W.keepIn K (.ref f_is_integer) = true)
    (a_is_tuple : PySem.W.nsIn K mainGlobals "is_tuple" = some (some (.ref f_is_tuple)))
    (l_is_tuple : K.lookup f_is_tuple = some ⟨oc_is_tuple, od_is_tuple, .func (PySem.W.fnOf "is_tuple" "is_tuple" (defArgs s_is_tuple) (defBody s_is_tuple) (defScope s_is_tuple) .none kV_is_tuple dc_is_tuple pm_is_tuple an_is_tuple cd_is_tuple ct_is_tuple), sl_is_tuple⟩)
    (c_is_tuple : PySem.W.codeIn K cd_is_tuple "is_tuple" = true)
    (k_is_tuple : PySem.W.keepIn K (.ref f_is_tuple) = true)
    (a_is_text : PySem.W.nsIn K mainGlobals "is_text" = some (some (.ref f_is_text)))
    (l_is_text : K.lookup f_is_text = some ⟨oc_is_text, od_is_text, .func (PySem.W.fnOf "is_text" "is_text" (defArgs s_is_text) (defBody s_is_text) (defScope s_is_text) .none kV_is_text dc_is_text pm_is_text an_is_text cd_is_text ct_is_text), sl_is_text⟩)
    (c_is_text : PySem.W.codeIn K cd_is_text "is_text" = true)
    (k_is_text : PySem.W.keepIn K (.ref f_is_text) = true)
    (a_check_texts : PySem.W.nsIn K mainGlobals "check_texts" = some (some (.ref f_check_texts)))
    (l_check_texts : K.lookup f_check_texts = some ⟨oc_check_texts, od_check_texts, .func (PySem.W.fnOf "check_texts" "check_texts" (defArgs s_check_texts) (defBody s_check_texts) (defScope s_check_texts) .none kV_check_texts dc_check_texts pm_check_texts an_check_texts cd_check_texts ct_check_texts), sl_check_texts⟩)
    (c_check_texts : PySem.W.codeIn K cd_check_texts "check_texts" = true)
    (k_check_texts : PySem.W.keepIn K (.ref f_check_texts) = true)
    (a_check_namer : PySem.W.nsIn K mainGlobals "check_namer" = some (some (.ref f_check_namer)))
    (l_check_namer : K.lookup f_check_namer = some ⟨oc_check_namer, od_check_namer, .func (PySem.W.fnOf "check_namer" "check_namer" (defArgs s_check_namer) (defBody s_check_namer) (defScope s_check_namer) .none kV_check_namer dc_check_namer pm_check_namer an_check_namer cd_check_namer ct_check_namer), sl_check_namer⟩)
    (c_check_namer : PySem.W.codeIn K cd_check_namer "check_namer" = true)
    (k_check_namer : PySem.W.keepIn K (.ref f_check_namer) = true)
    (a_base_of : PySem.W.nsIn K mainGlobals "base_of" = some (some (.ref f_base_of)))
    (l_base_of : K.lookup f_base_of = some ⟨oc_base_of, od_base_of, .func (PySem.W.fnOf "base_of" "base_of" (defArgs s_base_of) (defBody s_base_of) (defScope s_base_of) .none kV_base_of dc_base_of pm_base_of an_base_of cd_base_of ct_base_of), sl_base_of⟩)
    (c_base_of : PySem.W.codeIn K cd_base_of "base_of" = true)
    (k_base_of : PySem.W.keepIn K (.ref f_base_of) = true)
    (a_numbered : PySem.W.nsIn K mainGlobals "numbered" = some (some (.ref f_numbered)))
    (l_numbered : K.lookup f_numbered = some ⟨oc_numbered, od_numbered, .func (PySem.W.fnOf "numbered" "numbered" (defArgs s_numbered) (defBody s_numbered) (defScope s_numbered) .none kV_numbered dc_numbered pm_numbered an_numbered cd_numbered ct_numbered), sl_numbered⟩)
    (c_numbered : PySem.W.codeIn K cd_numbered "numbered" = true)
    (k_numbered : PySem.W.keepIn K (.ref f_numbered) = true)
    (a_counted_name : PySem.W.nsIn K mainGlobals "counted_name" = some (some (.ref f_counted_name)))
    (l_counted_name : K.lookup f_counted_name = some ⟨oc_counted_name, od_counted_name, .func (PySem.W.fnOf "counted_name" "counted_name" (defArgs s_counted_name) (defBody s_counted_name) (defScope s_counted_name) .none kV_counted_name dc_counted_name pm_counted_name an_counted_name cd_counted_name ct_counted_name), sl_counted_name⟩)
    (c_counted_name : PySem.W.codeIn K cd_counted_name "counted_name" = true)
    (k_counted_name : PySem.W.keepIn K (.ref f_counted_name) = true)
    (a_free_name : PySem.W.nsIn K mainGlobals "free_name" = some (some (.ref f_free_name)))
    (l_free_name : K.lookup f_free_name = some ⟨oc_free_name, od_free_name, .func (PySem.W.fnOf "free_name" "free_name" (defArgs s_free_name) (defBody s_free_name) (defScope s_free_name) .none kV_free_name dc_free_name pm_free_name an_free_name cd_free_name ct_free_name), sl_free_name⟩)
    (c_free_name : PySem.W.codeIn K cd_free_name "free_name" = true)
    (k_free_name : PySem.W.keepIn K (.ref f_free_name) = true)
    (a_name_of_next : PySem.W.nsIn K mainGlobals "name_of_next" = some (some (.ref f_name_of_next)))
    (l_name_of_next : K.lookup f_name_of_next = some ⟨oc_name_of_next, od_name_of_next, .func (PySem.W.fnOf "name_of_next" "name_of_next" (defArgs s_name_of_next) (defBody s_name_of_next) (defScope s_name_of_next) .none kV_name_of_next dc_name_of_next pm_name_of_next an_name_of_next cd_name_of_next ct_name_of_next), sl_name_of_next⟩)
    (c_name_of_next : PySem.W.codeIn K cd_name_of_next "name_of_next" = true)
    (k_name_of_next : PySem.W.keepIn K (.ref f_name_of_next) = true)
    (a_named : PySem.W.nsIn K mainGlobals "named" = some (some (.ref f_named)))
    (l_named : K.lookup f_named = some ⟨oc_named, od_named, .func (PySem.W.fnOf "named" "named" (defArgs s_named) (defBody s_named) (defScope s_named) .none kV_named dc_named pm_named an_named cd_named ct_named), sl_named⟩)
    (c_named : PySem.W.codeIn K cd_named "named" = true)
    (k_named : PySem.W.keepIn K (.ref f_named) = true)
    (a_names : PySem.W.nsIn K mainGlobals "names" = some (some (.ref f_names)))
    (l_names : K.lookup f_names = some ⟨oc_names, od_names, .func (PySem.W.fnOf "names" "names" (defArgs s_names) (defBody s_names) (defScope s_names) .none kV_names dc_names pm_names an_names cd_names ct_names), sl_names⟩)
    (c_names : PySem.W.codeIn K cd_names "names" = true)
    (k_names : PySem.W.keepIn K (.ref f_names) = true)
    (a_law_source : PySem.W.nsIn K mainGlobals "_law_source" = some (some (.ref f_law_source)))
    (l_law_source : K.lookup f_law_source = some ⟨oc_law_source, od_law_source, .func (PySem.W.fnOf "_law_source" "_law_source" (defArgs s_law_source) (defBody s_law_source) (defScope s_law_source) .none kV_law_source dc_law_source pm_law_source an_law_source cd_law_source ct_law_source), sl_law_source⟩)
    (c_law_source : PySem.W.codeIn K cd_law_source "_law_source" = true)
    (k_law_source : PySem.W.keepIn K (.ref f_law_source) = true)
    (a_law_draw : PySem.W.nsIn K mainGlobals "_law_draw" = some (some (.ref f_law_draw)))
    (l_law_draw : K.lookup f_law_draw = some ⟨oc_law_draw, od_law_draw, .func (PySem.W.fnOf "_law_draw" "_law_draw" (defArgs s_law_draw) (defBody s_law_draw) (defScope s_law_draw) .none kV_law_draw dc_law_draw pm_law_draw an_law_draw cd_law_draw ct_law_draw), sl_law_draw⟩)
    (c_law_draw : PySem.W.codeIn K cd_law_draw "_law_draw" = true)
    (k_law_draw : PySem.W.keepIn K (.ref f_law_draw) = true)
    (a_law_one : PySem.W.nsIn K mainGlobals "_law_one" = some (some (.ref f_law_one)))
    (l_law_one : K.lookup f_law_one = some ⟨oc_law_one, od_law_one, .func (PySem.W.fnOf "_law_one" "_law_one" (defArgs s_law_one) (defBody s_law_one) (defScope s_law_one) .none kV_law_one dc_law_one pm_law_one an_law_one cd_law_one ct_law_one), sl_law_one⟩)
    (c_law_one : PySem.W.codeIn K cd_law_one "_law_one" = true)
    (k_law_one : PySem.W.keepIn K (.ref f_law_one) = true)
    (a_law_stem : PySem.W.nsIn K mainGlobals "_law_stem" = some (some (.ref f_law_stem)))
    (l_law_stem : K.lookup f_law_stem = some ⟨oc_law_stem, od_law_stem, .func (PySem.W.fnOf "_law_stem" "_law_stem" (defArgs s_law_stem) (defBody s_law_stem) (defScope s_law_stem) .none kV_law_stem dc_law_stem pm_law_stem an_law_stem cd_law_stem ct_law_stem), sl_law_stem⟩)
    (c_law_stem : PySem.W.codeIn K cd_law_stem "_law_stem" = true)
    (k_law_stem : PySem.W.keepIn K (.ref f_law_stem) = true)
    (a_law_word : PySem.W.nsIn K mainGlobals "_law_word" = some (some (.ref f_law_word)))
    (l_law_word : K.lookup f_law_word = some ⟨oc_law_word, od_law_word, .func (PySem.W.fnOf "_law_word" "_law_word" (defArgs s_law_word) (defBody s_law_word) (defScope s_law_word) .none kV_law_word dc_law_word pm_law_word an_law_word cd_law_word ct_law_word), sl_law_word⟩)
    (c_law_word : PySem.W.codeIn K cd_law_word "_law_word" = true)
    (k_law_word : PySem.W.keepIn K (.ref f_law_word) = true)
    (a_law_pair_right : PySem.W.nsIn K mainGlobals "_law_pair_right" = some (some (.ref f_law_pair_right)))
    (l_law_pair_right : K.lookup f_law_pair_right = some ⟨oc_law_pair_right, od_law_pair_right, .func (PySem.W.fnOf "_law_pair_right" "_law_pair_right" (defArgs s_law_pair_right) (defBody s_law_pair_right) (defScope s_law_pair_right) .none kV_law_pair_right dc_law_pair_right pm_law_pair_right an_law_pair_right cd_law_pair_right ct_law_pair_right), sl_law_pair_right⟩)
    (c_law_pair_right : PySem.W.codeIn K cd_law_pair_right "_law_pair_right" = true)
    (k_law_pair_right : PySem.W.keepIn K (.ref f_law_pair_right) = true)
    (a_law_right : PySem.W.nsIn K mainGlobals "_law_right" = some (some (.ref f_law_right)))
    (l_law_right : K.lookup f_law_right = some ⟨oc_law_right, od_law_right, .func (PySem.W.fnOf "_law_right" "_law_right" (defArgs s_law_right) (defBody s_law_right) (defScope s_law_right) .none kV_law_right dc_law_right pm_law_right an_law_right cd_law_right ct_law_right), sl_law_right⟩)
    (c_law_right : PySem.W.codeIn K cd_law_right "_law_right" = true)
    (k_law_right : PySem.W.keepIn K (.ref f_law_right) = true)
    (a_law : PySem.W.nsIn K mainGlobals "law" = some (some (.ref f_law)))
    (l_law : K.lookup f_law = some ⟨oc_law, od_law, .func (PySem.W.fnOf "law" "law" (defArgs s_law) (defBody s_law) (defScope s_law) .none kV_law dc_law pm_law an_law cd_law ct_law), sl_law⟩)
    (c_law : PySem.W.codeIn K cd_law "law" = true)
    (k_law : PySem.W.keepIn K (.ref f_law) = true)
    (qn : PySem.W.specialIn K (.builtin "object.__class__") "__get__" = some (some (.builtin "getset_descriptor.__get__")))
    (qt : PySem.W.takesIn K (.builtin "object.__class__") = some true)
    (asC : PySem.W.nsIn K mainGlobals "Shortener" = some (some (.ref C)))
    (a_is : PySem.W.findIn K (.ref C) "__init__" = some (some (.ref f_is)))
    (l_is : K.lookup f_is = some ⟨oc_is, od_is, .func (PySem.W.fnOf "__init__" "Shortener.__init__" (defArgs s_Shortener_init) (defBody s_Shortener_init) (defScope s_Shortener_init) .none kV_is dc_is pm_is an_is cd_is ct_is), sl_is⟩)
    (c_is : PySem.W.codeIn K cd_is "Shortener.__init__" = true)
    (k_is : PySem.W.keepIn K (.ref f_is) = true)
    (i_is : PySem.W.isFn K (.ref f_is) = true)
    (pgs : PySem.W.plainGet K C Str.empty = true)
    (hds : PySem.W.hasDictIn K C = true)
    (pos : PySem.W.plainOver K C = true)
    (sas : PySem.W.findIn K (.ref C) "__setattr__" = some (some (.builtin "object.__setattr__")))
    (mksC : PySem.W.makesIn K C = true)
    (ksC : PySem.W.keepIn K (.ref C) = true)
    (ns_limit : PySem.W.findIn K (.ref C) "limit" = some none)
    (ns_head : PySem.W.findIn K (.ref C) "head" = some none)
    (ns_tail : PySem.W.findIn K (.ref C) "tail" = some none)
    (ns_mark : PySem.W.findIn K (.ref C) "mark" = some none)
    (ns_told : PySem.W.findIn K (.ref C) "told" = some none)
    (qas : PySem.W.findIn K (.ref C) "__class__" = some (some (.builtin "object.__class__")))
    (qms : PySem.W.mroIn K C (.type "object") = some true)
    (anC : PySem.W.nsIn K mainGlobals "Namer" = some (some (.ref N)))
    (a_in : PySem.W.findIn K (.ref N) "__init__" = some (some (.ref f_in)))
    (l_in : K.lookup f_in = some ⟨oc_in, od_in, .func (PySem.W.fnOf "__init__" "Namer.__init__" (defArgs s_Namer_init) (defBody s_Namer_init) (defScope s_Namer_init) .none kV_in dc_in pm_in an_in cd_in ct_in), sl_in⟩)
    (c_in : PySem.W.codeIn K cd_in "Namer.__init__" = true)
    (k_in : PySem.W.keepIn K (.ref f_in) = true)
    (i_in : PySem.W.isFn K (.ref f_in) = true)
    (pgn : PySem.W.plainGet K N Str.empty = true)
    (hdn : PySem.W.hasDictIn K N = true)
    (pon : PySem.W.plainOver K N = true)
    (san : PySem.W.findIn K (.ref N) "__setattr__" = some (some (.builtin "object.__setattr__")))
    (mknC : PySem.W.makesIn K N = true)
    (knC : PySem.W.keepIn K (.ref N) = true)
    (nn_rule : PySem.W.findIn K (.ref N) "rule" = some none)
    (nn_width : PySem.W.findIn K (.ref N) "width" = some none)
    (qan : PySem.W.findIn K (.ref N) "__class__" = some (some (.builtin "object.__class__")))
    (qmn : PySem.W.mroIn K N (.type "object") = some true)
    (z_ValueError : PySem.W.nsIn K mainGlobals "ValueError" = some none)
    (z_abs : PySem.W.nsIn K mainGlobals "abs" = some none)
    (z_all : PySem.W.nsIn K mainGlobals "all" = some none)
    (z_bool : PySem.W.nsIn K mainGlobals "bool" = some none)
    (z_divmod : PySem.W.nsIn K mainGlobals "divmod" = some none)
    (z_enumerate : PySem.W.nsIn K mainGlobals "enumerate" = some none)
    (z_int : PySem.W.nsIn K mainGlobals "int" = some none)
    (z_isinstance : PySem.W.nsIn K mainGlobals "isinstance" = some none)
    (z_len : PySem.W.nsIn K mainGlobals "len" = some none)
    (z_max : PySem.W.nsIn K mainGlobals "max" = some none)
    (z_min : PySem.W.nsIn K mainGlobals "min" = some none)
    (z_range : PySem.W.nsIn K mainGlobals "range" = some none)
    (z_str : PySem.W.nsIn K mainGlobals "str" = some none)
    (z_tuple : PySem.W.nsIn K mainGlobals "tuple" = some none)
    (z_MOST_SIGNS : PySem.W.nsIn K mainGlobals "MOST_SIGNS" = some (some (.int 40 u_MOST_SIGNS)))
    (z_MOST_MARK : PySem.W.nsIn K mainGlobals "MOST_MARK" = some (some (.int 3 u_MOST_MARK)))
    (z_MOST_ROW : PySem.W.nsIn K mainGlobals "MOST_ROW" = some (some (.int 4 u_MOST_ROW)))
    (z_MOST_TEXT : PySem.W.nsIn K mainGlobals "MOST_TEXT" = some (some (.int 200 u_MOST_TEXT)))
    (z_MOST_LISTED : PySem.W.nsIn K mainGlobals "MOST_LISTED" = some (some (.int 6 u_MOST_LISTED)))
    (z_SIGNS : PySem.W.nsIn K mainGlobals "SIGNS" = some (some (.str ".0123456789abcdefghijklmnopqrstuvwxyz~" u_SIGNS)))
    (z_RULES : PySem.W.nsIn K mainGlobals "RULES" = some (some (.ref T_RULES)))
    (zl_RULES : K.lookup T_RULES = some ⟨.type "tuple", td_RULES, .seq #[.str "count" e_RULES_0, .str "free" e_RULES_1, .str "tight" e_RULES_2] tn_RULES, ts_RULES⟩)
    (z_LEAST_WIDTH : PySem.W.nsIn K mainGlobals "LEAST_WIDTH" = some (some (.int 6 u_LEAST_WIDTH))) :
    ∃ fd : FuncData, (∀ (s : Shared) (v : Value), BindsTo s fd ⟨[v], []⟩ [("_law_script", v)]) ∧ ∀ base : Heap, K.In base → base.Ns mainGlobals mg → FnG l.prog w K mg base 8 fa fd ["_law_script"] (spLaw K) := by
  have e := hfa.symm.trans (PySem.W.mg_of X G a_law)
  cases e
  have B : Bi mg := ⟨PySem.W.mg_none_of X G z_ValueError, PySem.W.mg_none_of X G z_abs, PySem.W.mg_none_of X G z_all, PySem.W.mg_none_of X G z_bool, PySem.W.mg_none_of X G z_divmod, PySem.W.mg_none_of X G z_enumerate, PySem.W.mg_none_of X G z_int, PySem.W.mg_none_of X G z_isinstance, PySem.W.mg_none_of X G z_len, PySem.W.mg_none_of X G z_max, PySem.W.mg_none_of X G z_min, PySem.W.mg_none_of X G z_range, PySem.W.mg_none_of X G z_str, PySem.W.mg_none_of X G z_tuple, cst_mk X G ⟨_, rfl⟩ z_MOST_SIGNS, cst_mk X G ⟨_, rfl⟩ z_MOST_MARK, cst_mk X G ⟨_, rfl⟩ z_MOST_ROW, cst_mk X G ⟨_, rfl⟩ z_MOST_TEXT, cst_mk X G ⟨_, rfl⟩ z_MOST_LISTED, cst_mk X G ⟨_, rfl⟩ z_SIGNS, cst_mk X G ⟨_, rfl⟩ z_LEAST_WIDTH⟩
  have Ss : ShC K mg C := ⟨⟨pgs, hds, pos, sas⟩, ns_limit, ns_head, ns_tail, ns_mark, ns_told, PySem.W.mg_of X G asC, qas, qn, qt, qms, if_pos (beq_self_eq_true _)⟩
  have Is : InitAt K C := ⟨f_is, _, ⟨mksC, a_is, i_is, ksC⟩, fun_mk l_is c_is k_is, (fun_mk l_is c_is k_is).binds fun _ _ _ _ _ _ us hl => match us, hl with | [_, _, _, _, _], _ => rfl⟩
  have Sn : NmC K mg N := ⟨⟨pgn, hdn, pon, san⟩, nn_rule, nn_width, PySem.W.mg_of X G anC, qan, qn, qt, qmn, if_pos (beq_self_eq_true _), ⟨T_RULES, PySem.W.mg_of X G z_RULES, fun H => .inr ⟨_, _, _, zl_RULES, rfl, rfl, by show 3 ≤ sizeLine; decide, (.cons ⟨_, rfl⟩ (.cons ⟨_, rfl⟩ (.cons ⟨_, rfl⟩ .nil)))⟩⟩⟩
  have In : NInitAt K N := ⟨f_in, _, ⟨mknC, a_in, i_in, knC⟩, fun_mk l_in c_in k_in, (fun_mk l_in c_in k_in).binds fun _ _ _ _ _ _ us hl => match us, hl with | [_, _, _], _ => rfl⟩
  have A_check_mark : At K mg "check_mark" s_check_mark ps_check_mark := at_mk X G (fun _ _ _ _ _ _ us hl => match us, hl with | [_], _ => rfl) a_check_mark l_check_mark c_check_mark k_check_mark
  have A_check_text : At K mg "check_text" s_check_text ps_check_text := at_mk X G (fun _ _ _ _ _ _ us hl => match us, hl with | [_], _ => rfl) a_check_text l_check_text c_check_text k_check_text
  have A_check_row : At K mg "check_row" s_check_row ps_check_row := at_mk X G (fun _ _ _ _ _ _ us hl => match us, hl with | [_], _ => rfl) a_check_row l_check_row c_check_row k_check_row
  have A_shortened : At K mg "shortened" s_shortened ps_shortened := at_mk X G (fun _ _ _ _ _ _ us hl => match us, hl with | [_, _, _], _ => rfl) a_shortened l_shortened c_shortened k_shortened
  have A_shown_by : At K mg "shown_by" s_shown_by ps_shown_by := at_mk X G (fun _ _ _ _ _ _ us hl => match us, hl with | [_, _], _ => rfl) a_shown_by l_shown_by c_shown_by k_shown_by
  have A_show : At K mg "show" s_show ps_show := at_mk X G (fun _ _ _ _ _ _ us hl => match us, hl with | [_, _], _ => rfl) a_show l_show c_show k_show
  have A_is_integer : At K mg "is_integer" s_is_integer ps_is_integer := at_mk X G (fun _ _ _ _ _ _ us hl => match us, hl with | [_, _, _], _ => rfl) a_is_integer l_is_integer c_is_integer k_is_integer
  have A_is_tuple : At K mg "is_tuple" s_is_tuple ps_is_tuple := at_mk X G (fun _ _ _ _ _ _ us hl => match us, hl with | [_, _, _], _ => rfl) a_is_tuple l_is_tuple c_is_tuple k_is_tuple
  have A_is_text : At K mg "is_text" s_is_text ps_is_text := at_mk X G (fun _ _ _ _ _ _ us hl => match us, hl with | [_, _], _ => rfl) a_is_text l_is_text c_is_text k_is_text
  have A_check_texts : At K mg "check_texts" s_check_texts ps_check_texts := at_mk X G (fun _ _ _ _ _ _ us hl => match us, hl with | [_, _], _ => rfl) a_check_texts l_check_texts c_check_texts k_check_texts
  have A_check_namer : At K mg "check_namer" s_check_namer ps_check_namer := at_mk X G (fun _ _ _ _ _ _ us hl => match us, hl with | [_], _ => rfl) a_check_namer l_check_namer c_check_namer k_check_namer
  have A_base_of : At K mg "base_of" s_base_of ps_base_of := at_mk X G (fun _ _ _ _ _ _ us hl => match us, hl with | [_, _], _ => rfl) a_base_of l_base_of c_base_of k_base_of
  have A_numbered : At K mg "numbered" s_numbered ps_numbered := at_mk X G (fun _ _ _ _ _ _ us hl => match us, hl with | [_, _, _], _ => rfl) a_numbered l_numbered c_numbered k_numbered
  have A_counted_name : At K mg "counted_name" s_counted_name ps_counted_name := at_mk X G (fun _ _ _ _ _ _ us hl => match us, hl with | [_, _, _], _ => rfl) a_counted_name l_counted_name c_counted_name k_counted_name
  have A_free_name : At K mg "free_name" s_free_name ps_free_name := at_mk X G (fun _ _ _ _ _ _ us hl => match us, hl with | [_, _, _], _ => rfl) a_free_name l_free_name c_free_name k_free_name
  have A_name_of_next : At K mg "name_of_next" s_name_of_next ps_name_of_next := at_mk X G (fun _ _ _ _ _ _ us hl => match us, hl with | [_, _, _, _], _ => rfl) a_name_of_next l_name_of_next c_name_of_next k_name_of_next
  have A_named : At K mg "named" s_named ps_named := at_mk X G (fun _ _ _ _ _ _ us hl => match us, hl with | [_, _], _ => rfl) a_named l_named c_named k_named
  have A_names : At K mg "names" s_names ps_names := at_mk X G (fun _ _ _ _ _ _ us hl => match us, hl with | [_, _], _ => rfl) a_names l_names c_names k_names
  have A_law_source : At K mg "_law_source" s_law_source ps_law_source := at_mk X G (fun _ _ _ _ _ _ us hl => match us, hl with | [_, _], _ => rfl) a_law_source l_law_source c_law_source k_law_source
  have A_law_draw : At K mg "_law_draw" s_law_draw ps_law_draw := at_mk X G (fun _ _ _ _ _ _ us hl => match us, hl with | [_, _], _ => rfl) a_law_draw l_law_draw c_law_draw k_law_draw
  have A_law_one : At K mg "_law_one" s_law_one ps_law_one := at_mk X G (fun _ _ _ _ _ _ us hl => match us, hl with | [_, _], _ => rfl) a_law_one l_law_one c_law_one k_law_one
  have A_law_stem : At K mg "_law_stem" s_law_stem ps_law_stem := at_mk X G (fun _ _ _ _ _ _ us hl => match us, hl with | [_, _], _ => rfl) a_law_stem l_law_stem c_law_stem k_law_stem
  have A_law_word : At K mg "_law_word" s_law_word ps_law_word := at_mk X G (fun _ _ _ _ _ _ us hl => match us, hl with | [_, _], _ => rfl) a_law_word l_law_word c_law_word k_law_word
  have A_law_pair_right : At K mg "_law_pair_right" s_law_pair_right ps_law_pair_right := at_mk X G (fun _ _ _ _ _ _ us hl => match us, hl with | [_, _, _], _ => rfl) a_law_pair_right l_law_pair_right c_law_pair_right k_law_pair_right
  have A_law_right : At K mg "_law_right" s_law_right ps_law_right := at_mk X G (fun _ _ _ _ _ _ us hl => match us, hl with | [_], _ => rfl) a_law_right l_law_right c_law_right k_law_right
  exact ⟨_, fun s v => .of_eq rfl, fun base _ _ => fin B Ss Is Sn In A_check_mark A_check_text A_check_row A_shortened A_shown_by A_show A_is_integer A_is_tuple A_is_text A_check_texts A_check_namer A_base_of A_numbered A_counted_name A_free_name A_name_of_next A_named A_names A_law_source A_law_draw A_law_one A_law_stem A_law_word A_law_pair_right A_law_right (fun_mk l_law c_law k_law)⟩
end Gu
open PySem PySem.W PyProof.Rows
set_option maxHeartbeats 0 in
theorem PySem.Challenge.cw_shownshort_k59_whole_bases_by_shorteners_holds : PySem.Challenge.rw_shownshort_k59_whole_bases_by_shorteners.Holds := by
  w_on; o_law; k_head; (case hw => w_witness2)
  k_fill
  refine Gu.walkG (l := PySem.Challenge.rw_shownshort_k59_whole_bases_by_shorteners) (n := 63) (k := 8) (x := "_law_script") (sp := Gu.spLaw) rfl (by decide) rfl ⟨rfl, by decide, by decide⟩ (fun w h Y => PySem.W.kIn_of Y) ?F (fun _ _ a ns hl hS => ⟨a, ns, rfl, hS, hl, fun _ => rfl⟩)
  case F =>
    intro w mg fa h KX G hmg
    refine' Gu.all_mk KX G hmg ?a_check_mark ?l_check_mark ?c_check_mark ?k_check_mark ?a_check_text ?l_check_text ?c_check_text ?k_check_text ?a_check_row ?l_check_row ?c_check_row ?k_check_row ?a_shortened ?l_shortened ?c_shortened ?k_shortened ?a_shown_by ?l_shown_by ?c_shown_by ?k_shown_by ?a_show ?l_show ?c_show ?k_show ?a_is_integer ?l_is_integer ?c_is_integer ?k_is_integer ?a_is_tuple ?l_is_tuple ?c_is_tuple ?k_is_tuple ?a_is_text ?l_is_text ?c_is_text ?k_is_text ?a_check_texts ?l_check_texts ?c_check_texts ?k_check_texts ?a_check_namer ?l_check_namer ?c_check_namer ?k_check_namer ?a_base_of ?l_base_of ?c_base_of ?k_base_of ?a_numbered ?l_numbered ?c_numbered ?k_numbered ?a_counted_name ?l_counted_name ?c_counted_name ?k_counted_name ?a_free_name ?l_free_name ?c_free_name ?k_free_name ?a_name_of_next ?l_name_of_next ?c_name_of_next ?k_name_of_next ?a_named ?l_named ?c_named ?k_named ?a_names ?l_names ?c_names ?k_names ?a_law_source ?l_law_source ?c_law_source ?k_law_source ?a_law_draw ?l_law_draw ?c_law_draw ?k_law_draw ?a_law_one ?l_law_one ?c_law_one ?k_law_one ?a_law_stem ?l_law_stem ?c_law_stem ?k_law_stem ?a_law_word ?l_law_word ?c_law_word ?k_law_word ?a_law_pair_right ?l_law_pair_right ?c_law_pair_right ?k_law_pair_right ?a_law_right ?l_law_right ?c_law_right ?k_law_right ?a_law ?l_law ?c_law ?k_law ?qn ?qt ?asC ?a_is ?l_is ?c_is ?k_is ?i_is ?pgs ?hds ?pos ?sas ?mksC ?ksC ?ns_limit ?ns_head ?ns_tail ?ns_mark ?ns_told ?qas ?qms ?anC ?a_in ?l_in ?c_in ?k_in ?i_in ?pgn ?hdn ?pon ?san ?mknC ?knC ?nn_rule ?nn_width ?qan ?qmn ?z_ValueError ?z_abs ?z_all ?z_bool ?z_divmod ?z_enumerate ?z_int ?z_isinstance ?z_len ?z_max ?z_min ?z_range ?z_str ?z_tuple ?z_MOST_SIGNS ?z_MOST_MARK ?z_MOST_ROW ?z_MOST_TEXT ?z_MOST_LISTED ?z_SIGNS ?z_RULES ?zl_RULES ?z_LEAST_WIDTH
    (case a_check_mark => k_is)
    (case l_check_mark => k_is)
    (case c_check_mark => k_is)
    (case k_check_mark => k_is)
    (case a_check_text => k_is)
    (case l_check_text => k_is)
    (case c_check_text => k_is)
    (case k_check_text => k_is)
    (case a_check_row => k_is)
    (case l_check_row => k_is)
    (case c_check_row => k_is)
    (case k_check_row => k_is)
    (case a_shortened => k_is)
    (case l_shortened => k_is)
    (case c_shortened => k_is)
    (case k_shortened => k_is)
    (case a_shown_by => k_is)
    (case l_shown_by => k_is)
    (case c_shown_by => k_is)
    (case k_shown_by => k_is)
    (case a_show => k_is)
    (case l_show => k_is)
    (case c_show => k_is)
    (case k_show => k_is)
    (case a_is_integer => k_is)
    (case l_is_integer => k_is)
    (case c_is_integer => k_is)
    (case k_is_integer => k_is)
    (case a_is_tuple => k_is)
    (case l_is_tuple => k_is)
    (case c_is_tuple => k_is)
    (case k_is_tuple => k_is)
    (case a_is_text => k_is)
    (case l_is_text => k_is)
    (case c_is_text => k_is)
    (case k_is_text => k_is)
    (case a_check_texts => k_is)
    (case l_check_texts => k_is)
    (case c_check_texts => k_is)
    (case k_check_texts => k_is)
    (case a_check_namer => k_is)
    (case l_check_namer => k_is)
    (case c_check_namer => k_is)
    (case k_check_namer => k_is)
    (case a_base_of => k_is)
    (case l_base_of => k_is)
    (case c_base_of => k_is)
    (case k_base_of => k_is)
    (case a_numbered => k_is)
    (case l_numbered => k_is)
    (case c_numbered => k_is)
    (case k_numbered => k_is)
    (case a_counted_name => k_is)
    (case l_counted_name => k_is)
    (case c_counted_name => k_is)
    (case k_counted_name => k_is)
    (case a_free_name => k_is)
    (case l_free_name => k_is)
    (case c_free_name => k_is)
    (case k_free_name => k_is)
    (case a_name_of_next => k_is)
    (case l_name_of_next => k_is)
    (case c_name_of_next => k_is)
    (case k_name_of_next => k_is)
    (case a_named => k_is)
    (case l_named => k_is)
    (case c_named => k_is)
    (case k_named => k_is)
    (case a_names => k_is)
    (case l_names => k_is)
    (case c_names => k_is)
    (case k_names => k_is)
    (case a_law_source => k_is)
    (case l_law_source => k_is)
    (case c_law_source => k_is)
    (case k_law_source => k_is)
    (case a_law_draw => k_is)
    (case l_law_draw => k_is)
    (case c_law_draw => k_is)
    (case k_law_draw => k_is)
    (case a_law_one => k_is)
    (case l_law_one => k_is)
    (case c_law_one => k_is)
    (case k_law_one => k_is)
    (case a_law_stem => k_is)
    (case l_law_stem => k_is)
    (case c_law_stem => k_is)
    (case k_law_stem => k_is)
    (case a_law_word => k_is)
    (case l_law_word => k_is)
    (case c_law_word => k_is)
    (case k_law_word => k_is)
    (case a_law_pair_right => k_is)
    (case l_law_pair_right => k_is)
    (case c_law_pair_right => k_is)
    (case k_law_pair_right => k_is)
    (case a_law_right => k_is)
    (case l_law_right => k_is)
    (case c_law_right => k_is)
    (case k_law_right => k_is)
    (case a_law => k_is)
    (case l_law => k_is)
    (case c_law => k_is)
    (case k_law => k_is)
    (case qn => k_is)
    (case qt => k_is)
    (case asC => k_is)
    (case a_is => k_is)
    (case l_is => k_is)
    (case c_is => k_is)
    (case k_is => k_is)
    (case i_is => k_is)
    (case pgs => k_is)
    (case hds => k_is)
    (case pos => k_is)
    (case sas => k_is)
    (case mksC => k_is)
    (case ksC => k_is)
    (case ns_limit => k_is)
    (case ns_head => k_is)
    (case ns_tail => k_is)
    (case ns_mark => k_is)
    (case ns_told => k_is)
    (case qas => k_is)
    (case qms => k_is)
    (case anC => k_is)
    (case a_in => k_is)
    (case l_in => k_is)
    (case c_in => k_is)
    (case k_in => k_is)
    (case i_in => k_is)
    (case pgn => k_is)
    (case hdn => k_is)
    (case pon => k_is)
    (case san => k_is)
    (case mknC => k_is)
    (case knC => k_is)
    (case nn_rule => k_is)
    (case nn_width => k_is)
    (case qan => k_is)
    (case qmn => k_is)
    (case z_ValueError => k_is)
    (case z_abs => k_is)
    (case z_all => k_is)
    (case z_bool => k_is)
    (case z_divmod => k_is)
    (case z_enumerate => k_is)
    (case z_int => k_is)
    (case z_isinstance => k_is)
    (case z_len => k_is)
    (case z_max => k_is)
    (case z_min => k_is)
    (case z_range => k_is)
    (case z_str => k_is)
    (case z_tuple => k_is)
    (case z_MOST_SIGNS => k_is)
    (case z_MOST_MARK => k_is)
    (case z_MOST_ROW => k_is)
    (case z_MOST_TEXT => k_is)
    (case z_MOST_LISTED => k_is)
    (case z_SIGNS => k_is)
    (case z_RULES => k_is)
    (case zl_RULES => k_is)
    (case z_LEAST_WIDTH => k_is)
