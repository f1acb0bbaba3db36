import PyProof.Rows.All
import Wide.All
import OpenK.AllK
import Wide.FinOn
import HandS.Base
import HandS.Call
import HandS.List
import HandS.Comp
import HandS.Ends
import HandS.Dict
import HandS.Iter
import HandS.Text
import HandS.Words
import HandS.WordsList
import HandS.WordsDict
import HandS.Conv
import HandS.Walk
import HandS.IsInst
import HandS.MakeKw
import HandS.MakeKwOnly
import HandS.Flow
import HandS.TupAny
import HandS.TupMul
import HandS.FStr
import HandS.Zip
import HandS.Style
import HandS.Codes
import HandS.TupLe
import HandS.SetKeys
import HandS.Strs
import HandS.SetFor
import HandS.Deep
import HandS.SortInts
import HandS.More
import HandS.CallLocal
import HandS.HeadHook3
import HandS.Exc
import HandS.TryOnly
import HandS.TryMany
import HandS.WordsExc
import HandS.ExcField
import HandS.ExcIs
import HandS.ExcInit
import HandS.Lambda
import KE.KExcInit
import KE.KExcIs
import PyProof.ExcBaseAll.LookupError
import PyProof.ExcBaseAll.ArithmeticError
import KE.GoesMore
import KE.GoesZip
import PyProof.TupleOfStr
import PySem.Challenge.RW_shownshort_k14_views_refused
set_option Elab.async false
set_option linter.all false
set_option maxRecDepth 100000
namespace Gu
open PySem PySem.Spec PyProof.Rows L2
/-! the text, by places -/
def topS (i : Nat) : Stmt := PySem.Challenge.pw_shownshort_k14_views_refused.main.body.getD i (.Pass ⟨0, 0, 0, 0⟩)
abbrev s_InvalidNumber_init : Stmt := inClass (topS 2) 0
abbrev ps_InvalidNumber_init : List Str := ["self", "value"]
theorem sc_InvalidNumber_init : FnScope ["self", "value"] ps_InvalidNumber_init (defScope s_InvalidNumber_init) := ⟨rfl, rfl, rfl, by decide +kernel, rfl, by decide +kernel, by decide +kernel⟩
abbrev s_InvalidMark_init : Stmt := inClass (topS 3) 0
abbrev ps_InvalidMark_init : List Str := ["self", "value"]
theorem sc_InvalidMark_init : FnScope ["self", "value"] ps_InvalidMark_init (defScope s_InvalidMark_init) := ⟨rfl, rfl, rfl, by decide +kernel, rfl, by decide +kernel, by decide +kernel⟩
abbrev s_InvalidLength_init : Stmt := inClass (topS 4) 0
abbrev ps_InvalidLength_init : List Str := ["self", "value"]
theorem sc_InvalidLength_init : FnScope ["self", "value"] ps_InvalidLength_init (defScope s_InvalidLength_init) := ⟨rfl, rfl, rfl, by decide +kernel, rfl, by decide +kernel, by decide +kernel⟩
abbrev s_InvalidViews_init : Stmt := inClass (topS 5) 0
abbrev ps_InvalidViews_init : List Str := ["self", "index"]
theorem sc_InvalidViews_init : FnScope ["self", "index"] ps_InvalidViews_init (defScope s_InvalidViews_init) := ⟨rfl, rfl, rfl, by decide +kernel, rfl, by decide +kernel, by decide +kernel⟩
abbrev s_is_integer : Stmt := topS 14
abbrev ps_is_integer : List Str := ["value", "least", "most"]
theorem sc_is_integer : FnScope ["value", "least", "most"] ps_is_integer (defScope s_is_integer) := ⟨rfl, rfl, rfl, by decide +kernel, rfl, by decide +kernel, by decide +kernel⟩
abbrev s_is_tuple : Stmt := topS 15
abbrev ps_is_tuple : List Str := ["value", "least", "most"]
theorem sc_is_tuple : FnScope ["value", "least", "most"] ps_is_tuple (defScope s_is_tuple) := ⟨rfl, rfl, rfl, by decide +kernel, rfl, by decide +kernel, by decide +kernel⟩
abbrev s_is_text : Stmt := topS 16
abbrev ps_is_text : List Str := ["value", "most"]
theorem sc_is_text : FnScope ["value", "most", "character"] ps_is_text (defScope s_is_text) := ⟨rfl, rfl, rfl, by decide +kernel, rfl, by decide +kernel, by decide +kernel⟩
abbrev s_check_mark : Stmt := topS 17
abbrev ps_check_mark : List Str := ["mark"]
theorem sc_check_mark : FnScope ["mark"] ps_check_mark (defScope s_check_mark) := ⟨rfl, rfl, rfl, by decide +kernel, rfl, by decide +kernel, by decide +kernel⟩
abbrev s_check_length : Stmt := topS 18
abbrev ps_check_length : List Str := ["length"]
theorem sc_check_length : FnScope ["length"] ps_check_length (defScope s_check_length) := ⟨rfl, rfl, rfl, by decide +kernel, rfl, by decide +kernel, by decide +kernel⟩
abbrev s_Shortener_init : Stmt := inClass (topS 20) 0
abbrev ps_Shortener_init : List Str := ["self", "limit", "head", "tail", "mark"]
theorem sc_Shortener_init : FnScope ["self", "limit", "head", "tail", "mark", "number"] ps_Shortener_init (defScope s_Shortener_init) := ⟨rfl, rfl, rfl, by decide +kernel, rfl, by decide +kernel, by decide +kernel⟩
abbrev s_Shortener_eq : Stmt := inClass (topS 20) 1
abbrev ps_Shortener_eq : List Str := ["self", "other"]
theorem sc_Shortener_eq : FnScope ["self", "other"] ps_Shortener_eq (defScope s_Shortener_eq) := ⟨rfl, rfl, rfl, by decide +kernel, rfl, by decide +kernel, by decide +kernel⟩
abbrev s_Shortener_repr : Stmt := inClass (topS 20) 2
abbrev ps_Shortener_repr : List Str := ["self"]
theorem sc_Shortener_repr : FnScope ["self"] ps_Shortener_repr (defScope s_Shortener_repr) := ⟨rfl, rfl, rfl, by decide +kernel, rfl, by decide +kernel, by decide +kernel⟩
abbrev s_is_row : Stmt := topS 21
abbrev ps_is_row : List Str := ["value"]
theorem sc_is_row : FnScope ["value", "part"] ps_is_row (defScope s_is_row) := ⟨rfl, rfl, rfl, by decide +kernel, rfl, by decide +kernel, by decide +kernel⟩
abbrev s_shortened : Stmt := topS 22
abbrev ps_shortened : List Str := ["shortener", "whole", "mark"]
theorem sc_shortened : FnScope ["shortener", "whole", "mark", "tail_start"] ps_shortened (defScope s_shortened) := ⟨rfl, rfl, rfl, by decide +kernel, rfl, by decide +kernel, by decide +kernel⟩
abbrev s_planned : Stmt := topS 23
abbrev ps_planned : List Str := ["row", "length"]
theorem sc_planned : FnScope ["row", "length", "sources", "shortener"] ps_planned (defScope s_planned) := ⟨rfl, rfl, rfl, by decide +kernel, rfl, by decide +kernel, by decide +kernel⟩
abbrev s_telling_lengths : Stmt := topS 24
abbrev ps_telling_lengths : List Str := []
theorem sc_telling_lengths : FnScope [] ps_telling_lengths (defScope s_telling_lengths) := ⟨rfl, rfl, rfl, by decide +kernel, rfl, by decide +kernel, by decide +kernel⟩
abbrev s_is_view : Stmt := topS 27
abbrev ps_is_view : List Str := ["value"]
theorem sc_is_view : FnScope ["value"] ps_is_view (defScope s_is_view) := ⟨rfl, rfl, rfl, by decide +kernel, rfl, by decide +kernel, by decide +kernel⟩
abbrev s_check_views : Stmt := topS 28
abbrev ps_check_views : List Str := ["views"]
theorem sc_check_views : FnScope ["views", "place", "view"] ps_check_views (defScope s_check_views) := ⟨rfl, rfl, rfl, by decide +kernel, rfl, by decide +kernel, by decide +kernel⟩
abbrev s_known_signs : Stmt := topS 29
abbrev ps_known_signs : List Str := ["views", "length"]
theorem sc_known_signs : FnScope ["views", "length", "known", "row", "shown", "sources", "source", "sign", "told"] ps_known_signs (defScope s_known_signs) := ⟨rfl, rfl, rfl, by decide +kernel, rfl, by decide +kernel, by decide +kernel⟩
abbrev s_written_out : Stmt := topS 30
abbrev ps_written_out : List Str := ["known", "length", "other"]
theorem sc_written_out : FnScope ["known", "length", "other", "place"] ps_written_out (defScope s_written_out) := ⟨rfl, rfl, rfl, by decide +kernel, rfl, by decide +kernel, by decide +kernel⟩
abbrev s_lengths : Stmt := topS 31
abbrev ps_lengths : List Str := ["views"]
theorem sc_lengths : FnScope ["views", "tried", "possible", "beyond", "length"] ps_lengths (defScope s_lengths) := ⟨rfl, rfl, rfl, by decide +kernel, rfl, by decide +kernel, by decide +kernel⟩
abbrev s_signs : Stmt := topS 32
abbrev ps_signs : List Str := ["views", "length"]
theorem sc_signs : FnScope ["views", "length", "known"] ps_signs (defScope s_signs) := ⟨rfl, rfl, rfl, by decide +kernel, rfl, by decide +kernel, by decide +kernel⟩
abbrev s_number_of : Stmt := topS 33
abbrev ps_number_of : List Str := ["views", "length"]
theorem sc_number_of : FnScope ["views", "length", "told", "number", "sign"] ps_number_of (defScope s_number_of) := ⟨rfl, rfl, rfl, by decide +kernel, rfl, by decide +kernel, by decide +kernel⟩
abbrev s_only_text : Stmt := topS 34
abbrev ps_only_text : List Str := ["views"]
theorem sc_only_text : FnScope ["views", "some", "beyond", "told"] ps_only_text (defScope s_only_text) := ⟨rfl, rfl, rfl, by decide +kernel, rfl, by decide +kernel, by decide +kernel⟩
abbrev s_least_text : Stmt := topS 35
abbrev ps_least_text : List Str := ["views"]
theorem sc_least_text : FnScope ["views", "some", "beyond", "least"] ps_least_text (defScope s_least_text) := ⟨rfl, rfl, rfl, by decide +kernel, rfl, by decide +kernel, by decide +kernel⟩
abbrev s_law_pot : Stmt := topS 37
abbrev ps_law_pot : List Str := ["_law_script", "_law_k"]
theorem sc_law_pot : FnScope ["_law_script", "_law_k", "_law_own", "_law_mixed", "_law_entry"] ps_law_pot (defScope s_law_pot) := ⟨rfl, rfl, rfl, by decide +kernel, rfl, by decide +kernel, by decide +kernel⟩
abbrev s_law_ladle : Stmt := topS 38
abbrev ps_law_ladle : List Str := ["_law_pot_here", "_law_many"]
theorem sc_law_ladle : FnScope ["_law_pot_here", "_law_many", "_law_digit"] ps_law_ladle (defScope s_law_ladle) := ⟨rfl, rfl, rfl, by decide +kernel, rfl, by decide +kernel, by decide +kernel⟩
abbrev s_law_one_of : Stmt := topS 39
abbrev ps_law_one_of : List Str := ["_law_pot_here", "_law_some"]
theorem sc_law_one_of : FnScope ["_law_pot_here", "_law_some"] ps_law_one_of (defScope s_law_one_of) := ⟨rfl, rfl, rfl, by decide +kernel, rfl, by decide +kernel, by decide +kernel⟩
abbrev s_law_ended : Stmt := topS 40
abbrev ps_law_ended : List Str := ["_law_ask"]
theorem sc_law_ended : FnScope ["_law_ask", "_law_given", "e"] ps_law_ended (defScope s_law_ended) := ⟨rfl, rfl, rfl, by decide +kernel, rfl, by decide +kernel, by decide +kernel⟩
abbrev s_law_bad : Stmt := topS 41
abbrev ps_law_bad : List Str := ["_law_pot_here", "_law_one"]
theorem sc_law_bad : FnScope ["_law_pot_here", "_law_one", "_law_good", "_law_some"] ps_law_bad (defScope s_law_bad) := ⟨rfl, rfl, rfl, by decide +kernel, rfl, by decide +kernel, by decide +kernel⟩
abbrev s_law_right : Stmt := topS 42
abbrev ps_law_right : List Str := ["_law_pot_here"]
theorem sc_law_right : FnScope ["_law_pot_here", "_law_one", "_law_bad_here", "_law_spot", "_law_many", "_law_seen", "_law_due", "_law_ask", "_law_wide", "_law_told_here"] ps_law_right (defScope s_law_right) := ⟨rfl, rfl, rfl, by decide +kernel, rfl, by decide +kernel, by decide +kernel⟩
abbrev s_law : Stmt := topS 43
abbrev ps_law : List Str := ["_law_script"]
theorem sc_law : FnScope ["_law_script", "_law_k"] ps_law (defScope s_law) := ⟨rfl, rfl, rfl, by decide +kernel, rfl, by decide +kernel, by decide +kernel⟩
/-- names that the module leaves to Python -/
structure Bi (mg : Str → Option Value) : Prop where
  ValueError : mg "ValueError" = none
  abs : mg "abs" = none
  all : mg "all" = none
  bool : mg "bool" = none
  divmod : mg "divmod" = none
  enumerate : mg "enumerate" = none
  int : mg "int" = none
  isinstance : mg "isinstance" = none
  len : mg "len" = none
  list : mg "list" = none
  max : mg "max" = none
  min : mg "min" = none
  range : mg "range" = none
  repr : mg "repr" = none
  str : mg "str" = none
  tuple : mg "tuple" = none
  zip : mg "zip" = none
  MOST_SIGNS : ∃ u, mg "MOST_SIGNS" = some u ∧ RelV (.int 40) u
  MOST_MARK : ∃ u, mg "MOST_MARK" = some u ∧ RelV (.int 3) u
  MOST_ROW : ∃ u, mg "MOST_ROW" = some u ∧ RelV (.int 4) u
  MOST_VIEWS : ∃ u, mg "MOST_VIEWS" = some u ∧ RelV (.int 4) u
  MOST_TEXT : ∃ u, mg "MOST_TEXT" = some u ∧ RelV (.int 200) u
  MOST_LENGTH : ∃ u, mg "MOST_LENGTH" = some u ∧ RelV (.int 500) u
  SIGNS : ∃ u, mg "SIGNS" = some u ∧ RelV (.str ".0123456789abcdefghijklmnopqrstuvwxyz~") u
  SEVERAL : ∃ u, mg "SEVERAL" = some u ∧ RelV (.str "?") u
end Gu
namespace Gu
open PySem PySem.Spec PyProof.Rows L2
/-! cuts -/
/-- from a middle state on -/
def tHalt (t u : TS) : TS := fun D σ H => ∃ M : L2.St → Hp → Prop, t { D with nx := M } σ H ∧ ∀ σ1 H1, M σ1 H1 → u D σ1 H1
/-! defs as they stand behind the top -/
structure At (K : PySem.W.Frag) (mg : Str → Option Value) (x : Str) (st : Stmt) (ps : List Str) : Prop where
  ex : ∃ (f : Addr) (fd : FuncData), Fun K x x st f fd ∧ Binds K fd ps [] ∧ mg x = some (.ref f)
structure Cal (P : Program) (w : World) (K : PySem.W.Frag) (mg : Str → Option Value) (base : Heap) (k : Nat) (x : Str) (ps : List Str) (sp : Sp) : Prop where
  ex : ∃ (f : Addr) (fd : FuncData), FnOk P w K mg base CX0 k f fd ps sp ∧ mg x = some (.ref f) ∧ PySem.W.keepIn K (.ref f) = true ∧ Binds K fd ps [] ∧ ∃ oc od sl, K.lookup f = some ⟨oc, od, .func fd, sl⟩
theorem At.cal {P : Program} {w : World} {K : PySem.W.Frag} {mg : Str → Option Value} {base : Heap} {x : Str} {st : Stmt} {N ps : List Str} {k : Nat} {sp : Sp} (D : At K mg x st ps) (S : FnScope N ps (defScope st)) (len : ∀ vs H Q E, sp vs H Q E → vs.length = ps.length)
    (body : ∀ (f : Addr) (cdv : Value) (A : Around) (outer : List Env) (s : Shared) (H : Hp) (vs : List V) (Q : VK) (E : XK), Room k (A.deeper (envOfC x (defScope st) s.heap.objs.size f cdv)) → sp vs H Q E →
      ∃ t, PSs (cxOf CX0 P w K mg base N x (defScope st) f cdv A outer s H E).nox (defBody st) t ∧ t { nx := fun _ H' => Q .non H', rt := Q } (start N vs) H) : Cal P w K mg base (k + 1) x ps sp := by
  obtain ⟨f, fd, F, b, g⟩ := D.ex
  obtain ⟨oc, od, kV, doc, pm, an, cdv, ct, osl, e, lk, hcd⟩ := F.ex
  exact ⟨f, fd, F.ok S len (body f), g, F.kp, b, oc, od, osl, lk⟩
section
variable {X : Cx} {k j : Nat} {x : Str} {ps : List Str} {sp : Sp} {p pos : Pos} {e : Expr} {es : List Expr} {t : TA}
theorem pe_own (c : Cal X.prog X.w X.K X.mg X.base k x ps sp) (hr : Room j X.A) (hk : k ≤ j) (hg : Gl X x) (ha : PA X (e :: es) t)
    (hdb : (x == ("__debug__" : Str)) = false := by decide) (he : starEach (e :: es) X.env = (false, eval e X.env) :: starEach es X.env := by rfl) (hpl : (backTo pos (starEach es X.env)).any (·.1) = false := by rfl) :
    PE X (.Call (.Name x p) (e :: es) [] pos) (tCall sp [] E0 t) := by
  obtain ⟨f, fd, F, hm, kp, b, _⟩ := c.ex
  exact pe_call F (hr.mono hk) hg hm kp b .nil pass0 ha hdb he hpl
theorem pe_cst {v : V} (h : ∃ u, X.mg x = some u ∧ RelV v u) (hg : Gl X x) (hdb : (x == ("__debug__" : Str)) = false := by decide) : PE X (.Name x pos) (tC v) := by
  obtain ⟨u, hm, r⟩ := h
  exact pe_glob hg hm r hdb
end
def tMid (t : TE) : TE := fun σ H Q => ∃ M : VK, t σ H M ∧ ∀ v G, M v G → Q v G
theorem pe_mid {X : Cx} {e : Expr} {t : TE} (d : PE X e t) : PE X e (tMid t) := ⟨fun pins s σ H Q I ⟨M, m, k⟩ => thn (d.run pins s σ H M I m) fun u s1 ⟨v, G, I1, r1, m1⟩ => ⟨v, G, I1, r1, k v G m1⟩⟩
/-! ### heaps -/
theorem same_new {H : Hp} {p : Addr} {o : HO} (h : H p = none) : Same H (upd H p o) := fun b x e => by
  rw [upd_ne (ne_of_none e h)]
  exact e
/-- a pot of three ints stands at p -/
def Pot (H : Hp) (p : Addr) : Prop := ∃ x y z : Int, H p = some (.lst [.int x, .int y, .int z])
/-- from H to G the pot at p may have changed, the rest stands -/
structure Ladled (p : Addr) (H G : Hp) : Prop where
  pot : Pot G p
  keep : ∀ b o, H b = some o → b ≠ p → G b = some o
theorem Pot.some {H : Hp} {p : Addr} (h : Pot H p) : ∃ o, H p = some o := by
  obtain ⟨x, y, z, e⟩ := h
  exact ⟨_, e⟩
theorem Pot.same {H G : Hp} {p : Addr} (s : Same H G) (h : Pot H p) : Pot G p := by
  obtain ⟨x, y, z, e⟩ := h
  exact ⟨x, y, z, s _ _ e⟩
theorem Ladled.refl {H : Hp} {p : Addr} (h : Pot H p) : Ladled p H H := ⟨h, fun _ _ e _ => e⟩
theorem Ladled.trans {H G J : Hp} {p : Addr} (a : Ladled p H G) (b : Ladled p G J) : Ladled p H J := ⟨b.pot, fun c o e n => b.keep c o (a.keep c o e n) n⟩
theorem Ladled.same {H G J : Hp} {p : Addr} (a : Ladled p H G) (b : Same G J) : Ladled p H J := ⟨a.pot.same b, fun c o e n => b _ _ (a.keep c o e n)⟩
theorem Ladled.ofSame {H G : Hp} {p : Addr} (h : Pot H p) (b : Same H G) : Ladled p H G := ⟨h.same b, fun c o e _ => b _ _ e⟩
theorem Ladled.new {H G : Hp} {p q : Addr} {o : HO} (a : Ladled p H G) (h : G q = none) : Ladled p H (upd G q o) := a.same (same_new h)
theorem Ladled.free {H G : Hp} {p l : Addr} (a : Ladled p H G) (h : G l = none) : H l = none := by
  cases q : H l with
  | none => rfl
  | some o =>
    by_cases e : l = p
    · subst e
      obtain ⟨u, hu⟩ := a.pot.some
      rw [hu] at h
      cases h
    · rw [a.keep l o q e] at h
      cases h
/-- what is not known at first may change -/
theorem Ladled.mut {H G : Hp} {p q : Addr} {o : HO} (a : Ladled p H G) (h : H q = none) (n : q ≠ p) : Ladled p H (upd G q o) := by
  refine ⟨?_, fun b u e nb => ?_⟩
  · obtain ⟨x, y, z, e⟩ := a.pot
    exact ⟨x, y, z, by rw [upd_ne (Ne.symm n)]; exact e⟩
  · rw [upd_ne (ne_of_none e h)]
    exact a.keep b u e nb
end Gu
namespace Gu
open PySem PySem.Spec PyProof.Rows L2
/-! ### errors of the program's own, with one field -/
/-- the places of an __init__ that stores what it gets -/
structure Spots where
  a : Pos
  b : Pos
  c : Pos
  d : Pos
  e : Pos
  f : Pos
def eArgs (F : Str) (p : Spots) : Arguments := { posonlyargs := [], args := [⟨"self", none, p.a⟩, ⟨F, none, p.b⟩], vararg := none, kwonlyargs := [], kw_defaults := [], kwarg := none, defaults := [] }
def eBody (F : Str) (p : Spots) : List Stmt := [.Assign [.Attribute (.Name "self" p.c) F p.d] (.Name F p.e) p.f]
def eScope (F : Str) : Scope := { kind := .function, names := [("self", .local), (F, .local)], isGenerator := false, isCoroutine := false, more := [] }
/-- a built-in class of errors that an own class stands over -/
structure BaseE where
  nm : String
  new : String
  ini : String
  tl : List Value
structure BaseE.ok (b : BaseE) : Prop where
  base : ExcBaseFacts b.nm b.new b.ini b.tl
  store : StoreFacts b.nm b.tl "object.__setattr__" "object"
  plain : ∀ D : Addr, b.tl.contains (.ref D) = false
def bVE : BaseE := ⟨"ValueError", "ValueError.__new__", "ValueError.__init__", [.type "ValueError", .type "Exception", .type "BaseException", .type "object"]⟩
theorem bVE_ok : bVE.ok := ⟨F.excBase_ValueError, F.store_ValueError, fun D => rfl⟩
/-- what the top has left of the class named N, at C, over the own class at U and the built-in b -/
structure ErrK (K : PySem.W.Frag) (mg : Str → Option Value) (b : BaseE) (U : Addr) (N : Str) (C : Addr) : Prop where
  bok : b.ok
  g : mg N = some (.ref C)
  cls : ∃ q M bs sn sub ab col dd k0 k1 k2 k3 k5, K.lookup C = some (excClassObj N q C M bs (.ref U :: b.tl) true sn sub ab col dd k0 k1 k2 k3 k5 b.new)
  sa : PySem.W.findIn K (.ref C) "__setattr__" = some (some (.builtin "object.__setattr__"))
  ga : PySem.W.findIn K (.ref C) "__getattribute__" = some (some (.builtin "BaseException.__getattribute__"))
  gg : PySem.W.findIn K (.ref C) "__getattr__" = some none
  kC : PySem.W.keepIn K (.ref C) = true
  ty : PySem.W.typeIn K (.ref C) = some (.type "type")
  ca : PySem.W.findIn K (.ref C) "__class__" = some (some (.builtin "object.__class__"))
  cn : PySem.W.specialIn K (.builtin "object.__class__") "__get__" = some (some (.builtin "getset_descriptor.__get__"))
  ct : PySem.W.takesIn K (.builtin "object.__class__") = some true
structure ErrF (K : PySem.W.Frag) (N F : Str) (C : Addr) : Prop where
  nm : F = "value" ∨ F = "index" ∨ F = "limit"
  no : PySem.W.findIn K (.ref C) F = some none
  init : ∃ (f : Addr) (st : Stmt) (p : Spots) (fd : FuncData), PySem.W.findIn K (.ref C) "__init__" = some (some (.ref f)) ∧ PySem.W.typeIn K (.ref f) = some (.type "function") ∧ L2.Fun K "__init__" (N ++ ".__init__") st f fd ∧ defArgs st = eArgs F p ∧ defBody st = eBody F p ∧ defScope st = eScope F
section
variable {K : PySem.W.Frag} {mg : Str → Option Value} {b : BaseE} {U C : Addr} {N F : Str}
theorem ErrK.cd (T : ErrK K mg b U N C) : ∃ cd : ClassData, PySem.W.clsIn K C = some cd ∧ cd.mro = .ref C :: .ref U :: b.tl ∧ cd.hasDict = true ∧ cd.name = N := by
  obtain ⟨q, M, bs, sn, sub, ab, col, dd, k0, k1, k2, k3, k5, e⟩ := T.cls
  refine ⟨{ name := N, bases := bs, mro := .ref C :: .ref U :: b.tl, ns := M, qualname := q, hasDict := true, slotNames := sn, subclasses := sub, abstract := ab, collection := col, hasDel := false }, ?_, rfl, rfl, rfl⟩
  unfold PySem.W.clsIn
  rw [e]
theorem ErrK.sub (T : ErrK K mg b U N C) (c : Value) : PySem.W.subIn K (.ref C) c = some ((Value.ref C :: .ref U :: b.tl).contains c) := by
  obtain ⟨cd, e, m, _⟩ := T.cd
  show PySem.W.mroIn K C c = _
  unfold PySem.W.mroIn
  rw [e, Option.bind_some, m, if_neg (by simp)]
theorem ErrK.subT (T : ErrK K mg b U N C) (X : String) : PySem.W.subIn K (.ref C) (.type X) = some (b.tl.contains (.type X)) := by
  rw [T.sub, List.contains_cons, List.contains_cons]
  rfl
theorem ErrK.exC (T : ErrK K mg b U N C) : PySem.W.subIn K (.ref C) (.type "BaseException") = some true := by
  rw [T.subT, T.bok.base.hasBase]
theorem ErrK.obj (T : ErrK K mg b U N C) : PySem.W.mroIn K C (.type "object") = some true := by
  show PySem.W.subIn K (.ref C) _ = _
  rw [T.subT, T.bok.store.hasOwner]
theorem ErrK.hd (T : ErrK K mg b U N C) : PySem.W.hasDictIn K C = true := by
  obtain ⟨cd, e, _, h, _⟩ := T.cd
  unfold PySem.W.hasDictIn
  rw [e]
  exact h
theorem ErrK.isC (T : ErrK K mg b U N C) : (PySem.W.clsIn K C).isSome = true := by
  obtain ⟨cd, e, _⟩ := T.cd
  rw [e]
  rfl
theorem name_at {D : Addr} {q q2 : Str} {M M2 : Addr} {N2 : Str} {bs bm bs2 bm2 : List Value} {sn sn2 : List Str} {sub sub2 : List Value} {ab ab2 : Bool} {col col2 : Option Bool} {dd dd2 : Option Addr} {k0 k1 k2 k3 k5 j0 j1 j2 j3 j5 : Option Value} {ni nj : String}
    (a : K.lookup C = some (excClassObj N q C M bs bm true sn sub ab col dd k0 k1 k2 k3 k5 ni)) (c : K.lookup D = some (excClassObj N2 q2 D M2 bs2 bm2 true sn2 sub2 ab2 col2 dd2 j0 j1 j2 j3 j5 nj)) (e : C = D) : N = N2 := by
  subst e
  have z := a.symm.trans c
  injection z with z
  injection z with _ _ z
  injection z with z
  injection z
/-- is an error of C one of D, D of the same make? -/
theorem ErrK.eqv {b2 : BaseE} {U2 D : Addr} {M : Str} (T : ErrK K mg b U N C) (S : ErrK K mg b2 U2 M D) (ne : U ≠ D) : PySem.W.subIn K (.ref C) (.ref D) = some (decide (N = M)) := by
  rw [T.sub, List.contains_cons, List.contains_cons, T.bok.plain, Bool.or_false]
  have u : (Value.ref D == Value.ref U) = false := beq_eq_false_iff_ne.mpr fun z => ne (Value.ref.inj z).symm
  rw [u, Bool.or_false]
  by_cases h : N = M
  · have e : C = D := by
      have a := T.g
      rw [h, S.g] at a
      exact (Value.ref.inj (Option.some.inj a)).symm
    rw [decide_eq_true h, e, beq_self_eq_true]
  · have e : (Value.ref D == Value.ref C) = false := beq_eq_false_iff_ne.mpr fun z => by
      obtain ⟨q, M1, bs, sn, sub, ab, col, dd, k0, k1, k2, k3, k5, a⟩ := T.cls
      obtain ⟨q2, M2, bs2, sn2, sub2, ab2, col2, dd2, j0, j1, j2, j3, j5, c⟩ := S.cls
      exact h (name_at a c (Value.ref.inj z).symm)
    rw [e, decide_eq_false h]
/-- an own class right over a built-in one -/
structure UpK (K : PySem.W.Frag) (mg : Str → Option Value) (b : BaseE) (N : Str) (U : Addr) : Prop where
  g : mg N = some (.ref U)
  cls : ∃ q M bs sn sub ab col dd k0 k1 k2 k3 k5, K.lookup U = some (excClassObj N q U M bs b.tl true sn sub ab col dd k0 k1 k2 k3 k5 b.new)
  ty : PySem.W.typeIn K (.ref U) = some (.type "type")
theorem UpK.isC {V : Addr} (S : UpK K mg b F V) : (PySem.W.clsIn K V).isSome = true := by
  obtain ⟨q, M, bs, sn, sub, ab, col, dd, k0, k1, k2, k3, k5, e⟩ := S.cls
  unfold PySem.W.clsIn
  rw [e]
  rfl
theorem UpK.exC {V : Addr} (ok : b.ok) (S : UpK K mg b F V) : PySem.W.subIn K (.ref V) (.type "BaseException") = some true := by
  obtain ⟨q, M, bs, sn, sub, ab, col, dd, k0, k1, k2, k3, k5, e⟩ := S.cls
  show PySem.W.mroIn K V _ = _
  unfold PySem.W.mroIn PySem.W.clsIn
  rw [e]
  show (if (Value.ref V :: b.tl).isEmpty = true then none else some ((Value.ref V :: b.tl).contains (.type "BaseException"))) = some true
  rw [if_neg (by simp), List.contains_cons, ok.base.hasBase, Bool.or_true]
theorem ErrK.up (T : ErrK K mg b U N C) : PySem.W.subIn K (.ref C) (.ref U) = some true := by
  rw [T.sub, List.contains_cons, List.contains_cons, beq_self_eq_true, Bool.true_or, Bool.or_true]
theorem UpK.ne {b2 : BaseE} {U2 D V : Addr} {M : Str} (S : UpK K mg b F V) (T : ErrK K mg b2 U2 M D) (h : F ≠ M) : V ≠ D := fun z => by
  obtain ⟨q, M1, bs, sn, sub, ab, col, dd, k0, k1, k2, k3, k5, a⟩ := S.cls
  obtain ⟨q2, M2, bs2, sn2, sub2, ab2, col2, dd2, j0, j1, j2, j3, j5, c⟩ := T.cls
  exact h (name_at a c z)
/-! what except and isinstance ask -/
theorem kit_ref {t : Value} {D : Addr} {r : Bool} (i : (PySem.W.clsIn K D).isSome = true) (ty : PySem.W.typeIn K (.ref D) = some (.type "type")) (s : PySem.W.subIn K t (.ref D) = some r) : PySem.W.kitCls K t (.ref D) = some r := by
  show (if ((PySem.W.clsIn K D).isSome && PySem.W.typeIn K (.ref D) == some (.type "type")) = true then PySem.W.subIn K t (.ref D) else none) = some r
  rw [i, ty, if_pos (by simp)]
  exact s
theorem kit_one {t : Value} {D : Addr} {r : Bool} (h : PySem.W.kitCls K t (.ref D) = some r) (y : t = .ref D → r = true) : PySem.W.kitOne K t (.ref D) = some r := by
  unfold PySem.W.kitOne
  split
  · next e => rw [y (eq_of_beq e)]
  · exact h
theorem ErrK.exm {b2 : BaseE} {U2 D : Addr} {M : Str} (T : ErrK K mg b U N C) (S : ErrK K mg b2 U2 M D) (ne : U ≠ D) : PySem.W.exmOne K (.ref C) (.ref D) = some (decide (N = M)) := by
  unfold PySem.W.exmOne
  rw [S.exC, if_pos (by simp)]
  exact kit_ref S.isC S.ty (T.eqv S ne)
theorem ErrK.kitU (T : ErrK K mg b U N C) (S : UpK K mg b F U) : PySem.W.kitOne K (.ref C) (.ref U) = some true := kit_one (kit_ref S.isC S.ty T.up) fun _ => rfl
theorem ErrK.kitV (T : ErrK K mg b U N C) (h : PySem.W.kitMeta b.nm = true) : PySem.W.kitOne K (.ref C) (.type b.nm) = some true := by
  unfold PySem.W.kitOne
  rw [if_neg (by simp)]
  show (if PySem.W.kitMeta b.nm = true then PySem.W.subIn K (.ref C) (.type b.nm) else none) = some true
  rw [if_pos h, T.subT, T.bok.base.hasB]
end
end Gu
namespace Gu
open PySem PySem.Spec PyProof.Rows L2 HandSPX
/-! ### such an error is made -/
section
variable {prog : Program} {w : World} {A : Around} {E : Value → Shared → Prop} {R : Result → Shared → Prop} {K : PySem.W.Frag} {mg : Str → Option Value} {b : BaseE} {U C : Addr} {N Fl : Str}
/-- a first field is laid: its dict is new -/
theorem err_store {hp : Heap} {g : Array GenState} {dr : Drawn} {tk0 : Nat} {os : OsState} {tk : Tok} {v : Value} {x : Addr} {fv : Array Value} (T : ErrK K mg b U N C) (inK : K.In hp) (at_x : hp.get? x = some { cls := .ref C, data := .fields fv }) (no : PySem.W.findIn K (.ref C) Fl = some none)
    (k : ∀ (h1 : Heap) (t1 : Nat) (dx : Addr), (∀ c o, c ≠ x → hp.get? c = some o → h1.get? c = some o) → hp.objs.size ≤ dx → dx ≠ x → h1.get? x = some { cls := .ref C, dict := some dx, data := .fields fv } → h1.Ns1 dx (fun y => if y = Fl then some v else none) → R (.ok (.ret .none)) ⟨h1, g, dr, t1, os⟩) :
    codeAny (model prog w) A (.call (.builtin "object.__setattr__") ⟨[.ref x, .str Fl tk, v], []⟩) R ⟨hp, g, dr, tk0, os⟩ := by
  obtain ⟨cd, ecd, em, eh, _⟩ := T.cd
  have inst : PySem.W.InstAt hp x { cls := .ref C, data := .fields fv } C none := ⟨at_x, rfl, rfl, trivial⟩
  have old : x ≠ hp.objs.size := Nat.ne_of_lt (Heap.lt_size at_x)
  have isO : PySem.W.Looks (model prog w) hp (isInstance (.ref x) (.type "object")) true := inst.type.andThen (PySem.W.looks_mroIn inK T.obj)
  have facts := PySem.F.store_object
  refine codeAny_call_builtin facts.slot.plain facts.entry (@PySem.W.check_slot (model prog w) _ _ ⟨hp, g, dr, tk0, os⟩ "object.__setattr__" "object" "__setattr__" (.ref x) [.str Fl tk, v] [] _ facts.kind facts.split isO (facts.args (.ref x) (.str Fl tk) v) ?_)
  have look : PySem.W.Looks (model prog w) hp (classData C) cd := PySem.W.looks_clsIn inK ecd
  have mro : PySem.W.Looks (model prog w) hp (mroOf (.ref C)) cd.mro := look.andThen .now
  have none' : PySem.W.Looks (model prog w) hp (Builtin.ObjectAttr.storeTaker? none) none := .now
  rw [PySem.W.osa_eq, refuse_eq]
  refine wpAny_bind (wpAny_bind (inst.type.at (wpAny_bind (mro.at ?_))))
  rw [em, refuseLoop_ref, refuseLoop_ref, T.bok.store.passes]
  refine wpAny_pure (wpAny_bind (inst.type.at (wpAny_bind ((PySem.W.looks_findIn inK no).at (wpAny_bind (none'.at ?_))))))
  obtain ⟨nm, bs, mr, ns, qn, hd, sn, sb, ab, col, del⟩ := cd
  dsimp only at eh
  subst eh
  show wpAny _ _ (Builtin.ObjectAttr.storeInOwnDict (.ref x) (.ref C) (.str Fl tk) Fl v false) _ _ _
  unfold Builtin.ObjectAttr.storeInOwnDict Builtin.ObjectAttr.ownDictForStores
  repeat (first | with_reducible refine store_in_new ?_ ?_ | with_reducible refine look.at ?_ | with_reducible refine wpAny_loadPart_at at_x ?_ | wp_step)
  · exact ⟨_, #[], _, (Heap.get?_update_ne _ _ _ _ old.symm).trans (Heap.get?_push_at rfl rfl), rfl, fun e he => absurd he (by simp), fun _ => rfl⟩
  · intro h1 t1 hn hs
    refine k h1 t1 hp.objs.size (fun c o hc ho => ?_) (Nat.le_refl _) old.symm ?_ hn
    · exact (hs.2 c (Nat.ne_of_lt (Heap.lt_size ho))).trans ((Heap.get?_update_ne _ _ _ _ hc).trans (Heap.get?_push_of_some _ ho))
    · exact (hs.2 x old).trans (Heap.get?_update_self _ (Heap.get?_push_of_some { cls := .type "dict", data := .dict #[] } at_x) rfl)
/-- what __init__ leaves of a fresh error at x -/
structure InitLeft (h h1 : Heap) (x C dx t1 : Addr) (Fl : Str) (v : Value) : Prop where
  keep : ∀ c o, c ≠ x → h.get? c = some o → h1.get? c = some o
  obj : h1.get? x = some { cls := .ref C, dict := some dx, data := .fields #[.ref t1, .none, .none, .none, .bool false, .none] }
  big : h.objs.size ≤ dx
  ne : dx ≠ x
  ns : h1.Ns1 dx (fun y => if y = Fl then some v else none)
theorem here_local {M : Model} {s : Shared} {name : Str} {scope : Scope} {L a : Addr} {cd : Value} {m : Str → Option Value} {x : Str} {pos : Pos} {v : Value} {Q : Value → Shared → Prop} (ns : s.heap.Ns L m) (hv : m x = some v) (q : Q v s)
    (hk : scope.kind = .function := by rfl) (hl : (envOfC name scope L a cd).kindOf x = some .local := by rfl) (hd : (x == ("__debug__" : Str)) = false := by decide) : wpAny M A (eval (.Name x pos) (envOfC name scope L a cd)) Q E s := wpAny_Name (wpAny_loadName_local hk hl ns hv q) hd
theorem err_init {s : Shared} {f x t0 : Addr} {v : Value} {st : Stmt} {p : Spots} {fd : FuncData} (T : ErrK K mg b U N C) (no : PySem.W.findIn K (.ref C) Fl = some none) (hF : Fl = "value" ∨ Fl = "index" ∨ Fl = "limit") (G : L2.Fun K "__init__" (N ++ ".__init__") st f fd) (e1 : defArgs st = eArgs Fl p) (e2 : defBody st = eBody Fl p) (e3 : defScope st = eScope Fl)
    (inK : K.In s.heap) (lim : s.heap.NoLimit) (at_x : s.heap.get? x = some (excO C t0)) (room : A.depth < recursionLimit)
    (k : ∀ h1 tk dx, InitLeft s.heap h1 x C dx t0 Fl v → R (.ok (.ret .none)) { s with heap := h1, toks := tk }) : codeAny (model prog w) A (.call (.ref f) ⟨[.ref x, v], []⟩) R s := by
  obtain ⟨oc, od, kV, doc, pm, an, cdv, ct, osl, ef, lk, hcd⟩ := G.ex
  rw [ef, e1, e2, e3] at lk
  have main : ∀ s1, InCallC s s.heap.objs.size (bindL (envOfC (N ++ ".__init__") (eScope Fl) s.heap.objs.size f cdv).kindOf [("self", .ref x), (Fl, v)] fun _ => none) (cellsFrom (s.heap.objs.size + 1) (eScope Fl).names []) (bindC (envOfC (N ++ ".__init__") (eScope Fl) s.heap.objs.size f cdv).kindOf [("self", .ref x), (Fl, v)] fun _ => none) s1 →
      wpAny (model prog w) (A.deeper (envOfC (N ++ ".__init__") (eScope Fl) s.heap.objs.size f cdv)) (execs (eBody Fl p) (envOfC (N ++ ".__init__") (eScope Fl) s.heap.objs.size f cdv)) (fun fl s' => R (.ok (.ret (match fl with | .ret v => v | _ => .none))) s')
        (fun e s' => wpAny (model prog w) (A.deeper (envOfC (N ++ ".__init__") (eScope Fl) s.heap.objs.size f cdv)) (leaving (envOfC (N ++ ".__init__") (eScope Fl) s.heap.objs.size f cdv) e) (fun _ s'' => R (.error e) s'') (fun e' s'' => R (.error e') s'') s') s1 := by
    intro s1 c1
    obtain ⟨h1, tk1, rfl⟩ := c1.toInCall.same
    have keep : ∀ c o, s.heap.get? c = some o → h1.get? c = some o := c1.toInCall.keep
    have ns := c1.toInCall.ns
    refine wpAny_execs_cons (plainObj_wpAny_Assign_Attribute ?_ ?_)
    · have v1 : (bindL (envOfC (N ++ ".__init__") (eScope Fl) s.heap.objs.size f cdv).kindOf [("self", .ref x), (Fl, v)] fun _ => none) Fl = some v := by
        rcases hF with rfl | rfl | rfl <;> first | rfl | with_unfolding_all rfl | kernel_rfl
      have v2 : (bindL (envOfC (N ++ ".__init__") (eScope Fl) s.heap.objs.size f cdv).kindOf [("self", .ref x), (Fl, v)] fun _ => none) "self" = some (.ref x) := by
        rcases hF with rfl | rfl | rfl <;> first | rfl | with_unfolding_all rfl | kernel_rfl
      refine here_local (v := v) ns v1 (here_local (v := .ref x) ns v2 ?_ rfl rfl (by decide)) rfl (by rcases hF with rfl | rfl | rfl <;> rfl) (by rcases hF with rfl | rfl | rfl <;> decide)
      refine PySem.W.set_plain (inK.keeps keep) (ox := excO C t0) (od := none) ⟨keep _ _ at_x, rfl, rfl, trivial⟩ T.sa ?_
      refine err_store T (inK.keeps keep) (keep _ _ at_x) no fun h3 tk3 dx k3 big ne hx hn => ?_
      have z : s.heap.objs.size < h1.objs.size := ns.lt
      exact wpAny_execs_nil (k h3 tk3 dx ⟨fun c o hc e => k3 c o hc (keep c o e), hx, Nat.le_of_lt (Nat.lt_of_lt_of_le z big), ne, hn⟩)
    · rfl
  refine Att.call_fn (binds := [("self", .ref x), (Fl, v)]) inK lim lk hcd room ?_ ?_ main rfl rfl rfl
  · rcases hF with rfl | rfl | rfl <;> exact BindsTo.of_eq (by first | rfl | with_unfolding_all rfl)
  · rcases hF with rfl | rfl | rfl <;> first | rfl | decide | with_unfolding_all rfl
end
end Gu
namespace Gu
open PySem PySem.Spec PyProof.Rows L2 HandSPX
section
variable {prog : Program} {w : World} {A : Around} {E : Value → Shared → Prop} {R : Result → Shared → Prop} {K : PySem.W.Frag} {mg : Str → Option Value} {b : BaseE} {U C : Addr} {N Fl : Str}
/-- an error that is made: at e, its dict at d -/
structure MadeE (h h1 : Heap) (e C d : Addr) (Fl : Str) (v : Value) : Prop where
  keep : ∀ c o, h.get? c = some o → h1.get? c = some o
  new : h.objs.size ≤ e
  obj : ∃ oe vs, h1.get? e = some oe ∧ oe.cls = .ref C ∧ oe.dict = some d ∧ oe.data = .fields vs ∧ vs[1]? = some .none
  big : h.objs.size ≤ d
  ne : d ≠ e
  ns : h1.Ns1 d (fun y => if y = Fl then some v else none)
theorem one_fits (v : Value) : [v].length ≤ sizeLine := by
  show 1 ≤ sizeLine
  decide
theorem err_made {s : Shared} {v : Value} (T : ErrK K mg b U N C) (S : ErrF K N Fl C) (inK : K.In s.heap) (lim : s.heap.NoLimit) (room : A.depth + 1 < recursionLimit) (k : ∀ h1 tk e d, MadeE s.heap h1 e C d Fl v → R (.ok (.ret (.ref e))) { s with heap := h1, toks := tk }) :
    codeAny (model prog w) A (.call (.ref C) ⟨[v], []⟩) R s := by
  obtain ⟨q, M, bs, sn, sub, ab, col, dd, k0, k1, k2, k3, k5, hC⟩ := T.cls
  obtain ⟨f, st, p, fd, hf, tf, G, e1, e2, e3⟩ := S.init
  obtain ⟨hp, g, dr, tk, os⟩ := s
  have old : ∀ c o, hp.get? c = some o → ((hp.push (PySem.W.kdv_tup [v])).push (excO C hp.objs.size)).get? c = some o := fun c o e => Heap.get?_push_of_some _ (Heap.get?_push_of_some _ e)
  have here : ((hp.push (PySem.W.kdv_tup [v])).push (excO C hp.objs.size)).get? (hp.objs.size + 1) = some (excO C hp.objs.size) := by heap_get
  refine call_own T.bok.base (fun X => by rw [List.contains_cons]; rfl) (inK _ _ hC) (PySem.W.looks_findIn inK hf) (fun self => PySem.W.bind_fn inK self tf) (one_fits v) ?_
  refine err_init (s := ⟨(hp.push (PySem.W.kdv_tup [v])).push (excO C hp.objs.size), g, dr, tk, os⟩) T S.no S.nm G e1 e2 e3 (inK.keeps old) (lim.keeps old) here room fun h1 t1 dx L => ?_
  have old1 : ∀ c o, hp.get? c = some o → h1.get? c = some o := fun c o e => L.keep c o (Nat.ne_of_lt (Nat.lt_succ_of_lt (Heap.lt_size e))) (old c o e)
  have z : hp.objs.size + 1 + 1 ≤ dx := by
    have q := L.big
    rw [Heap.size_push, Heap.size_push] at q
    exact q
  exact ⟨rfl, k h1 t1 (hp.objs.size + 1) dx ⟨old1, Nat.le_succ _, ⟨_, _, L.obj, rfl, rfl, rfl, rfl⟩, by show hp.objs.size ≤ dx; omega, L.ne, L.ns⟩⟩
end
theorem relO_one {Fl : Str} {v : V} {u : Value} (r : RelV v u) (g : Str) : RelO (List.lookup g [(Fl, v)]) (if g = Fl then some u else none) := by
  by_cases h : g = Fl
  · subst h
    rw [if_pos rfl, show List.lookup g [(g, v)] = some v by simp [List.lookup]]
    exact r
  · have q : (g == Fl) = false := by simpa using h
    rw [if_neg h, show List.lookup g [(Fl, v)] = none by simp [List.lookup, q]]
    trivial
section
variable {X : Cx} {b : BaseE} {U C : Addr} {N Fl : Str}
/-- N(e) -/
def tMkE (C : Addr) (Fl : Str) (ta : TA) : L2.St → Hp → XK → Prop := fun σ H Q => ta σ H fun vs G => ∃ v, vs = [v] ∧ ∀ d, G d = none → Q (.ref C) (some d) (upd G d (.xd [(Fl, v)]))
theorem pmk_err {a : Expr} {ta : TA} {p pos : Pos} {k : Nat} (T : ErrK X.K X.mg b U N C) (S : ErrF X.K N Fl C) (hr : Room k X.A) (ha : PA X [a] ta) (hg : Gl X N) (hdb : (N == ("__debug__" : Str)) = false)
    (he : starEach (a :: []) X.env = (false, eval a X.env) :: starEach [] X.env := by rfl) (hpl : (backTo pos (starEach [] X.env)).any (·.1) = false := by rfl) : PMk X (.Call (.Name N p) [a] [] pos) (tMkE C Fl ta) := by
  intro pins s σ H Q I want
  refine wpAny_Call_Name_kw (ld_glob I hg T.g ?_ hdb)
  refine PySem.W.callWith_K (h₀ := X.base) I.ok.mod.kin T.kC (thn (ha.run pos pins s σ H _ I want) fun us s1 ⟨vs, G, I1, r, v, ev, q⟩ => ⟨I1.kIn, ?_⟩) he hpl
  subst ev
  cases r with
  | @cons _ u _ _ rv rn =>
    cases rn
    have lim := I1.nolimit
    obtain ⟨hp, g, dr, tk, os⟩ := s1
    show wpAny _ _ (call (.ref C) [u]) _ _ _
    refine wpAny_call (err_made (v := u) T S I1.kIn lim (by have := hr.dp; omega) fun h1 t1 e d M => ?_)
    obtain ⟨oe, fv, hoe, hc, hd, hdat, h1n⟩ := M.obj
    obtain ⟨B, b1, b2⟩ := restrict h1 fun c => decide (c ≠ e)
    have inB : ∀ c, c ≠ e → B.get? c = h1.get? c := fun c hc => b1 c (decide_eq_true hc)
    have noB : B.get? e = none := b2 e (by simp)
    have old : ∀ c o, hp.get? c = some o → B.get? c = some o := fun c o z => (inB c (Nat.ne_of_lt (Nat.lt_of_lt_of_le (Heap.lt_size z) M.new))).trans (M.keep c o z)
    have ob : ObjOk X.prog X.w (upd G d (.xd [(Fl, v)])) B d (.xd [(Fl, v)]) := ⟨_, M.ns.at (fun o z => (inB d M.ne).trans z), fun y => relO_one rv y⟩
    have J : Inv X pins σ (upd G d (.xd [(Fl, v)])) ⟨B, g, dr, t1, os⟩ := I1.laid (t' := t1) old M.big ob
    show MkP X pins σ Q (.ref e) ⟨h1, g, dr, t1, os⟩
    refine ⟨e, oe, fv, ⟨B, g, dr, t1, os⟩, _, .ref C, some d, rfl, J, fun c o z => ?_, noB, hoe, ⟨hc, hd⟩, hdat, h1n, ?_, rfl, I1.bare, raises_own T.exC T.ty, q d (I1.hok.fresh M.big)⟩
    · by_cases hce : c = e
      · have z : B.get? c = some o := z
        rw [hce, noB] at z
        cases z
      · exact (inB c hce).symm.trans z
    · rw [upd_ne (Ne.symm M.ne)]
      exact I1.hok.fresh M.new
/-- raise N(e) -/
def tRaiseE (C : Addr) (Fl : Str) (W : WX) (ta : TA) : TS := fun _ σ H => tMkE C Fl ta σ H fun cls d G => W cls d σ G
theorem ps_raiseE {a : Expr} {ta : TA} {W : WX} {p pos pos2 : Pos} {k : Nat} (T : ErrK X.K X.mg b U N C) (S : ErrF X.K N Fl C) (hc : X.calm = true) (hr : Room k X.A) (tk : Takes X W) (ha : PA X [a] ta) (hg : Gl X N) (hdb : (N == ("__debug__" : Str)) = false := by decide)
    (he : starEach (a :: []) X.env = (false, eval a X.env) :: starEach [] X.env := by rfl) (hpl : (backTo pos (starEach [] X.env)).any (·.1) = false := by rfl) :
    PS X (.Raise (some (.Call (.Name N p) [a] [] pos)) none pos2) (tRaiseE C Fl W ta) := ps_raise hc tk (pmk_err T S hr ha hg hdb he hpl)
/-! ### an error that is held -/
/-- e.f, e the error at a that is pinned -/
def tXfE (a : Addr) (cls : Value) (d : Option Addr) (C : Addr) (f : Str) (te : TE) : TE := fun σ H Q => te σ H fun x G => x = .ref a ∧ cls = .ref C ∧ ∃ (dd : Addr) (fs : List (Str × V)) (v : V), d = some dd ∧ G dd = some (.xd fs) ∧ fs.lookup f = some v ∧ Q v G
theorem pe_xfE {a : Addr} {oe : Obj} {cls : Value} {d : Option Addr} {e : Expr} {te : TE} {pos : Pos} (T : ErrK X.K X.mg b U N C) (S : ErrF X.K N Fl C) (hp : (a, oe) ∈ X.pn) (hz : Zc cls d oe) (hf : ∃ vs, oe.data = .fields vs) (he : PE X e te) (hb : attributeBase e Fl X.env (eval e X.env) = eval e X.env) :
    PE X (.Attribute e Fl pos) (tXfE a cls d C Fl te) := by
  refine ⟨fun pins s σ H Q I want => attr_of hb (thn (he.run pins s σ H _ I want) fun u s1 ⟨x, G, I1, rx, ex, ec, dd, fs, v, ed, ea, l, q⟩ => ?_)⟩
  subst ex ec ed
  obtain rfl : u = Value.ref a := rx
  obtain ⟨ha, _⟩ := I1.pin (a, oe) (List.mem_append_left _ hp)
  obtain ⟨vs, hd⟩ := hf
  obtain ⟨mA, hns, rel⟩ := (show ObjOk X.prog X.w G s1.heap dd (.xd fs) from I1.hok dd _ ea)
  obtain ⟨od, ho, hl⟩ := lookIn_ns hns
  obtain ⟨u, hu, ru⟩ := RelO.some_of (v := v) (o := mA Fl) (by rw [← l]; exact rel Fl)
  have J : PySem.W.InstAt s1.heap a oe C (some od) := ⟨ha, hz.1, by unfold PySem.W.notCls; rw [hd] <;> rfl, by rw [hz.2]; exact ho⟩
  exact exc_get I1.kIn J T.ga T.gg T.exC (PySem.W.findObj_own T.hd S.no rfl (by rw [hl, hu])) (handed_of ru) ⟨v, G, I1.tok _, ru, q⟩
/-- isinstance(e, c), e the error at a that is pinned -/
def rIsX (K : PySem.W.Frag) (C a : Addr) (cls : Value) (d : Option Addr) : List V → Hp → VK → Prop := fun xs H Q => ∃ (c : V) (cv : Value) (r : Bool), xs = [.ref a, c] ∧ cls = .ref C ∧ (∀ u, RelV c u → u = cv) ∧ PySem.W.kitOne K (.ref C) cv = some r ∧ (∀ dd, d = some dd → ∃ fs, H dd = some (.xd fs)) ∧ Q (.bl r) H
theorem call_isX {a : Addr} {oe : Obj} {cls : Value} {d : Option Addr} (T : ErrK X.K X.mg b U N C) (hp : (a, oe) ∈ X.pn) (hz : Zc cls d oe) (hf : ∃ vs, oe.data = .fields vs) : CallR X (.builtin "isinstance") (rIsX X.K C a cls d) := by
  intro pins s σ H xs us Q I r h
  obtain ⟨c, cv, ans, rfl, rfl, hcv, e, hdd, q⟩ := h
  cases r with
  | cons rx rr =>
    cases rr with
    | cons rt rr =>
      cases rr
      cases rx
      have ec := hcv _ rt
      subst ec
      obtain ⟨get, _⟩ := I.pin (a, oe) (List.mem_append_left _ hp)
      obtain ⟨vs, hv⟩ := hf
      have J : ∃ od, PySem.W.InstAt s.heap a oe C od := by
        obtain ⟨oc, odd, oda, osl⟩ := oe
        obtain ⟨h1, h2⟩ := hz
        dsimp only at h1 h2 hv
        subst h1 h2 hv
        cases odd with
        | none => exact ⟨none, get, rfl, rfl, trivial⟩
        | some dd =>
          obtain ⟨fs, hx⟩ := hdd dd rfl
          obtain ⟨mA, hns, _⟩ := (show ObjOk X.prog X.w H s.heap dd (.xd fs) from I.hok dd _ hx)
          obtain ⟨od, ho, _⟩ := lookIn_ns hns
          exact ⟨some od, get, rfl, rfl, ho⟩
      obtain ⟨od, J⟩ := J
      exact PySem.W.kia_one (PySem.W.kitx_exc T.isC T.ga T.gg T.exC T.ca T.cn T.ct T.obj) I.kIn J e (fun z => nomatch z) fun tk => ⟨.bl ans, H, I.kept (t' := tk) fun _ _ z => z, rfl, q⟩
end
end Gu
namespace Gu
open PySem PySem.Spec PyProof.Rows L2 HandSPX
/-! ### try with several clauses, each of them naming the error -/
/-- the test of a clause: mt tells of the error's class whether it is this one; what stood stands -/
def HTest (X : Cx) (t : Expr) (mt : Value → Option Bool) : Prop := ∀ (a : Addr) (oe : Obj) (cls : Value) (d : Option Addr) (pn pins : List (Addr × Obj)) (σ : L2.St) (H : Hp) (s : Shared) (r : Bool) (Q : Bool → Shared → Prop) (E : Value → Shared → Prop), Inv (X.suite a ((a, oe) :: pn)) pins σ H s → s.heap.get? a = some oe → Zc cls d oe → mt cls = some r →
  (∀ h1 tk, (∀ c o, s.heap.get? c = some o → h1.get? c = some o) → Q r { s with heap := h1, toks := tk }) →
  wpAny (model X.prog X.w) (X.A.mark (some (.ref a))) (eval t X.env) (fun c s1 => wpAny (model X.prog X.w) (X.A.mark (some (.ref a))) (excMatches (.ref a) c) Q E s1) E s
theorem htest_name {X : Cx} {x : Str} {c : Value} {pos : Pos} (hc : Names X x c) : HTest X (.Name x pos) (fun cls => PySem.W.exmOne X.K cls c) := by
  intro a oe cls d pn pins σ H s r Q E I ha hz hm k
  have LT : PySem.W.Looks (model X.prog X.w) s.heap (typeOf (.ref a)) cls := fun A Q E s1 keep q => wpAny_typeOf_ref (keep _ _ ha) (by rw [hz.1]; exact q)
  have LM := PySem.W.exm_one (M := model X.prog X.w) I.kIn LT hm
  have go : wpAny (model X.prog X.w) (X.A.mark (some (.ref a))) (excMatches (.ref a) c) Q E s := LM.here (k s.heap s.toks fun _ _ e => e)
  obtain ⟨hg, hdb, hm | ⟨hm, hv, hn⟩⟩ := hc
  · exact ld_glob (X := X.suite a ((a, oe) :: pn)) I hg hm go hdb
  · exact ld_blt (X := X.suite a ((a, oe) :: pn)) I hg hm hv go hn hdb
/-- what the clauses wish of an error of the body, one after the other; slot i is the error's name -/
def wManyA (i : Nat) (Wout : WX) (D : Ends) : List ((Value → Option Bool) × (Addr → Value → Option Addr → TS)) → WX
  | [] => Wout
  | (mt, ts) :: l => fun cls d σ H => ∃ r, mt cls = some r ∧ (r = true → ∀ a, H a = none → i < σ.length → ts a cls d { nx := fun σ1 G => D.nx (σ1.set i none) G, rt := D.rt, bk := fun σ1 G => D.bk (σ1.set i none) G, ct := fun σ1 G => D.ct (σ1.set i none) G } (σ.set i (some (.ref a))) H) ∧ (r = false → wManyA i Wout D l cls d σ H)
inductive HdsA (X : Cx) (n : Str) : List ExceptHandler → List ((Value → Option Bool) × (Addr → Value → Option Addr → TS)) → Prop
  | nil : HdsA X n [] []
  | cons {t : Expr} {mt : Value → Option Bool} {ts : Addr → Value → Option Addr → TS} {b0 : Stmt} {suite : List Stmt} {pos : Pos} {hds : List ExceptHandler} {l : List ((Value → Option Bool) × (Addr → Value → Option Addr → TS))} (ht : HTest X t mt)
      (hs : ∀ (a : Addr) (oe : Obj) (cls : Value) (d : Option Addr) (pn : List (Addr × Obj)), Zc cls d oe → (∃ vs, oe.data = .fields vs) → PSs (X.suite a ((a, oe) :: pn)) (b0 :: suite) (ts a cls d)) (r : HdsA X n hds l) : HdsA X n (.ExceptHandler (some t) (some n) (b0 :: suite) pos :: hds) ((mt, ts) :: l)
/-- what flies stays so while more is laid -/
theorem flying_keep {B h h1 : Heap} {l : List Env} {e : Addr} {Z : Obj → Prop} (k : ∀ c o, h.get? c = some o → h1.get? c = some o) (f : FlyingZ B l e Z h) : FlyingZ B l e Z h1 := by
  obtain ⟨f1, f2, f3, oe, vs, T, oT, ts, he, hz, hd, a1, a2, a3, a4, a5, a6⟩ := f
  exact ⟨fun b o q => k b o (f1 b o q), f2, f3.of_keeps fun b o hb _ => ⟨o, k b o hb, rfl⟩, oe, vs, T, oT, ts, k _ _ he, hz, hd, a1, a2, a3, k _ _ a4, a5, a6⟩
section
variable {X : Cx} {n : Str} {i : Nat} {body : List Stmt} {h0 : ExceptHandler} {hds : List ExceptHandler} {l : List ((Value → Option Bool) × (Addr → Value → Option Addr → TS))} {pos : Pos} {tb : WX → TS} {Wout : WX}
theorem ps_try_manyA (hs : X.stack = X.env :: X.outer) (hf : X.env.frame = some X.env.locals) (hN : X.N.Nodup) (hi : X.N[i]? = some n) (hln : X.env.kindOf n = some .local) (tk : Takes X Wout)
    (hb : ∀ (W : WX) (pn : List (Addr × Obj)) (xe : Value → Shared → Prop), Takes (X.tr pn xe) W → PassesOwn (model X.prog X.w) X.A X.env xe → PSs (X.tr pn xe) body (tb W))
    (hh : HdsA X n (h0 :: hds) l) : PS X (.Try body (h0 :: hds) [] [] pos) (fun D σ H => tb (wManyA i Wout D l) D σ H) := by
  refine ⟨fun pins s σ H D I want => ?_⟩
  have ok := I.ok
  have frames : X.A.frames = some (X.env :: X.outer) := by rw [ok.frames, hs]
  have loc : Loc X.env.scope n := .inl hln
  refine wpAny_Try_except (wpAny_mono ((hb (wManyA i Wout D l) (X.pn ++ pins) (fun e s1 => wpAny (model X.prog X.w) X.A (noteFrame e X.env) (fun _ s2 => wpAny (model X.prog X.w) X.A (setFlight e none) (fun _ s3 => wpAny (model X.prog X.w) X.A (handleBy e X.env (h0 :: hds)) (SP X pins D) X.xe s3) X.xe s2) X.xe s1) (fun u s1 x1 => ?_) PassesOwn.looking).run [] s σ H D (I.toTry _) want) (fun fl s1 q => ?_) fun e s1 q => q)
  · obtain ⟨a, B, sI, _, σ1, H1, cls, d, rfl, J0, nb, up, sky, na, os, ag, wish⟩ := x1
    have J : Inv X pins σ1 H1 sI := J0.ofTry ok
    rw [hs] at sky
    refine Sky.land Zc.steady frames hf sky fun h3 fl3 up3 => ?_
    have out : ∀ {h : Heap} {o : Obj} {vs : Array Value}, h.FunFrames B (X.env :: X.outer) → h.get? a = some o → o.data = .fields vs → a ≠ X.env.locals ∧ a ∉ X.fs := fun {h o vs} ff e dd => by
      have nf : a ∉ frs (X.env :: X.outer) := fun hm => by
        obtain ⟨_, o2, e2, z⟩ := ff.mem hm
        rw [e] at e2
        cases e2
        exact z _ dd
      exact ⟨fun z => nf (List.mem_filterMap.mpr ⟨X.env, List.mem_cons_self, by rw [hf, z]⟩), fun hm => by
        obtain ⟨e, he, q⟩ := List.mem_filterMap.mp hm
        exact nf (List.mem_filterMap.mpr ⟨e, List.mem_cons_of_mem _ he, q⟩)⟩
    have go : ∀ {hs2 : List ExceptHandler} {l2 : List ((Value → Option Bool) × (Addr → Value → Option Addr → TS))}, HdsA X n hs2 l2 → ∀ (h : Heap) (t : Nat), FlyingZ B (X.env :: X.outer) a (Zc cls d) h → sI.heap.UpToSlots h → wManyA i Wout D l2 cls d σ1 H1 →
        wpAny (model X.prog X.w) X.A (handleBy (.ref a) X.env hs2) (SP X pins D) X.xe { s1 with heap := h, toks := t } := by
      intro hs2 l2 hk
      induction hk with
      | nil =>
        intro h t fl up wish
        refine wpAny_handleBy_nil ?_
        obtain ⟨_, _, _, oe, vs, T, oT, ts, he, hz, hd, h1, _⟩ := id fl
        unfold PySem.passOn
        refine wpAny_bind (wpAny_field he hd h1 ?_)
        rw [if_neg (by simp)]
        have last : wpAny (model X.prog X.w) X.A (setFlight (.ref a) X.env.frame) (fun _ s4 => wpAny (model X.prog X.w) X.A (throw (.ref a) : Sem Flow) (SP X pins D) X.xe s4) X.xe { s1 with heap := h, toks := t } := by
          rw [hf]
          refine setFlight_upZ fl fun h4 hh4 up4 => wpAny_throw (tk _ _ ?_)
          exact ⟨a, B, sI, pins, σ1, H1, cls, d, rfl, J, nb, up.trans up4, .inr (.inr (by rw [hs]; exact hh4)), na, os, ag, wish⟩
        first
          | exact wpAny_bind (wpAny_pure (wpAny_bind last))
          | exact wpAny_bind last
      | @cons t mt ts b0 suite pos2 hds2 l2 ht hsu r ih =>
        intro h tok fl up wish
        obtain ⟨ans, hm, yes, no⟩ := wish
        have J3 : Inv X pins σ1 H1 { s1 with heap := h, toks := tok } := J.landed (s' := { s1 with heap := h, toks := tok }) nb fl.1 up os ag
        obtain ⟨oe, vs, he, hz, hd⟩ := fl.there
        have nn := out fl.2.2.1 he hd
        have S3 := J3.suite he hd na nn.1 nn.2
        refine wpAny_handleBy_cons (codeAny_handlers_test ?_) (by intro q; cases q)
        refine ht a oe cls d (X.pn ++ pins) [] σ1 H1 { s1 with heap := h, toks := tok } ans _ _ S3 he hz hm fun h4 tok4 k4 => ?_
        have fl4 := flying_keep k4 fl
        have up4 : sI.heap.UpToSlots h4 := up.trans fun b o hb _ => ⟨o.slots, k4 b o hb⟩
        cases ans with
        | false => exact ih h4 tok4 fl4 up4 (no rfl)
        | true =>
          refine codeAny_handlers_suite_as (lands_againZ fl4 fun h5 fl5 up5 => ?_)
          have J5 : Inv X pins σ1 H1 { s1 with heap := h5, toks := tok4 } := J.landed (s' := { s1 with heap := h5, toks := tok4 }) nb fl5.1 (up4.trans up5) os ag
          obtain ⟨oe5, vs5, he5, hz5, hd5⟩ := fl5.there
          have n5 := out fl5.2.2.1 he5 hd5
          refine store_ok (X := X.suite a ((a, oe5) :: (X.pn ++ pins))) (v := .ref a) (J5.suite he5 hd5 na n5.1 n5.2) hN hi loc rfl (fun s6 S6 => ?_) (.inr hln)
          refine wpAny_mono ((hsu a oe5 cls d (X.pn ++ pins) hz5 ⟨_, hd5⟩).run [] s6 _ H1 _ S6 (yes rfl a na (by rw [J5.len]; exact (List.getElem?_eq_some_iff.mp hi).1))) (fun fl7 s7 q7 => ?_) fun _ _ z => False.elim z
          have gone : ∀ {σ7 : L2.St} {H7 : Hp} {Q : Shared → Prop}, Inv (X.suite a ((a, oe5) :: (X.pn ++ pins))) [] σ7 H7 s7 → (∀ s8, Inv X pins (σ7.set i none) H7 s8 → Q s8) → wpAny (model X.prog X.w) X.A (do bindName X.env n .none; unbindBehindTheSuite X.env n pos2) (fun _ s8 => Q s8) X.xe s7 := fun {σ7 H7 Q} S7 hq => gone_ok (S7.unsuite ok) hN hi hln hq
          cases fl7 with
          | next =>
            obtain ⟨σ7, H7, S7, q7⟩ := q7
            exact gone S7 fun s8 J8 => ⟨_, _, J8, q7⟩
          | brk =>
            obtain ⟨σ7, H7, S7, q7⟩ := q7
            exact gone S7 fun s8 J8 => ⟨_, _, J8, q7⟩
          | cont =>
            obtain ⟨σ7, H7, S7, q7⟩ := q7
            exact gone S7 fun s8 J8 => ⟨_, _, J8, q7⟩
          | ret u =>
            obtain ⟨v7, σ7, H7, S7, r7, q7⟩ := q7
            exact gone S7 fun s8 J8 => ⟨_, _, _, J8, r7, q7⟩
    exact go hh h3 s1.toks fl3 (up.trans up3) wish
  · cases fl with
    | next =>
      obtain ⟨σ1, H1, J1, q⟩ := q
      exact wpAny_execs_nil ⟨σ1, H1, J1.ofTry ok, q⟩
    | brk =>
      obtain ⟨σ1, H1, J1, q⟩ := q
      exact ⟨σ1, H1, J1.ofTry ok, q⟩
    | cont =>
      obtain ⟨σ1, H1, J1, q⟩ := q
      exact ⟨σ1, H1, J1.ofTry ok, q⟩
    | ret u =>
      obtain ⟨v, σ1, H1, J1, r, q⟩ := q
      exact ⟨v, σ1, H1, J1.ofTry ok, r, q⟩
end
end Gu
namespace Gu
open PySem PySem.Spec PyProof.Rows L2
/-! ### defs that are called where no container is being written out -/
structure FnG (P : Program) (w : World) (K : PySem.W.Frag) (mg : Str → Option Value) (base : Heap) (k : Nat) (f : Addr) (fd : FuncData) (ps : List Str) (sp : Sp) : Prop where
  len : ∀ vs H Q E, sp vs H Q E → vs.length = ps.length
  run : ∀ (A : Around) (outer : List Env) (s : Shared) (H : Hp) (args : Args) (us : List Value) (vs : List V) (Q : VK) (E : XK), Room k A → A.guards = some [] → Env0 P w K mg base A outer s H → BindsTo s fd args (ps.zip us) → Vals vs us → sp vs H Q E →
    codeAny (model P w) A (.call (.ref f) args) (CR CX0 outer P w H s Q E) s
section
variable {P : Program} {w : World} {K : PySem.W.Frag} {mg : Str → Option Value} {base : Heap}
theorem okG {x qual : Str} {st : Stmt} {f : Addr} {fd : FuncData} {N ps : List Str} {k : Nat} {sp : Sp} (F : Fun K x qual st f fd) (S : FnScope N ps (defScope st)) (len : ∀ vs H Q E, sp vs H Q E → vs.length = ps.length)
    (body : ∀ (cdv : Value) (A : Around) (outer : List Env) (s : Shared) (H : Hp) (vs : List V) (Q : VK) (E : XK), Room k (A.deeper (envOfC qual (defScope st) s.heap.objs.size f cdv)) → A.guards = some [] → sp vs H Q E →
      ∃ t, PSs (cxOf CX0 P w K mg base N qual (defScope st) f cdv A outer s H E).nox (defBody st) t ∧ t { nx := fun _ G => Q .non G, rt := Q } (start N vs) H) : FnG P w K mg base (k + 1) f fd ps sp := by
  obtain ⟨oc, od, kV, doc, pm, an, cdv, ct, osl, rfl, lk, hcd⟩ := F.ex
  refine ⟨len, fun A outer s H args us vs Q E room quiet env binds rel want => ?_⟩
  have stays : ∀ b o, base.get? b = some o → s.heap.get? b = some o := fun b o e => (env.bs b o e).1
  have inK : K.In s.heap := env.mod.kin.keeps stays
  have free : s.heap.NoLimit := env.mod.nolimit.keeps stays
  refine codeAny_call_function room.depth (inK _ _ lk) rfl S.co S.gen rfl (PySem.W.codeRec_of inK hcd) (binds _ _ _ _ ?_)
  refine wpAny_newFunctionEnv_cells S.kind (fun ⟨n, v⟩ hy => (S.par n (List.of_mem_zip hy).1).imp id fun q => ⟨q, PySem.W.cellsFrom_some _ _ _ (.inl q)⟩) fun env1 e1 s1 c1 => ?_
  subst e1
  refine ⟨free.keeps c1.toInCall.keep, codeAny_func ?_⟩
  obtain ⟨t, d, q⟩ := body cdv A outer s H vs Q E (room.deeper _) quiet want
  refine wpAny_mono (d.nox.run [] s1 (start N vs) H _ (inv_start S room.hd env (len _ _ _ _ want) rel c1) q) (fun fl s2 h2 => ?_) fun e s2 h2 => h2
  cases fl with
  | ret u =>
    obtain ⟨v, σ2, G, J, rv, r⟩ := h2
    exact ⟨v, G, J.os, J.bare, J.base, J.hok, rv, r⟩
  | next =>
    obtain ⟨σ2, G, J, r⟩ := h2
    exact ⟨V.non, G, J.os, J.bare, J.base, J.hok, rfl, r⟩
  | brk => exact (h2.choose_spec.choose_spec.2 : False).elim
  | cont => exact (h2.choose_spec.choose_spec.2 : False).elim
structure CalG (P : Program) (w : World) (K : PySem.W.Frag) (mg : Str → Option Value) (base : Heap) (k : Nat) (x : Str) (ps : List Str) (sp : Sp) : Prop where
  ex : ∃ (f : Addr) (fd : FuncData), FnG P w K mg base k f fd ps sp ∧ mg x = some (.ref f) ∧ PySem.W.keepIn K (.ref f) = true ∧ Binds K fd ps []
theorem At.calG {x : Str} {st : Stmt} {N ps : List Str} {k : Nat} {sp : Sp} (D : At K mg x st ps) (S : FnScope N ps (defScope st)) (len : ∀ vs H Q E, sp vs H Q E → vs.length = ps.length)
    (body : ∀ (f : Addr) (cdv : Value) (A : Around) (outer : List Env) (s : Shared) (H : Hp) (vs : List V) (Q : VK) (E : XK), Room k (A.deeper (envOfC x (defScope st) s.heap.objs.size f cdv)) → A.guards = some [] → sp vs H Q E →
      ∃ t, PSs (cxOf CX0 P w K mg base N x (defScope st) f cdv A outer s H E).nox (defBody st) t ∧ t { nx := fun _ G => Q .non G, rt := Q } (start N vs) H) : CalG P w K mg base (k + 1) x ps sp := by
  obtain ⟨f, fd, F, b, g⟩ := D.ex
  exact ⟨f, fd, okG F S len (body f), g, F.kp, b⟩
end
def tCallG (sp : Sp) (t : TA) : TE := fun σ H Q => t σ H fun vs G => sp vs G Q E0
section
variable {X : Cx} {k j : Nat} {x : Str} {ps : List Str} {sp : Sp} {p pos : Pos} {e : Expr} {es : List Expr} {t : TA}
theorem pe_ownG (c : CalG X.prog X.w X.K X.mg X.base k x ps sp) (hr : Room j X.A) (hk : k ≤ j) (quiet : X.A.guards = some []) (hg : Gl X x) (ha : PA X (e :: es) t)
    (hdb : (x == ("__debug__" : Str)) = false := by decide) (he : starEach (e :: es) X.env = (false, eval e X.env) :: starEach es X.env := by rfl) (hpl : (backTo pos (starEach es X.env)).any (·.1) = false := by rfl) :
    PE X (.Call (.Name x p) (e :: es) [] pos) (tCallG sp t) := by
  obtain ⟨f, fd, F, hm, kp, b⟩ := c.ex
  refine ⟨fun pins s σ H Q I h => wpAny_Call_Name_kw (ld_glob I hg hm (PySem.W.callWith_K (h₀ := X.base) I.ok.mod.kin kp (thn (ha.run pos pins s σ H _ I h) fun us s1 ⟨vs, G, I1, r, q⟩ => ⟨I1.kIn, ?_⟩) he hpl) hdb)⟩
  have ll : (us ++ []).length = ps.length := by
    rw [List.append_nil, ← r.length]
    exact F.len _ _ _ _ q
  have bt := b s1 us I1.kIn ll
  rw [List.append_nil] at bt
  refine wpAny_call (codeAny_mono (F.run X.A X.stack s1 G ⟨us, []⟩ us vs Q E0 (hr.mono hk) quiet I1.env0 bt r q) fun rr s2 h2 => ?_)
  cases rr with
  | error e => exact (h2 : False).elim
  | ok fl =>
    cases fl with
    | ret u => exact I1.after h2
    | next => exact (h2 : False).elim
    | brk => exact (h2 : False).elim
    | cont => exact (h2 : False).elim
end
end Gu
namespace Gu
open PySem PySem.Spec PyProof.Rows L2
/-- a heap in which nothing is tracked but, at most, the script at a, which stands still there -/
theorem quiet_end {P : Program} {w : World} {K : PySem.W.Frag} {mg mb : Str → Option Value} {k : Nat} {fa a : Addr} {fd : FuncData} {x : Str} {sp : Sp} {s : Shared} {us : List Value} {H : Hp} (inK : K.In s.heap) (nsG : s.heap.Ns mainGlobals mg) (nsB : s.heap.Ns builtinsNs mb)
    (bb : ∀ x : Str, x ≠ "__name__" → mb x = bootBuiltins x) (nl : s.heap.NoLimit) (ng : s.gens = #[]) (at_a : s.heap.get? a = some { cls := .type "list", data := .seq us.toArray }) (room : Room k callerA)
    (F : ∀ base : Heap, K.In base → base.Ns mainGlobals mg → FnG P w K mg base k fa fd [x] sp) (bind : ∀ (s : Shared) (u : Value), BindsTo s fd ⟨[u], []⟩ [(x, u)]) (want : sp [.ref a] H (fun v _ => v = .bl true) fun _ _ _ => False)
    (only : Only H) (ok : HOk P w H s.heap) (one : ∀ b, H b ≠ none → b = a ∧ K.lookup a = none) :
    codeAny (model P w) callerA (.call (.ref fa) ⟨[.ref a], []⟩) (fun r s2 => r = .ok (.ret (.bool true)) ∧ OldK s.heap s2.heap ∧ s2.os = s.os ∧ AllBare s2.gens) s := by
  have dictFree : ∀ (b : Addr) (o : Obj) (es : Array DictEntry) (ep : Nat), s.heap.get? b = some o → o.data = .dict es ep → H b = none := fun b o es ep e d =>
    Classical.byContradiction fun z => by
      have hb := (one b z).1
      rw [hb, at_a] at e
      cases e
      exact Data.noConfusion d
  have hiddenNs : ∀ (b : Addr) (m : Str → Option Value), s.heap.Ns b m → (hidT s.heap H).Ns b m := fun b m h => by
    obtain ⟨o, es, ep, e, d, r⟩ := h
    exact ⟨o, es, ep, hidT_get e (dictFree b o es ep e d), d, r⟩
  have hiddenK : K.In (hidT s.heap H) := fun b o e => hidT_get (inK b o e) (Classical.byContradiction fun z => by
    obtain ⟨h1, h2⟩ := one b z
    rw [h1, h2] at e
    cases e)
  have env : Env0 P w K mg (hidT s.heap H) callerA [] s H := by
    refine ⟨rfl, ⟨hiddenK, hiddenNs _ _ nsG, ⟨mb, hiddenNs _ _ nsB, bb⟩, ?_⟩, fun b o e => of_hidT e, Nat.le_of_eq (hidT_size _ _), trivial, fun b hb => absurd (show b ∈ ([] : List Addr) from hb) List.not_mem_nil, ok, .of_eq ng⟩
    obtain ⟨mc, h1, h2⟩ := nl
    exact ⟨mc, hiddenNs _ _ h1, h2⟩
  refine codeAny_mono ((F _ hiddenK (hiddenNs _ _ nsG)).run callerA [] s H ⟨[.ref a], []⟩ [.ref a] [.ref a] _ _ room rfl env (bind s (.ref a)) (.cons rfl .nil) want) fun r s2 h2 => ?_
  cases r with
  | error e => exact (h2 : False).elim
  | ok fl =>
    cases fl with
    | next => exact (h2 : False).elim
    | brk => exact (h2 : False).elim
    | cont => exact (h2 : False).elim
    | ret u =>
      obtain ⟨v, G, os, bare, un, ok2, rv, hv⟩ := h2
      cases (show v = .bl true from hv)
      cases (show u = Value.bool true from rv)
      refine ⟨rfl, OldK.of_keep fun b o e => ?_, os, bare⟩
      rcases only b with z | ⟨ob, xs, z⟩
      · exact un.keep b o e z (fun y => absurd (show b ∈ ([] : List Addr) from y) List.not_mem_nil) (by simp)
      · have e1 := (ok b _ z).1
        have e2 := (ok2 b _ (un.frzs b ob _ z)).1
        rw [e] at e1
        cases e1
        exact e2
/-- the law's call, by its promise -/
theorem quiet_call {P : Program} {w : World} {K : PySem.W.Frag} {mg mb : Str → Option Value} {k : Nat} {fa a : Addr} {fd : FuncData} {x : Str} {sp : Sp} {s : Shared} {us : List Value} {ns : List Int} (inK : K.In s.heap) (nsG : s.heap.Ns mainGlobals mg) (nsB : s.heap.Ns builtinsNs mb)
    (bb : ∀ x : Str, x ≠ "__name__" → mb x = bootBuiltins x) (nl : s.heap.NoLimit) (ng : s.gens = #[]) (at_a : s.heap.get? a = some { cls := .type "list", data := .seq us.toArray }) (nums : IntsAre us ns) (small : ns.length ≤ sizeLine) (room : Room k callerA)
    (F : ∀ base : Heap, K.In base → base.Ns mainGlobals mg → FnG P w K mg base k fa fd [x] sp) (bind : ∀ (s : Shared) (u : Value), BindsTo s fd ⟨[u], []⟩ [(x, u)])
    (want : ∀ H : Hp, SqL K H a (ns.map V.int) → sp [.ref a] H (fun v _ => v = .bl true) fun _ _ _ => False) :
    codeAny (model P w) callerA (.call (.ref fa) ⟨[.ref a], []⟩) (fun r s2 => r = .ok (.ret (.bool true)) ∧ OldK s.heap s2.heap ∧ s2.os = s.os ∧ AllBare s2.gens) s := by
  have rel := vals_ints nums
  cases hk : K.lookup a with
  | some o =>
    have e := inK a o hk
    rw [at_a] at e
    cases e
    refine quiet_end (H := fun _ => none) inK nsG nsB bb nl ng at_a room F bind (want _ (.inr ⟨_, us.toArray, _, hk, rfl, rfl, rfl, ?_, rel⟩)) (fun _ => .inl rfl) (fun b u z => nomatch (show (none : Option HO) = some u from z)) fun b z => absurd rfl z
    rw [List.size_toArray, nums.length]
    exact small
  | none =>
    refine quiet_end (H := upd (fun _ => none) a (.frz { cls := .type "list", data := .seq us.toArray } (.lst (ns.map V.int)))) inK nsG nsB bb nl ng at_a room F bind (want _ (.inl (.inr ⟨_, upd_same⟩))) (fun b => ?_) (fun b u z => ?_) fun b z => ?_
    · by_cases hb : b = a
      · exact .inr ⟨_, _, by rw [hb]; exact upd_same⟩
      · exact .inl (upd_ne hb)
    · by_cases hb : b = a
      · subst hb
        rw [upd_same] at z
        cases z
        exact ⟨at_a, by rw [List.length_map]; exact small, us, _, rel, at_a⟩
      · rw [upd_ne hb] at z
        cases z
    · by_cases hb : b = a
      · exact ⟨hb, hk⟩
      · exact absurd (upd_ne hb) z
theorem walkG {l : PySem.W.OpenLaw} {n k : Nat} {q : Program} {loose : List Str} {XP : (Str → Option Value) → Heap → Prop} {YP : World → Heap → Prop} {d : DefRec} {K : Params → PySem.W.Frag} {x : Str} {sp : PySem.W.Frag → Sp} (most : l.most = some n) (small : n ≤ sizeLine) (plain : d.params.defaults = []) (room : Room k callerA)
    (left : ∀ (w : World) (h : Heap), YP w h → (K w.params).In h)
    (F : ∀ (w : World) (mg : Str → Option Value) (fa : Addr) (h : Heap), (K w.params).In h → h.Ns mainGlobals mg → mg d.name = some (.ref fa) → ∃ fd : FuncData, (∀ (s : Shared) (u : Value), BindsTo s fd ⟨[u], []⟩ [(x, u)]) ∧
      ∀ base : Heap, (K w.params).In base → base.Ns mainGlobals mg → FnG l.prog w (K w.params) mg base k fa fd [x] (sp (K w.params)))
    (want : ∀ (w : World) (H : Hp) (a : Addr) (ns : List Int), ns.length ≤ n → SqL (K w.params) H a (ns.map V.int) → sp (K w.params) [.ref a] H (fun v _ => v = .bl true) fun _ _ _ => False) :
    PySem.W.WalkO q loose XP YP l.row.toRowW d [] (fun f vs => PySem.call f vs) := by
  refine Att.attach_call most plain fun w s0 s mg mb fa o pm cd doc a us ns G Y ho hd hcd hmg at_a nums le ng => ?_
  obtain ⟨fd, bind, fn⟩ := F w mg fa _ (left w _ Y) G.T.g hmg
  exact quiet_call (left w _ Y) G.T.g G.T.b G.T.builtins G.T.nolimit ng at_a nums (Nat.le_trans le small) room fn bind fun H hS => want w H a ns le hS
end Gu
namespace Gu
open PySem PySem.Spec PyProof.Rows L2
/-! ### what can be written out -/
structure Fine (n W : Nat) (d : PyData) : Prop where
  nd : d.hasDict = false
  sh : d.showable = true
  ls : d.leavesShort 80 = true
  dp : d.depth ≤ n
  wt : d.weight ≤ W
structure FineAll (n W : Nat) (ds : List PyData) : Prop where
  nd : PyData.hasDictAll ds = false
  sh : PyData.showableAll ds = true
  ls : PyData.leavesShortAll 80 ds = true
  dp : PyData.depthAll ds ≤ n
  wt : PyData.weightAll ds ≤ ds.length * (W + 1)
theorem FineAll.of {n W : Nat} : ∀ {ds : List PyData}, (∀ d ∈ ds, Fine n W d) → FineAll n W ds
  | [], _ => ⟨rfl, rfl, rfl, Nat.zero_le _, Nat.zero_le _⟩
  | d :: ds, h => by
    have a := h d (List.mem_cons_self ..)
    have b := FineAll.of (ds := ds) fun e he => h e (List.mem_cons_of_mem _ he)
    refine ⟨?_, ?_, ?_, Nat.max_le.mpr ⟨a.dp, b.dp⟩, ?_⟩
    · show (d.hasDict || PyData.hasDictAll ds) = false
      rw [a.nd, b.nd]
      rfl
    · show (d.showable && PyData.showableAll ds) = true
      rw [a.sh, b.sh]
      rfl
    · show (d.leavesShort 80 && PyData.leavesShortAll 80 ds) = true
      rw [a.ls, b.ls]
      rfl
    · show d.weight + 1 + PyData.weightAll ds ≤ (ds.length + 1) * (W + 1)
      have := a.wt
      have := b.wt
      rw [Nat.succ_mul]
      omega
theorem FineAll.list {n W : Nat} {ds : List PyData} (a : FineAll n W ds) : Fine (n + 1) (ds.length * (W + 1)) (.list ds) := ⟨a.nd, a.sh, a.ls, Nat.succ_le_succ a.dp, a.wt⟩
theorem FineAll.tup {n W : Nat} {ds : List PyData} (a : FineAll n W ds) : Fine (n + 1) (ds.length * (W + 1)) (.tuple ds) := ⟨a.nd, a.sh, a.ls, Nat.succ_le_succ a.dp, a.wt⟩
theorem Fine.mono {n m W Z : Nat} {d : PyData} (h : Fine n W d) (a : n ≤ m) (b : W ≤ Z) : Fine m Z d := ⟨h.nd, h.sh, h.ls, Nat.le_trans h.dp a, Nat.le_trans h.wt b⟩
theorem Fine.bool (b : Bool) : Fine 0 0 (.bool b) := ⟨rfl, rfl, rfl, Nat.le_refl _, Nat.le_refl _⟩
theorem Fine.none : Fine 0 0 .none := ⟨rfl, rfl, rfl, Nat.le_refl _, Nat.le_refl _⟩
theorem Fine.int {i : Int} (h : i.natAbs < 2 ^ 70) : Fine 0 70 (.int i) := by
  have l : i.natAbs.log2 < 70 := PySem.Flt.log2_lt_of (by decide) h
  refine ⟨rfl, decide_eq_true (by omega), decide_eq_true ?_, Nat.le_refl _, ?_⟩
  · have e := int_text_length_le (a := i) (k := 70) (by decide) l
    show (Str.ofString (toString i)).length ≤ 80
    rw [PySem.ofString_length]
    omega
  · show (if i == 0 then 0 else i.natAbs.log2 + 1) ≤ 70
    split <;> omega
theorem Fine.str {z : Str} {W : Nat} (h : ∀ c ∈ z.cps.toList, c < 16 ^ 8) (w : z.cps.toList.length ≤ W) : Fine 0 W (.str z) := by
  refine ⟨rfl, rfl, ?_, Nat.le_refl _, w⟩
  show (z.cps.toList.all fun c => decide (c < 16 ^ 8)) = true
  rw [List.all_eq_true]
  exact fun c hc => decide_eq_true (h c hc)
theorem Fine.fits {d : PyData} (h : Fine 60 100000 d) : d.shown.length ≤ sizeLine := by
  have a := PyData.shown_le 80 (by decide) d h.ls
  have b := h.wt
  have c : (80 + 2) * d.weight ≤ 82 * 100000 := Nat.mul_le_mul_left _ b
  have e : sizeLine = 16777216 := by decide
  omega
section
variable {X : Cx}
/-- repr of a list or tuple, where none is being written out -/
theorem call_reprD (quiet : X.A.guards = some []) (hu : X.A.units + 64 < cLine) : CallR X (.builtin "repr") (fun xs H Q => ∃ (a : Addr) (d : PyData), xs = [.ref a] ∧ Dp X.K H (.ref a) d ∧ Fine 60 100000 d ∧ Q (.str d.shown) H) := by
  intro pins s σ H xs us Q I r h
  obtain ⟨a, d, rfl, hd, fine, q⟩ := h
  cases r with
  | cons r rr =>
    cases rr
    cases (show _ = Value.ref a from r)
    obtain ⟨as, rd⟩ := Dp.reads I d (.ref a) (.ref a) hd rfl
    have dp := fine.dp
    exact repr_of_reads' rd fine.sh (PyData.noDict_hsm fine.nd) quiet (by omega) (fun _ _ e => e) (fun g u tk keep => ⟨.str d.shown, H, I.kept (t' := tk) keep, ⟨_, rfl⟩, q⟩) fine.fits
end
end Gu
namespace Gu
open PySem PySem.Spec PyProof.Rows L2
/-! ### things of any kind, an empty dict among them, written out -/
/-- the system's modules are known to stand -/
def Sys (H : Hp) : Prop := ∃ o u, H sysModules = some (.frz o u)
theorem Sys.same {H G : Hp} (h : Sys H) (s : Same H G) : Sys G := by
  obtain ⟨o, u, e⟩ := h
  exact ⟨o, u, s _ _ e⟩
mutual
inductive DpE (K : PySem.W.Frag) (H : Hp) : V → PyData → Prop
  | non : DpE K H .non .none
  | bl (b : Bool) : DpE K H (.bl b) (.bool b)
  | int (i : Int) : DpE K H (.int i) (.int i)
  | str (x : Str) : DpE K H (.str x) (.str x)
  | lst {a : Addr} {xs : List V} {ds : List PyData} : H a = some (.lst xs) → DpEs K H xs ds → DpE K H (.ref a) (.list ds)
  | tup {a : Addr} {xs : List V} {ds : List PyData} : SqT K H a xs → DpEs K H xs ds → DpE K H (.ref a) (.tuple ds)
  | dict {a : Addr} : H a = some (.dK []) → DpE K H (.ref a) (.dict [])
inductive DpEs (K : PySem.W.Frag) (H : Hp) : List V → List PyData → Prop
  | nil : DpEs K H [] []
  | cons {v : V} {vs : List V} {d : PyData} {ds : List PyData} : DpE K H v d → DpEs K H vs ds → DpEs K H (v :: vs) (d :: ds)
end
theorem stE {K : PySem.W.Frag} {H G : Hp} {a : Addr} {xs : List V} (s : Same H G) (h : SqT K H a xs) : SqT K G a xs := by
  rcases h with (h | ⟨o, h⟩) | h
  · exact .inl (.inl (s _ _ h))
  · exact .inl (.inr ⟨o, s _ _ h⟩)
  · exact .inr h
mutual
theorem DpE.same {K : PySem.W.Frag} {H G : Hp} (s : Same H G) : ∀ {v : V} {d : PyData}, DpE K H v d → DpE K G v d
  | _, _, .non => .non
  | _, _, .bl b => .bl b
  | _, _, .int i => .int i
  | _, _, .str x => .str x
  | _, _, .lst h a => .lst (s _ _ h) (DpEs.same s a)
  | _, _, .tup h a => .tup (stE s h) (DpEs.same s a)
  | _, _, .dict h => .dict (s _ _ h)
theorem DpEs.same {K : PySem.W.Frag} {H G : Hp} (s : Same H G) : ∀ {vs : List V} {ds : List PyData}, DpEs K H vs ds → DpEs K G vs ds
  | _, _, .nil => .nil
  | _, _, .cons a b => .cons (DpE.same s a) (DpEs.same s b)
end
section
variable {X : Cx} {pins : List (Addr × Obj)} {σ : L2.St} {H : Hp} {s : Shared}
mutual
theorem DpE.reads (I : Inv X pins σ H s) (y : Sys H) : ∀ (d : PyData) (v : V) (u : Value), DpE X.K H v d → RelV v u → ∃ as, Reads s.heap u d as ∧ sysModules ∉ as
  | .none, _, _, h, r => by
    cases h
    cases r
    exact ⟨_, Reads.none, List.not_mem_nil⟩
  | .bool b, _, _, h, r => by
    cases h
    cases r
    exact ⟨_, Reads.bool b, List.not_mem_nil⟩
  | .int i, _, _, h, r => by
    cases h
    obtain ⟨t, rfl⟩ := r
    exact ⟨_, Reads.int i t, List.not_mem_nil⟩
  | .str x, _, _, h, r => by
    cases h
    obtain ⟨t, rfl⟩ := r
    exact ⟨_, Reads.str x t, List.not_mem_nil⟩
  | .list ds, _, _, h, r => by
    cases h with
    | @lst a xs _ hs ha =>
      cases r
      obtain ⟨its, rv, ⟨o, n, ho, hc, _, hd⟩, _⟩ := I.list (.inl (.inl hs))
      obtain ⟨as, hr, na⟩ := DpEs.reads I y ds _ its ha rv
      refine ⟨_, Reads.list ho hc hd hr, fun z => ?_⟩
      rcases List.mem_cons.mp z with z | z
      · obtain ⟨o2, u2, e2⟩ := y
        rw [z, hs] at e2
        cases e2
      · exact na z
  | .tuple ds, _, _, h, r => by
    cases h with
    | tup hs ha =>
      cases r
      obtain ⟨its, rv, ⟨o, ho, hc, n, hd⟩, _⟩ := I.tuple hs
      obtain ⟨as, hr, na⟩ := DpEs.reads I y ds _ its ha rv
      exact ⟨_, Reads.tuple ho hc hd hr, na⟩
  | .dict kvs, _, _, h, r => by
    cases h with
    | @dict a hs =>
      cases r
      obtain ⟨_, ns, vs, kv, o, es, ep, ho, ex, hd, hes⟩ := (show ObjOk X.prog X.w H s.heap a (.dK []) from I.hok a _ hs)
      cases kv
      have en : es.toList = [] := by
        have q := hes.2.1
        generalize es.toList = l at q
        cases q
        rfl
      refine ⟨_, Reads.dict (kvs := []) ho ex.1 hd (by rw [en]; exact .nil) (by rw [en]; exact .nil), fun z => ?_⟩
      have z : sysModules = a := by simpa using z
      rw [← z] at ns
      simp at ns
theorem DpEs.reads (I : Inv X pins σ H s) (y : Sys H) : ∀ (ds : List PyData) (vs : List V) (us : List Value), DpEs X.K H vs ds → Vals vs us → ∃ as, ReadsAll s.heap us ds as ∧ sysModules ∉ as
  | [], _, _, h, r => by
    cases h
    cases r
    exact ⟨_, ReadsAll.nil, List.not_mem_nil⟩
  | d :: ds, _, _, h, r => by
    cases h with
    | cons h1 h2 =>
      cases r with
      | cons r1 r2 =>
        obtain ⟨as, q1, n1⟩ := DpE.reads I y d _ _ h1 r1
        obtain ⟨bs, q2, n2⟩ := DpEs.reads I y ds _ _ h2 r2
        exact ⟨_, ReadsAll.cons q1 q2, fun z => (List.mem_append.mp z).elim n1 n2⟩
end
end
/-- what can be written out -/
structure FineE (n W : Nat) (d : PyData) : Prop where
  sh : d.showable = true
  ls : d.leavesShort 80 = true
  dp : d.depth ≤ n
  wt : d.weight ≤ W
theorem Fine.e {n W : Nat} {d : PyData} (h : Fine n W d) : FineE n W d := ⟨h.sh, h.ls, h.dp, h.wt⟩
structure FineEs (n W : Nat) (ds : List PyData) : Prop where
  sh : PyData.showableAll ds = true
  ls : PyData.leavesShortAll 80 ds = true
  dp : PyData.depthAll ds ≤ n
  wt : PyData.weightAll ds ≤ ds.length * (W + 1)
theorem FineEs.of {n W : Nat} : ∀ {ds : List PyData}, (∀ d ∈ ds, FineE n W d) → FineEs n W ds
  | [], _ => ⟨rfl, rfl, Nat.zero_le _, Nat.zero_le _⟩
  | d :: ds, h => by
    have a := h d (List.mem_cons_self ..)
    have b := FineEs.of (ds := ds) fun e he => h e (List.mem_cons_of_mem _ he)
    refine ⟨?_, ?_, Nat.max_le.mpr ⟨a.dp, b.dp⟩, ?_⟩
    · show (d.showable && PyData.showableAll ds) = true
      rw [a.sh, b.sh]
      rfl
    · show (d.leavesShort 80 && PyData.leavesShortAll 80 ds) = true
      rw [a.ls, b.ls]
      rfl
    · show d.weight + 1 + PyData.weightAll ds ≤ (ds.length + 1) * (W + 1)
      have := a.wt
      have := b.wt
      rw [Nat.succ_mul]
      omega
theorem FineEs.list {n W : Nat} {ds : List PyData} (a : FineEs n W ds) : FineE (n + 1) (ds.length * (W + 1)) (.list ds) := ⟨a.sh, a.ls, Nat.succ_le_succ a.dp, a.wt⟩
theorem FineEs.tup {n W : Nat} {ds : List PyData} (a : FineEs n W ds) : FineE (n + 1) (ds.length * (W + 1)) (.tuple ds) := ⟨a.sh, a.ls, Nat.succ_le_succ a.dp, a.wt⟩
theorem FineE.mono {n m W Z : Nat} {d : PyData} (h : FineE n W d) (a : n ≤ m) (b : W ≤ Z) : FineE m Z d := ⟨h.sh, h.ls, Nat.le_trans h.dp a, Nat.le_trans h.wt b⟩
theorem FineE.dict0 : FineE 1 0 (.dict []) := ⟨rfl, rfl, Nat.le_refl _, Nat.le_refl _⟩
theorem FineE.fits {d : PyData} (h : FineE 60 100000 d) : d.shown.length ≤ sizeLine := by
  have a := PyData.shown_le 80 (by decide) d h.ls
  have b := h.wt
  have c : (80 + 2) * d.weight ≤ 82 * 100000 := Nat.mul_le_mul_left _ b
  have e : sizeLine = 16777216 := by decide
  omega
section
variable {X : Cx}
/-- repr of a list or tuple that may hold empty dicts -/
theorem call_reprE (quiet : X.A.guards = some []) (hu : X.A.units + 64 < cLine) : CallR X (.builtin "repr") (fun xs H Q => ∃ (a : Addr) (d : PyData), xs = [.ref a] ∧ Sys H ∧ DpE X.K H (.ref a) d ∧ FineE 60 100000 d ∧ Q (.str d.shown) H) := by
  intro pins s σ H xs us Q I r h
  obtain ⟨a, d, rfl, y, hd, fine, q⟩ := h
  cases r with
  | cons r rr =>
    cases rr
    cases (show _ = Value.ref a from r)
    obtain ⟨as, rd, nas⟩ := DpE.reads I y d (.ref a) (.ref a) hd rfl
    have dp := fine.dp
    exact repr_of_reads' rd fine.sh (fun _ => nas) quiet (by omega) (fun _ _ e => e) (fun g u tk keep => ⟨.str d.shown, H, I.kept (t' := tk) keep, ⟨_, rfl⟩, q⟩) fine.fits
end
end Gu
namespace Gu
open PySem PySem.Spec PyProof.Rows L2 LamX
/-! ### the law's end where defs make lambdas: their tables are tracked -/
abbrev tabNil : Obj := { cls := .none, data := .fields #[] }
theorem quiet_endT {P : Program} {w : World} {K : PySem.W.Frag} {mg mb : Str → Option Value} {k : Nat} {fa a : Addr} {cs : List (Addr × Addr)} {fd : FuncData} {x : Str} {sp : Sp} {s : Shared} {us : List Value} {H : Hp} (inK : K.In s.heap) (nsG : s.heap.Ns mainGlobals mg) (nsB : s.heap.Ns builtinsNs mb)
    (bb : ∀ x : Str, x ≠ "__name__" → mb x = bootBuiltins x) (nl : s.heap.NoLimit) (ng : s.gens = #[]) (at_a : s.heap.get? a = some { cls := .type "list", data := .seq us.toArray }) (room : Room k callerA)
    (tabs : ∀ p ∈ cs, PySem.W.CodeHd s.heap p.1 p.2 ∧ s.heap.get? p.2 = some tabNil ∧ K.lookup p.2 = none)
    (bm : ∃ (m : Addr) (ob : Obj), mg "__builtins__" = some (.ref m) ∧ m ≠ builtinsNs ∧ s.heap.get? m = some ob ∧ ob.cls = .type "module" ∧ ob.dict = some builtinsNs ∧ ob.data = .plain)
    (F : ∀ base : Heap, K.In base → base.Ns mainGlobals mg → (∀ p ∈ cs, TabB base mg p.1 p.2) → FnG P w K mg base k fa fd [x] sp) (bind : ∀ (s : Shared) (u : Value), BindsTo s fd ⟨[u], []⟩ [(x, u)]) (want : sp [.ref a] H (fun v _ => v = .bl true) fun _ _ _ => False)
    (sys : ∃ o es n, s.heap.get? sysModules = some o ∧ o.data = .dict es n) (noSys : K.lookup sysModules = none)
    (hH : ∀ p ∈ cs, H p.2 = some (.tbl #[])) (kinds : ∀ c, H c = none ∨ c ∈ cs.map (·.2) ∨ ∃ o u, H c = some (.frz o u)) (ok : HOk P w H s.heap) (one : ∀ c, H c ≠ none → (c = a ∧ K.lookup a = none) ∨ c ∈ cs.map (·.2) ∨ c = sysModules) :
    codeAny (model P w) callerA (.call (.ref fa) ⟨[.ref a], []⟩) (fun r s2 => r = .ok (.ret (.bool true)) ∧ OldK s.heap s2.heap ∧ s2.os = s.os ∧ AllBare s2.gens) s := by
  have isTab : ∀ c ∈ cs.map (·.2), s.heap.get? c = some tabNil := fun c hc => by
    obtain ⟨p, hp, rfl⟩ := List.mem_map.mp hc
    exact (tabs p hp).2.1
  have hides : ∀ (c : Addr) (o : Obj), s.heap.get? c = some o → (∀ vs n, o.data ≠ .seq vs n) → o.data ≠ .fields #[] → c ≠ sysModules → H c = none := fun c o e n1 n2 n3 => Classical.byContradiction fun z => by
    rcases one c z with ⟨rfl, _⟩ | hc | hc
    · rw [at_a] at e
      cases e
      exact n1 _ _ rfl
    · rw [isTab c hc] at e
      cases e
      exact n2 rfl
    · exact n3 hc
  have notSys : ∀ (c : Addr) (o : Obj), s.heap.get? c = some o → (∀ es n, o.data ≠ .dict es n) → c ≠ sysModules := fun c o e n1 z => by
    obtain ⟨o2, es, n, e2, d2⟩ := sys
    rw [z, e2] at e
    cases e
    exact n1 _ _ d2
  have hidNs : ∀ (c : Addr) (m : Str → Option Value), c ≠ sysModules → s.heap.Ns c m → (hidT s.heap H).Ns c m := fun c m nc h => by
    obtain ⟨o, es, ep, e, d, r⟩ := h
    exact ⟨o, es, ep, hidT_get e (hides c o e (fun vs n z => by rw [d] at z; cases z) (fun z => by rw [d] at z; cases z) nc), d, r⟩
  have hidK : K.In (hidT s.heap H) := fun c o e => hidT_get (inK c o e) (Classical.byContradiction fun z => by
    rcases one c z with ⟨h1, h2⟩ | hc | hc
    · rw [h1, h2] at e
      cases e
    · obtain ⟨p, hp, rfl⟩ := List.mem_map.mp hc
      rw [(tabs p hp).2.2] at e
      cases e
    · rw [hc, noSys] at e
      cases e)
  have g1 := hidNs mainGlobals mg (by decide) nsG
  have g2 := hidNs builtinsNs mb (by decide) nsB
  have env : Env0 P w K mg (hidT s.heap H) callerA [] s H := by
    refine ⟨rfl, ⟨hidK, g1, ⟨mb, g2, bb⟩, ?_⟩, fun c o e => of_hidT e, Nat.le_of_eq (hidT_size _ _), trivial, fun c hc => absurd (show c ∈ ([] : List Addr) from hc) List.not_mem_nil, ok, .of_eq ng⟩
    obtain ⟨mc, h1, h2⟩ := nl
    exact ⟨mc, hidNs _ _ (by decide) h1, h2⟩
  have tb : ∀ p ∈ cs, TabB (hidT s.heap H) mg p.1 p.2 := fun p hp => by
    obtain ⟨hd, hT, _⟩ := tabs p hp
    refine ⟨?_, ?_, fun z => ?_⟩
    · obtain ⟨o, vs, file, tf, fl, tg, inF, tx, tt, e1, e2, e3, e4, rest⟩ := hd
      refine ⟨o, vs, file, tf, fl, tg, inF, tx, tt, hidT_get e1 (hides _ o e1 (fun us n z => by rw [e3] at z; cases z) (fun z => ?_) (notSys _ o e1 fun es n z => by rw [e3] at z; cases z)), e2, e3, e4, rest⟩
      rw [e3] at z
      cases z
      simp at e4
    · obtain ⟨m, ob, m1, m2, m3, m4, m5, m6⟩ := bm
      refine ⟨m, ob, m1, m2, fun z => ?_, fun z => ?_, hidT_get m3 (hides _ ob m3 (fun us n z => by rw [m6] at z; cases z) (fun z => by rw [m6] at z; cases z) (notSys _ ob m3 fun es n z => by rw [m6] at z; cases z)), m4, m5, m6⟩
      · obtain ⟨o, es, ep, e, d, _⟩ := nsG
        rw [z, e] at m3
        cases m3
        rw [d] at m6
        cases m6
      · rw [z, hT] at m3
        cases m3
        cases m6
    · obtain ⟨o, es, ep, e, d, _⟩ := nsG
      rw [z, hT] at e
      cases e
      cases d
  refine codeAny_mono ((F _ hidK g1 tb).run callerA [] s H ⟨[.ref a], []⟩ [.ref a] [.ref a] _ _ room rfl env (bind s (.ref a)) (.cons rfl .nil) want) fun r s2 h2 => ?_
  cases r with
  | error e => exact (h2 : False).elim
  | ok fl =>
    cases fl with
    | next => exact (h2 : False).elim
    | brk => exact (h2 : False).elim
    | cont => exact (h2 : False).elim
    | ret u =>
      obtain ⟨v, G, os, bare, un, ok2, rv, hv⟩ := h2
      cases (show v = .bl true from hv)
      cases (show u = Value.bool true from rv)
      have stays : ∀ c o, c ∉ cs.map (·.2) → s.heap.get? c = some o → s2.heap.get? c = some o := fun c o nc e => by
        rcases kinds c with z | z | ⟨ob, xs, z⟩
        · exact un.keep c o e z (fun y => absurd (show c ∈ ([] : List Addr) from y) List.not_mem_nil) (by simp)
        · exact absurd z nc
        · have e1 := (ok c _ z).1
          have e2 := (ok2 c _ (un.frzs c ob _ z)).1
          rw [e] at e1
          cases e1
          exact e2
      have grows : ∀ p ∈ cs, ∃ more : Array Value, s2.heap.get? p.2 = some { cls := .none, data := .fields more } := fun p hp => by
        obtain ⟨more, z⟩ := un.tbls p.2 #[] (hH p hp)
        exact ⟨_, ok2 p.2 _ z⟩
      refine ⟨rfl, ⟨fun c o e => ?_, fun c o e => ?_⟩, os, bare⟩
      · by_cases hc : c ∈ cs.map (·.2)
        · obtain ⟨p, hp, rfl⟩ := List.mem_map.mp hc
          obtain ⟨more, hm⟩ := grows p hp
          rw [isTab _ hc] at e
          cases e
          exact .inr (.inl ⟨((tabs p hp).1.tab (tabs p hp).2.1).isCodeTable, rfl, #[], more, rfl, by rw [Array.empty_append]; exact hm⟩)
        · exact .inl (stays c o hc e)
      · by_cases hc : c ∈ cs.map (·.2)
        · obtain ⟨p, hp, rfl⟩ := List.mem_map.mp hc
          obtain ⟨more, hm⟩ := grows p hp
          exact ⟨_, hm⟩
        · exact ⟨o, stays c o hc e⟩
theorem quiet_callT {P : Program} {w : World} {K : PySem.W.Frag} {mg mb : Str → Option Value} {k : Nat} {fa a : Addr} {cs : List (Addr × Addr)} {fd : FuncData} {x : Str} {sp : Sp} {s : Shared} {us : List Value} {ns : List Int} (inK : K.In s.heap) (nsG : s.heap.Ns mainGlobals mg) (nsB : s.heap.Ns builtinsNs mb)
    (bb : ∀ x : Str, x ≠ "__name__" → mb x = bootBuiltins x) (nl : s.heap.NoLimit) (ng : s.gens = #[]) (at_a : s.heap.get? a = some { cls := .type "list", data := .seq us.toArray }) (nums : IntsAre us ns) (small : ns.length ≤ sizeLine) (room : Room k callerA)
    (tabs : ∀ p ∈ cs, PySem.W.CodeHd s.heap p.1 p.2 ∧ s.heap.get? p.2 = some tabNil ∧ K.lookup p.2 = none)
    (bm : ∃ (m : Addr) (ob : Obj), mg "__builtins__" = some (.ref m) ∧ m ≠ builtinsNs ∧ s.heap.get? m = some ob ∧ ob.cls = .type "module" ∧ ob.dict = some builtinsNs ∧ ob.data = .plain)
    (F : ∀ base : Heap, K.In base → base.Ns mainGlobals mg → (∀ p ∈ cs, TabB base mg p.1 p.2) → FnG P w K mg base k fa fd [x] sp) (bind : ∀ (s : Shared) (u : Value), BindsTo s fd ⟨[u], []⟩ [(x, u)])
    (sys : ∃ o es n, s.heap.get? sysModules = some o ∧ o.data = .dict es n) (noSys : K.lookup sysModules = none)
    (want : ∀ H : Hp, (∀ p ∈ cs, H p.2 = some (.tbl #[])) → Sys H → SqL K H a (ns.map V.int) → sp [.ref a] H (fun v _ => v = .bl true) fun _ _ _ => False) :
    codeAny (model P w) callerA (.call (.ref fa) ⟨[.ref a], []⟩) (fun r s2 => r = .ok (.ret (.bool true)) ∧ OldK s.heap s2.heap ∧ s2.os = s.os ∧ AllBare s2.gens) s := by
  have rel := vals_ints nums
  have isTab : ∀ c ∈ cs.map (·.2), s.heap.get? c = some tabNil := fun c hc => by
    obtain ⟨p, hp, rfl⟩ := List.mem_map.mp hc
    exact (tabs p hp).2.1
  have na : a ∉ cs.map (·.2) := fun z => by
    have q := isTab a z
    rw [at_a] at q
    cases q
  have mem : ∀ p ∈ cs, p.2 ∈ cs.map (·.2) := fun p hp => List.mem_map.mpr ⟨p, hp, rfl⟩
  obtain ⟨so, ses, sn, sg, sd⟩ := id sys
  have ns1 : sysModules ∉ cs.map (·.2) := fun z => by
    have q := isTab _ z
    rw [sg] at q
    cases q
    cases sd
  have ns2 : a ≠ sysModules := fun z => by
    rw [z, sg] at at_a
    cases at_a
    cases sd
  let T : Hp := upd (fun c => if c ∈ cs.map (·.2) then some (.tbl #[]) else none) sysModules (.frz so (.ext fun h => ∃ o, h.get? sysModules = some o))
  have tS : T sysModules = some (.frz so (.ext fun h => ∃ o, h.get? sysModules = some o)) := upd_same
  have tIn : ∀ {c}, c ∈ cs.map (·.2) → T c = some (.tbl #[]) := fun {c} hc => by
    show upd _ _ _ c = _
    rw [upd_ne fun z => ns1 (by rw [← z]; exact hc)]
    exact if_pos hc
  have tOut : ∀ {c}, c ∉ cs.map (·.2) → c ≠ sysModules → T c = none := fun {c} hc hn => by
    show upd _ _ _ c = _
    rw [upd_ne hn]
    exact if_neg hc
  have tKind : ∀ c, T c = none ∨ c ∈ cs.map (·.2) ∨ ∃ o u, T c = some (.frz o u) := fun c => by
    by_cases hc : c ∈ cs.map (·.2)
    · exact .inr (.inl hc)
    · by_cases hs : c = sysModules
      · exact .inr (.inr ⟨_, _, by rw [hs]; exact tS⟩)
      · exact .inl (tOut hc hs)
  have tOk : ∀ (H : Hp) c u, T c = some u → ObjOk P w H s.heap c u := fun H c u z => by
    by_cases hc : c ∈ cs.map (·.2)
    · rw [tIn hc] at z
      cases z
      exact isTab c hc
    · by_cases hs : c = sysModules
      · subst hs
        rw [tS] at z
        cases z
        exact ⟨sg, ⟨so, sg⟩, ⟨so, sg⟩, fun h1 h2 ⟨o, e⟩ k => ⟨o, k o e⟩⟩
      · rw [tOut hc hs] at z
        cases z
  have tOne : ∀ c, T c ≠ none → c ∈ cs.map (·.2) ∨ c = sysModules := fun c z => by
    by_cases hc : c ∈ cs.map (·.2)
    · exact .inl hc
    · by_cases hs : c = sysModules
      · exact .inr hs
      · exact absurd (tOut hc hs) z
  cases hk : K.lookup a with
  | some o =>
    have e := inK a o hk
    rw [at_a] at e
    cases e
    have hS : SqL K T a (ns.map V.int) := .inr ⟨_, us.toArray, _, hk, rfl, rfl, rfl, by rw [List.size_toArray, nums.length]; exact small, rel⟩
    exact quiet_endT (H := T) inK nsG nsB bb nl ng at_a room tabs bm F bind (want T (fun p hp => tIn (mem p hp)) ⟨_, _, tS⟩ hS) sys noSys (fun p hp => tIn (mem p hp)) tKind (fun c u z => tOk T c u z) fun c z => .inr (tOne c z)
  | none =>
    have hS : SqL K (upd T a (.frz { cls := .type "list", data := .seq us.toArray } (.lst (ns.map V.int)))) a (ns.map V.int) := .inl (.inr ⟨_, upd_same⟩)
    have up : ∀ p ∈ cs, upd T a (.frz { cls := .type "list", data := .seq us.toArray } (.lst (ns.map V.int))) p.2 = some (.tbl #[]) := fun p hp => by
      rw [upd_ne fun z => na (by rw [← z]; exact mem p hp)]
      exact tIn (mem p hp)
    refine quiet_endT (H := upd T a (.frz { cls := .type "list", data := .seq us.toArray } (.lst (ns.map V.int)))) inK nsG nsB bb nl ng at_a room tabs bm F bind (want _ up ⟨_, _, by rw [upd_ne ns2.symm]; exact tS⟩ hS) sys noSys up (fun c => ?_) (fun c u z => ?_) fun c z => ?_
    · by_cases hc : c = a
      · exact .inr (.inr ⟨_, _, by rw [hc]; exact upd_same⟩)
      · rw [upd_ne hc]
        exact tKind c
    · by_cases hc : c = a
      · subst hc
        rw [upd_same] at z
        cases z
        exact ⟨at_a, by rw [List.length_map]; exact small, us, _, rel, at_a⟩
      · rw [upd_ne hc] at z
        exact tOk _ c u z
    · by_cases hc : c = a
      · exact .inl ⟨hc, hk⟩
      · rw [upd_ne hc] at z
        exact .inr (tOne c z)
theorem sys_there {h : Heap} (n : h.NoSeer) : ∃ o es ep, h.get? sysModules = some o ∧ o.data = .dict es ep := by
  obtain ⟨mm, ⟨o, es, ep, e, d, _⟩, _⟩ := n.mods
  exact ⟨o, es, ep, e, d⟩
/-- what the head tells of the tables of the defs of q -/
def TabsOf (q : Program) (K : PySem.W.Frag) (h : Heap) : Prop := ∀ (x : Str) (d : DefRec) (c P : Addr), (recsOf q).find? (fun e => e.name == x) = some d → PySem.W.tabIn K x = some (c, P) → PySem.W.CodeHd h c P ∧ h.get? P = some tabNil
theorem walkGT {l : PySem.W.OpenLaw} {n k : Nat} {q : Program} {loose : List Str} {XP : (Str → Option Value) → Heap → Prop} {YP : World → Heap → Prop} {d : DefRec} {K : Params → PySem.W.Frag} {x : Str} (most : l.most = some n) (small : n ≤ sizeLine) (plain : d.params.defaults = []) (room : Room k callerA) (alone : importsNone q = true) (noSys : ∀ w : World, (K w.params).lookup sysModules = none)
    (left : ∀ (w : World) (h : Heap), YP w h → (K w.params).In h)
    (F : ∀ (w : World) (mg : Str → Option Value) (fa : Addr) (h : Heap), (K w.params).In h → h.Ns mainGlobals mg → TabsOf q (K w.params) h → mg d.name = some (.ref fa) → ∃ (fd : FuncData) (cs : List (Addr × Addr)) (sp : Sp), (∀ p ∈ cs, PySem.W.CodeHd h p.1 p.2 ∧ h.get? p.2 = some tabNil ∧ (K w.params).lookup p.2 = none) ∧ (∀ (s : Shared) (u : Value), BindsTo s fd ⟨[u], []⟩ [(x, u)]) ∧
      (∀ (H : Hp) (a : Addr) (ns : List Int), ns.length ≤ n → (∀ p ∈ cs, H p.2 = some (.tbl #[])) → Sys H → SqL (K w.params) H a (ns.map V.int) → sp [.ref a] H (fun v _ => v = .bl true) fun _ _ _ => False) ∧
      ∀ base : Heap, (K w.params).In base → base.Ns mainGlobals mg → (∀ p ∈ cs, TabB base mg p.1 p.2) → FnG l.prog w (K w.params) mg base k fa fd [x] sp) :
    PySem.W.WalkO q loose XP YP l.row.toRowW d [] (fun f vs => PySem.call f vs) := by
  refine Att.attach_call most plain fun w s0 s mg mb fa o pm cd doc a us ns G Y ho hd hcd hmg at_a nums le ng => ?_
  have inK := left w _ Y
  obtain ⟨fd, cs, sp, tabs, bind, want, fn⟩ := F w mg fa _ inK G.T.g (fun x d c P h1 h2 => PySem.W.tab_of G.T inK h1 h2) hmg
  exact quiet_callT inK G.T.g G.T.b G.T.builtins G.T.nolimit ng at_a nums (Nat.le_trans le small) room tabs G.T.bmain fn bind (sys_there (G.T.seer alone)) (noSys w) fun H hH hY hS => want H a ns le hH hY hS
end Gu
namespace Gu
open PySem PySem.Spec PyProof.Rows L2
section
variable {P : Program} {w : World} {K : PySem.W.Frag} {mg : Str → Option Value} {base : Heap}
/-! ### _law_ladle -/
def spLadle : Sp := fun vs H Q _ => ∃ (p : Addr) (m : Int), vs = [.ref p, .int m] ∧ Pot H p ∧ 0 < m ∧ m < 1000000 ∧ ∀ d G, 0 ≤ d → d < m → Ladled p H G → Q (.int d) G
theorem cal_ladle (B : Bi mg) (D : At K mg "_law_ladle" s_law_ladle ps_law_ladle) : Cal P w K mg base 1 "_law_ladle" ps_law_ladle spLadle := by
  refine D.cal sc_law_ladle (fun vs H Q E h => ?_) (fun f cdv A outer s H vs Q E hr h => ?_)
  · obtain ⟨p, m, rfl, _⟩ := h
    rfl
  · obtain ⟨p, m, rfl, ⟨x, y, z, hp⟩, m0, m1, k⟩ := h
    refine ⟨_, (pss_cons (ps_asg (pe_op op_add (pe_ix ix_list (pv 0) pe_int (fun _ _ => rfl)) pe_int) (pg_sub (pv 0) pe_int set_list))
      (pss_cons (ps_if (pt_cmpR op_gt (pe_ix ix_list (pv 0) pe_int (fun _ _ => rfl)) pe_int (nomark _)) (pss_cons (ps_asg (pe_callB call_divmod (by rfl) B.divmod (by decide +kernel) (pa_cons (pe_callTy call_int1 (by rfl) B.int (by decide +kernel) (pa_cons (pe_ix ix_list (pv 0) pe_int (fun _ _ => rfl)) pa_nil)) (pa_cons (pv 1) pa_nil))) (pg_tup rfl (pgs_cons (pg_sub (pv 0) pe_int set_list) (pgs_cons (pg_name (i := 2) sc_law_ladle.nd rfl (.inl rfl)) pgs_nil))))
      (pss_one (ps_ret (pv 2)))) pss_nil)
      (pss_cons (ps_asg (pe_op op_mod (pe_callTy call_int1 (by rfl) B.int (by decide +kernel) (pa_cons (pe_op op_add (pe_op op_add (pe_op op_mul (pe_ix ix_list (pv 0) pe_int (fun _ _ => rfl)) pe_int) (pe_op op_mul (pe_ix ix_list (pv 0) pe_int (fun _ _ => rfl)) pe_int)) (pe_op op_mul (pe_op op_fdiv (pe_ix ix_list (pv 0) pe_int (fun _ _ => rfl)) pe_int) pe_int)) pa_nil)) pe_int) (pg_sub (pv 0) pe_int set_list))
      (pss_one (ps_ret (pe_op op_mod (pe_callTy call_int1 (by rfl) B.int (by decide +kernel) (pa_cons (pe_op op_fdiv (pe_ix ix_list (pv 0) pe_int (fun _ _ => rfl)) pe_int) pa_nil)) (pv 1))))))), ?_⟩
    refine ⟨_, rfl, p, _, _, _, rfl, rfl, .inl (.inl hp), (rfl : atI [V.int x, V.int y, V.int z] 1 = some (V.int y)), _, _, rfl, rfl, _, rfl, p, _, _, 1, rfl, rfl, hp, rfl, ?_⟩
    have h1 : upd H p (.lst ([V.int x, V.int y, V.int z].set 1 (.int (y + 3)))) p = some (.lst [.int x, .int (y + 3), .int z]) := upd_same
    refine ⟨_, rfl, p, _, _, _, rfl, rfl, .inl (.inl h1), (rfl : atI [V.int x, V.int (y + 3), V.int z] 0 = some (V.int x)), _, _, rfl, rfl, _, rfl, ite2 (fun _ => ?_) (fun _ => ?_)⟩
    · refine ⟨_, rfl, p, _, _, _, rfl, rfl, .inl (.inl h1), (rfl : atI [V.int x, V.int (y + 3), V.int z] 0 = some (V.int x)), .inl ⟨_, rfl, _, rfl, _, _, rfl, ⟨m0, by omega⟩, fun q hq => ?_⟩⟩
      have npq : p ≠ q := ne_of_none h1 hq
      refine ⟨q, _, rfl, .inl (.inl upd_same), rfl, _, _, rfl, ⟨_, rfl, p, _, _, 0, rfl, rfl, (by rw [upd_ne npq]; exact h1), rfl, _, _, rfl, rfl, ?_⟩⟩
      refine ⟨_, rfl, ?_⟩
      refine k (x % m) _ (Int.emod_nonneg _ (by omega)) (Int.emod_lt_of_pos _ m0) ⟨⟨_, _, _, upd_same⟩, fun b o e n => ?_⟩
      have hb : upd H p (.lst ([V.int x, V.int y, V.int z].set 1 (.int (y + 3)))) b = some o := by rw [upd_ne n]; exact e
      rw [upd_ne n, upd_ne (ne_of_none hb hq), upd_ne n]
      exact e
    · refine ⟨_, rfl, p, _, _, _, rfl, rfl, .inl (.inl h1), (rfl : atI [V.int x, V.int (y + 3), V.int z] 2 = some (V.int z)), _, _, rfl, rfl, .inr ⟨by decide, by decide⟩, _, rfl, p, _, _, _, rfl, rfl, .inl (.inl h1), (rfl : atI [V.int x, V.int (y + 3), V.int z] 1 = some (V.int (y + 3))), _, _, rfl, rfl, .inr ⟨by decide, by decide⟩, _, _, rfl, rfl, ?_⟩
      refine ⟨_, rfl, p, _, _, _, rfl, rfl, .inl (.inl h1), (rfl : atI [V.int x, V.int (y + 3), V.int z] 2 = some (V.int z)), _, _, rfl, rfl, ⟨by decide, by decide⟩, _, _, rfl, rfl, .inr ⟨by decide, by decide⟩, _, _, rfl, rfl, .inl ⟨_, rfl, _, _, rfl, rfl, (by decide : (0 : Int) < 1999999889), ?_⟩⟩
      refine ⟨_, rfl, p, _, _, 2, rfl, rfl, h1, rfl, ?_⟩
      refine ⟨_, rfl, p, _, _, _, rfl, rfl, .inl (.inl upd_same), rfl, _, _, rfl, rfl, ⟨by decide, by decide⟩, .inl ⟨_, rfl, _, rfl, _, _, rfl, rfl, m0, ?_⟩⟩
      refine k _ _ (Int.emod_nonneg _ (by omega)) (Int.emod_lt_of_pos _ m0) ⟨⟨_, _, _, upd_same⟩, fun b o e n => ?_⟩
      rw [upd_ne n, upd_ne n]
      exact e
/-! ### _law_one_of: of a list or of a text -/
def spOneOf (K : PySem.W.Frag) : Sp := fun vs H Q _ => ∃ (p : Addr), Pot H p ∧
  ((∃ (l : Addr) (xs : List V), vs = [.ref p, .ref l] ∧ SqL K H l xs ∧ l ≠ p ∧ 0 < xs.length ∧ xs.length < 1000 ∧ ∀ v G, v ∈ xs → Ladled p H G → Q v G) ∨
   (∃ (z : Str), vs = [.ref p, .str z] ∧ 0 < z.cps.toList.length ∧ z.cps.toList.length < 1000 ∧ ∀ c G, c ∈ z.cps.toList → Ladled p H G → Q (.str ⟨#[c]⟩) G))
theorem Ladled.seq {K : PySem.W.Frag} {H G : Hp} {p l : Addr} {xs : List V} (a : Ladled p H G) (n : l ≠ p) (h : SqL K H l xs) : SqL K G l xs := by
  rcases h with (h | ⟨o, h⟩) | h
  · exact .inl (.inl (a.keep _ _ h n))
  · exact .inl (.inr ⟨o, a.keep _ _ h n⟩)
  · exact .inr h
theorem at_in {α : Type} {xs : List α} {d : Int} (h0 : 0 ≤ d) (h1 : d < (xs.length : Int)) : ∃ v, v ∈ xs ∧ atI xs d = some v := by
  obtain ⟨j, rfl⟩ := Int.eq_ofNat_of_zero_le h0
  have hj : j < xs.length := by omega
  exact ⟨xs[j], List.getElem_mem hj, atI_nat (List.getElem?_eq_getElem hj)⟩
theorem cal_oneOf (B : Bi mg) (D : At K mg "_law_one_of" s_law_one_of ps_law_one_of) (C_law_ladle : Cal P w K mg base 1 "_law_ladle" ps_law_ladle spLadle) : Cal P w K mg base 2 "_law_one_of" ps_law_one_of (spOneOf K) := by
  refine D.cal sc_law_one_of (fun vs H Q E h => ?_) (fun f cdv A outer s H vs Q E hr h => ?_)
  · obtain ⟨p, _, ⟨l, xs, rfl, _⟩ | ⟨z, rfl, _⟩⟩ := h
    · rfl
    · rfl
  · refine ⟨_, (pss_one (ps_ret (pe_ix ix_seq (pv 1) (pe_own C_law_ladle hr (by decide) (by rfl) (pa_cons (pv 0) (pa_cons (pe_callB call_len (by rfl) B.len (by decide +kernel) (pa_cons (pv 1) pa_nil)) pa_nil))) (fun _ _ => rfl)))), ?_⟩
    obtain ⟨p, hp, ⟨l, xs, rfl, hl, np, l0, l1, k⟩ | ⟨z, rfl, l0, l1, k⟩⟩ := h
    · refine ⟨_, rfl, _, rfl, _, rfl, _, _, rfl, .inl ⟨_, hl, rfl⟩, p, _, rfl, hp, by omega, by omega, fun d G d0 d1 L => ?_⟩
      obtain ⟨v, hv, ha⟩ := at_in (xs := xs) d0 d1
      exact .inl ⟨l, xs, d, v, rfl, rfl, L.seq np hl, ha, k v G hv L⟩
    · have ez : z.length = z.cps.toList.length := rfl
      refine ⟨_, rfl, _, rfl, _, rfl, _, _, rfl, ⟨Nat.le_of_lt (small1000 (by omega)), rfl⟩, p, _, rfl, hp, by omega, by omega, fun d G d0 d1 L => ?_⟩
      obtain ⟨c, hc, ha⟩ := at_in (xs := z.cps.toList) d0 (by omega)
      exact .inr (.inr ⟨z, d, c, rfl, rfl, Nat.le_of_lt (small1000 (by omega)), ha, k c G hc L⟩)
/-! ### _law_pot -/
def spPot (K : PySem.W.Frag) : Sp := fun vs H Q _ => ∃ (a : Addr) (k : Nat) (ns : List Int), vs = [.ref a, .int (k : Int)] ∧ SqL K H a (ns.map V.int) ∧ k < 1000 ∧ ∀ p G, H p = none → Pot G p → Same H G → Q (.ref p) G
theorem cal_pot (B : Bi mg) (D : At K mg "_law_pot" s_law_pot ps_law_pot) : Cal P w K mg base 1 "_law_pot" ps_law_pot (spPot K) := by
  refine D.cal sc_law_pot (fun vs H Q E h => ?_) (fun f cdv A outer s H vs Q E hr h => ?_)
  · obtain ⟨a, k, ns, rfl, _⟩ := h
    rfl
  · obtain ⟨a, k, ns, rfl, hS, hk, q⟩ := h
    refine ⟨_, (pss_cons (ps_set (i := 2) sc_law_pot.nd rfl (.inl rfl) (pe_mid (pe_ifExp (pt_cmpR op_lt (pv 1) (pe_callB call_len_seq (by rfl) B.len (by decide +kernel) (pa_cons (pv 0) pa_nil)) (nomark _)) (pe_callTy call_int1 (by rfl) B.int (by decide +kernel) (pa_cons (pe_ix ix_list (pv 0) (pv 1) (fun _ _ => rfl)) pa_nil)) (pe_op op_add (pe_op op_mul pe_int (pv 1)) pe_int))))
      (pss_cons (ps_set (i := 3) sc_law_pot.nd rfl (.inl rfl) (pe_op op_add pe_int (pe_op op_mul pe_int (pv 1))))
      (pss_cons (ps_for PassesOwn.never rfl (pi_list (pe_slice sl_list (pv 0) po_none (po_some pe_int))) (pg_name (i := 4) sc_law_pot.nd rfl (.inl rfl))
      (pss_one (ps_set (i := 3) sc_law_pot.nd rfl (.inl rfl) (pe_op op_mod (pe_callTy call_int1 (by rfl) B.int (by decide +kernel) (pa_cons (pe_op op_add (pe_op op_mul (pv 3) pe_int) (pe_op op_mod (pe_callTy call_int1 (by rfl) B.int (by decide +kernel) (pa_cons (pv 4) pa_nil)) pe_int)) pa_nil)) pe_int))))
      (pss_one (ps_ret (pe_lst (pa_cons (pe_mid (pe_ifExp (PW.pt (pw_or (pt_cmpR op_lt (pv 2) pe_int (nomark _)) (pw_or1 (pt_cmpR op_ge (pv 2) (pe_op op_pow pe_int pe_int) (nomark _))))) (pe_callB call_abs (by rfl) B.abs (by decide +kernel) (pa_cons (pv 2) pa_nil)) pe_int)) (pa_cons pe_int (pa_cons (pe_op op_mod (pe_callTy call_int1 (by rfl) B.int (by decide +kernel) (pa_cons (pe_op op_add (pe_op op_mul (pv 3) pe_int) (pe_op op_mod (pv 2) pe_int)) pa_nil)) pe_int) pa_nil))))))))), ?_⟩
    refine ⟨fun v G => (∃ i : Int, v = .int i) ∧ G = H, ?_, ?_⟩
    · refine ⟨_, rfl, _, rfl, a, _, rfl, .inl hS, _, _, rfl, rfl, _, rfl, ite2 (fun e => ?_) (fun _ => ?_)⟩
      · have hlt := of_decide_eq_true e
        have hj : k < ns.length := by
          rw [List.length_map] at hlt
          omega
        refine ⟨_, rfl, _, rfl, a, _, _, _, rfl, rfl, hS, atI_nat (j := k) (v := .int ns[k]) (by rw [List.getElem?_map, List.getElem?_eq_getElem hj]; rfl), .inl ⟨_, rfl, ⟨_, rfl⟩, rfl⟩⟩
      · refine ⟨_, rfl, _, _, rfl, rfl, .inl ⟨by decide, by decide⟩, _, _, rfl, rfl, ⟨_, rfl⟩, rfl⟩
    · rintro _ H0 ⟨⟨own, rfl⟩, eH⟩
      subst eH
      refine ⟨_, rfl, _, _, rfl, rfl, .inl ⟨by decide, by decide⟩, _, _, rfl, rfl, ?_⟩
      refine ⟨_, rfl, 14, rfl, a, _, rfl, hS, fun c nc => ?_⟩
      have sc : Same H0 (upd H0 c (.lst (cutV (ns.map V.int) none (some 14)))) := same_new nc
      have hC : cutV (ns.map V.int) none (some 14) = (ns.take 14).map V.int := by
        unfold cutV
        rw [HT.sIx_none, show HT.sIx (ns.map V.int).length (ns.map V.int).length (some 14) = min 14 (ns.map V.int).length from HT.sIx_nat _ _ 14, List.drop_zero, Nat.sub_zero, List.map_take, List.take_eq_take_iff]
        omega
      refine ⟨c, rfl, ⟨_, .inl (.inl upd_same)⟩, for_list (K := K) (a := c) (xs := (ns.take 14).map V.int) (fun i σ J => ∃ (mx : Int) (u : Option V), σ = [some (.ref a), some (.int (k : Int)), some (.int own), some (.int mx), u] ∧ Same H0 J ∧ J c = some (.lst ((ns.take 14).map V.int)))
        ⟨_, none, rfl, sc, by rw [upd_same, hC]⟩ (fun i σ J _ ⟨_, _, _, _, e⟩ => .inl (.inl e)) ?_ ?_⟩
      · rintro i v σ J hi ⟨mx, u, rfl, sJ, eJ⟩
        obtain ⟨t, rfl⟩ : ∃ t, v = V.int t := by
          rw [List.getElem?_map] at hi
          cases e : (ns.take 14)[i]? with
          | none =>
            rw [e] at hi
            cases hi
          | some t =>
            rw [e] at hi
            exact ⟨t, (Option.some.inj hi).symm⟩
        refine ⟨_, rfl, _, _, rfl, rfl, .inr ⟨by decide, by decide⟩, _, rfl, .inl ⟨_, rfl, _, _, rfl, rfl, (by decide : (0 : Int) < 1999999889), _, _, rfl, rfl, .inl ⟨_, rfl, _, _, rfl, rfl, (by decide : (0 : Int) < 1999999889), ?_⟩⟩⟩
        exact ⟨_, _, rfl, sJ, eJ⟩
      · rintro σ J ⟨mx, u, rfl, sJ, eJ⟩
        refine ⟨fun v J1 => (∃ i : Int, v = .int i) ∧ J1 = J, ?_, ?_⟩
        · refine ⟨_, rfl, _, _, rfl, rfl, _, rfl, ite2 (fun _ => ?_) (fun _ => ?_)⟩
          · refine iteT ⟨_, rfl, _, rfl, ⟨_, rfl⟩, rfl⟩
          · refine ⟨_, rfl, _, _, rfl, rfl, ⟨by decide, by decide, by decide⟩, _, _, rfl, rfl, _, rfl, ite2 (fun _ => ⟨_, rfl, _, rfl, ⟨_, rfl⟩, rfl⟩) (fun _ => ⟨⟨_, rfl⟩, rfl⟩)⟩
        · rintro _ _ ⟨⟨x, rfl⟩, rfl⟩
          refine ⟨_, rfl, _, _, rfl, rfl, .inr ⟨by decide, by decide⟩, _, rfl, _, _, rfl, rfl, (by decide : (0 : Int) < 1999999889), _, _, rfl, rfl, .inl ⟨_, rfl, _, _, rfl, rfl, (by decide : (0 : Int) < 1999999889), ?_⟩⟩
          refine ⟨by show 3 ≤ sizeLine; decide, fun p np => ?_⟩
          exact q p _ (sJ.free np) ⟨_, _, _, upd_same⟩ (sJ.trans (same_new np))
end
end Gu
namespace Gu
open PySem PySem.Spec PyProof.Rows L2
/-! ### _law_told -/
def marks : List Str := ["", "~", "..", "...", "a.b", "~"]
/-- four things as they are drawn -/
structure Four (l h t : Int) (z : Str) : Prop where
  l0 : 0 ≤ l
  l1 : l ≤ 40
  h0 : 0 ≤ h
  h1 : h ≤ 40
  t0 : 0 ≤ t
  t1 : t ≤ 40
  z : z ∈ marks
theorem marks_len {z : Str} (h : z ∈ marks) : z.cps.toList.length ≤ 3 := by
  have a : ∀ y ∈ marks, y.cps.toList.length ≤ 3 := by decide +kernel
  exact a z h
end Gu
namespace Gu
open PySem PySem.Spec PyProof.Rows L2
/-! ### _law_tolds -/
structure Rec where
  l : Int
  h : Int
  t : Int
  z : Str
def Rec.vs (r : Rec) : List V := [.int r.l, .int r.h, .int r.t, .str r.z]
def Rec.ok (r : Rec) : Prop := Four r.l r.h r.t r.z
theorem Pot.ne {H : Hp} {p q : Addr} (h : Pot H p) (n : H q = none) : q ≠ p := fun e => by
  subst e
  obtain ⟨o, ho⟩ := h.some
  rw [n] at ho
  cases ho
theorem yes {σ : L2.St} {H : Hp} {Q : Bool → Hp → Prop} (h : Q true H) : tYes σ H Q := h
section
variable {P : Program} {w : World} {K : PySem.W.Frag} {mg : Str → Option Value} {base : Heap}
/-- told tuples: a list of them at D -/
structure ToldsAt (G : Hp) (D : Addr) (ps : List (Addr × Rec)) : Prop where
  ls : G D = some (.lst (ps.map fun q => V.ref q.1))
  tp : ∀ q ∈ ps, G q.1 = some (.tup q.2.vs) ∧ q.2.ok
end
end Gu
namespace Gu
open PySem PySem.Spec PyProof.Rows L2
/-! ### is_integer, is_text -/
/-- isinstance(x, T) is b -/
def Isa (K : PySem.W.Frag) (H : Hp) (x : V) (T : String) (b : Bool) : Prop := ∃ t, TyX K H x t ∧ PySem.W.kitOne K t (.type T) = some b
def signs : Str := ".0123456789abcdefghijklmnopqrstuvwxyz~"
def isTxt (z : Str) (m : Int) : Bool := decide ((z.length : Int) ≤ m) && z.cps.toList.all fun c => decide (c ∈ signs.cps.toList)
section
variable {P : Program} {w : World} {K : PySem.W.Frag} {mg : Str → Option Value} {base : Heap}
theorem Isa.int_int {H : Hp} {i : Int} : Isa K H (.int i) "int" true := ⟨_, .base (.int i), kit_ty (by decide +kernel)⟩
theorem Isa.int_bool {H : Hp} {i : Int} : Isa K H (.int i) "bool" false := ⟨_, .base (.int i), kit_ty (by decide +kernel)⟩
theorem Isa.str_str {H : Hp} {z : Str} : Isa K H (.str z) "str" true := ⟨_, .base (.str z), kit_ty (by decide +kernel)⟩
def spIsInteger (K : PySem.W.Frag) : Sp := fun vs H Q _ => ∃ (x : V) (a b : Int), vs = [x, .int a, .int b] ∧
  ((∃ v, x = .int v ∧ Q (.bl (decide (a ≤ v ∧ v ≤ b))) H) ∨ (Isa K H x "int" false ∧ Q (.bl false) H) ∨ (Isa K H x "int" true ∧ Isa K H x "bool" true ∧ Q (.bl false) H))
theorem cal_isInteger (B : Bi mg) (D : At K mg "is_integer" s_is_integer ps_is_integer) : Cal P w K mg base 1 "is_integer" ps_is_integer (spIsInteger K) := by
  refine D.cal sc_is_integer (fun vs H Q E h => ?_) (fun f cdv A outer s H vs Q E hr h => ?_)
  · obtain ⟨x, a, b, rfl, _⟩ := h
    rfl
  · obtain ⟨x, a, b, rfl, h⟩ := h
    refine ⟨_, (pss_cons (ps_if (PW.pt (pw_or (pt_not (pt_val (pe_callB call_isi (by rfl) B.isinstance (by decide +kernel) (pa_cons (pv 0) (pa_cons (pe_bltn (v := .ty "int") (by rfl) B.int (by decide +kernel) rfl) pa_nil))))) (pw_or1 (pt_val (pe_callB call_isi (by rfl) B.isinstance (by decide +kernel) (pa_cons (pv 0) (pa_cons (pe_bltn (v := .ty "bool") (by rfl) B.bool (by decide +kernel) rfl) pa_nil))))))) (pss_one (ps_ret pe_bl)) pss_nil)
      (pss_one (ps_ret (pe_chain op_le op_le (pv 1) (pv 0) (pv 2))))), ?_⟩
    rcases h with ⟨v, rfl, k⟩ | ⟨⟨t, i1, i2⟩, k⟩ | ⟨⟨t, i1, i2⟩, ⟨t', j1, j2⟩, k⟩
    · obtain ⟨t, i1, i2⟩ := Isa.int_int (K := K) (H := H) (i := v)
      obtain ⟨t', j1, j2⟩ := Isa.int_bool (K := K) (H := H) (i := v)
      refine ⟨_, rfl, _, _, t, _, true, rfl, .ty _, i1, i2, _, rfl, iteF ⟨_, rfl, _, _, t', _, false, rfl, .ty _, j1, j2, _, rfl, iteF ?_⟩⟩
      refine ⟨_, rfl, _, rfl, _, _, rfl, rfl, _, rfl, ?_⟩
      by_cases e1 : a ≤ v
      · rw [decide_eq_true e1]
        refine iteT ⟨_, rfl, _, _, rfl, rfl, ?_⟩
        have e : decide (a ≤ v ∧ v ≤ b) = decide (v ≤ b) := by simp only [e1, true_and]
        rw [e] at k
        exact k
      · rw [decide_eq_false e1]
        refine iteF ?_
        have e : decide (a ≤ v ∧ v ≤ b) = false := by simp only [e1, false_and, decide_false]
        rw [e] at k
        exact k
    · refine ⟨_, rfl, _, _, t, _, false, rfl, .ty _, i1, i2, _, rfl, iteT (iteT k)⟩
    · refine ⟨_, rfl, _, _, t, _, true, rfl, .ty _, i1, i2, _, rfl, iteF ⟨_, rfl, _, _, t', _, true, rfl, .ty _, j1, j2, _, rfl, iteT k⟩⟩
def spIsText (K : PySem.W.Frag) : Sp := fun vs H Q _ => ∃ (x : V) (m : Int), vs = [x, .int m] ∧
  ((∃ z : Str, x = .str z ∧ z.length ≤ 1000 ∧ ∀ G, Same H G → Q (.bl (isTxt z m)) G) ∨ (Isa K H x "str" false ∧ Q (.bl false) H))
theorem cal_isText (B : Bi mg) (D : At K mg "is_text" s_is_text ps_is_text) : Cal P w K mg base 1 "is_text" ps_is_text (spIsText K) := by
  refine D.cal sc_is_text (fun vs H Q E h => ?_) (fun f cdv A outer s H vs Q E hr h => ?_)
  · obtain ⟨x, m, rfl, _⟩ := h
    rfl
  · obtain ⟨x, m, rfl, h⟩ := h
    refine ⟨_, (pss_cons (ps_if (PW.pt (pw_or (pt_not (pt_val (pe_callB call_isi (by rfl) B.isinstance (by decide +kernel) (pa_cons (pv 0) (pa_cons (pe_bltn (v := .ty "str") (by rfl) B.str (by decide +kernel) rfl) pa_nil))))) (pw_or1 (pt_cmpR op_gt (pe_callB call_len (by rfl) B.len (by decide +kernel) (pa_cons (pv 0) pa_nil)) (pv 1) (nomark _))))) (pss_one (ps_ret pe_bl)) pss_nil)
      (pss_one (ps_ret (pe_callB (cr_all rfl) (by rfl) B.all (by decide +kernel) (pa_cons (pe_lc (own := [("character", 2)]) (by rfl) sc_is_text.nd (pi_str (pv 0)) (blkOk_by (own := [("character", 2)]) (N := ["value", "most", "character"]) (sc := defScope s_is_text) (by decide +kernel)) (fun _ _ _ _ _ => pg_name (i := 2) sc_is_text.nd rfl (.inl rfl)) (fun _ _ _ _ _ => pts_nil) (fun _ _ _ _ _ => (pe_cmpR op_in_sign (pv 2) (pe_cst B.SIGNS (by rfl)) (by rfl)))) pa_nil))))), ?_⟩
    rcases h with ⟨z, rfl, zl, k⟩ | ⟨⟨t, i1, i2⟩, k⟩
    · obtain ⟨t, i1, i2⟩ := Isa.str_str (K := K) (H := H) (z := z)
      refine ⟨_, rfl, _, _, t, _, true, rfl, .ty _, i1, i2, _, rfl, iteF ⟨_, rfl, _, _, rfl, ⟨Nat.le_of_lt (small1000 zl), rfl⟩, _, rfl, _, _, rfl, rfl, _, rfl, ite2 (fun e => ?_) (fun e => ?_)⟩⟩
      · have e1 : ¬ (z.length : Int) ≤ m := by
          have := of_decide_eq_true e
          omega
        have e2 : isTxt z m = false := by
          unfold isTxt
          rw [decide_eq_false e1, Bool.false_and]
        rw [e2] at k
        exact k H (Same.refl H)
      · have e1 : (z.length : Int) ≤ m := by
          have h2 : ¬ m < (z.length : Int) := fun h3 => e (decide_eq_true h3)
          omega
        refine ⟨_, rfl, z, rfl, fun D nD => lc_it walk_str (fun i J => Same H J ∧ J D = some (.lst (((z.cps.toList.take i).map fun c => decide (c ∈ signs.cps.toList)).map V.bl)))
          ⟨same_new nD, by rw [upd_same]; rfl⟩ (fun _ _ _ _ => trivial) ?_ ?_⟩
        · rintro i v J _ hi ⟨sJ, eJ⟩ ⟨rfl, c, hc, rfl⟩
          refine ⟨rfl, yes (iteT ?_)⟩
          refine ⟨_, rfl, c, signs, rfl, rfl, _, eJ, small1000 ?_, ?_, ?_⟩
          · rw [List.length_map, List.length_map, List.length_take]
            have : z.length = z.cps.toList.length := rfl
            omega
          · exact fun b o e => by
              rw [upd_ne (ne_of_none e nD)]
              exact sJ b o e
          · rw [upd_same]
            have hc' : z.cps.toList[i]? = some c := by
              rw [← Array.getElem?_toList] at hc
              exact hc
            rw [List.take_add_one, hc', List.map_append, List.map_append]
            rfl
        · rintro J ⟨sJ, eJ⟩
          refine ⟨D, ((z.cps.toList.take z.cps.size).map fun c => decide (c ∈ signs.cps.toList)), rfl, .inl (.inl eJ), ?_⟩
          have e2 : ((z.cps.toList.take z.cps.size).map fun c => decide (c ∈ signs.cps.toList)).all id = isTxt z m := by
            unfold isTxt
            rw [decide_eq_true e1, Bool.true_and, List.take_of_length_le (show z.cps.toList.length ≤ z.cps.size from Nat.le_refl _), List.all_map]
            rfl
          rw [e2]
          exact k J sJ
    · refine ⟨_, rfl, _, _, t, _, false, rfl, .ty _, i1, i2, _, rfl, iteT (iteT k)⟩
end
end Gu
namespace Gu
open PySem PySem.Spec PyProof.Rows L2
/-! ### is_tuple -/
theorem isaTupP {K : PySem.W.Frag} {H : Hp} {l : Addr} {xs : List V} (h : SqT K H l xs) : Isa K H (.ref l) "tuple" true := by
  rcases h with (h | ⟨o, h⟩) | ⟨o, its, n, e, c, _⟩
  · exact ⟨_, .base (.tup h), kit_ty (by decide +kernel)⟩
  · exact ⟨_, .fTuple h, kit_ty (by decide +kernel)⟩
  · exact ⟨_, .kTuple e c, kit_ty (by decide +kernel)⟩
section
variable {P : Program} {w : World} {K : PySem.W.Frag} {mg : Str → Option Value} {base : Heap} {C : Addr}
def spIsTuple (K : PySem.W.Frag) : Sp := fun vs H Q _ => ∃ (x : V) (a b : Int), vs = [x, .int a, .int b] ∧
  ((∃ (l : Addr) (xs : List V), x = .ref l ∧ SqT K H l xs ∧ Q (.bl (decide (a ≤ (xs.length : Int) ∧ (xs.length : Int) ≤ b))) H) ∨ (Isa K H x "tuple" false ∧ Q (.bl false) H))
theorem cal_isTuple (B : Bi mg) (D : At K mg "is_tuple" s_is_tuple ps_is_tuple) : Cal P w K mg base 1 "is_tuple" ps_is_tuple (spIsTuple K) := by
  refine D.cal sc_is_tuple (fun vs H Q E h => ?_) (fun f cdv A outer s H vs Q E hr h => ?_)
  · obtain ⟨x, a, b, rfl, _⟩ := h
    rfl
  · obtain ⟨x, a, b, rfl, h⟩ := h
    refine ⟨_, (pss_one (ps_ret (pe_and (pe_callB call_isi (by rfl) B.isinstance (by decide +kernel) (pa_cons (pv 0) (pa_cons (pe_bltn (v := .ty "tuple") (by rfl) B.tuple (by decide +kernel) rfl) pa_nil))) (pe_one (pe_chain op_le op_le (pv 1) (pe_callB call_len (by rfl) B.len (by decide +kernel) (pa_cons (pv 0) pa_nil)) (pv 2)))))), ?_⟩
    rcases h with ⟨l, xs, rfl, hT, k⟩ | ⟨⟨t, i1, i2⟩, k⟩
    · obtain ⟨t, i1, i2⟩ := isaTupP hT
      refine ⟨_, rfl, _, _, t, _, true, rfl, .ty _, i1, i2, _, rfl, iteT ?_⟩
      refine ⟨_, rfl, _, rfl, _, _, rfl, .inr ⟨_, hT, rfl⟩, _, _, rfl, rfl, _, rfl, ?_⟩
      by_cases e1 : a ≤ (xs.length : Int)
      · rw [decide_eq_true e1]
        refine iteT ⟨_, rfl, _, _, rfl, rfl, ?_⟩
        have e : decide (a ≤ (xs.length : Int) ∧ (xs.length : Int) ≤ b) = decide ((xs.length : Int) ≤ b) := by simp only [e1, true_and]
        rw [e] at k
        exact k
      · rw [decide_eq_false e1]
        refine iteF ?_
        have e : decide (a ≤ (xs.length : Int) ∧ (xs.length : Int) ≤ b) = false := by simp only [e1, false_and, decide_false]
        rw [e] at k
        exact k
    · exact ⟨_, rfl, _, _, t, _, false, rfl, .ty _, i1, i2, _, rfl, iteF k⟩
end
end Gu
namespace Gu
open PySem PySem.Spec PyProof.Rows L2
/-! ### the class Shortener, its __init__ -/
def flds (r : Rec) (b : Addr) : List (Str × V) := putF "told" (.ref b) (putF "mark" (.str r.z) (putF "tail" (.int r.t) (putF "head" (.int r.h) (putF "limit" (.int r.l) []))))
theorem flds_limit (r : Rec) (b : Addr) : (flds r b).lookup ("limit" : Str) = some (.int r.l) := by
  unfold flds
  rw [lookup_putF, if_neg (by decide +kernel), lookup_putF, if_neg (by decide +kernel), lookup_putF, if_neg (by decide +kernel), lookup_putF, if_neg (by decide +kernel), lookup_putF, if_pos rfl]
theorem flds_head (r : Rec) (b : Addr) : (flds r b).lookup ("head" : Str) = some (.int r.h) := by
  unfold flds
  rw [lookup_putF, if_neg (by decide +kernel), lookup_putF, if_neg (by decide +kernel), lookup_putF, if_neg (by decide +kernel), lookup_putF, if_pos rfl]
theorem flds_tail (r : Rec) (b : Addr) : (flds r b).lookup ("tail" : Str) = some (.int r.t) := by
  unfold flds
  rw [lookup_putF, if_neg (by decide +kernel), lookup_putF, if_neg (by decide +kernel), lookup_putF, if_pos rfl]
theorem flds_mark (r : Rec) (b : Addr) : (flds r b).lookup ("mark" : Str) = some (.str r.z) := by
  unfold flds
  rw [lookup_putF, if_neg (by decide +kernel), lookup_putF, if_pos rfl]
theorem flds_told (r : Rec) (b : Addr) : (flds r b).lookup ("told" : Str) = some (.ref b) := by
  unfold flds
  rw [lookup_putF, if_pos rfl]
/-- what a Shortener may be made of -/
structure Rec.fit (r : Rec) : Prop where
  l : 0 ≤ r.l ∧ r.l ≤ 40
  h : 0 ≤ r.h ∧ r.h ≤ 40
  t : 0 ≤ r.t ∧ r.t ≤ 40
  z : isTxt r.z 3 = true
theorem isTxt_len {z : Str} {m : Int} (h : isTxt z m = true) : (z.length : Int) ≤ m := by
  unfold isTxt at h
  rw [Bool.and_eq_true] at h
  exact of_decide_eq_true h.1
theorem Rec.ok.fit {r : Rec} (o : r.ok) : r.fit := by
  have a : ∀ y ∈ marks, isTxt y 3 = true := by decide +kernel
  exact ⟨⟨o.l0, o.l1⟩, ⟨o.h0, o.h1⟩, ⟨o.t0, o.t1⟩, a _ o.z⟩
/-- the class as the top has left it -/
structure ShC (K : PySem.W.Frag) (mg : Str → Option Value) (C : Addr) : Prop where
  cl : Cls K C
  nL : NoAttr K C "limit"
  nH : NoAttr K C "head"
  nT : NoAttr K C "tail"
  nM : NoAttr K C "mark"
  nD : NoAttr K C "told"
  g : mg "Shortener" = some (.ref C)
  ha : PySem.W.findIn K (.ref C) "__class__" = some (some (.builtin "object.__class__"))
  hn : PySem.W.specialIn K (.builtin "object.__class__") "__get__" = some (some (.builtin "getset_descriptor.__get__"))
  ht : PySem.W.takesIn K (.builtin "object.__class__") = some true
  hm : PySem.W.mroIn K C (.type "object") = some true
  kk : PySem.W.kitOne K (.ref C) (.ref C) = some true
structure InitAt (K : PySem.W.Frag) (C : Addr) : Prop where
  ex : ∃ (f : Addr) (fd : FuncData), Mk K C f ∧ Fun K "__init__" "Shortener.__init__" s_Shortener_init f fd ∧ Binds K fd ps_Shortener_init []
structure Mak (P : Program) (w : World) (K : PySem.W.Frag) (mg : Str → Option Value) (base : Heap) (k : Nat) (x : Str) (C : Addr) (sp : Sp) : Prop where
  ex : ∃ (f : Addr) (fd : FuncData) (ps : List Str), Mk K C f ∧ FnOk P w K mg base CX0 k f fd ps sp ∧ mg x = some (.ref C) ∧ Binds K fd ps []
section
variable {X : Cx} {k j : Nat} {x : Str} {C : Addr} {sp : Sp} {p pos : Pos} {e : Expr} {es : List Expr} {t : TA}
theorem pe_new (c : Mak X.prog X.w X.K X.mg X.base k x C sp) (hr : Room j X.A) (hk : k + 1 ≤ j) (hg : Gl X x) (ha : PA X (e :: es) t)
    (hdb : (x == ("__debug__" : Str)) = false := by decide) (he : starEach (e :: es) X.env = (false, eval e X.env) :: starEach es X.env := by rfl) (hpl : (backTo pos (starEach es X.env)).any (·.1) = false := by rfl) :
    PE X (.Call (.Name x p) (e :: es) [] pos) (tMake C sp [] E0 t) := by
  obtain ⟨f, fd, ps, M, F, hm, b⟩ := c.ex
  exact pe_make M F (hr.mono hk) hg hm b .nil pass0 ha hdb he hpl
end
section
variable {P : Program} {w : World} {K : PySem.W.Frag} {mg : Str → Option Value} {base : Heap} {C : Addr}
def spCheckMark : Sp := fun vs H Q _ => ∃ (z : Str), vs = [.str z] ∧ isTxt z 3 = true ∧ ∀ G, Same H G → Q .non G
theorem cal_checkMark (B : Bi mg) (D : At K mg "check_mark" s_check_mark ps_check_mark) (C_is_text : Cal P w K mg base 1 "is_text" ps_is_text (spIsText K)) : Cal P w K mg base 2 "check_mark" ps_check_mark spCheckMark := by
  refine D.cal sc_check_mark (fun vs H Q E h => ?_) (fun f cdv A outer s H vs Q E hr h => ?_)
  · obtain ⟨z, rfl, _⟩ := h
    rfl
  · obtain ⟨z, rfl, hz, k⟩ := h
    have zl := isTxt_len hz
    refine ⟨_, (pss_one (ps_if (pt_not (pt_val (pe_own C_is_text hr (by decide) (by rfl) (pa_cons (pv 0) (pa_cons (pe_cst B.MOST_MARK (by rfl)) pa_nil))))) pss_never pss_nil)), ?_⟩
    refine ⟨_, rfl, _, _, rfl, .inl ⟨z, rfl, by omega, fun G sG => ⟨_, rfl, ?_⟩⟩⟩
    rw [hz]
    exact iteF (k G sG)
def spInit (C : Addr) : Sp := fun vs H Q _ => ∃ (x dx : Addr) (r : Rec), vs = [.ref x, .int r.l, .int r.h, .int r.t, .str r.z] ∧ H x = some (.ins C dx []) ∧ r.fit ∧
  ∀ (b : Addr) (G : Hp), H b = none → G x = some (.ins C dx (flds r b)) → G b = some (.tup r.vs) → (∀ c o, H c = some o → c ≠ x → G c = some o) → Q .non G
theorem ok_init {f : Addr} {fd : FuncData} (B : Bi mg) (S : ShC K mg C) (F : Fun K "__init__" "Shortener.__init__" s_Shortener_init f fd) (C_is_integer : Cal P w K mg base 1 "is_integer" ps_is_integer (spIsInteger K)) (C_check_mark : Cal P w K mg base 2 "check_mark" ps_check_mark spCheckMark) : FnOk P w K mg base CX0 3 f fd ps_Shortener_init (spInit C) := by
  refine F.ok sc_Shortener_init (fun vs H Q E h => ?_) (fun cdv A outer s H vs Q E hr h => ?_)
  · obtain ⟨x, dx, r, rfl, _⟩ := h
    rfl
  · obtain ⟨x, dx, r, rfl, hx, fit, k⟩ := h
    refine ⟨_, (pss_cons (ps_for PassesOwn.never rfl (pi_tup (pe_tup (pa_cons (pv 1) (pa_cons (pv 2) (pa_cons (pv 3) pa_nil))))) (pg_name (i := 5) sc_Shortener_init.nd rfl (.inl rfl))
      (pss_one (ps_if (pt_not (pt_val (pe_own C_is_integer hr (by decide) (by rfl) (pa_cons (pv 5) (pa_cons pe_int (pa_cons (pe_cst B.MOST_SIGNS (by rfl)) pa_nil)))))) pss_never pss_nil)))
      (pss_cons (ps_expr (pe_own C_check_mark hr (by decide) (by rfl) (pa_cons (pv 4) pa_nil)))
      (pss_cons (ps_fld (pv 0) (pv 1) rfl)
      (pss_cons (ps_fld (pv 0) (pv 2) rfl)
      (pss_cons (ps_fld (pv 0) (pv 3) rfl)
      (pss_cons (ps_fld (pv 0) (pv 4) rfl)
      (pss_one (ps_fld (pv 0) (pe_tup (pa_cons (pv 1) (pa_cons (pv 2) (pa_cons (pv 3) (pa_cons (pv 4) pa_nil))))) rfl)))))))), ?_⟩
    refine ⟨_, rfl, _, rfl, _, rfl, by show 3 ≤ sizeLine; decide, fun T nT => ?_⟩
    have nxT : x ≠ T := ne_of_none hx nT
    have hxT : upd H T (.tup [.int r.l, .int r.h, .int r.t]) x = some (.ins C dx []) := by rw [upd_ne nxT]; exact hx
    refine ⟨T, rfl, ⟨_, .inl (.inl upd_same)⟩, for_tup (K := K) (a := T) (xs := [.int r.l, .int r.h, .int r.t]) (fun i σ J => ∃ u, σ = [some (.ref x), some (.int r.l), some (.int r.h), some (.int r.t), some (.str r.z), u] ∧ J = upd H T (.tup [.int r.l, .int r.h, .int r.t]))
      ⟨none, rfl, rfl⟩ (fun i σ J _ ⟨_, _, e⟩ => by rw [e]; exact .inl (.inl upd_same)) ?_ ?_⟩
    · rintro i v σ J hi ⟨u, rfl, rfl⟩
      obtain ⟨n, n0, n1, rfl⟩ : ∃ n : Int, 0 ≤ n ∧ n ≤ 40 ∧ v = .int n := by
        have hv := List.mem_of_getElem? hi
        simp only [List.mem_cons, List.not_mem_nil, or_false] at hv
        rcases hv with rfl | rfl | rfl
        · exact ⟨_, fit.l.1, fit.l.2, rfl⟩
        · exact ⟨_, fit.h.1, fit.h.2, rfl⟩
        · exact ⟨_, fit.t.1, fit.t.2, rfl⟩
      refine ⟨_, rfl, _, _, _, rfl, .inl ⟨_, rfl, _, rfl, ?_⟩⟩
      rw [decide_eq_true ⟨n0, n1⟩]
      exact iteF ⟨_, rfl, rfl⟩
    · rintro σ J ⟨u, rfl, rfl⟩
      refine ⟨_, rfl, _, rfl, fit.z, fun G sG => ?_⟩
      have g0 : G x = some (.ins C dx []) := sG _ _ hxT
      refine ⟨_, rfl, _, rfl, x, C, dx, [], rfl, g0, S.cl, S.nL, by decide, ?_⟩
      refine ⟨_, rfl, _, rfl, x, C, dx, _, rfl, upd_same, S.cl, S.nH, by exact Nat.lt_of_le_of_lt (length_putF _ _ _) (by decide), ?_⟩
      rw [upd_upd]
      refine ⟨_, rfl, _, rfl, x, C, dx, _, rfl, upd_same, S.cl, S.nT, by exact Nat.lt_of_le_of_lt (length_putF _ _ _) (Nat.lt_of_le_of_lt (Nat.succ_le_succ (length_putF _ _ _)) (by decide)), ?_⟩
      rw [upd_upd]
      refine ⟨_, rfl, _, rfl, x, C, dx, _, rfl, upd_same, S.cl, S.nM, by exact Nat.lt_of_le_of_lt (length_putF _ _ _) (Nat.lt_of_le_of_lt (Nat.succ_le_succ (Nat.le_trans (length_putF _ _ _) (Nat.succ_le_succ (length_putF _ _ _)))) (by decide)), ?_⟩
      rw [upd_upd]
      refine ⟨_, rfl, _, rfl, _, rfl, _, rfl, by show 4 ≤ sizeLine; decide, fun b nb => ?_⟩
      have nxb : x ≠ b := ne_of_none upd_same nb
      refine ⟨_, rfl, x, C, dx, _, rfl, (by rw [upd_ne nxb, upd_same]), S.cl, S.nD, by exact Nat.lt_of_le_of_lt (length_putF _ _ _) (Nat.lt_of_le_of_lt (Nat.succ_le_succ (Nat.le_trans (length_putF _ _ _) (Nat.succ_le_succ (Nat.le_trans (length_putF _ _ _) (Nat.succ_le_succ (length_putF _ _ _)))))) (by decide)), ?_⟩
      have nb1 : G b = none := by rw [upd_ne nxb.symm] at nb; exact nb
      have nb0 : H b = none := (same_new nT).free (sG.free nb1)
      refine k b _ nb0 upd_same (by rw [upd_ne nxb.symm, upd_same]; rfl) fun c o e nc => ?_
      rw [upd_ne nc, upd_ne (ne_of_none e nb0), upd_ne nc]
      exact sG _ _ (same_new nT _ _ e)
theorem mak_sh (B : Bi mg) (S : ShC K mg C) (D : InitAt K C) (C_is_integer : Cal P w K mg base 1 "is_integer" ps_is_integer (spIsInteger K)) (C_check_mark : Cal P w K mg base 2 "check_mark" ps_check_mark spCheckMark) : Mak P w K mg base 3 "Shortener" C (spInit C) := by
  obtain ⟨f, fd, M, F, b⟩ := D.ex
  exact ⟨f, fd, ps_Shortener_init, M, ok_init B S F C_is_integer C_check_mark, S.g, b⟩
end
end Gu
namespace PySem
open Sem (wp)
open AutoSeq1 (wpAny_loadPart')
theorem gu_new_enum (a : Addr) (vs : Array Value) (n : Nat) (dt : Option Addr) (sl : Array (Option Value)) : Meets (Builtin.«enumerate.__new__» ⟨[.type "enumerate", .ref a], []⟩) (fun _ R s =>
    s.heap.get? a = some ⟨.type "tuple", dt, .seq vs n, sl⟩ ∧ R (.ok (.ret (.ref (s.heap.push { cls := .type "tuple_iterator", data := .fields #[.ref a, .int 0 0] }).objs.size))) { s with heap := (s.heap.push { cls := .type "tuple_iterator", data := .fields #[.ref a, .int 0 0] }).push { cls := .type "enumerate", data := .fields #[.none, .bool false, .ref s.heap.objs.size, rawInt 0, .none, .none] } }) :=
  .of_wp fun prog w A R s h => by
    obtain ⟨s1, s2, s3, s4, s5⟩ := s
    obtain ⟨ha, h⟩ := h
    have sb := sub_enumerate
    have hT : Heap.IsTuple (Shared.heap ⟨s1, s2, s3, s4, s5⟩) a vs := ⟨_, ha, rfl, n, rfl⟩
    wp_walk using wpAny_loadPart' ha
    refine wpAny_stack_any fun fr => wpAny_pure ?_
    split
    · next c _ _ _ _ _ =>
      cases (c == Value.type "enumerate") <;> (wp_walk using wpAny_loadPart' ha, wpAny_pyIter_tuple hT; exact ⟨_, rfl, h⟩)
    · wp_walk using wpAny_loadPart' ha, wpAny_pyIter_tuple hT
      exact ⟨_, rfl, h⟩
section
variable {prog : Program} {w : World} {A : Around} {E : Value → Shared → Prop} {s : Shared}
theorem gu_call_enum {a : Addr} {vs : Array Value} {Q : Value → Shared → Prop} (hT : s.heap.IsTuple a vs)
    (h : ∀ g, IsEnum g (s.heap.objs.size + 1) s.heap.objs.size 0 .none → g.IsTupleIter s.heap.objs.size a 0 → (∀ b o, s.heap.get? b = some o → g.get? b = some o) → Q (.ref (s.heap.objs.size + 1)) { s with heap := g }) :
    wpAny (model prog w) A (call (.type "enumerate") [.ref a]) Q E s := by
  obtain ⟨⟨oc, od, dd, sl⟩, ha, hc, n, hd⟩ := hT
  cases (show oc = .type "tuple" from hc)
  cases (show dd = .seq vs n from hd)
  refine callType_new F.called_enumerate (by decide) (F.typeCall_enumerate_1 _) (F.newCall_enumerate_1 _) (fun o => F.args_object_init_2 o _) F.entry_enumerate_new (gu_new_enum a vs n od sl) ⟨ha, ?_⟩
  have z1 : (s.heap.push { cls := .type "tuple_iterator", data := .fields #[.ref a, .int 0 0] }).objs.size = s.heap.objs.size + 1 := Heap.size_push ..
  show _ ∧ _
  rw [z1]
  have en : IsEnum ((s.heap.push { cls := .type "tuple_iterator", data := .fields #[.ref a, .int 0 0] }).push { cls := .type "enumerate", data := .fields #[.none, .bool false, .ref s.heap.objs.size, rawInt 0, .none, .none] }) (s.heap.objs.size + 1) s.heap.objs.size 0 .none := by
    have q := Heap.get?_push_size (s.heap.push { cls := .type "tuple_iterator", data := .fields #[.ref a, .int 0 0] }) (o := { cls := .type "enumerate", data := .fields #[.none, .bool false, .ref s.heap.objs.size, rawInt 0, .none, .none] }) rfl
    rw [z1] at q
    exact q
  exact ⟨⟨_, en, rfl⟩, h _ en ⟨_, Heap.get?_push_of_some _ (Heap.get?_push_size _ rfl), rfl, rfl⟩ fun b o x => Heap.get?_push_of_some _ (Heap.get?_push_of_some _ x)⟩
end
end PySem
namespace Gu
open PySem PySem.Spec PyProof.Rows L2
/-- the tuple at a, each item in a new pair with its place -/
def EnT (K : PySem.W.Frag) (a : Addr) : It where
  go := fun i H => ∃ (xs : List V) (x : V), SqT K H a xs ∧ xs[i]? = some x
  yld := fun i H v G => ∃ T x, v = .ref T ∧ H T = none ∧ G = upd H T (.tup [.int (i : Nat), x]) ∧ ∀ xs, SqT K H a xs → xs[i]? = some x
  stop := fun i H => ∃ xs : List V, SqT K H a xs ∧ xs.length = i
theorem turn_enT {P : Program} {w : World} {K : PySem.W.Frag} {es : List Expr} {kk : Nat} {tp : Pos} (a e it : Addr) :
    Turn P w K (.Tuple es kk tp) (EnT K a) [e, it] e (fun i h => (∃ old, IsEnum h e it ((i : Nat) : Int) old) ∧ h.IsTupleIter it a i ∧ e ≠ it) where
  mem := List.mem_cons_self ..
  obj := fun i h st b hb => by
    obtain ⟨⟨old, he⟩, ⟨o, ho, hc, hd⟩, _⟩ := st
    simp only [List.mem_cons, List.not_mem_nil, or_false] at hb
    rcases hb with rfl | rfl
    · exact ⟨_, he, fun v q => nomatch q⟩
    · exact ⟨o, ho, fun v q => by rw [hd] at q; cases q⟩
  keep := fun i h g st k => by
    obtain ⟨⟨old, he⟩, hi, ne⟩ := st
    exact ⟨⟨old, k e (by simp) _ he⟩, hi.at fun o q => k it (by simp) o q, ne⟩
  item := by
    intro X hP hw hK hc i pins s σ H E I hf st hg
    subst hP hw hK
    obtain ⟨⟨old, he⟩, hit, ne⟩ := st
    obtain ⟨xs, x, hq, hx⟩ := hg
    obtain ⟨its, rv, tp, hz⟩ := I.tuple hq
    obtain ⟨u, hu, ru⟩ := rv.get hx
    have el : e < s.heap.objs.size := Heap.lt_size he
    have il : it < s.heap.objs.size := by
      obtain ⟨_, q, _⟩ := hit
      exact Heap.lt_size q
    have tp' : s.heap.IsTuple a its.toArray := tp
    have nai : a ≠ it := fun z => by
      obtain ⟨o1, g1, c1, _⟩ := tp'
      obtain ⟨o2, g2, c2, _⟩ := hit
      rw [z] at g1
      cases g1.symm.trans g2
      exact absurd (Value.type.inj (c1.symm.trans c2)) (by decide)
    have nea : e ≠ a := fun z => by
      obtain ⟨o1, g1, c1, _⟩ := tp'
      have g2 := he
      rw [z] at g2
      cases g1.symm.trans g2
      exact absurd (Value.type.inj c1) (by decide)
    have hd : X.A.in1.handled = none := I.ok.hd hc
    refine wpAny_pyNext_enum_itemD (Draws.tuple hd it a nai its.toArray) he ⟨hit, tp'⟩ (i := i) (by
      have := (List.getElem?_eq_some_iff.mp hu).1
      simpa using this) ne (by simp [ne, nea]) fun y g tk hy ho st' hT hsz hk => ?_
    have ey : y = u := by
      have : its[i]? = some y := by simpa using hy
      rw [hu] at this
      exact (Option.some.inj this).symm
    subst ey
    refine ⟨_, rfl, wpAny_letOwnedTupleGo_enum (s := { s with heap := g, toks := tk + 1 }) ho fun g2 he' sb => ?_⟩
    have hT2 : g2.get? s.heap.objs.size = some { cls := .type "tuple", data := .seq #[.int i tk, y] } := (sb.2 _ (Nat.ne_of_gt el)).trans hT
    have nw : ObjOk X.prog X.w (upd H s.heap.objs.size (.tup [.int (i : Nat), x])) g2 s.heap.objs.size (.tup [.int (i : Nat), x]) := ⟨by show 2 ≤ sizeLine; decide, [.int i tk, y], .cons ⟨_, rfl⟩ (.cons ru .nil), ⟨_, hT2, rfl, _, rfl⟩⟩
    have I1 : Inv X pins σ (upd H s.heap.objs.size (.tup [.int (i : Nat), x])) { s with heap := g2, toks := tk + 1 } :=
      I.turnedNew (ch := [e, it]) (fun b ob hb q => (sb.2 b (fun z => hb (by simp [z]))).trans (hk b ob (fun z => hb (by simp [z])) (fun z => hb (by simp [z])) q)) hf (Nat.le_refl _) nw
    refine ⟨.ref s.heap.objs.size, _, I1, rfl, ⟨_, x, rfl, I.hok.fresh (Nat.le_refl _), rfl, fun ys hy => by rw [I.tuple_inj hy hq]; exact hx⟩, ⟨⟨y, ?_⟩, st'.1.at fun o q => (sb.2 it (Ne.symm ne)).trans q, ne⟩, fun b hb => ?_⟩
    · rw [show ((i + 1 : Nat) : Int) = (i : Int) + 1 by omega]
      exact he'
    · have hb' : b < s.heap.objs.size := by
        simp only [List.mem_cons, List.not_mem_nil, or_false] at hb
        rcases hb with rfl | rfl
        · exact el
        · exact il
      rw [upd_ne (Nat.ne_of_lt hb')]
      exact (hf b hb).1
  done := by
    intro X hP hw hK hc i pins s σ H E I hf st hg
    subst hP hw hK
    obtain ⟨⟨old, he⟩, hit, ne⟩ := st
    obtain ⟨xs, hq, hx⟩ := hg
    obtain ⟨its, rv, tp, hz⟩ := I.tuple hq
    have tp' : s.heap.IsTuple a its.toArray := tp
    have nai : a ≠ it := fun z => by
      obtain ⟨o1, g1, c1, _⟩ := tp'
      obtain ⟨o2, g2, c2, _⟩ := hit
      rw [z] at g1
      cases g1.symm.trans g2
      exact absurd (Value.type.inj (c1.symm.trans c2)) (by decide)
    have hd : X.A.in1.handled = none := I.ok.hd hc
    have en : its.toArray.size = i := by
      have := rv.length
      simp only [List.size_toArray]
      omega
    obtain ⟨f0, f1, f2, f3, f4, f5⟩ := hf it (by simp)
    exact wpAny_pyNext_enum_endD (Draws.tuple hd it a nai its.toArray) he ⟨by rw [en]; exact hit, tp'⟩ fun g eb => ⟨rfl, I.turned (t' := s.toks) (fun b o hb q => eb b o hb q) f0 f1 f3 f4 f5⟩
  self := fun A i s Q E st h => by
    obtain ⟨⟨_, he⟩, _⟩ := st
    exact wpAny_pyIter_enum he h
def iEnT (K : PySem.W.Frag) (ta : TA) : TI := fun σ H R => ta σ H fun vs G => ∃ a xs, vs = [.ref a] ∧ SqT K G a xs ∧ R (EnT K a) G
theorem pi_enT {X : Cx} {e : Expr} {ta : TA} {p pos tp : Pos} {es : List Expr} {kk : Nat} (hg : Gl X "enumerate") (hm : X.mg "enumerate" = none) (ha : PA X [e] ta) (hs : starEach [e] X.env = [(false, eval e X.env)] := by rfl) :
    PI X (.Tuple es kk tp) (.Call (.Name "enumerate" p) [e] [] pos) (iEnT X.K ta) := by
  refine ⟨fun pins s σ H R I h => ?_⟩
  refine Call_ (ld_blt I hg hm boot_enumerate (PyProof.Rows.callWith_type1 (thn (ha.run pos pins s σ H _ I h) fun us s1 ⟨vs, G, I1, r1, q1⟩ => ?_) hs rfl))
  obtain ⟨a, xs, ex, hq, q⟩ := q1
  subst ex
  cases r1 with
  | cons r rr =>
    cases rr
    cases r
    obtain ⟨its, rv, tq, hz⟩ := I1.tuple hq
    refine gu_call_enum (show s1.heap.IsTuple a its.toArray from tq) fun g he hit hk => wpAny_pyIter_enum he ?_
    have I2 : Inv X pins σ G { s1 with heap := g } := I1.kept (t' := s1.toks) hk
    refine ⟨s1.heap.objs.size + 1, [s1.heap.objs.size + 1, s1.heap.objs.size], _, _, G, rfl, I2, turn_enT a (s1.heap.objs.size + 1) s1.heap.objs.size, ⟨⟨.none, he⟩, hit, Nat.succ_ne_self _⟩, fun b hb => ?_, q⟩
    have le : s1.heap.objs.size ≤ b := by
      simp only [List.mem_cons, List.not_mem_nil, or_false] at hb
      rcases hb with rfl | rfl
      · exact Nat.le_add_right _ _
      · exact Nat.le_refl _
    exact I1.fpOk le (I1.hok.fresh le)
/-- the walk of such a loop: a new pair each turn -/
theorem walk_enT {K : PySem.W.Frag} {a : Addr} {xs : List V} : Walk (EnT K a) xs.length (fun H => SqT K H a xs) (fun i H v G => ∃ T x, xs[i]? = some x ∧ v = .ref T ∧ H T = none ∧ G = upd H T (.tup [.int (i : Nat), x])) where
  goes := fun i H hi h => ⟨xs, xs[i], h, List.getElem?_eq_getElem hi⟩
  stops := fun H h => ⟨xs, h, rfl⟩
  yields := fun i H v G hi h ⟨T, x, e1, e2, e3, e4⟩ => ⟨T, x, e4 xs h, e1, e2, e3⟩
end Gu
namespace Gu
open PySem PySem.Spec PyProof.Rows L2
/-! ### what is cut, as lists -/
def cut {α : Type} (l h t : Nat) (m xs : List α) : List α := if xs.length ≤ l then xs else xs.take h ++ m ++ xs.drop (xs.length - t)
theorem cut_front {α : Type} (xs : List α) {h : Int} (h0 : 0 ≤ h) : (xs.drop (HT.sIx xs.length 0 none)).take (HT.sIx xs.length xs.length (some h) - HT.sIx xs.length 0 none) = xs.take h.toNat := by
  obtain ⟨k, rfl⟩ := Int.eq_ofNat_of_zero_le h0
  rw [HT.sIx_none, HT.sIx_nat, List.drop_zero, Nat.sub_zero, Int.toNat_natCast, List.take_eq_take_iff]
  omega
theorem cut_back {α : Type} (xs : List α) {h : Int} (h0 : 0 ≤ h) : (xs.drop (HT.sIx xs.length 0 (some h))).take (HT.sIx xs.length xs.length none - HT.sIx xs.length 0 (some h)) = xs.drop h.toNat := by
  obtain ⟨k, rfl⟩ := Int.eq_ofNat_of_zero_le h0
  rw [HT.sIx_none, HT.sIx_nat, Int.toNat_natCast]
  rw [List.take_of_length_le (by rw [List.length_drop]; omega)]
  by_cases e : k ≤ xs.length
  · rw [Nat.min_eq_left e]
  · rw [Nat.min_eq_right (by omega), List.drop_length, List.drop_eq_nil_of_le (by omega)]
theorem cut_length {α : Type} {l h t : Nat} {m xs : List α} : (cut l h t m xs).length ≤ max xs.length (h + m.length + t) := by
  unfold cut
  split
  · omega
  · rw [List.length_append, List.length_append, List.length_take, List.length_drop]
    omega
theorem app_cps (a b : Str) : (a ++ b).cps.toList = a.cps.toList ++ b.cps.toList := by
  show (a.cps ++ b.cps).toList = _
  rw [Array.toList_append]
def Rec.cut (r : Rec) (xs : List Nat) : List Nat := Gu.cut r.l.toNat r.h.toNat r.t.toNat r.z.cps.toList xs
def cuts (rs : List Rec) (xs : List Nat) : List Nat := rs.foldl (fun acc r => r.cut acc) xs
theorem Rec.fit.zl {r : Rec} (f : r.fit) : r.z.cps.toList.length ≤ 3 := by
  have h := isTxt_len f.z
  have e : r.z.length = r.z.cps.toList.length := rfl
  omega
theorem Rec.fit.cut_len {r : Rec} (f : r.fit) {xs : List Nat} (h : xs.length ≤ 200) : (r.cut xs).length ≤ 200 := by
  have a : (r.cut xs).length ≤ _ := cut_length
  have b := f.zl
  have c := f.h
  have d := f.t
  omega
/-! ### shorteners and rows in the heap -/
def ShAt (C : Addr) (H : Hp) (x : Addr) (r : Rec) : Prop := ∃ dx b, H x = some (.ins C dx (flds r b)) ∧ H b = some (.tup r.vs)
structure RowAt (C : Addr) (H : Hp) (a : Addr) (rs : List (Addr × Rec)) : Prop where
  tp : H a = some (.tup (rs.map fun q => V.ref q.1))
  sh : ∀ q ∈ rs, ShAt C H q.1 q.2 ∧ q.2.fit
theorem ShAt.same {C : Addr} {H G : Hp} {x : Addr} {r : Rec} (s : Same H G) (h : ShAt C H x r) : ShAt C G x r := by
  obtain ⟨dx, b, h1, h2⟩ := h
  exact ⟨dx, b, s _ _ h1, s _ _ h2⟩
theorem RowAt.same {C : Addr} {H G : Hp} {a : Addr} {rs : List (Addr × Rec)} (s : Same H G) (h : RowAt C H a rs) : RowAt C G a rs := ⟨s _ _ h.tp, fun q hq => ⟨(h.sh q hq).1.same s, (h.sh q hq).2⟩⟩
section
variable {P : Program} {w : World} {K : PySem.W.Frag} {mg : Str → Option Value} {base : Heap} {C : Addr}
/-! ### check_row, check_text -/
def spCheckRow (C : Addr) : Sp := fun vs H Q _ => ∃ (a : Addr) (rs : List (Addr × Rec)), vs = [.ref a] ∧ RowAt C H a rs ∧ 1 ≤ rs.length ∧ rs.length ≤ 4 ∧ ∀ G, Same H G → Q .non G
def spCheckText : Sp := fun vs H Q _ => ∃ (z : Str), vs = [.str z] ∧ isTxt z 200 = true ∧ ∀ G, Same H G → Q .non G
/-! ### shortened: of a text -/
def spShortS (C : Addr) : Sp := fun vs H Q _ => ∃ (x : Addr) (r : Rec) (z : Str), vs = [.ref x, .str z, .str r.z] ∧ ShAt C H x r ∧ r.fit ∧ z.length ≤ 1000 ∧ ∀ y : Str, y.cps.toList = r.cut z.cps.toList → Q (.str y) H
theorem cal_shortS (B : Bi mg) (S : ShC K mg C) (D : At K mg "shortened" s_shortened ps_shortened) : Cal P w K mg base 1 "shortened" ps_shortened (spShortS C) := by
  refine D.cal sc_shortened (fun vs H Q E h => ?_) (fun f cdv A outer s H vs Q E hr h => ?_)
  · obtain ⟨x, r, z, rfl, _⟩ := h
    rfl
  · obtain ⟨x, r, z, rfl, ⟨dx, b, hx, _⟩, fit, zl, k⟩ := h
    have ez : z.length = z.cps.toList.length := rfl
    have zs : z.length ≤ sizeLine := Nat.le_of_lt (small1000 zl)
    have f1 := fit.l
    have f2 := fit.h
    have f3 := fit.t
    have f4 := fit.zl
    refine ⟨_, (pss_cons (ps_if (pt_cmpR op_le (pe_callB call_len (by rfl) B.len (by decide +kernel) (pa_cons (pv 1) pa_nil)) (pe_fld (pv 0) rfl) (nomark _)) (pss_one (ps_ret (pv 1))) pss_nil)
      (pss_cons (ps_set (i := 3) sc_shortened.nd rfl (.inl rfl) (pe_callB (call_max2 rfl) (by rfl) B.max (by decide +kernel) (pa_cons pe_int (pa_cons (pe_op op_sub (pe_callB call_len (by rfl) B.len (by decide +kernel) (pa_cons (pv 1) pa_nil)) (pe_fld (pv 0) rfl)) pa_nil))))
      (pss_one (ps_ret (pe_op op_add_str (pe_op op_add_str (pe_slice sl_str (pv 1) po_none (po_some (pe_fld (pv 0) rfl))) (pv 2)) (pe_slice sl_str (pv 1) (po_some (pv 3)) po_none)))))), ?_⟩
    refine ⟨_, rfl, _, _, rfl, ⟨zs, rfl⟩, _, rfl, x, C, dx, _, _, rfl, hx, S.cl, S.nL, flds_limit _ _, _, _, rfl, rfl, _, rfl, ite2 (fun e => ?_) (fun e => ?_)⟩
    · have e1 := of_decide_eq_true e
      refine ⟨_, rfl, k z ?_⟩
      unfold Rec.cut cut
      rw [if_pos (by omega)]
    · have e1 : ¬ (z.length : Int) ≤ r.l := fun h => e (decide_eq_true h)
      refine ⟨_, rfl, _, _, rfl, ⟨zs, rfl⟩, _, rfl, x, C, dx, _, _, rfl, hx, S.cl, S.nT, flds_tail _ _, _, _, rfl, rfl, _, _, rfl, ?_⟩
      refine ⟨_, rfl, _, rfl, x, C, dx, _, _, rfl, hx, S.cl, S.nH, flds_head _ _, _, rfl, z, rfl, zs, _, rfl, _, _, rfl, rfl, ?_, _, rfl, _, rfl, _, rfl, z, rfl, zs, _, _, rfl, rfl, ?_, k _ ?_⟩
      · have a := cutS_length z none (some r.h)
        have b : r.z.length = r.z.cps.toList.length := rfl
        exact Nat.le_of_lt (Nat.lt_of_le_of_lt (show _ ≤ 2000 by omega) (by decide))
      · have a := cutS_length z none (some r.h)
        have b : r.z.length = r.z.cps.toList.length := rfl
        have c := cutS_length z (some (if (z.length : Int) - r.t > 0 then (z.length : Int) - r.t else 0)) none
        have d : (cutS z none (some r.h) ++ r.z).length = (cutS z none (some r.h)).length + r.z.length := by
          show (cutS z none (some r.h) ++ r.z).cps.toList.length = _
          rw [app_cps, List.length_append]
          rfl
        exact Nat.le_of_lt (Nat.lt_of_le_of_lt (show _ ≤ 4000 by omega) (by decide))
      · rw [app_cps, app_cps]
        have a : (cutS z none (some r.h)).cps.toList = z.cps.toList.take r.h.toNat := by
          show ((z.cps.toList.drop _).take _).toArray.toList = _
          rw [List.toList_toArray]
          exact cut_front z.cps.toList f2.1
        have c : (cutS z (some (if (z.length : Int) - r.t > 0 then (z.length : Int) - r.t else 0)) none).cps.toList = z.cps.toList.drop (z.cps.toList.length - r.t.toNat) := by
          show ((z.cps.toList.drop _).take _).toArray.toList = _
          rw [List.toList_toArray]
          have q := cut_back z.cps.toList (h := if (z.length : Int) - r.t > 0 then (z.length : Int) - r.t else 0) (by split <;> omega)
          have n : (if (z.length : Int) - r.t > 0 then (z.length : Int) - r.t else 0).toNat = z.cps.toList.length - r.t.toNat := by split <;> omega
          rw [n] at q
          exact q
        rw [a, c]
        unfold Rec.cut cut
        rw [if_neg (show ¬ z.cps.toList.length ≤ r.l.toNat by omega)]
/-! ### shown_by, show -/
theorem Rec.fit.cut_lenW {r : Rec} (f : r.fit) {xs : List Nat} (h : xs.length ≤ 600) : (r.cut xs).length ≤ 600 := by
  have a : (r.cut xs).length ≤ _ := cut_length
  have b := f.zl
  have c := f.h
  have d := f.t
  omega
def spShownBy (C : Addr) : Sp := fun vs H Q _ => ∃ (a : Addr) (rs : List (Addr × Rec)) (z : Str), vs = [.ref a, .str z] ∧ RowAt C H a rs ∧ z.cps.toList.length ≤ 600 ∧ ∀ (y : Str), y.cps.toList = cuts (rs.map (·.2)) z.cps.toList → Q (.str y) H
def spShow (C : Addr) : Sp := fun vs H Q _ => ∃ (a : Addr) (rs : List (Addr × Rec)) (z : Str), vs = [.ref a, .str z] ∧ RowAt C H a rs ∧ 1 ≤ rs.length ∧ rs.length ≤ 4 ∧ isTxt z 200 = true ∧ ∀ (y : Str) (G : Hp), Same H G → y.cps.toList = cuts (rs.map (·.2)) z.cps.toList → Q (.str y) G
end
end Gu
namespace Gu
open PySem PySem.Spec PyProof.Rows L2
/-! ### texts of single signs -/
def one (c : Nat) : Str := ⟨#[c]⟩
def ones (cs : List Nat) : List V := cs.map fun c => V.str (one c)
theorem join_ones : ∀ cs : List Nat, (Str.join ⟨#[]⟩ (cs.map one)).cps.toList = cs
  | [] => rfl
  | c :: r => by
    rw [List.map_cons, join_nil_cons, app_cps, join_ones r]
    rfl
theorem tjoin_ones (cs : List Nat) : (Txt.join "" (cs.map one)).cps.toList = cs := by
  have e : (("" : String) : Str) = ⟨#[]⟩ := by decide +kernel
  show (Builtin.Str.glued _ _).cps.toList = cs
  rw [e, StrLaws.glued_eq_join]
  exact join_ones cs
theorem ones_len (cs : List Nat) : ((cs.map one).map (·.length)).sum = cs.length := by
  induction cs with
  | nil => rfl
  | cons c r ih =>
    rw [List.map_cons, List.map_cons, List.sum_cons, ih]
    show 1 + r.length = r.length + 1
    omega
theorem ones_map (cs : List Nat) : ones cs = (cs.map one).map V.str := by
  unfold ones
  rw [List.map_map]
  rfl
def cutsV (rs : List Rec) (xs : List V) : List V := rs.foldl (fun acc r => cut r.l.toNat r.h.toNat r.t.toNat (ones r.z.cps.toList) acc) xs
theorem cut_map {α β : Type} (f : α → β) (l h t : Nat) (m xs : List α) : cut l h t (m.map f) (xs.map f) = (cut l h t m xs).map f := by
  unfold cut
  rw [List.length_map]
  split
  · rfl
  · rw [List.map_append, List.map_append, List.map_take, List.map_drop]
theorem cutsV_ones : ∀ (rs : List Rec) (cs : List Nat), cutsV rs (ones cs) = ones (cuts rs cs)
  | [], _ => rfl
  | r :: rs, cs => by
    show cutsV rs (cut r.l.toNat r.h.toNat r.t.toNat (ones r.z.cps.toList) (ones cs)) = ones (cuts rs (r.cut cs))
    unfold ones
    rw [cut_map]
    exact cutsV_ones rs (r.cut cs)
theorem cuts_len : ∀ (rs : List Rec) {xs : List Nat}, (∀ r ∈ rs, r.fit) → xs.length ≤ 200 → (cuts rs xs).length ≤ 200
  | [], _, _, h => h
  | r :: rs, xs, hf, h => cuts_len rs (xs := r.cut xs) (fun q hq => hf q (List.mem_cons_of_mem _ hq)) ((hf r (List.mem_cons_self ..)).cut_len h)
theorem ShAt.list {C : Addr} {H : Hp} {x M : Addr} {r : Rec} {acc ys : List V} (h : ShAt C H x r) (e : H M = some (.lst acc)) : ShAt C (upd H M (.lst ys)) x r := by
  obtain ⟨dx, b, h1, h2⟩ := h
  exact ⟨dx, b, by rw [upd_ne (ne_of h1 e (by intro z; cases z))]; exact h1, by rw [upd_ne (ne_of h2 e (by intro z; cases z))]; exact h2⟩
theorem ToldsAt.same {H G : Hp} {D : Addr} {ps : List (Addr × Rec)} (s : Same H G) (h : ToldsAt H D ps) : ToldsAt G D ps := ⟨s _ _ h.ls, fun q hq => ⟨s _ _ (h.tp q hq).1, (h.tp q hq).2⟩⟩
section
variable {P : Program} {w : World} {K : PySem.W.Frag} {mg : Str → Option Value} {base : Heap} {C : Addr}
/-! ### _law_made -/
def spMade (C : Addr) : Sp := fun vs H Q _ => ∃ (D : Addr) (ps : List (Addr × Rec)), vs = [.ref D] ∧ ToldsAt H D ps ∧ ps.length ≤ 4 ∧ ∀ (a : Addr) (G : Hp) (rs : List (Addr × Rec)), H a = none → RowAt C G a rs → rs.map (·.2) = ps.map (·.2) → Same H G → Q (.ref a) G
/-! ### _law_cut -/
theorem neg_back {α : Type} (xs : List α) {h : Int} (h0 : 0 < h) : (xs.drop (HT.sIx xs.length 0 (some (-h)))).take (HT.sIx xs.length xs.length none - HT.sIx xs.length 0 (some (-h))) = xs.drop (xs.length - h.toNat) := by
  have e : HT.sIx xs.length 0 (some (-h)) = xs.length - h.toNat := by
    show (if -h < 0 then (-h + (xs.length : Int)).toNat else min (-h).toNat xs.length) = _
    rw [if_pos (by omega)]
    omega
  rw [e, HT.sIx_none, List.take_of_length_le (by rw [List.length_drop]; omega)]
theorem cutsV_snoc (ps : List (Addr × Rec)) {i : Nat} {q : Addr × Rec} (h : ps[i]? = some q) (xs : List V) :
    cutsV ((ps.take (i + 1)).map (·.2)) xs = cut q.2.l.toNat q.2.h.toNat q.2.t.toNat (ones q.2.z.cps.toList) (cutsV ((ps.take i).map (·.2)) xs) := by
  rw [List.take_add_one, h, List.map_append]
  unfold cutsV
  rw [List.foldl_append]
  rfl
def spCut : Sp := fun vs H Q _ => ∃ (D T : Addr) (ps : List (Addr × Rec)) (xs : List V), vs = [.ref D, .ref T] ∧ ToldsAt H D ps ∧ H T = some (.lst xs) ∧ xs.length ≤ 600 ∧ ∀ (U : Addr) (G : Hp), Same H G → G U = some (.lst (cutsV (ps.map (·.2)) xs)) → Q (.ref U) G
end
end Gu
namespace Gu
open PySem PySem.Spec PyProof.Rows L2
/-! ### calls by keywords alone -/
structure CalK (P : Program) (w : World) (K : PySem.W.Frag) (mg : Str → Option Value) (base : Heap) (k : Nat) (x : Str) (ks : List Str) (gV : List V → List V) (sp : Sp) : Prop where
  ex : ∃ (f : Addr) (fd : FuncData) (ps : List Str) (g : List Value → List Value), FnOk P w K mg base CX0 k f fd ps sp ∧ mg x = some (.ref f) ∧ PySem.W.keepIn K (.ref f) = true ∧ KBn K fd ps 0 ks (fun _ ws => g ws) (fun _ zs => gV zs)
theorem Cal.kw {P : Program} {w : World} {K : PySem.W.Frag} {mg : Str → Option Value} {base : Heap} {k : Nat} {x : Str} {st : Stmt} {ps ks : List Str} {sp : Sp} (g : {α : Type} → List α → List α) (c : Cal P w K mg base k x ps sp) (D : At K mg x st ps)
    (hv : ∀ {zs : List V} {ws : List Value}, Vals zs ws → Vals (g zs) (g ws))
    (hb : ∀ (kV doc pm : Value) (an : Option Addr) (cdv ct : Value) (ws : List Value), ws.length = ks.length → bindArgs (PySem.W.fnOf x x (defArgs st) (defBody st) (defScope st) .none kV doc pm an cdv ct) ⟨[], ks.zip ws⟩ = pure (ps.zip (g ws))) : CalK P w K mg base k x ks g sp := by
  obtain ⟨f, fd, F, hm, kp, b, oc, od, sl, lk⟩ := c.ex
  obtain ⟨f2, fd2, F2, b2, hm2⟩ := D.ex
  cases hm.symm.trans hm2
  obtain ⟨oc2, od2, kV, doc, pm, an, cdv, ct, sl2, e, lk2, hcd⟩ := F2.ex
  cases lk.symm.trans lk2
  refine ⟨f, fd, ps, g, F, hm, kp, ⟨fun s us ws I l1 l2 => ?_, fun _ r => hv r⟩⟩
  cases us with
  | nil =>
    rw [e]
    exact BindsTo.of_eq (hb kV doc pm an cdv ct ws l2)
  | cons u r => cases l1
def tKw (m : Nat) (gV : List V → List V) (sp : Sp) (tk : TA) : TE := fun σ H Q => tk σ H fun zs G => zs.length = m ∧ sp (gV zs) G Q E0
section
variable {X : Cx} {k j : Nat} {x : Str} {ks : List Str} {gV : List V → List V} {sp : Sp} {p pos : Pos} {kws : List Keyword} {tk : TA}
theorem pe_kw (c : CalK X.prog X.w X.K X.mg X.base k x ks gV sp) (hr : Room j X.A) (hk : k ≤ j) (hg : Gl X x) (hkw : PK X kws tk) (hall : (backToKw pos (keywordEach kws X.env)).all (·.1.isSome) = true := by rfl)
    (hks : (backToKw pos (keywordEach kws X.env)).filterMap (·.1) = ks := by rfl) (hdb : (x == ("__debug__" : Str)) = false := by decide)
    (hpl : ((backTo pos (starEach [] X.env)).any (·.1) || (backToKw pos (keywordEach kws X.env)).any (·.1.isNone)) = false := by rfl) : PE X (.Call (.Name x p) [] kws pos) (tKw ks.length gV sp tk) := by
  obtain ⟨f, fd, ps, g, F, hm, kp, b⟩ := c.ex
  refine ⟨fun pins s σ H Q I h => ?_⟩
  refine wpAny_Call_Name_kw (ld_glob I hg hm ?_ hdb)
  refine PySem.W.callWith_KW0 (h₀ := X.base) I.ok.mod.kin kp hall ?_ hpl
  refine thn (hkw.run pos pins s σ H _ I h) fun ws s2 ⟨zs, G, I2, rz, l2, q2⟩ => ⟨I2.kIn, ?_⟩
  rw [hks]
  exact run_fnN (us := []) (vs := []) F (hr.mono hk) b pass0 I2 .nil rz rfl l2 q2
end
def swap2 {α : Type} : List α → List α
  | [a, b] => [b, a]
  | l => l
theorem swap2_vals {zs : List V} {ws : List Value} (r : Vals zs ws) : Vals (swap2 zs) (swap2 ws) := by
  cases r with
  | nil => exact .nil
  | cons a r =>
    cases r with
    | nil => exact .cons a .nil
    | cons b r =>
      cases r with
      | nil => exact .cons b (.cons a .nil)
      | cons c r => exact .cons a (.cons b (.cons c r))
theorem str_ext {a b : Str} (h : a.cps.toList = b.cps.toList) : a = b := by
  cases a
  cases b
  exact congrArg Str.mk (Array.ext' h)
end Gu
namespace Gu
open PySem PySem.Spec PyProof.Rows L2
section
variable {P : Program} {w : World} {K : PySem.W.Frag} {mg : Str → Option Value} {base : Heap} {C : Addr}
theorem Ladled.row {C : Addr} {H G : Hp} {p a : Addr} {rs : List (Addr × Rec)} (L : Ladled p H G) (hp : Pot H p) (h : RowAt C H a rs) : RowAt C G a rs := by
  obtain ⟨x, y, z, e⟩ := hp
  refine ⟨L.keep _ _ h.tp (ne_of h.tp e (by intro z; cases z)), fun q hq => ⟨?_, (h.sh q hq).2⟩⟩
  obtain ⟨dx, b, h1, h2⟩ := (h.sh q hq).1
  exact ⟨dx, b, L.keep _ _ h1 (ne_of h1 e (by intro z; cases z)), L.keep _ _ h2 (ne_of h2 e (by intro z; cases z))⟩
theorem Ladled.tolds {H G : Hp} {p D : Addr} {ps : List (Addr × Rec)} (L : Ladled p H G) (n : D ≠ p) (nq : ∀ q ∈ ps, q.1 ≠ p) (h : ToldsAt H D ps) : ToldsAt G D ps := ⟨L.keep _ _ h.ls n, fun q hq => ⟨L.keep _ _ (h.tp q hq).1 (nq q hq), (h.tp q hq).2⟩⟩
/-! ### signs stay signs -/
def Signs (xs : List Nat) : Prop := ∀ c ∈ xs, c ∈ signs.cps.toList
theorem isTxt_signs {z : Str} {m : Int} (h : isTxt z m = true) : Signs z.cps.toList := by
  unfold isTxt at h
  rw [Bool.and_eq_true, List.all_eq_true] at h
  exact fun c hc => of_decide_eq_true (h.2 c hc)
theorem cut_signs {l h t : Nat} {m xs : List Nat} (hm : Signs m) (hx : Signs xs) : Signs (cut l h t m xs) := by
  unfold cut
  split
  · exact hx
  · intro c hc
    rcases List.mem_append.mp hc with hc | hc
    · rcases List.mem_append.mp hc with hc | hc
      · exact hx c (List.mem_of_mem_take hc)
      · exact hm c hc
    · exact hx c (List.mem_of_mem_drop hc)
theorem cuts_signs : ∀ (rs : List Rec) {xs : List Nat}, (∀ r ∈ rs, r.fit) → Signs xs → Signs (cuts rs xs)
  | [], _, _, h => h
  | r :: rs, xs, hf, h => cuts_signs rs (xs := r.cut xs) (fun q hq => hf q (List.mem_cons_of_mem _ hq)) (cut_signs (isTxt_signs (hf r (List.mem_cons_self ..)).z) h)
theorem signs_ok {y : Str} (h : Signs y.cps.toList) : (PyData.str y).canLay0 = true := by
  have a : ∀ c ∈ signs.cps.toList, c < 0x110000 := by decide +kernel
  show y.cps.all _ = true
  rw [← Array.all_toList, List.all_eq_true]
  exact fun c hc => decide_eq_true (a c (h c hc))
theorem shaped_two {y z : Str} (hy : Signs y.cps.toList) (hz : Signs z.cps.toList) : SeqAt.shaped (.list [.str y, .str z]) = true := by
  have a := signs_ok hy
  have b := signs_ok hz
  show ((PyData.str y).canLay0 && ((PyData.str z).canLay0 && true) && true) = true
  rw [a, b]
  rfl
end
end Gu
namespace Gu
open PySem PySem.Spec PyProof.Rows L2
/-! ### tuples: cut, joined, made of a text -/
section
variable {K : PySem.W.Frag} {H : Hp} {a b : Addr} {xs ys : List V} {Q : VK}
theorem cat_ok (ha : H a = some (.tup xs)) (hb : H b = some (.tup ys)) (hl : xs.length + ys.length ≤ sizeLine) (q : ∀ U G, Same H G → G U = some (.tup (xs ++ ys)) → Q (.ref U) G) : rCatA K (.ref a) (.ref b) H Q := by
  refine ⟨a, b, xs, ys, rfl, rfl, .inl (.inl ha), .inl (.inl hb), hl, fun e => q b H (Same.refl H) ?_, fun _ e => q a H (Same.refl H) ?_, fun _ _ p np => q p _ (same_new np) upd_same⟩
  · rw [e]
    exact hb
  · rw [e, List.append_nil]
    exact ha
theorem sl_ok {lo hi : Option Int} (ha : H a = some (.tup xs)) (q : ∀ U G, Same H G → G U = some (.tup (cutV xs lo hi)) → Q (.ref U) G) : rSlA K (.ref a) lo hi H Q := by
  refine ⟨a, xs, rfl, .inl (.inl ha), fun ⟨e1, e2⟩ => q a H (Same.refl H) ?_, fun _ p np => q p _ (same_new np) upd_same⟩
  unfold cutV
  rw [e1, e2, List.drop_zero, Nat.sub_zero, List.take_length]
  exact ha
end
theorem noPart {σ : L2.St} {H : Hp} {Q : Option Int → Hp → Prop} (h : Q none H) : tNoPart σ H Q := h
theorem call_tupS {X : Cx} (hc : X.calm = true) : CallR X (.type "tuple") (fun vs H Q => ∃ z : Str, vs = [.str z] ∧ z.cps.toList.length ≤ 1000 ∧ ∀ q, H q = none → Q (.ref q) (upd H q (.tup (ones z.cps.toList)))) := by
  intro pins s σ H vs us Q I r h
  obtain ⟨z, rfl, hz, q⟩ := h
  cases r with
  | cons r rr =>
    cases rr
    obtain ⟨t, rfl⟩ := r
    have zs : z.cps.size ≤ sizeLine := Nat.le_of_lt (small1000 hz)
    refine call_tuple_str (I.ok.hd hc) z t (fun g tk acc keep its => ?_) zs
    have I2 : Inv X pins σ H { s with heap := g, toks := tk } := I.kept keep
    have rel : Vals (ones z.cps.toList) acc.toList := by
      have el : acc.toList.length = z.cps.toList.length := its.1
      have e : ones z.cps.toList = (List.range acc.toList.length).map fun j => V.str (one (z.cps.toList.getD j 0)) := by
        unfold ones
        rw [el]
        refine List.ext_getElem? fun j => ?_
        rw [List.getElem?_map, List.getElem?_map]
        by_cases hj : j < z.cps.toList.length
        · rw [List.getElem?_eq_getElem hj, List.getElem?_range hj]
          show some (V.str (one z.cps.toList[j])) = some (V.str (one (z.cps.toList.getD j 0)))
          rw [List.getD_eq_getElem?_getD, List.getElem?_eq_getElem hj]
          rfl
        · rw [List.getElem?_eq_none (by omega), List.getElem?_eq_none (by rw [List.length_range]; omega)]
          rfl
      rw [e]
      refine vals_of_get acc.toList _ fun j u hj => ?_
      obtain ⟨c, tt, hc1, rfl⟩ := its.2 j u (by rw [← hj, Array.getElem?_toList])
      refine ⟨tt, ?_⟩
      rw [List.getD_eq_getElem?_getD, Array.getElem?_toList, hc1]
      rfl
    refine ⟨.ref g.objs.size, upd H g.objs.size (.tup (ones z.cps.toList)), I2.laid (t' := tk) (fun c o e => Heap.get?_push_of_some _ e) (Nat.le_refl _) (show ObjOk X.prog X.w _ _ _ (.tup (ones z.cps.toList)) from ⟨?_, acc.toList, rel, ?_⟩), rfl, q _ (I2.hok.fresh (Nat.le_refl _))⟩
    · unfold ones
      rw [List.length_map]
      exact zs
    · rw [Array.toArray_toList]
      exact IsTup.new _ _
def rLenK (K : PySem.W.Frag) : List V → Hp → VK → Prop := fun xs H Q => ∃ (x : V) (n : Nat), xs = [x] ∧ LenV K x H n ∧ Q (.int n) H
/-! ### lengths of what is cut -/
def Rec.len (r : Rec) (n : Nat) : Nat := if n ≤ r.l.toNat then n else min r.h.toNat n + r.z.cps.toList.length + min r.t.toNat n
def lens (rs : List Rec) (n : Nat) : Nat := rs.foldl (fun n r => r.len n) n
theorem cut_len (r : Rec) (xs : List V) : (cut r.l.toNat r.h.toNat r.t.toNat (ones r.z.cps.toList) xs).length = r.len xs.length := by
  unfold cut Rec.len
  split
  · rfl
  · rw [List.length_append, List.length_append, List.length_take, List.length_drop]
    unfold ones
    rw [List.length_map]
    omega
theorem cutsV_length : ∀ (rs : List Rec) (xs : List V), (cutsV rs xs).length = lens rs xs.length
  | [], _ => rfl
  | r :: rs, xs => by
    show (cutsV rs (cut r.l.toNat r.h.toNat r.t.toNat (ones r.z.cps.toList) xs)).length = lens rs (r.len xs.length)
    rw [cutsV_length rs, cut_len]
theorem Rec.fit.len_le {r : Rec} (f : r.fit) {n : Nat} (h : n ≤ 500) : r.len n ≤ 500 := by
  have a := f.zl
  have b := f.h
  have c := f.t
  unfold Rec.len
  split <;> omega
theorem lens_le : ∀ (rs : List Rec) {n : Nat}, (∀ r ∈ rs, r.fit) → n ≤ 500 → lens rs n ≤ 500
  | [], _, _, h => h
  | r :: rs, n, hf, h => lens_le rs (n := r.len n) (fun q hq => hf q (List.mem_cons_of_mem _ hq)) ((hf r (List.mem_cons_self ..)).len_le h)
/-- from 41 signs on all is as for 41 -/
theorem lens_far {rs : List Rec} (hf : ∀ r ∈ rs, r.fit) (h1 : 1 ≤ rs.length) {n : Nat} (h : 41 ≤ n) : lens rs n = lens rs 41 := by
  cases rs with
  | nil => cases h1
  | cons r rs =>
    have f := hf r (List.mem_cons_self ..)
    have a := f.l
    have b := f.h
    have c := f.t
    have e : r.len n = r.len 41 := by
      unfold Rec.len
      rw [if_neg (by omega), if_neg (by omega)]
      omega
    show lens rs (r.len n) = lens rs (r.len 41)
    rw [e]
section
variable {P : Program} {w : World} {K : PySem.W.Frag} {mg : Str → Option Value} {base : Heap} {C : Addr}
/-! ### shortened: of a tuple -/
def spShortT (C : Addr) : Sp := fun vs H Q _ => ∃ (x W M : Addr) (r : Rec) (xs : List V), vs = [.ref x, .ref W, .ref M] ∧ ShAt C H x r ∧ r.fit ∧ H W = some (.tup xs) ∧ xs.length ≤ 1000 ∧ H M = some (.tup (ones r.z.cps.toList)) ∧
  ∀ U G, Same H G → G U = some (.tup (cut r.l.toNat r.h.toNat r.t.toNat (ones r.z.cps.toList) xs)) → Q (.ref U) G
theorem cal_shortT (B : Bi mg) (S : ShC K mg C) (D : At K mg "shortened" s_shortened ps_shortened) : Cal P w K mg base 1 "shortened" ps_shortened (spShortT C) := by
  refine D.cal sc_shortened (fun vs H Q E h => ?_) (fun f cdv A outer s H vs Q E hr h => ?_)
  · obtain ⟨x, W, M, r, xs, rfl, _⟩ := h
    rfl
  · obtain ⟨x, W, M, r, xs, rfl, ⟨dx, b, hx, _⟩, fit, hW, xl, hM, k⟩ := h
    have f1 := fit.l
    have f2 := fit.h
    have f3 := fit.t
    have f4 := fit.zl
    have ol : (ones r.z.cps.toList).length = r.z.cps.toList.length := by
      unfold ones
      rw [List.length_map]
    refine ⟨_, (pss_cons (ps_if (pt_cmpR op_le (pe_callB call_len (by rfl) B.len (by decide +kernel) (pa_cons (pv 1) pa_nil)) (pe_fld (pv 0) rfl) (nomark _)) (pss_one (ps_ret (pv 1))) pss_nil)
      (pss_cons (ps_set (i := 3) sc_shortened.nd rfl (.inl rfl) (pe_callB (call_max2 rfl) (by rfl) B.max (by decide +kernel) (pa_cons pe_int (pa_cons (pe_op op_sub (pe_callB call_len (by rfl) B.len (by decide +kernel) (pa_cons (pv 1) pa_nil)) (pe_fld (pv 0) rfl)) pa_nil))))
      (pss_one (ps_ret (pe_op op_catA (pe_op op_catA (pe_slice sl_tupA (pv 1) po_none (po_some (pe_fld (pv 0) rfl))) (pv 2)) (pe_slice sl_tupA (pv 1) (po_some (pv 3)) po_none)))))), ?_⟩
    refine ⟨_, rfl, _, _, rfl, .inr ⟨_, .inl (.inl hW), rfl⟩, _, rfl, x, C, dx, _, _, rfl, hx, S.cl, S.nL, flds_limit _ _, _, _, rfl, rfl, _, rfl, ite2 (fun e => ?_) (fun e => ?_)⟩
    · have e1 := of_decide_eq_true e
      refine ⟨_, rfl, k W H (Same.refl H) ?_⟩
      unfold cut
      rw [if_pos (by omega)]
      exact hW
    · have e1 : ¬ (xs.length : Int) ≤ r.l := fun h => e (decide_eq_true h)
      refine ⟨_, rfl, _, _, rfl, .inr ⟨_, .inl (.inl hW), rfl⟩, _, rfl, x, C, dx, _, _, rfl, hx, S.cl, S.nT, flds_tail _ _, _, _, rfl, rfl, _, _, rfl, ?_⟩
      refine ⟨_, rfl, _, rfl, x, C, dx, _, _, rfl, hx, S.cl, S.nH, flds_head _ _, _, rfl, sl_ok hW fun U1 G1 s1 e1 => ?_⟩
      have c1 : cutV xs none (some r.h) = xs.take r.h.toNat := cut_front xs f2.1
      rw [c1] at e1
      refine ⟨_, rfl, cat_ok e1 (s1 _ _ hM) (Nat.le_of_lt (Nat.lt_of_le_of_lt (show _ ≤ 2000 by rw [List.length_take]; omega) (by decide))) fun U2 G2 s2 e2 => ?_⟩
      refine ⟨_, rfl, _, rfl, _, rfl, ?_⟩
      refine noPart ?_
      refine sl_ok (s2 _ _ (s1 _ _ hW)) fun U3 G3 s3 e3 => ?_
      have c3 : cutV xs (some (if (xs.length : Int) - r.t > 0 then (xs.length : Int) - r.t else 0)) none = xs.drop (xs.length - r.t.toNat) := by
        have q := cut_back xs (h := if (xs.length : Int) - r.t > 0 then (xs.length : Int) - r.t else 0) (by split <;> omega)
        have n : (if (xs.length : Int) - r.t > 0 then (xs.length : Int) - r.t else 0).toNat = xs.length - r.t.toNat := by split <;> omega
        rw [n] at q
        exact q
      rw [c3] at e3
      refine cat_ok (s3 _ _ e2) e3 (Nat.le_of_lt (Nat.lt_of_le_of_lt (show _ ≤ 4000 by rw [List.length_append, List.length_take, List.length_drop]; omega) (by decide))) fun U4 G4 s4 e4 => k U4 G4 (s1.trans (s2.trans (s3.trans s4))) ?_
      rw [e4]
      unfold cut
      rw [if_neg (show ¬ xs.length ≤ r.l.toNat by omega)]
/-! ### planned, check_length, plan, widest -/
theorem cutsV_snoc' (rs : List (Addr × Rec)) {i : Nat} {q : Addr × Rec} (h : rs[i]? = some q) (xs : List V) :
    cutsV ((rs.take (i + 1)).map (·.2)) xs = cut q.2.l.toNat q.2.h.toNat q.2.t.toNat (ones q.2.z.cps.toList) (cutsV ((rs.take i).map (·.2)) xs) := cutsV_snoc rs h xs
def spPlanned (C : Addr) : Sp := fun vs H Q _ => ∃ (a : Addr) (n : Nat) (rs : List (Addr × Rec)), vs = [.ref a, .int (n : Int)] ∧ RowAt C H a rs ∧ n ≤ 500 ∧ ∀ U G, Same H G → G U = some (.tup (cutsV (rs.map (·.2)) (rgV 0 n))) → Q (.ref U) G
theorem cal_planned (B : Bi mg) (S : ShC K mg C) (D : At K mg "planned" s_planned ps_planned) (C_shortened : Cal P w K mg base 1 "shortened" ps_shortened (spShortT C)) : Cal P w K mg base 2 "planned" ps_planned (spPlanned C) := by
  refine D.cal sc_planned (fun vs H Q E h => ?_) (fun f cdv A outer s H vs Q E hr h => ?_)
  · obtain ⟨a, n, rs, rfl, _⟩ := h
    rfl
  · obtain ⟨a, n, rs, rfl, hR, hn, k⟩ := h
    refine ⟨_, (pss_cons (ps_set (i := 2) sc_planned.nd rfl (.inl rfl) (pe_tupRg (by rfl) (by rfl) B.tuple (prg_1 (by rfl) B.range (pv 1))))
      (pss_cons (ps_for PassesOwn.never rfl (pi_tup (pv 0)) (pg_name (i := 3) sc_planned.nd rfl (.inl rfl))
      (pss_one (ps_set (i := 2) sc_planned.nd rfl (.inl rfl) (pe_own C_shortened hr (by decide) (by rfl) (pa_cons (pv 3) (pa_cons (pv 2) (pa_cons (pe_callTy (call_tupS rfl) (by rfl) B.tuple (by decide +kernel) (pa_cons (pe_fld (pv 3) rfl) pa_nil)) pa_nil)))))))
      (pss_one (ps_ret (pv 2))))), ?_⟩
    refine ⟨_, rfl, _, rfl, RgOk.of_le (by omega) (by omega) (by omega) (by omega), fun T nT => ?_⟩
    have s0 : Same H (upd H T (.tup (rgV 0 n))) := same_new nT
    have R0 := hR.same s0
    refine ⟨_, rfl, a, rfl, ⟨_, .inl (.inl R0.tp)⟩, for_tup (K := K) (a := a) (xs := rs.map fun q => V.ref q.1) (fun i σ J => ∃ (U : Addr) (u : Option V), σ = [some (.ref a), some (.int (n : Int)), some (.ref U), u] ∧ Same H J ∧ J U = some (.tup (cutsV ((rs.take i).map (·.2)) (rgV 0 n))))
      ⟨T, none, rfl, s0, upd_same⟩ (fun i σ J _ ⟨_, _, _, sJ, _⟩ => .inl (.inl (sJ _ _ hR.tp))) ?_ ?_⟩
    · rintro i v σ J hi ⟨U, u, rfl, sJ, eU⟩
      rw [List.getElem?_map] at hi
      cases hq : rs[i]? with
      | none =>
        rw [hq] at hi
        cases hi
      | some q =>
        rw [hq] at hi
        cases hi
        obtain ⟨sq, fq⟩ := (hR.same sJ).sh q (List.mem_of_getElem? hq)
        obtain ⟨dx, b, e1, e2⟩ := id sq
        refine ⟨_, rfl, _, rfl, _, rfl, q.1, C, dx, _, _, rfl, e1, S.cl, S.nM, flds_mark _ _, q.2.z, rfl, by have := fq.zl; omega, fun M nM => ?_⟩
        have s1 : Same J (upd J M (.tup (ones q.2.z.cps.toList))) := same_new nM
        refine ⟨q.1, U, M, q.2, _, rfl, sq.same s1, fq, s1 _ _ eU, ?_, upd_same, fun U2 G s2 e3 => ⟨U2, _, rfl, sJ.trans (s1.trans s2), ?_⟩⟩
        · rw [cutsV_length]
          have := lens_le ((rs.take i).map (·.2)) (n := (rgV 0 n).length) (fun r hr => by
            obtain ⟨p, hp, rfl⟩ := List.mem_map.mp hr
            exact (hR.sh p (List.mem_of_mem_take hp)).2) (by rw [rgV_length]; omega)
          omega
        · rw [e3, cutsV_snoc' rs hq]
    · rintro σ J ⟨U, u, rfl, sJ, eU⟩
      rw [List.length_map, List.take_length] at eU
      exact ⟨_, rfl, k U J sJ eU⟩
def spCheckLength : Sp := fun vs H Q _ => ∃ (n : Nat), vs = [.int (n : Int)] ∧ n ≤ 500 ∧ Q .non H
theorem cal_checkLength (B : Bi mg) (D : At K mg "check_length" s_check_length ps_check_length) (C_is_integer : Cal P w K mg base 1 "is_integer" ps_is_integer (spIsInteger K)) : Cal P w K mg base 2 "check_length" ps_check_length spCheckLength := by
  refine D.cal sc_check_length (fun vs H Q E h => ?_) (fun f cdv A outer s H vs Q E hr h => ?_)
  · obtain ⟨n, rfl, _⟩ := h
    rfl
  · obtain ⟨n, rfl, hn, k⟩ := h
    refine ⟨_, (pss_one (ps_if (pt_not (pt_val (pe_own C_is_integer hr (by decide) (by rfl) (pa_cons (pv 0) (pa_cons pe_int (pa_cons (pe_cst B.MOST_LENGTH (by rfl)) pa_nil)))))) pss_never pss_nil)), ?_⟩
    refine ⟨_, rfl, _, _, _, rfl, .inl ⟨_, rfl, _, rfl, ?_⟩⟩
    rw [decide_eq_true (show (0 : Int) ≤ (n : Int) ∧ (n : Int) ≤ 500 by omega)]
    exact iteF k
def spPlan (C : Addr) : Sp := fun vs H Q _ => ∃ (a : Addr) (n : Nat) (rs : List (Addr × Rec)), vs = [.ref a, .int (n : Int)] ∧ RowAt C H a rs ∧ 1 ≤ rs.length ∧ rs.length ≤ 4 ∧ n ≤ 500 ∧ ∀ U G, Same H G → G U = some (.tup (cutsV (rs.map (·.2)) (rgV 0 n))) → Q (.ref U) G
def wides (rs : List Rec) (n : Nat) : List Int := (List.range n).map fun i => (lens rs i : Int)
def Top (m : Int) (ns : List Int) : Prop := m ∈ ns ∧ ∀ y ∈ ns, y ≤ m
theorem Top.one {m k : Int} {ns : List Int} (a : Top m ns) (b : Top k ns) : m = k := Int.le_antisymm (b.2 m a.1) (a.2 k b.1)
theorem wides_top {rs : List Rec} (hf : ∀ r ∈ rs, r.fit) (h1 : 1 ≤ rs.length) {m : Int} {n : Nat} (hn : 42 ≤ n) (h : Top m (wides rs 42)) : Top m (wides rs n) := by
  obtain ⟨a, b⟩ := h
  unfold wides at a b ⊢
  obtain ⟨i, hi, rfl⟩ := List.mem_map.mp a
  refine ⟨List.mem_map.mpr ⟨i, List.mem_range.mpr (by have := List.mem_range.mp hi; omega), rfl⟩, fun y hy => ?_⟩
  obtain ⟨j, hj, rfl⟩ := List.mem_map.mp hy
  by_cases hj2 : j < 42
  · exact b _ (List.mem_map.mpr ⟨j, List.mem_range.mpr hj2, rfl⟩)
  · rw [lens_far hf h1 (show 41 ≤ j by omega)]
    exact b _ (List.mem_map.mpr ⟨41, List.mem_range.mpr (by decide), rfl⟩)
def spWidest (C : Addr) : Sp := fun vs H Q _ => ∃ (a : Addr) (rs : List (Addr × Rec)), vs = [.ref a] ∧ RowAt C H a rs ∧ 1 ≤ rs.length ∧ rs.length ≤ 4 ∧ ∀ m G, Same H G → Top m (wides (rs.map (·.2)) 42) → Q (.int m) G
end
end Gu
namespace Gu
open PySem PySem.Spec PyProof.Rows L2 LamX
/-! ### heaps with tables -/
/-- all but tables stands -/
def SameN (H G : Hp) : Prop := ∀ c o, H c = some o → (∀ ps, o ≠ .tbl ps) → G c = some o
theorem SameN.refl (H : Hp) : SameN H H := fun _ _ e _ => e
theorem SameN.trans {H G J : Hp} (a : SameN H G) (b : SameN G J) : SameN H J := fun c o e n => b c o (a c o e n) n
theorem Same.n {H G : Hp} (a : Same H G) : SameN H G := fun c o e _ => a c o e
theorem SameN.lst {H G : Hp} (s : SameN H G) {a : Addr} {xs : List V} (h : H a = some (.lst xs)) : G a = some (.lst xs) := s _ _ h fun _ z => by cases z
theorem SameN.tup {H G : Hp} (s : SameN H G) {a : Addr} {xs : List V} (h : H a = some (.tup xs)) : G a = some (.tup xs) := s _ _ h fun _ z => by cases z
theorem SameN.xd {H G : Hp} (s : SameN H G) {a : Addr} {xs : List (Str × V)} (h : H a = some (.xd xs)) : G a = some (.xd xs) := s _ _ h fun _ z => by cases z
theorem SameN.ins {H G : Hp} (s : SameN H G) {a C dx : Addr} {fs : List (Str × V)} (h : H a = some (.ins C dx fs)) : G a = some (.ins C dx fs) := s _ _ h fun _ z => by cases z
theorem SameN.sys {H G : Hp} (s : SameN H G) (h : Sys H) : Sys G := by
  obtain ⟨o, u, e⟩ := h
  exact ⟨o, u, s _ _ e fun _ z => by cases z⟩
theorem SameN.sqT {K : PySem.W.Frag} {H G : Hp} {a : Addr} {xs : List V} (s : SameN H G) (h : SqT K H a xs) : SqT K G a xs := by
  rcases h with (h | ⟨o, h⟩) | h
  · exact .inl (.inl (s.tup h))
  · exact .inl (.inr ⟨o, s _ _ h fun _ z => by cases z⟩)
  · exact .inr h
theorem SameN.sqL {K : PySem.W.Frag} {H G : Hp} {a : Addr} {xs : List V} (s : SameN H G) (h : SqL K H a xs) : SqL K G a xs := by
  rcases h with (h | ⟨o, h⟩) | h
  · exact .inl (.inl (s.lst h))
  · exact .inl (.inr ⟨o, s _ _ h fun _ z => by cases z⟩)
  · exact .inr h
mutual
theorem DpE.sameN {K : PySem.W.Frag} {H G : Hp} (s : SameN H G) : ∀ {v : V} {d : PyData}, DpE K H v d → DpE K G v d
  | _, _, .non => .non
  | _, _, .bl b => .bl b
  | _, _, .int i => .int i
  | _, _, .str x => .str x
  | _, _, .lst h a => .lst (s.lst h) (DpEs.sameN s a)
  | _, _, .tup h a => .tup (s.sqT h) (DpEs.sameN s a)
  | _, _, .dict h => .dict (s _ _ h fun _ z => by cases z)
theorem DpEs.sameN {K : PySem.W.Frag} {H G : Hp} (s : SameN H G) : ∀ {vs : List V} {ds : List PyData}, DpEs K H vs ds → DpEs K G vs ds
  | _, _, .nil => .nil
  | _, _, .cons a b => .cons (DpE.sameN s a) (DpEs.sameN s b)
end
/-- from H to G the pot at p may have changed and tables may have grown, the rest stands -/
structure LadT (T : List (Addr × Str)) (p : Addr) (H G : Hp) : Prop where
  pot : Pot G p
  keep : ∀ c o, H c = some o → c ≠ p → (∀ ps, o ≠ .tbl ps) → G c = some o
  tabs : Tabs T G
  sys : Sys G
/-! ### defs that make lambdas -/
structure AtC (K : PySem.W.Frag) (mg : Str → Option Value) (x : Str) (st : Stmt) (ps : List Str) (c : Addr) : Prop where
  ex : ∃ (f : Addr) (fd : FuncData), Fun K x x st f fd ∧ Binds K fd ps [] ∧ mg x = some (.ref f) ∧ fd.code = .ref c
section
variable {P : Program} {w : World} {K : PySem.W.Frag} {mg : Str → Option Value} {base : Heap}
theorem okGT {x qual : Str} {st : Stmt} {f c : Addr} {fd : FuncData} {N ps : List Str} {k : Nat} {sp : Sp} (F : Fun K x qual st f fd) (hc : fd.code = .ref c) (S : FnScope N ps (defScope st)) (len : ∀ vs H Q E, sp vs H Q E → vs.length = ps.length)
    (body : ∀ (A : Around) (outer : List Env) (s : Shared) (H : Hp) (vs : List V) (Q : VK) (E : XK), Room k (A.deeper (envOfC qual (defScope st) s.heap.objs.size f (.ref c))) → A.guards = some [] → sp vs H Q E →
      ∃ t, PSs (cxOf CX0 P w K mg base N qual (defScope st) f (.ref c) A outer s H E).nox (defBody st) t ∧ t { nx := fun _ G => Q .non G, rt := Q } (start N vs) H) : FnG P w K mg base (k + 1) f fd ps sp := by
  obtain ⟨oc, od, kV, doc, pm, an, cdv, ct, osl, rfl, lk, hcd⟩ := F.ex
  obtain rfl : cdv = .ref c := hc
  refine ⟨len, fun A outer s H args us vs Q E room quiet env binds rel want => ?_⟩
  have stays : ∀ b o, base.get? b = some o → s.heap.get? b = some o := fun b o e => (env.bs b o e).1
  have inK : K.In s.heap := env.mod.kin.keeps stays
  have free : s.heap.NoLimit := env.mod.nolimit.keeps stays
  refine codeAny_call_function room.depth (inK _ _ lk) rfl S.co S.gen rfl (PySem.W.codeRec_of inK hcd) (binds _ _ _ _ ?_)
  refine wpAny_newFunctionEnv_cells S.kind (fun ⟨n, v⟩ hy => (S.par n (List.of_mem_zip hy).1).imp id fun q => ⟨q, PySem.W.cellsFrom_some _ _ _ (.inl q)⟩) fun env1 e1 s1 c1 => ?_
  subst e1
  refine ⟨free.keeps c1.toInCall.keep, codeAny_func ?_⟩
  obtain ⟨t, d, q⟩ := body A outer s H vs Q E (room.deeper _) quiet want
  refine wpAny_mono (d.nox.run [] s1 (start N vs) H _ (inv_start S room.hd env (len _ _ _ _ want) rel c1) q) (fun fl s2 h2 => ?_) fun e s2 h2 => h2
  cases fl with
  | ret u =>
    obtain ⟨v, σ2, G, J, rv, r⟩ := h2
    exact ⟨v, G, J.os, J.bare, J.base, J.hok, rv, r⟩
  | next =>
    obtain ⟨σ2, G, J, r⟩ := h2
    exact ⟨V.non, G, J.os, J.bare, J.base, J.hok, rfl, r⟩
  | brk => exact (h2.choose_spec.choose_spec.2 : False).elim
  | cont => exact (h2.choose_spec.choose_spec.2 : False).elim
theorem AtC.calG {x : Str} {st : Stmt} {N ps : List Str} {k : Nat} {sp : Sp} {c : Addr} (D : AtC K mg x st ps c) (S : FnScope N ps (defScope st)) (len : ∀ vs H Q E, sp vs H Q E → vs.length = ps.length)
    (body : ∀ (f : Addr) (A : Around) (outer : List Env) (s : Shared) (H : Hp) (vs : List V) (Q : VK) (E : XK), Room k (A.deeper (envOfC x (defScope st) s.heap.objs.size f (.ref c))) → A.guards = some [] → sp vs H Q E →
      ∃ t, PSs (cxOf CX0 P w K mg base N x (defScope st) f (.ref c) A outer s H E).nox (defBody st) t ∧ t { nx := fun _ G => Q .non G, rt := Q } (start N vs) H) : CalG P w K mg base (k + 1) x ps sp := by
  obtain ⟨f, fd, F, b, g, hc⟩ := D.ex
  exact ⟨f, fd, okGT F hc S len (body f), g, F.kp, b⟩
/-! ### defs that may raise -/
structure CalX (P : Program) (w : World) (K : PySem.W.Frag) (mg : Str → Option Value) (base : Heap) (k : Nat) (x : Str) (ps : List Str) (sp : Sp) : Prop where
  ex : ∃ (f : Addr) (fd : FuncData), FnOk P w K mg base (L2.CX P w) k f fd ps sp ∧ mg x = some (.ref f) ∧ PySem.W.keepIn K (.ref f) = true ∧ Binds K fd ps [] ∧ ∃ oc od sl, K.lookup f = some ⟨oc, od, .func fd, sl⟩
theorem At.calX {x : Str} {st : Stmt} {N ps : List Str} {k : Nat} {sp : Sp} (D : At K mg x st ps) (S : FnScope N ps (defScope st)) (len : ∀ vs H Q E, sp vs H Q E → vs.length = ps.length)
    (body : ∀ (f : Addr) (cdv : Value) (A : Around) (outer : List Env) (s : Shared) (H : Hp) (vs : List V) (Q : VK) (E : XK), Room k (A.deeper (envOfC x (defScope st) s.heap.objs.size f cdv)) → sp vs H Q E →
      ∃ t, PSs (cxOf (L2.CX P w) P w K mg base N x (defScope st) f cdv A outer s H E) (defBody st) t ∧ t { nx := fun _ G => Q .non G, rt := Q } (start N vs) H) : CalX P w K mg base (k + 1) x ps sp := by
  obtain ⟨f, fd, F, b, g⟩ := D.ex
  obtain ⟨oc, od, kV, doc, pm, an, cdv, ct, osl, e, lk, hcd⟩ := F.ex
  exact ⟨f, fd, F.okX S len (body f), g, F.kp, b, oc, od, osl, lk⟩
structure MakX (P : Program) (w : World) (K : PySem.W.Frag) (mg : Str → Option Value) (base : Heap) (k : Nat) (x : Str) (C : Addr) (sp : Sp) : Prop where
  ex : ∃ (f : Addr) (fd : FuncData) (ps : List Str), Mk K C f ∧ FnOk P w K mg base (L2.CX P w) k f fd ps sp ∧ mg x = some (.ref C) ∧ Binds K fd ps []
end
section
variable {X : Cx} {k j : Nat} {x : Str} {ps : List Str} {sp : Sp} {p pos : Pos} {e : Expr} {es : List Expr} {t : TA} {E : XK} {W : WX} {C : Addr}
theorem pe_ownX (c : CalX X.prog X.w X.K X.mg X.base k x ps sp) (hr : Room j X.A) (hk : k ≤ j) (tk : Takes X W) (hW : ∀ cls d σ H, E cls d H → W cls d σ H) (hg : Gl X x) (ha : PA X (e :: es) t)
    (hdb : (x == ("__debug__" : Str)) = false := by decide) (he : starEach (e :: es) X.env = (false, eval e X.env) :: starEach es X.env := by rfl) (hpl : (backTo pos (starEach es X.env)).any (·.1) = false := by rfl) :
    PE X (.Call (.Name x p) (e :: es) [] pos) (tCall sp [] E t) := by
  obtain ⟨f, fd, F, hm, kp, b, _⟩ := c.ex
  exact pe_call F (hr.mono hk) hg hm kp b .nil (passes_call tk hW) ha hdb he hpl
theorem pe_newX (c : MakX X.prog X.w X.K X.mg X.base k x C sp) (hr : Room j X.A) (hk : k + 1 ≤ j) (tk : Takes X W) (hW : ∀ cls d σ H, E cls d H → W cls d σ H) (hg : Gl X x) (ha : PA X (e :: es) t)
    (hdb : (x == ("__debug__" : Str)) = false := by decide) (he : starEach (e :: es) X.env = (false, eval e X.env) :: starEach es X.env := by rfl) (hpl : (backTo pos (starEach es X.env)).any (·.1) = false := by rfl) :
    PE X (.Call (.Name x p) (e :: es) [] pos) (tMake C sp [] E t) := by
  obtain ⟨f, fd, ps, M, F, hm, b⟩ := c.ex
  exact pe_make M F (hr.mono hk) hg hm b .nil (passes_call tk hW) ha hdb he hpl
end
/-! ### x(lambda: body) -/
section
variable {X : Cx}
theorem pe_lamE {T : List (Addr × Str)} {TT : (XK → Hp → VK → Prop) → Hp → VK → Prop} {x a : Str} {c P : Addr} {k j : Nat} {st : Stmt} {Ng : List Str} {params : Arguments} {body : Expr} {scope : Scope} {t : XK → TE} {p lpos pos : Pos} (D : At X.K X.mg x st [a]) (S : FnScope Ng [a] (defScope st))
    (hG : ∀ (g : Addr) (cdv : Value), GivesTo X Ng x (defScope st) g cdv (defBody st) a (X.env.qual ++ "<lambda>") TT) (TB : TabB X.base X.mg c P) (hr : Room j X.A) (hk : k + 2 ≤ j) (hg : Gl X x) (hNg : Ng[0]? = some a) (hva : Vis (defScope st) a) (hcode : X.env.code = .ref c) (hmT : (P, X.env.qual ++ "<lambda>") ∈ T) (hu : ∀ p ∈ T, p.1 = P → p.2 = X.env.qual ++ "<lambda>") (L : LamS X.env.scope scope) (hdef : defaultsOf params X.env = ([], []))
    (hbind : ∀ (q : Str) (cl : List (Str × Addr)) (pm cv ctv : Value), bindArgs (PySem.W.kla_fn "<lambda>" q params body scope cl pm cv ctv) ⟨[], []⟩ = pure [])
    (hbody : ∀ (A : Around) (outer : List Env) (s : Shared) (H : Hp) (E : XK) (f c' : Addr), Room k (A.deeper (lamEnv X scope s.heap.objs.size f c')) → PE (lamCx X A outer s H E scope f c') body (t E))
    (hdb : (x == ("__debug__" : Str)) = false := by decide) (hd : (a == ("__debug__" : Str)) = false := by decide) (hcd : (a == ("__classdict__" : Str)) = false := by decide) :
    PE X (.Call (.Name x p) [.Lambda params body scope lpos] [] pos) (tLam T TT t) := by
  obtain ⟨g, fd, F, b, hm⟩ := D.ex
  obtain ⟨oc, od, kV, doc, pm, an, cdv, ct, osl, rfl, lk, hcg⟩ := F.ex
  exact pe_lamcall (k := k) hg hm F.kp lk hcg b S hNg hva (hG g cdv) TB hcode hmT hu (hr.mono hk) L hdef hbind hbody hdb hd hcd
end
end Gu
namespace Gu
open PySem PySem.Spec PyProof.Rows L2 LamX
/-- what _law_ended makes of what it is handed -/
def Ended (hs : List (Str × Str × Addr)) (Q : VK) : XK := fun cls d G => ∃ (N Fl : Str) (C dd : Addr) (v : V), (N, Fl, C) ∈ hs ∧ cls = .ref C ∧ d = some dd ∧ G dd = some (.xd [(Fl, v)]) ∧ ∀ p J, Same G J → J p = some (.lst [.str N, v, .bl true]) → Q (.ref p) J
def TEnd (hs : List (Str × Str × Addr)) : (XK → Hp → VK → Prop) → Hp → VK → Prop := fun tl H Q => ∃ (E1 : XK) (Q1 : VK), tl E1 H Q1 ∧ (∀ cls d G, E1 cls d G → Ended hs Q cls d G) ∧ ∀ v G, Q1 v G → ∀ p J, Same G J → J p = some (.lst [.str "given", v]) → Q (.ref p) J
set_option maxHeartbeats 4000000 in
theorem ended_gives {X : Cx} {q : Str} {g U C0 C1 : Addr} {cdg : Value} (B : Bi X.mg) (UI : UpK X.K X.mg bVE "InputError" U) (T0 : ErrK X.K X.mg bVE U "InvalidLength" C0) (S0 : ErrF X.K "InvalidLength" "value" C0) (T1 : ErrK X.K X.mg bVE U "InvalidViews" C1) (S1 : ErrF X.K "InvalidViews" "index" C1) :
    GivesTo X ["_law_ask", "_law_given", "e"] "_law_ended" (defScope s_law_ended) g cdg (defBody s_law_ended) "_law_ask" q (TEnd [("InvalidLength", "value", C0), ("InvalidViews", "index", C1)]) := by
  intro f c' s H Q tl act hc h
  refine ⟨_, pss_cons (ps_try_manyA (i := 2) (tb := fun W D σ H => ∃ Ech : XK, (∀ cls d σ1 G, Ech cls d G → W cls d σ1 G) ∧ σ[0]? = some (some (.ref f)) ∧ H c' = some (CodeO c' q) ∧ ∃ Q1 : VK, tl Ech H Q1 ∧ ∀ v G, Q1 v G → D.nx (σ.set 1 (some v)) G) (Wout := fun _ _ _ _ => False) rfl rfl sc_law_ended.nd rfl rfl L2.takes0
      (fun W pn xe tk _ => ⟨fun pins s1 σ G D I h1 => by
        obtain ⟨Ech, hW, h2, h3, Q1, h4, h5⟩ := h1
        exact (pss_one (ps_set (i := 1) sc_law_ended.nd rfl (.inl rfl) (pe_mid (act W pn xe Ech _ _ tk hW)))).run pins s1 σ G D I ⟨Q1, ⟨h2, h3, h4⟩, h5⟩⟩)
      (.cons (htest_name ⟨rfl, by decide, .inl T0.g⟩) (fun a oe cls d pn hz hf => (pss_one (ps_ret (pe_lst (pa_cons pe_str (pa_cons (pe_xfE T0 S0 (List.mem_cons_self ..) hz hf (pv 2) rfl) (pa_cons (pe_and (pe_callB (id := "isinstance") (r := rIsX X.K C0 a cls d) (by exact call_isX T0 (List.mem_cons_self ..) hz hf) (by rfl) B.isinstance (by decide +kernel) (pa_cons (pv 2) (pa_cons (pe_glob (v := .ref U) (by rfl) UI.g rfl) pa_nil))) (pe_one (pe_callB (id := "isinstance") (r := rIsX X.K C0 a cls d) (by exact call_isX T0 (List.mem_cons_self ..) hz hf) (by rfl) B.isinstance (by decide +kernel) (pa_cons (pv 2) (pa_cons (pe_bltn (v := .ty "ValueError") (by rfl) B.ValueError (by decide +kernel) rfl) pa_nil))))) pa_nil))))))) (.cons (htest_name ⟨rfl, by decide, .inl T1.g⟩) (fun a oe cls d pn hz hf => (pss_one (ps_ret (pe_lst (pa_cons pe_str (pa_cons (pe_xfE T1 S1 (List.mem_cons_self ..) hz hf (pv 2) rfl) (pa_cons (pe_and (pe_callB (id := "isinstance") (r := rIsX X.K C1 a cls d) (by exact call_isX T1 (List.mem_cons_self ..) hz hf) (by rfl) B.isinstance (by decide +kernel) (pa_cons (pv 2) (pa_cons (pe_glob (v := .ref U) (by rfl) UI.g rfl) pa_nil))) (pe_one (pe_callB (id := "isinstance") (r := rIsX X.K C1 a cls d) (by exact call_isX T1 (List.mem_cons_self ..) hz hf) (by rfl) B.isinstance (by decide +kernel) (pa_cons (pv 2) (pa_cons (pe_bltn (v := .ty "ValueError") (by rfl) B.ValueError (by decide +kernel) rfl) pa_nil))))) pa_nil))))))) .nil)))
    (pss_one (ps_ret (pe_lst (pa_cons pe_str (pa_cons (pv 1) pa_nil))))), ?_⟩
  obtain ⟨E1, Q1, h1, hE, hQ⟩ := h
  refine ⟨E1, fun cls d σ1 G he => ?_, rfl, hc, Q1, h1, fun v G hv => ?_⟩
  · obtain ⟨N, Fl, C, dd, v, mem, e1, e2, e3, k⟩ := hE cls d G he
    subst e1 e2
    simp only [List.mem_cons, List.not_mem_nil, or_false, Prod.mk.injEq] at mem
    have lk : ∀ Fl : Str, List.lookup Fl [(Fl, v)] = some v := fun Fl => by simp [List.lookup]
    rcases mem with mem | mem
    · obtain ⟨rfl, rfl, rfl⟩ := mem
      refine ⟨_, T0.exm T0 (UI.ne T0 (by decide +kernel)), fun _ a na len => ?_, fun z => absurd (decide_eq_true (rfl : ("InvalidLength" : Str) = "InvalidLength")) (by rw [z]; decide)⟩
      have here : (σ1.set 2 (some (V.ref a)))[2]? = some (some (V.ref a)) := List.getElem?_set_self len
      refine ⟨.ref a, here, rfl, rfl, dd, _, v, rfl, e3, lk _, .ref a, here, _, .ref U, true, rfl, rfl, fun u hu => hu, T0.kitU UI, fun d2 e => ⟨_, by cases e; exact e3⟩, ?_⟩
      exact ⟨_, rfl, iteT ⟨.ref a, here, _, .type "ValueError", true, rfl, rfl, fun u hu => hu, T0.kitV (by decide +kernel), fun d2 e => ⟨_, by cases e; exact e3⟩, by show 3 ≤ sizeLine; decide, fun p np => k p _ (same_new np) upd_same⟩⟩
    · obtain ⟨rfl, rfl, rfl⟩ := mem
      refine ⟨_, T1.exm T0 (UI.ne T0 (by decide +kernel)), fun z => absurd (of_decide_eq_true z) (by decide +kernel), fun _ => ?_⟩
      refine ⟨_, T1.exm T1 (UI.ne T1 (by decide +kernel)), fun _ a na len => ?_, fun z => absurd (decide_eq_true (rfl : ("InvalidViews" : Str) = "InvalidViews")) (by rw [z]; decide)⟩
      have here : (σ1.set 2 (some (V.ref a)))[2]? = some (some (V.ref a)) := List.getElem?_set_self len
      refine ⟨.ref a, here, rfl, rfl, dd, _, v, rfl, e3, lk _, .ref a, here, _, .ref U, true, rfl, rfl, fun u hu => hu, T1.kitU UI, fun d2 e => ⟨_, by cases e; exact e3⟩, ?_⟩
      exact ⟨_, rfl, iteT ⟨.ref a, here, _, .type "ValueError", true, rfl, rfl, fun u hu => hu, T1.kitV (by decide +kernel), fun d2 e => ⟨_, by cases e; exact e3⟩, by show 3 ≤ sizeLine; decide, fun p np => k p _ (same_new np) upd_same⟩⟩
  · exact ⟨_, rfl, by show 2 ≤ sizeLine; decide, fun p np => hQ v G hv p _ (same_new np) upd_same⟩
end Gu
namespace Gu
open PySem PySem.Spec PyProof.Rows L2
/-! ### Shorteners refused -/
section
variable {P : Program} {w : World} {K : PySem.W.Frag} {mg : Str → Option Value} {base : Heap} {C U CM CN : Addr}
def OkNum (v : V) : Prop := ∃ i : Int, v = .int i ∧ 0 ≤ i ∧ i ≤ 40
/-- no whole number from 0 to m -/
def NoNum (K : PySem.W.Frag) (H : Hp) (m : Int) (v : V) : Prop := (∃ i : Int, v = .int i ∧ ¬ (0 ≤ i ∧ i ≤ m)) ∨ Isa K H v "int" false ∨ (Isa K H v "int" true ∧ Isa K H v "bool" true)
/-- no text of at most m signs -/
def NoTxt (K : PySem.W.Frag) (H : Hp) (m : Int) (v : V) : Prop := Isa K H v "str" false ∨ ∃ z : Str, v = .str z ∧ z.length ≤ 1000 ∧ isTxt z m = false
theorem TyX.same {H G : Hp} (s : Same H G) {v : V} {t : Value} (h : TyX K H v t) : TyX K G v t := by
  cases h with
  | base b =>
    refine .base ?_
    cases b with
    | non => exact .non
    | bl x => exact .bl x
    | int i => exact .int i
    | str x => exact .str x
    | flt x => exact .flt x
    | lst e => exact .lst (s _ _ e)
    | frz e => exact .frz (s _ _ e)
    | tup e => exact .tup (s _ _ e)
    | dK e => exact .dK (s _ _ e)
    | dT e => exact .dT (s _ _ e)
    | ins e a b c d f => exact .ins (s _ _ e) a b c d f
  | byt b => exact .byt b
  | set e => exact .set (s _ _ e)
  | kList e c => exact .kList e c
  | kTuple e c => exact .kTuple e c
  | kDict e c => exact .kDict e c
  | fTuple e => exact .fTuple (s _ _ e)
  | fDict e => exact .fDict (s _ _ e)
theorem Isa.same {H G : Hp} (s : Same H G) {v : V} {T : String} {b : Bool} (h : Isa K H v T b) : Isa K G v T b := by
  obtain ⟨t, a, c⟩ := h
  exact ⟨t, TyX.same s a, c⟩
theorem NoNum.same {H G : Hp} (s : Same H G) {m : Int} {v : V} (h : NoNum K H m v) : NoNum K G m v := h.imp id (Or.imp (Isa.same s) fun ⟨a, b⟩ => ⟨a.same s, b.same s⟩)
theorem NoTxt.same {H G : Hp} (s : Same H G) {m : Int} {v : V} (h : NoTxt K H m v) : NoTxt K G m v := h.imp (Isa.same s) id
theorem Cal.imp {k : Nat} {x : Str} {ps : List Str} {s1 s2 : Sp} (c : Cal P w K mg base k x ps s1) (h : ∀ vs H Q E, s2 vs H Q E → s1 vs H Q E) : Cal P w K mg base k x ps s2 := by
  obtain ⟨f, fd, F, r⟩ := c.ex
  exact ⟨f, fd, ⟨fun vs H Q E z => F.len vs H Q E (h vs H Q E z), fun A outer s H args us vs Q E a b c d z => F.run A outer s H args us vs Q E a b c d (h vs H Q E z)⟩, r⟩
/-- a whole number from 0 to m, or none -/
def spNum (K : PySem.W.Frag) : Sp := fun vs H Q _ => ∃ (v : V) (m : Int), vs = [v, .int 0, .int m] ∧ ((∃ i : Int, v = .int i ∧ 0 ≤ i ∧ i ≤ m ∧ Q (.bl true) H) ∨ (NoNum K H m v ∧ Q (.bl false) H))
theorem num_of (c : Cal P w K mg base 1 "is_integer" ps_is_integer (spIsInteger K)) : Cal P w K mg base 1 "is_integer" ps_is_integer (spNum K) := c.imp fun vs H Q E ⟨v, m, e, h⟩ => by
  refine ⟨v, 0, m, e, ?_⟩
  rcases h with ⟨i, rfl, h0, h1, q⟩ | ⟨⟨i, rfl, h⟩ | h | ⟨h, k⟩, q⟩
  · exact .inl ⟨i, rfl, by rw [decide_eq_true ⟨h0, h1⟩]; exact q⟩
  · exact .inl ⟨i, rfl, by rw [decide_eq_false h]; exact q⟩
  · exact .inr (.inl ⟨h, q⟩)
  · exact .inr (.inr ⟨h, k, q⟩)
/-- a text of at most m signs, or none -/
def spTxt (K : PySem.W.Frag) : Sp := fun vs H Q _ => ∃ (v : V) (m : Int), vs = [v, .int m] ∧ ((∃ z : Str, v = .str z ∧ z.length ≤ 1000 ∧ isTxt z m = true ∧ ∀ G, Same H G → Q (.bl true) G) ∨ (NoTxt K H m v ∧ ∀ G, Same H G → Q (.bl false) G))
theorem txt_of (c : Cal P w K mg base 1 "is_text" ps_is_text (spIsText K)) : Cal P w K mg base 1 "is_text" ps_is_text (spTxt K) := c.imp fun vs H Q E ⟨v, m, e, h⟩ => by
  refine ⟨v, m, e, ?_⟩
  rcases h with ⟨z, rfl, l, h, q⟩ | ⟨h | ⟨z, rfl, l, h⟩, q⟩
  · exact .inl ⟨z, rfl, l, fun G s => by rw [h]; exact q G s⟩
  · exact .inr ⟨h, q H (Same.refl H)⟩
  · exact .inl ⟨z, rfl, l, fun G s => by rw [h]; exact q G s⟩
/-- an error of the class at C is raised that holds v -/
def Raised (C : Addr) (Fl : Str) (v : V) (H : Hp) (E : XK) : Prop := ∀ (d : Addr) (G : Hp), Same H G → G d = some (.xd [(Fl, v)]) → E (.ref C) (some d) G
theorem Raised.same {Fl : Str} {v : V} {H G : Hp} {E : XK} (s : Same H G) (h : Raised C Fl v H E) : Raised C Fl v G E := fun d J sJ e => h d J (s.trans sJ) e
def spMarkX (K : PySem.W.Frag) (CM : Addr) : Sp := fun vs H _ E => ∃ v : V, vs = [v] ∧ NoTxt K H 3 v ∧ Raised CM "value" v H E
theorem cal_markX (B : Bi mg) (D : At K mg "check_mark" s_check_mark ps_check_mark) (T_InvalidMark : ErrK K mg bVE U "InvalidMark" CM) (S_InvalidMark : ErrF K "InvalidMark" "value" CM) (C_is_text : Cal P w K mg base 1 "is_text" ps_is_text (spTxt K)) : CalX P w K mg base 2 "check_mark" ps_check_mark (spMarkX K CM) := by
  refine D.calX sc_check_mark (fun vs H Q E h => ?_) (fun f cdv A outer s H vs Q E hr h => ?_)
  · obtain ⟨v, rfl, _⟩ := h
    rfl
  · obtain ⟨v, rfl, no, k⟩ := h
    refine ⟨_, (pss_one (ps_if (pt_not (pt_val (pe_own C_is_text hr (by decide) (by rfl) (pa_cons (pv 0) (pa_cons (pe_cst B.MOST_MARK (by rfl)) pa_nil))))) (pss_one (ps_raiseE T_InvalidMark S_InvalidMark rfl hr (takes_of rfl rfl rfl rfl) (pa_cons (pv 0) pa_nil) (by rfl))) pss_nil)), ?_⟩
    refine ⟨_, rfl, v, 3, rfl, .inr ⟨no, fun G s => ⟨_, rfl, iteT ?_⟩⟩⟩
    exact ⟨_, rfl, v, rfl, fun d nd => k d _ (s.trans (same_new nd)) upd_same⟩
def spInitX (K : PySem.W.Frag) (C CN CM : Addr) : Sp := fun vs H _ E => ∃ (x dx : Addr) (l h t m : V), vs = [.ref x, l, h, t, m] ∧ H x = some (.ins C dx []) ∧
  ((∃ v, ((NoNum K H 40 l ∧ v = l) ∨ (OkNum l ∧ NoNum K H 40 h ∧ v = h) ∨ (OkNum l ∧ OkNum h ∧ NoNum K H 40 t ∧ v = t)) ∧ Raised CN "value" v H E) ∨ (OkNum l ∧ OkNum h ∧ OkNum t ∧ NoTxt K H 3 m ∧ Raised CM "value" m H E))
theorem ok_initX {f : Addr} {fd : FuncData} (B : Bi mg) (F : Fun K "__init__" "Shortener.__init__" s_Shortener_init f fd) (T_InvalidNumber : ErrK K mg bVE U "InvalidNumber" CN) (S_InvalidNumber : ErrF K "InvalidNumber" "value" CN) (C_is_integer : Cal P w K mg base 1 "is_integer" ps_is_integer (spNum K)) (CX_check_mark : CalX P w K mg base 2 "check_mark" ps_check_mark (spMarkX K CM)) : FnOk P w K mg base (L2.CX P w) 3 f fd ps_Shortener_init (spInitX K C CN CM) := by
  refine F.okX sc_Shortener_init (fun vs H Q E h => ?_) (fun cdv A outer s H vs Q E hr h => ?_)
  · obtain ⟨x, dx, l, h, t, m, rfl, _⟩ := h
    rfl
  · obtain ⟨x, dx, l, h, t, m, rfl, hx, way⟩ := h
    refine ⟨_, (pss_cons (ps_for (passes_of rfl) rfl (pi_tup (pe_tup (pa_cons (pv 1) (pa_cons (pv 2) (pa_cons (pv 3) pa_nil))))) (pg_name (i := 5) sc_Shortener_init.nd rfl (.inl rfl))
      (pss_one (ps_if (pt_not (pt_val (pe_own C_is_integer hr (by decide) (by rfl) (pa_cons (pv 5) (pa_cons pe_int (pa_cons (pe_cst B.MOST_SIGNS (by rfl)) pa_nil)))))) (pss_one (ps_raiseE T_InvalidNumber S_InvalidNumber rfl hr (takes_of rfl rfl rfl rfl) (pa_cons (pv 5) pa_nil) (by rfl))) pss_nil)))
      (pss_cons (ps_expr (pe_ownX CX_check_mark hr (by decide) (takes_of rfl rfl rfl rfl) (fun _ _ _ _ h => h) (by rfl) (pa_cons (pv 4) pa_nil)))
      (pss_cons (ps_fld (pv 0) (pv 1) rfl)
      (pss_cons (ps_fld (pv 0) (pv 2) rfl)
      (pss_cons (ps_fld (pv 0) (pv 3) rfl)
      (pss_cons (ps_fld (pv 0) (pv 4) rfl)
      (pss_one (ps_fld (pv 0) (pe_tup (pa_cons (pv 1) (pa_cons (pv 2) (pa_cons (pv 3) (pa_cons (pv 4) pa_nil))))) rfl)))))))), ?_⟩
    refine ⟨_, rfl, _, rfl, _, rfl, by show 3 ≤ sizeLine; decide, fun T nT => ?_⟩
    have sT : Same H (upd H T (.tup [l, h, t])) := same_new nT
    have eT : upd H T (.tup [l, h, t]) T = some (.tup [l, h, t]) := upd_same
    generalize upd H T (.tup [l, h, t]) = H1 at sT eT
    -- the numbers up to the first bad one
    have way1 : ∃ j : Nat, (∀ i u, i < j → [l, h, t][i]? = some u → OkNum u) ∧ ((j < 3 ∧ ∃ v, [l, h, t][j]? = some v ∧ NoNum K H1 40 v ∧ Raised CN "value" v H1 E) ∨ (j = 3 ∧ NoTxt K H1 3 m ∧ Raised CM "value" m H1 E)) := by
      have one : ∀ {u v : V}, OkNum v → some v = some u → OkNum u := fun o e => by
        cases e
        exact o
      rcases way with ⟨v, ⟨n, rfl⟩ | ⟨o, n, rfl⟩ | ⟨o, o2, n, rfl⟩, r⟩ | ⟨o, o2, o3, n, r⟩
      · exact ⟨0, fun i u hi => absurd hi (Nat.not_lt_zero i), .inl ⟨by decide, v, rfl, n.same sT, r.same sT⟩⟩
      · exact ⟨1, fun i u hi e => match i, hi, e with | 0, _, e => one o e, .inl ⟨by decide, v, rfl, n.same sT, r.same sT⟩⟩
      · exact ⟨2, fun i u hi e => match i, hi, e with | 0, _, e => one o e | 1, _, e => one o2 e, .inl ⟨by decide, v, rfl, n.same sT, r.same sT⟩⟩
      · exact ⟨3, fun i u _ e => match i, e with | 0, e => one o e | 1, e => one o2 e | 2, e => one o3 e, .inr ⟨rfl, n.same sT, r.same sT⟩⟩
    obtain ⟨j, fine, last⟩ := way1
    refine ⟨T, rfl, ⟨_, .inl (.inl eT)⟩, for_tup (K := K) (a := T) (xs := [l, h, t]) (fun i σ J => (∃ u, σ = [some (.ref x), some l, some h, some t, some m, u]) ∧ J = H1 ∧ i ≤ j)
      ⟨⟨none, rfl⟩, rfl, Nat.zero_le _⟩ (fun i σ J _ ⟨_, e, _⟩ => by rw [e]; exact .inl (.inl eT)) ?_ ?_⟩
    · rintro i v σ J hi ⟨⟨u, rfl⟩, rfl, ij⟩
      rcases Nat.lt_or_ge i j with lt | ge
      · obtain ⟨n, rfl, n0, n1⟩ := fine i v lt hi
        exact ⟨_, rfl, _, 40, rfl, .inl ⟨n, rfl, n0, n1, _, rfl, iteF ⟨⟨_, rfl⟩, rfl, lt⟩⟩⟩
      · have ej : j = i := by omega
        subst ej
        rcases last with ⟨_, v', e, n, r⟩ | ⟨e, _⟩
        · rw [e] at hi
          cases hi
          exact ⟨_, rfl, _, 40, rfl, .inr ⟨n, _, rfl, iteT ⟨_, rfl, v, rfl, fun d nd => r d _ (same_new nd) upd_same⟩⟩⟩
        · rw [e] at hi
          cases hi
    · rintro σ J ⟨⟨u, rfl⟩, rfl, ij⟩
      rcases last with ⟨lt, _⟩ | ⟨_, n, r⟩
      · exact absurd ij (Nat.not_le.mpr lt)
      · exact ⟨_, rfl, m, rfl, n, r⟩
theorem mak_shX (B : Bi mg) (S : ShC K mg C) (D : InitAt K C) (T_InvalidNumber : ErrK K mg bVE U "InvalidNumber" CN) (S_InvalidNumber : ErrF K "InvalidNumber" "value" CN) (C_is_integer : Cal P w K mg base 1 "is_integer" ps_is_integer (spNum K)) (CX_check_mark : CalX P w K mg base 2 "check_mark" ps_check_mark (spMarkX K CM)) : MakX P w K mg base 3 "Shortener" C (spInitX K C CN CM) := by
  obtain ⟨f, fd, M, F, b⟩ := D.ex
  exact ⟨f, fd, ps_Shortener_init, M, ok_initX B F T_InvalidNumber S_InvalidNumber C_is_integer CX_check_mark, S.g, b⟩
end
end Gu
namespace Gu
open PySem PySem.Spec PyProof.Rows L2 LamX
/-! ### what stands while the pot is used and tables grow -/
def KeepP (p : Addr) (H G : Hp) : Prop := ∀ c o, H c = some o → c ≠ p → (∀ ps, o ≠ .tbl ps) → G c = some o
theorem KeepP.refl (p : Addr) (H : Hp) : KeepP p H H := fun _ _ e _ _ => e
theorem KeepP.trans {p : Addr} {H G J : Hp} (a : KeepP p H G) (b : KeepP p G J) : KeepP p H J := fun c o e n t => b c o (a c o e n t) n t
theorem KeepP.ofSame {p : Addr} {H G : Hp} (a : Same H G) : KeepP p H G := fun c o e _ _ => a c o e
theorem KeepP.ofN {p : Addr} {H G : Hp} (a : SameN H G) : KeepP p H G := fun c o e _ t => a c o e t
theorem KeepP.ofL {p : Addr} {H G : Hp} (a : Ladled p H G) : KeepP p H G := fun c o e n _ => a.keep c o e n
theorem KeepP.tup {p : Addr} {H G : Hp} (k : KeepP p H G) (hp : Pot H p) {a : Addr} {xs : List V} (h : H a = some (.tup xs)) : G a = some (.tup xs) := k _ _ h (fun z => by
  obtain ⟨x, y, w, e⟩ := hp
  rw [← z, h] at e
  cases e) fun _ z => by cases z
theorem KeepP.dict {p : Addr} {H G : Hp} (k : KeepP p H G) (hp : Pot H p) {a : Addr} (h : H a = some (.dK [])) : G a = some (.dK []) := k _ _ h (fun z => by
  obtain ⟨x, y, w, e⟩ := hp
  rw [← z, h] at e
  cases e) fun _ z => by cases z
theorem KeepP.lst {p : Addr} {H G : Hp} (k : KeepP p H G) {a : Addr} (n : a ≠ p) {xs : List V} (h : H a = some (.lst xs)) : G a = some (.lst xs) := k _ _ h n fun _ z => by cases z
theorem KeepP.ins {p : Addr} {H G : Hp} (k : KeepP p H G) (hp : Pot H p) {a C dx : Addr} {fs : List (Str × V)} (h : H a = some (.ins C dx fs)) : G a = some (.ins C dx fs) := k _ _ h (fun z => by
  obtain ⟨x, y, w, e⟩ := hp
  rw [← z, h] at e
  cases e) fun _ z => by cases z
theorem KeepP.lst0 {p : Addr} {H G : Hp} (k : KeepP p H G) (hp : Pot H p) {a : Addr} {xs : List V} (h : H a = some (.lst xs)) (l : xs.length ≠ 3) : G a = some (.lst xs) := k _ _ h (fun z => by
  obtain ⟨x, y, w, e⟩ := hp
  rw [← z, h] at e
  cases e
  exact l rfl) fun _ z => by cases z
theorem TabS.of {H G : Hp} {P p : Addr} {q : Str} (t : TabS H P q) (hp : Pot H p) (e : ∀ b o, H b = some o → b ≠ p → G b = some o) : TabS G P q := by
  obtain ⟨x, y, z, ep⟩ := hp
  obtain ⟨ps, h1, h2, h3⟩ := t
  refine ⟨ps, e _ _ h1 fun q => ?_, h2, fun pos cv hc => ?_⟩
  · rw [q, ep] at h1
    cases h1
  · obtain ⟨c, e1, e2⟩ := h3 pos cv hc
    refine ⟨c, e1, e _ _ e2 fun q => ?_⟩
    rw [q, ep] at e2
    have z := Option.some.inj e2
    unfold CodeO at z
    cases z
theorem tabs_of {T : List (Addr × Str)} {H G : Hp} {p : Addr} (t : Tabs T H) (hp : Pot H p) (L : Ladled p H G) : Tabs T G := fun q hq => TabS.of (t q hq) hp L.keep
theorem sys_of {H G : Hp} {p : Addr} (y : Sys H) (hp : Pot H p) (L : Ladled p H G) : Sys G := by
  obtain ⟨x, y', z, ep⟩ := hp
  obtain ⟨o, u, e⟩ := y
  exact ⟨o, u, L.keep _ _ e fun q => by
    rw [q, ep] at e
    cases e⟩
theorem tabs_upd {T : List (Addr × Str)} {G : Hp} {q : Addr} {xs : List V} {o : HO} (t : Tabs T G) (e : G q = some (.lst xs)) : Tabs T (upd G q o) := fun r hr => by
  obtain ⟨ps, h1, h2, h3⟩ := t r hr
  refine ⟨ps, by rw [upd_ne fun z => by rw [z, e] at h1; cases h1]; exact h1, h2, fun pos cv hc => ?_⟩
  obtain ⟨c, e1, e2⟩ := h3 pos cv hc
  refine ⟨c, e1, ?_⟩
  rw [upd_ne fun z => by
    rw [z, e] at e2
    have y := Option.some.inj e2
    unfold CodeO at y
    cases y]
  exact e2
section
variable {T : List (Addr × Str)} {p : Addr} {H G J : Hp}
theorem LadT.refl (hp : Pot H p) (t : Tabs T H) (y : Sys H) : LadT T p H H := ⟨hp, fun _ _ e _ _ => e, t, y⟩
theorem LadT.trans (a : LadT T p H G) (b : LadT T p G J) : LadT T p H J := ⟨b.pot, fun c o e n t => b.keep c o (a.keep c o e n t) n t, b.tabs, b.sys⟩
theorem LadT.same (a : LadT T p H G) (s : Same G J) : LadT T p H J := ⟨a.pot.same s, fun c o e n t => s _ _ (a.keep c o e n t), a.tabs.ext s, a.sys.same s⟩
theorem LadT.lad (a : LadT T p H G) (L : Ladled p G J) : LadT T p H J := ⟨L.pot, fun c o e n t => L.keep _ _ (a.keep c o e n t) n, tabs_of a.tabs a.pot L, sys_of a.sys a.pot L⟩
theorem LadT.ext (a : LadT T p H G) (s : ExtN G J) (t : Tabs T J) : LadT T p H J := by
  obtain ⟨x, y, z, e⟩ := a.pot
  exact ⟨⟨x, y, z, s _ _ e fun _ q => by cases q⟩, fun c o e n q => s _ _ (a.keep c o e n q) q, t, SameN.sys s a.sys⟩
/-- what is not known in G was not known in H, but for a table -/
theorem LadT.free (a : LadT T p H G) {q : Addr} (h : G q = none) : q ≠ p ∧ ∀ o, H q = some o → ∃ ps, o = .tbl ps := by
  have n : q ≠ p := a.pot.ne h
  refine ⟨n, fun o e => Classical.byContradiction fun z => ?_⟩
  rw [a.keep q o e n fun ps y => z ⟨ps, y⟩] at h
  cases h
/-- a list that is new since H may change -/
theorem LadT.mut {q : Addr} {xs ys : List V} (a : LadT T p H G) (h : q ≠ p ∧ ∀ o, H q = some o → ∃ ps, o = .tbl ps) (e : G q = some (.lst xs)) : LadT T p H (upd G q (.lst ys)) := by
  obtain ⟨n, h⟩ := h
  refine ⟨?_, fun c o e1 nc nt => ?_, tabs_upd a.tabs e, ?_⟩
  · obtain ⟨x, y, z, ep⟩ := a.pot
    exact ⟨x, y, z, by rw [upd_ne (Ne.symm n)]; exact ep⟩
  · rw [upd_ne fun z => by
      obtain ⟨ps, y⟩ := h o (by rw [← z]; exact e1)
      exact nt ps y]
    exact a.keep c o e1 nc nt
  · obtain ⟨o, u, ey⟩ := a.sys
    exact ⟨o, u, by rw [upd_ne fun z => by rw [z, e] at ey; cases ey]; exact ey⟩
end
/-! ### Shortener by keywords, refused -/
def revK {α : Type} (a b : List α) : List α := a ++ b.reverse
theorem valsK : ∀ {zs : List V} {ws : List Value}, Vals zs ws → Vals zs.reverse ws.reverse
  | [], _, r => by
    cases r
    exact .nil
  | z :: zs, _, r => by
    cases r with
    | cons a r =>
      rw [List.reverse_cons, List.reverse_cons]
      exact (valsK r).append (.cons a .nil)
structure MakXK (P : Program) (w : World) (K : PySem.W.Frag) (mg : Str → Option Value) (base : Heap) (k : Nat) (x : Str) (C : Addr) (ks : List Str) (gV : List V → List V → List V) (sp : Sp) : Prop where
  ex : ∃ (f : Addr) (fd : FuncData) (ps : List Str) (g : List Value → List Value → List Value), Mk K C f ∧ FnOk P w K mg base (L2.CX P w) k f fd ps sp ∧ mg x = some (.ref C) ∧ KBn K fd ps 1 ks g gV
theorem pe_newXK {X : Cx} {k j : Nat} {x : Str} {C : Addr} {ks : List Str} {gV : List V → List V → List V} {sp : Sp} {E : XK} {W : WX} {p pos : Pos} {kws : List Keyword} {tk : TA} (c : MakXK X.prog X.w X.K X.mg X.base k x C ks gV sp) (hr : Room j X.A) (hk : k + 1 ≤ j) (ty : Takes X W) (hW : ∀ cls d σ H, E cls d H → W cls d σ H) (hg : Gl X x) (hkw : PK X kws tk)
    (hall : (backToKw pos (keywordEach kws X.env)).all (·.1.isSome) = true := by rfl) (hks : (backToKw pos (keywordEach kws X.env)).filterMap (·.1) = ks := by rfl) (hdb : (x == ("__debug__" : Str)) = false := by decide)
    (hpl : ((backTo pos (starEach [] X.env)).any (·.1) || (backToKw pos (keywordEach kws X.env)).any (·.1.isNone)) = false := by rfl) : PE X (.Call (.Name x p) [] kws pos) (tMakeK C 0 ks.length sp gV E tNil tk) := by
  obtain ⟨f, fd, ps, g, M, F, hm, b⟩ := c.ex
  exact pe_makeK0 M F (hr.mono hk) hg hm b (passes_call ty hW) hkw hall hks hdb hpl
section
variable {P : Program} {w : World} {K : PySem.W.Frag} {mg : Str → Option Value} {base : Heap} {C U CN CM : Addr}
theorem mak_shXK (B : Bi mg) (S : ShC K mg C) (D : InitAt K C) (T_InvalidNumber : ErrK K mg bVE U "InvalidNumber" CN) (S_InvalidNumber : ErrF K "InvalidNumber" "value" CN) (C_is_integer : Cal P w K mg base 1 "is_integer" ps_is_integer (spNum K)) (CX_check_mark : CalX P w K mg base 2 "check_mark" ps_check_mark (spMarkX K CM)) : MakXK P w K mg base 3 "Shortener" C ["mark", "tail", "head", "limit"] revK (spInitX K C CN CM) := by
  obtain ⟨f, fd, M, F, b⟩ := D.ex
  refine ⟨f, fd, ps_Shortener_init, revK, M, ok_initX B F T_InvalidNumber S_InvalidNumber C_is_integer CX_check_mark, S.g, ⟨fun s us ws I l1 l2 => ?_, fun r q => ?_⟩⟩
  · obtain ⟨oc, od, kV, doc, pm, an, cdv, ct, sl, e, lk, hcd⟩ := F.ex
    rw [e]
    match us, ws, l1, l2 with
    | [_], [_, _, _, _], _, _ => exact BindsTo.of_eq rfl
  · exact r.append (valsK q)
end
/-- the way in which a Shortener is refused: the word, the thing -/
def Refused (K : PySem.W.Frag) (H : Hp) (l h t m : V) (N : Str) (v : V) : Prop :=
  (N = "InvalidNumber" ∧ ((NoNum K H 40 l ∧ v = l) ∨ (OkNum l ∧ NoNum K H 40 h ∧ v = h) ∨ (OkNum l ∧ OkNum h ∧ NoNum K H 40 t ∧ v = t))) ∨ (N = "InvalidMark" ∧ OkNum l ∧ OkNum h ∧ OkNum t ∧ NoTxt K H 3 m ∧ v = m)
section
variable {K : PySem.W.Frag} {T : List (Addr × Str)} {C CN CM p : Addr} {H : Hp} {σ : L2.St} {Q : VK} {l h t m v : V} {N : Str}
theorem lam_core {hs : List (Str × Str × Addr)} (mN : (("InvalidNumber" : Str), ("value" : Str), CN) ∈ hs) (mM : (("InvalidMark" : Str), ("value" : Str), CM) ∈ hs) (L : LadT T p H H) (bad : ∀ G, KeepP p H G → Refused K G l h t m N v) (k : ∀ q J, LadT T p H J → J q = some (.lst [.str N, v, .bl true]) → Q (.ref q) J)
    {tl : XK → Hp → VK → Prop} (go : ∀ (E : XK) (G : Hp) (R : VK), (∀ x dx, G x = none → G dx = none → dx ≠ x → spInitX K C CN CM [.ref x, l, h, t, m] (upd (upd G dx (.own x)) x (.ins C dx [])) (fun u J => u = .non ∧ R (.ref x) J) E) → tl E G R) (H1 : Hp) (e1 : ExtN H H1) (t1 : Tabs T H1) : TEnd hs tl H1 Q := by
  have L1 : LadT T p H H1 := L.ext e1 t1
  refine ⟨fun cls d G => ∃ (D dd : Addr), cls = .ref D ∧ (N, ("value" : Str), D) ∈ hs ∧ d = some dd ∧ LadT T p H G ∧ G dd = some (.xd [("value", v)]), fun _ _ => False, go _ H1 _ fun x dx nx ndx ne => ?_, fun cls d G ⟨D, dd, h1, h2, h3, h4, h5⟩ => ⟨N, "value", D, dd, v, h2, h1, h3, h5, fun q J s e => k q J (h4.same s) e⟩, fun _ _ z => z.elim⟩
  have s2 : Same H1 (upd (upd H1 dx (.own x)) x (.ins C dx [])) := (same_new ndx).trans (same_new (by rw [upd_ne (Ne.symm ne)]; exact nx))
  have e2 : upd (upd H1 dx (.own x)) x (.ins C dx []) x = some (.ins C dx []) := upd_same
  generalize upd (upd H1 dx (.own x)) x (.ins C dx []) = H2 at s2 e2
  have L2 := L1.same s2
  refine ⟨x, dx, l, h, t, m, rfl, e2, ?_⟩
  rcases bad H2 L2.keep with ⟨rfl, b⟩ | ⟨rfl, o1, o2, o3, b, rfl⟩
  · exact .inl ⟨v, b, fun d G s e => ⟨CN, d, rfl, mN, rfl, L2.same s, e⟩⟩
  · exact .inr ⟨o1, o2, o3, b, fun d G s e => ⟨CM, d, rfl, mM, rfl, L2.same s, e⟩⟩
theorem lam_init {hs : List (Str × Str × Addr)} {ta : TA} (mN : (("InvalidNumber" : Str), ("value" : Str), CN) ∈ hs) (mM : (("InvalidMark" : Str), ("value" : Str), CM) ∈ hs) (L : LadT T p H H) (args : ∀ (G : Hp) (R : List V → Hp → Prop), R [l, h, t, m] G → ta σ G R) (bad : ∀ G, KeepP p H G → Refused K G l h t m N v) (k : ∀ q J, LadT T p H J → J q = some (.lst [.str N, v, .bl true]) → Q (.ref q) J) :
    tLam T (TEnd hs) (fun E => tMake C (spInitX K C CN CM) [] E ta) σ H Q := ⟨L.tabs, fun H1 e1 t1 => lam_core mN mM L bad k (fun E G R h => args G _ h) H1 e1 t1⟩
theorem lam_initK {hs : List (Str × Str × Addr)} {tk : TA} (mN : (("InvalidNumber" : Str), ("value" : Str), CN) ∈ hs) (mM : (("InvalidMark" : Str), ("value" : Str), CM) ∈ hs) (L : LadT T p H H) (args : ∀ (G : Hp) (R : List V → Hp → Prop), R [m, t, h, l] G → tk σ G R) (bad : ∀ G, KeepP p H G → Refused K G l h t m N v) (k : ∀ q J, LadT T p H J → J q = some (.lst [.str N, v, .bl true]) → Q (.ref q) J) :
    tLam T (TEnd hs) (fun E => tMakeK C 0 4 (spInitX K C CN CM) revK E tNil tk) σ H Q := ⟨L.tabs, fun H1 e1 t1 => lam_core mN mM L bad k (fun E G R h => args G _ ⟨rfl, rfl, h⟩) H1 e1 t1⟩
end
end Gu
namespace Gu
open PySem PySem.Spec PyProof.Rows L2
/-! ### things that are no numbers, no texts, no tuples -/
section
variable {K : PySem.W.Frag} {G : Hp} {m : Int} {a : Addr} {xs : List V}
theorem isa_non {T : String} {b : Bool} (h : PySem.W.kitOne K (.type "NoneType") (.type T) = some b) : Isa K G .non T b := ⟨_, .base .non, h⟩
theorem isa_bl {T : String} {b : Bool} {x : Bool} (h : PySem.W.kitOne K (.type "bool") (.type T) = some b) : Isa K G (.bl x) T b := ⟨_, .base (.bl x), h⟩
theorem isa_int {T : String} {b : Bool} {x : Int} (h : PySem.W.kitOne K (.type "int") (.type T) = some b) : Isa K G (.int x) T b := ⟨_, .base (.int x), h⟩
theorem isa_str {T : String} {b : Bool} {x : Str} (h : PySem.W.kitOne K (.type "str") (.type T) = some b) : Isa K G (.str x) T b := ⟨_, .base (.str x), h⟩
theorem isa_tup {T : String} {b : Bool} (e : G a = some (.tup xs)) (h : PySem.W.kitOne K (.type "tuple") (.type T) = some b) : Isa K G (.ref a) T b := ⟨_, .base (.tup e), h⟩
theorem isa_lst {T : String} {b : Bool} (e : G a = some (.lst xs)) (h : PySem.W.kitOne K (.type "list") (.type T) = some b) : Isa K G (.ref a) T b := ⟨_, .base (.lst e), h⟩
theorem isa_dict {T : String} {b : Bool} (e : G a = some (.dK [])) (h : PySem.W.kitOne K (.type "dict") (.type T) = some b) : Isa K G (.ref a) T b := ⟨_, .base (.dK e), h⟩
theorem nn_non : NoNum K G m .non := .inr (.inl (isa_non (kit_ty (by decide +kernel))))
theorem nn_str {z : Str} : NoNum K G m (.str z) := .inr (.inl (isa_str (kit_ty (by decide +kernel))))
theorem nn_bl {b : Bool} : NoNum K G m (.bl b) := .inr (.inr ⟨isa_bl (kit_ty (by decide +kernel)), isa_bl (kit_ty (by decide +kernel))⟩)
theorem nn_int {i : Int} (h : ¬ (0 ≤ i ∧ i ≤ m)) : NoNum K G m (.int i) := .inl ⟨i, rfl, h⟩
theorem nn_tup (e : G a = some (.tup xs)) : NoNum K G m (.ref a) := .inr (.inl (isa_tup e (kit_ty (by decide +kernel))))
theorem nn_lst (e : G a = some (.lst xs)) : NoNum K G m (.ref a) := .inr (.inl (isa_lst e (kit_ty (by decide +kernel))))
theorem nn_dict (e : G a = some (.dK [])) : NoNum K G m (.ref a) := .inr (.inl (isa_dict e (kit_ty (by decide +kernel))))
theorem nt_non : NoTxt K G m .non := .inl (isa_non (kit_ty (by decide +kernel)))
theorem nt_bl {b : Bool} : NoTxt K G m (.bl b) := .inl (isa_bl (kit_ty (by decide +kernel)))
theorem nt_int {i : Int} : NoTxt K G m (.int i) := .inl (isa_int (kit_ty (by decide +kernel)))
theorem nt_str {z : Str} (l : z.length ≤ 1000) (h : isTxt z m = false) : NoTxt K G m (.str z) := .inr ⟨z, rfl, l, h⟩
theorem nt_tup (e : G a = some (.tup xs)) : NoTxt K G m (.ref a) := .inl (isa_tup e (kit_ty (by decide +kernel)))
theorem nt_lst (e : G a = some (.lst xs)) : NoTxt K G m (.ref a) := .inl (isa_lst e (kit_ty (by decide +kernel)))
theorem nt_dict (e : G a = some (.dK [])) : NoTxt K G m (.ref a) := .inl (isa_dict e (kit_ty (by decide +kernel)))
/-- a thing that can be written out, and of which R holds, wherever only the pot and tables have changed -/
def Thing (K : PySem.W.Frag) (p : Addr) (H : Hp) (v : V) (d : PyData) (R : Hp → V → Prop) : Prop := FineE 2 400 d ∧ ∀ G, KeepP p H G → DpE K G v d ∧ R G v
theorem Thing.at {p : Addr} {H J : Hp} {v : V} {d : PyData} {R : Hp → V → Prop} (h : Thing K p H v d R) (k : KeepP p H J) : Thing K p J v d R := ⟨h.1, fun G z => h.2 G (k.trans z)⟩
variable {p : Addr} {H : Hp} {R : Hp → V → Prop}
theorem th_non (r : ∀ G, R G .non) : ∃ d, Thing K p H .non d R := ⟨.none, Fine.none.e.mono (by decide) (by decide), fun G _ => ⟨.non, r G⟩⟩
theorem th_bl {b : Bool} (r : ∀ G, R G (.bl b)) : ∃ d, Thing K p H (.bl b) d R := ⟨.bool b, (Fine.bool b).e.mono (by decide) (by decide), fun G _ => ⟨.bl b, r G⟩⟩
theorem th_int {i : Int} (h : i.natAbs < 2 ^ 70) (r : ∀ G, R G (.int i)) : ∃ d, Thing K p H (.int i) d R := ⟨.int i, (Fine.int h).e.mono (by decide) (by decide), fun G _ => ⟨.int i, r G⟩⟩
theorem th_str {z : Str} (h : ∀ c ∈ z.cps.toList, c < 16 ^ 8) (l : z.cps.toList.length ≤ 400) (r : ∀ G, R G (.str z)) : ∃ d, Thing K p H (.str z) d R := ⟨.str z, (Fine.str h l).e.mono (by decide) (Nat.le_refl _), fun G _ => ⟨.str z, r G⟩⟩
theorem th_dict {a : Addr} (hp : Pot H p) (e : H a = some (.dK [])) (r : ∀ G, G a = some (.dK []) → R G (.ref a)) : ∃ d, Thing K p H (.ref a) d R := ⟨.dict [], FineE.dict0.mono (by decide) (by decide), fun G k => ⟨.dict (k.dict hp e), r G (k.dict hp e)⟩⟩
theorem th_tup {a : Addr} {xs : List V} {ds : List PyData} (hp : Pot H p) (e : H a = some (.tup xs)) (f : FineE 2 400 (.tuple ds)) (all : ∀ G, KeepP p H G → DpEs K G xs ds) (r : ∀ G, G a = some (.tup xs) → R G (.ref a)) : ∃ d, Thing K p H (.ref a) d R := ⟨.tuple ds, f, fun G k => ⟨.tup (.inl (.inl (k.tup hp e))) (all G k), r G (k.tup hp e)⟩⟩
theorem th_lst {a : Addr} {xs : List V} {ds : List PyData} (n : a ≠ p) (e : H a = some (.lst xs)) (f : FineE 2 400 (.list ds)) (all : ∀ G, KeepP p H G → DpEs K G xs ds) (r : ∀ G, G a = some (.lst xs) → R G (.ref a)) : ∃ d, Thing K p H (.ref a) d R := ⟨.list ds, f, fun G k => ⟨.lst (k.lst n e) (all G k), r G (k.lst n e)⟩⟩
end
end Gu
namespace Gu
open PySem PySem.Spec PyProof.Rows L2
/-! data are equal to themselves -/
mutual
theorem eqv_self : ∀ d : PyData, d.canLay0 = true → PyData.eqv d d = true
  | .none, _ => rfl
  | .bool b, _ => by simp [PyData.eqv]
  | .int i, _ => by simp [PyData.eqv]
  | .str x, _ => by simp [PyData.eqv]
  | .list xs, h => by
    rw [PyData.eqv]
    exact eqv_selfs xs (by simpa [PyData.canLay0] using h)
  | .tuple xs, h => by
    rw [PyData.eqv]
    exact eqv_selfs xs (by simpa [PyData.canLay0] using h)
  | .dict _, h => by simp [PyData.canLay0] at h
theorem eqv_selfs : ∀ xs : List PyData, PyData.canLayAll0 xs = true → PyData.eqvAll xs xs = true
  | [], _ => rfl
  | x :: xs, h => by
    have h2 : x.canLay0 = true ∧ PyData.canLayAll0 xs = true := by simpa [PyData.canLayAll0] using h
    rw [PyData.eqvAll, eqv_self x h2.1, eqv_selfs xs h2.2]
    rfl
end
end Gu
namespace Gu
open PySem PySem.Spec PyProof.Rows L2 LamX
/-! ### what has been seen, one answer after the other -/
theorem LadT.kp {T : List (Addr × Str)} {p : Addr} {H G : Hp} (a : LadT T p H G) : KeepP p H G := a.keep
theorem LadT.here {T : List (Addr × Str)} {p : Addr} {H G : Hp} (a : LadT T p H G) : LadT T p G G := .refl a.pot a.tabs a.sys
theorem pot_neS {H : Hp} {p q : Addr} {z : Str} {xs : List V} (h : Pot H p) (e : H q = some (.lst (.str z :: xs))) : q ≠ p := fun y => by
  obtain ⟨a, b, c, f⟩ := h
  rw [← y, e] at f
  cases f
structure SeenAt (p : Addr) (H : Hp) (S : Addr) (qs : List (Addr × Str × V)) : Prop where
  ls : H S = some (.lst (qs.map fun q => V.ref q.1))
  ne : S ≠ p
  el : ∀ q ∈ qs, H q.1 = some (.lst [.str q.2.1, q.2.2, .bl true]) ∧ q.1 ≠ S
theorem SeenAt.keep {p S : Addr} {H G : Hp} {qs : List (Addr × Str × V)} (h : SeenAt p H S qs) (hp : Pot H p) (k : KeepP p H G) : SeenAt p G S qs := ⟨k.lst h.ne h.ls, h.ne, fun q hq => ⟨k.lst (pot_neS hp (h.el q hq).1) (h.el q hq).1, (h.el q hq).2⟩⟩
theorem SeenAt.first {p S q : Addr} {H : Hp} {N : Str} {v : V} (hp : Pot H p) (nS : H S = none) (e : H q = some (.lst [.str N, v, .bl true])) : SeenAt p (upd H S (.lst [.ref q])) S [(q, N, v)] := by
  refine ⟨upd_same, hp.ne nS, fun r hr => ?_⟩
  rw [List.mem_singleton.mp hr]
  exact ⟨by rw [upd_ne (ne_of_none e nS)]; exact e, ne_of_none e nS⟩
theorem SeenAt.none {p S : Addr} {H : Hp} (hp : Pot H p) (nS : H S = none) : SeenAt p (upd H S (.lst [])) S [] := ⟨upd_same, hp.ne nS, fun r hr => by cases hr⟩
section
variable {T : List (Addr × Str)} {p S q : Addr} {H J : Hp} {qs : List (Addr × Str × V)} {N : Str} {v : V}
/-- S.append(q), q new -/
theorem SeenAt.more (h : SeenAt p J S qs) (e : J q = some (.lst [.str N, v, .bl true])) (n : q ≠ S) : SeenAt p (upd J S (.lst ((qs.map fun q => V.ref q.1) ++ [.ref q]))) S (qs ++ [(q, N, v)]) := by
  refine ⟨by rw [upd_same, List.map_append]; rfl, h.ne, fun r hr => ?_⟩
  rcases List.mem_append.mp hr with hr | hr
  · exact ⟨by rw [upd_ne (h.el r hr).2]; exact (h.el r hr).1, (h.el r hr).2⟩
  · rw [List.mem_singleton.mp hr]
    exact ⟨by rw [upd_ne n]; exact e, n⟩
end
/-- the items of a list are things -/
theorem seen_data {K : PySem.W.Frag} {p S : Addr} {H : Hp} {qs : List (Addr × Str × V)} (h : SeenAt p H S qs) {ds : List PyData} (all : DpEs K H (qs.map (·.2.2)) ds) : DpE K H (.ref S) (.list ((qs.zip ds).map fun x => .list [.str x.1.2.1, x.2, .bool true])) := by
  refine .lst h.ls ?_
  have go : ∀ (qs : List (Addr × Str × V)) (ds : List PyData), (∀ q ∈ qs, H q.1 = some (.lst [.str q.2.1, q.2.2, .bl true])) → DpEs K H (qs.map (·.2.2)) ds → DpEs K H (qs.map fun q => V.ref q.1) ((qs.zip ds).map fun x => .list [.str x.1.2.1, x.2, .bool true]) := by
    intro qs
    induction qs with
    | nil => exact fun _ _ _ => .nil
    | cons q qs ih =>
      intro ds e a
      cases a with
      | cons a1 a2 => exact .cons (.lst (e q (List.mem_cons_self ..)) (.cons (.str _) (.cons a1 (.cons (.bl true) .nil)))) (ih _ (fun r hr => e r (List.mem_cons_of_mem _ hr)) a2)
  exact go qs ds (fun q hq => (h.el q hq).1) all
/-- a short word -/
def isTxt20 (N : Str) : Bool := decide (N.cps.toList.length ≤ 20) && N.cps.toList.all fun c => decide (c < 128)
theorem word_fine {N : Str} (h : isTxt20 N = true) : FineE 2 400 (.str N) := by
  unfold isTxt20 at h
  rw [Bool.and_eq_true, List.all_eq_true] at h
  have l := of_decide_eq_true h.1
  exact (Fine.str (W := 400) (fun c hc => Nat.lt_of_lt_of_le (of_decide_eq_true (h.2 c hc)) (by decide)) (by omega)).e.mono (by decide) (Nat.le_refl _)
/-- an answer written out -/
def said (N : Str) (d : PyData) : PyData := .list [.str N, d, .bool true]
theorem said_fine {N : Str} {d : PyData} (h : FineE 2 400 d) (n : isTxt20 N = true) : FineE 3 1300 (said N d) := by
  have a : FineEs 2 400 [.str N, d, .bool true] := .of fun e he => by
    simp only [List.mem_cons, List.not_mem_nil, or_false] at he
    rcases he with rfl | rfl | rfl
    · exact word_fine n
    · exact h
    · exact (Fine.bool true).e.mono (by decide) (by decide)
  exact a.list.mono (Nat.le_refl _) (by show 3 * 401 ≤ 1300; decide)
theorem all_said {l : List PyData} (h : ∀ d ∈ l, FineE 3 1300 d) (n : l.length ≤ 60) : FineE 60 100000 (.list l) := by
  refine (FineEs.of h).list.mono (by decide) ?_
  have := Nat.mul_le_mul_right 1301 n
  omega
end Gu
namespace Gu
open PySem PySem.Spec PyProof.Rows L2
/-! ### a def that a name holds is called, and may raise -/
structure AskAt (P : Program) (w : World) (K : PySem.W.Frag) (mg : Str → Option Value) (base : Heap) (k : Nat) (sp : Sp) (f : Addr) : Prop where
  ex : ∃ (fd : FuncData) (ps : List Str), FnOk P w K mg base (L2.CX P w) k f fd ps sp ∧ PySem.W.keepIn K (.ref f) = true ∧ Binds K fd ps []
structure AskKw (P : Program) (w : World) (K : PySem.W.Frag) (mg : Str → Option Value) (base : Heap) (k : Nat) (ks : List Str) (gV : List V → List V) (sp : Sp) (f : Addr) : Prop where
  ex : ∃ (fd : FuncData) (ps : List Str) (g : List Value → List Value), FnOk P w K mg base (L2.CX P w) k f fd ps sp ∧ PySem.W.keepIn K (.ref f) = true ∧ KBn K fd ps 0 ks (fun _ ws => g ws) (fun _ zs => gV zs)
theorem fn_up {P : Program} {w : World} {K : PySem.W.Frag} {mg : Str → Option Value} {base : Heap} {CX : CXT} {k j : Nat} {f : Addr} {fd : FuncData} {ps : List Str} {sp : Sp} (F : FnOk P w K mg base CX k f fd ps sp) (h : k ≤ j) : FnOk P w K mg base CX j f fd ps sp :=
  ⟨F.len, fun A outer s H args us vs Q E r => F.run A outer s H args us vs Q E (r.mono h)⟩
theorem fn_imp {P : Program} {w : World} {K : PySem.W.Frag} {mg : Str → Option Value} {base : Heap} {CX : CXT} {k : Nat} {f : Addr} {fd : FuncData} {ps : List Str} {s1 s2 : Sp} (F : FnOk P w K mg base CX k f fd ps s1) (h : ∀ vs H Q E, s2 vs H Q E → s1 vs H Q E) : FnOk P w K mg base CX k f fd ps s2 :=
  ⟨fun vs H Q E z => F.len vs H Q E (h vs H Q E z), fun A outer s H args us vs Q E a b c d z => F.run A outer s H args us vs Q E a b c d (h vs H Q E z)⟩
section
variable {P : Program} {w : World} {K : PySem.W.Frag} {mg : Str → Option Value} {base : Heap} {k j : Nat} {x : Str} {ps : List Str} {sp : Sp}
theorem CalX.ask (c : CalX P w K mg base k x ps sp) (h : k ≤ j) : ∃ f, mg x = some (.ref f) ∧ AskAt P w K mg base j sp f := by
  obtain ⟨f, fd, F, hm, kp, b, _⟩ := c.ex
  exact ⟨f, hm, fd, ps, fn_up F h, kp, b⟩
theorem CalX.or {s1 s2 : Sp} (a : CalX P w K mg base k x ps s1) (b : CalX P w K mg base k x ps s2) : CalX P w K mg base k x ps (fun vs H Q E => s1 vs H Q E ∨ s2 vs H Q E) := by
  obtain ⟨f, fd, F, hm, kp, bd, oc, od, sl, lk⟩ := a.ex
  obtain ⟨f2, fd2, F2, hm2, _, _, oc2, od2, sl2, lk2⟩ := b.ex
  have e1 := hm.symm.trans hm2
  cases e1
  have e2 := lk.symm.trans lk2
  cases e2
  exact ⟨f, fd, ⟨fun vs H Q E h => h.elim (F.len vs H Q E) (F2.len vs H Q E), fun A outer s H args us vs Q E r e b c want => want.elim (fun h => F.run A outer s H args us vs Q E r e b c h) (fun h => F2.run A outer s H args us vs Q E r e b c h)⟩, hm, kp, bd, oc, od, sl, lk⟩
theorem CalX.askK {st : Stmt} {ks : List Str} (g : {α : Type} → List α → List α) (c : CalX P w K mg base k x ps sp) (h : k ≤ j) (D : At K mg x st ps) (hv : ∀ {zs : List V} {ws : List Value}, Vals zs ws → Vals (g zs) (g ws))
    (hb : ∀ (kV doc pm : Value) (an : Option Addr) (cdv ct : Value) (ws : List Value), ws.length = ks.length → bindArgs (PySem.W.fnOf x x (defArgs st) (defBody st) (defScope st) .none kV doc pm an cdv ct) ⟨[], ks.zip ws⟩ = pure (ps.zip (g ws))) : ∃ f, mg x = some (.ref f) ∧ AskKw P w K mg base j ks g sp f := by
  obtain ⟨f, fd, F, hm, kp, b, oc, od, sl, lk⟩ := c.ex
  obtain ⟨f2, fd2, F2, b2, hm2⟩ := D.ex
  cases hm.symm.trans hm2
  obtain ⟨oc2, od2, kV, doc, pm, an, cdv, ct, sl2, e, lk2, hcd⟩ := F2.ex
  cases lk.symm.trans lk2
  refine ⟨f, hm, fd, ps, g, fn_up F h, kp, ⟨fun s us ws I l1 l2 => ?_, fun _ r => hv r⟩⟩
  cases us with
  | nil =>
    rw [e]
    exact BindsTo.of_eq (hb kV doc pm an cdv ct ws l2)
  | cons u r => cases l1
end
section
variable {X : Cx} {k j i : Nat} {x : Str} {sp : Sp} {E : XK} {W : WX} {p pos : Pos} {e : Expr} {es : List Expr} {t tk : TA} {ks : List Str} {gV : List V → List V} {kws : List Keyword}
def tCallD (ok : Addr → Prop) (i : Nat) (sp : Sp) (E : XK) (t : TA) : TE := fun σ H Q => ∃ f, σ[i]? = some (some (.ref f)) ∧ ok f ∧ t σ H fun vs G => sp vs G Q E
theorem pe_callD (ok : Addr → Prop) (A : ∀ f, ok f → AskAt X.prog X.w X.K X.mg X.base k sp f) (hr : Room j X.A) (hk : k ≤ j) (ty : Takes X W) (hW : ∀ cls d σ H, E cls d H → W cls d σ H) (hN : X.N[i]? = some x) (hv : Vis X.env.scope x) (ha : PA X (e :: es) t)
    (hdb : (x == ("__debug__" : Str)) = false := by decide) (hcd : (x == ("__classdict__" : Str)) = false := by decide)
    (he : starEach (e :: es) X.env = (false, eval e X.env) :: starEach es X.env := by rfl) (hpl : (backTo pos (starEach es X.env)).any (·.1) = false := by rfl) : PE X (.Call (.Name x p) (e :: es) [] pos) (tCallD ok i sp E t) := by
  refine ⟨fun pins s σ H Q I h => ?_⟩
  obtain ⟨f, hs, hf, ht⟩ := h
  obtain ⟨fd, ps, F, kp, b⟩ := (A f hf).ex
  refine (pe_callL (i := i) (f := f) (sp := sp) (dvs := []) F (hr.mono hk) hN hv kp b .nil (passes_call ty hW) ha hdb hcd he hpl).run pins s σ H Q I ⟨hs, ?_⟩
  have e0 : (fun (vs : List V) (G : Hp) => sp (vs ++ []) G Q E) = fun vs G => sp vs G Q E := by
    funext vs G
    rw [List.append_nil]
  show t σ H (fun vs G => sp (vs ++ []) G Q E)
  rw [e0]
  exact ht
def tKwD (ok : Addr → Prop) (i m : Nat) (gV : List V → List V) (sp : Sp) (E : XK) (tk : TA) : TE := fun σ H Q => ∃ f, σ[i]? = some (some (.ref f)) ∧ ok f ∧ tk σ H fun zs G => zs.length = m ∧ sp (gV zs) G Q E
theorem pe_kwD (ok : Addr → Prop) (A : ∀ f, ok f → AskKw X.prog X.w X.K X.mg X.base k ks gV sp f) (hr : Room j X.A) (hk : k ≤ j) (ty : Takes X W) (hW : ∀ cls d σ H, E cls d H → W cls d σ H) (hN : X.N[i]? = some x) (hv : Vis X.env.scope x) (hkw : PK X kws tk) (hall : (backToKw pos (keywordEach kws X.env)).all (·.1.isSome) = true := by rfl)
    (hks : (backToKw pos (keywordEach kws X.env)).filterMap (·.1) = ks := by rfl) (hdb : (x == ("__debug__" : Str)) = false := by decide) (hcd : (x == ("__classdict__" : Str)) = false := by decide)
    (hpl : ((backTo pos (starEach [] X.env)).any (·.1) || (backToKw pos (keywordEach kws X.env)).any (·.1.isNone)) = false := by rfl) : PE X (.Call (.Name x p) [] kws pos) (tKwD ok i ks.length gV sp E tk) := by
  refine ⟨fun pins s σ H Q I h => ?_⟩
  obtain ⟨f, hs, hf, ht⟩ := h
  obtain ⟨fd, ps, g, F, kp, b⟩ := (A f hf).ex
  refine wpAny_Call_Name_kw (thn ((pe_var (pos := p) hN hv hdb hcd).run pins s σ H (fun v G => v = .ref f ∧ G = H) I ⟨.ref f, hs, rfl, rfl⟩) fun u s1 ⟨v, G, I1, r1, q1⟩ => ?_)
  obtain ⟨rfl, rfl⟩ := q1
  cases r1
  refine PySem.W.callWith_KW0 (h₀ := X.base) I.ok.mod.kin kp hall ?_ hpl
  refine thn (hkw.run pos pins s1 σ _ _ I1 ht) fun ws s2 ⟨zs, J, I2, rz, l2, q2⟩ => ⟨I2.kIn, ?_⟩
  rw [hks]
  exact run_fnN (us := []) (vs := []) F (hr.mono hk) b (passes_call ty hW) I2 .nil rz rfl l2 q2
end
end Gu
namespace Gu
open PySem PySem.Spec PyProof.Rows L2
/-! ### rows refused -/
/-- what isinstance asks of Shortener, more -/
structure ShX (K : PySem.W.Frag) (C : Addr) : Prop where
  ty : PySem.W.typeIn K (.ref C) = some (.type "type")
  nt : PySem.W.mroIn K C (.type "tuple") = some false
  ns : PySem.W.mroIn K C (.type "str") = some false
  isC : (PySem.W.clsIn K C).isSome = true
def IsaC (K : PySem.W.Frag) (H : Hp) (x : V) (C : Addr) (b : Bool) : Prop := ∃ t, TyX K H x t ∧ PySem.W.kitOne K t (.ref C) = some b
theorem IsaC.same {K : PySem.W.Frag} {H G : Hp} {x : V} {C : Addr} {b : Bool} (s : Same H G) (h : IsaC K H x C b) : IsaC K G x C b := by
  obtain ⟨t, a, c⟩ := h
  exact ⟨t, TyX.same s a, c⟩
/-- no tuple of a to b items -/
def NoTup (K : PySem.W.Frag) (H : Hp) (a b : Nat) (v : V) : Prop := Isa K H v "tuple" false ∨ ∃ (l : Addr) (xs : List V), v = .ref l ∧ SqT K H l xs ∧ ¬ (a ≤ xs.length ∧ xs.length ≤ b)
theorem NoTup.same {K : PySem.W.Frag} {H G : Hp} {a b : Nat} {v : V} (s : Same H G) (h : NoTup K H a b v) : NoTup K G a b v := h.imp (Isa.same s) fun ⟨l, xs, e, q, n⟩ => ⟨l, xs, e, stE s q, n⟩
def RowOk (C : Addr) (H : Hp) (v : V) : Prop := ∃ (a : Addr) (rs : List (Addr × Rec)), v = .ref a ∧ RowAt C H a rs ∧ 1 ≤ rs.length ∧ rs.length ≤ 4
theorem RowOk.same {C : Addr} {H G : Hp} {v : V} (s : Same H G) (h : RowOk C H v) : RowOk C G v := by
  obtain ⟨a, rs, e, r, l⟩ := h
  exact ⟨a, rs, e, r.same s, l⟩
/-- a row that is none: the place of the first wrong part, or None -/
def RowBad (K : PySem.W.Frag) (C : Addr) (H : Hp) (v spot : V) : Prop := (spot = .non ∧ NoTup K H 1 4 v) ∨
  ∃ (l : Addr) (xs : List V) (i : Nat) (x : V), v = .ref l ∧ SqT K H l xs ∧ 1 ≤ xs.length ∧ xs.length ≤ 4 ∧ (∀ j y, j < i → xs[j]? = some y → IsaC K H y C true) ∧ xs[i]? = some x ∧ IsaC K H x C false ∧ spot = .int (i : Int)
theorem RowBad.same {K : PySem.W.Frag} {C : Addr} {H G : Hp} {v spot : V} (s : Same H G) (h : RowBad K C H v spot) : RowBad K C G v spot := h.imp (And.imp id (NoTup.same s)) fun ⟨l, xs, i, x, e, q, l1, l4, b, hx, n, es⟩ => ⟨l, xs, i, x, e, stE s q, l1, l4, fun j y hj hy => (b j y hj hy).same s, hx, n.same s, es⟩
section
variable {P : Program} {w : World} {K : PySem.W.Frag} {mg : Str → Option Value} {base : Heap} {C U CR CL CT : Addr}
theorem isaC_sh (S : ShC K mg C) {H : Hp} {x dx : Addr} {fs : List (Str × V)} (e : H x = some (.ins C dx fs)) : IsaC K H (.ref x) C true := ⟨_, .base (.ins e S.cl S.ha S.hn S.ht S.hm), S.kk⟩
theorem isaC_no (Z : ShX K C) {H : Hp} {x : V} {T : String} (h : TyX K H x (.type T)) (e : PySem.W.subIn K (.type T) (.ref C) = some false) : IsaC K H x C false := ⟨_, h, kit_one (kit_ref Z.isC Z.ty e) fun z => by cases z⟩
/-- a tuple of a to b items, or none -/
def spTup (K : PySem.W.Frag) : Sp := fun vs H Q _ => ∃ (v : V) (a b : Nat), vs = [v, .int (a : Int), .int (b : Int)] ∧ ((∃ (l : Addr) (xs : List V), v = .ref l ∧ SqT K H l xs ∧ a ≤ xs.length ∧ xs.length ≤ b ∧ Q (.bl true) H) ∨ (NoTup K H a b v ∧ Q (.bl false) H))
theorem tup_of (c : Cal P w K mg base 1 "is_tuple" ps_is_tuple (spIsTuple K)) : Cal P w K mg base 1 "is_tuple" ps_is_tuple (spTup K) := c.imp fun vs H Q E ⟨v, a, b, e, h⟩ => by
  refine ⟨v, a, b, e, ?_⟩
  rcases h with ⟨l, xs, rfl, hs, h0, h1, q⟩ | ⟨h | ⟨l, xs, rfl, hs, n⟩, q⟩
  · exact .inl ⟨l, xs, rfl, hs, by rw [decide_eq_true ⟨by omega, by omega⟩]; exact q⟩
  · exact .inr ⟨h, q⟩
  · exact .inl ⟨l, xs, rfl, hs, by rw [decide_eq_false (fun z => n ⟨by omega, by omega⟩)]; exact q⟩
def spLenE (K : PySem.W.Frag) (CL : Addr) : Sp := fun vs H _ E => ∃ v : V, vs = [v] ∧ NoNum K H 500 v ∧ Raised CL "value" v H E
theorem cal_lenE (B : Bi mg) (D : At K mg "check_length" s_check_length ps_check_length) (T_InvalidLength : ErrK K mg bVE U "InvalidLength" CL) (S_InvalidLength : ErrF K "InvalidLength" "value" CL) (C_is_integer : Cal P w K mg base 1 "is_integer" ps_is_integer (spNum K)) : CalX P w K mg base 2 "check_length" ps_check_length (spLenE K CL) := by
  refine D.calX sc_check_length (fun vs H Q E h => ?_) (fun f cdv A outer s H vs Q E hr h => ?_)
  · obtain ⟨v, rfl, _⟩ := h
    rfl
  · obtain ⟨v, rfl, no, k⟩ := h
    refine ⟨_, (pss_one (ps_if (pt_not (pt_val (pe_own C_is_integer hr (by decide) (by rfl) (pa_cons (pv 0) (pa_cons pe_int (pa_cons (pe_cst B.MOST_LENGTH (by rfl)) pa_nil)))))) (pss_one (ps_raiseE T_InvalidLength S_InvalidLength rfl hr (takes_of rfl rfl rfl rfl) (pa_cons (pv 0) pa_nil) (by rfl))) pss_nil)), ?_⟩
    exact ⟨_, rfl, v, 500, rfl, .inr ⟨no, _, rfl, iteT ⟨_, rfl, v, rfl, fun d nd => k d _ (same_new nd) upd_same⟩⟩⟩
end
end Gu
namespace Gu
open PySem PySem.Spec PyProof.Rows L2
/-! ### plans as data, and filled in -/
def dat : V → PyData
  | .int i => .int i
  | .str z => .str z
  | _ => .none
/-- a place or a single sign -/
def Plain (n : Nat) (x : V) : Prop := (∃ i : Int, x = .int i ∧ 0 ≤ i ∧ i < (n : Int)) ∨ ∃ c : Nat, x = .str (one c) ∧ c < 128
theorem Plain.fine {n : Nat} {x : V} (hn : n ≤ 500) (h : Plain n x) : Fine 0 70 (dat x) := by
  rcases h with ⟨i, rfl, h0, h1⟩ | ⟨c, rfl, hc⟩
  · exact Fine.int (by omega)
  · exact (Fine.str (z := one c) (W := 1) (fun d hd => by
      rw [List.mem_singleton.mp (show d ∈ [c] from hd)]
      exact Nat.lt_of_lt_of_le hc (by decide)) (Nat.le_refl _)).mono (Nat.le_refl _) (by decide)
theorem Plain.dp {K : PySem.W.Frag} {H : Hp} {n : Nat} {x : V} (h : Plain n x) : Dp K H x (dat x) := by
  rcases h with ⟨i, rfl, _⟩ | ⟨c, rfl, _⟩
  · exact .int i
  · exact .str _
theorem dp_all {K : PySem.W.Frag} {H : Hp} {n : Nat} : ∀ {xs : List V}, (∀ x ∈ xs, Plain n x) → DpAll K H xs (xs.map dat)
  | [], _ => .nil
  | x :: xs, h => .cons (h x (List.mem_cons_self ..)).dp (dp_all fun y hy => h y (List.mem_cons_of_mem _ hy))
theorem ones_plain {n : Nat} {cs : List Nat} (h : Signs cs) : ∀ x ∈ ones cs, Plain n x := by
  intro x hx
  obtain ⟨c, hc, rfl⟩ := List.mem_map.mp hx
  have a : ∀ c ∈ signs.cps.toList, c < 128 := by decide +kernel
  exact .inr ⟨c, rfl, a c (h c hc)⟩
theorem cutsV_all {p : V → Prop} : ∀ (rs : List Rec) {xs : List V}, (∀ r ∈ rs, ∀ x ∈ ones r.z.cps.toList, p x) → (∀ x ∈ xs, p x) → ∀ x ∈ cutsV rs xs, p x
  | [], _, _, h => h
  | r :: rs, xs, hz, h => by
    refine cutsV_all rs (xs := cut r.l.toNat r.h.toNat r.t.toNat (ones r.z.cps.toList) xs) (fun q hq => hz q (List.mem_cons_of_mem _ hq)) fun x hx => ?_
    unfold cut at hx
    split at hx
    · exact h x hx
    · rcases List.mem_append.mp hx with hx | hx
      · rcases List.mem_append.mp hx with hx | hx
        · exact h x (List.mem_of_mem_take hx)
        · exact hz r (List.mem_cons_self ..) x hx
      · exact h x (List.mem_of_mem_drop hx)
theorem plan_plain {rs : List Rec} (hf : ∀ r ∈ rs, r.fit) {n : Nat} : ∀ x ∈ cutsV rs (rgV 0 n), Plain n x :=
  cutsV_all rs (fun r hr => ones_plain (isTxt_signs (hf r hr).z)) fun x hx => by
    unfold rgV at hx
    obtain ⟨i, hi, rfl⟩ := List.mem_map.mp hx
    have := List.mem_range.mp hi
    exact .inl ⟨_, rfl, by omega, by omega⟩
theorem plan_fine {rs : List Rec} (hf : ∀ r ∈ rs, r.fit) {n : Nat} (hn : n ≤ 500) : Fine 60 100000 (.list [.tuple ((cutsV rs (rgV 0 n)).map dat), .tuple ((cutsV rs (rgV 0 n)).map dat)]) := by
  have a : FineAll 0 70 ((cutsV rs (rgV 0 n)).map dat) := .of fun d hd => by
    obtain ⟨x, hx, rfl⟩ := List.mem_map.mp hd
    exact (plan_plain hf x hx).fine hn
  have l : ((cutsV rs (rgV 0 n)).map dat).length ≤ 500 := by
    rw [List.length_map, cutsV_length, rgV_length]
    exact lens_le rs hf (by omega)
  have b := a.tup
  have c : Fine 1 35500 (.tuple ((cutsV rs (rgV 0 n)).map dat)) := b.mono (Nat.le_refl _) (by omega)
  have d : FineAll 1 35500 [.tuple ((cutsV rs (rgV 0 n)).map dat), .tuple ((cutsV rs (rgV 0 n)).map dat)] := .of fun e he => by
    simp only [List.mem_cons, List.not_mem_nil, or_false, or_self] at he
    rw [he]
    exact c
  exact d.list.mono (by decide) (by show 2 * 35501 ≤ 100000; decide)
def fill (cs : List Nat) : V → V
  | .int i => .str (one (cs.getD i.toNat 0))
  | v => v
theorem fill_ones (cs ds : List Nat) : (ones ds).map (fill cs) = ones ds := by
  unfold ones
  rw [List.map_map]
  rfl
theorem fill_cuts (cs : List Nat) : ∀ (rs : List Rec) (xs : List V), (cutsV rs xs).map (fill cs) = cutsV rs (xs.map (fill cs))
  | [], _ => rfl
  | r :: rs, xs => by
    show (cutsV rs (cut r.l.toNat r.h.toNat r.t.toNat (ones r.z.cps.toList) xs)).map (fill cs) = cutsV rs (cut r.l.toNat r.h.toNat r.t.toNat (ones r.z.cps.toList) (xs.map (fill cs)))
    rw [fill_cuts cs rs, ← cut_map, fill_ones]
theorem fill_range (cs : List Nat) : (rgV 0 (cs.length : Nat)).map (fill cs) = ones cs := by
  unfold rgV ones
  rw [List.map_map]
  refine List.ext_getElem? fun j => ?_
  rw [List.getElem?_map, List.getElem?_map]
  simp only [Int.sub_zero, Int.toNat_natCast]
  by_cases hj : j < cs.length
  · rw [List.getElem?_range hj, List.getElem?_eq_getElem hj]
    show some (V.str (one (cs.getD (0 + (j : Int)).toNat 0))) = some (V.str (one cs[j]))
    rw [Int.zero_add, Int.toNat_natCast, List.getD_eq_getElem?_getD, List.getElem?_eq_getElem hj]
    rfl
  · rw [List.getElem?_eq_none (by rw [List.length_range]; omega), List.getElem?_eq_none (by omega)]
    rfl
theorem at_of' {α : Type} {xs : List α} {i : Int} {j : Nat} {v : α} (e : i = (j : Int)) (h : xs[j]? = some v) : atI xs i = some v := by
  rw [e]
  exact atI_nat h
def idl {α : Type} (l : List α) : List α := l
end Gu
namespace Gu
open PySem PySem.Spec PyProof.Rows L2
/-! ### plans that differ, and the least text that tells -/
def planV (rs : List Rec) (n : Nat) : List V := cutsV rs (rgV 0 (n : Int))
theorem fill_plan (rs : List Rec) (cs : List Nat) : (planV rs cs.length).map (fill cs) = ones (cuts rs cs) := by
  unfold planV
  rw [fill_cuts, fill_range, cutsV_ones]
theorem map_injL {α β : Type} {f : α → β} (h : ∀ x y, f x = f y → x = y) : ∀ {xs ys : List α}, xs.map f = ys.map f → xs = ys
  | [], [], _ => rfl
  | [], _ :: _, e => nomatch e
  | _ :: _, [], e => nomatch e
  | x :: xs, y :: ys, e => by
    have e := List.cons.inj e
    rw [h _ _ e.1, map_injL h e.2]
theorem ones_inj {cs ds : List Nat} (h : ones cs = ones ds) : cs = ds := by
  refine map_injL (fun a b e => ?_) h
  have := congrArg (fun z : Str => z.cps.toList) (V.str.inj e)
  exact List.singleton_inj.mp this
theorem shown_iff (rs ss : List Rec) (cs : List Nat) : cuts rs cs = cuts ss cs ↔ (planV rs cs.length).map (fill cs) = (planV ss cs.length).map (fill cs) := by
  rw [fill_plan, fill_plan]
  exact ⟨fun h => by rw [h], ones_inj⟩
theorem map_cuts {f : V → V} (hf : ∀ z, f (.str z) = .str z) : ∀ (rs : List Rec) (xs : List V), cutsV rs (xs.map f) = (cutsV rs xs).map f
  | [], _ => rfl
  | r :: rs, xs => by
    have e : ones r.z.cps.toList = (ones r.z.cps.toList).map f := by
      unfold ones
      rw [List.map_map]
      refine List.map_congr_left fun c _ => ?_
      exact (hf _).symm
    show cutsV rs (cut r.l.toNat r.h.toNat r.t.toNat (ones r.z.cps.toList) (xs.map f)) = (cutsV rs (cut r.l.toNat r.h.toNat r.t.toNat (ones r.z.cps.toList) xs)).map f
    conv => lhs; rw [e]
    rw [cut_map, map_cuts hf rs]
/-! far lengths -/
def far (n : Nat) : V → V
  | .int i => .int (if i < 40 then i else i + ((n : Int) - 80))
  | v => v
theorem far_inj {n : Nat} (h : 80 ≤ n) {x y : V} (e : far n x = far n y) : x = y := by
  cases x <;> cases y <;> first | exact e | cases e | skip
  have e := V.int.inj e
  congr 1
  split at e <;> split at e <;> omega
theorem rg_get (n j : Nat) : (rgV 0 (n : Int))[j]? = if j < n then some (V.int (j : Int)) else none := by
  unfold rgV
  rw [List.getElem?_map, Int.sub_zero, Int.toNat_natCast]
  split
  · next h =>
    rw [List.getElem?_range h]
    show some (V.int (0 + (j : Int))) = _
    rw [Int.zero_add]
  · next h =>
    rw [List.getElem?_eq_none (by rw [List.length_range]; omega)]
    rfl
theorem rg_len (n : Nat) : (rgV 0 (n : Int)).length = n := by
  rw [rgV_length]
  omega
theorem cut_far {r : Rec} (f : r.fit) {n : Nat} (hn : 80 ≤ n) : cut r.l.toNat r.h.toNat r.t.toNat (ones r.z.cps.toList) (rgV 0 (n : Int)) = (cut r.l.toNat r.h.toNat r.t.toNat (ones r.z.cps.toList) (rgV 0 ((80 : Nat) : Int))).map (far n) := by
  have f1 := f.l
  have f2 := f.h
  have f3 := f.t
  unfold cut
  rw [rg_len, rg_len, if_neg (by omega), if_neg (by omega), List.map_append, List.map_append]
  congr 1
  · congr 1
    · refine List.ext_getElem? fun j => ?_
      rw [List.getElem?_map, List.getElem?_take, List.getElem?_take]
      split
      · rw [rg_get, rg_get, if_pos (by omega), if_pos (by omega)]
        show _ = some (V.int _)
        rw [if_pos (by omega)]
      · rfl
    · unfold ones
      rw [List.map_map]
      rfl
  · refine List.ext_getElem? fun j => ?_
    rw [List.getElem?_map, List.getElem?_drop, List.getElem?_drop, rg_get, rg_get]
    by_cases hj : j < r.t.toNat
    · rw [if_pos (by omega), if_pos (by omega)]
      show _ = some (V.int _)
      rw [if_neg (by omega)]
      congr 2
      omega
    · rw [if_neg (by omega), if_neg (by omega)]
      rfl
theorem plan_far {rs : List Rec} (hf : ∀ r ∈ rs, r.fit) (h1 : 1 ≤ rs.length) {n : Nat} (hn : 80 ≤ n) : planV rs n = (planV rs 80).map (far n) := by
  cases rs with
  | nil => cases h1
  | cons r rs =>
    show cutsV rs (cut r.l.toNat r.h.toNat r.t.toNat (ones r.z.cps.toList) (rgV 0 (n : Int))) = (cutsV rs (cut r.l.toNat r.h.toNat r.t.toNat (ones r.z.cps.toList) (rgV 0 ((80 : Nat) : Int)))).map (far n)
    rw [cut_far (hf r (List.mem_cons_self ..)) hn, map_cuts (fun z => rfl)]
theorem map_inj {f : V → V} (h : ∀ x y, f x = f y → x = y) {xs ys : List V} (e : xs.map f = ys.map f) : xs = ys := map_injL h e
/-- what is so up to 80 is so for all lengths -/
theorem alike_all {rs ss : List Rec} (hr : ∀ r ∈ rs, r.fit) (hs : ∀ r ∈ ss, r.fit) (r1 : 1 ≤ rs.length) (s1 : 1 ≤ ss.length) (h : ∀ n, n ≤ 80 → planV rs n = planV ss n) (n : Nat) : planV rs n = planV ss n := by
  rcases Nat.lt_or_ge 80 n with hn | hn
  · rw [plan_far hr r1 (by omega), plan_far hs s1 (by omega), h 80 (by omega)]
  · exact h n hn
/-! least texts -/
def dots (n : Nat) : List Nat := List.replicate n 46
def dotp (n p : Nat) : List Nat := List.replicate p 46 ++ 48 :: List.replicate (n - p - 1) 46
theorem dots_len (n : Nat) : (dots n).length = n := List.length_replicate ..
theorem dotp_len {n p : Nat} (h : p < n) : (dotp n p).length = n := by
  unfold dotp
  rw [List.length_append, List.length_cons, List.length_replicate, List.length_replicate]
  omega
theorem dots_at {n i : Nat} (h : i < n) : (dots n).getD i 0 = 46 := by
  unfold dots
  rw [List.getD_eq_getElem?_getD, List.getElem?_replicate, if_pos h]
  rfl
theorem dotp_at {n p i : Nat} (hp : p < n) (h : i < n) : (dotp n p).getD i 0 = if i = p then 48 else 46 := by
  unfold dotp
  rw [List.getD_eq_getElem?_getD]
  rcases Nat.lt_trichotomy i p with h1 | h1 | h1
  · rw [List.getElem?_append_left (by rw [List.length_replicate]; exact h1), List.getElem?_replicate, if_pos h1, if_neg (by omega)]
    rfl
  · rw [List.getElem?_append_right (by rw [List.length_replicate]; omega), List.length_replicate, h1, Nat.sub_self, if_pos rfl]
    rfl
  · rw [List.getElem?_append_right (by rw [List.length_replicate]; omega), List.length_replicate, if_neg (by omega)]
    obtain ⟨k, hk⟩ : ∃ k, i - p = k + 1 := ⟨i - p - 1, by omega⟩
    rw [hk, List.getElem?_cons_succ, List.getElem?_replicate, if_pos (by omega)]
    rfl
/-- at some place one has the sign p and the other something else -/
def Diff (xs ys : List V) (p : Nat) : Prop := ∃ (i : Nat) (x y : V), xs[i]? = some x ∧ ys[i]? = some y ∧ x ≠ y ∧ (x = V.int (p : Int) ∨ y = V.int (p : Int))
def flat0 : V → V
  | .int _ => .str (one 46)
  | v => v
theorem fill_dots {n : Nat} {x : V} (h : Plain n x) : fill (dots n) x = flat0 x := by
  rcases h with ⟨i, rfl, h0, h1⟩ | ⟨c, rfl, _⟩
  · show V.str (one _) = V.str (one 46)
    rw [dots_at (by omega)]
  · rfl
theorem fill_dotp {n p : Nat} (hp : p < n) {x : V} (h : Plain n x) (ne : x ≠ .int (p : Int)) : fill (dotp n p) x = fill (dots n) x := by
  rcases h with ⟨i, rfl, h0, h1⟩ | ⟨c, rfl, _⟩
  · show V.str (one _) = V.str (one _)
    rw [dots_at (by omega), dotp_at hp (by omega), if_neg]
    intro e
    exact ne (by rw [← e, Int.toNat_of_nonneg h0])
  · rfl
theorem fill_here {n p : Nat} (hp : p < n) : fill (dotp n p) (.int (p : Int)) = .str (one 48) := by
  show V.str (one _) = _
  rw [Int.toNat_natCast, dotp_at hp hp, if_pos rfl]
theorem one_ne : ¬ V.str (one 48) = V.str (one 46) := by
  intro h
  have := congrArg (fun z : Str => z.cps.toList) (V.str.inj h)
  exact absurd this (by decide)
section
variable {n : Nat} {xs ys : List V} (px : ∀ x ∈ xs, Plain n x) (py : ∀ y ∈ ys, Plain n y) (e0 : xs.map (fill (dots n)) = ys.map (fill (dots n)))
include px py e0
theorem same_at {i : Nat} {x y : V} (hx : xs[i]? = some x) (hy : ys[i]? = some y) : fill (dots n) x = fill (dots n) y := by
  have a := congrArg (fun l : List V => l[i]?) e0
  simp only [List.getElem?_map, hx, hy, Option.map_some] at a
  exact Option.some.inj a
theorem not_diff {p : Nat} (hp : p < n) (h : ¬ Diff xs ys p) : xs.map (fill (dotp n p)) = ys.map (fill (dotp n p)) := by
  have el : xs.length = ys.length := by
    have := congrArg List.length e0
    rw [List.length_map, List.length_map] at this
    exact this
  refine List.ext_getElem? fun i => ?_
  rw [List.getElem?_map, List.getElem?_map]
  by_cases hi : i < xs.length
  · have hx := List.getElem?_eq_getElem hi
    have hi2 : i < ys.length := by omega
    have hy := List.getElem?_eq_getElem hi2
    rw [hx, hy]
    show some _ = some _
    by_cases e : xs[i] = ys[i]
    · rw [e]
    · have n1 : xs[i] ≠ .int (p : Int) := fun q => h ⟨i, _, _, hx, hy, e, .inl q⟩
      have n2 : ys[i] ≠ .int (p : Int) := fun q => h ⟨i, _, _, hx, hy, e, .inr q⟩
      rw [fill_dotp hp (px _ (List.getElem_mem hi)) n1, fill_dotp hp (py _ (List.getElem_mem hi2)) n2, same_at px py e0 hx hy]
  · rw [List.getElem?_eq_none (by omega), List.getElem?_eq_none (by omega)]
theorem is_diff {p : Nat} (hp : p < n) (h : Diff xs ys p) : xs.map (fill (dotp n p)) ≠ ys.map (fill (dotp n p)) := by
  intro e
  obtain ⟨i, x, y, hx, hy, ne, h⟩ := h
  have a := congrArg (fun l : List V => l[i]?) e
  simp only [List.getElem?_map, hx, hy, Option.map_some] at a
  have a := Option.some.inj a
  have b := same_at px py e0 hx hy
  have qx := px x (List.mem_of_getElem? hx)
  have qy := py y (List.mem_of_getElem? hy)
  rcases h with rfl | rfl
  · rw [fill_here hp, fill_dotp hp qy (fun q => ne q.symm), ← b, fill_dots qx] at a
    exact one_ne a
  · rw [fill_here hp, fill_dotp hp qx ne, b, fill_dots qy] at a
    exact one_ne a.symm
theorem some_diff (ne : xs ≠ ys) : ∃ p, p < n ∧ Diff xs ys p := by
  have el : xs.length = ys.length := by
    have := congrArg List.length e0
    rw [List.length_map, List.length_map] at this
    exact this
  obtain ⟨i, hi, h⟩ : ∃ i, ∃ hi : i < xs.length, ¬ xs[i] = ys[i] := Decidable.byContradiction fun q => ne (List.ext_getElem el fun i h1 h2 => Decidable.byContradiction fun z => q ⟨i, h1, z⟩)
  have hx := List.getElem?_eq_getElem hi
  have hi2 : i < ys.length := by omega
  have hy := List.getElem?_eq_getElem hi2
  have b := same_at px py e0 hx hy
  have qx := px _ (List.getElem_mem hi)
  have qy := py _ (List.getElem_mem hi2)
  rcases id qx with ⟨j, ej, j0, j1⟩ | ⟨c, ec, _⟩
  · exact ⟨j.toNat, by omega, i, _, _, hx, hy, h, .inl (by rw [ej, Int.toNat_of_nonneg j0])⟩
  · rcases id qy with ⟨j, ej, j0, j1⟩ | ⟨d, ed, _⟩
    · exact ⟨j.toNat, by omega, i, _, _, hx, hy, h, .inr (by rw [ej, Int.toNat_of_nonneg j0])⟩
    · rw [fill_dots qx, fill_dots qy, ec, ed] at b
      exact absurd (by rw [ec, ed]; exact b) h
end
/-! the places that differ, as they are gathered -/
def isI : V → List Int
  | .int i => [i]
  | _ => []
def dpl : List V → List V → List Int
  | x :: xs, y :: ys => (if x = y then [] else isI x ++ isI y) ++ dpl xs ys
  | _, _ => []
theorem dpl_snoc : ∀ {xs ys : List V} (x y : V), xs.length = ys.length → dpl (xs ++ [x]) (ys ++ [y]) = dpl xs ys ++ (if x = y then [] else isI x ++ isI y)
  | [], [], x, y, _ => by
    show (if x = y then [] else isI x ++ isI y) ++ dpl [] [] = [] ++ _
    show _ ++ [] = [] ++ _
    rw [List.append_nil, List.nil_append]
  | a :: xs, b :: ys, x, y, h => by
    show (if a = b then [] else isI a ++ isI b) ++ dpl (xs ++ [x]) (ys ++ [y]) = ((if a = b then [] else isI a ++ isI b) ++ dpl xs ys) ++ _
    rw [dpl_snoc x y (by simpa using h), List.append_assoc]
theorem mem_isI {x : V} {i : Int} : i ∈ isI x ↔ x = .int i := by
  cases x <;> simp [isI, eq_comm]
theorem mem_dpl : ∀ {xs ys : List V} {i : Int}, i ∈ dpl xs ys ↔ ∃ (j : Nat) (x y : V), xs[j]? = some x ∧ ys[j]? = some y ∧ x ≠ y ∧ (x = V.int i ∨ y = V.int i)
  | [], ys, i => by
    refine ⟨fun h => ?_, fun ⟨j, x, y, hx, _⟩ => by simp at hx⟩
    unfold dpl at h
    cases h
  | a :: xs, [], i => by
    refine ⟨fun h => ?_, fun ⟨j, x, y, _, hy, _⟩ => by simp at hy⟩
    unfold dpl at h
    cases h
  | a :: xs, b :: ys, i => by
    show i ∈ (if a = b then [] else isI a ++ isI b) ++ dpl xs ys ↔ _
    rw [List.mem_append, mem_dpl (xs := xs) (ys := ys)]
    constructor
    · rintro (h | ⟨j, x, y, hx, hy, h⟩)
      · split at h
        · cases h
        · next ne => exact ⟨0, a, b, rfl, rfl, ne, (List.mem_append.mp h).imp mem_isI.mp mem_isI.mp⟩
      · exact ⟨j + 1, x, y, hx, hy, h⟩
    · rintro ⟨j, x, y, hx, hy, ne, h⟩
      cases j with
      | zero =>
        cases (Option.some.inj hx : a = x)
        cases (Option.some.inj hy : b = y)
        refine .inl ?_
        rw [if_neg ne]
        exact List.mem_append.mpr (h.imp mem_isI.mpr mem_isI.mpr)
      | succ j => exact .inr ⟨j, x, y, hx, hy, ne, h⟩
/-- the least text of n signs that two rows show differently -/
def LeastAt (rs ss : List Rec) (n : Nat) (cs : List Nat) : Prop :=
  (cs = dots n ∧ cuts rs (dots n) ≠ cuts ss (dots n)) ∨ ∃ p, p < n ∧ cs = dotp n p ∧ cuts rs (dots n) = cuts ss (dots n) ∧ cuts rs (dotp n p) ≠ cuts ss (dotp n p) ∧ ∀ q, p < q → q < n → cuts rs (dotp n q) = cuts ss (dotp n q)
theorem LeastAt.one {rs ss : List Rec} {n : Nat} {cs ds : List Nat} (a : LeastAt rs ss n cs) (b : LeastAt rs ss n ds) : cs = ds := by
  rcases a with ⟨rfl, a⟩ | ⟨p, hp, rfl, a0, a1, a2⟩
  · rcases b with ⟨rfl, _⟩ | ⟨q, _, _, b0, _⟩
    · rfl
    · exact absurd b0 a
  · rcases b with ⟨_, b⟩ | ⟨q, hq, rfl, b0, b1, b2⟩
    · exact absurd a0 b
    · rcases Nat.lt_trichotomy p q with h | h | h
      · exact absurd (a2 q h hq) b1
      · rw [h]
      · exact absurd (b2 p h hp) a1
theorem LeastAt.len {rs ss : List Rec} {n : Nat} {cs : List Nat} (a : LeastAt rs ss n cs) : cs.length = n := by
  rcases a with ⟨rfl, _⟩ | ⟨p, hp, rfl, _⟩
  · exact dots_len n
  · exact dotp_len hp
theorem LeastAt.ne {rs ss : List Rec} {n : Nat} {cs : List Nat} (a : LeastAt rs ss n cs) : cuts rs cs ≠ cuts ss cs := by
  rcases a with ⟨rfl, h⟩ | ⟨p, hp, rfl, _, h, _⟩ <;> exact h
theorem LeastAt.sg {rs ss : List Rec} {n : Nat} {cs : List Nat} (a : LeastAt rs ss n cs) : Signs cs := by
  have d : 46 ∈ signs.cps.toList := by decide +kernel
  have z : 48 ∈ signs.cps.toList := by decide +kernel
  rcases a with ⟨rfl, _⟩ | ⟨p, hp, rfl, _⟩
  · intro c hc
    rw [(List.mem_replicate.mp hc).2]
    exact d
  · intro c hc
    rcases List.mem_append.mp hc with hc | hc
    · rw [(List.mem_replicate.mp hc).2]
      exact d
    · rcases List.mem_cons.mp hc with rfl | hc
      · exact z
      · rw [(List.mem_replicate.mp hc).2]
        exact d
theorem LeastAt.symm {rs ss : List Rec} {n : Nat} {cs : List Nat} (a : LeastAt rs ss n cs) : LeastAt ss rs n cs := by
  rcases a with ⟨rfl, h⟩ | ⟨p, hp, rfl, a0, a1, a2⟩
  · exact .inl ⟨rfl, fun e => h e.symm⟩
  · exact .inr ⟨p, hp, rfl, a0.symm, fun e => a1 e.symm, fun q h1 h2 => (a2 q h1 h2).symm⟩
section
variable {rs ss : List Rec} (hr : ∀ r ∈ rs, r.fit) (hs : ∀ r ∈ ss, r.fit) {n : Nat}
include hr hs
theorem dots_iff : cuts rs (dots n) = cuts ss (dots n) ↔ (planV rs n).map (fill (dots n)) = (planV ss n).map (fill (dots n)) := by
  have := shown_iff rs ss (dots n)
  rw [dots_len] at this
  exact this
theorem dotp_iff {p : Nat} (hp : p < n) : cuts rs (dotp n p) = cuts ss (dotp n p) ↔ (planV rs n).map (fill (dotp n p)) = (planV ss n).map (fill (dotp n p)) := by
  have := shown_iff rs ss (dotp n p)
  rw [dotp_len hp] at this
  exact this
/-- the last place that differs tells it -/
theorem least_last (e0 : cuts rs (dots n) = cuts ss (dots n)) {m : Int} (h : Top m (dpl (planV rs n) (planV ss n))) : ∃ p : Nat, m = (p : Int) ∧ p < n ∧ LeastAt rs ss n (dotp n p) := by
  have px : ∀ x ∈ planV rs n, Plain n x := plan_plain hr
  have py : ∀ y ∈ planV ss n, Plain n y := plan_plain hs
  have f0 := (dots_iff hr hs).mp e0
  obtain ⟨j, x, y, hx, hy, ne, h1⟩ := mem_dpl.mp h.1
  obtain ⟨p, rfl, hp⟩ : ∃ p : Nat, m = (p : Int) ∧ p < n := by
    have a : Plain n (.int m) := by
      rcases h1 with rfl | rfl
      · exact px _ (List.mem_of_getElem? hx)
      · exact py _ (List.mem_of_getElem? hy)
    rcases a with ⟨i, e, i0, i1⟩ | ⟨c, e, _⟩
    · cases e
      exact ⟨m.toNat, by omega, by omega⟩
    · cases e
  refine ⟨p, rfl, hp, .inr ⟨p, hp, rfl, e0, fun e => is_diff px py f0 hp ⟨j, x, y, hx, hy, ne, h1⟩ ((dotp_iff hr hs hp).mp e), fun q h2 h3 => (dotp_iff hr hs h3).mpr (not_diff px py f0 h3 fun ⟨i, u, v, hu, hv, nuv, hh⟩ => ?_)⟩⟩
  have := h.2 (q : Int) (mem_dpl.mpr ⟨i, u, v, hu, hv, nuv, hh⟩)
  omega
theorem dpl_some (e0 : cuts rs (dots n) = cuts ss (dots n)) (ne : planV rs n ≠ planV ss n) : dpl (planV rs n) (planV ss n) ≠ [] := by
  obtain ⟨p, hp, i, x, y, hx, hy, h⟩ := some_diff (plan_plain hr) (plan_plain hs) ((dots_iff hr hs).mp e0) ne
  intro e
  have : (p : Int) ∈ dpl (planV rs n) (planV ss n) := mem_dpl.mpr ⟨i, x, y, hx, hy, h⟩
  rw [e] at this
  cases this
/-- rows whose plans are the same show the same -/
theorem plan_show {cs : List Nat} (h : planV rs cs.length = planV ss cs.length) : cuts rs cs = cuts ss cs := (shown_iff rs ss cs).mpr (by rw [h])
end
/-- the first length at which the plans differ -/
structure First (rs ss : List Rec) (n : Nat) : Prop where
  ne : planV rs n ≠ planV ss n
  eq : ∀ m, m < n → planV rs m = planV ss m
theorem First.one {rs ss : List Rec} {n m : Nat} (a : First rs ss n) (b : First rs ss m) : n = m := by
  rcases Nat.lt_trichotomy n m with h | h | h
  · exact absurd (b.eq n h) a.ne
  · exact h
  · exact absurd (a.eq m h) b.ne
theorem First.symm {rs ss : List Rec} {n : Nat} (a : First rs ss n) : First ss rs n := ⟨fun e => a.ne e.symm, fun m h => (a.eq m h).symm⟩
/-- what is told of two rows -/
def Told (rs ss : List Rec) (v : V) : Prop := (v = .non ∧ ∀ n, planV rs n = planV ss n) ∨ ∃ n y, v = .str y ∧ n ≤ 80 ∧ First rs ss n ∧ LeastAt rs ss n y.cps.toList
theorem Told.one {rs ss : List Rec} {u v : V} (a : Told rs ss u) (b : Told rs ss v) : u = v := by
  rcases a with ⟨rfl, a⟩ | ⟨n, y, rfl, _, a, a1⟩
  · rcases b with ⟨rfl, _⟩ | ⟨m, z, _, _, b, _⟩
    · rfl
    · exact absurd (a m) b.ne
  · rcases b with ⟨_, b⟩ | ⟨m, z, rfl, _, b, b1⟩
    · exact absurd (b n) a.ne
    · cases a.one b
      rw [str_ext (a1.one b1)]
theorem Told.symm {rs ss : List Rec} {v : V} (a : Told rs ss v) : Told ss rs v := by
  rcases a with ⟨rfl, a⟩ | ⟨n, y, rfl, h, a, a1⟩
  · exact .inl ⟨rfl, fun n => (a n).symm⟩
  · exact .inr ⟨n, y, rfl, h, a.symm, a1.symm⟩
/-! signs of what is filled in -/
def fillN (cs : List Nat) : V → Nat
  | .int i => cs.getD i.toNat 0
  | .str z => z.cps.toList.getD 0 0
  | _ => 0
theorem fillN_one {n : Nat} {cs : List Nat} {x : V} (h : Plain n x) : fill cs x = .str (one (fillN cs x)) := by
  rcases h with ⟨i, rfl, _⟩ | ⟨c, rfl, _⟩
  · rfl
  · rfl
theorem fillN_map {n : Nat} {cs : List Nat} {xs : List V} (h : ∀ x ∈ xs, Plain n x) : xs.map (fill cs) = ones (xs.map (fillN cs)) := by
  unfold ones
  rw [List.map_map]
  exact List.map_congr_left fun x hx => fillN_one (h x hx)
end Gu
namespace Gu
open PySem PySem.Spec PyProof.Rows L2
theorem stF_same {K : PySem.W.Frag} {H G : Hp} {l : Addr} {xs : List V} (a : Same H G) (h : SqT K H l xs) : SqT K G l xs := by
  rcases h with (h | ⟨o, h⟩) | h
  · exact .inl (.inl (a _ _ h))
  · exact .inl (.inr ⟨o, a _ _ h⟩)
  · exact .inr h
theorem same_offF {H J : Hp} {M : Addr} {o : HO} (s : Same H J) (n : H M = none) : Same H (upd J M o) := fun b x e => by
  rw [upd_ne (ne_of_none e n)]
  exact s b x e
theorem takeF_next {α : Type} {qs : List α} {i : Nat} {q : α} (h : qs[i]? = some q) : qs.take (i + 1) = qs.take i ++ [q] := by
  rw [List.take_add_one, h]
  rfl
theorem RowAt.fits {C : Addr} {H : Hp} {a : Addr} {rs : List (Addr × Rec)} (h : RowAt C H a rs) : ∀ r ∈ rs.map (·.2), r.fit := fun r hr => by
  obtain ⟨q, hq, rfl⟩ := List.mem_map.mp hr
  exact (h.sh q hq).2
end Gu
namespace Gu
open PySem PySem.Spec PyProof.Rows L2
/-! text * int, however often -/
def rRepN : R2 := fun x y H Q => ∃ z k, x = .str z ∧ y = .int k ∧ 0 ≤ k ∧ k ≤ 1000 ∧ z.length ≤ 1000 ∧ ∀ y : Str, y.cps.toList = (List.replicate k.toNat z.cps.toList).flatten → Q (.str y) H
theorem fold_repN (z : Array Nat) : ∀ (k : Nat) (acc : Array Nat), ((List.replicate k z).foldl (· ++ ·) acc).toList = acc.toList ++ (List.replicate k z.toList).flatten
  | 0, acc => by simp
  | k + 1, acc => by
    rw [List.replicate_succ, List.foldl_cons, fold_repN z k, List.replicate_succ, List.flatten_cons, Array.toList_append, List.append_assoc]
theorem op_mul_strN {X : Cx} : OpR X (binaryOp .Mult) rRepN := by
  intro pins s σ H x y v u Q I rx ry h
  obtain ⟨z, k, rfl, rfl, k0, k1, z1, q⟩ := h
  obtain ⟨t, rfl⟩ := rx
  obtain ⟨t', rfl⟩ := ry
  refine PySem.P.mul_str ?_ (fun h1 _ => Int.not_lt.mpr ((Int.le_ediv_iff_mul_le (by omega)).mpr ?_)) (fun _ _ => decide_eq_false ?_) ?_
  · rw [Bool.or_eq_false_iff]
    exact ⟨decide_eq_false (by omega), decide_eq_false (by omega)⟩
  · have m1 : (z.length : Int) * k ≤ 1000 * 1000 := Int.mul_le_mul (by omega) k1 (by omega) (by omega)
    omega
  · have m2 : z.length * k.toNat ≤ 1000 * 1000 := Nat.mul_le_mul z1 (by omega)
    rw [sizeLine_eq]
    omega
  · split
    · next h1 =>
      refine ⟨by decide, .str Str.empty, H, I.tok _, ⟨_, rfl⟩, q _ ?_⟩
      rw [show k.toNat = 0 by omega]
      rfl
    · split
      · next h1 h2 =>
        refine ⟨.str z, H, I, ⟨_, rfl⟩, q _ ?_⟩
        rcases Bool.or_eq_true _ _ ▸ h2 with e | e
        · have e := eq_of_beq e
          rw [e]
          simp
        · have e : z.cps.toList.length = 0 := eq_of_beq e
          rw [List.eq_nil_of_length_eq_zero e]
          simp
      · have m2 : z.length * k.toNat ≤ 1000 * 1000 := Nat.mul_le_mul z1 (by omega)
        have e : ((List.replicate k.toNat z.cps).foldl (· ++ ·) #[]).toList = (List.replicate k.toNat z.cps.toList).flatten := by
          rw [fold_repN]
          rfl
        refine ⟨?_, .str ⟨(List.replicate k.toNat z.cps).foldl (· ++ ·) #[]⟩, H, I.tok _, ⟨_, rfl⟩, q _ e⟩
        show ((List.replicate k.toNat z.cps).foldl (· ++ ·) #[]).size ≤ _
        rw [← Array.length_toList, e, PyProof.Rows.lm_len_rep_flat]
        show k.toNat * z.length ≤ sizeLine
        rw [Nat.mul_comm, sizeLine_eq]
        omega
/-- a call without arguments -/
theorem pe_own0 {X : Cx} {k j : Nat} {x : Str} {sp : Sp} {p pos : Pos} (c : Cal X.prog X.w X.K X.mg X.base k x [] sp) (hr : Room j X.A) (hk : k ≤ j) (hg : Gl X x) (hdb : (x == ("__debug__" : Str)) = false := by decide) : PE X (.Call (.Name x p) [] [] pos) (tCall sp [] E0 tNil) := by
  obtain ⟨f, fd, F, hm, kp, b, _⟩ := c.ex
  exact pe_call0 F (hr.mono hk) hg hm kp b .nil pass0 hdb
def rIsiK (K : PySem.W.Frag) : List V → Hp → VK → Prop := rIsi K
section
variable {P : Program} {w : World} {K : PySem.W.Frag} {mg : Str → Option Value} {base : Heap} {C : Addr}
theorem Isa.str_int {H : Hp} {z : Str} : Isa K H (.str z) "int" false := ⟨_, .base (.str z), kit_ty (by decide +kernel)⟩
/-! ### telling_lengths -/
def spTelling : Sp := fun vs H Q _ => vs = [] ∧ ∀ (T : Addr), H T = none → Q (.ref T) (upd H T (.lst (rgV 0 ((81 : Nat) : Int))))
theorem cal_telling (B : Bi mg) (D : At K mg "telling_lengths" s_telling_lengths ps_telling_lengths) : Cal P w K mg base 1 "telling_lengths" ps_telling_lengths spTelling := by
  refine D.cal sc_telling_lengths (fun vs H Q E h => ?_) (fun f cdv A outer s H vs Q E hr h => ?_)
  · obtain ⟨rfl, _⟩ := h
    rfl
  · obtain ⟨rfl, k⟩ := h
    refine ⟨_, (pss_one (ps_ret (pe_listRg (by rfl) (by rfl) B.list (prg_1 (by rfl) B.range (pe_op op_add (pe_op op_mul pe_int (pe_cst B.MOST_SIGNS (by rfl))) pe_int))))), ?_⟩
    exact ⟨_, _, rfl, rfl, .inl ⟨by decide, by decide⟩, _, _, rfl, rfl, _, rfl, RgOk.of_le (by decide) (by decide) (by decide) (by decide), fun T nT => k T nT⟩
/-! ### filled_in -/
def spFilled (K : PySem.W.Frag) : Sp := fun vs H Q _ => ∃ (a : Addr) (xs : List V) (z : Str), vs = [.ref a, .str z] ∧ SqT K H a xs ∧ (∀ x ∈ xs, Plain z.cps.toList.length x) ∧ xs.length ≤ 600 ∧ z.cps.toList.length ≤ 600 ∧ ∀ (y : Str) (G : Hp), Same H G → y.cps.toList = xs.map (fillN z.cps.toList) → Q (.str y) G
/-! ### differing_places -/
def spDiffP (K : PySem.W.Frag) : Sp := fun vs H Q _ => ∃ (a b : Addr) (xs ys : List V) (n : Nat), vs = [.ref a, .ref b] ∧ SqT K H a xs ∧ SqT K H b ys ∧ xs.length = ys.length ∧ xs.length ≤ 600 ∧ (∀ x ∈ xs, Plain n x) ∧ (∀ y ∈ ys, Plain n y) ∧ ∀ (p : Addr) (G : Hp), G p = some (.lst ((dpl xs ys).map V.int)) → Same H G → Q (.ref p) G
theorem scal_plain {n m : Nat} {x y : V} (hx : Plain n x) (hy : Plain m y) : scal x y = true := by
  rcases hx with ⟨i, rfl, _⟩ | ⟨c, rfl, _⟩ <;> rcases hy with ⟨j, rfl, _⟩ | ⟨d, rfl, _⟩ <;> rfl
theorem isI_len (x : V) : (isI x).length ≤ 1 := by
  cases x <;> simp [isI]
theorem dpl_len : ∀ xs ys : List V, (dpl xs ys).length ≤ 2 * xs.length
  | [], _ => Nat.le_refl _
  | _ :: _, [] => Nat.zero_le _
  | x :: xs, y :: ys => by
    have a := isI_len x
    have b := isI_len y
    have c := dpl_len xs ys
    show ((if x = y then [] else isI x ++ isI y) ++ dpl xs ys).length ≤ 2 * (xs.length + 1)
    rw [List.length_append]
    split
    · rw [List.length_nil]
      omega
    · rw [List.length_append]
      omega
/-! ### least_difference -/
def spLeastD (K : PySem.W.Frag) : Sp := fun vs H Q _ => ∃ (a b : Addr) (rs ss : List Rec) (n : Nat), vs = [.ref a, .ref b, .int (n : Int)] ∧ SqT K H a (planV rs n) ∧ SqT K H b (planV ss n) ∧ (∀ r ∈ rs, r.fit) ∧ (∀ r ∈ ss, r.fit) ∧ n ≤ 80 ∧ planV rs n ≠ planV ss n ∧ ∀ (y : Str) (G : Hp), Same H G → LeastAt rs ss n y.cps.toList → Q (.str y) G
theorem plan_len {rs : List Rec} (hf : ∀ r ∈ rs, r.fit) {n : Nat} (hn : n ≤ 500) : (planV rs n).length ≤ 500 := by
  unfold planV
  rw [cutsV_length, rg_len]
  exact lens_le rs hf hn
theorem rep_dot {z y : Str} (hz : z.cps.toList = [46]) {k : Nat} (e : y.cps.toList = (List.replicate k z.cps.toList).flatten) : y.cps.toList = List.replicate k 46 := by
  rw [e, hz]
  clear e
  induction k with
  | zero => rfl
  | succ k ih => rw [List.replicate_succ, List.flatten_cons, ih]; rfl
end
end Gu
namespace Gu
open PySem PySem.Spec PyProof.Rows L2
def spRight : Sp := fun vs H Q _ => ∃ (p : Addr), vs = [.ref p] ∧ Pot H p ∧ ∀ G, Ladled p H G → Q (.bl true) G
end Gu
namespace Gu
open PySem PySem.Spec PyProof.Rows L2
/-! ### answers written out -/
/-- None, a bool, or a short text of signs -/
inductive Ans : V → Prop
  | non : Ans .non
  | bl (b : Bool) : Ans (.bl b)
  | str {y : Str} (l : y.cps.toList.length ≤ 500) (s : Signs y.cps.toList) : Ans (.str y)
def adat : V → PyData
  | .bl b => .bool b
  | .str y => .str y
  | _ => .none
theorem Ans.dp {K : PySem.W.Frag} {H : Hp} {v : V} (h : Ans v) : Dp K H v (adat v) := by
  cases h with
  | non => exact .non
  | bl b => exact .bl b
  | str l s => exact .str _
theorem Ans.fine {v : V} (h : Ans v) : Fine 0 500 (adat v) := by
  cases h with
  | non => exact Fine.none.mono (Nat.le_refl _) (by decide)
  | bl b => exact (Fine.bool b).mono (Nat.le_refl _) (by decide)
  | str l s =>
    have a : ∀ c ∈ signs.cps.toList, c < 16 ^ 8 := by decide +kernel
    exact Fine.str (fun c hc => a c (s c hc)) l
theorem ans_all {K : PySem.W.Frag} {H : Hp} : ∀ {vs : List V}, (∀ v ∈ vs, Ans v) → DpAll K H vs (vs.map adat)
  | [], _ => .nil
  | v :: vs, h => .cons (h v (List.mem_cons_self ..)).dp (ans_all fun u hu => h u (List.mem_cons_of_mem _ hu))
theorem ans_fine {vs : List V} (l : vs.length ≤ 100) (h : ∀ v ∈ vs, Ans v) : Fine 60 100000 (.list (vs.map adat)) := by
  have a : FineAll 0 500 (vs.map adat) := .of fun d hd => by
    obtain ⟨v, hv, rfl⟩ := List.mem_map.mp hd
    exact (h v hv).fine
  refine a.list.mono (by decide) ?_
  rw [List.length_map]
  have := Nat.mul_le_mul_right (500 + 1) l
  omega
theorem Told.ans {rs ss : List Rec} {v : V} (h : Told rs ss v) : Ans v := by
  rcases h with ⟨rfl, _⟩ | ⟨n, y, rfl, hn, _, L⟩
  · exact .non
  · exact .str (by rw [L.len]; omega) L.sg
theorem Told.self {rs : List Rec} {v : V} (h : Told rs rs v) : v = .non := by
  rcases h with ⟨rfl, _⟩ | ⟨n, y, rfl, _, f, _⟩
  · rfl
  · exact absurd rfl f.ne
end Gu
namespace Gu
open PySem PySem.Spec PyProof.Rows L2
/-! ### (number, text) < (number, text) -/
def pairLt (m n : Int) (y z : Str) : Bool := if (m == n) = true then (if (y == z) = true then false else decide (y.cps.toList < z.cps.toList)) else decide (m < n)
def rLtP (K : PySem.W.Frag) : R2 := fun x y H Q => ∃ (a b : Addr) (m n : Int) (u v : Str), x = .ref a ∧ y = .ref b ∧ SqT K H a [.int m, .str u] ∧ SqT K H b [.int n, .str v] ∧ Q (.bl (pairLt m n u v)) H
theorem op_ltP {X : Cx} (hu : X.A.units < cLine) : OpR X (compareOp .Lt) (rLtP X.K) := by
  intro pins s σ H x y v u Q I rx ry h
  obtain ⟨a, b, m, n, y1, z1, rfl, rfl, ha, hb, q⟩ := h
  cases rx
  cases ry
  obtain ⟨its, r1, p1, _⟩ := I.tuple ha
  obtain ⟨its2, r2, p2, _⟩ := I.tuple hb
  cases r1 with
  | cons a1 r1 =>
    cases r1 with
    | cons a2 r1 =>
      cases r1
      cases r2 with
      | cons b1 r2 =>
        cases r2 with
        | cons b2 r2 =>
          cases r2
          obtain ⟨t1, rfl⟩ := a1
          obtain ⟨t2, rfl⟩ := a2
          obtain ⟨t3, rfl⟩ := b1
          obtain ⟨t4, rfl⟩ := b2
          have R := Ob.RcOp.tuples_lt (A := X.A) (s := s) (e := fun j => if j = 0 then (m == n) else (y1 == z1)) (r := fun j => if j = 0 then decide (m < n) else decide (y1.cps.toList < z1.cps.toList)) p1 p2 hu (fun j h1 h2 => by
            match j, h1, h2 with
            | 0, _, _ => exact SeqAt.EqAt.int_int _ _ _ _
            | 1, _, _ => exact SeqAt.EqAt.str_str _ _ _ _) (fun j h1 h2 _ => by
            match j, h1, h2 with
            | 0, _, _ => exact Ob.RcOp.lt_int _ _ _ _
            | 1, _, _ => exact fun _ _ _ _ h => PyProof.Rows.lt_str h)
          have e : Ob.lexAt (fun j => if j = 0 then (m == n) else (y1 == z1)) (fun j => if j = 0 then decide (m < n) else decide (y1.cps.toList < z1.cps.toList)) (decide ((#[Value.int m t1, Value.str y1 t2] : Array Value).size < (#[Value.int n t3, Value.str z1 t4] : Array Value).size)) 0 2 = pairLt m n y1 z1 := by
            rw [Ob.lexAt_succ, Ob.lexAt_succ, Ob.lexAt_zero]
            rfl
          exact R X.prog X.w X.xe (EP X pins σ Q) (by
            show EP X pins σ Q (.bool (Ob.lexAt _ _ _ 0 2)) s
            rw [e]
            exact ⟨.bl _, H, I, rfl, q⟩)
theorem pairLt_iff {m n : Int} {y z : Str} (h : pairLt m n y z = true) : m < n ∨ (m = n ∧ y.cps.toList < z.cps.toList) := by
  unfold pairLt at h
  split at h
  · next e =>
    split at h
    · cases h
    · exact .inr ⟨eq_of_beq e, of_decide_eq_true h⟩
  · exact .inl (of_decide_eq_true h)
/-! ### smaller texts are shown alike -/
theorem sign_low {c : Nat} (h : c ∈ signs.cps.toList) : c = 46 ∨ 48 ≤ c := by
  have a : ∀ c ∈ signs.cps.toList, c = 46 ∨ 48 ≤ c := by decide +kernel
  exact a c h
theorem not_dots : ∀ (n : Nat) (ds : List Nat), Signs ds → ds.length = n → ¬ ds < List.replicate n 46
  | 0, ds, _, l, h => by
    rw [List.eq_nil_of_length_eq_zero l] at h
    exact absurd h (by decide)
  | n + 1, [], _, l, _ => by cases l
  | n + 1, d :: ds, sd, l, h => by
    rw [List.replicate_succ, List.cons_lt_cons_iff] at h
    have a := sign_low (sd d (List.mem_cons_self ..))
    rcases h with h | ⟨_, h⟩
    · omega
    · exact not_dots n ds (fun c hc => sd c (List.mem_cons_of_mem _ hc)) (by simpa using l) h
theorem low_dotp : ∀ (p k : Nat) (ds : List Nat), Signs ds → ds.length = p + 1 + k → ds < List.replicate p 46 ++ 48 :: List.replicate k 46 → ∀ i, i ≤ p → ds[i]? = some 46
  | 0, k, [], _, l, _, _, _ => by
    rw [List.length_nil] at l
    omega
  | 0, k, d :: ds, sd, l, h, i, hi => by
    have a := sign_low (sd d (List.mem_cons_self ..))
    have h : d :: ds < 48 :: List.replicate k 46 := h
    rw [List.cons_lt_cons_iff] at h
    rcases h with h | ⟨_, h⟩
    · rw [show i = 0 by omega, show d = 46 by omega]
      rfl
    · exact absurd h (not_dots k ds (fun c hc => sd c (List.mem_cons_of_mem _ hc)) (by rw [List.length_cons] at l; omega))
  | p + 1, k, [], _, l, _, _, _ => by
    rw [List.length_nil] at l
    omega
  | p + 1, k, d :: ds, sd, l, h, i, hi => by
    have a := sign_low (sd d (List.mem_cons_self ..))
    rw [List.replicate_succ, List.cons_append, List.cons_lt_cons_iff] at h
    rcases h with h | ⟨rfl, h⟩
    · omega
    · cases i with
      | zero => rfl
      | succ i =>
        rw [List.getElem?_cons_succ]
        exact low_dotp p k ds (fun c hc => sd c (List.mem_cons_of_mem _ hc)) (by rw [List.length_cons] at l; omega) h i (by omega)
theorem smaller_same {rs ss : List Rec} (hr : ∀ r ∈ rs, r.fit) (hs : ∀ r ∈ ss, r.fit) {n : Nat} {cs ds : List Nat} (L : LeastAt rs ss n cs) (dl : ds.length = n) (sd : Signs ds) (lt : ds < cs) : cuts rs ds = cuts ss ds := by
  rcases L with ⟨rfl, _⟩ | ⟨p, hp, rfl, e0, _, high⟩
  · exact absurd lt (not_dots n ds sd dl)
  · have low := low_dotp p (n - p - 1) ds sd (by omega) lt
    have px : ∀ x ∈ planV rs n, Plain n x := plan_plain hr
    have py : ∀ y ∈ planV ss n, Plain n y := plan_plain hs
    have f0 := (dots_iff hr hs).mp e0
    have el : (planV rs n).length = (planV ss n).length := by
      have := congrArg List.length f0
      rw [List.length_map, List.length_map] at this
      exact this
    have few : ∀ q : Nat, q < n → Diff (planV rs n) (planV ss n) q → q ≤ p := fun q hq d => Decidable.byContradiction fun z => is_diff px py f0 hq d ((dotp_iff hr hs hq).mp (high q (by omega) hq))
    have at46 : ∀ i : Int, 0 ≤ i → i.toNat ≤ p → fill ds (.int i) = fill (dots n) (.int i) := fun i i0 ip => by
      show V.str (one _) = V.str (one _)
      rw [dots_at (by omega), List.getD_eq_getElem?_getD, low i.toNat ip]
      rfl
    rw [shown_iff, dl]
    refine List.ext_getElem? fun i => ?_
    rw [List.getElem?_map, List.getElem?_map]
    by_cases hi : i < (planV rs n).length
    · have hx := List.getElem?_eq_getElem hi
      have hi2 : i < (planV ss n).length := by omega
      have hy := List.getElem?_eq_getElem hi2
      rw [hx, hy]
      show some _ = some _
      have b := same_at px py f0 hx hy
      have qx := px _ (List.getElem_mem hi)
      have qy := py _ (List.getElem_mem hi2)
      generalize (planV rs n)[i] = x at hx b qx
      generalize (planV ss n)[i] = y at hy b qy
      by_cases e : x = y
      · rw [e]
      · have fx : fill ds x = fill (dots n) x := by
          rcases qx with ⟨j, rfl, j0, j1⟩ | ⟨c, rfl, _⟩
          · exact at46 j j0 (few j.toNat (by omega) ⟨i, _, _, hx, hy, e, .inl (by rw [Int.toNat_of_nonneg j0])⟩)
          · rfl
        have fy : fill ds y = fill (dots n) y := by
          rcases qy with ⟨j, rfl, j0, j1⟩ | ⟨c, rfl, _⟩
          · exact at46 j j0 (few j.toNat (by omega) ⟨i, _, _, hx, hy, e, .inr (by rw [Int.toNat_of_nonneg j0])⟩)
          · rfl
        rw [fx, fy, b]
    · rw [List.getElem?_eq_none (by omega), List.getElem?_eq_none (by omega)]
/-- what is told, of a smaller text -/
theorem Told.smaller {rs ss : List Rec} (hr : ∀ r ∈ rs, r.fit) (hs : ∀ r ∈ ss, r.fit) {y z : Str} (h : Told rs ss (.str y)) (sz : Signs z.cps.toList) (lt : pairLt z.length y.length z y = true) : cuts rs z.cps.toList = cuts ss z.cps.toList := by
  rcases h with ⟨e, _⟩ | ⟨n, y', e, _, f, L⟩
  · cases e
  · cases e
    have yl : y.length = n := L.len
    have zl : z.length = z.cps.toList.length := rfl
    rcases pairLt_iff lt with h | ⟨h1, h2⟩
    · exact plan_show hr hs (f.eq _ (by omega))
    · exact smaller_same hr hs L (by omega) sz h2
/-- rows that are alike are unlike a third one for the same text -/
theorem Told.alike {rs ss os : List Rec} (hr : ∀ r ∈ rs, r.fit) (hs : ∀ r ∈ ss, r.fit) (e : ∀ n, planV rs n = planV ss n) {v : V} (h : Told rs os v) : Told ss os v := by
  have c : ∀ cs : List Nat, cuts ss cs = cuts rs cs := fun cs => (plan_show hr hs (e cs.length)).symm
  rcases h with ⟨rfl, h⟩ | ⟨n, y, rfl, hn, f, L⟩
  · exact .inl ⟨rfl, fun n => (e n).symm.trans (h n)⟩
  · refine .inr ⟨n, y, rfl, hn, ⟨fun q => f.ne ((e n).trans q), fun m hm => (e m).symm.trans (f.eq m hm)⟩, ?_⟩
    rcases L with ⟨a, b⟩ | ⟨p, hp, a, b0, b1, b2⟩
    · exact .inl ⟨a, by rw [c]; exact b⟩
    · exact .inr ⟨p, hp, a, by rw [c]; exact b0, by rw [c]; exact b1, fun q h1 h2 => by rw [c]; exact b2 q h1 h2⟩
theorem Told.non_all {rs ss : List Rec} {v : V} (h : Told rs ss v) (e : v = .non) : ∀ n, planV rs n = planV ss n := by
  rcases h with ⟨_, h⟩ | ⟨n, y, rfl, _⟩
  · exact h
  · cases e
end Gu
namespace Gu
open PySem PySem.Spec PyProof.Rows L2
theorem ToldsAt.off {H : Hp} {D p : Addr} {ps : List (Addr × Rec)} (h : ToldsAt H D ps) (hp : Pot H p) (l : 1 ≤ ps.length) : D ≠ p := fun e => by
  subst e
  obtain ⟨x, y, z, e⟩ := hp
  have a := h.ls.symm.trans e
  cases ps with
  | nil => cases l
  | cons q ps => cases a
theorem same_len {ps rs : List (Addr × Rec)} (e : rs.map (·.2) = ps.map (·.2)) : rs.length = ps.length := by
  have := congrArg List.length e
  rw [List.length_map, List.length_map] at this
  exact this
end Gu
namespace Gu
open PySem PySem.Spec PyProof.Rows L2
/-! ### zip of a tuple and a text -/
/-- the tuple at a as it stands at each turn, with the signs of y, in new pairs -/
def ItzS (K : PySem.W.Frag) (a : Addr) (y : Str) : It where
  go := fun i H => ∃ (xs : List V) (x : V) (c : Nat), SqT K H a xs ∧ xs[i]? = some x ∧ y.cps[i]? = some c
  yld := fun i H v G => ∃ T x c, v = .ref T ∧ H T = none ∧ G = upd H T (.tup [x, .str ⟨#[c]⟩]) ∧ (∀ xs, SqT K H a xs → xs[i]? = some x) ∧ y.cps[i]? = some c
  stop := fun i H => ∃ xs : List V, SqT K H a xs ∧ i ≤ xs.length ∧ i ≤ y.cps.size ∧ (i = xs.length ∨ i = y.cps.size)
theorem turn_zipS {P : Program} {w : World} {K : PySem.W.Frag} {es : List Expr} {kk : Nat} {tp : Pos} {a z TI TO i1 i2 : Addr} {y : Str} {t : Tok} (S : ZipSep2 z TI TO i1 i2 [i1, a] [i2]) :
    Turn P w K (.Tuple es kk tp) (ItzS K a y) [z, TI, TO, i1, i2] z (fun i h => IsZip h z TI TO .none ∧ IsTupOf2 h TI (.ref i1) (.ref i2) ∧ (∃ u v, IsTupOf2 h TO u v) ∧ h.IsTupleIter i1 a i ∧ h.IsStrIter i2 (strIterType y) y t i) where
  mem := List.mem_cons_self ..
  obj := fun i h st c hc => by
    obtain ⟨hz, hTI, ⟨u, v, hTO⟩, ⟨o1, e1, _, d1⟩, ⟨o2, e2, _, d2⟩⟩ := st
    simp only [List.mem_cons, List.not_mem_nil, or_false] at hc
    rcases hc with rfl | rfl | rfl | rfl | rfl
    · exact ⟨_, hz, fun v q => nomatch q⟩
    · exact ⟨_, hTI, fun v q => nomatch q⟩
    · exact ⟨_, hTO, fun v q => nomatch q⟩
    · exact ⟨o1, e1, fun v q => by rw [d1] at q; cases q⟩
    · exact ⟨o2, e2, fun v q => by rw [d2] at q; cases q⟩
  keep := fun i h g st k => by
    obtain ⟨hz, hTI, ⟨u, v, hTO⟩, h1, h2⟩ := st
    exact ⟨k z (by simp) _ hz, k TI (by simp) _ hTI, ⟨u, v, k TO (by simp) _ hTO⟩, h1.at fun o q => k i1 (by simp) o q, by
      obtain ⟨o, e, c, d⟩ := h2
      exact ⟨o, k i2 (by simp) o e, c, d⟩⟩
  item := by
    intro X hP hw hK hc i pins s σ H E I hf st hg
    subst hP hw hK
    obtain ⟨hz, hTI, ⟨u0, v0, hTO⟩, h1, h2⟩ := st
    obtain ⟨xs, x, c, hq, hx, hc0⟩ := hg
    obtain ⟨its, rv, p1, _⟩ := I.tuple hq
    obtain ⟨u, hu, ru⟩ := rv.get hx
    have p1' : s.heap.IsTuple a its.toArray := p1
    have nai : a ≠ i1 := fun e => by
      obtain ⟨o1, g1, c1, _⟩ := p1'
      obtain ⟨o2, g2, c2, _⟩ := h1
      rw [e] at g1
      cases g1.symm.trans g2
      exact absurd (Value.type.inj (c1.symm.trans c2)) (by decide)
    have hd : X.A.in1.handled = none := I.ok.hd hc
    have hzl : z < s.heap.objs.size := Heap.lt_size hz
    have il : i < its.toArray.size := by
      have := (List.getElem?_eq_some_iff.mp hu).1
      simpa using this
    have iy : i < y.cps.size := (Array.getElem?_eq_some_iff.mp hc0).1
    refine wpAny_pyNext_zipD2_item S (Draws.tuple hd i1 a nai its.toArray) (Draws.text hd i2 y t) hz hTI hTO ⟨h1, p1'⟩ h2 il iy fun x1 x2 h' tk y1 y2 b1 b2 d1 d2 b5 b6 b7 => ?_
    obtain rfl : x1 = u := by
      have : its[i]? = some x1 := by simpa using y1
      rw [hu] at this
      exact (Option.some.inj this).symm
    obtain ⟨c', tc, hc1, rfl⟩ := y2
    obtain rfl : c' = c := Option.some.inj (hc1.symm.trans hc0)
    refine ⟨_, rfl, wpAny_letOwnedTupleGo_zip (s := { s with heap := h', toks := tk }) b1 fun h'' z'' sb => ?_⟩
    have hT2 : h''.get? s.heap.objs.size = some { cls := .type "tuple", data := .seq #[x1, .str ⟨#[c']⟩ tc] } := (sb.2 _ (Nat.ne_of_gt hzl)).trans b5
    have nw : ObjOk X.prog X.w (upd H s.heap.objs.size (.tup [x, .str ⟨#[c']⟩])) h'' s.heap.objs.size (.tup [x, .str ⟨#[c']⟩]) := ⟨by show 2 ≤ sizeLine; decide, [x1, .str ⟨#[c']⟩ tc], .cons ru (.cons ⟨_, rfl⟩ .nil), ⟨_, hT2, rfl, _, rfl⟩⟩
    have I1 : Inv X pins σ (upd H s.heap.objs.size (.tup [x, .str ⟨#[c']⟩])) { s with heap := h'', toks := tk } :=
      I.turnedNew (ch := [z, TI, TO, i1, i2]) (fun c o hb q => (sb.2 c (fun q' => hb (by simp [q']))).trans (b7 c o (fun q' => hb (by simp [q'])) (fun q' => hb (by simp [q'])) (fun q' => hb (by simp [q'])) (fun q' => hb (by simp [q'])) q)) hf (Nat.le_refl _) nw
    refine ⟨.ref s.heap.objs.size, _, I1, rfl, ⟨_, x, c', rfl, I.hok.fresh (Nat.le_refl _), rfl, fun l hl => by rw [I.tuple_inj hl hq]; exact hx, hc0⟩, ⟨z'', ?_, ⟨x1, .str ⟨#[c']⟩ tc, ?_⟩, ?_, ?_⟩, fun c hcm => ?_⟩
    · exact (sb.2 _ S.TIz).trans (b7 _ _ S.TIz S.TITO S.TIi1 S.TIi2 hTI)
    · exact (sb.2 _ S.TOz).trans b2
    · exact d1.1.at fun o q => (sb.2 _ (Ne.symm S.zi1)).trans q
    · obtain ⟨o, e, cc, dd⟩ := d2
      exact ⟨o, (sb.2 _ (Ne.symm S.zi2)).trans e, cc, dd⟩
    · have hlt : c < s.heap.objs.size := by
        simp only [List.mem_cons, List.not_mem_nil, or_false] at hcm
        rcases hcm with rfl | rfl | rfl | rfl | rfl
        · exact hzl
        · exact Heap.lt_size hTI
        · exact Heap.lt_size hTO
        · obtain ⟨_, e1, _⟩ := h1
          exact Heap.lt_size e1
        · obtain ⟨_, e2, _⟩ := h2
          exact Heap.lt_size e2
      rw [upd_ne (Nat.ne_of_lt hlt)]
      exact (hf c hcm).1
  done := by
    intro X hP hw hK hc i pins s σ H E I hf st hg
    subst hP hw hK
    obtain ⟨hz, hTI, ⟨u0, v0, hTO⟩, h1, h2⟩ := st
    obtain ⟨xs, hq, l1, l2, hend⟩ := hg
    obtain ⟨its, rv, p1, _⟩ := I.tuple hq
    have p1' : s.heap.IsTuple a its.toArray := p1
    have nai : a ≠ i1 := fun e => by
      obtain ⟨o1, g1, c1, _⟩ := p1'
      obtain ⟨o2, g2, c2, _⟩ := h1
      rw [e] at g1
      cases g1.symm.trans g2
      exact absurd (Value.type.inj (c1.symm.trans c2)) (by decide)
    have hd : X.A.in1.handled = none := I.ok.hd hc
    have el : its.toArray.size = xs.length := by
      rw [List.size_toArray]
      exact rv.length.symm
    exact wpAny_pyNext_zipD2_end S (Draws.tuple hd i1 a nai its.toArray) (Draws.text hd i2 y t) hz hTI hTO ⟨h1, p1'⟩ h2 (by omega) l2 (by omega) fun h' tk hk => ⟨rfl, I.turnedL (t' := tk) (ch := [z, TI, TO, i1, i2]) (fun c o hb q =>
      hk c o (fun q' => hb (by simp [q'])) (fun q' => hb (by simp [q'])) (fun q' => hb (by simp [q'])) (fun q' => hb (by simp [q'])) q) hf⟩
  self := fun A i s Q E st h => wpAny_pyIter_zip st.1 h
theorem sepS (n a : Nat) (h : a < n) : ZipSep2 (n + 4) (n + 2) (n + 3) n (n + 1) [n, a] [n + 1] where
  TIz := by show (n + 2 : Nat) ≠ n + 4; omega
  TOz := by show (n + 3 : Nat) ≠ n + 4; omega
  TITO := by show (n + 2 : Nat) ≠ n + 3; omega
  TIi1 := by show (n + 2 : Nat) ≠ n; omega
  mem1 := List.mem_cons_self ..
  zf1 := by simp only [List.mem_cons, List.not_mem_nil, or_false]; show ¬ ((n + 4 : Nat) = n ∨ (n + 4 : Nat) = a); omega
  Tf1 := by simp only [List.mem_cons, List.not_mem_nil, or_false]; show ¬ ((n + 3 : Nat) = n ∨ (n + 3 : Nat) = a); omega
  TIi2 := by show (n + 2 : Nat) ≠ n + 1; omega
  mem2 := List.mem_cons_self ..
  zf2 := by simp only [List.mem_cons, List.not_mem_nil, or_false]; show ¬ (n + 4 : Nat) = n + 1; omega
  Tf2 := by simp only [List.mem_cons, List.not_mem_nil, or_false]; show ¬ (n + 3 : Nat) = n + 1; omega
  sep1_2 := by simp only [List.mem_cons, List.not_mem_nil, or_false]; show ¬ (n : Nat) = n + 1; omega
  sep2_1 := by simp only [List.mem_cons, List.not_mem_nil, or_false]; show ¬ ((n + 1 : Nat) = n ∨ (n + 1 : Nat) = a); omega
def iZipS (K : PySem.W.Frag) (ta : TA) : TI := fun σ H R => ta σ H fun vs G => ∃ (a : Addr) (y : Str) (xs : List V), vs = [.ref a, .str y] ∧ SqT K G a xs ∧ R (ItzS K a y) G
theorem pi_zipS {X : Cx} {e e2 : Expr} {ta : TA} {p pos tp : Pos} {es : List Expr} {kk : Nat} (hg : Gl X "zip") (hm : X.mg "zip" = none) (ha : PA X [e, e2] ta)
    (hs : starEach [e, e2] X.env = (false, eval e X.env) :: starEach [e2] X.env := by rfl) (hpl : (backTo pos (starEach [e2] X.env)).any (·.1) = false := by rfl) :
    PI X (.Tuple es kk tp) (.Call (.Name "zip" p) [e, e2] [] pos) (iZipS X.K ta) := by
  refine ⟨fun pins s σ H R I h => ?_⟩
  refine Call_ (ld_blt I hg hm PyProof.Rows.boot_zip (PyProof.Rows.callWith_type1 (thn (ha.run pos pins s σ H _ I h) fun us s1 ⟨vs, G, I1, r1, q1⟩ => ?_) hs hpl))
  obtain ⟨a, y, xs, ex, hq, q⟩ := q1
  subst ex
  cases r1 with
  | cons r rr =>
    cases rr with
    | cons r' rr =>
      cases rr
      cases r
      obtain ⟨t, rfl⟩ := r'
      obtain ⟨its, rv, p1, _⟩ := I1.tuple hq
      have p1' : s1.heap.IsTuple a its.toArray := p1
      have al : a < s1.heap.objs.size := by
        obtain ⟨o, ho, _⟩ := p1'
        exact Heap.lt_size ho
      refine zip_begins2 (begins_tuple a its.toArray) (begins_text y t) p1' trivial fun h' hz hTI hTO e1 e2 hsz hk => wpAny_pyIter_zip hz ?_
      have I2 : Inv X pins σ G { s1 with heap := h' } := I1.kept (t' := s1.toks) hk
      have S := sepS s1.heap.objs.size a al
      refine ⟨s1.heap.objs.size + 4, [s1.heap.objs.size + 4, s1.heap.objs.size + 2, s1.heap.objs.size + 3, s1.heap.objs.size, s1.heap.objs.size + 1], _, _, G, rfl, I2, turn_zipS S, ⟨hz, hTI, ⟨_, _, hTO⟩, ⟨_, e1, rfl, rfl⟩, ⟨_, e2, rfl, rfl⟩⟩, fun c hcm => ?_, q⟩
      have le : s1.heap.objs.size ≤ c := by
        simp only [List.mem_cons, List.not_mem_nil, or_false] at hcm
        rcases hcm with rfl | rfl | rfl | rfl | rfl
        · exact Nat.le_add_right _ _
        · exact Nat.le_add_right _ _
        · exact Nat.le_add_right _ _
        · exact Nat.le_refl _
        · exact Nat.le_add_right _ _
      exact I1.fpOk le (I1.hok.fresh le)
theorem walk_zipS {K : PySem.W.Frag} {a : Addr} {y : Str} {xs : List V} (el : xs.length = y.cps.size) : Walk (ItzS K a y) xs.length (fun H => SqT K H a xs) (fun i H v G => ∃ T x c, xs[i]? = some x ∧ y.cps[i]? = some c ∧ v = .ref T ∧ H T = none ∧ G = upd H T (.tup [x, .str ⟨#[c]⟩])) where
  goes := fun i H hi h => ⟨xs, xs[i], y.cps[i]'(by omega), h, List.getElem?_eq_getElem hi, Array.getElem?_eq_getElem (by omega)⟩
  stops := fun H h => ⟨xs, h, Nat.le_refl _, by omega, .inl rfl⟩
  yields := fun i H v G hi h ⟨T, x, c, e1, e2, e3, e4, e5⟩ => ⟨T, x, c, e4 xs h, e5, e1, e2, e3⟩
end Gu
namespace Gu
open PySem PySem.Spec PyProof.Rows L2
/-! ### views in the heap -/
structure VW where
  pr : Addr
  rw : Addr
  rs : List (Addr × Rec)
  y : Str
def VW.recs (v : VW) : List Rec := v.rs.map (·.2)
def VW.cs (v : VW) : List Nat := v.y.cps.toList
structure ViewAt (C : Addr) (H : Hp) (v : VW) : Prop where
  pr : H v.pr = some (.tup [.ref v.rw, .str v.y])
  row : RowAt C H v.rw v.rs
  l1 : 1 ≤ v.rs.length
  l4 : v.rs.length ≤ 4
  tx : isTxt v.y 200 = true
structure ViewsAt (C : Addr) (H : Hp) (a : Addr) (vs : List VW) : Prop where
  tp : H a = some (.tup (vs.map fun v => V.ref v.pr))
  el : ∀ v ∈ vs, ViewAt C H v
  l1 : 1 ≤ vs.length
  l4 : vs.length ≤ 4
theorem ViewAt.same {C : Addr} {H G : Hp} {v : VW} (s : Same H G) (h : ViewAt C H v) : ViewAt C G v := ⟨s _ _ h.pr, h.row.same s, h.l1, h.l4, h.tx⟩
theorem ViewsAt.same {C : Addr} {H G : Hp} {a : Addr} {vs : List VW} (s : Same H G) (h : ViewsAt C H a vs) : ViewsAt C G a vs := ⟨s _ _ h.tp, fun v hv => (h.el v hv).same s, h.l1, h.l4⟩
/-- a text fits the views -/
def Fits (vs : List VW) (cs : List Nat) : Prop := ∀ v ∈ vs, cuts v.recs cs = v.cs
/-! what is known, by places -/
def Agree (kvs : List (Key × V)) (cs : List Nat) : Prop := ∀ (p c : Nat), valV kvs (Sum.inl (p : Int)) = some (.str (one c)) → cs[p]? = some c
structure Knows (n : Nat) (kvs : List (Key × V)) (Pd : List Nat → Prop) : Prop where
  ks : ∀ k v, valV kvs k = some v → ∃ p c : Nat, k = Sum.inl (p : Int) ∧ p < n ∧ v = .str (one c) ∧ c ∈ signs.cps.toList
  iff : ∀ cs : List Nat, cs.length = n → (Pd cs ↔ Agree kvs cs)
theorem Knows.imp {n : Nat} {kvs : List (Key × V)} {Pd Qd : List Nat → Prop} (h : Knows n kvs Pd) (e : ∀ cs : List Nat, cs.length = n → (Pd cs ↔ Qd cs)) : Knows n kvs Qd := ⟨h.ks, fun cs l => (e cs l).symm.trans (h.iff cs l)⟩
theorem Knows.start (n : Nat) : Knows n [] (fun _ => True) := ⟨fun k v h => (by cases h), fun cs l => ⟨fun _ p c h => (by cases h), fun _ => trivial⟩⟩
theorem one_inj {c d : Nat} (h : V.str (one c) = V.str (one d)) : c = d := by
  have := congrArg (fun z : Str => z.cps.toList) (V.str.inj h)
  exact List.singleton_inj.mp this
/-- one more place is known -/
theorem Knows.put {n p c : Nat} {kvs : List (Key × V)} {Pd : List Nat → Prop} (h : Knows n kvs Pd) (hp : p < n) (hc : c ∈ signs.cps.toList) (e : valV kvs (Sum.inl (p : Int)) = none) : Knows n (putK kvs (Sum.inl (p : Int)) (.str (one c))) (fun cs => Pd cs ∧ cs[p]? = some c) := by
  refine ⟨fun k v q => ?_, fun cs l => ?_⟩
  · rw [valV_put] at q
    split at q
    · next ek => exact ⟨p, c, ek, hp, (Option.some.inj q).symm, hc⟩
    · exact h.ks k v q
  · rw [h.iff cs l]
    constructor
    · rintro ⟨a, b⟩ q d hq
      rw [valV_put] at hq
      split at hq
      · next ek =>
        have ek : q = p := by have := Sum.inl.inj ek; omega
        rw [ek, b, one_inj (Option.some.inj hq)]
      · exact a q d hq
    · intro a
      refine ⟨fun q d hq => a q d ?_, a p c ?_⟩
      · rw [valV_put]
        split
        · next ek =>
          rw [ek, e] at hq
          cases hq
        · exact hq
      · rw [valV_put, if_pos rfl]
theorem fillN_int {cs : List Nat} {p c : Nat} (hp : p < cs.length) : fillN cs (.int (p : Int)) = c ↔ cs[p]? = some c := by
  show cs.getD (p : Int).toNat 0 = c ↔ _
  rw [Int.toNat_natCast, List.getD_eq_getElem?_getD, List.getElem?_eq_getElem hp]
  exact ⟨fun h => congrArg some h, fun h => Option.some.inj h⟩
/-- a row shows a text as y: sign by sign -/
theorem shown_each {rs : List Rec} (hf : ∀ r ∈ rs, r.fit) {cs ys : List Nat} : cuts rs cs = ys ↔ (planV rs cs.length).map (fillN cs) = ys := by
  have e := fill_plan rs cs
  have px : ∀ x ∈ planV rs cs.length, Plain cs.length x := plan_plain hf
  rw [fillN_map px] at e
  rw [ones_inj e]
section
variable {P : Program} {w : World} {K : PySem.W.Frag} {mg : Str → Option Value} {base : Heap} {C : Addr}
theorem Isa.str_intV {H : Hp} {z : Str} : Isa K H (.str z) "int" false := ⟨_, .base (.str z), kit_ty (by decide +kernel)⟩
/-! ### is_row, is_view, check_views -/
def spIsRow (C : Addr) : Sp := fun vs H Q _ => ∃ (a : Addr) (rs : List (Addr × Rec)), vs = [.ref a] ∧ RowAt C H a rs ∧ 1 ≤ rs.length ∧ rs.length ≤ 4 ∧ ∀ G, Same H G → Q (.bl true) G
theorem cal_isRow (B : Bi mg) (S : ShC K mg C) (D : At K mg "is_row" s_is_row ps_is_row) (C_is_tuple : Cal P w K mg base 1 "is_tuple" ps_is_tuple (spIsTuple K)) : Cal P w K mg base 2 "is_row" ps_is_row (spIsRow C) := by
  refine D.cal sc_is_row (fun vs H Q E h => ?_) (fun f cdv A outer s H vs Q E hr h => ?_)
  · obtain ⟨a, rs, rfl, _⟩ := h
    rfl
  · obtain ⟨a, rs, rfl, hR, l1, l4, k⟩ := h
    refine ⟨_, (pss_one (ps_ret (pe_and (pe_own C_is_tuple hr (by decide) (by rfl) (pa_cons (pv 0) (pa_cons pe_int (pa_cons (pe_cst B.MOST_ROW (by rfl)) pa_nil)))) (pe_one (pe_callB (cr_all rfl) (by rfl) B.all (by decide +kernel) (pa_cons (pe_lc (own := [("part", 1)]) (by rfl) sc_is_row.nd (pi_tup (pv 0)) (blkOk_by (own := [("part", 1)]) (N := ["value", "part"]) (sc := defScope s_is_row) (by decide +kernel)) (fun _ _ _ _ _ => pg_name (i := 1) sc_is_row.nd rfl (.inl rfl)) (fun _ _ _ _ _ => pts_nil) (fun _ _ _ _ _ => (pe_callB (id := "isinstance") (r := rIsi K) call_isi (by rfl) B.isinstance (by decide +kernel) (pa_cons (pv 1) (pa_cons (pe_glob (v := .ref C) (by rfl) S.g rfl) pa_nil))))) pa_nil)))))), ?_⟩
    refine ⟨_, rfl, _, _, _, rfl, .inl ⟨a, _, rfl, .inl (.inl hR.tp), _, rfl, ?_⟩⟩
    rw [decide_eq_true (show (1 : Int) ≤ ((rs.map fun q => V.ref q.1).length : Int) ∧ ((rs.map fun q => V.ref q.1).length : Int) ≤ 4 by rw [List.length_map]; omega)]
    refine iteT ⟨_, rfl, a, rfl, ⟨_, .inl (.inl hR.tp)⟩, fun M nM => lc_tup (K := K) (a := a) (xs := rs.map fun q => V.ref q.1) (fun i J => (∃ bs : List Bool, bs.length = i ∧ bs.all id = true ∧ J M = some (.lst (bs.map V.bl))) ∧ Same H J)
      ⟨⟨[], rfl, rfl, upd_same⟩, same_new nM⟩ (fun i J _ ⟨_, sJ⟩ => .inl (.inl (sJ _ _ hR.tp))) ?_ ?_⟩
    · rintro i v J hi ⟨⟨bs, rfl, ha, eM⟩, sJ⟩
      have il := (List.getElem?_eq_some_iff.mp hi).1
      rw [List.length_map] at il
      obtain ⟨q, hq, rfl⟩ : ∃ q ∈ rs, v = .ref q.1 := by
        obtain ⟨q, h1, h2⟩ := List.mem_map.mp (List.mem_of_getElem? hi)
        exact ⟨q, h1, h2.symm⟩
      obtain ⟨dx, b, e1, _⟩ := ((hR.sh q hq).1).same sJ
      refine ⟨rfl, yes (iteT ⟨_, rfl, _, _, _, _, true, rfl, .own C, .base (.ins e1 S.cl S.ha S.hn S.ht S.hm), S.kk, _, eM, small1000 (by rw [List.length_map]; omega), ⟨bs ++ [true], by rw [List.length_append]; rfl, by rw [List.all_append, ha]; rfl, ?_⟩, same_offF sJ nM⟩)⟩
      rw [upd_same, List.map_append]
      rfl
    · rintro J ⟨⟨bs, el, ha, eM⟩, sJ⟩
      refine ⟨M, bs, rfl, .inl (.inl eM), ?_⟩
      rw [ha]
      exact k J sJ
def spIsView (C : Addr) : Sp := fun vs H Q _ => ∃ (v : VW), vs = [.ref v.pr] ∧ ViewAt C H v ∧ ∀ G, Same H G → Q (.bl true) G
theorem cal_isView (B : Bi mg) (D : At K mg "is_view" s_is_view ps_is_view) (C_is_tuple : Cal P w K mg base 1 "is_tuple" ps_is_tuple (spIsTuple K)) (C_is_text : Cal P w K mg base 1 "is_text" ps_is_text (spIsText K)) (C_is_row : Cal P w K mg base 2 "is_row" ps_is_row (spIsRow C)) : Cal P w K mg base 3 "is_view" ps_is_view (spIsView C) := by
  refine D.cal sc_is_view (fun vs H Q E h => ?_) (fun f cdv A outer s H vs Q E hr h => ?_)
  · obtain ⟨v, rfl, _⟩ := h
    rfl
  · obtain ⟨v, rfl, hv, k⟩ := h
    have yl := isTxt_len hv.tx
    refine ⟨_, (pss_one (ps_ret (pe_and (pe_own C_is_tuple hr (by decide) (by rfl) (pa_cons (pv 0) (pa_cons pe_int (pa_cons pe_int pa_nil)))) (pe_and (pe_own C_is_row hr (by decide) (by rfl) (pa_cons (pe_ix ix_tup (pv 0) pe_int (fun _ _ => rfl)) pa_nil)) (pe_one (pe_own C_is_text hr (by decide) (by rfl) (pa_cons (pe_ix ix_tup (pv 0) pe_int (fun _ _ => rfl)) (pa_cons (pe_cst B.MOST_TEXT (by rfl)) pa_nil)))))))), ?_⟩
    refine ⟨_, rfl, _, _, _, rfl, .inl ⟨v.pr, _, rfl, .inl (.inl hv.pr), _, rfl, ?_⟩⟩
    rw [decide_eq_true (show (2 : Int) ≤ (([V.ref v.rw, V.str v.y] : List V).length : Int) ∧ (([V.ref v.rw, V.str v.y] : List V).length : Int) ≤ 2 from ⟨by show (2 : Int) ≤ 2; decide, by show (2 : Int) ≤ 2; decide⟩)]
    refine iteT ⟨_, rfl, v.pr, _, _, _, rfl, rfl, .inl (.inl hv.pr), (rfl : atI [V.ref v.rw, V.str v.y] 0 = some (V.ref v.rw)), ?_⟩
    refine ⟨v.rw, v.rs, rfl, hv.row, hv.l1, hv.l4, fun G sG => ⟨_, rfl, iteT ?_⟩⟩
    refine ⟨_, rfl, v.pr, _, _, _, rfl, rfl, .inl (.inl (sG _ _ hv.pr)), (rfl : atI [V.ref v.rw, V.str v.y] 1 = some (V.str v.y)), ?_⟩
    refine ⟨_, _, rfl, .inl ⟨v.y, rfl, by omega, fun G2 s2 => ?_⟩⟩
    rw [show isTxt v.y 200 = true from hv.tx]
    exact k G2 (sG.trans s2)
def spCheckViews (C : Addr) : Sp := fun vs H Q _ => ∃ (a : Addr) (ws : List VW), vs = [.ref a] ∧ ViewsAt C H a ws ∧ ∀ G, Same H G → Q .non G
theorem cal_checkViews (B : Bi mg) (D : At K mg "check_views" s_check_views ps_check_views) (C_is_tuple : Cal P w K mg base 1 "is_tuple" ps_is_tuple (spIsTuple K)) (C_is_view : Cal P w K mg base 3 "is_view" ps_is_view (spIsView C)) : Cal P w K mg base 4 "check_views" ps_check_views (spCheckViews C) := by
  refine D.cal sc_check_views (fun vs H Q E h => ?_) (fun f cdv A outer s H vs Q E hr h => ?_)
  · obtain ⟨a, ws, rfl, _⟩ := h
    rfl
  · obtain ⟨a, ws, rfl, hV, k⟩ := h
    have l1 := hV.l1
    have l4 := hV.l4
    refine ⟨_, (pss_cons (ps_if (pt_not (pt_val (pe_own C_is_tuple hr (by decide) (by rfl) (pa_cons (pv 0) (pa_cons pe_int (pa_cons (pe_cst B.MOST_VIEWS (by rfl)) pa_nil)))))) pss_never pss_nil)
      (pss_one (ps_for PassesOwn.never rfl (pi_enT (by rfl) B.enumerate (pa_cons (pv 0) pa_nil)) (pg_tup rfl (pgs_cons (pg_name (i := 1) sc_check_views.nd rfl (.inl rfl)) (pgs_cons (pg_name (i := 2) sc_check_views.nd rfl (.inl rfl)) pgs_nil)))
      (pss_one (ps_if (pt_not (pt_val (pe_own C_is_view hr (by decide) (by rfl) (pa_cons (pv 2) pa_nil)))) pss_never pss_nil))))), ?_⟩
    refine ⟨_, rfl, _, _, _, rfl, .inl ⟨a, _, rfl, .inl (.inl hV.tp), _, rfl, ?_⟩⟩
    rw [decide_eq_true (show (1 : Int) ≤ ((ws.map fun v => V.ref v.pr).length : Int) ∧ ((ws.map fun v => V.ref v.pr).length : Int) ≤ 4 by rw [List.length_map]; omega)]
    refine iteF ⟨_, rfl, a, _, rfl, .inl (.inl hV.tp), for_it walk_enT (fun i σ J => ∃ u v, σ = [some (.ref a), u, v] ∧ Same H J) ⟨none, none, rfl, Same.refl H⟩ (fun i σ J _ ⟨_, _, _, sJ⟩ => .inl (.inl (sJ _ _ hV.tp))) ?_ ?_⟩
    · rintro i x σ J J1 hi ⟨u, v2, rfl, sJ⟩ ⟨T, z, hz, rfl, nT, rfl⟩
      obtain ⟨v, hv, rfl⟩ : ∃ v ∈ ws, z = .ref v.pr := by
        obtain ⟨q, h1, h2⟩ := List.mem_map.mp (List.mem_of_getElem? hz)
        exact ⟨q, h1, h2.symm⟩
      have sT : Same H (upd J T (.tup [.int (i : Nat), .ref v.pr])) := sJ.trans (same_new nT)
      refine ⟨T, _, rfl, .inl (.inl upd_same), rfl, _, _, rfl, _, _, rfl, rfl, ?_⟩
      exact ⟨_, rfl, v, rfl, (hV.el v hv).same sT, fun G sG => ⟨_, rfl, iteF ⟨_, _, rfl, sT.trans sG⟩⟩⟩
    · rintro σ J ⟨u, v, rfl, sJ⟩
      exact k J sJ
/-! ### known_signs -/
def spKnown (C : Addr) : Sp := fun vs H Q _ => ∃ (a : Addr) (n : Nat) (ws : List VW), vs = [.ref a, .int (n : Int)] ∧ ViewsAt C H a ws ∧ n ≤ 500 ∧ ((∀ cs : List Nat, cs.length = n → ¬ Fits ws cs) → ∀ G, Same H G → Q .non G) ∧ ∀ (d : Addr) (kvs : List (Key × V)) (G : Hp), H d = none → Same H G → G d = some (.dK kvs) → Knows n kvs (Fits ws) → Q (.ref d) G
/-- the signs of one view, up to i -/
def Upto (n : Nat) (rs : List Rec) (ys : List Nat) (i : Nat) (cs : List Nat) : Prop := ∀ j x c, j < i → (planV rs n)[j]? = some x → ys[j]? = some c → fillN cs x = c
theorem upto_all {n : Nat} {rs : List Rec} (hf : ∀ r ∈ rs, r.fit) {ys cs : List Nat} (l : cs.length = n) (e : (planV rs n).length = ys.length) : Upto n rs ys ys.length cs ↔ cuts rs cs = ys := by
  rw [shown_each hf, l]
  constructor
  · intro h
    refine List.ext_getElem (by rw [List.length_map]; exact e) fun j h1 h2 => ?_
    rw [List.getElem_map]
    exact h j _ _ h2 (List.getElem?_eq_getElem _) (List.getElem?_eq_getElem h2)
  · intro h j x c hj hx hc
    rw [← h, List.getElem?_map, hx] at hc
    exact Option.some.inj hc
theorem upto_next {n : Nat} {rs : List Rec} {ys cs : List Nat} {i : Nat} {x : V} {c : Nat} (hx : (planV rs n)[i]? = some x) (hc : ys[i]? = some c) : Upto n rs ys (i + 1) cs ↔ Upto n rs ys i cs ∧ fillN cs x = c := by
  constructor
  · exact fun h => ⟨fun j x c hj => h j x c (by omega), h i x c (by omega) hx hc⟩
  · rintro ⟨h, e⟩ j u d hj hu hd
    rcases Nat.lt_or_ge j i with q | q
    · exact h j u d q hu hd
    · obtain rfl : j = i := by omega
      rw [hx] at hu
      rw [hc] at hd
      cases hu
      cases hd
      exact e
theorem fits_take {ws : List VW} {i : Nat} {v : VW} {cs : List Nat} (h : ws[i]? = some v) : Fits (ws.take (i + 1)) cs ↔ Fits (ws.take i) cs ∧ cuts v.recs cs = v.cs := by
  rw [takeF_next h]
  constructor
  · exact fun q => ⟨fun u hu => q u (List.mem_append.mpr (.inl hu)), q v (List.mem_append.mpr (.inr (List.mem_singleton.mpr rfl)))⟩
  · rintro ⟨a, b⟩ u hu
    rcases List.mem_append.mp hu with hu | hu
    · exact a u hu
    · rw [List.mem_singleton.mp hu]
      exact b
set_option maxHeartbeats 1000000 in
theorem cal_known (B : Bi mg) (D : At K mg "known_signs" s_known_signs ps_known_signs) (C_planned : Cal P w K mg base 2 "planned" ps_planned (spPlanned C)) : Cal P w K mg base 3 "known_signs" ps_known_signs (spKnown C) := by
  refine D.cal sc_known_signs (fun vs H Q E h => ?_) (fun f cdv A outer s H vs Q E hr h => ?_)
  · obtain ⟨a, n, ws, rfl, _⟩ := h
    rfl
  · obtain ⟨a, n, ws, rfl, hV, hn, kN, kS⟩ := h
    refine ⟨_, (pss_cons (ps_set (i := 2) sc_known_signs.nd rfl (.inl rfl) pe_dnewK)
      (pss_cons (ps_for PassesOwn.never rfl (pi_tup (pv 0)) (pg_tup rfl (pgs_cons (pg_name (i := 3) sc_known_signs.nd rfl (.inl rfl)) (pgs_cons (pg_name (i := 4) sc_known_signs.nd rfl (.inl rfl)) pgs_nil)))
      (pss_cons (ps_set (i := 5) sc_known_signs.nd rfl (.inl rfl) (pe_own C_planned hr (by decide) (by rfl) (pa_cons (pv 3) (pa_cons (pv 1) pa_nil))))
      (pss_cons (ps_if (pt_cmpR op_ne (pe_callB call_len (by rfl) B.len (by decide +kernel) (pa_cons (pv 5) pa_nil)) (pe_callB call_len (by rfl) B.len (by decide +kernel) (pa_cons (pv 4) pa_nil)) (nomark _)) (pss_one (ps_ret pe_non)) pss_nil)
      (pss_one (ps_for PassesOwn.never rfl (pi_zipS (by rfl) B.zip (pa_cons (pv 5) (pa_cons (pv 4) pa_nil))) (pg_tup rfl (pgs_cons (pg_name (i := 6) sc_known_signs.nd rfl (.inl rfl)) (pgs_cons (pg_name (i := 7) sc_known_signs.nd rfl (.inl rfl)) pgs_nil)))
      (pss_cons (ps_set (i := 8) sc_known_signs.nd rfl (.inl rfl) (pe_mid (pe_ifExp (pt_val (pe_callB call_isi (by rfl) B.isinstance (by decide +kernel) (pa_cons (pv 6) (pa_cons (pe_bltn (v := .ty "int") (by rfl) B.int (by decide +kernel) rfl) pa_nil)))) (pe_dsetd (pv 2) (pv 6) (pv 7) ⟨rfl, rfl, rfl, rfl⟩) (pv 6))))
      (pss_one (ps_if (pt_cmpR op_ne (pv 8) (pv 7) (nomark _)) (pss_one (ps_ret pe_non)) pss_nil))))))))
      (pss_one (ps_ret (pv 2))))), ?_⟩
    refine fun d nd => ?_
    have s0 : Same H (upd H d (.dK [])) := same_new nd
    refine ⟨_, rfl, a, rfl, ⟨_, .inl (.inl (s0 _ _ hV.tp))⟩, for_tup (K := K) (a := a) (xs := ws.map fun v => V.ref v.pr) (fun i σ J => ∃ (kvs : List (Key × V)) (b1 b2 b3 b4 b5 b6 : Option V), σ = [some (.ref a), some (.int (n : Int)), some (.ref d), b1, b2, b3, b4, b5, b6] ∧ Same H J ∧ J d = some (.dK kvs) ∧ Knows n kvs (Fits (ws.take i)) ∧ kvs.length ≤ 1000 * i)
      ⟨[], none, none, none, none, none, none, rfl, s0, upd_same, (Knows.start n).imp (fun cs _ => ⟨fun _ v hv => (by cases hv), fun _ => trivial⟩), Nat.zero_le _⟩ (fun i σ J _ ⟨_, _, _, _, _, _, _, _, sJ, _⟩ => .inl (.inl (sJ _ _ hV.tp))) ?_ ?_⟩
    · rintro i x σ J hi ⟨kvs, b1, b2, b3, b4, b5, b6, rfl, sJ, eD, kn, kl⟩
      rw [List.getElem?_map] at hi
      cases hv : ws[i]? with
      | none =>
        rw [hv] at hi
        cases hi
      | some v =>
        rw [hv] at hi
        cases hi
        have mv : v ∈ ws := List.mem_of_getElem? hv
        have il : i < ws.length := (List.getElem?_eq_some_iff.mp hv).1
        have w4 := hV.l4
        have vw := (hV.el v mv).same sJ
        have fr : ∀ r ∈ v.recs, r.fit := vw.row.fits
        have yl := isTxt_len vw.tx
        have ys : Signs v.cs := isTxt_signs vw.tx
        have yL : v.y.length = v.cs.length := rfl
        have yZ : v.y.cps.size = v.cs.length := rfl
        refine ⟨v.pr, _, rfl, .inl (.inl vw.pr), rfl, _, _, rfl, _, _, rfl, rfl, ?_⟩
        refine ⟨_, rfl, _, rfl, v.rw, n, v.rs, rfl, vw.row, hn, fun U G1 s1 e1 => ?_⟩
        have e1 : G1 U = some (.tup (planV v.recs n)) := e1
        have pl := plan_len fr (n := n) hn
        refine ⟨_, rfl, _, _, rfl, .inr ⟨_, .inl (.inl e1), rfl⟩, _, rfl, _, _, rfl, ⟨Nat.le_of_lt (small1000 (by omega)), rfl⟩, rfl, _, rfl, ?_⟩
        by_cases el : (planV v.recs n).length = v.cs.length
        · rw [decide_eq_true (show V.int ((planV v.recs n).length : Int) = V.int (v.y.length : Int) by rw [el, yL])]
          refine iteF ⟨_, rfl, _, rfl, U, v.y, _, rfl, .inl (.inl e1), for_it (walk_zipS (by rw [el, yZ])) (fun j σ J1 => ∃ (kvs : List (Key × V)) (c1 c2 c3 : Option V), σ = [some (.ref a), some (.int (n : Int)), some (.ref d), some (.ref v.rw), some (.str v.y), some (.ref U), c1, c2, c3] ∧ Same H J1 ∧ J1 U = some (.tup (planV v.recs n)) ∧ J1 d = some (.dK kvs) ∧ Knows n kvs (fun cs => Fits (ws.take i) cs ∧ Upto n v.recs v.cs j cs) ∧ kvs.length ≤ 1000 * i + j)
            ⟨kvs, b4, b5, b6, rfl, sJ.trans s1, e1, s1 _ _ eD, kn.imp (fun cs _ => ⟨fun h => ⟨h, fun j x c hj => absurd hj (by omega)⟩, fun h => h.1⟩), by omega⟩ (fun j σ J1 _ ⟨_, _, _, _, _, _, h, _⟩ => .inl (.inl h)) ?_ ?_⟩
          · rintro j z σ1 J1 _ hj ⟨kvs1, c1, c2, c3, rfl, s2, e2, eD1, kn1, kl1⟩ ⟨T, sx, c, hx, hc, rfl, nT, rfl⟩
            have hc : v.cs[j]? = some c := by
              rw [← Array.getElem?_toList] at hc
              exact hc
            have cs1 : c ∈ signs.cps.toList := ys c (List.mem_of_getElem? hc)
            have sT : Same J1 (upd J1 T (.tup [sx, .str ⟨#[c]⟩])) := same_new nT
            have eD2 := sT _ _ eD1
            have e3 := sT _ _ e2
            have s3 := s2.trans sT
            refine ⟨T, _, rfl, .inl (.inl upd_same), rfl, _, _, rfl, _, _, rfl, rfl, ?_⟩
            generalize upd J1 T (.tup [sx, .str ⟨#[c]⟩]) = J2 at eD2 e3 s3
            have px : Plain n sx := plan_plain fr sx (List.mem_of_getElem? hx)
            rcases px with ⟨q, rfl, q0, qn⟩ | ⟨g, rfl, _⟩
            · obtain ⟨q, rfl⟩ := Int.eq_ofNat_of_zero_le q0
              have qn : q < n := by omega
              cases eq : valV kvs1 (Sum.inl (q : Int)) with
              | some u =>
                obtain ⟨q', g, ek, _, rfl, _⟩ := kn1.ks _ _ eq
                refine ⟨fun t J3 => t = .str (one g) ∧ J2 = J3, ?_, ?_⟩
                · obtain ⟨t, i1, i2⟩ := Isa.int_int (K := K) (H := J2) (i := (q : Int))
                  refine ⟨_, rfl, _, _, t, _, true, rfl, .ty _, i1, i2, _, rfl, iteT ⟨_, rfl, d, rfl, .inl ⟨_, .inl eD2⟩, _, rfl, _, rfl, kvs1, Sum.inl (q : Int), eD2, rfl, Nat.lt_of_le_of_lt (show _ ≤ 6000 by omega) (by decide), fun v hv => ?_, fun hv => ?_⟩⟩
                  · rw [eq] at hv
                    cases hv
                    exact ⟨rfl, rfl⟩
                  · rw [eq] at hv
                    cases hv
                · rintro _ _ ⟨rfl, rfl⟩
                  refine ⟨_, rfl, _, rfl, rfl, _, rfl, ?_⟩
                  by_cases gc : g = c
                  · subst gc
                    rw [decide_eq_true (show V.str (one g) = V.str ⟨#[g]⟩ from rfl)]
                    refine iteF ⟨kvs1, _, _, _, rfl, s3, e3, eD2, kn1.imp (fun cs l => ?_), by omega⟩
                    rw [upto_next hx hc]
                    constructor
                    · rintro h
                      exact ⟨h.1, h.2, (fillN_int (by omega)).mpr ((kn1.iff cs l).mp h q g eq)⟩
                    · exact fun h => ⟨h.1, h.2.1⟩
                  · rw [decide_eq_false (show ¬ V.str (one g) = V.str ⟨#[c]⟩ from fun h => gc (one_inj h))]
                    refine iteT (kN (fun cs l ft => gc ?_) J2 s3)
                    have f1 := (fits_take hv).mp (fun u hu => ft u (List.mem_of_mem_take hu))
                    have up := (upto_all fr l el).mpr f1.2
                    have a1 := (kn1.iff cs l).mp ⟨f1.1, fun m x c hm => up m x c (by omega)⟩ q g eq
                    have jl : j < v.cs.length := (List.getElem?_eq_some_iff.mp hc).1
                    have a2 := (fillN_int (by omega)).mp (up j _ c jl hx hc)
                    exact Option.some.inj (a1.symm.trans a2)
              | none =>
                refine ⟨fun t J3 => t = .str (one c) ∧ J3 = upd J2 d (.dK (putK kvs1 (Sum.inl (q : Int)) (.str (one c)))), ?_, ?_⟩
                · obtain ⟨t, i1, i2⟩ := Isa.int_int (K := K) (H := J2) (i := (q : Int))
                  refine ⟨_, rfl, _, _, t, _, true, rfl, .ty _, i1, i2, _, rfl, iteT ⟨_, rfl, d, rfl, .inl ⟨_, .inl eD2⟩, _, rfl, _, rfl, kvs1, Sum.inl (q : Int), eD2, rfl, Nat.lt_of_le_of_lt (show _ ≤ 6000 by omega) (by decide), fun v hv => ?_, fun hv => ⟨rfl, rfl⟩⟩⟩
                  rw [eq] at hv
                  cases hv
                · rintro _ _ ⟨rfl, rfl⟩
                  refine ⟨_, rfl, _, rfl, rfl, _, rfl, ?_⟩
                  rw [decide_eq_true (show V.str (one c) = V.str ⟨#[c]⟩ from rfl)]
                  have kl2 := length_putK kvs1 (Sum.inl (q : Int)) (.str (one c))
                  have nUd : U ≠ d := ne_of e3 eD2 (by intro z; cases z)
                  refine iteF ⟨_, _, _, _, rfl, same_offF s3 nd, by rw [upd_ne nUd]; exact e3, upd_same, (kn1.put qn cs1 eq).imp (fun cs l => ?_), by omega⟩
                  rw [upto_next hx hc, fillN_int (by omega)]
                  exact ⟨fun h => ⟨h.1.1, h.1.2, h.2⟩, fun h => ⟨⟨h.1, h.2.1⟩, h.2.2⟩⟩
            · refine ⟨fun t J3 => t = .str (one g) ∧ J2 = J3, ?_, ?_⟩
              · obtain ⟨t, i1, i2⟩ := Isa.str_intV (K := K) (H := J2) (z := one g)
                exact ⟨_, rfl, _, _, t, _, false, rfl, .ty _, i1, i2, _, rfl, iteF ⟨_, rfl, rfl, rfl⟩⟩
              · rintro _ _ ⟨rfl, rfl⟩
                refine ⟨_, rfl, _, rfl, rfl, _, rfl, ?_⟩
                by_cases gc : g = c
                · subst gc
                  rw [decide_eq_true (show V.str (one g) = V.str ⟨#[g]⟩ from rfl)]
                  refine iteF ⟨kvs1, _, _, _, rfl, s3, e3, eD2, kn1.imp (fun cs l => ?_), by omega⟩
                  rw [upto_next hx hc]
                  exact ⟨fun h => ⟨h.1, h.2, rfl⟩, fun h => ⟨h.1, h.2.1⟩⟩
                · rw [decide_eq_false (show ¬ V.str (one g) = V.str ⟨#[c]⟩ from fun h => gc (one_inj h))]
                  refine iteT (kN (fun cs l ft => gc ?_) J2 s3)
                  have f1 := (fits_take hv).mp (fun u hu => ft u (List.mem_of_mem_take hu))
                  have jl : j < v.cs.length := (List.getElem?_eq_some_iff.mp hc).1
                  exact (upto_all fr l el).mpr f1.2 j _ c jl hx hc
          · rintro σ1 J1 ⟨kvs1, c1, c2, c3, rfl, s2, e2, eD1, kn1, kl1⟩
            refine ⟨kvs1, _, _, _, _, _, _, rfl, s2, eD1, kn1.imp (fun cs l => ?_), by omega⟩
            rw [fits_take hv, ← upto_all fr l el, el]
        · rw [decide_eq_false (fun h => el (by have := V.int.inj h; omega))]
          refine iteT (kN (fun cs l ft => el ?_) G1 (sJ.trans s1))
          have := ft v mv
          rw [shown_each fr, l] at this
          rw [← this, List.length_map]
    · rintro σ J ⟨kvs, b1, b2, b3, b4, b5, b6, rfl, sJ, eD, kn, kl⟩
      rw [List.length_map, List.take_length] at kn
      exact ⟨_, rfl, kS d kvs J nd sJ eD kn⟩
end
end Gu
namespace Gu
open PySem PySem.Spec PyProof.Rows L2
/-! ### what is written out -/
/-- the sign at a place, o where it is open -/
def sgn (kvs : List (Key × V)) (o p : Nat) : Nat := match valV kvs (Sum.inl (p : Int)) with
  | some (.str z) => z.cps.toList.getD 0 0
  | _ => o
theorem sgn_some {kvs : List (Key × V)} {o p c : Nat} (h : valV kvs (Sum.inl (p : Int)) = some (.str (one c))) : sgn kvs o p = c := by
  unfold sgn
  rw [h]
  rfl
theorem sgn_none {kvs : List (Key × V)} {o p : Nat} (h : valV kvs (Sum.inl (p : Int)) = none) : sgn kvs o p = o := by
  unfold sgn
  rw [h]
def wrote (kvs : List (Key × V)) (o n : Nat) : List Nat := (List.range n).map (sgn kvs o)
theorem wrote_len (kvs : List (Key × V)) (o n : Nat) : (wrote kvs o n).length = n := by
  unfold wrote
  rw [List.length_map, List.length_range]
theorem wrote_at {kvs : List (Key × V)} {o n p : Nat} (h : p < n) : (wrote kvs o n)[p]? = some (sgn kvs o p) := by
  unfold wrote
  rw [List.getElem?_map, List.getElem?_range h]
  rfl
theorem wrote_agree {n o : Nat} {kvs : List (Key × V)} {Pd : List Nat → Prop} (h : Knows n kvs Pd) : Agree kvs (wrote kvs o n) := fun p c hc => by
  obtain ⟨p', c', ek, hp, _, _⟩ := h.ks _ _ hc
  have ek : p = p' := by have := Sum.inl.inj ek; omega
  rw [wrote_at (by omega), sgn_some hc]
theorem wrote_fits {n o : Nat} {kvs : List (Key × V)} {Pd : List Nat → Prop} (h : Knows n kvs Pd) : Pd (wrote kvs o n) := (h.iff _ (wrote_len ..)).mpr (wrote_agree h)
theorem wrote_signs {n o : Nat} {kvs : List (Key × V)} {Pd : List Nat → Prop} (h : Knows n kvs Pd) (ho : o ∈ signs.cps.toList) : Signs (wrote kvs o n) := fun c hc => by
  obtain ⟨p, hp, rfl⟩ := List.mem_map.mp hc
  cases e : valV kvs (Sum.inl (p : Int)) with
  | none =>
    rw [sgn_none e]
    exact ho
  | some v =>
    obtain ⟨p', c', ek, _, rfl, hs⟩ := h.ks _ _ e
    rw [sgn_some e]
    exact hs
def natV (l : List Nat) : List V := l.map fun a : Nat => V.int (a : Int)
theorem in_natV (i : Int) (l : List Nat) : inV (.int i) (natV l) = decide (0 ≤ i ∧ i.toNat ∈ l) := by
  unfold inV natV
  rw [List.any_map]
  by_cases e : 0 ≤ i ∧ i.toNat ∈ l
  · rw [decide_eq_true e, List.any_eq_true]
    refine ⟨i.toNat, e.2, ?_⟩
    show ((i.toNat : Int) == i) = true
    rw [Int.toNat_of_nonneg e.1]
    exact beq_self_eq_true _
  · rw [decide_eq_false e, List.any_eq_false]
    intro y hy h
    have h : ((y : Int)) = i := eq_of_beq (show ((y : Int) == i) = true from h)
    exact e ⟨by omega, by rw [← h, Int.toNat_natCast]; exact hy⟩
theorem flat_natV (l : List Nat) : (natV l).all flatV = true := by
  unfold natV
  rw [List.all_map, List.all_eq_true]
  exact fun _ _ => rfl
/-- some text of this length fits -/
def Poss (ws : List VW) (n : Nat) : Prop := ∃ cs : List Nat, cs.length = n ∧ Fits ws cs
noncomputable instance decPoss (ws : List VW) (n : Nat) : Decidable (Poss ws n) := Classical.propDecidable _
noncomputable def possL (ws : List VW) (m : Nat) : List Nat := (List.range m).filter fun n => decide (Poss ws n)
theorem mem_possL {ws : List VW} {m n : Nat} : n ∈ possL ws m ↔ n < m ∧ Poss ws n := by
  unfold possL
  rw [List.mem_filter, List.mem_range]
  exact ⟨fun h => ⟨h.1, of_decide_eq_true h.2⟩, fun h => ⟨h.1, decide_eq_true h.2⟩⟩
theorem possL_yes {ws : List VW} {m : Nat} (h : Poss ws m) : possL ws (m + 1) = possL ws m ++ [m] := by
  unfold possL
  rw [List.range_succ, List.filter_append, List.filter_cons, decide_eq_true h]
  rfl
theorem possL_no {ws : List VW} {m : Nat} (h : ¬ Poss ws m) : possL ws (m + 1) = possL ws m := by
  unfold possL
  rw [List.range_succ, List.filter_append, List.filter_cons, decide_eq_false h]
  simp only [Bool.false_eq_true, if_false, List.filter_nil, List.append_nil]
theorem possL_len (ws : List VW) (m : Nat) : (possL ws m).length ≤ m := by
  unfold possL
  exact Nat.le_trans (List.length_filter_le ..) (Nat.le_of_eq List.length_range)
theorem possL_lt (ws : List VW) {b m : Nat} (h : b ≤ m) : (possL ws m).filter (fun n => decide (n < b)) = possL ws b := by
  induction m with
  | zero =>
    obtain rfl : b = 0 := by omega
    rfl
  | succ m ih =>
    by_cases e : b = m + 1
    · subst e
      refine List.filter_eq_self.mpr fun n hn => decide_eq_true ?_
      exact (mem_possL.mp hn).1
    · have z : decide (m < b) = false := decide_eq_false (by omega)
      by_cases p : Poss ws m
      · rw [possL_yes p, List.filter_append, ih (by omega), List.filter_cons, z]
        simp only [Bool.false_eq_true, if_false, List.filter_nil, List.append_nil]
      · rw [possL_no p, ih (by omega)]
/-- what lengths tells -/
def Lens (ws : List VW) (sm : List Nat) (b : V) : Prop := (b = .non ∧ sm = possL ws 81 ∧ ¬ Poss ws 80) ∨ ∃ m : Nat, b = .int (m : Int) ∧ m ≤ 80 ∧ sm = possL ws m ∧ (∀ n, m ≤ n → n ≤ 80 → Poss ws n) ∧ (m = 0 ∨ ¬ Poss ws (m - 1))
/-- what signs tells -/
def Sgn (ws : List VW) (n : Nat) (v : V) : Prop := (v = .non ∧ ∀ cs : List Nat, cs.length = n → ¬ Fits ws cs) ∨ ∃ kvs y, v = .str y ∧ Knows n kvs (Fits ws) ∧ y.cps.toList = wrote kvs 63 n
section
variable {P : Program} {w : World} {K : PySem.W.Frag} {mg : Str → Option Value} {base : Heap} {C : Addr}
def spWritten : Sp := fun vs H Q _ => ∃ (d : Addr) (n o : Nat) (kvs : List (Key × V)) (z : Str) (Pd : List Nat → Prop), vs = [.ref d, .int (n : Int), .str z] ∧ z.cps.toList = [o] ∧ H d = some (.dK kvs) ∧ Knows n kvs Pd ∧ n ≤ 500 ∧ ∀ (y : Str) (G : Hp), Same H G → y.cps.toList = wrote kvs o n → Q (.str y) G
theorem cal_written (B : Bi mg) (D : At K mg "written_out" s_written_out ps_written_out) : Cal P w K mg base 1 "written_out" ps_written_out spWritten := by
  refine D.cal sc_written_out (fun vs H Q E h => ?_) (fun f cdv A outer s H vs Q E hr h => ?_)
  · obtain ⟨d, n, o, kvs, z, Pd, rfl, _⟩ := h
    rfl
  · obtain ⟨d, n, o, kvs, z, Pd, rfl, ez, eD, kn, hn, k⟩ := h
    obtain rfl : z = one o := str_ext ez
    refine ⟨_, (pss_one (ps_ret (pe_join pe_str (pe_lc (own := [("place", 3)]) (by rfl) sc_written_out.nd (pi_range1 (by rfl) B.range (pa_cons (pv 1) pa_nil)) (blkOk_by (own := [("place", 3)]) (N := ["known", "length", "other", "place"]) (sc := defScope s_written_out) (by decide +kernel)) (fun _ _ _ _ _ => pg_name (i := 3) sc_written_out.nd rfl (.inl rfl)) (fun _ _ _ _ _ => pts_nil) (fun _ _ _ _ _ => (pe_dget2 (Nat.lt_of_le_of_lt (Nat.add_le_add_left (by decide) _) hr.units) (pv 0) (pv 3) (pv 2) ⟨rfl, rfl, rfl, rfl⟩)))))), ?_⟩
    refine ⟨⟨_, rfl⟩, _, rfl, _, rfl, by omega, by omega, fun M nM => lc_range (lo := 0) (n := (n : Int).toNat) (fun i J => J M = some (.lst (ones (wrote kvs o i))) ∧ Same H J) ⟨upd_same, same_new nM⟩ ?_ ?_⟩
    · rintro i J hi ⟨eM, sJ⟩
      rw [Int.toNat_natCast] at hi
      refine ⟨rfl, yes (iteT ⟨_, rfl, d, rfl, .inl ⟨_, .inl (sJ _ _ eD)⟩, _, rfl, _, rfl, _, DGet.k (k := Sum.inl (0 + (i : Int))) (sJ _ _ eD), _, eM, small1000 ?_, ?_, same_offF sJ nM⟩)⟩
      · unfold ones
        rw [List.length_map, wrote_len]
        omega
      · rw [upd_same, Int.zero_add]
        have e1 : wrote kvs o (i + 1) = wrote kvs o i ++ [sgn kvs o i] := by
          unfold wrote
          rw [List.range_succ, List.map_append]
          rfl
        have e2 : (valV kvs (Sum.inl (i : Int))).getD (.str (one o)) = .str (one (sgn kvs o i)) := by
          cases e : valV kvs (Sum.inl (i : Int)) with
          | none =>
            rw [sgn_none e]
            rfl
          | some v =>
            obtain ⟨p', c', ek, _, rfl, hs⟩ := kn.ks _ _ e
            rw [sgn_some e]
            rfl
        rw [e2, e1]
        unfold ones
        rw [List.map_append]
        rfl
    · rintro J ⟨eM, sJ⟩
      rw [Int.toNat_natCast, ones_map] at eM
      refine ⟨_, M, _, rfl, rfl, .inl (.inl (.inl eM)), ?_, k _ J sJ (tjoin_ones _)⟩
      rw [ones_len, List.length_map, wrote_len]
      have e0 : (("" : String) : Str).length = 0 := by decide +kernel
      rw [e0]
      omega
def spSigns (C : Addr) : Sp := fun vs H Q _ => ∃ (a : Addr) (n : Nat) (ws : List VW), vs = [.ref a, .int (n : Int)] ∧ ViewsAt C H a ws ∧ n ≤ 500 ∧ ∀ (v : V) (G : Hp), Same H G → Sgn ws n v → Q v G
theorem several : (("?" : String) : Str).cps.toList = [63] := by decide +kernel
theorem cal_signs (B : Bi mg) (D : At K mg "signs" s_signs ps_signs) (C_check_views : Cal P w K mg base 4 "check_views" ps_check_views (spCheckViews C)) (C_check_length : Cal P w K mg base 2 "check_length" ps_check_length spCheckLength) (C_known_signs : Cal P w K mg base 3 "known_signs" ps_known_signs (spKnown C)) (C_written_out : Cal P w K mg base 1 "written_out" ps_written_out spWritten) : Cal P w K mg base 5 "signs" ps_signs (spSigns C) := by
  refine D.cal sc_signs (fun vs H Q E h => ?_) (fun f cdv A outer s H vs Q E hr h => ?_)
  · obtain ⟨a, n, ws, rfl, _⟩ := h
    rfl
  · obtain ⟨a, n, ws, rfl, hV, hn, k⟩ := h
    refine ⟨_, (pss_cons (ps_expr (pe_own C_check_views hr (by decide) (by rfl) (pa_cons (pv 0) pa_nil)))
      (pss_cons (ps_expr (pe_own C_check_length hr (by decide) (by rfl) (pa_cons (pv 1) pa_nil)))
      (pss_cons (ps_set (i := 2) sc_signs.nd rfl (.inl rfl) (pe_own C_known_signs hr (by decide) (by rfl) (pa_cons (pv 0) (pa_cons (pv 1) pa_nil))))
      (pss_cons (ps_if (pt_cmpR op_isN (pv 2) pe_non (nomark _)) (pss_one (ps_ret pe_non)) pss_nil)
      (pss_one (ps_ret (pe_own C_written_out hr (by decide) (by rfl) (pa_cons (pv 2) (pa_cons (pv 1) (pa_cons (pe_cst B.SEVERAL (by rfl)) pa_nil)))))))))), ?_⟩
    refine ⟨_, rfl, a, ws, rfl, hV, fun G1 s1 => ?_⟩
    refine ⟨_, rfl, n, rfl, hn, ?_⟩
    refine ⟨_, rfl, _, rfl, a, n, ws, rfl, hV.same s1, hn, fun no G2 s2 => ?_, fun d kvs G2 nd s2 eD kn => ?_⟩
    · exact ⟨_, rfl, rfl, _, rfl, iteT (k _ G2 (s1.trans s2) (.inl ⟨rfl, no⟩))⟩
    · refine ⟨_, rfl, rfl, _, rfl, iteF ⟨_, rfl, _, rfl, d, n, 63, kvs, _, _, rfl, several, eD, kn, hn, fun y G3 s3 ey => ?_⟩⟩
      exact k _ G3 (s1.trans (s2.trans s3)) (.inr ⟨kvs, y, rfl, kn, ey⟩)
/-! ### number_of -/
def manyOf : V → Int
  | .str y => (38 : Int) ^ (y.cps.toList.count 63)
  | _ => 0
def spNumber (C : Addr) : Sp := fun vs H Q _ => ∃ (a : Addr) (n : Nat) (ws : List VW), vs = [.ref a, .int (n : Int)] ∧ ViewsAt C H a ws ∧ n ≤ 500 ∧ ∀ (v : V) (G : Hp), Same H G → Sgn ws n v → Q (.int (manyOf v)) G
theorem cal_number (B : Bi mg) (D : At K mg "number_of" s_number_of ps_number_of) (C_signs : Cal P w K mg base 5 "signs" ps_signs (spSigns C)) : Cal P w K mg base 6 "number_of" ps_number_of (spNumber C) := by
  refine D.cal sc_number_of (fun vs H Q E h => ?_) (fun f cdv A outer s H vs Q E hr h => ?_)
  · obtain ⟨a, n, ws, rfl, _⟩ := h
    rfl
  · obtain ⟨a, n, ws, rfl, hV, hn, k⟩ := h
    refine ⟨_, (pss_cons (ps_set (i := 2) sc_number_of.nd rfl (.inl rfl) (pe_own C_signs hr (by decide) (by rfl) (pa_cons (pv 0) (pa_cons (pv 1) pa_nil))))
      (pss_cons (ps_if (pt_cmpR op_isN (pv 2) pe_non (nomark _)) (pss_one (ps_ret pe_int)) pss_nil)
      (pss_cons (ps_set (i := 3) sc_number_of.nd rfl (.inl rfl) pe_int)
      (pss_cons (ps_for PassesOwn.never rfl (pi_str (pv 2)) (pg_name (i := 4) sc_number_of.nd rfl (.inl rfl))
      (pss_one (ps_if (pt_cmpR op_eq (pv 4) (pe_cst B.SEVERAL (by rfl)) (nomark _)) (pss_one (ps_aug (i := 3) sc_number_of.nd rfl (.inl rfl) (pe_callB call_len (by rfl) B.len (by decide +kernel) (pa_cons (pe_cst B.SIGNS (by rfl)) pa_nil)) iop_mul)) pss_nil)))
      (pss_one (ps_ret (pv 3))))))), ?_⟩
    refine ⟨_, rfl, _, rfl, a, n, ws, rfl, hV, hn, fun v G1 s1 hv => ?_⟩
    refine ⟨_, rfl, rfl, _, rfl, ?_⟩
    have kk := k v G1 s1 hv
    rcases hv with ⟨rfl, _⟩ | ⟨kvs, y, rfl, kn, ey⟩
    · exact iteT kk
    · refine iteF ⟨_, rfl, y, rfl, for_it walk_str (fun i σ J => ∃ u, σ = [some (.ref a), some (.int (n : Int)), some (.str y), some (.int ((38 : Int) ^ ((y.cps.toList.take i).count 63))), u] ∧ J = G1) ⟨none, rfl, rfl⟩ (fun _ _ _ _ _ => trivial) ?_ ?_⟩
      · rintro i v2 σ J _ hi ⟨u, rfl, rfl⟩ ⟨rfl, c, hc, rfl⟩
        have hc' : y.cps.toList[i]? = some c := by
          rw [← Array.getElem?_toList] at hc
          exact hc
        have e63 : (("?" : String) : Str) = ⟨#[63]⟩ := by decide +kernel
        refine ⟨_, rfl, rfl, _, rfl, ?_⟩
        by_cases h63 : c = 63
        · subst h63
          rw [decide_eq_true (show V.str ⟨#[63]⟩ = V.str ("?" : String) by rw [e63])]
          refine iteT ⟨_, rfl, _, _, rfl, ⟨by decide +kernel, rfl⟩, _, _, rfl, rfl, .inr ⟨by decide +kernel, by decide +kernel⟩, ?_⟩
          refine ⟨some (.str ⟨#[63]⟩), ?_, rfl⟩
          rw [takeF_next hc', List.count_append]
          show [_, _, _, some (V.int ((38 : Int) ^ ((y.cps.toList.take i).count 63) * ((signs.length : Nat) : Int))), _] = _
          rw [show (signs.length : Nat) = 38 by decide +kernel, show List.count 63 [63] = 1 by decide, Int.pow_succ]
          rfl
        · rw [decide_eq_false (show ¬ V.str ⟨#[c]⟩ = V.str ("?" : String) by
            rw [e63]
            exact fun h => h63 (one_inj h))]
          refine iteF ⟨some (.str ⟨#[c]⟩), ?_, rfl⟩
          rw [takeF_next hc', List.count_append, List.count_singleton, if_neg (by simpa using fun h => h63 h), Nat.add_zero]
          rfl
      · rintro σ J ⟨u, rfl, rfl⟩
        rw [List.take_of_length_le (show y.cps.toList.length ≤ y.cps.size from Nat.le_refl _)]
        exact ⟨_, rfl, kk⟩
/-! ### lengths -/
def spLengths (C : Addr) : Sp := fun vs H Q _ => ∃ (a : Addr) (ws : List VW), vs = [.ref a] ∧ ViewsAt C H a ws ∧ ∀ (T S : Addr) (sm : List Nat) (b : V) (G : Hp), Same H G → G T = some (.tup [.ref S, b]) → G S = some (.tup (natV sm)) → Lens ws sm b → Q (.ref T) G
theorem cal_lengths (B : Bi mg) (D : At K mg "lengths" s_lengths ps_lengths) (C_check_views : Cal P w K mg base 4 "check_views" ps_check_views (spCheckViews C)) (C_telling_lengths : Cal P w K mg base 1 "telling_lengths" [] spTelling) (C_known_signs : Cal P w K mg base 3 "known_signs" ps_known_signs (spKnown C)) : Cal P w K mg base 5 "lengths" ps_lengths (spLengths C) := by
  refine D.cal sc_lengths (fun vs H Q E h => ?_) (fun f cdv A outer s H vs Q E hr h => ?_)
  · obtain ⟨a, ws, rfl, _⟩ := h
    rfl
  · obtain ⟨a, ws, rfl, hV, k⟩ := h
    have last : atI (rgV 0 ((81 : Nat) : Int)) (-1) = some (V.int 80) := by decide +kernel
    refine ⟨_, (pss_cons (ps_expr (pe_own C_check_views hr (by decide) (by rfl) (pa_cons (pv 0) pa_nil)))
      (pss_cons (ps_set (i := 1) sc_lengths.nd rfl (.inl rfl) (pe_own0 C_telling_lengths hr (by decide) (by rfl)))
      (pss_cons (ps_setLc (i := 2) (own := [("length", 4)]) (by rfl) sc_lengths.nd rfl rfl (sw_true rfl rfl rfl (by decide +kernel)) (pi_list (pv 1)) (blkOk_by (own := [("length", 4)]) (N := ["views", "tried", "possible", "beyond", "length"]) (sc := defScope s_lengths) (by decide +kernel)) (fun _ _ _ _ _ => pg_name (i := 4) sc_lengths.nd rfl (.inl rfl)) (fun _ _ _ _ _ => (pts_one (pt_cmpR op_notN (pe_own C_known_signs hr (by decide) (by rfl) (pa_cons (pv 0) (pa_cons (pv 4) pa_nil))) pe_non (nomark _)))) (fun _ _ _ _ _ => (pv 4)))
      (pss_cons (ps_if (pt_cmpR op_notIn_seq (pe_ix ix_list (pv 1) (pe_un un_neg pe_int) (fun _ _ => rfl)) (pv 2) (by rfl)) (pss_one (ps_ret (pe_tup (pa_cons (pe_callTy call_tuple_of (by rfl) B.tuple (by decide +kernel) (pa_cons (pv 2) pa_nil)) (pa_cons pe_non pa_nil))))) pss_nil)
      (pss_cons (ps_set (i := 3) sc_lengths.nd rfl (.inr rfl) (pe_ix ix_list (pv 1) (pe_un un_neg pe_int) (fun _ _ => rfl)))
      (pss_cons (ps_while PassesOwn.never (pt_cmpR op_in_seq (pe_op op_sub (pv 3) pe_int) (pv 2) (by rfl))
      (pss_one (ps_aug (i := 3) sc_lengths.nd rfl (.inr rfl) pe_int ip_sub)))
      (pss_one (ps_ret (pe_tup (pa_cons (pe_callTy call_tuple_of (by rfl) B.tuple (by decide +kernel) (pa_cons (pe_lc (own := [("length", 4)]) (by rfl) sc_lengths.nd (pi_list (pv 2)) (blkOk_by (own := [("length", 4)]) (N := ["views", "tried", "possible", "beyond", "length"]) (sc := defScope s_lengths) (by decide +kernel)) (fun _ _ _ _ _ => pg_name (i := 4) sc_lengths.nd rfl (.inl rfl)) (fun _ _ _ _ _ => (pts_one (pt_cmpR op_lt (pv 4) (pv 3) (nomark _)))) (fun _ _ _ _ _ => (pv 4))) pa_nil)) (pa_cons (pv 3) pa_nil))))))))))), ?_⟩
    refine ⟨_, rfl, a, ws, rfl, hV, fun G1 s1 => ?_⟩
    refine ⟨rfl, fun T nT => ?_⟩
    have sT : Same G1 (upd G1 T (.lst (rgV 0 ((81 : Nat) : Int)))) := same_new nT
    have eT : upd G1 T (.lst (rgV 0 ((81 : Nat) : Int))) T = some (.lst (rgV 0 ((81 : Nat) : Int))) := upd_same
    generalize upd G1 T (.lst (rgV 0 ((81 : Nat) : Int))) = G2 at sT eT
    have hV2 := hV.same (s1.trans sT)
    refine ⟨_, rfl, T, rfl, ⟨_, .inl (.inl eT)⟩, fun M nM => lc_list (K := K) (a := T) (xs := rgV 0 ((81 : Nat) : Int)) (fun i J => J M = some (.lst (natV (possL ws i))) ∧ Same G2 J)
      ⟨upd_same, same_new nM⟩ (fun i J _ ⟨_, sJ⟩ => .inl (.inl (sJ _ _ eT))) ?_ ?_⟩
    · rintro i x J hi ⟨eM, sJ⟩
      rw [rg_get] at hi
      have i81 : i < 81 := Decidable.byContradiction fun h => by
        rw [if_neg h] at hi
        cases hi
      rw [if_pos i81] at hi
      cases hi
      have pl := possL_len ws i
      refine ⟨rfl, _, rfl, _, rfl, a, i, ws, rfl, hV2.same sJ, by omega, fun no G sG => ⟨rfl, _, rfl, iteNS rfl ?_⟩, fun d kvs G nd sG eD kn => ⟨rfl, _, rfl, ?_⟩⟩
      · refine ⟨?_, sJ.trans sG⟩
        rw [possL_no (fun ⟨cs, l, h⟩ => no cs l h)]
        exact sG _ _ eM
      · rw [decide_eq_false (fun h => by cases h)]
        refine iteT ⟨_, rfl, _, sG _ _ eM, small1000 ?_, ?_, same_offF (sJ.trans sG) nM⟩
        · unfold natV
          rw [List.length_map]
          omega
        · rw [upd_same, possL_yes ⟨wrote kvs 46 i, wrote_len .., wrote_fits kn⟩]
          unfold natV
          rw [List.map_append]
          rfl
    · rintro J ⟨eM, sJ⟩
      rw [rg_len] at eM
      have s2 := s1.trans (sT.trans sJ)
      refine ⟨_, rfl, _, rfl, T, _, _, _, rfl, rfl, .inl (.inl (sJ _ _ eT)), last, _, rfl, M, _, rfl, .inl (.inl (.inl eM)), rfl, flat_natV _, _, rfl, ?_⟩
      rw [in_natV]
      by_cases p80 : Poss ws 80
      · rw [decide_eq_true (show (0 : Int) ≤ 80 ∧ (80 : Int).toNat ∈ possL ws 81 from ⟨by decide, mem_possL.mpr ⟨by decide, p80⟩⟩)]
        refine iteF ⟨_, rfl, _, rfl, T, _, _, _, rfl, rfl, .inl (.inl (sJ _ _ eT)), last, ?_⟩
        refine ⟨fun m σ J1 => ∃ (b : Nat) (u v : Option V), m = b ∧ b ≤ 80 ∧ σ = [some (.ref a), some (.ref T), some (.ref M), some (.int (b : Int)), u] ∧ J1 = J ∧ ∀ n, b ≤ n → n ≤ 80 → Poss ws n, ⟨80, 80, none, none, rfl, Nat.le_refl _, rfl, rfl, fun n h1 h2 => by rw [show n = 80 by omega]; exact p80⟩, ?_⟩
        rintro m σ J1 ⟨b, u, v, rfl, b80, rfl, rfl, hb⟩
        refine ⟨_, rfl, _, _, rfl, rfl, _, rfl, M, _, rfl, .inl (.inl (.inl eM)), rfl, flat_natV _, _, rfl, ?_⟩
        rw [in_natV]
        by_cases hq : (0 : Int) ≤ (m : Int) - 1 ∧ ((m : Int) - 1).toNat ∈ possL ws 81
        · rw [decide_eq_true hq]
          refine iteT ⟨_, fun σ' H' h => h, _, rfl, _, _, rfl, rfl, ?_⟩
          refine ⟨m - 1, by omega, m - 1, u, none, rfl, by omega, ?_, rfl, fun n h1 h2 => ?_⟩
          · have : ((m : Int) - 1) = ((m - 1 : Nat) : Int) := by omega
            show [_, _, _, some (V.int ((m : Int) - 1)), _] = _
            rw [this]
          · rcases Nat.lt_or_ge n m with h | h
            · have e : ((m : Int) - 1).toNat = n := by omega
              rw [e] at hq
              exact (mem_possL.mp hq.2).2
            · exact hb n h h2
        · rw [decide_eq_false hq]
          refine iteF ?_
          refine ⟨_, rfl, M, rfl, ⟨_, .inl (.inl eM)⟩, fun N nN => lc_list (K := K) (a := M) (xs := natV (possL ws 81)) (fun i J2 => J2 N = some (.lst (natV (((possL ws 81).take i).filter fun n => decide (n < m)))) ∧ Same J1 J2)
            ⟨upd_same, same_new nN⟩ (fun i J2 _ ⟨_, s3⟩ => .inl (.inl (s3 _ _ eM))) ?_ ?_⟩
          · rintro i x J2 hi ⟨eN, s3⟩
            unfold natV at hi
            rw [List.getElem?_map] at hi
            cases hx : (possL ws 81)[i]? with
            | none =>
              rw [hx] at hi
              cases hi
            | some q =>
              rw [hx] at hi
              cases hi
              have pl := possL_len ws 81
              refine ⟨rfl, _, rfl, _, rfl, _, _, rfl, rfl, _, rfl, ?_⟩
              by_cases qm : q < m
              · rw [decide_eq_true (show (q : Int) < (m : Int) by omega)]
                refine iteT ⟨_, rfl, _, eN, small1000 ?_, ?_, same_offF s3 nN⟩
                · unfold natV
                  rw [List.length_map]
                  refine Nat.le_trans (List.length_filter_le ..) ?_
                  rw [List.length_take]
                  omega
                · rw [upd_same, takeF_next hx, List.filter_append, List.filter_cons, decide_eq_true qm]
                  unfold natV
                  rw [List.map_append]
                  rfl
              · rw [decide_eq_false (show ¬ (q : Int) < (m : Int) by omega)]
                refine iteF ⟨?_, s3⟩
                rw [eN, takeF_next hx, List.filter_append, List.filter_cons, decide_eq_false qm]
                simp only [Bool.false_eq_true, if_false, List.filter_nil, List.append_nil]
          · rintro J2 ⟨eN, s3⟩
            have ll : (natV (possL ws 81)).length = (possL ws 81).length := by
              unfold natV
              rw [List.length_map]
            rw [ll, List.take_length, possL_lt ws (show m ≤ 81 by omega)] at eN
            refine ⟨N, _, rfl, .inl ⟨.inl (.inl eN), fun S nS => ?_⟩⟩
            have sS : Same J2 (upd J2 S (.tup (natV (possL ws m)))) := same_new nS
            refine ⟨_, rfl, by show 2 ≤ sizeLine; decide, fun R nR => ?_⟩
            have sR : Same (upd J2 S (.tup (natV (possL ws m)))) (upd (upd J2 S (.tup (natV (possL ws m)))) R (.tup [.ref S, .int (m : Int)])) := same_new nR
            refine k R S (possL ws m) _ _ (s2.trans (s3.trans (sS.trans sR))) upd_same (sR _ _ upd_same) (.inr ⟨m, rfl, b80, rfl, hb, ?_⟩)
            by_cases m0 : m = 0
            · exact .inl m0
            · refine .inr fun h => hq ⟨by omega, mem_possL.mpr ⟨by omega, ?_⟩⟩
              rw [show ((m : Int) - 1).toNat = m - 1 by omega]
              exact h
      · rw [decide_eq_false (show ¬ ((0 : Int) ≤ 80 ∧ (80 : Int).toNat ∈ possL ws 81) from fun h => p80 (mem_possL.mp h.2).2)]
        refine iteT ⟨_, rfl, M, _, rfl, .inl ⟨.inl (.inl eM), fun S nS => ?_⟩⟩
        have sS : Same J (upd J S (.tup (natV (possL ws 81)))) := same_new nS
        refine ⟨by show 2 ≤ sizeLine; decide, fun R nR => ?_⟩
        have sR : Same (upd J S (.tup (natV (possL ws 81)))) (upd (upd J S (.tup (natV (possL ws 81)))) R (.tup [.ref S, .non])) := same_new nR
        exact k R S (possL ws 81) _ _ (s2.trans (sS.trans sR)) upd_same (sR _ _ upd_same) (.inl ⟨rfl, rfl, p80⟩)
/-! ### only_text, least_text -/
/-- the least text -/
def Least (ws : List VW) (v : V) : Prop := (v = .non ∧ possL ws 81 = []) ∨ ∃ n kvs y, v = .str y ∧ n ≤ 80 ∧ Poss ws n ∧ (∀ m, m < n → ¬ Poss ws m) ∧ Knows n kvs (Fits ws) ∧ y.cps.toList = wrote kvs 46 n
def spLeast (C : Addr) : Sp := fun vs H Q _ => ∃ (a : Addr) (ws : List VW), vs = [.ref a] ∧ ViewsAt C H a ws ∧ ∀ (v : V) (G : Hp), Same H G → Least ws v → Q v G
theorem possL_head {ws : List VW} {m q : Nat} {l : List Nat} (h : possL ws m = q :: l) : q < m ∧ Poss ws q ∧ ∀ k, k < q → ¬ Poss ws k := by
  have hq := mem_possL.mp (show q ∈ possL ws m by rw [h]; exact List.mem_cons_self ..)
  refine ⟨hq.1, hq.2, fun k hk hp => ?_⟩
  have mk : k ∈ possL ws m := mem_possL.mpr ⟨by omega, hp⟩
  have pw : (possL ws m).Pairwise (· < ·) := by
    unfold possL
    exact List.Pairwise.filter _ List.pairwise_lt_range
  rw [h] at mk pw
  rcases List.mem_cons.mp mk with e | e
  · omega
  · have := (List.pairwise_cons.mp pw).1 k e
    omega
theorem dot1 : (⟨#[46]⟩ : Str).cps.toList = [46] := rfl
theorem cal_least (B : Bi mg) (D : At K mg "least_text" s_least_text ps_least_text) (C_lengths : Cal P w K mg base 5 "lengths" ps_lengths (spLengths C)) (C_known_signs : Cal P w K mg base 3 "known_signs" ps_known_signs (spKnown C)) (C_written_out : Cal P w K mg base 1 "written_out" ps_written_out spWritten) : Cal P w K mg base 6 "least_text" ps_least_text (spLeast C) := by
  refine D.cal sc_least_text (fun vs H Q E h => ?_) (fun f cdv A outer s H vs Q E hr h => ?_)
  · obtain ⟨a, ws, rfl, _⟩ := h
    rfl
  · obtain ⟨a, ws, rfl, hV, k⟩ := h
    have s0 : atI signs.cps.toList 0 = some 46 := by decide +kernel
    refine ⟨_, (pss_cons (ps_asg (pe_own C_lengths hr (by decide) (by rfl) (pa_cons (pv 0) pa_nil)) (pg_tup rfl (pgs_cons (pg_name (i := 1) sc_least_text.nd rfl (.inl rfl)) (pgs_cons (pg_name (i := 2) sc_least_text.nd rfl (.inl rfl)) pgs_nil))))
      (pss_cons (ps_set (i := 3) sc_least_text.nd rfl (.inl rfl) (pe_mid (pe_ifExp (pt_truth (pv 1) (fun _ => rfl)) (pe_ix ix_tup (pv 1) pe_int (fun _ _ => rfl)) (pv 2))))
      (pss_cons (ps_if (pt_cmpR op_isN (pv 3) pe_non (nomark _)) (pss_one (ps_ret pe_non)) pss_nil)
      (pss_one (ps_ret (pe_own C_written_out hr (by decide) (by rfl) (pa_cons (pe_own C_known_signs hr (by decide) (by rfl) (pa_cons (pv 0) (pa_cons (pv 3) pa_nil))) (pa_cons (pv 3) (pa_cons (pe_ix ix_str (pe_cst B.SIGNS (by rfl)) pe_int (fun _ _ => rfl)) pa_nil))))))))), ?_⟩
    refine ⟨_, rfl, a, ws, rfl, hV, fun T S sm b G1 s1 eT eS L => ?_⟩
    refine ⟨T, _, rfl, .inl (.inl eT), rfl, _, _, rfl, _, _, rfl, rfl, ?_⟩
    -- the least length
    refine ⟨fun v J => J = G1 ∧ ((v = .non ∧ possL ws 81 = []) ∨ ∃ n : Nat, v = .int (n : Int) ∧ n ≤ 80 ∧ Poss ws n ∧ ∀ m, m < n → ¬ Poss ws m), ?_, ?_⟩
    · refine ⟨_, rfl, _, .inr (.inl ⟨_, .inl (.inl eS), rfl⟩), ?_⟩
      cases sm with
      | nil =>
        refine iteF ⟨_, rfl, rfl, ?_⟩
        rcases L with ⟨rfl, e, _⟩ | ⟨m, rfl, m80, e, hb, _⟩
        · exact .inl ⟨rfl, e.symm⟩
        · refine .inr ⟨m, rfl, m80, hb m (Nat.le_refl _) m80, fun q hq hp => ?_⟩
          have := mem_possL.mpr ⟨hq, hp⟩
          rw [← e] at this
          cases this
      | cons q l =>
        refine iteT ⟨_, rfl, S, _, _, _, rfl, rfl, .inl (.inl eS), at_of' (xs := natV (q :: l)) (j := 0) rfl rfl, rfl, .inr ⟨q, rfl, ?_⟩⟩
        rcases L with ⟨_, e, _⟩ | ⟨m, _, m80, e, _, _⟩
        · obtain ⟨h1, h2, h3⟩ := possL_head e.symm
          exact ⟨by omega, h2, h3⟩
        · obtain ⟨h1, h2, h3⟩ := possL_head e.symm
          exact ⟨by omega, h2, h3⟩
    · rintro v _ ⟨rfl, hv⟩
      refine ⟨_, rfl, rfl, _, rfl, ?_⟩
      rcases hv with ⟨rfl, e⟩ | ⟨n, rfl, n80, hp, hl⟩
      · exact iteT (k _ _ s1 (.inl ⟨rfl, e⟩))
      · refine iteF ⟨_, rfl, _, rfl, a, n, ws, rfl, hV.same s1, by omega, fun no => ?_, fun d kvs G2 nd s2 eD kn => ?_⟩
        · obtain ⟨cs, l, h⟩ := hp
          exact absurd h (no cs l)
        · refine ⟨_, rfl, signs, 0, 46, rfl, rfl, by decide +kernel, s0, d, n, 46, kvs, _, _, rfl, rfl, eD, kn, by omega, fun y G3 s3 ey => ?_⟩
          exact k _ G3 (s1.trans (s2.trans s3)) (.inr ⟨n, kvs, y, rfl, n80, hp, hl, kn, ey⟩)
/-- what only_text tells: None, or a text that fits, at a length that alone is possible up to 80, with no open place -/
def Sole (ws : List VW) (v : V) : Prop := v = .non ∨ ∃ n kvs y, v = .str y ∧ possL ws 81 = [n] ∧ ¬ Poss ws 80 ∧ Knows n kvs (Fits ws) ∧ y.cps.toList = wrote kvs 63 n ∧ 63 ∉ y.cps.toList
def spOnly (C : Addr) : Sp := fun vs H Q _ => ∃ (a : Addr) (ws : List VW), vs = [.ref a] ∧ ViewsAt C H a ws ∧ ∀ (v : V) (G : Hp), Same H G → Sole ws v → Q v G
theorem cal_only (B : Bi mg) (D : At K mg "only_text" s_only_text ps_only_text) (C_lengths : Cal P w K mg base 5 "lengths" ps_lengths (spLengths C)) (C_signs : Cal P w K mg base 5 "signs" ps_signs (spSigns C)) : Cal P w K mg base 6 "only_text" ps_only_text (spOnly C) := by
  refine D.cal sc_only_text (fun vs H Q E h => ?_) (fun f cdv A outer s H vs Q E hr h => ?_)
  · obtain ⟨a, ws, rfl, _⟩ := h
    rfl
  · obtain ⟨a, ws, rfl, hV, k⟩ := h
    refine ⟨_, (pss_cons (ps_asg (pe_own C_lengths hr (by decide) (by rfl) (pa_cons (pv 0) pa_nil)) (pg_tup rfl (pgs_cons (pg_name (i := 1) sc_only_text.nd rfl (.inl rfl)) (pgs_cons (pg_name (i := 2) sc_only_text.nd rfl (.inl rfl)) pgs_nil))))
      (pss_cons (ps_if (PW.pt (pw_or (pt_cmpR op_notN (pv 2) pe_non (nomark _)) (pw_or1 (pt_cmpR op_ne (pe_callB call_len (by rfl) B.len (by decide +kernel) (pa_cons (pv 1) pa_nil)) pe_int (nomark _))))) (pss_one (ps_ret pe_non)) pss_nil)
      (pss_cons (ps_set (i := 3) sc_only_text.nd rfl (.inl rfl) (pe_own C_signs hr (by decide) (by rfl) (pa_cons (pv 0) (pa_cons (pe_ix ix_tup (pv 1) pe_int (fun _ _ => rfl)) pa_nil))))
      (pss_one (ps_ret (pe_mid (pe_ifExp (pt_cmpR op_in_sign (pe_cst B.SEVERAL (by rfl)) (pv 3) (by rfl)) pe_non (pv 3)))))))), ?_⟩
    refine ⟨_, rfl, a, ws, rfl, hV, fun T S sm b G1 s1 eT eS L => ?_⟩
    refine ⟨T, _, rfl, .inl (.inl eT), rfl, _, _, rfl, _, _, rfl, rfl, ?_⟩
    refine ⟨_, rfl, rfl, _, rfl, ?_⟩
    rcases L with ⟨rfl, e, n80⟩ | ⟨m, rfl, _⟩
    · refine iteNS rfl ⟨_, rfl, _, _, rfl, .inr ⟨_, .inl (.inl eS), rfl⟩, rfl, _, rfl, ?_⟩
      have ll : (natV sm).length = sm.length := by
        unfold natV
        rw [List.length_map]
      rw [ll]
      by_cases h1 : sm.length = 1
      · rw [decide_eq_true (show V.int (sm.length : Int) = V.int 1 by rw [h1]; rfl)]
        obtain ⟨n, rfl⟩ := List.length_eq_one_iff.mp h1
        have hn := (possL_head e.symm).1
        refine iteF ⟨_, rfl, _, rfl, S, _, _, _, rfl, rfl, .inl (.inl eS), (rfl : atI (natV [n]) 0 = some (V.int (n : Int))), a, n, ws, rfl, hV.same s1, by omega, fun v G2 s2 hv => ?_⟩
        rcases hv with ⟨rfl, no⟩ | ⟨kvs, y, rfl, kn, ey⟩
        · obtain ⟨cs, l, h⟩ := (possL_head e.symm).2.1
          exact absurd h (no cs l)
        · refine ⟨fun v J => J = G2 ∧ Sole ws v, ?_, ?_⟩
          · refine ⟨_, rfl, 63, y, by decide +kernel, rfl, _, rfl, ?_⟩
            by_cases h63 : 63 ∈ y.cps.toList
            · rw [decide_eq_true h63]
              exact iteT ⟨rfl, .inl rfl⟩
            · rw [decide_eq_false h63]
              exact iteF ⟨_, rfl, rfl, .inr ⟨n, kvs, y, rfl, e.symm, n80, kn, ey, h63⟩⟩
          · rintro v _ ⟨rfl, hv⟩
            exact k v _ (s1.trans s2) hv
      · rw [decide_eq_false (show ¬ V.int (sm.length : Int) = V.int 1 from fun h => h1 (by have := V.int.inj h; omega))]
        exact iteT (k _ _ s1 (.inl rfl))
    · rw [decide_eq_false (fun h => by cases h)]
      exact iteT (iteT (k _ _ s1 (.inl rfl)))
end
end Gu
namespace Gu
open PySem PySem.Spec PyProof.Rows L2
/-! ### views refused -/
/-- no row: what isinstance says of each part is known -/
def RowNo (K : PySem.W.Frag) (C : Addr) (H : Hp) (v : V) : Prop := NoTup K H 1 4 v ∨ ∃ (l : Addr) (xs : List V) (bs : List Bool), v = .ref l ∧ SqT K H l xs ∧ 1 ≤ xs.length ∧ xs.length ≤ 4 ∧ bs.length = xs.length ∧ (∀ (j : Nat) (y : V), xs[j]? = some y → ∃ b : Bool, bs[j]? = some b ∧ IsaC K H y C b) ∧ bs.all id = false
theorem RowNo.same {K : PySem.W.Frag} {C : Addr} {H G : Hp} {v : V} (s : Same H G) (h : RowNo K C H v) : RowNo K C G v := h.imp (NoTup.same s) fun ⟨l, xs, bs, e, q, l1, l4, lb, each, n⟩ => ⟨l, xs, bs, e, stE s q, l1, l4, lb, fun j y hy => by
  obtain ⟨b, h1, h2⟩ := each j y hy
  exact ⟨b, h1, h2.same s⟩, n⟩
def ViewOk (K : PySem.W.Frag) (C : Addr) (H : Hp) (v : V) : Prop := ∃ (l : Addr) (a : V) (z : Str), v = .ref l ∧ SqT K H l [a, .str z] ∧ RowOk C H a ∧ z.length ≤ 1000 ∧ isTxt z 200 = true
theorem ViewOk.same {K : PySem.W.Frag} {C : Addr} {H G : Hp} {v : V} (s : Same H G) (h : ViewOk K C H v) : ViewOk K C G v := by
  obtain ⟨l, a, z, e, q, r, b, t⟩ := h
  exact ⟨l, a, z, e, stE s q, r.same s, b, t⟩
def ViewNo (K : PySem.W.Frag) (C : Addr) (H : Hp) (v : V) : Prop := NoTup K H 2 2 v ∨ ∃ (l : Addr) (a b : V), v = .ref l ∧ SqT K H l [a, b] ∧ (RowNo K C H a ∨ (RowOk C H a ∧ NoTxt K H 200 b))
theorem ViewNo.same {K : PySem.W.Frag} {C : Addr} {H G : Hp} {v : V} (s : Same H G) (h : ViewNo K C H v) : ViewNo K C G v := h.imp (NoTup.same s) fun ⟨l, a, b, e, q, r⟩ => ⟨l, a, b, e, stE s q, r.imp (RowNo.same s) fun ⟨x, y⟩ => ⟨x.same s, y.same s⟩⟩
def ViewsOk (K : PySem.W.Frag) (C : Addr) (H : Hp) (v : V) : Prop := ∃ (l : Addr) (xs : List V), v = .ref l ∧ SqT K H l xs ∧ 1 ≤ xs.length ∧ xs.length ≤ 4 ∧ ∀ y ∈ xs, ViewOk K C H y
theorem ViewsOk.same {K : PySem.W.Frag} {C : Addr} {H G : Hp} {v : V} (s : Same H G) (h : ViewsOk K C H v) : ViewsOk K C G v := by
  obtain ⟨l, xs, e, q, l1, l4, a⟩ := h
  exact ⟨l, xs, e, stE s q, l1, l4, fun y hy => (a y hy).same s⟩
/-- no views: the place of the first wrong one, or None -/
def ViewsBad (K : PySem.W.Frag) (C : Addr) (H : Hp) (v spot : V) : Prop := (spot = .non ∧ NoTup K H 1 4 v) ∨
  ∃ (l : Addr) (xs : List V) (i : Nat) (x : V), v = .ref l ∧ SqT K H l xs ∧ 1 ≤ xs.length ∧ xs.length ≤ 4 ∧ (∀ j y, j < i → xs[j]? = some y → ViewOk K C H y) ∧ xs[i]? = some x ∧ ViewNo K C H x ∧ spot = .int (i : Int)
theorem ViewsBad.same {K : PySem.W.Frag} {C : Addr} {H G : Hp} {v spot : V} (s : Same H G) (h : ViewsBad K C H v spot) : ViewsBad K C G v spot := h.imp (And.imp id (NoTup.same s)) fun ⟨l, xs, i, x, e, q, l1, l4, b, hx, n, es⟩ => ⟨l, xs, i, x, e, stE s q, l1, l4, fun j y hj hy => (b j y hj hy).same s, hx, n.same s, es⟩
section
variable {P : Program} {w : World} {K : PySem.W.Frag} {mg : Str → Option Value} {base : Heap} {C U CV CL : Addr}
def spRowG (K : PySem.W.Frag) (C : Addr) : Sp := fun vs H Q _ => ∃ v : V, vs = [v] ∧ ((NoTup K H 1 4 v ∧ Q (.bl false) H) ∨ ∃ (l : Addr) (xs : List V) (bs : List Bool), v = .ref l ∧ SqT K H l xs ∧ 1 ≤ xs.length ∧ xs.length ≤ 4 ∧ bs.length = xs.length ∧ (∀ (j : Nat) (y : V), xs[j]? = some y → ∃ b : Bool, bs[j]? = some b ∧ IsaC K H y C b) ∧ ∀ G, Same H G → Q (.bl (bs.all id)) G)
theorem cal_rowG (B : Bi mg) (S : ShC K mg C) (D : At K mg "is_row" s_is_row ps_is_row) (C_is_tuple : Cal P w K mg base 1 "is_tuple" ps_is_tuple (spTup K)) : Cal P w K mg base 2 "is_row" ps_is_row (spRowG K C) := by
  refine D.cal sc_is_row (fun vs H Q E h => ?_) (fun f cdv A outer s H vs Q E hr h => ?_)
  · obtain ⟨v, rfl, _⟩ := h
    rfl
  · obtain ⟨v, rfl, way⟩ := h
    refine ⟨_, (pss_one (ps_ret (pe_and (pe_own C_is_tuple hr (by decide) (by rfl) (pa_cons (pv 0) (pa_cons pe_int (pa_cons (pe_cst B.MOST_ROW (by rfl)) pa_nil)))) (pe_one (pe_callB (cr_all rfl) (by rfl) B.all (by decide +kernel) (pa_cons (pe_lc (own := [("part", 1)]) (by rfl) sc_is_row.nd (pi_tup (pv 0)) (blkOk_by (own := [("part", 1)]) (N := ["value", "part"]) (sc := defScope s_is_row) (by decide +kernel)) (fun _ _ _ _ _ => pg_name (i := 1) sc_is_row.nd rfl (.inl rfl)) (fun _ _ _ _ _ => pts_nil) (fun _ _ _ _ _ => (pe_callB (id := "isinstance") (r := rIsi K) call_isi (by rfl) B.isinstance (by decide +kernel) (pa_cons (pv 1) (pa_cons (pe_glob (v := .ref C) (by rfl) S.g rfl) pa_nil))))) pa_nil)))))), ?_⟩
    refine ⟨_, rfl, _, 1, 4, rfl, ?_⟩
    rcases way with ⟨no, q⟩ | ⟨l, xs, bs, rfl, hs, l1, l4, lb, each, k⟩
    · exact .inr ⟨no, _, rfl, iteF q⟩
    · refine .inl ⟨l, xs, rfl, hs, l1, l4, _, rfl, iteT ⟨_, rfl, l, rfl, ⟨_, hs⟩, fun M nM => lc_tup (K := K) (a := l) (xs := xs) (fun i J => J M = some (.lst ((bs.take i).map V.bl)) ∧ Same H J) ⟨upd_same, same_new nM⟩ (fun i J _ ⟨_, sJ⟩ => stE sJ hs) ?_ ?_⟩⟩
      · rintro i v J hi ⟨eM, sJ⟩
        have il := (List.getElem?_eq_some_iff.mp hi).1
        obtain ⟨b, hb, t, i1, i2⟩ := each i v hi
        refine ⟨rfl, yes (iteT ⟨_, rfl, _, _, t, _, b, rfl, .own C, TyX.same sJ i1, i2, _, eM, small1000 (by rw [List.length_map, List.length_take]; omega), ?_, same_offF sJ nM⟩)⟩
        rw [upd_same, List.take_add_one, hb, List.map_append]
        rfl
      · rintro J ⟨eM, sJ⟩
        refine ⟨M, bs, rfl, .inl (.inl ?_), k J sJ⟩
        rw [eM, ← lb, List.take_length]
/-- a row, or none -/
def spRowB (K : PySem.W.Frag) (C : Addr) : Sp := fun vs H Q _ => ∃ v : V, vs = [v] ∧ ((RowOk C H v ∧ ∀ G, Same H G → Q (.bl true) G) ∨ (RowNo K C H v ∧ ∀ G, Same H G → Q (.bl false) G))
theorem rowB_of (S : ShC K mg C) (c : Cal P w K mg base 2 "is_row" ps_is_row (spRowG K C)) : Cal P w K mg base 2 "is_row" ps_is_row (spRowB K C) := c.imp fun vs H Q E ⟨v, e, h⟩ => by
  refine ⟨v, e, ?_⟩
  rcases h with ⟨⟨a, rs, rfl, row, l1, l4⟩, k⟩ | ⟨no | ⟨l, xs, bs, rfl, hs, l1, l4, lb, each, n⟩, k⟩
  · refine .inr ⟨a, _, List.replicate rs.length true, rfl, .inl (.inl row.tp), by rw [List.length_map]; exact l1, by rw [List.length_map]; exact l4, by rw [List.length_replicate, List.length_map], fun j y hy => ?_, fun G s => ?_⟩
    · have jl := (List.getElem?_eq_some_iff.mp hy).1
      rw [List.length_map] at jl
      obtain ⟨q, hq, rfl⟩ : ∃ q ∈ rs, y = .ref q.1 := by
        obtain ⟨q, h1, h2⟩ := List.mem_map.mp (List.mem_of_getElem? hy)
        exact ⟨q, h1, h2.symm⟩
      obtain ⟨⟨dx, b, ex, _⟩, _⟩ := row.sh q hq
      exact ⟨true, by rw [List.getElem?_replicate, if_pos jl], isaC_sh S ex⟩
    · rw [show (List.replicate rs.length true).all id = true by rw [List.all_eq_true]; intro b hb; exact List.eq_of_mem_replicate hb]
      exact k G s
  · exact .inl ⟨no, k H (Same.refl H)⟩
  · exact .inr ⟨l, xs, bs, rfl, hs, l1, l4, lb, each, fun G s => by rw [n]; exact k G s⟩
/-- a view, or none -/
def spViewB (K : PySem.W.Frag) (C : Addr) : Sp := fun vs H Q _ => ∃ v : V, vs = [v] ∧ ((ViewOk K C H v ∧ ∀ G, Same H G → Q (.bl true) G) ∨ (ViewNo K C H v ∧ ∀ G, Same H G → Q (.bl false) G))
theorem cal_viewB (B : Bi mg) (D : At K mg "is_view" s_is_view ps_is_view) (C_is_tuple : Cal P w K mg base 1 "is_tuple" ps_is_tuple (spTup K)) (C_is_text : Cal P w K mg base 1 "is_text" ps_is_text (spTxt K)) (C_is_row : Cal P w K mg base 2 "is_row" ps_is_row (spRowB K C)) : Cal P w K mg base 3 "is_view" ps_is_view (spViewB K C) := by
  refine D.cal sc_is_view (fun vs H Q E h => ?_) (fun f cdv A outer s H vs Q E hr h => ?_)
  · obtain ⟨v, rfl, _⟩ := h
    rfl
  · obtain ⟨v, rfl, way⟩ := h
    refine ⟨_, (pss_one (ps_ret (pe_and (pe_own C_is_tuple hr (by decide) (by rfl) (pa_cons (pv 0) (pa_cons pe_int (pa_cons pe_int pa_nil)))) (pe_and (pe_own C_is_row hr (by decide) (by rfl) (pa_cons (pe_ix ix_tup (pv 0) pe_int (fun _ _ => rfl)) pa_nil)) (pe_one (pe_own C_is_text hr (by decide) (by rfl) (pa_cons (pe_ix ix_tup (pv 0) pe_int (fun _ _ => rfl)) (pa_cons (pe_cst B.MOST_TEXT (by rfl)) pa_nil)))))))), ?_⟩
    refine ⟨_, rfl, _, 2, 2, rfl, ?_⟩
    rcases way with ⟨⟨l, a, z, rfl, hs, ro, zl, zt⟩, k⟩ | ⟨no | ⟨l, a, b, rfl, hs, way⟩, k⟩
    · refine .inl ⟨l, _, rfl, hs, by show 2 ≤ 2; decide, by show 2 ≤ 2; decide, _, rfl, iteT ⟨_, rfl, l, _, _, _, rfl, rfl, hs, (rfl : atI [a, V.str z] 0 = some a), ?_⟩⟩
      refine ⟨a, rfl, .inl ⟨ro, fun G sG => ⟨_, rfl, iteT ?_⟩⟩⟩
      refine ⟨_, rfl, l, _, _, _, rfl, rfl, stE sG hs, (rfl : atI [a, V.str z] 1 = some (V.str z)), ?_⟩
      exact ⟨_, 200, rfl, .inl ⟨z, rfl, zl, zt, fun G2 s2 => k G2 (sG.trans s2)⟩⟩
    · exact .inr ⟨no, _, rfl, iteF (k H (Same.refl H))⟩
    · refine .inl ⟨l, _, rfl, hs, by show 2 ≤ 2; decide, by show 2 ≤ 2; decide, _, rfl, iteT ⟨_, rfl, l, _, _, _, rfl, rfl, hs, (rfl : atI [a, b] 0 = some a), ?_⟩⟩
      rcases way with rn | ⟨ro, nt⟩
      · exact ⟨a, rfl, .inr ⟨rn, fun G sG => ⟨_, rfl, iteF (k G sG)⟩⟩⟩
      · refine ⟨a, rfl, .inl ⟨ro, fun G sG => ⟨_, rfl, iteT ?_⟩⟩⟩
        refine ⟨_, rfl, l, _, _, _, rfl, rfl, stE sG hs, (rfl : atI [a, b] 1 = some b), ?_⟩
        exact ⟨_, 200, rfl, .inr ⟨nt.same sG, fun G2 s2 => k G2 (sG.trans s2)⟩⟩
def spViewsE (K : PySem.W.Frag) (C CV : Addr) : Sp := fun vs H Q E => ∃ v : V, vs = [v] ∧ ((ViewsOk K C H v ∧ ∀ G, Same H G → Q .non G) ∨ ∃ spot, ViewsBad K C H v spot ∧ Raised CV "index" spot H E)
theorem cal_viewsE (B : Bi mg) (D : At K mg "check_views" s_check_views ps_check_views) (T_InvalidViews : ErrK K mg bVE U "InvalidViews" CV) (S_InvalidViews : ErrF K "InvalidViews" "index" CV) (C_is_tuple : Cal P w K mg base 1 "is_tuple" ps_is_tuple (spTup K)) (C_is_view : Cal P w K mg base 3 "is_view" ps_is_view (spViewB K C)) : CalX P w K mg base 4 "check_views" ps_check_views (spViewsE K C CV) := by
  refine D.calX sc_check_views (fun vs H Q E h => ?_) (fun f cdv A outer s H vs Q E hr h => ?_)
  · obtain ⟨v, rfl, _⟩ := h
    rfl
  · obtain ⟨v, rfl, way⟩ := h
    refine ⟨_, (pss_cons (ps_if (pt_not (pt_val (pe_own C_is_tuple hr (by decide) (by rfl) (pa_cons (pv 0) (pa_cons pe_int (pa_cons (pe_cst B.MOST_VIEWS (by rfl)) pa_nil)))))) (pss_one (ps_raiseE T_InvalidViews S_InvalidViews rfl hr (takes_of rfl rfl rfl rfl) (pa_cons pe_non pa_nil) (by rfl))) pss_nil)
      (pss_one (ps_for (passes_of rfl) rfl (pi_enT (by rfl) B.enumerate (pa_cons (pv 0) pa_nil)) (pg_tup rfl (pgs_cons (pg_name (i := 1) sc_check_views.nd rfl (.inl rfl)) (pgs_cons (pg_name (i := 2) sc_check_views.nd rfl (.inl rfl)) pgs_nil)))
      (pss_one (ps_if (pt_not (pt_val (pe_own C_is_view hr (by decide) (by rfl) (pa_cons (pv 2) pa_nil)))) (pss_one (ps_raiseE T_InvalidViews S_InvalidViews rfl hr (takes_of rfl rfl rfl rfl) (pa_cons (pv 1) pa_nil) (by rfl))) pss_nil))))), ?_⟩
    rcases way with ⟨⟨a, xs, rfl, hs, l1, l4, all⟩, k⟩ | ⟨spot, ⟨rfl, no⟩ | ⟨l, xs, i, x, rfl, hs, l1, l4, before, hx, bad, rfl⟩, k⟩
    · refine ⟨_, rfl, _, 1, 4, rfl, .inl ⟨a, _, rfl, hs, l1, l4, _, rfl, iteF ?_⟩⟩
      refine ⟨_, rfl, a, _, rfl, hs, for_it walk_enT (fun i σ J => ∃ u v, σ = [some (.ref a), u, v] ∧ Same H J) ⟨none, none, rfl, Same.refl H⟩ (fun i σ J _ ⟨_, _, _, sJ⟩ => stE sJ hs) ?_ ?_⟩
      · rintro i x σ J J1 hi ⟨u, v2, rfl, sJ⟩ ⟨T, z, hz, rfl, nT, rfl⟩
        have sT : Same H (upd J T (.tup [.int (i : Nat), z])) := sJ.trans (same_new nT)
        exact ⟨T, _, rfl, .inl (.inl upd_same), rfl, _, _, rfl, _, _, rfl, rfl, _, rfl, z, rfl, .inl ⟨(all z (List.mem_of_getElem? hz)).same sT, fun G sG => ⟨_, rfl, iteF ⟨_, _, rfl, sT.trans sG⟩⟩⟩⟩
      · rintro σ J ⟨u, v, rfl, sJ⟩
        exact k J sJ
    · exact ⟨_, rfl, v, 1, 4, rfl, .inr ⟨no, _, rfl, iteT ⟨_, rfl, fun d nd => k d _ (same_new nd) upd_same⟩⟩⟩
    · refine ⟨_, rfl, _, 1, 4, rfl, .inl ⟨l, _, rfl, hs, l1, l4, _, rfl, iteF ?_⟩⟩
      refine ⟨_, rfl, l, _, rfl, hs, for_it walk_enT (fun j σ J => ∃ u v, σ = [some (.ref l), u, v] ∧ Same H J ∧ j ≤ i) ⟨none, none, rfl, Same.refl H, Nat.zero_le _⟩ (fun i σ J _ ⟨_, _, _, sJ, _⟩ => stE sJ hs) ?_ ?_⟩
      · rintro j y σ J J1 hj ⟨u, v2, rfl, sJ, ji⟩ ⟨T, z, hz, rfl, nT, rfl⟩
        have sT : Same H (upd J T (.tup [.int (j : Nat), z])) := sJ.trans (same_new nT)
        refine ⟨T, _, rfl, .inl (.inl upd_same), rfl, _, _, rfl, _, _, rfl, rfl, ?_⟩
        rcases Nat.lt_or_ge j i with lt | ge
        · exact ⟨_, rfl, z, rfl, .inl ⟨(before j z lt hz).same sT, fun G sG => ⟨_, rfl, iteF ⟨_, _, rfl, sT.trans sG, lt⟩⟩⟩⟩
        · have ej : j = i := by omega
          subst ej
          rw [hx] at hz
          cases hz
          exact ⟨_, rfl, x, rfl, .inr ⟨bad.same sT, fun G sG => ⟨_, rfl, iteT ⟨_, rfl, _, rfl, fun d nd => k d _ ((sT.trans sG).trans (same_new nd)) upd_same⟩⟩⟩⟩
      · rintro σ J ⟨u, v, rfl, sJ, ji⟩
        have := (List.getElem?_eq_some_iff.mp hx).1
        omega
end
end Gu
namespace Gu
open PySem PySem.Spec PyProof.Rows L2
/-! ### what refuses views -/
section
variable {P : Program} {w : World} {K : PySem.W.Frag} {mg : Str → Option Value} {base : Heap} {C CV CL : Addr}
def sp1V (K : PySem.W.Frag) (C CV : Addr) : Sp := fun vs H _ E => ∃ v spot : V, vs = [v] ∧ ViewsBad K C H v spot ∧ Raised CV "index" spot H E
def spLV (K : PySem.W.Frag) (C CV CL : Addr) : Sp := fun vs H _ E => ∃ v n : V, vs = [v, n] ∧ ((∃ spot, ViewsBad K C H v spot ∧ Raised CV "index" spot H E) ∨ (ViewsOk K C H v ∧ NoNum K H 500 n ∧ Raised CL "value" n H E))
theorem cv_lengths (B : Bi mg) (D : At K mg "lengths" s_lengths ps_lengths) (CX_check_views : CalX P w K mg base 4 "check_views" ps_check_views (spViewsE K C CV)) : CalX P w K mg base 5 "lengths" ps_lengths (sp1V K C CV) := by
  refine D.calX sc_lengths (fun vs H Q E h => ?_) (fun f cdv A outer s H vs Q E hr h => ?_)
  · obtain ⟨v, spot, rfl, _⟩ := h
    rfl
  · obtain ⟨v, spot, rfl, bad, k⟩ := h
    refine ⟨_, (pss_cons (ps_expr (pe_ownX CX_check_views hr (by decide) (takes_of rfl rfl rfl rfl) (fun _ _ _ _ h => h) (by rfl) (pa_cons (pv 0) pa_nil)))
      pss_never), ?_⟩
    exact ⟨_, rfl, v, rfl, .inr ⟨spot, bad, k⟩⟩
theorem cv_least_text (B : Bi mg) (D : At K mg "least_text" s_least_text ps_least_text) (CX_lengths : CalX P w K mg base 5 "lengths" ps_lengths (sp1V K C CV)) : CalX P w K mg base 6 "least_text" ps_least_text (sp1V K C CV) := by
  refine D.calX sc_least_text (fun vs H Q E h => ?_) (fun f cdv A outer s H vs Q E hr h => ?_)
  · obtain ⟨v, spot, rfl, _⟩ := h
    rfl
  · obtain ⟨v, spot, rfl, bad, k⟩ := h
    refine ⟨_, (pss_cons (ps_asg (pe_ownX CX_lengths hr (by decide) (takes_of rfl rfl rfl rfl) (fun _ _ _ _ h => h) (by rfl) (pa_cons (pv 0) pa_nil)) (pg_tup rfl (pgs_cons (pg_name (i := 1) sc_least_text.nd rfl (.inl rfl)) (pgs_cons (pg_name (i := 2) sc_least_text.nd rfl (.inl rfl)) pgs_nil))))
      pss_never), ?_⟩
    exact ⟨_, rfl, v, spot, rfl, bad, k⟩
theorem cv_only_text (B : Bi mg) (D : At K mg "only_text" s_only_text ps_only_text) (CX_lengths : CalX P w K mg base 5 "lengths" ps_lengths (sp1V K C CV)) : CalX P w K mg base 6 "only_text" ps_only_text (sp1V K C CV) := by
  refine D.calX sc_only_text (fun vs H Q E h => ?_) (fun f cdv A outer s H vs Q E hr h => ?_)
  · obtain ⟨v, spot, rfl, _⟩ := h
    rfl
  · obtain ⟨v, spot, rfl, bad, k⟩ := h
    refine ⟨_, (pss_cons (ps_asg (pe_ownX CX_lengths hr (by decide) (takes_of rfl rfl rfl rfl) (fun _ _ _ _ h => h) (by rfl) (pa_cons (pv 0) pa_nil)) (pg_tup rfl (pgs_cons (pg_name (i := 1) sc_only_text.nd rfl (.inl rfl)) (pgs_cons (pg_name (i := 2) sc_only_text.nd rfl (.inl rfl)) pgs_nil))))
      pss_never), ?_⟩
    exact ⟨_, rfl, v, spot, rfl, bad, k⟩
theorem cv_signs (B : Bi mg) (D : At K mg "signs" s_signs ps_signs) (CX_check_views : CalX P w K mg base 4 "check_views" ps_check_views (spViewsE K C CV)) (CX_check_length : CalX P w K mg base 2 "check_length" ps_check_length (spLenE K CL)) : CalX P w K mg base 5 "signs" ps_signs (spLV K C CV CL) := by
  refine D.calX sc_signs (fun vs H Q E h => ?_) (fun f cdv A outer s H vs Q E hr h => ?_)
  · obtain ⟨v, u, rfl, _⟩ := h
    rfl
  · obtain ⟨v, u, rfl, ⟨spot, bad, k⟩ | ⟨ok, bad, k⟩⟩ := h
    · refine ⟨_, (pss_cons (ps_expr (pe_ownX CX_check_views hr (by decide) (takes_of rfl rfl rfl rfl) (fun _ _ _ _ h => h) (by rfl) (pa_cons (pv 0) pa_nil)))
      (pss_cons (ps_expr (pe_ownX CX_check_length hr (by decide) (takes_of rfl rfl rfl rfl) (fun _ _ _ _ h => h) (by rfl) (pa_cons (pv 1) pa_nil)))
      pss_never)), ?_⟩
      exact ⟨_, rfl, v, rfl, .inr ⟨spot, bad, k⟩⟩
    · refine ⟨_, (pss_cons (ps_expr (pe_ownX CX_check_views hr (by decide) (takes_of rfl rfl rfl rfl) (fun _ _ _ _ h => h) (by rfl) (pa_cons (pv 0) pa_nil)))
      (pss_cons (ps_expr (pe_ownX CX_check_length hr (by decide) (takes_of rfl rfl rfl rfl) (fun _ _ _ _ h => h) (by rfl) (pa_cons (pv 1) pa_nil)))
      pss_never)), ?_⟩
      exact ⟨_, rfl, v, rfl, .inl ⟨ok, fun G s => ⟨_, rfl, u, rfl, bad.same s, k.same s⟩⟩⟩
theorem cv_number_of (B : Bi mg) (D : At K mg "number_of" s_number_of ps_number_of) (CX_signs : CalX P w K mg base 5 "signs" ps_signs (spLV K C CV CL)) : CalX P w K mg base 6 "number_of" ps_number_of (spLV K C CV CL) := by
  refine D.calX sc_number_of (fun vs H Q E h => ?_) (fun f cdv A outer s H vs Q E hr h => ?_)
  · obtain ⟨v, u, rfl, _⟩ := h
    rfl
  · obtain ⟨v, u, rfl, way⟩ := h
    refine ⟨_, (pss_cons (ps_set (i := 2) sc_number_of.nd rfl (.inl rfl) (pe_ownX CX_signs hr (by decide) (takes_of rfl rfl rfl rfl) (fun _ _ _ _ h => h) (by rfl) (pa_cons (pv 0) (pa_cons (pv 1) pa_nil))))
      pss_never), ?_⟩
    exact ⟨_, rfl, _, rfl, v, u, rfl, way⟩
end
end Gu
namespace Gu
open PySem PySem.Spec PyProof.Rows L2 LamX
/-! ### what is seen and what is due, side by side -/
theorem KeepP.sh {p x C : Addr} {H G : Hp} {r : Rec} (h : ShAt C H x r) (hp : Pot H p) (k : KeepP p H G) : ShAt C G x r := by
  obtain ⟨dx, b, h1, h2⟩ := h
  exact ⟨dx, b, k.ins hp h1, k.tup hp h2⟩
theorem row_new {C a : Addr} {H : Hp} {l : List (Addr × Rec)} (n : H a = none) (h : ∀ q ∈ l, ShAt C H q.1 q.2 ∧ q.2.fit) : RowAt C (upd H a (.tup (l.map fun q => V.ref q.1))) a l := ⟨upd_same, fun q hq => ⟨(h q hq).1.same (same_new n), (h q hq).2⟩⟩
theorem refs_ne {J : Hp} {S q : Addr} {N : Str} {ys : List V} {qs : List (Addr × Str × V)} (hS : J S = some (.lst (qs.map fun q => V.ref q.1))) (e : J q = some (.lst (.str N :: ys))) : q ≠ S := fun z => by
  rw [z, hS] at e
  cases qs with
  | nil => cases e
  | cons a l => cases e
theorem SeenAt.off {p S D : Addr} {J : Hp} {qs rs : List (Addr × Str × V)} {o : HO} (h : SeenAt p J D qs) (hS : J S = some (.lst (rs.map fun q => V.ref q.1))) (ne : S ≠ D) : SeenAt p (upd J S o) D qs := by
  refine ⟨by rw [upd_ne (Ne.symm ne)]; exact h.ls, h.ne, fun q hq => ⟨?_, (h.el q hq).2⟩⟩
  rw [upd_ne (refs_ne hS (h.el q hq).1)]
  exact (h.el q hq).1
structure Two (T : List (Addr × Str)) (p : Addr) (G J : Hp) (S D l : Addr) (fl : List V) (us vs : List (Str × V)) : Prop where
  lad : LadT T p G J
  fs : S ≠ p ∧ ∀ o, G S = some o → ∃ ps, o = .tbl ps
  fd : D ≠ p ∧ ∀ o, G D = some o → ∃ ps, o = .tbl ps
  ne : S ≠ D
  seen : ∃ qs : List (Addr × Str × V), qs.map (·.2) = us ∧ SeenAt p J S qs
  due : ∃ qs : List (Addr × Str × V), qs.map (·.2) = vs ∧ SeenAt p J D qs
  ll : J l = some (.lst fl)
  lp : l ≠ p
  lS : l ≠ S
  lD : l ≠ D
section
variable {T : List (Addr × Str)} {p S D l : Addr} {G J I : Hp} {fl : List V} {us vs : List (Str × V)}
theorem Two.kp (h : Two T p G J S D l fl us vs) : KeepP p G J := h.lad.kp
theorem Two.keep (h : Two T p G J S D l fl us vs) (L : LadT T p J I) : Two T p G I S D l fl us vs := by
  obtain ⟨q1, a1, b1⟩ := h.seen
  obtain ⟨q2, a2, b2⟩ := h.due
  exact ⟨h.lad.trans L, h.fs, h.fd, h.ne, ⟨q1, a1, b1.keep h.lad.pot L.kp⟩, ⟨q2, a2, b2.keep h.lad.pot L.kp⟩, L.kp.lst h.lp h.ll, h.lp, h.lS, h.lD⟩
theorem Two.same (h : Two T p G J S D l fl us vs) (s : Same J I) : Two T p G I S D l fl us vs := h.keep ((LadT.refl h.lad.pot h.lad.tabs h.lad.sys).same s)
theorem Two.lsS (h : Two T p G J S D l fl us vs) : ∃ xs : List V, J S = some (.lst xs) ∧ xs.length = us.length := by
  obtain ⟨q1, a1, b1⟩ := h.seen
  exact ⟨_, b1.ls, by rw [List.length_map, ← a1, List.length_map]⟩
theorem Two.lsD (h : Two T p G J S D l fl us vs) : ∃ xs : List V, J D = some (.lst xs) ∧ xs.length = vs.length := by
  obtain ⟨q1, a1, b1⟩ := h.due
  exact ⟨_, b1.ls, by rw [List.length_map, ← a1, List.length_map]⟩
/-- an answer is added to what is seen -/
theorem Two.say (h : Two T p G J S D l fl us vs) {q : Addr} {N : Str} {v : V} {xs : List V} (e : J q = some (.lst [.str N, v, .bl true])) (ex : J S = some (.lst xs)) : Two T p G (upd J S (.lst (xs ++ [.ref q]))) S D l fl (us ++ [(N, v)]) vs := by
  obtain ⟨q1, a1, b1⟩ := h.seen
  obtain ⟨q2, a2, b2⟩ := h.due
  cases ex.symm.trans b1.ls
  exact ⟨h.lad.mut h.fs ex, h.fs, h.fd, h.ne, ⟨_, by rw [List.map_append, a1]; rfl, b1.more e (refs_ne b1.ls e)⟩, ⟨q2, a2, b2.off b1.ls h.ne⟩, by rw [upd_ne h.lS]; exact h.ll, h.lp, h.lS, h.lD⟩
/-- an answer is added to what is due -/
theorem Two.owe (h : Two T p G J S D l fl us vs) {q : Addr} {N : Str} {v : V} {xs : List V} (e : J q = some (.lst [.str N, v, .bl true])) (ex : J D = some (.lst xs)) : Two T p G (upd J D (.lst (xs ++ [.ref q]))) S D l fl us (vs ++ [(N, v)]) := by
  obtain ⟨q1, a1, b1⟩ := h.seen
  obtain ⟨q2, a2, b2⟩ := h.due
  cases ex.symm.trans b2.ls
  exact ⟨h.lad.mut h.fd ex, h.fs, h.fd, h.ne, ⟨q1, a1, b1.off b2.ls (Ne.symm h.ne)⟩, ⟨_, by rw [List.map_append, a2]; rfl, b2.more e (refs_ne b2.ls e)⟩, by rw [upd_ne h.lD]; exact h.ll, h.lp, h.lS, h.lD⟩
/-- what is due is made anew, with two more -/
theorem Two.owed (h : Two T p G J S D l fl us vs) {E w1 w2 : Addr} {N1 N2 : Str} {v1 v2 : V} {xs : List V} (e1 : J w1 = some (.lst [.str N1, v1, .bl true])) (e2 : J w2 = some (.lst [.str N2, v2, .bl true])) (ex : J D = some (.lst xs)) (n : J E = none) :
    Two T p G (upd J E (.lst (xs ++ [.ref w1, .ref w2]))) S E l fl us (vs ++ [(N1, v1), (N2, v2)]) := by
  have s : Same J (upd J E (.lst (xs ++ [.ref w1, .ref w2]))) := same_new n
  have K := h.same s
  obtain ⟨q1, a1, b1⟩ := K.seen
  obtain ⟨q2, a2, b2⟩ := h.due
  cases ex.symm.trans b2.ls
  have nS : S ≠ E := by
    obtain ⟨q, _, b⟩ := h.seen
    exact ne_of_none b.ls n
  refine ⟨K.lad, h.fs, h.lad.free n, nS, ⟨q1, a1, b1⟩, ⟨q2 ++ [(w1, N1, v1), (w2, N2, v2)], by rw [List.map_append, a2]; rfl, ?_⟩, K.ll, h.lp, h.lS, ne_of_none h.ll n⟩
  refine ⟨by rw [upd_same, List.map_append]; rfl, h.lad.pot.ne n, fun r hr => ?_⟩
  rcases List.mem_append.mp hr with hr | hr
  · exact ⟨s _ _ (b2.el r hr).1, ne_of_none (b2.el r hr).1 n⟩
  · simp only [List.mem_cons, List.not_mem_nil, or_false] at hr
    rcases hr with rfl | rfl
    · exact ⟨s _ _ e1, ne_of_none e1 n⟩
    · exact ⟨s _ _ e2, ne_of_none e2 n⟩
/-- another list stands by -/
theorem Two.swap (h : Two T p G J S D l fl us vs) {l2 : Addr} {f2 : List V} (n : J l2 = none) : Two T p G (upd J l2 (.lst f2)) S D l2 f2 us vs := by
  have K := h.same (same_new n (o := .lst f2))
  obtain ⟨xs, eS, _⟩ := h.lsS
  obtain ⟨ys, eD, _⟩ := h.lsD
  exact ⟨K.lad, h.fs, h.fd, h.ne, K.seen, K.due, upd_same, h.lad.pot.ne n, Ne.symm (ne_of_none eS n), Ne.symm (ne_of_none eD n)⟩
/-- nothing is seen yet, nothing is due -/
theorem Two.none {S D l : Addr} (L : LadT T p G J) (nS : J S = .none) (nD : upd J S (.lst []) D = .none) (nl : upd (upd J S (.lst [])) D (.lst []) l = .none) : Two T p G (upd (upd (upd J S (.lst [])) D (.lst [])) l (.lst fl)) S D l fl [] [] := by
  have s1 : Same J (upd J S (.lst [])) := same_new nS
  have s2 : Same (upd J S (.lst [])) (upd (upd J S (.lst [])) D (.lst [])) := same_new nD
  have s3 : Same (upd (upd J S (.lst [])) D (.lst [])) (upd (upd (upd J S (.lst [])) D (.lst [])) l (.lst fl)) := same_new nl
  have L1 := L.same s1
  have L2 := L1.same s2
  have L3 := L2.same s3
  have z1 := (SeenAt.none L.pot nS).keep L1.pot (KeepP.ofSame (s2.trans s3))
  have z2 := (SeenAt.none L1.pot nD).keep L2.pot (KeepP.ofSame s3)
  have ne : S ≠ D := ne_of_none (upd_same : upd J S (.lst []) S = _) nD
  exact ⟨L3, L.free nS, L1.free nD, ne, ⟨[], rfl, z1⟩, ⟨[], rfl, z2⟩, upd_same, L2.pot.ne nl, Ne.symm (ne_of_none (s2 _ _ upd_same) nl), Ne.symm (ne_of_none (upd_same : upd (upd J S (.lst [])) D (.lst []) D = _) nl)⟩
theorem Two.dataS {K : PySem.W.Frag} (h : Two T p G J S D l fl us vs) {ds : List PyData} (all : DpEs K J (us.map (·.2)) ds) : DpE K J (.ref S) (.list ((us.zip ds).map fun x => said x.1.1 x.2)) := by
  obtain ⟨q1, a1, b1⟩ := h.seen
  subst a1
  have z := seen_data b1 (ds := ds) (by rw [List.map_map] at all; exact all)
  have e : (q1.zip ds).map (fun x => PyData.list [.str x.1.2.1, x.2, .bool true]) = ((q1.map (·.2)).zip ds).map fun x => said x.1.1 x.2 := by
    rw [List.zip_map_left, List.map_map]
    rfl
  rw [← e]
  exact z
theorem Two.dataD {K : PySem.W.Frag} (h : Two T p G J S D l fl us vs) {ds : List PyData} (all : DpEs K J (vs.map (·.2)) ds) : DpE K J (.ref D) (.list ((vs.zip ds).map fun x => said x.1.1 x.2)) := by
  obtain ⟨q1, a1, b1⟩ := h.due
  subst a1
  have z := seen_data b1 (ds := ds) (by rw [List.map_map] at all; exact all)
  have e : (q1.zip ds).map (fun x => PyData.list [.str x.1.2.1, x.2, .bool true]) = ((q1.map (·.2)).zip ds).map fun x => said x.1.1 x.2 := by
    rw [List.zip_map_left, List.map_map]
    rfl
  rw [← e]
  exact z
/-- f(lambda: what surely raises) -/
theorem lam_raise {hs : List (Str × Str × Addr)} {C : Addr} {N Fl : Str} {v : V} {t : XK → TE} {σ : L2.St} {H : Hp} {Q : VK} (m : (N, Fl, C) ∈ hs) (L : LadT T p H H) (k : ∀ q J, LadT T p H J → J q = some (.lst [.str N, v, .bl true]) → Q (.ref q) J)
    (go : ∀ (E : XK) (H1 : Hp), LadT T p H H1 → Raised C Fl v H1 E → t E σ H1 fun _ _ => False) : tLam T (TEnd hs) t σ H Q := by
  refine ⟨L.tabs, fun H1 e1 t1 => ?_⟩
  have L1 : LadT T p H H1 := L.ext e1 t1
  refine ⟨fun cls d G => ∃ dd : Addr, cls = .ref C ∧ d = some dd ∧ LadT T p H G ∧ G dd = some (.xd [(Fl, v)]), fun _ _ => False, go _ H1 L1 fun d G s e => ⟨d, rfl, rfl, L1.same s, e⟩, fun cls d G ⟨dd, h1, h3, h4, h5⟩ => ⟨N, Fl, C, dd, v, m, h1, h3, h5, fun q J s e => k q J (h4.same s) e⟩, fun _ _ z => z.elim⟩
end
end Gu
namespace Gu
open PySem PySem.Spec PyProof.Rows L2
/-! ### _law_bad -/
def SpotOk (v : V) : Prop := v = .non ∨ ∃ n : Nat, n < 3 ∧ v = .int (n : Int)
/-- a pair of what are no views, and of the place -/
def BadV (K : PySem.W.Frag) (C p : Addr) (H : Hp) (t : Addr) : Prop := ∃ v spot : V, H t = some (.tup [v, spot]) ∧ SpotOk spot ∧ ∀ J, KeepP p H J → ViewsBad K C J v spot
abbrev one05 : Rec := ⟨3, 2, 1, ("~" : String)⟩
theorem fit05 : one05.fit := ⟨⟨by decide, by decide⟩, ⟨by decide, by decide⟩, ⟨by decide, by decide⟩, by decide +kernel⟩
theorem a201 {y : Str} (h : y.cps.toList = (List.replicate (201 : Int).toNat ("a" : Str).cps.toList).flatten) : y = ⟨(List.replicate 201 97).toArray⟩ := str_ext (by rw [h]; decide +kernel)
theorem row1_ok {C a x : Addr} {J : Hp} (e : J a = some (.tup [.ref x])) (h : ShAt C J x one05) : RowOk C J (.ref a) := ⟨a, [(x, one05)], rfl, ⟨e, fun q hq => by
  rw [List.mem_singleton.mp hq]
  exact ⟨h, fit05⟩⟩, by show 1 ≤ 1; decide, by show 1 ≤ 4; decide⟩
theorem each2 {R : V → Bool → Prop} {a b : V} {p q : Bool} (h : R a p) (g : R b q) : ∀ (j : Nat) (y : V), [a, b][j]? = some y → ∃ c : Bool, [p, q][j]? = some c ∧ R y c := fun j y hy => by
  match j with
  | 0 => cases hy; exact ⟨p, rfl, h⟩
  | 1 => cases hy; exact ⟨q, rfl, g⟩
  | n + 2 => simp at hy
theorem bef1 {P : V → Prop} {a b : V} {l : List V} (h : P a) : ∀ j y, j < 1 → (a :: b :: l)[j]? = some y → P y := fun j y hj hy => by
  obtain rfl : j = 0 := by omega
  cases hy
  exact h
theorem bef2 {P : V → Prop} {a b : V} {l : List V} (h : P a) (g : P b) : ∀ j y, j < 2 → (a :: b :: l)[j]? = some y → P y := fun j y hj hy => by
  match j, hj with
  | 0, _ => cases hy; exact h
  | 1, _ => cases hy; exact g
theorem pot_neR {H : Hp} {p q r : Addr} {xs : List V} (h : Pot H p) (e : H q = some (.lst (.ref r :: xs))) : q ≠ p := fun y => by
  obtain ⟨a, b, c, f⟩ := h
  rw [← y, e] at f
  cases f
theorem kit_tyR {K : PySem.W.Frag} {C : Addr} {b : Bool} (h : PySem.W.mroIn K C (.type "tuple") = some b) : PySem.W.kitOne K (.ref C) (.type "tuple") = some b := by
  unfold PySem.W.kitOne
  rw [if_neg (fun z => by have y := eq_of_beq z; cases y)]
  show (if PySem.W.kitMeta "tuple" = true then PySem.W.mroIn K C (.type "tuple") else none) = some b
  rw [if_pos (by decide +kernel)]
  exact h
section
variable {P : Program} {w : World} {K : PySem.W.Frag} {mg : Str → Option Value} {base : Heap} {C : Addr}
theorem BadV.keep {p t : Addr} {H G : Hp} (h : BadV K C p H t) (hp : Pot H p) (k : KeepP p H G) : BadV K C p G t := by
  obtain ⟨v, spot, e, o, b⟩ := h
  exact ⟨v, spot, k.tup hp e, o, fun J kp => b J (k.trans kp)⟩
theorem isa_insT (S : ShC K mg C) (Z : ShX K C) {H : Hp} {x dx : Addr} {fs : List (Str × V)} (e : H x = some (.ins C dx fs)) : Isa K H (.ref x) "tuple" false := ⟨_, .base (.ins e S.cl S.ha S.hn S.ht S.hm), kit_tyR Z.nt⟩
def spBadV (K : PySem.W.Frag) (C : Addr) : Sp := fun vs H Q _ => ∃ (p x : Addr), vs = [.ref p, .ref x] ∧ Pot H p ∧ ShAt C H x one05 ∧ ∀ t G, Ladled p H G → BadV K C p G t → Q (.ref t) G
set_option maxHeartbeats 4000000 in
theorem cal_bad (B : Bi mg) (S : ShC K mg C) (Z : ShX K C) (D : At K mg "_law_bad" s_law_bad ps_law_bad) (C_law_one_of : Cal P w K mg base 2 "_law_one_of" ps_law_one_of (spOneOf K)) : Cal P w K mg base 3 "_law_bad" ps_law_bad (spBadV K C) := by
  refine D.cal sc_law_bad (fun vs H Q E h => ?_) (fun f cdv A outer s H vs Q E hr h => ?_)
  · obtain ⟨p, x, rfl, _⟩ := h
    rfl
  · obtain ⟨p, x, rfl, hp, hx, k⟩ := h
    refine ⟨_, (pss_cons (ps_set (i := 2) sc_law_bad.nd rfl (.inl rfl) (pe_tup (pa_cons (pe_tup (pa_cons (pv 1) pa_nil)) (pa_cons pe_str pa_nil))))
      (pss_cons (ps_set (i := 3) sc_law_bad.nd rfl (.inl rfl) (pe_lst (pa_cons (pe_tup (pa_cons pe_non (pa_cons pe_non pa_nil))) (pa_cons (pe_tup (pa_cons (pe_tup pa_nil) (pa_cons pe_non pa_nil))) (pa_cons (pe_tup (pa_cons (pe_lst (pa_cons (pv 2) pa_nil)) (pa_cons pe_non pa_nil))) (pa_cons (pe_tup (pa_cons (pe_op op_repT (pe_tup (pa_cons (pv 2) pa_nil)) pe_int) (pa_cons pe_non pa_nil))) (pa_cons (pe_tup (pa_cons (pe_tup (pa_cons (pv 2) (pa_cons pe_non pa_nil))) (pa_cons pe_int pa_nil))) (pa_cons (pe_tup (pa_cons (pv 2) (pa_cons pe_int pa_nil))) (pa_cons (pe_tup (pa_cons pe_str (pa_cons pe_non pa_nil))) pa_nil)))))))))
      (pss_cons (ps_set (i := 3) sc_law_bad.nd rfl (.inl rfl) (pe_op op_cat (pv 3) (pe_lst (pa_cons (pe_tup (pa_cons (pe_tup (pa_cons (pv 2) (pa_cons (pe_tup (pa_cons (pe_tup (pa_cons (pv 1) pa_nil)) (pa_cons pe_str pa_nil))) pa_nil))) (pa_cons pe_int pa_nil))) (pa_cons (pe_tup (pa_cons (pe_tup (pa_cons (pv 2) (pa_cons (pv 2) (pa_cons (pe_tup (pa_cons (pe_tup pa_nil) (pa_cons pe_str pa_nil))) pa_nil)))) (pa_cons pe_int pa_nil))) (pa_cons (pe_tup (pa_cons (pe_tup (pa_cons (pe_tup (pa_cons (pe_tup (pa_cons (pv 1) pa_nil)) (pa_cons (pe_op op_mul_strN pe_str pe_int) pa_nil))) pa_nil)) (pa_cons pe_int pa_nil))) (pa_cons (pe_tup (pa_cons pe_dnewK (pa_cons pe_non pa_nil))) pa_nil)))))))
      (pss_cons (ps_set (i := 3) sc_law_bad.nd rfl (.inl rfl) (pe_op op_cat (pv 3) (pe_lst (pa_cons (pe_tup (pa_cons (pe_tup (pa_cons (pv 2) (pa_cons (pe_lst (pa_cons (pe_tup (pa_cons (pv 1) pa_nil)) (pa_cons pe_str pa_nil))) pa_nil))) (pa_cons pe_int pa_nil))) (pa_cons (pe_tup (pa_cons (pe_tup (pa_cons (pe_tup (pa_cons (pe_tup (pa_cons (pv 1) (pa_cons pe_non pa_nil))) (pa_cons pe_str pa_nil))) (pa_cons (pv 2) pa_nil))) (pa_cons pe_int pa_nil))) (pa_cons (pe_tup (pa_cons (pe_tup (pa_cons (pv 2) (pa_cons (pe_tup (pa_cons (pe_tup (pa_cons (pv 1) pa_nil)) (pa_cons pe_str (pa_cons pe_int pa_nil)))) pa_nil))) (pa_cons pe_int pa_nil))) pa_nil))))))
      (pss_one (ps_ret (pe_own C_law_one_of hr (by decide) (by rfl) (pa_cons (pv 0) (pa_cons (pe_op op_cat (pv 3) (pe_lst (pa_cons (pe_tup (pa_cons (pe_tup (pa_cons (pe_tup (pa_cons (pe_op op_repT (pe_tup (pa_cons (pv 1) pa_nil)) pe_int) (pa_cons pe_str pa_nil))) pa_nil)) (pa_cons pe_int pa_nil))) (pa_cons (pe_tup (pa_cons (pe_tup (pa_cons (pv 2) (pa_cons (pe_tup (pa_cons (pe_tup (pa_cons (pv 1) pa_nil)) (pa_cons pe_non pa_nil))) pa_nil))) (pa_cons pe_int pa_nil))) (pa_cons (pe_tup (pa_cons (pe_tup (pa_cons (pe_tup (pa_cons (pv 1) (pa_cons pe_str pa_nil))) pa_nil)) (pa_cons pe_int pa_nil))) pa_nil))))) pa_nil))))))))), ?_⟩
    refine ⟨_, rfl, by show 1 ≤ sizeLine; decide, fun o1 no1 => ?_⟩
    have so1 : Same H (upd H o1 (.tup [.ref x])) := same_new no1
    have eo1 : upd H o1 (.tup [.ref x]) o1 = some (.tup [.ref x]) := upd_same
    generalize upd H o1 (.tup [.ref x]) = K1 at so1 eo1
    refine ⟨by show 2 ≤ sizeLine; decide, fun o2 no2 => ?_⟩
    have so2 : Same K1 (upd K1 o2 (.tup [.ref o1, .str "ab"])) := same_new no2
    have eo2 : upd K1 o2 (.tup [.ref o1, .str "ab"]) o2 = some (.tup [.ref o1, .str "ab"]) := upd_same
    generalize upd K1 o2 (.tup [.ref o1, .str "ab"]) = K2 at so2 eo2
    refine ⟨by show 2 ≤ sizeLine; decide, fun o3 no3 => ?_⟩
    have so3 : Same K2 (upd K2 o3 (.tup [.non, .non])) := same_new no3
    have eo3 : upd K2 o3 (.tup [.non, .non]) o3 = some (.tup [.non, .non]) := upd_same
    generalize upd K2 o3 (.tup [.non, .non]) = K3 at so3 eo3
    refine ⟨by show 0 ≤ sizeLine; decide, fun o4 no4 => ?_⟩
    have so4 : Same K3 (upd K3 o4 (.tup [])) := same_new no4
    have eo4 : upd K3 o4 (.tup []) o4 = some (.tup []) := upd_same
    generalize upd K3 o4 (.tup []) = K4 at so4 eo4
    refine ⟨by show 2 ≤ sizeLine; decide, fun o5 no5 => ?_⟩
    have so5 : Same K4 (upd K4 o5 (.tup [.ref o4, .non])) := same_new no5
    have eo5 : upd K4 o5 (.tup [.ref o4, .non]) o5 = some (.tup [.ref o4, .non]) := upd_same
    generalize upd K4 o5 (.tup [.ref o4, .non]) = K5 at so5 eo5
    refine ⟨_, rfl, by show 1 ≤ sizeLine; decide, fun o6 no6 => ?_⟩
    have so6 : Same K5 (upd K5 o6 (.lst [.ref o2])) := same_new no6
    have eo6 : upd K5 o6 (.lst [.ref o2]) o6 = some (.lst [.ref o2]) := upd_same
    generalize upd K5 o6 (.lst [.ref o2]) = K6 at so6 eo6
    refine ⟨by show 2 ≤ sizeLine; decide, fun o7 no7 => ?_⟩
    have so7 : Same K6 (upd K6 o7 (.tup [.ref o6, .non])) := same_new no7
    have eo7 : upd K6 o7 (.tup [.ref o6, .non]) o7 = some (.tup [.ref o6, .non]) := upd_same
    generalize upd K6 o7 (.tup [.ref o6, .non]) = K7 at so7 eo7
    refine ⟨_, rfl, by show 1 ≤ sizeLine; decide, fun o8 no8 => ?_⟩
    have so8 : Same K7 (upd K7 o8 (.tup [.ref o2])) := same_new no8
    have eo8 : upd K7 o8 (.tup [.ref o2]) o8 = some (.tup [.ref o2]) := upd_same
    generalize upd K7 o8 (.tup [.ref o2]) = K8 at so8 eo8
    refine ⟨_, _, [.ref o2], rfl, rfl, .inl (.inl eo8), List.cons_ne_nil _ _, by decide, by decide, by show 1 ≤ 1000; decide, fun o9 no9 => ?_⟩
    have so9 : Same K8 (upd K8 o9 (.tup (List.replicate (5 : Int).toNat [.ref o2]).flatten)) := same_new no9
    have eo9 : upd K8 o9 (.tup (List.replicate (5 : Int).toNat [.ref o2]).flatten) o9 = some (.tup [.ref o2, .ref o2, .ref o2, .ref o2, .ref o2]) := upd_same
    generalize upd K8 o9 (.tup (List.replicate (5 : Int).toNat [.ref o2]).flatten) = K9 at so9 eo9
    refine ⟨by show 2 ≤ sizeLine; decide, fun o10 no10 => ?_⟩
    have so10 : Same K9 (upd K9 o10 (.tup [.ref o9, .non])) := same_new no10
    have eo10 : upd K9 o10 (.tup [.ref o9, .non]) o10 = some (.tup [.ref o9, .non]) := upd_same
    generalize upd K9 o10 (.tup [.ref o9, .non]) = K10 at so10 eo10
    refine ⟨_, rfl, by show 2 ≤ sizeLine; decide, fun o11 no11 => ?_⟩
    have so11 : Same K10 (upd K10 o11 (.tup [.ref o2, .non])) := same_new no11
    have eo11 : upd K10 o11 (.tup [.ref o2, .non]) o11 = some (.tup [.ref o2, .non]) := upd_same
    generalize upd K10 o11 (.tup [.ref o2, .non]) = K11 at so11 eo11
    refine ⟨by show 2 ≤ sizeLine; decide, fun o12 no12 => ?_⟩
    have so12 : Same K11 (upd K11 o12 (.tup [.ref o11, .int 1])) := same_new no12
    have eo12 : upd K11 o12 (.tup [.ref o11, .int 1]) o12 = some (.tup [.ref o11, .int 1]) := upd_same
    generalize upd K11 o12 (.tup [.ref o11, .int 1]) = K12 at so12 eo12
    refine ⟨_, rfl, by show 2 ≤ sizeLine; decide, fun o13 no13 => ?_⟩
    have so13 : Same K12 (upd K12 o13 (.tup [.ref o2, .int 0])) := same_new no13
    have eo13 : upd K12 o13 (.tup [.ref o2, .int 0]) o13 = some (.tup [.ref o2, .int 0]) := upd_same
    generalize upd K12 o13 (.tup [.ref o2, .int 0]) = K13 at so13 eo13
    refine ⟨by show 2 ≤ sizeLine; decide, fun o14 no14 => ?_⟩
    have so14 : Same K13 (upd K13 o14 (.tup [.str "ab", .non])) := same_new no14
    have eo14 : upd K13 o14 (.tup [.str "ab", .non]) o14 = some (.tup [.str "ab", .non]) := upd_same
    generalize upd K13 o14 (.tup [.str "ab", .non]) = K14 at so14 eo14
    refine ⟨by show 7 ≤ sizeLine; decide, fun o15 no15 => ?_⟩
    have so15 : Same K14 (upd K14 o15 (.lst [.ref o3, .ref o5, .ref o7, .ref o10, .ref o12, .ref o13, .ref o14])) := same_new no15
    have eo15 : upd K14 o15 (.lst [.ref o3, .ref o5, .ref o7, .ref o10, .ref o12, .ref o13, .ref o14]) o15 = some (.lst [.ref o3, .ref o5, .ref o7, .ref o10, .ref o12, .ref o13, .ref o14]) := upd_same
    generalize upd K14 o15 (.lst [.ref o3, .ref o5, .ref o7, .ref o10, .ref o12, .ref o13, .ref o14]) = K15 at so15 eo15
    refine ⟨_, rfl, _, rfl, _, rfl, by show 1 ≤ sizeLine; decide, fun o16 no16 => ?_⟩
    have so16 : Same K15 (upd K15 o16 (.tup [.ref x])) := same_new no16
    have eo16 : upd K15 o16 (.tup [.ref x]) o16 = some (.tup [.ref x]) := upd_same
    generalize upd K15 o16 (.tup [.ref x]) = K16 at so16 eo16
    refine ⟨by show 2 ≤ sizeLine; decide, fun o17 no17 => ?_⟩
    have so17 : Same K16 (upd K16 o17 (.tup [.ref o16, .str "aB"])) := same_new no17
    have eo17 : upd K16 o17 (.tup [.ref o16, .str "aB"]) o17 = some (.tup [.ref o16, .str "aB"]) := upd_same
    generalize upd K16 o17 (.tup [.ref o16, .str "aB"]) = K17 at so17 eo17
    refine ⟨by show 2 ≤ sizeLine; decide, fun o18 no18 => ?_⟩
    have so18 : Same K17 (upd K17 o18 (.tup [.ref o2, .ref o17])) := same_new no18
    have eo18 : upd K17 o18 (.tup [.ref o2, .ref o17]) o18 = some (.tup [.ref o2, .ref o17]) := upd_same
    generalize upd K17 o18 (.tup [.ref o2, .ref o17]) = K18 at so18 eo18
    refine ⟨by show 2 ≤ sizeLine; decide, fun o19 no19 => ?_⟩
    have so19 : Same K18 (upd K18 o19 (.tup [.ref o18, .int 1])) := same_new no19
    have eo19 : upd K18 o19 (.tup [.ref o18, .int 1]) o19 = some (.tup [.ref o18, .int 1]) := upd_same
    generalize upd K18 o19 (.tup [.ref o18, .int 1]) = K19 at so19 eo19
    refine ⟨_, rfl, _, rfl, by show 0 ≤ sizeLine; decide, fun o20 no20 => ?_⟩
    have so20 : Same K19 (upd K19 o20 (.tup [])) := same_new no20
    have eo20 : upd K19 o20 (.tup []) o20 = some (.tup []) := upd_same
    generalize upd K19 o20 (.tup []) = K20 at so20 eo20
    refine ⟨by show 2 ≤ sizeLine; decide, fun o21 no21 => ?_⟩
    have so21 : Same K20 (upd K20 o21 (.tup [.ref o20, .str "ab"])) := same_new no21
    have eo21 : upd K20 o21 (.tup [.ref o20, .str "ab"]) o21 = some (.tup [.ref o20, .str "ab"]) := upd_same
    generalize upd K20 o21 (.tup [.ref o20, .str "ab"]) = K21 at so21 eo21
    refine ⟨by show 3 ≤ sizeLine; decide, fun o22 no22 => ?_⟩
    have so22 : Same K21 (upd K21 o22 (.tup [.ref o2, .ref o2, .ref o21])) := same_new no22
    have eo22 : upd K21 o22 (.tup [.ref o2, .ref o2, .ref o21]) o22 = some (.tup [.ref o2, .ref o2, .ref o21]) := upd_same
    generalize upd K21 o22 (.tup [.ref o2, .ref o2, .ref o21]) = K22 at so22 eo22
    refine ⟨by show 2 ≤ sizeLine; decide, fun o23 no23 => ?_⟩
    have so23 : Same K22 (upd K22 o23 (.tup [.ref o22, .int 2])) := same_new no23
    have eo23 : upd K22 o23 (.tup [.ref o22, .int 2]) o23 = some (.tup [.ref o22, .int 2]) := upd_same
    generalize upd K22 o23 (.tup [.ref o22, .int 2]) = K23 at so23 eo23
    refine ⟨_, rfl, by show 1 ≤ sizeLine; decide, fun o24 no24 => ?_⟩
    have so24 : Same K23 (upd K23 o24 (.tup [.ref x])) := same_new no24
    have eo24 : upd K23 o24 (.tup [.ref x]) o24 = some (.tup [.ref x]) := upd_same
    generalize upd K23 o24 (.tup [.ref x]) = K24 at so24 eo24
    refine ⟨_, _, rfl, rfl, by decide, by decide, by decide +kernel, fun y25 hy25 => ?_⟩
    have hy25 := a201 hy25
    subst hy25
    refine ⟨by show 2 ≤ sizeLine; decide, fun o26 no26 => ?_⟩
    have so26 : Same K24 (upd K24 o26 (.tup [.ref o24, .str ⟨(List.replicate 201 97).toArray⟩])) := same_new no26
    have eo26 : upd K24 o26 (.tup [.ref o24, .str ⟨(List.replicate 201 97).toArray⟩]) o26 = some (.tup [.ref o24, .str ⟨(List.replicate 201 97).toArray⟩]) := upd_same
    generalize upd K24 o26 (.tup [.ref o24, .str ⟨(List.replicate 201 97).toArray⟩]) = K26 at so26 eo26
    refine ⟨by show 1 ≤ sizeLine; decide, fun o27 no27 => ?_⟩
    have so27 : Same K26 (upd K26 o27 (.tup [.ref o26])) := same_new no27
    have eo27 : upd K26 o27 (.tup [.ref o26]) o27 = some (.tup [.ref o26]) := upd_same
    generalize upd K26 o27 (.tup [.ref o26]) = K27 at so27 eo27
    refine ⟨by show 2 ≤ sizeLine; decide, fun o28 no28 => ?_⟩
    have so28 : Same K27 (upd K27 o28 (.tup [.ref o27, .int 0])) := same_new no28
    have eo28 : upd K27 o28 (.tup [.ref o27, .int 0]) o28 = some (.tup [.ref o27, .int 0]) := upd_same
    generalize upd K27 o28 (.tup [.ref o27, .int 0]) = K28 at so28 eo28
    refine fun o29 no29 => ?_
    have so29 : Same K28 (upd K28 o29 (.dK [])) := same_new no29
    have eo29 : upd K28 o29 (.dK []) o29 = some (.dK []) := upd_same
    generalize upd K28 o29 (.dK []) = K29 at so29 eo29
    refine ⟨by show 2 ≤ sizeLine; decide, fun o30 no30 => ?_⟩
    have so30 : Same K29 (upd K29 o30 (.tup [.ref o29, .non])) := same_new no30
    have eo30 : upd K29 o30 (.tup [.ref o29, .non]) o30 = some (.tup [.ref o29, .non]) := upd_same
    generalize upd K29 o30 (.tup [.ref o29, .non]) = K30 at so30 eo30
    refine ⟨by show 4 ≤ sizeLine; decide, fun o31 no31 => ?_⟩
    have so31 : Same K30 (upd K30 o31 (.lst [.ref o19, .ref o23, .ref o28, .ref o30])) := same_new no31
    have eo31 : upd K30 o31 (.lst [.ref o19, .ref o23, .ref o28, .ref o30]) o31 = some (.lst [.ref o19, .ref o23, .ref o28, .ref o30]) := upd_same
    generalize upd K30 o31 (.lst [.ref o19, .ref o23, .ref o28, .ref o30]) = K31 at so31 eo31
    refine ⟨_, _, _, _, rfl, rfl, (so31 _ _ (so30 _ _ (so29 _ _ (so28 _ _ (so27 _ _ (so26 _ _ (so24 _ _ (so23 _ _ (so22 _ _ (so21 _ _ (so20 _ _ (so19 _ _ (so18 _ _ (so17 _ _ (so16 _ _ eo15))))))))))))))), eo31, by show 7 + 4 ≤ sizeLine; decide, fun o32 no32 => ?_⟩
    have so32 : Same K31 (upd K31 o32 (.lst ([.ref o3, .ref o5, .ref o7, .ref o10, .ref o12, .ref o13, .ref o14] ++ [.ref o19, .ref o23, .ref o28, .ref o30]))) := same_new no32
    have eo32 : upd K31 o32 (.lst ([.ref o3, .ref o5, .ref o7, .ref o10, .ref o12, .ref o13, .ref o14] ++ [.ref o19, .ref o23, .ref o28, .ref o30])) o32 = some (.lst [.ref o3, .ref o5, .ref o7, .ref o10, .ref o12, .ref o13, .ref o14, .ref o19, .ref o23, .ref o28, .ref o30]) := upd_same
    generalize upd K31 o32 (.lst ([.ref o3, .ref o5, .ref o7, .ref o10, .ref o12, .ref o13, .ref o14] ++ [.ref o19, .ref o23, .ref o28, .ref o30])) = K32 at so32 eo32
    refine ⟨_, rfl, _, rfl, _, rfl, by show 1 ≤ sizeLine; decide, fun o33 no33 => ?_⟩
    have so33 : Same K32 (upd K32 o33 (.tup [.ref x])) := same_new no33
    have eo33 : upd K32 o33 (.tup [.ref x]) o33 = some (.tup [.ref x]) := upd_same
    generalize upd K32 o33 (.tup [.ref x]) = K33 at so33 eo33
    refine ⟨by show 2 ≤ sizeLine; decide, fun o34 no34 => ?_⟩
    have so34 : Same K33 (upd K33 o34 (.lst [.ref o33, .str "ab"])) := same_new no34
    have eo34 : upd K33 o34 (.lst [.ref o33, .str "ab"]) o34 = some (.lst [.ref o33, .str "ab"]) := upd_same
    generalize upd K33 o34 (.lst [.ref o33, .str "ab"]) = K34 at so34 eo34
    refine ⟨by show 2 ≤ sizeLine; decide, fun o35 no35 => ?_⟩
    have so35 : Same K34 (upd K34 o35 (.tup [.ref o2, .ref o34])) := same_new no35
    have eo35 : upd K34 o35 (.tup [.ref o2, .ref o34]) o35 = some (.tup [.ref o2, .ref o34]) := upd_same
    generalize upd K34 o35 (.tup [.ref o2, .ref o34]) = K35 at so35 eo35
    refine ⟨by show 2 ≤ sizeLine; decide, fun o36 no36 => ?_⟩
    have so36 : Same K35 (upd K35 o36 (.tup [.ref o35, .int 1])) := same_new no36
    have eo36 : upd K35 o36 (.tup [.ref o35, .int 1]) o36 = some (.tup [.ref o35, .int 1]) := upd_same
    generalize upd K35 o36 (.tup [.ref o35, .int 1]) = K36 at so36 eo36
    refine ⟨_, rfl, by show 2 ≤ sizeLine; decide, fun o37 no37 => ?_⟩
    have so37 : Same K36 (upd K36 o37 (.tup [.ref x, .non])) := same_new no37
    have eo37 : upd K36 o37 (.tup [.ref x, .non]) o37 = some (.tup [.ref x, .non]) := upd_same
    generalize upd K36 o37 (.tup [.ref x, .non]) = K37 at so37 eo37
    refine ⟨by show 2 ≤ sizeLine; decide, fun o38 no38 => ?_⟩
    have so38 : Same K37 (upd K37 o38 (.tup [.ref o37, .str "ab"])) := same_new no38
    have eo38 : upd K37 o38 (.tup [.ref o37, .str "ab"]) o38 = some (.tup [.ref o37, .str "ab"]) := upd_same
    generalize upd K37 o38 (.tup [.ref o37, .str "ab"]) = K38 at so38 eo38
    refine ⟨_, rfl, by show 2 ≤ sizeLine; decide, fun o39 no39 => ?_⟩
    have so39 : Same K38 (upd K38 o39 (.tup [.ref o38, .ref o2])) := same_new no39
    have eo39 : upd K38 o39 (.tup [.ref o38, .ref o2]) o39 = some (.tup [.ref o38, .ref o2]) := upd_same
    generalize upd K38 o39 (.tup [.ref o38, .ref o2]) = K39 at so39 eo39
    refine ⟨by show 2 ≤ sizeLine; decide, fun o40 no40 => ?_⟩
    have so40 : Same K39 (upd K39 o40 (.tup [.ref o39, .int 0])) := same_new no40
    have eo40 : upd K39 o40 (.tup [.ref o39, .int 0]) o40 = some (.tup [.ref o39, .int 0]) := upd_same
    generalize upd K39 o40 (.tup [.ref o39, .int 0]) = K40 at so40 eo40
    refine ⟨_, rfl, _, rfl, by show 1 ≤ sizeLine; decide, fun o41 no41 => ?_⟩
    have so41 : Same K40 (upd K40 o41 (.tup [.ref x])) := same_new no41
    have eo41 : upd K40 o41 (.tup [.ref x]) o41 = some (.tup [.ref x]) := upd_same
    generalize upd K40 o41 (.tup [.ref x]) = K41 at so41 eo41
    refine ⟨by show 3 ≤ sizeLine; decide, fun o42 no42 => ?_⟩
    have so42 : Same K41 (upd K41 o42 (.tup [.ref o41, .str "ab", .int 1])) := same_new no42
    have eo42 : upd K41 o42 (.tup [.ref o41, .str "ab", .int 1]) o42 = some (.tup [.ref o41, .str "ab", .int 1]) := upd_same
    generalize upd K41 o42 (.tup [.ref o41, .str "ab", .int 1]) = K42 at so42 eo42
    refine ⟨by show 2 ≤ sizeLine; decide, fun o43 no43 => ?_⟩
    have so43 : Same K42 (upd K42 o43 (.tup [.ref o2, .ref o42])) := same_new no43
    have eo43 : upd K42 o43 (.tup [.ref o2, .ref o42]) o43 = some (.tup [.ref o2, .ref o42]) := upd_same
    generalize upd K42 o43 (.tup [.ref o2, .ref o42]) = K43 at so43 eo43
    refine ⟨by show 2 ≤ sizeLine; decide, fun o44 no44 => ?_⟩
    have so44 : Same K43 (upd K43 o44 (.tup [.ref o43, .int 1])) := same_new no44
    have eo44 : upd K43 o44 (.tup [.ref o43, .int 1]) o44 = some (.tup [.ref o43, .int 1]) := upd_same
    generalize upd K43 o44 (.tup [.ref o43, .int 1]) = K44 at so44 eo44
    refine ⟨by show 3 ≤ sizeLine; decide, fun o45 no45 => ?_⟩
    have so45 : Same K44 (upd K44 o45 (.lst [.ref o36, .ref o40, .ref o44])) := same_new no45
    have eo45 : upd K44 o45 (.lst [.ref o36, .ref o40, .ref o44]) o45 = some (.lst [.ref o36, .ref o40, .ref o44]) := upd_same
    generalize upd K44 o45 (.lst [.ref o36, .ref o40, .ref o44]) = K45 at so45 eo45
    refine ⟨_, _, _, _, rfl, rfl, (so45 _ _ (so44 _ _ (so43 _ _ (so42 _ _ (so41 _ _ (so40 _ _ (so39 _ _ (so38 _ _ (so37 _ _ (so36 _ _ (so35 _ _ (so34 _ _ (so33 _ _ eo32))))))))))))), eo45, by show 11 + 3 ≤ sizeLine; decide, fun o46 no46 => ?_⟩
    have so46 : Same K45 (upd K45 o46 (.lst ([.ref o3, .ref o5, .ref o7, .ref o10, .ref o12, .ref o13, .ref o14, .ref o19, .ref o23, .ref o28, .ref o30] ++ [.ref o36, .ref o40, .ref o44]))) := same_new no46
    have eo46 : upd K45 o46 (.lst ([.ref o3, .ref o5, .ref o7, .ref o10, .ref o12, .ref o13, .ref o14, .ref o19, .ref o23, .ref o28, .ref o30] ++ [.ref o36, .ref o40, .ref o44])) o46 = some (.lst [.ref o3, .ref o5, .ref o7, .ref o10, .ref o12, .ref o13, .ref o14, .ref o19, .ref o23, .ref o28, .ref o30, .ref o36, .ref o40, .ref o44]) := upd_same
    generalize upd K45 o46 (.lst ([.ref o3, .ref o5, .ref o7, .ref o10, .ref o12, .ref o13, .ref o14, .ref o19, .ref o23, .ref o28, .ref o30] ++ [.ref o36, .ref o40, .ref o44])) = K46 at so46 eo46
    refine ⟨_, rfl, _, rfl, _, rfl, by show 1 ≤ sizeLine; decide, fun o47 no47 => ?_⟩
    have so47 : Same K46 (upd K46 o47 (.tup [.ref x])) := same_new no47
    have eo47 : upd K46 o47 (.tup [.ref x]) o47 = some (.tup [.ref x]) := upd_same
    generalize upd K46 o47 (.tup [.ref x]) = K47 at so47 eo47
    refine ⟨_, _, [.ref x], rfl, rfl, .inl (.inl eo47), List.cons_ne_nil _ _, by decide, by decide, by show 1 ≤ 1000; decide, fun o48 no48 => ?_⟩
    have so48 : Same K47 (upd K47 o48 (.tup (List.replicate (5 : Int).toNat [.ref x]).flatten)) := same_new no48
    have eo48 : upd K47 o48 (.tup (List.replicate (5 : Int).toNat [.ref x]).flatten) o48 = some (.tup [.ref x, .ref x, .ref x, .ref x, .ref x]) := upd_same
    generalize upd K47 o48 (.tup (List.replicate (5 : Int).toNat [.ref x]).flatten) = K48 at so48 eo48
    refine ⟨by show 2 ≤ sizeLine; decide, fun o49 no49 => ?_⟩
    have so49 : Same K48 (upd K48 o49 (.tup [.ref o48, .str "ab"])) := same_new no49
    have eo49 : upd K48 o49 (.tup [.ref o48, .str "ab"]) o49 = some (.tup [.ref o48, .str "ab"]) := upd_same
    generalize upd K48 o49 (.tup [.ref o48, .str "ab"]) = K49 at so49 eo49
    refine ⟨by show 1 ≤ sizeLine; decide, fun o50 no50 => ?_⟩
    have so50 : Same K49 (upd K49 o50 (.tup [.ref o49])) := same_new no50
    have eo50 : upd K49 o50 (.tup [.ref o49]) o50 = some (.tup [.ref o49]) := upd_same
    generalize upd K49 o50 (.tup [.ref o49]) = K50 at so50 eo50
    refine ⟨by show 2 ≤ sizeLine; decide, fun o51 no51 => ?_⟩
    have so51 : Same K50 (upd K50 o51 (.tup [.ref o50, .int 0])) := same_new no51
    have eo51 : upd K50 o51 (.tup [.ref o50, .int 0]) o51 = some (.tup [.ref o50, .int 0]) := upd_same
    generalize upd K50 o51 (.tup [.ref o50, .int 0]) = K51 at so51 eo51
    refine ⟨_, rfl, _, rfl, by show 1 ≤ sizeLine; decide, fun o52 no52 => ?_⟩
    have so52 : Same K51 (upd K51 o52 (.tup [.ref x])) := same_new no52
    have eo52 : upd K51 o52 (.tup [.ref x]) o52 = some (.tup [.ref x]) := upd_same
    generalize upd K51 o52 (.tup [.ref x]) = K52 at so52 eo52
    refine ⟨by show 2 ≤ sizeLine; decide, fun o53 no53 => ?_⟩
    have so53 : Same K52 (upd K52 o53 (.tup [.ref o52, .non])) := same_new no53
    have eo53 : upd K52 o53 (.tup [.ref o52, .non]) o53 = some (.tup [.ref o52, .non]) := upd_same
    generalize upd K52 o53 (.tup [.ref o52, .non]) = K53 at so53 eo53
    refine ⟨by show 2 ≤ sizeLine; decide, fun o54 no54 => ?_⟩
    have so54 : Same K53 (upd K53 o54 (.tup [.ref o2, .ref o53])) := same_new no54
    have eo54 : upd K53 o54 (.tup [.ref o2, .ref o53]) o54 = some (.tup [.ref o2, .ref o53]) := upd_same
    generalize upd K53 o54 (.tup [.ref o2, .ref o53]) = K54 at so54 eo54
    refine ⟨by show 2 ≤ sizeLine; decide, fun o55 no55 => ?_⟩
    have so55 : Same K54 (upd K54 o55 (.tup [.ref o54, .int 1])) := same_new no55
    have eo55 : upd K54 o55 (.tup [.ref o54, .int 1]) o55 = some (.tup [.ref o54, .int 1]) := upd_same
    generalize upd K54 o55 (.tup [.ref o54, .int 1]) = K55 at so55 eo55
    refine ⟨_, rfl, by show 2 ≤ sizeLine; decide, fun o56 no56 => ?_⟩
    have so56 : Same K55 (upd K55 o56 (.tup [.ref x, .str "ab"])) := same_new no56
    have eo56 : upd K55 o56 (.tup [.ref x, .str "ab"]) o56 = some (.tup [.ref x, .str "ab"]) := upd_same
    generalize upd K55 o56 (.tup [.ref x, .str "ab"]) = K56 at so56 eo56
    refine ⟨by show 1 ≤ sizeLine; decide, fun o57 no57 => ?_⟩
    have so57 : Same K56 (upd K56 o57 (.tup [.ref o56])) := same_new no57
    have eo57 : upd K56 o57 (.tup [.ref o56]) o57 = some (.tup [.ref o56]) := upd_same
    generalize upd K56 o57 (.tup [.ref o56]) = K57 at so57 eo57
    refine ⟨by show 2 ≤ sizeLine; decide, fun o58 no58 => ?_⟩
    have so58 : Same K57 (upd K57 o58 (.tup [.ref o57, .int 0])) := same_new no58
    have eo58 : upd K57 o58 (.tup [.ref o57, .int 0]) o58 = some (.tup [.ref o57, .int 0]) := upd_same
    generalize upd K57 o58 (.tup [.ref o57, .int 0]) = K58 at so58 eo58
    refine ⟨by show 3 ≤ sizeLine; decide, fun o59 no59 => ?_⟩
    have so59 : Same K58 (upd K58 o59 (.lst [.ref o51, .ref o55, .ref o58])) := same_new no59
    have eo59 : upd K58 o59 (.lst [.ref o51, .ref o55, .ref o58]) o59 = some (.lst [.ref o51, .ref o55, .ref o58]) := upd_same
    generalize upd K58 o59 (.lst [.ref o51, .ref o55, .ref o58]) = K59 at so59 eo59
    refine ⟨_, _, _, _, rfl, rfl, (so59 _ _ (so58 _ _ (so57 _ _ (so56 _ _ (so55 _ _ (so54 _ _ (so53 _ _ (so52 _ _ (so51 _ _ (so50 _ _ (so49 _ _ (so48 _ _ (so47 _ _ eo46))))))))))))), eo59, by show 14 + 3 ≤ sizeLine; decide, fun o60 no60 => ?_⟩
    have so60 : Same K59 (upd K59 o60 (.lst ([.ref o3, .ref o5, .ref o7, .ref o10, .ref o12, .ref o13, .ref o14, .ref o19, .ref o23, .ref o28, .ref o30, .ref o36, .ref o40, .ref o44] ++ [.ref o51, .ref o55, .ref o58]))) := same_new no60
    have eo60 : upd K59 o60 (.lst ([.ref o3, .ref o5, .ref o7, .ref o10, .ref o12, .ref o13, .ref o14, .ref o19, .ref o23, .ref o28, .ref o30, .ref o36, .ref o40, .ref o44] ++ [.ref o51, .ref o55, .ref o58])) o60 = some (.lst [.ref o3, .ref o5, .ref o7, .ref o10, .ref o12, .ref o13, .ref o14, .ref o19, .ref o23, .ref o28, .ref o30, .ref o36, .ref o40, .ref o44, .ref o51, .ref o55, .ref o58]) := upd_same
    generalize upd K59 o60 (.lst ([.ref o3, .ref o5, .ref o7, .ref o10, .ref o12, .ref o13, .ref o14, .ref o19, .ref o23, .ref o28, .ref o30, .ref o36, .ref o40, .ref o44] ++ [.ref o51, .ref o55, .ref o58])) = K60 at so60 eo60
    have to60 : Same K59 K60 := so60
    have to59 : Same K58 K60 := so59.trans to60
    have to58 : Same K57 K60 := so58.trans to59
    have to57 : Same K56 K60 := so57.trans to58
    have to56 : Same K55 K60 := so56.trans to57
    have to55 : Same K54 K60 := so55.trans to56
    have to54 : Same K53 K60 := so54.trans to55
    have to53 : Same K52 K60 := so53.trans to54
    have to52 : Same K51 K60 := so52.trans to53
    have to51 : Same K50 K60 := so51.trans to52
    have to50 : Same K49 K60 := so50.trans to51
    have to49 : Same K48 K60 := so49.trans to50
    have to48 : Same K47 K60 := so48.trans to49
    have to47 : Same K46 K60 := so47.trans to48
    have to46 : Same K45 K60 := so46.trans to47
    have to45 : Same K44 K60 := so45.trans to46
    have to44 : Same K43 K60 := so44.trans to45
    have to43 : Same K42 K60 := so43.trans to44
    have to42 : Same K41 K60 := so42.trans to43
    have to41 : Same K40 K60 := so41.trans to42
    have to40 : Same K39 K60 := so40.trans to41
    have to39 : Same K38 K60 := so39.trans to40
    have to38 : Same K37 K60 := so38.trans to39
    have to37 : Same K36 K60 := so37.trans to38
    have to36 : Same K35 K60 := so36.trans to37
    have to35 : Same K34 K60 := so35.trans to36
    have to34 : Same K33 K60 := so34.trans to35
    have to33 : Same K32 K60 := so33.trans to34
    have to32 : Same K31 K60 := so32.trans to33
    have to31 : Same K30 K60 := so31.trans to32
    have to30 : Same K29 K60 := so30.trans to31
    have to29 : Same K28 K60 := so29.trans to30
    have to28 : Same K27 K60 := so28.trans to29
    have to27 : Same K26 K60 := so27.trans to28
    have to26 : Same K24 K60 := so26.trans to27
    have to24 : Same K23 K60 := so24.trans to26
    have to23 : Same K22 K60 := so23.trans to24
    have to22 : Same K21 K60 := so22.trans to23
    have to21 : Same K20 K60 := so21.trans to22
    have to20 : Same K19 K60 := so20.trans to21
    have to19 : Same K18 K60 := so19.trans to20
    have to18 : Same K17 K60 := so18.trans to19
    have to17 : Same K16 K60 := so17.trans to18
    have to16 : Same K15 K60 := so16.trans to17
    have to15 : Same K14 K60 := so15.trans to16
    have to14 : Same K13 K60 := so14.trans to15
    have to13 : Same K12 K60 := so13.trans to14
    have to12 : Same K11 K60 := so12.trans to13
    have to11 : Same K10 K60 := so11.trans to12
    have to10 : Same K9 K60 := so10.trans to11
    have to9 : Same K8 K60 := so9.trans to10
    have to8 : Same K7 K60 := so8.trans to9
    have to7 : Same K6 K60 := so7.trans to8
    have to6 : Same K5 K60 := so6.trans to7
    have to5 : Same K4 K60 := so5.trans to6
    have to4 : Same K3 K60 := so4.trans to5
    have to3 : Same K2 K60 := so3.trans to4
    have to2 : Same K1 K60 := so2.trans to3
    have to1 : Same H K60 := so1.trans to2
    have eo1 := to2 _ _ eo1
    have eo2 := to3 _ _ eo2
    have eo3 := to4 _ _ eo3
    have eo4 := to5 _ _ eo4
    have eo5 := to6 _ _ eo5
    have eo6 := to7 _ _ eo6
    have eo7 := to8 _ _ eo7
    have eo8 := to9 _ _ eo8
    have eo9 := to10 _ _ eo9
    have eo10 := to11 _ _ eo10
    have eo11 := to12 _ _ eo11
    have eo12 := to13 _ _ eo12
    have eo13 := to14 _ _ eo13
    have eo14 := to15 _ _ eo14
    have eo15 := to16 _ _ eo15
    have eo16 := to17 _ _ eo16
    have eo17 := to18 _ _ eo17
    have eo18 := to19 _ _ eo18
    have eo19 := to20 _ _ eo19
    have eo20 := to21 _ _ eo20
    have eo21 := to22 _ _ eo21
    have eo22 := to23 _ _ eo22
    have eo23 := to24 _ _ eo23
    have eo24 := to26 _ _ eo24
    have eo26 := to27 _ _ eo26
    have eo27 := to28 _ _ eo27
    have eo28 := to29 _ _ eo28
    have eo29 := to30 _ _ eo29
    have eo30 := to31 _ _ eo30
    have eo31 := to32 _ _ eo31
    have eo32 := to33 _ _ eo32
    have eo33 := to34 _ _ eo33
    have eo34 := to35 _ _ eo34
    have eo35 := to36 _ _ eo35
    have eo36 := to37 _ _ eo36
    have eo37 := to38 _ _ eo37
    have eo38 := to39 _ _ eo38
    have eo39 := to40 _ _ eo39
    have eo40 := to41 _ _ eo40
    have eo41 := to42 _ _ eo41
    have eo42 := to43 _ _ eo42
    have eo43 := to44 _ _ eo43
    have eo44 := to45 _ _ eo44
    have eo45 := to46 _ _ eo45
    have eo46 := to47 _ _ eo46
    have eo47 := to48 _ _ eo47
    have eo48 := to49 _ _ eo48
    have eo49 := to50 _ _ eo49
    have eo50 := to51 _ _ eo50
    have eo51 := to52 _ _ eo51
    have eo52 := to53 _ _ eo52
    have eo53 := to54 _ _ eo53
    have eo54 := to55 _ _ eo54
    have eo55 := to56 _ _ eo55
    have eo56 := to57 _ _ eo56
    have eo57 := to58 _ _ eo57
    have eo58 := to59 _ _ eo58
    have eo59 := to60 _ _ eo59
    have To := to1
    have hK : Pot K60 p := hp.same To
    have sh := hx.same To
    obtain ⟨dx, tx, ex, _⟩ := sh
    have sh := hx.same To
    have b3 : BadV K C p K60 o3 := ⟨.non, .non, eo3, .inl rfl, fun J kp => .inl ⟨rfl, (.inl (isa_non (kit_ty (by decide +kernel))))⟩⟩
    have b5 : BadV K C p K60 o5 := ⟨.ref o4, .non, eo5, .inl rfl, fun J kp => .inl ⟨rfl, (.inr ⟨o4, _, rfl, .inl (.inl (kp.tup hK eo4)), fun z => absurd z (by show ¬ (1 ≤ 0 ∧ 0 ≤ 4); decide)⟩)⟩⟩
    have b7 : BadV K C p K60 o7 := ⟨.ref o6, .non, eo7, .inl rfl, fun J kp => .inl ⟨rfl, (.inl (isa_lst (kp.lst0 hK eo6 (by show 1 ≠ 3; decide)) (kit_ty (by decide +kernel))))⟩⟩
    have b10 : BadV K C p K60 o10 := ⟨.ref o9, .non, eo10, .inl rfl, fun J kp => .inl ⟨rfl, (.inr ⟨o9, _, rfl, .inl (.inl (kp.tup hK eo9)), fun z => absurd z (by show ¬ (1 ≤ 5 ∧ 5 ≤ 4); decide)⟩)⟩⟩
    have b12 : BadV K C p K60 o12 := ⟨.ref o11, .int 1, eo12, .inr ⟨1, by decide, rfl⟩, fun J kp => .inr ⟨o11, _, 1, .non, rfl, .inl (.inl (kp.tup hK eo11)), by show 1 ≤ 2; decide, by show 2 ≤ 4; decide, (bef1 ⟨o2, _, _, rfl, .inl (.inl (kp.tup hK eo2)), (row1_ok (kp.tup hK eo1) (KeepP.sh sh hK kp)), by decide +kernel, by decide +kernel⟩), rfl, (.inl (.inl (isa_non (kit_ty (by decide +kernel))))), rfl⟩⟩
    have b13 : BadV K C p K60 o13 := ⟨.ref o2, .int 0, eo13, .inr ⟨0, by decide, rfl⟩, fun J kp => .inr ⟨o2, _, 0, .ref o1, rfl, .inl (.inl (kp.tup hK eo2)), by show 1 ≤ 2; decide, by show 2 ≤ 4; decide, (fun j y hj hy => absurd hj (Nat.not_lt_zero j)), rfl, (.inl (.inr ⟨o1, _, rfl, .inl (.inl (kp.tup hK eo1)), fun z => absurd z (by show ¬ (2 ≤ 1 ∧ 1 ≤ 2); decide)⟩)), rfl⟩⟩
    have b14 : BadV K C p K60 o14 := ⟨.str "ab", .non, eo14, .inl rfl, fun J kp => .inl ⟨rfl, (.inl (isa_str (kit_ty (by decide +kernel))))⟩⟩
    have b19 : BadV K C p K60 o19 := ⟨.ref o18, .int 1, eo19, .inr ⟨1, by decide, rfl⟩, fun J kp => .inr ⟨o18, _, 1, .ref o17, rfl, .inl (.inl (kp.tup hK eo18)), by show 1 ≤ 2; decide, by show 2 ≤ 4; decide, (bef1 ⟨o2, _, _, rfl, .inl (.inl (kp.tup hK eo2)), (row1_ok (kp.tup hK eo1) (KeepP.sh sh hK kp)), by decide +kernel, by decide +kernel⟩), rfl, (.inr ⟨o17, _, _, rfl, .inl (.inl (kp.tup hK eo17)), .inr ⟨(row1_ok (kp.tup hK eo16) (KeepP.sh sh hK kp)), (nt_str (by decide +kernel) (by decide +kernel))⟩⟩), rfl⟩⟩
    have b23 : BadV K C p K60 o23 := ⟨.ref o22, .int 2, eo23, .inr ⟨2, by decide, rfl⟩, fun J kp => .inr ⟨o22, _, 2, .ref o21, rfl, .inl (.inl (kp.tup hK eo22)), by show 1 ≤ 3; decide, by show 3 ≤ 4; decide, (bef2 ⟨o2, _, _, rfl, .inl (.inl (kp.tup hK eo2)), (row1_ok (kp.tup hK eo1) (KeepP.sh sh hK kp)), by decide +kernel, by decide +kernel⟩ ⟨o2, _, _, rfl, .inl (.inl (kp.tup hK eo2)), (row1_ok (kp.tup hK eo1) (KeepP.sh sh hK kp)), by decide +kernel, by decide +kernel⟩), rfl, (.inr ⟨o21, _, _, rfl, .inl (.inl (kp.tup hK eo21)), .inl (.inl (.inr ⟨o20, _, rfl, .inl (.inl (kp.tup hK eo20)), fun z => absurd z (by show ¬ (1 ≤ 0 ∧ 0 ≤ 4); decide)⟩))⟩), rfl⟩⟩
    have b28 : BadV K C p K60 o28 := ⟨.ref o27, .int 0, eo28, .inr ⟨0, by decide, rfl⟩, fun J kp => .inr ⟨o27, _, 0, .ref o26, rfl, .inl (.inl (kp.tup hK eo27)), by show 1 ≤ 1; decide, by show 1 ≤ 4; decide, (fun j y hj hy => absurd hj (Nat.not_lt_zero j)), rfl, (.inr ⟨o26, _, _, rfl, .inl (.inl (kp.tup hK eo26)), .inr ⟨(row1_ok (kp.tup hK eo24) (KeepP.sh sh hK kp)), (nt_str (by decide +kernel) (by decide +kernel))⟩⟩), rfl⟩⟩
    have b30 : BadV K C p K60 o30 := ⟨.ref o29, .non, eo30, .inl rfl, fun J kp => .inl ⟨rfl, (.inl (isa_dict (kp.dict hK eo29) (kit_ty (by decide +kernel))))⟩⟩
    have b36 : BadV K C p K60 o36 := ⟨.ref o35, .int 1, eo36, .inr ⟨1, by decide, rfl⟩, fun J kp => .inr ⟨o35, _, 1, .ref o34, rfl, .inl (.inl (kp.tup hK eo35)), by show 1 ≤ 2; decide, by show 2 ≤ 4; decide, (bef1 ⟨o2, _, _, rfl, .inl (.inl (kp.tup hK eo2)), (row1_ok (kp.tup hK eo1) (KeepP.sh sh hK kp)), by decide +kernel, by decide +kernel⟩), rfl, (.inl (.inl (isa_lst (kp.lst0 hK eo34 (by show 2 ≠ 3; decide)) (kit_ty (by decide +kernel))))), rfl⟩⟩
    have b40 : BadV K C p K60 o40 := ⟨.ref o39, .int 0, eo40, .inr ⟨0, by decide, rfl⟩, fun J kp => .inr ⟨o39, _, 0, .ref o38, rfl, .inl (.inl (kp.tup hK eo39)), by show 1 ≤ 2; decide, by show 2 ≤ 4; decide, (fun j y hj hy => absurd hj (Nat.not_lt_zero j)), rfl, (.inr ⟨o38, _, _, rfl, .inl (.inl (kp.tup hK eo38)), .inl (.inr ⟨o37, _, [true, false], rfl, .inl (.inl (kp.tup hK eo37)), by show 1 ≤ 2; decide, by show 2 ≤ 4; decide, rfl, each2 (isaC_sh S (kp.ins hK ex)) (isaC_no (T := "NoneType") Z (.base .non) rfl), rfl⟩)⟩), rfl⟩⟩
    have b44 : BadV K C p K60 o44 := ⟨.ref o43, .int 1, eo44, .inr ⟨1, by decide, rfl⟩, fun J kp => .inr ⟨o43, _, 1, .ref o42, rfl, .inl (.inl (kp.tup hK eo43)), by show 1 ≤ 2; decide, by show 2 ≤ 4; decide, (bef1 ⟨o2, _, _, rfl, .inl (.inl (kp.tup hK eo2)), (row1_ok (kp.tup hK eo1) (KeepP.sh sh hK kp)), by decide +kernel, by decide +kernel⟩), rfl, (.inl (.inr ⟨o42, _, rfl, .inl (.inl (kp.tup hK eo42)), fun z => absurd z (by show ¬ (2 ≤ 3 ∧ 3 ≤ 2); decide)⟩)), rfl⟩⟩
    have b51 : BadV K C p K60 o51 := ⟨.ref o50, .int 0, eo51, .inr ⟨0, by decide, rfl⟩, fun J kp => .inr ⟨o50, _, 0, .ref o49, rfl, .inl (.inl (kp.tup hK eo50)), by show 1 ≤ 1; decide, by show 1 ≤ 4; decide, (fun j y hj hy => absurd hj (Nat.not_lt_zero j)), rfl, (.inr ⟨o49, _, _, rfl, .inl (.inl (kp.tup hK eo49)), .inl (.inl (.inr ⟨o48, _, rfl, .inl (.inl (kp.tup hK eo48)), fun z => absurd z (by show ¬ (1 ≤ 5 ∧ 5 ≤ 4); decide)⟩))⟩), rfl⟩⟩
    have b55 : BadV K C p K60 o55 := ⟨.ref o54, .int 1, eo55, .inr ⟨1, by decide, rfl⟩, fun J kp => .inr ⟨o54, _, 1, .ref o53, rfl, .inl (.inl (kp.tup hK eo54)), by show 1 ≤ 2; decide, by show 2 ≤ 4; decide, (bef1 ⟨o2, _, _, rfl, .inl (.inl (kp.tup hK eo2)), (row1_ok (kp.tup hK eo1) (KeepP.sh sh hK kp)), by decide +kernel, by decide +kernel⟩), rfl, (.inr ⟨o53, _, _, rfl, .inl (.inl (kp.tup hK eo53)), .inr ⟨(row1_ok (kp.tup hK eo52) (KeepP.sh sh hK kp)), nt_non⟩⟩), rfl⟩⟩
    have b58 : BadV K C p K60 o58 := ⟨.ref o57, .int 0, eo58, .inr ⟨0, by decide, rfl⟩, fun J kp => .inr ⟨o57, _, 0, .ref o56, rfl, .inl (.inl (kp.tup hK eo57)), by show 1 ≤ 1; decide, by show 1 ≤ 4; decide, (fun j y hj hy => absurd hj (Nat.not_lt_zero j)), rfl, (.inr ⟨o56, _, _, rfl, .inl (.inl (kp.tup hK eo56)), .inl (.inl (.inl (isa_insT S Z (kp.ins hK ex))))⟩), rfl⟩⟩
    refine ⟨p, hK, .inl ⟨o60, _, rfl, .inl (.inl eo60), pot_neR hK eo60, by show 0 < 17; decide, by show 17 < 1000; decide, fun v G mem L => ?_⟩⟩
    have kp := KeepP.ofL L
    have LH : Ladled p H G := (Ladled.ofSame hp To).trans L
    simp only [List.mem_cons, List.not_mem_nil, or_false] at mem
    rcases mem with rfl | rfl | rfl | rfl | rfl | rfl | rfl | rfl | rfl | rfl | rfl | rfl | rfl | rfl | rfl | rfl | rfl
    · exact k _ G LH (b3.keep hK kp)
    · exact k _ G LH (b5.keep hK kp)
    · exact k _ G LH (b7.keep hK kp)
    · exact k _ G LH (b10.keep hK kp)
    · exact k _ G LH (b12.keep hK kp)
    · exact k _ G LH (b13.keep hK kp)
    · exact k _ G LH (b14.keep hK kp)
    · exact k _ G LH (b19.keep hK kp)
    · exact k _ G LH (b23.keep hK kp)
    · exact k _ G LH (b28.keep hK kp)
    · exact k _ G LH (b30.keep hK kp)
    · exact k _ G LH (b36.keep hK kp)
    · exact k _ G LH (b40.keep hK kp)
    · exact k _ G LH (b44.keep hK kp)
    · exact k _ G LH (b51.keep hK kp)
    · exact k _ G LH (b55.keep hK kp)
    · exact k _ G LH (b58.keep hK kp)
end
end Gu
namespace Gu
open PySem PySem.Spec PyProof.Rows L2
abbrev wide14 : Rec := ⟨40, 40, 40, ("~~~" : String)⟩
theorem fitW14 : wide14.fit := ⟨⟨by decide, by decide⟩, ⟨by decide, by decide⟩, ⟨by decide, by decide⟩, by decide +kernel⟩
theorem no_wide {cs : List Nat} : cuts [wide14] cs ≠ List.replicate 200 97 := fun h => by
  have e := congrArg List.length h
  rw [List.length_replicate] at e
  have e2 : (cut 40 40 40 ("~~~" : Str).cps.toList cs).length = 200 := e
  unfold cut at e2
  have z : ("~~~" : Str).cps.toList.length = 3 := by decide +kernel
  split at e2
  · omega
  · rw [List.length_append, List.length_append, List.length_take, List.length_drop, z] at e2
    omega
theorem lens_none {ws : List VW} {sm : List Nat} {b : V} (h : ∀ cs, ¬ Fits ws cs) (l : Lens ws sm b) : sm = [] ∧ b = .non := by
  rcases l with ⟨rfl, rfl, _⟩ | ⟨m, _, hm, _, all, _⟩
  · refine ⟨List.eq_nil_iff_forall_not_mem.mpr fun n hn => ?_, rfl⟩
    obtain ⟨_, cs, _, f⟩ := mem_possL.mp hn
    exact h cs f
  · obtain ⟨cs, _, f⟩ := all 80 hm (Nat.le_refl _)
    exact (h cs f).elim
def ab14 (c : Nat) : List Nat := [97, 98, c] ++ List.replicate 496 97 ++ [98]
theorem ab14_len (c : Nat) : (ab14 c).length = 500 := by
  unfold ab14
  rw [List.length_append, List.length_append, List.length_replicate]
  rfl
theorem Knows.ks2 {n p : Nat} {kvs : List (Key × V)} {Pd : List Nat → Prop} (h : Knows n kvs Pd) {v : V} (e : valV kvs (Sum.inl (p : Int)) = some v) : ∃ c, v = .str (one c) ∧ c ∈ Gu.signs.cps.toList ∧ p < n := by
  obtain ⟨p2, c, ek, hp, ev, hc⟩ := h.ks _ _ e
  have ek := Sum.inl.inj ek
  exact ⟨c, ev, hc, by omega⟩
theorem signs_ab {ws : List VW} {v : V} (e : ∀ cs, Fits ws cs ↔ cuts [one05] cs = [97, 98, 126, 98]) (h : Sgn ws 500 v) : ∃ y, v = .str y ∧ y.cps.toList.length = 500 ∧ y.cps.toList.take 3 = [97, 98, 63] := by
  have f97 : Fits ws (ab14 97) := (e _).mpr (by decide +kernel)
  have f98 : Fits ws (ab14 98) := (e _).mpr (by decide +kernel)
  rcases h with ⟨rfl, no⟩ | ⟨kvs, y, rfl, kn, hy⟩
  · exact (no _ (ab14_len 97) f97).elim
  · refine ⟨y, rfl, by rw [hy, wrote_len], ?_⟩
    have fy := (e _).mp (wrote_fits (o := 63) kn)
    have ly := wrote_len kvs 63 500
    have y2 : (wrote kvs 63 500)[2]? = some 63 := by
      rw [wrote_at (by decide)]
      cases ev : valV kvs (Sum.inl ((2 : Nat) : Int)) with
      | none => rw [sgn_none ev]
      | some u =>
        obtain ⟨c, rfl, _, _⟩ := kn.ks2 ev
        have a := (kn.iff _ (ab14_len 97)).mp f97 2 c ev
        have b := (kn.iff _ (ab14_len 98)).mp f98 2 c ev
        have a2 : (ab14 97)[2]? = some 97 := by decide +kernel
        have b2 : (ab14 98)[2]? = some 98 := by decide +kernel
        rw [a2] at a
        rw [b2] at b
        cases a
        cases b
    rw [hy]
    generalize wrote kvs 63 500 = Y at fy ly y2
    match Y, ly, y2, fy with
    | a :: b :: c :: r, ly, y2, fy =>
      have fy : cut 3 2 1 ("~" : Str).cps.toList (a :: b :: c :: r) = [97, 98, 126, 98] := fy
      unfold cut at fy
      rw [if_neg (by rw [ly]; decide)] at fy
      have z : c = 63 := Option.some.inj y2
      have e0 := congrArg (fun l : List Nat => l[0]?) fy
      have e1 := congrArg (fun l : List Nat => l[1]?) fy
      simp at e0 e1
      rw [e0, e1, z]
      rfl
theorem many_one {ws : List VW} {v : V} (e : Fits ws []) (h : Sgn ws 0 v) : manyOf v = 1 := by
  rcases h with ⟨rfl, no⟩ | ⟨kvs, y, rfl, kn, hy⟩
  · exact (no [] rfl e).elim
  · show (38 : Int) ^ (y.cps.toList.count 63) = 1
    rw [hy]
    rfl
end Gu
namespace Gu
open PySem PySem.Spec PyProof.Rows L2 LamX
abbrev lamQ_law_right : Str := (envOfC "_law_right" (defScope s_law_right) 0 0 .none).qual ++ "<lambda>"
def spRightT (T : List (Addr × Str)) : Sp := fun vs H Q _ => ∃ (p : Addr), vs = [.ref p] ∧ Pot H p ∧ Tabs T H ∧ Sys H ∧ ∀ G, LadT T p H G → Q (.bl true) G
def Ok1 (P : Program) (w : World) (K : PySem.W.Frag) (mg : Str → Option Value) (base : Heap) (C CV _CL : Addr) (f : Addr) : Prop := AskAt P w K mg base 6 (sp1V K C CV) f
def Ok3 (P : Program) (w : World) (K : PySem.W.Frag) (mg : Str → Option Value) (base : Heap) (C CV CL : Addr) (f : Addr) : Prop := AskAt P w K mg base 6 (spLV K C CV CL) f
def Ok3K (P : Program) (w : World) (K : PySem.W.Frag) (mg : Str → Option Value) (base : Heap) (C CV CL : Addr) (f : Addr) : Prop := AskKw P w K mg base 6 ["length", "views"] List.reverse (spLV K C CV CL) f
theorem row4_ok {C a x : Addr} {J : Hp} (e : J a = some (.tup [.ref x, .ref x, .ref x, .ref x])) (h : ShAt C J x one05) : RowOk C J (.ref a) := ⟨a, [(x, one05), (x, one05), (x, one05), (x, one05)], rfl, ⟨e, fun q hq => by
  have e : q = (x, one05) := by
    simp only [List.mem_cons, List.not_mem_nil, or_false] at hq
    rcases hq with e | e | e | e <;> exact e
  rw [e]
  exact ⟨h, fit05⟩⟩, by show 1 ≤ 4; decide, by show 4 ≤ 4; decide⟩
theorem row1_at {C a x : Addr} {J : Hp} {r : Rec} (e : J a = some (.tup [.ref x])) (h : ShAt C J x r) (f : r.fit) : RowAt C J a [(x, r)] := ⟨e, fun q hq => by
  rw [List.mem_singleton.mp hq]
  exact ⟨h, f⟩⟩
theorem spot_thing {K : PySem.W.Frag} {p : Addr} {H : Hp} {v : V} (h : SpotOk v) : ∃ d, Thing K p H v d fun _ _ => True := by
  rcases h with rfl | ⟨n, h, rfl⟩
  · exact th_non fun _ => trivial
  · exact th_int (by omega) fun _ => trivial
theorem a200 {y : Str} (h : y.cps.toList = (List.replicate (200 : Int).toNat ("a" : Str).cps.toList).flatten) : y = ⟨(List.replicate 200 97).toArray⟩ := str_ext (by rw [h]; decide +kernel)
theorem rep2 {u : List (Str × V)} {i : Nat} {q r : Str × V} : u ++ (List.replicate (i + 1) [q, r]).flatten = (u ++ (List.replicate i [q, r]).flatten) ++ [q, r] := by
  rw [List.replicate_succ', List.flatten_append, List.append_assoc]
  rfl
section
variable {P : Program} {w : World} {K : PySem.W.Frag} {mg : Str → Option Value} {base : Heap} {C U CL CV c PT : Addr}
set_option maxHeartbeats 8000000 in
theorem cal_right (B : Bi mg) (SC : ShC K mg C) (D : AtC K mg "_law_right" s_law_right ps_law_right c) (TB : TabB base mg c PT) (A_ended : At K mg "_law_ended" s_law_ended ps_law_ended) (UI : UpK K mg bVE "InputError" U) (T0 : ErrK K mg bVE U "InvalidLength" CL) (S0 : ErrF K "InvalidLength" "value" CL) (T1 : ErrK K mg bVE U "InvalidViews" CV) (S1 : ErrF K "InvalidViews" "index" CV)
    (C_law_one_of : Cal P w K mg base 2 "_law_one_of" ps_law_one_of (spOneOf K)) (M_sh : Mak P w K mg base 3 "Shortener" C (spInit C)) (C_law_bad : Cal P w K mg base 3 "_law_bad" ps_law_bad (spBadV K C))
    (a_lengths : ∃ f, mg "lengths" = some (.ref f) ∧ AskAt P w K mg base 6 (sp1V K C CV) f)    (a_least_text : ∃ f, mg "least_text" = some (.ref f) ∧ AskAt P w K mg base 6 (sp1V K C CV) f)    (a_only_text : ∃ f, mg "only_text" = some (.ref f) ∧ AskAt P w K mg base 6 (sp1V K C CV) f)    (a_signs : ∃ f, mg "signs" = some (.ref f) ∧ AskAt P w K mg base 6 (spLV K C CV CL) f) (k_signs : ∃ f, mg "signs" = some (.ref f) ∧ AskKw P w K mg base 6 ["length", "views"] List.reverse (spLV K C CV CL) f)    (a_number_of : ∃ f, mg "number_of" = some (.ref f) ∧ AskAt P w K mg base 6 (spLV K C CV CL) f) (k_number_of : ∃ f, mg "number_of" = some (.ref f) ∧ AskKw P w K mg base 6 ["length", "views"] List.reverse (spLV K C CV CL) f)
    (C_lengths : Cal P w K mg base 5 "lengths" ps_lengths (spLengths C)) (C_signs : Cal P w K mg base 5 "signs" ps_signs (spSigns C)) (C_number_of : Cal P w K mg base 6 "number_of" ps_number_of (spNumber C)) : CalG P w K mg base 10 "_law_right" ps_law_right (spRightT [(PT, lamQ_law_right)]) := by
  obtain ⟨F_lengths, G_lengths, O_lengths⟩ := a_lengths
  obtain ⟨F_least_text, G_least_text, O_least_text⟩ := a_least_text
  obtain ⟨F_only_text, G_only_text, O_only_text⟩ := a_only_text
  obtain ⟨F_signs, G_signs, O_signs⟩ := a_signs
  obtain ⟨F_number_of, G_number_of, O_number_of⟩ := a_number_of
  obtain ⟨f2, g2, P_signs⟩ := k_signs
  cases g2.symm.trans G_signs
  clear g2
  obtain ⟨f2, g2, P_number_of⟩ := k_number_of
  cases g2.symm.trans G_number_of
  clear g2
  have all1 : ∀ y ∈ [V.ref F_lengths, V.ref F_least_text, V.ref F_only_text], ∃ f, y = .ref f ∧ Ok1 P w K mg base C CV CL f := fun y hy => by
    simp only [List.mem_cons, List.not_mem_nil, or_false] at hy
    rcases hy with rfl | rfl | rfl
    · exact ⟨_, rfl, O_lengths⟩
    · exact ⟨_, rfl, O_least_text⟩
    · exact ⟨_, rfl, O_only_text⟩
  have all3 : ∀ y ∈ [V.ref F_signs, V.ref F_number_of], ∃ f, y = .ref f ∧ Ok3 P w K mg base C CV CL f ∧ Ok3K P w K mg base C CV CL f := fun y hy => by
    simp only [List.mem_cons, List.not_mem_nil, or_false] at hy
    rcases hy with rfl | rfl
    · exact ⟨_, rfl, O_signs, P_signs⟩
    · exact ⟨_, rfl, O_number_of, P_number_of⟩
  have mL : (("InvalidLength" : Str), ("value" : Str), CL) ∈ [(("InvalidLength" : Str), ("value" : Str), CL), (("InvalidViews" : Str), ("index" : Str), CV)] := by simp
  have mR : (("InvalidViews" : Str), ("index" : Str), CV) ∈ [(("InvalidLength" : Str), ("value" : Str), CL), (("InvalidViews" : Str), ("index" : Str), CV)] := by simp
  refine D.calG sc_law_right (fun vs H Q E h => ?_) (fun f A outer s H vs Q E hr quiet h => ?_)
  · obtain ⟨p, rfl, _⟩ := h
    rfl
  · obtain ⟨p, rfl, hp, hT, hY, k⟩ := h
    refine ⟨_, (pss_cons (ps_set (i := 1) sc_law_right.nd rfl (.inr rfl) (pe_new M_sh hr (by decide) (by rfl) (pa_cons pe_int (pa_cons pe_int (pa_cons pe_int (pa_cons pe_str pa_nil))))))
      (pss_cons (ps_asg (pe_own C_law_bad hr (by decide) (by rfl) (pa_cons (pv 0) (pa_cons (pv 1) pa_nil))) (pg_tup rfl (pgs_cons (pg_name (i := 2) sc_law_right.nd rfl (.inr rfl)) (pgs_cons (pg_name (i := 3) sc_law_right.nd rfl (.inl rfl)) pgs_nil))))
      (pss_cons (ps_set (i := 4) sc_law_right.nd rfl (.inr rfl) (pe_own C_law_one_of hr (by decide) (by rfl) (pa_cons (pv 0) (pa_cons (pe_lst (pa_cons pe_non (pa_cons (pe_un un_neg pe_int) (pa_cons pe_int (pa_cons pe_bl (pa_cons pe_str (pa_cons (pe_tup (pa_cons pe_int pa_nil)) (pa_cons (pe_lst pa_nil) (pa_cons (pe_op op_pow pe_int pe_int) (pa_cons pe_dnewK pa_nil)))))))))) pa_nil))))
      (pss_cons (ps_par (i := 5) (j := 6) (by rfl) sc_law_right.nd rfl rfl (by decide) rfl rfl (pa_cons (pe_lst pa_nil) (pa_cons (pe_lst pa_nil) pa_nil)) (by rfl))
      (pss_cons (ps_for PassesOwn.never rfl (pi_list (pe_lst (pa_cons (pe_glob (v := .ref F_lengths) (by rfl) G_lengths rfl) (pa_cons (pe_glob (v := .ref F_least_text) (by rfl) G_least_text rfl) (pa_cons (pe_glob (v := .ref F_only_text) (by rfl) G_only_text rfl) pa_nil))))) (pg_name (i := 7) sc_law_right.nd rfl (.inr rfl))
      (pss_cons (ps_expr (pe_bm PySem.F.plainAttrs_list PySem.F.slot_list_append PySem.F.type_list_append mt_append (pv 5) (pa_cons (pe_lamE A_ended sc_law_ended (fun g cdv => ended_gives B UI T0 S0 T1 S1) TB hr (by decide) (by rfl) rfl (.inl rfl) rfl (List.mem_singleton.mpr rfl) (fun p hp _ => by rw [List.mem_singleton.mp hp]; rfl) (lamS_by (sc := defScope s_law_right) (by decide +kernel)) rfl (fun _ _ _ _ _ => rfl) (k := 6) (T := [(PT, lamQ_law_right)]) (fun A2 outer2 s2 H2 E2 f2 c2 hr => (pe_callD (k := 6) (i := 7) (fun f => Ok1 P w K mg base C CV CL f) (fun _ h => h) hr (by decide) (takes_of rfl rfl rfl rfl) (fun _ _ _ _ h => h) rfl (.inr (.inr rfl)) (pa_cons (pv 2) pa_nil)))) pa_nil)))
      (pss_one (ps_expr (pe_bm PySem.F.plainAttrs_list PySem.F.slot_list_append PySem.F.type_list_append mt_append (pv 6) (pa_cons (pe_lst (pa_cons pe_str (pa_cons (pv 3) (pa_cons pe_bl pa_nil)))) pa_nil))))))
      (pss_cons (ps_for PassesOwn.never rfl (pi_list (pe_lst (pa_cons (pe_glob (v := .ref F_signs) (by rfl) G_signs rfl) (pa_cons (pe_glob (v := .ref F_number_of) (by rfl) G_number_of rfl) pa_nil)))) (pg_name (i := 7) sc_law_right.nd rfl (.inr rfl))
      (pss_cons (ps_expr (pe_bm PySem.F.plainAttrs_list PySem.F.slot_list_append PySem.F.type_list_append mt_append (pv 5) (pa_cons (pe_lamE A_ended sc_law_ended (fun g cdv => ended_gives B UI T0 S0 T1 S1) TB hr (by decide) (by rfl) rfl (.inl rfl) rfl (List.mem_singleton.mpr rfl) (fun p hp _ => by rw [List.mem_singleton.mp hp]; rfl) (lamS_by (sc := defScope s_law_right) (by decide +kernel)) rfl (fun _ _ _ _ _ => rfl) (k := 6) (T := [(PT, lamQ_law_right)]) (fun A2 outer2 s2 H2 E2 f2 c2 hr => (pe_callD (k := 6) (i := 7) (fun f => Ok3 P w K mg base C CV CL f) (fun _ h => h) hr (by decide) (takes_of rfl rfl rfl rfl) (fun _ _ _ _ h => h) rfl (.inr (.inr rfl)) (pa_cons (pv 2) (pa_cons (pv 4) pa_nil))))) pa_nil)))
      (pss_cons (ps_expr (pe_bm PySem.F.plainAttrs_list PySem.F.slot_list_append PySem.F.type_list_append mt_append (pv 5) (pa_cons (pe_lamE A_ended sc_law_ended (fun g cdv => ended_gives B UI T0 S0 T1 S1) TB hr (by decide) (by rfl) rfl (.inl rfl) rfl (List.mem_singleton.mpr rfl) (fun p hp _ => by rw [List.mem_singleton.mp hp]; rfl) (lamS_by (sc := defScope s_law_right) (by decide +kernel)) rfl (fun _ _ _ _ _ => rfl) (k := 6) (T := [(PT, lamQ_law_right)]) (fun A2 outer2 s2 H2 E2 f2 c2 hr => (pe_kwD (k := 6) (i := 7) (fun f => Ok3K P w K mg base C CV CL f) (fun _ h => h) hr (by decide) (takes_of rfl rfl rfl rfl) (fun _ _ _ _ h => h) rfl (.inr (.inr rfl)) (pk_cons (pv 4) (pk_cons (pe_tup (pa_cons (pe_tup (pa_cons (pe_op (r := rRepT K) op_repT (pe_tup (pa_cons (pv 1) pa_nil)) pe_int) (pa_cons pe_str pa_nil))) pa_nil)) pk_nil))))) pa_nil)))
      (pss_one (ps_set (i := 6) sc_law_right.nd rfl (.inl rfl) (pe_op op_cat (pv 6) (pe_lst (pa_cons (pe_lst (pa_cons pe_str (pa_cons (pv 3) (pa_cons pe_bl pa_nil)))) (pa_cons (pe_lst (pa_cons pe_str (pa_cons (pv 4) (pa_cons pe_bl pa_nil)))) pa_nil)))))))))
      (pss_cons (ps_if (pt_cmpR op_ne (pe_callB (call_reprE quiet hr.units) (by rfl) B.repr (by decide +kernel) (pa_cons (pv 5) pa_nil)) (pe_callB (call_reprE quiet hr.units) (by rfl) B.repr (by decide +kernel) (pa_cons (pv 6) pa_nil)) (nomark _)) (pss_one (ps_ret pe_bl)) pss_nil)
      (pss_cons (ps_set (i := 8) sc_law_right.nd rfl (.inl rfl) (pe_tup (pa_cons (pe_tup (pa_cons (pe_new M_sh hr (by decide) (by rfl) (pa_cons pe_int (pa_cons pe_int (pa_cons pe_int (pa_cons pe_str pa_nil))))) pa_nil)) (pa_cons (pe_op op_mul_strN pe_str pe_int) pa_nil))))
      (pss_cons (ps_set (i := 9) sc_law_right.nd rfl (.inl rfl) (pe_lst (pa_cons (pe_own C_lengths hr (by decide) (by rfl) (pa_cons (pe_op op_repT (pe_tup (pa_cons (pv 8) pa_nil)) pe_int) pa_nil)) (pa_cons (pe_slice sl_str (pe_own C_signs hr (by decide) (by rfl) (pa_cons (pe_tup (pa_cons (pe_tup (pa_cons (pe_tup (pa_cons (pv 1) pa_nil)) (pa_cons pe_str pa_nil))) pa_nil)) (pa_cons pe_int pa_nil))) po_none (po_some pe_int)) (pa_cons (pe_own C_number_of hr (by decide) (by rfl) (pa_cons (pe_tup (pa_cons (pe_tup (pa_cons (pe_tup (pa_cons (pv 1) pa_nil)) (pa_cons pe_str pa_nil))) pa_nil)) (pa_cons pe_int pa_nil))) pa_nil)))))
      (pss_one (ps_ret (pe_cmpR op_eq (pe_callB (call_reprE quiet hr.units) (by rfl) B.repr (by decide +kernel) (pa_cons (pv 9) pa_nil)) (pe_callB (call_reprE quiet hr.units) (by rfl) B.repr (by decide +kernel) (pa_cons (pe_lst (pa_cons (pe_tup (pa_cons (pe_tup pa_nil) (pa_cons pe_non pa_nil))) (pa_cons pe_str (pa_cons pe_int pa_nil)))) pa_nil)) (nomark _))))))))))))), ?_⟩
    have LH : LadT [(PT, lamQ_law_right)] p H H := .refl hp hT hY
    -- one
    refine fun x dx nx nd ne => ?_
    have s1 : Same H (upd (upd H dx (.own x)) x (.ins C dx [])) := (same_new nd).trans (same_new (by rw [upd_ne (Ne.symm ne)]; exact nx))
    have e1 : upd (upd H dx (.own x)) x (.ins C dx []) x = some (.ins C dx []) := upd_same
    have i1 : H x = none := nx
    generalize upd (upd H dx (.own x)) x (.ins C dx []) = H1 at s1 e1
    refine ⟨x, dx, one05, rfl, e1, fit05, fun t1 I1 nt1 g1 g2 g3 => ⟨rfl, ?_⟩⟩
    have s2 : Same H I1 := fun b o e => g3 b o (s1 _ _ e) (ne_of_none e i1)
    have LI := LH.same s2
    have sh : ShAt C I1 x one05 := ⟨dx, t1, g1, g2⟩
    clear g3 g2 s1 s2 e1 nt1 i1 nx nd ne
    -- what are no views
    refine ⟨_, rfl, _, rfl, p, x, rfl, LI.pot, sh, fun ta G4 La Ba => ?_⟩
    have sh := KeepP.sh sh LI.pot (KeepP.ofL La)
    have LI := LI.lad La
    clear La g1
    obtain ⟨v1, s1, ea, so1, bad1⟩ := Ba
    refine ⟨ta, _, rfl, .inl (.inl ea), rfl, _, _, rfl, _, _, rfl, rfl, ?_⟩
    clear ea
    -- no length
    refine ⟨_, rfl, _, rfl, by show 1 ≤ sizeLine; decide, fun t3 nt3 => ⟨by show 0 ≤ sizeLine; decide, fun l3 nl3 => ?_⟩⟩
    have s3 : Same G4 (upd G4 t3 (.tup [.int 3])) := same_new nt3
    have e3 : upd G4 t3 (.tup [.int 3]) t3 = some (.tup [.int 3]) := upd_same
    generalize upd G4 t3 (.tup [.int 3]) = H1 at s3 e3 nl3
    have s4 : Same H1 (upd H1 l3 (.lst [])) := same_new nl3
    have e4 : upd H1 l3 (.lst []) l3 = some (.lst []) := upd_same
    have nl3p : l3 ≠ p := (LI.pot.same s3).ne nl3
    generalize upd H1 l3 (.lst []) = H2 at s4 e4
    refine ⟨_, _, rfl, rfl, ⟨by decide, by decide, by decide⟩, fun d3 nd3 => ?_⟩
    have s5 : Same H2 (upd H2 d3 (.dK [])) := same_new nd3
    have e5 : upd H2 d3 (.dK []) d3 = some (.dK []) := upd_same
    generalize upd H2 d3 (.dK []) = H3 at s5 e5
    have s35 := s3.trans (s4.trans s5)
    have L3 := LI.same s35
    refine ⟨by show 9 ≤ sizeLine; decide, fun a3 na3 => ?_⟩
    have L4 := L3.same (same_new na3 (o := .lst [.non, .int (-1), .int 501, .bl true, .str "3", .ref t3, .ref l3, .int (10 ^ (19 : Int).toNat), .ref d3]))
    refine ⟨p, L4.pot, .inl ⟨a3, _, rfl, .inl (.inl upd_same), L3.pot.ne na3, by show 0 < 9; decide, by show 9 < 1000; decide, fun v4 G5 mem Lv => ?_⟩⟩
    have b4 : ∃ d, Thing K p H3 v4 d (fun G v => NoNum K G 500 v) := by
      simp only [List.mem_cons, List.not_mem_nil, or_false] at mem
      rcases mem with rfl | rfl | rfl | rfl | rfl | rfl | rfl | rfl | rfl
      · exact th_non fun G => nn_non
      · exact th_int (by decide) fun G => nn_int (by decide)
      · exact th_int (by decide) fun G => nn_int (by decide)
      · exact th_bl fun G => nn_bl
      · exact th_str (by decide +kernel) (by decide +kernel) fun G => nn_str
      · exact th_tup (ds := [.int 3]) L3.pot (s5 _ _ (s4 _ _ e3)) ((FineAll.of fun d hd => by rw [List.mem_singleton.mp hd]; exact Fine.int (by decide)).tup.e.mono (by decide) (by decide)) (fun G _ => .cons (.int 3) .nil) fun G e => nn_tup e
      · exact th_lst (ds := []) nl3p (s5 _ _ e4) ((FineAll.of (n := 0) (W := 0) (ds := []) fun d hd => by cases hd).list.e.mono (by decide) (by decide)) (fun G _ => .nil) fun G e => nn_lst e
      · exact th_int (by decide) fun G => nn_int (by decide)
      · exact th_dict L3.pot e5 fun G e => nn_dict e
    obtain ⟨D4, b4⟩ := b4
    have kv := (KeepP.ofSame (same_new na3)).trans (KeepP.ofL Lv)
    have b4 := b4.at kv
    have kq := (KeepP.ofSame s35).trans kv
    have bad1 := fun J (h : KeepP p G5 J) => bad1 J (kq.trans h)
    have sh := KeepP.sh sh LI.pot kq
    have LI := L4.lad Lv
    clear mem L4 Lv L3 s3 s4 s5 s35 e3 e4 e5 nt3 nl3 nd3 na3 nl3p kv kq
    have LG : LadT [(PT, lamQ_law_right)] p G5 G5 := .refl LI.pot LI.tabs LI.sys
    -- the first three
    refine ⟨by show 0 ≤ sizeLine; decide, fun S nS => ⟨by show 0 ≤ sizeLine; decide, fun D nD => ⟨_, _, rfl, ?_⟩⟩⟩
    refine ⟨by show 3 ≤ sizeLine; decide, fun l nl => ?_⟩
    have Z0 : Two [(PT, lamQ_law_right)] p G5 _ S D l [V.ref F_lengths, V.ref F_least_text, V.ref F_only_text] [] [] := Two.none LG nS nD nl
    generalize upd (upd (upd G5 S (.lst [])) D (.lst [])) l (.lst [V.ref F_lengths, V.ref F_least_text, V.ref F_only_text]) = J0 at Z0
    refine ⟨l, rfl, ⟨_, .inl (.inl Z0.ll)⟩, for_list (K := K) (a := l) (xs := [V.ref F_lengths, V.ref F_least_text, V.ref F_only_text]) (fun i σ J => ∃ a10, σ = [some (.ref p), some (.ref x), some v1, some s1, some v4, some (.ref S), some (.ref D), a10, none, none] ∧ Two [(PT, lamQ_law_right)] p G5 J S D l [V.ref F_lengths, V.ref F_least_text, V.ref F_only_text] (List.replicate i (("InvalidViews" : Str), s1)) (List.replicate i (("InvalidViews" : Str), s1))) ⟨none, rfl, Z0⟩ (fun i σ J _ ⟨_, _, z⟩ => .inl (.inl z.ll)) ?_ ?_⟩
    · rintro i y σ J hy ⟨a10, rfl, Z⟩
      have i4 : i < 3 := (List.getElem?_eq_some_iff.mp hy).1
      obtain ⟨f, rfl, ok⟩ := all1 y (List.mem_of_getElem? hy)
      obtain ⟨xs, eS, lx⟩ := Z.lsS
      refine ⟨_, rfl, .inl ⟨rfl, _, .inl (.inl eS)⟩, ?_⟩
      refine lam_raise (C := CV) (Fl := "index") (N := "InvalidViews") (v := s1) mR Z.lad.here (fun q J1 M e => ?_) (fun E J1 M r => ⟨f, rfl, ok, _, rfl, v1, s1, rfl, bad1 J1 (Z.kp.trans M.kp), r⟩)
      have Y := Z.keep M
      clear eS lx xs
      obtain ⟨xs, eS, lx⟩ := Y.lsS
      refine ⟨S, xs, _, rfl, rfl, eS, by rw [lx, sizeLine_eq]; rw [List.length_replicate]; omega, ?_⟩
      have Z1 := Y.say e eS
      generalize upd J1 S (.lst (xs ++ [.ref q])) = I1 at Z1
      clear eS lx xs e M Y
      obtain ⟨ys, eD, ly⟩ := Z1.lsD
      refine ⟨_, rfl, .inl ⟨rfl, _, .inl (.inl eD)⟩, _, rfl, by show 3 ≤ sizeLine; decide, fun w1 n1 => ?_⟩
      have Y1 := Z1.same (same_new n1 (o := .lst [.str "InvalidViews", s1, .bl true]))
      have f1 : upd I1 w1 (.lst [.str "InvalidViews", s1, .bl true]) w1 = some (.lst [.str "InvalidViews", s1, .bl true]) := upd_same
      have eD : upd I1 w1 (.lst [.str "InvalidViews", s1, .bl true]) D = _ := same_new n1 _ _ eD
      generalize upd I1 w1 (.lst [.str "InvalidViews", s1, .bl true]) = R1 at Y1 f1 eD
      refine ⟨D, ys, _, rfl, rfl, eD, by rw [ly, sizeLine_eq, List.length_replicate]; omega, ?_⟩
      have Y2 := Y1.owe f1 eD
      rw [← List.replicate_succ'] at Y2
      exact ⟨_, rfl, Y2⟩
    rintro σ J ⟨a10, rfl, Z⟩
    -- signs and numbers
    refine ⟨by show 2 ≤ sizeLine; decide, fun l3 nl3 => ?_⟩
    have Z0 := Z.swap (f2 := [V.ref F_signs, V.ref F_number_of]) nl3
    generalize upd J l3 (.lst [V.ref F_signs, V.ref F_number_of]) = J0 at Z0
    refine ⟨l3, rfl, ⟨_, .inl (.inl Z0.ll)⟩, for_list (K := K) (a := l3) (xs := [V.ref F_signs, V.ref F_number_of]) (fun i σ J => ∃ D a10, σ = [some (.ref p), some (.ref x), some v1, some s1, some v4, some (.ref S), some (.ref D), a10, none, none] ∧ Two [(PT, lamQ_law_right)] p G5 J S D l3 [V.ref F_signs, V.ref F_number_of] ((List.replicate 3 (("InvalidViews" : Str), s1)) ++ (List.replicate i [(("InvalidViews" : Str), s1), (("InvalidLength" : Str), v4)]).flatten) ((List.replicate 3 (("InvalidViews" : Str), s1)) ++ (List.replicate i [(("InvalidViews" : Str), s1), (("InvalidLength" : Str), v4)]).flatten)) ⟨_, _, rfl, Z0⟩ (fun i σ J _ ⟨_, _, _, z⟩ => .inl (.inl z.ll)) ?_ ?_⟩
    · clear Z Z0
      rintro i y σ J hy ⟨D, a10, rfl, Z⟩
      have i4 : i < 2 := (List.getElem?_eq_some_iff.mp hy).1
      obtain ⟨f, rfl, ok, okK⟩ := all3 y (List.mem_of_getElem? hy)
      obtain ⟨xs, eS, lx⟩ := Z.lsS
      refine ⟨_, rfl, .inl ⟨rfl, _, .inl (.inl eS)⟩, ?_⟩
      refine lam_raise (C := CV) (Fl := "index") (N := "InvalidViews") (v := s1) mR Z.lad.here (fun q J1 M e => ?_) (fun E J1 M r => ⟨f, rfl, ok, _, rfl, _, rfl, v1, v4, rfl, .inl ⟨s1, bad1 J1 (Z.kp.trans M.kp), r⟩⟩)
      have Y := Z.keep M
      clear eS lx xs
      obtain ⟨xs, eS, lx⟩ := Y.lsS
      refine ⟨S, xs, _, rfl, rfl, eS, by rw [lx, sizeLine_eq]; simp only [List.length_append, List.length_flatten, List.map_replicate, List.sum_replicate_nat, List.length_replicate, List.length_cons, List.length_nil]; omega, ?_⟩
      have Z1 := Y.say e eS
      generalize upd J1 S (.lst (xs ++ [.ref q])) = I1 at Z1
      clear eS lx xs e M Y
      obtain ⟨xs, eS, lx⟩ := Z1.lsS
      refine ⟨_, rfl, .inl ⟨rfl, _, .inl (.inl eS)⟩, ?_⟩
      refine lam_raise (C := CL) (Fl := "value") (N := "InvalidLength") (v := v4) mL Z1.lad.here (fun q J1 M e => ?_) (fun E J1 M r => by
        refine ⟨f, rfl, okK, _, rfl, _, rfl, by show 1 ≤ sizeLine; decide, fun q1 n1 => ?_⟩
        have z1 : Same J1 (upd J1 q1 (.tup [.ref x])) := same_new n1
        have h1 : upd J1 q1 (.tup [.ref x]) q1 = some (.tup [.ref x]) := upd_same
        generalize upd J1 q1 (.tup [.ref x]) = N1 at z1 h1
        refine ⟨_, _, [.ref x], rfl, rfl, .inl (.inl h1), List.cons_ne_nil _ _, by decide, by decide, by show 1 ≤ 1000; decide, fun q2 n2 => ?_⟩
        have z2 : Same N1 (upd N1 q2 (.tup (List.replicate (4 : Int).toNat [.ref x]).flatten)) := same_new n2
        have h2 : upd N1 q2 (.tup (List.replicate (4 : Int).toNat [.ref x]).flatten) q2 = some (.tup [.ref x, .ref x, .ref x, .ref x]) := upd_same
        generalize upd N1 q2 (.tup (List.replicate (4 : Int).toNat [.ref x]).flatten) = N2 at z2 h2
        refine ⟨by show 2 ≤ sizeLine; decide, fun q3 n3 => ?_⟩
        have z3 : Same N2 (upd N2 q3 (.tup [.ref q2, .str "ab"])) := same_new n3
        have h3 : upd N2 q3 (.tup [.ref q2, .str "ab"]) q3 = some (.tup [.ref q2, .str "ab"]) := upd_same
        generalize upd N2 q3 (.tup [.ref q2, .str "ab"]) = N3 at z3 h3
        refine ⟨by show 1 ≤ sizeLine; decide, fun q4 n4 => ?_⟩
        have z4 : Same N3 (upd N3 q4 (.tup [.ref q3])) := same_new n4
        have h4 : upd N3 q4 (.tup [.ref q3]) q4 = some (.tup [.ref q3]) := upd_same
        generalize upd N3 q4 (.tup [.ref q3]) = N4 at z4 h4
        have z14 := z1.trans (z2.trans (z3.trans z4))
        have shN := (KeepP.sh sh LG.pot (Z1.kp.trans M.kp)).same z14
        refine ⟨rfl, .ref q4, v4, rfl, .inr ⟨⟨q4, _, rfl, .inl (.inl h4), by show 1 ≤ 1; decide, by show 1 ≤ 4; decide, fun y hy => ?_⟩, ((b4.2 J1 (Z1.kp.trans M.kp)).2).same z14, r.same z14⟩⟩
        rw [List.mem_singleton.mp hy]
        exact ⟨q3, _, _, rfl, .inl (.inl (z4 _ _ h3)), row4_ok (z4 _ _ (z3 _ _ h2)) shN, by decide +kernel, by decide +kernel⟩)
      have Y := Z1.keep M
      clear eS lx xs
      obtain ⟨xs, eS, lx⟩ := Y.lsS
      refine ⟨S, xs, _, rfl, rfl, eS, by rw [lx, sizeLine_eq]; simp only [List.length_append, List.length_flatten, List.map_replicate, List.sum_replicate_nat, List.length_replicate, List.length_cons, List.length_nil]; omega, ?_⟩
      have Z2 := Y.say e eS
      generalize upd J1 S (.lst (xs ++ [.ref q])) = I2 at Z2
      clear eS lx xs e M Y
      obtain ⟨ys, eD, ly⟩ := Z2.lsD
      refine ⟨_, rfl, _, rfl, by show 3 ≤ sizeLine; decide, fun w1 n1 => ?_⟩
      have Y1 := Z2.same (same_new n1 (o := .lst [.str "InvalidViews", s1, .bl true]))
      have f1 : upd I2 w1 (.lst [.str "InvalidViews", s1, .bl true]) w1 = some (.lst [.str "InvalidViews", s1, .bl true]) := upd_same
      have eD : upd I2 w1 (.lst [.str "InvalidViews", s1, .bl true]) D = _ := same_new n1 _ _ eD
      generalize upd I2 w1 (.lst [.str "InvalidViews", s1, .bl true]) = R1 at Y1 f1 eD
      refine ⟨_, rfl, by show 3 ≤ sizeLine; decide, fun w2 n2 => ?_⟩
      have Y2 := Y1.same (same_new n2 (o := .lst [.str "InvalidLength", v4, .bl true]))
      have f2 : upd R1 w2 (.lst [.str "InvalidLength", v4, .bl true]) w2 = some (.lst [.str "InvalidLength", v4, .bl true]) := upd_same
      have eD : upd R1 w2 (.lst [.str "InvalidLength", v4, .bl true]) D = _ := same_new n2 _ _ eD
      have f1 : upd R1 w2 (.lst [.str "InvalidLength", v4, .bl true]) w1 = _ := same_new n2 _ _ f1
      generalize upd R1 w2 (.lst [.str "InvalidLength", v4, .bl true]) = R2 at Y2 f1 f2 eD
      refine ⟨by show 2 ≤ sizeLine; decide, fun W nW => ?_⟩
      have Y3 := Y2.same (same_new nW (o := .lst [.ref w1, .ref w2]))
      have eW : upd R2 W (.lst [.ref w1, .ref w2]) W = some (.lst [.ref w1, .ref w2]) := upd_same
      have eD : upd R2 W (.lst [.ref w1, .ref w2]) D = _ := same_new nW _ _ eD
      have f1 : upd R2 W (.lst [.ref w1, .ref w2]) w1 = _ := same_new nW _ _ f1
      have f2 : upd R2 W (.lst [.ref w1, .ref w2]) w2 = _ := same_new nW _ _ f2
      generalize upd R2 W (.lst [.ref w1, .ref w2]) = R3 at Y3 f1 f2 eD eW
      refine ⟨D, W, ys, [.ref w1, .ref w2], rfl, rfl, eD, eW, by show ys.length + 2 ≤ _; rw [ly, sizeLine_eq]; simp only [List.length_append, List.length_flatten, List.map_replicate, List.sum_replicate_nat, List.length_replicate, List.length_cons, List.length_nil]; omega, fun E2 nE => ?_⟩
      have Z3 := Y3.owed f1 f2 eD nE
      generalize upd R3 E2 (.lst (ys ++ [.ref w1, .ref w2])) = R4 at Z3
      have Z3 : Two [(PT, lamQ_law_right)] p G5 R4 S E2 l3 [V.ref F_signs, V.ref F_number_of] ((List.replicate 3 (("InvalidViews" : Str), s1)) ++ (List.replicate (i + 1) [(("InvalidViews" : Str), s1), (("InvalidLength" : Str), v4)]).flatten) ((List.replicate 3 (("InvalidViews" : Str), s1)) ++ (List.replicate (i + 1) [(("InvalidViews" : Str), s1), (("InvalidLength" : Str), v4)]).flatten) := by
        rw [List.append_assoc _ [_] [_]] at Z3
        rw [rep2]
        exact Z3
      exact ⟨_, _, rfl, Z3⟩
    rintro σ R4 ⟨E2, a10, rfl, Z3⟩
    have Z3 : Two [(PT, lamQ_law_right)] p G5 R4 S E2 l3 [V.ref F_signs, V.ref F_number_of] [(("InvalidViews" : Str), s1), (("InvalidViews" : Str), s1), (("InvalidViews" : Str), s1), (("InvalidViews" : Str), s1), (("InvalidLength" : Str), v4), (("InvalidViews" : Str), s1), (("InvalidLength" : Str), v4)] [(("InvalidViews" : Str), s1), (("InvalidViews" : Str), s1), (("InvalidViews" : Str), s1), (("InvalidViews" : Str), s1), (("InvalidLength" : Str), v4), (("InvalidViews" : Str), s1), (("InvalidLength" : Str), v4)] := Z3
    obtain ⟨d1, q1⟩ := spot_thing (K := K) (p := p) (H := G5) so1
    have c1 := q1.2 R4 Z3.kp
    have c4 := b4.2 R4 Z3.kp
    have dS : DpE K R4 (.ref S) (.list [said "InvalidViews" d1, said "InvalidViews" d1, said "InvalidViews" d1, said "InvalidViews" d1, said "InvalidLength" D4, said "InvalidViews" d1, said "InvalidLength" D4]) := Z3.dataS (ds := [d1, d1, d1, d1, D4, d1, D4]) (.cons c1.1 (.cons c1.1 (.cons c1.1 (.cons c1.1 (.cons c4.1 (.cons c1.1 (.cons c4.1 .nil)))))))
    have dD : DpE K R4 (.ref E2) (.list [said "InvalidViews" d1, said "InvalidViews" d1, said "InvalidViews" d1, said "InvalidViews" d1, said "InvalidLength" D4, said "InvalidViews" d1, said "InvalidLength" D4]) := Z3.dataD (ds := [d1, d1, d1, d1, D4, d1, D4]) (.cons c1.1 (.cons c1.1 (.cons c1.1 (.cons c1.1 (.cons c4.1 (.cons c1.1 (.cons c4.1 .nil)))))))
    have fine : FineE 60 100000 (.list [said "InvalidViews" d1, said "InvalidViews" d1, said "InvalidViews" d1, said "InvalidViews" d1, said "InvalidLength" D4, said "InvalidViews" d1, said "InvalidLength" D4]) := all_said (fun d hd => by
      simp only [List.mem_cons, List.not_mem_nil, or_false] at hd
      rcases hd with rfl | rfl | rfl | rfl | rfl | rfl | rfl
      · exact said_fine q1.1 (by decide +kernel)
      · exact said_fine q1.1 (by decide +kernel)
      · exact said_fine q1.1 (by decide +kernel)
      · exact said_fine q1.1 (by decide +kernel)
      · exact said_fine b4.1 (by decide +kernel)
      · exact said_fine q1.1 (by decide +kernel)
      · exact said_fine b4.1 (by decide +kernel)) (by show 7 ≤ 60; decide)
    refine ⟨_, rfl, S, _, rfl, Z3.lad.sys, dS, fine, _, rfl, E2, _, rfl, Z3.lad.sys, dD, fine, ?_⟩
    generalize PyData.shown (.list [said "InvalidViews" d1, said "InvalidViews" d1, said "InvalidViews" d1, said "InvalidViews" d1, said "InvalidLength" D4, said "InvalidViews" d1, said "InvalidLength" D4]) = zz
    refine ⟨rfl, _, rfl, iteNS rfl ?_⟩
    have LL := LI.trans Z3.lad
    have sh := KeepP.sh sh LG.pot Z3.kp
    clear dS dD fine c1 c4 b4 q1 bad1 Z3
    -- the widest
    refine fun x2 dx2 nx2 nd2 ne2 => ?_
    have s1 : Same R4 (upd (upd R4 dx2 (.own x2)) x2 (.ins C dx2 [])) := (same_new nd2).trans (same_new (by rw [upd_ne (Ne.symm ne2)]; exact nx2))
    have e1 : upd (upd R4 dx2 (.own x2)) x2 (.ins C dx2 []) x2 = some (.ins C dx2 []) := upd_same
    have i1 : R4 x2 = none := nx2
    generalize upd (upd R4 dx2 (.own x2)) x2 (.ins C dx2 []) = H1 at s1 e1
    refine ⟨x2, dx2, wide14, rfl, e1, fitW14, fun t2 I1 nt2 g1 g2 g3 => ⟨rfl, ?_⟩⟩
    have s2 : Same R4 I1 := fun b o e => g3 b o (s1 _ _ e) (ne_of_none e i1)
    have LL := LL.same s2
    have sh := sh.same s2
    have sw : ShAt C I1 x2 wide14 := ⟨dx2, t2, g1, g2⟩
    clear g3 g2 g1 s1 s2 e1 nt2 i1 nx2 nd2 ne2
    refine ⟨by show 1 ≤ sizeLine; decide, fun q1 n1 => ?_⟩
    have z1 : Same I1 (upd I1 q1 (.tup [.ref x2])) := same_new n1
    have h1 : upd I1 q1 (.tup [.ref x2]) q1 = some (.tup [.ref x2]) := upd_same
    generalize upd I1 q1 (.tup [.ref x2]) = N1 at z1 h1
    refine ⟨_, _, rfl, rfl, by decide, by decide, by decide +kernel, fun y1 hy1 => ?_⟩
    have hy1 := a200 hy1
    subst hy1
    refine ⟨by show 2 ≤ sizeLine; decide, fun q2 n2 => ?_⟩
    have z2 : Same N1 (upd N1 q2 (.tup [.ref q1, .str ⟨(List.replicate 200 97).toArray⟩])) := same_new n2
    have h2 : upd N1 q2 (.tup [.ref q1, .str ⟨(List.replicate 200 97).toArray⟩]) q2 = some (.tup [.ref q1, .str ⟨(List.replicate 200 97).toArray⟩]) := upd_same
    generalize upd N1 q2 (.tup [.ref q1, .str ⟨(List.replicate 200 97).toArray⟩]) = N2 at z2 h2
    -- lengths
    refine ⟨_, rfl, by show 1 ≤ sizeLine; decide, fun q3 n3 => ?_⟩
    have z3 : Same N2 (upd N2 q3 (.tup [.ref q2])) := same_new n3
    have h3 : upd N2 q3 (.tup [.ref q2]) q3 = some (.tup [.ref q2]) := upd_same
    generalize upd N2 q3 (.tup [.ref q2]) = N3 at z3 h3
    refine ⟨_, _, [.ref q2], rfl, rfl, .inl (.inl h3), List.cons_ne_nil _ _, by decide, by decide, by show 1 ≤ 1000; decide, fun q4 n4 => ?_⟩
    have z4 : Same N3 (upd N3 q4 (.tup (List.replicate (4 : Int).toNat [.ref q2]).flatten)) := same_new n4
    have h4 : upd N3 q4 (.tup (List.replicate (4 : Int).toNat [.ref q2]).flatten) q4 = some (.tup [.ref q2, .ref q2, .ref q2, .ref q2]) := upd_same
    generalize upd N3 q4 (.tup (List.replicate (4 : Int).toNat [.ref q2]).flatten) = N4 at z4 h4
    have z14 := z1.trans (z2.trans (z3.trans z4))
    have vw : ViewAt C N4 ⟨q2, q1, [(x2, wide14)], ⟨(List.replicate 200 97).toArray⟩⟩ := ⟨z4 _ _ (z3 _ _ h2), row1_at (z4 _ _ (z3 _ _ (z2 _ _ h1))) (sw.same z14) fitW14, by show 1 ≤ 1; decide, by show 1 ≤ 4; decide, by show isTxt ⟨(List.replicate 200 97).toArray⟩ 200 = true; decide +kernel⟩
    generalize ew : (⟨q2, q1, [(x2, wide14)], ⟨(List.replicate 200 97).toArray⟩⟩ : VW) = vw1 at vw
    have nof : ∀ cs, ¬ Fits [vw1, vw1, vw1, vw1] cs := fun cs h => by
      have h := h vw1 (List.mem_cons_self ..)
      rw [← ew] at h
      exact no_wide h
    refine ⟨q4, [vw1, vw1, vw1, vw1], rfl, ⟨by rw [← ew]; exact h4, fun v hv => by
      have e : v = vw1 := by
        simp only [List.mem_cons, List.not_mem_nil, or_false] at hv
        rcases hv with e | e | e | e <;> exact e
      rw [e]
      exact vw, by show 1 ≤ 4; decide, by show 4 ≤ 4; decide⟩, fun tT tS sm bb N5 z5 eT eS ln => ?_⟩
    obtain ⟨rfl, rfl⟩ := lens_none nof ln
    have sh := sh.same (z14.trans z5)
    have LL := LL.same (z14.trans z5)
    clear z1 z2 z3 z4 z5 z14 h1 h2 h3 h4 n1 n2 n3 n4 vw nof ln ew sw
    -- signs
    refine ⟨_, rfl, by show 1 ≤ sizeLine; decide, fun q1 n1 => ?_⟩
    have z1 : Same N5 (upd N5 q1 (.tup [.ref x])) := same_new n1
    have h1 : upd N5 q1 (.tup [.ref x]) q1 = some (.tup [.ref x]) := upd_same
    generalize upd N5 q1 (.tup [.ref x]) = N1 at z1 h1
    refine ⟨by show 2 ≤ sizeLine; decide, fun q2 n2 => ?_⟩
    have z2 : Same N1 (upd N1 q2 (.tup [.ref q1, .str "ab~b"])) := same_new n2
    have h2 : upd N1 q2 (.tup [.ref q1, .str "ab~b"]) q2 = some (.tup [.ref q1, .str "ab~b"]) := upd_same
    generalize upd N1 q2 (.tup [.ref q1, .str "ab~b"]) = N2 at z2 h2
    refine ⟨by show 1 ≤ sizeLine; decide, fun q3 n3 => ?_⟩
    have z3 : Same N2 (upd N2 q3 (.tup [.ref q2])) := same_new n3
    have h3 : upd N2 q3 (.tup [.ref q2]) q3 = some (.tup [.ref q2]) := upd_same
    generalize upd N2 q3 (.tup [.ref q2]) = N3 at z3 h3
    have z13 := z1.trans (z2.trans z3)
    refine ⟨q3, 500, [⟨q2, q1, [(x, one05)], "ab~b"⟩], rfl, ⟨h3, fun v hv => by
      rw [List.mem_singleton.mp hv]
      exact ⟨z3 _ _ h2, row1_at (z3 _ _ (z2 _ _ h1)) (sh.same z13) fit05, by show 1 ≤ 1; decide, by show 1 ≤ 4; decide, by show isTxt "ab~b" 200 = true; decide +kernel⟩, by show 1 ≤ 1; decide, by show 1 ≤ 4; decide⟩, by decide, fun v N6 z6 sg => ?_⟩
    obtain ⟨y, rfl, ly5, hy3⟩ := signs_ab (fun cs => ⟨fun h => by
      have h := h _ (List.mem_cons_self ..)
      have h : cuts [one05] cs = ("ab~b" : Str).cps.toList := h
      rw [h]
      decide +kernel, fun h v hv => by
      rw [List.mem_singleton.mp hv]
      show cuts [one05] cs = ("ab~b" : Str).cps.toList
      rw [h]
      decide +kernel⟩) sg
    refine ⟨_, rfl, y, rfl, Nat.le_of_lt (small1000 (by show y.cps.toList.length ≤ 1000; omega)), ?_⟩
    have ec : cutS y none (some 3) = "ab?" := str_ext (by
      show ((y.cps.toList.drop _).take _).toArray.toList = _
      rw [List.toList_toArray]
      refine (cut_front y.cps.toList (h := 3) (by decide)).trans ?_
      rw [show (3 : Int).toNat = 3 from rfl, hy3]
      decide +kernel)
    rw [ec]
    have sh := sh.same (z13.trans z6)
    have LL := LL.same (z13.trans z6)
    have eT := z6 _ _ (z13 _ _ eT)
    have eS := z6 _ _ (z13 _ _ eS)
    clear z1 z2 z3 z6 z13 h1 h2 h3 n1 n2 n3 sg
    -- number_of
    refine ⟨_, rfl, by show 1 ≤ sizeLine; decide, fun q1 n1 => ?_⟩
    have z1 : Same N6 (upd N6 q1 (.tup [.ref x])) := same_new n1
    have h1 : upd N6 q1 (.tup [.ref x]) q1 = some (.tup [.ref x]) := upd_same
    generalize upd N6 q1 (.tup [.ref x]) = N1 at z1 h1
    refine ⟨by show 2 ≤ sizeLine; decide, fun q2 n2 => ?_⟩
    have z2 : Same N1 (upd N1 q2 (.tup [.ref q1, .str ""])) := same_new n2
    have h2 : upd N1 q2 (.tup [.ref q1, .str ""]) q2 = some (.tup [.ref q1, .str ""]) := upd_same
    generalize upd N1 q2 (.tup [.ref q1, .str ""]) = N2 at z2 h2
    refine ⟨by show 1 ≤ sizeLine; decide, fun q3 n3 => ?_⟩
    have z3 : Same N2 (upd N2 q3 (.tup [.ref q2])) := same_new n3
    have h3 : upd N2 q3 (.tup [.ref q2]) q3 = some (.tup [.ref q2]) := upd_same
    generalize upd N2 q3 (.tup [.ref q2]) = N3 at z3 h3
    have z13 := z1.trans (z2.trans z3)
    refine ⟨q3, 0, [⟨q2, q1, [(x, one05)], ""⟩], rfl, ⟨h3, fun v hv => by
      rw [List.mem_singleton.mp hv]
      exact ⟨z3 _ _ h2, row1_at (z3 _ _ (z2 _ _ h1)) (sh.same z13) fit05, by show 1 ≤ 1; decide, by show 1 ≤ 4; decide, by show isTxt "" 200 = true; decide +kernel⟩, by show 1 ≤ 1; decide, by show 1 ≤ 4; decide⟩, by decide, fun v N7 z7 sg => ?_⟩
    rw [many_one (fun v hv => by
      rw [List.mem_singleton.mp hv]
      show cuts [one05] [] = ("" : Str).cps.toList
      decide +kernel) sg]
    have LL := LL.same (z13.trans z7)
    have eT := z7 _ _ (z13 _ _ eT)
    have eS := z7 _ _ (z13 _ _ eS)
    clear z1 z2 z3 z7 z13 h1 h2 h3 n1 n2 n3 sg sh
    refine ⟨by show 3 ≤ sizeLine; decide, fun V1 nV1 => ?_⟩
    have r1 : Same N7 (upd N7 V1 (.lst [.ref tT, .str "ab?", .int 1])) := same_new nV1
    have f1 : upd N7 V1 (.lst [.ref tT, .str "ab?", .int 1]) V1 = some (.lst [.ref tT, .str "ab?", .int 1]) := upd_same
    generalize upd N7 V1 (.lst [.ref tT, .str "ab?", .int 1]) = I7 at r1 f1
    have LL := LL.same r1
    have dd : DpE K I7 (.ref V1) (.list [.tuple [.tuple [], .none], .str "ab?", .int 1]) := .lst f1 (.cons (.tup (.inl (.inl (r1 _ _ eT))) (.cons (.tup (.inl (.inl (r1 _ _ eS))) .nil) (.cons .non .nil))) (.cons (.str _) (.cons (.int _) .nil)))
    have fn : FineE 60 100000 (.list [.tuple [.tuple [], .none], .str "ab?", .int 1]) := ⟨by decide +kernel, by decide +kernel, by decide +kernel, by decide +kernel⟩
    refine ⟨_, rfl, V1, _, rfl, LL.sys, dd, fn, ?_⟩
    refine ⟨by show 0 ≤ sizeLine; decide, fun q1 n1 => ⟨by show 2 ≤ sizeLine; decide, fun q2 n2 => ⟨by show 3 ≤ sizeLine; decide, fun q3 n3 => ?_⟩⟩⟩
    have z1 : Same I7 (upd I7 q1 (.tup [])) := same_new n1
    have h1 : upd I7 q1 (.tup []) q1 = some (.tup []) := upd_same
    generalize upd I7 q1 (.tup []) = N1 at z1 h1 n2 n3
    have z2 : Same N1 (upd N1 q2 (.tup [.ref q1, .non])) := same_new n2
    have h2 : upd N1 q2 (.tup [.ref q1, .non]) q2 = some (.tup [.ref q1, .non]) := upd_same
    generalize upd N1 q2 (.tup [.ref q1, .non]) = N2 at z2 h2 n3
    have z3 : Same N2 (upd N2 q3 (.lst [.ref q2, .str "ab?", .int 1])) := same_new n3
    have h3 : upd N2 q3 (.lst [.ref q2, .str "ab?", .int 1]) q3 = some (.lst [.ref q2, .str "ab?", .int 1]) := upd_same
    generalize upd N2 q3 (.lst [.ref q2, .str "ab?", .int 1]) = N3 at z3 h3
    have LL := LL.same (z1.trans (z2.trans z3))
    have d2 : DpE K N3 (.ref q3) (.list [.tuple [.tuple [], .none], .str "ab?", .int 1]) := .lst h3 (.cons (.tup (.inl (.inl (z3 _ _ h2))) (.cons (.tup (.inl (.inl (z3 _ _ (z2 _ _ h1)))) .nil) (.cons .non .nil))) (.cons (.str _) (.cons (.int _) .nil)))
    refine ⟨q3, _, rfl, LL.sys, d2, fn, ?_⟩
    generalize PyData.shown (.list [.tuple [.tuple [], .none], .str "ab?", .int 1]) = zz
    refine ⟨rfl, ?_⟩
    rw [decide_eq_true rfl]
    exact k _ LL
end
end Gu
namespace Gu
open PySem PySem.Spec PyProof.Rows L2 LamX
theorem cls_of_mro {K : PySem.W.Frag} {C : Addr} {b : Value} {r : Bool} (h : PySem.W.mroIn K C b = some r) : (PySem.W.clsIn K C).isSome = true := by
  unfold PySem.W.mroIn at h
  cases e : PySem.W.clsIn K C with
  | none =>
    rw [e] at h
    cases h
  | some _ => rfl
section
variable {P : Program} {w : World} {K : PySem.W.Frag} {mg : Str → Option Value} {base : Heap}
def spLawT (T : List (Addr × Str)) (K : PySem.W.Frag) : Sp := fun vs H Q _ => ∃ (a : Addr) (ns : List Int), vs = [.ref a] ∧ SqL K H a (ns.map V.int) ∧ ns.length ≤ 63 ∧ Tabs T H ∧ Sys H ∧ ∀ G, Q (.bl true) G
theorem cal_lawT {n : Nat} {T : List (Addr × Str)} (B : Bi mg) {f : Addr} {fd : FuncData} (F : Fun K "law" "law" s_law f fd) (n1 : 1 ≤ n) (C_law_pot : Cal P w K mg base 1 "_law_pot" ps_law_pot (spPot K)) (C_law_right : CalG P w K mg base n "_law_right" ps_law_right (spRightT T)) : FnG P w K mg base (n + 1) f fd ps_law (spLawT T K) := by
  refine okG F sc_law (fun vs H Q E h => ?_) (fun cdv A outer s H vs Q E hr quiet h => ?_)
  · obtain ⟨a, ns, rfl, _⟩ := h
    rfl
  · obtain ⟨a, ns, rfl, hS, hl, hT, hY, k⟩ := h
    have hk1 := n1
    refine ⟨_, (pss_one (ps_ret (pe_callB (cr_all rfl) (by rfl) B.all (by decide +kernel) (pa_cons (pe_lc (own := [("_law_k", 1)]) (by rfl) sc_law.nd (pi_range1 (by rfl) B.range (pa_cons (pe_callB (call_max2 rfl) (by rfl) B.max (by decide +kernel) (pa_cons pe_int (pa_cons (pe_callB (call_min2 rfl) (by rfl) B.min (by decide +kernel) (pa_cons (pe_callB call_len_seq (by rfl) B.len (by decide +kernel) (pa_cons (pv 0) pa_nil)) (pa_cons pe_int pa_nil))) pa_nil))) pa_nil)) (blkOk_by (own := [("_law_k", 1)]) (N := ["_law_script", "_law_k"]) (sc := defScope s_law) (by decide +kernel)) (fun _ _ _ _ _ => pg_name (i := 1) sc_law.nd rfl (.inl rfl)) (fun _ _ _ _ _ => pts_nil) (fun _ _ _ _ _ => (pe_ownG C_law_right hr (Nat.le_refl _) quiet (by rfl) (pa_cons (pe_own C_law_pot hr hk1 (by rfl) (pa_cons (pv 0) (pa_cons (pv 1) pa_nil))) pa_nil)))) pa_nil)))), ?_⟩
    refine ⟨_, rfl, a, _, rfl, .inl hS, _, _, rfl, _, _, rfl, ?_⟩
    rw [List.length_map]
    generalize hm : (if (5 : Int) < (ns.length : Int) then (5 : Int) else (ns.length : Int)) = m
    have m1 : m ≤ 5 := by rw [← hm]; split <;> omega
    refine ⟨_, rfl, by split <;> omega, by split <;> omega, fun D nD => ?_⟩
    refine lc_range (lo := 0) (n := (if m > (2 : Int) then m else 2).toNat) (fun i J => ∃ bs : List Bool, bs.length = i ∧ bs.all id = true ∧ J D = some (.lst (bs.map V.bl)) ∧ SameN H J ∧ Tabs T J) ⟨[], rfl, rfl, upd_same, Same.n (same_new nD), hT.ext (same_new nD)⟩ ?_ ?_
    · rintro i J hi ⟨bs, rfl, ha, eD, sJ, tJ⟩
      have i5 : bs.length < 7 := by
        revert hi
        split <;> omega
      refine ⟨rfl, yes (iteT ⟨_, rfl, _, rfl, a, bs.length, ns, ?_, sJ.sqL hS, by omega, fun p G np hp sG => ?_⟩)⟩
      · rw [Int.zero_add]
        rfl
      · refine ⟨p, rfl, hp, tJ.ext sG, (sJ.sys hY).same sG, fun G2 L => ?_⟩
        have nDp : D ≠ p := ne_of_none eD np
        have gD : G2 D = some (.lst (bs.map V.bl)) := L.keep _ _ (sG _ _ eD) nDp fun _ z => by cases z
        refine ⟨_, gD, small1000 (by rw [List.length_map]; omega), bs ++ [true], by rw [List.length_append]; rfl, by rw [List.all_append, ha]; rfl, ?_, fun b o e nt => ?_, ?_⟩
        · rw [upd_same, List.map_append]
          rfl
        · rw [upd_ne (ne_of_none e nD)]
          exact L.keep _ _ (sG _ _ (sJ _ _ e nt)) (ne_of_none (sJ _ _ e nt) np) nt
        · exact tabs_upd L.tabs gD
    · rintro J ⟨bs, el, ha, eD, _⟩
      refine ⟨D, bs, rfl, .inl (.inl eD), ?_⟩
      rw [ha]
      exact k J
end
end Gu
namespace Gu
open PySem PySem.Spec PyProof.Rows L2
theorem at_mk {K : PySem.W.Frag} {h : Heap} {mg : Str → Option Value} {x : Str} {st : Stmt} {ps : List Str} {f : Addr} {oc : Value} {od an : Option Addr} {sl : Array (Option Value)} {kV dc pm cd ct : Value} (X : K.In h) (G : h.Ns mainGlobals mg)
    (hb : ∀ (kV doc pm : Value) (an : Option Addr) (cdv ct : Value) (us : List Value), us.length = ps.length → bindArgs (PySem.W.fnOf x x (defArgs st) (defBody st) (defScope st) .none kV doc pm an cdv ct) ⟨us, []⟩ = pure (ps.zip us))
    (a : PySem.W.nsIn K mainGlobals x = some (some (.ref f))) (l : K.lookup f = some ⟨oc, od, .func (PySem.W.fnOf x x (defArgs st) (defBody st) (defScope st) .none kV dc pm an cd ct), sl⟩) (c : PySem.W.codeIn K cd x = true) (k : PySem.W.keepIn K (.ref f) = true) : At K mg x st ps :=
  ⟨f, _, fun_mk l c k, (fun_mk l c k).binds hb, PySem.W.mg_of X G a⟩
theorem cst_mk {K : PySem.W.Frag} {h : Heap} {mg : Str → Option Value} {x : Str} {v : V} {u : Value} (X : K.In h) (G : h.Ns mainGlobals mg) (r : RelV v u) (a : PySem.W.nsIn K mainGlobals x = some (some u)) : ∃ u, mg x = some u ∧ RelV v u := ⟨u, PySem.W.mg_of X G a, r⟩
end Gu
namespace Gu
open PySem PySem.Spec PyProof.Rows L2
theorem fin {P : Program} {w : World} {K : PySem.W.Frag} {mg : Str → Option Value} {base : Heap} {C U_InputError E_InvalidLength E_InvalidViews cc_law_right PP_law_right f : Addr} {fd : FuncData} (B : Bi mg) (UK_InputError : UpK K mg bVE "InputError" U_InputError) (EK_InvalidLength : ErrK K mg bVE U_InputError "InvalidLength" E_InvalidLength) (EF_InvalidLength : ErrF K "InvalidLength" "value" E_InvalidLength) (EK_InvalidViews : ErrK K mg bVE U_InputError "InvalidViews" E_InvalidViews) (EF_InvalidViews : ErrF K "InvalidViews" "index" E_InvalidViews) (AC_law_right : AtC K mg "_law_right" s_law_right ps_law_right cc_law_right) (TB_law_right : LamX.TabB base mg cc_law_right PP_law_right) (Ss : ShC K mg C) (Is : InitAt K C) (Xs : ShX K C)
    (A_is_integer : At K mg "is_integer" s_is_integer ps_is_integer) (A_is_tuple : At K mg "is_tuple" s_is_tuple ps_is_tuple) (A_is_text : At K mg "is_text" s_is_text ps_is_text) (A_check_mark : At K mg "check_mark" s_check_mark ps_check_mark) (A_check_length : At K mg "check_length" s_check_length ps_check_length) (A_shortened : At K mg "shortened" s_shortened ps_shortened) (A_planned : At K mg "planned" s_planned ps_planned) (A_telling_lengths : At K mg "telling_lengths" s_telling_lengths ps_telling_lengths) (A_is_row : At K mg "is_row" s_is_row ps_is_row) (A_is_view : At K mg "is_view" s_is_view ps_is_view) (A_check_views : At K mg "check_views" s_check_views ps_check_views) (A_known_signs : At K mg "known_signs" s_known_signs ps_known_signs) (A_written_out : At K mg "written_out" s_written_out ps_written_out) (A_signs : At K mg "signs" s_signs ps_signs) (A_number_of : At K mg "number_of" s_number_of ps_number_of) (A_lengths : At K mg "lengths" s_lengths ps_lengths) (A_least_text : At K mg "least_text" s_least_text ps_least_text) (A_only_text : At K mg "only_text" s_only_text ps_only_text) (A_law_pot : At K mg "_law_pot" s_law_pot ps_law_pot) (A_law_ladle : At K mg "_law_ladle" s_law_ladle ps_law_ladle) (A_law_one_of : At K mg "_law_one_of" s_law_one_of ps_law_one_of) (A_law_ended : At K mg "_law_ended" s_law_ended ps_law_ended) (A_law_bad : At K mg "_law_bad" s_law_bad ps_law_bad)
    (F : Fun K "law" "law" s_law f fd) : FnG P w K mg base 11 f fd ps_law (spLawT [(PP_law_right, lamQ_law_right)] K) := by
  have c1 : Cal P w K mg base 1 "_law_ladle" ps_law_ladle spLadle := cal_ladle B A_law_ladle
  have c2 : Cal P w K mg base 2 "_law_one_of" ps_law_one_of (spOneOf K) := cal_oneOf B A_law_one_of c1
  have c5 : Cal P w K mg base 1 "is_integer" ps_is_integer (spIsInteger K) := cal_isInteger B A_is_integer
  have c6 : Cal P w K mg base 1 "is_text" ps_is_text (spIsText K) := cal_isText B A_is_text
  have cmk : Cal P w K mg base 2 "check_mark" ps_check_mark spCheckMark := cal_checkMark B A_check_mark c6
  have m1 : Mak P w K mg base 3 "Shortener" C (spInit C) := mak_sh B Ss Is c5 cmk
  have t1 : Cal P w K mg base 1 "is_tuple" ps_is_tuple (spIsTuple K) := cal_isTuple B A_is_tuple
  have d2 : Cal P w K mg base 1 "shortened" ps_shortened (spShortT C) := cal_shortT B Ss A_shortened
  have d3 : Cal P w K mg base 2 "planned" ps_planned (spPlanned C) := cal_planned B Ss A_planned d2
  have d4 : Cal P w K mg base 1 "telling_lengths" ps_telling_lengths spTelling := cal_telling B A_telling_lengths
  have g4 : Cal P w K mg base 2 "check_length" ps_check_length spCheckLength := cal_checkLength B A_check_length c5
  have v1 : Cal P w K mg base 2 "is_row" ps_is_row (spIsRow C) := cal_isRow B Ss A_is_row t1
  have v2 : Cal P w K mg base 3 "is_view" ps_is_view (spIsView C) := cal_isView B A_is_view t1 c6 v1
  have v3 : Cal P w K mg base 4 "check_views" ps_check_views (spCheckViews C) := cal_checkViews B A_check_views t1 v2
  have v4 : Cal P w K mg base 3 "known_signs" ps_known_signs (spKnown C) := cal_known B A_known_signs d3
  have v5 : Cal P w K mg base 1 "written_out" ps_written_out spWritten := cal_written B A_written_out
  have v6 : Cal P w K mg base 5 "signs" ps_signs (spSigns C) := cal_signs B A_signs v3 g4 v4 v5
  have v7 : Cal P w K mg base 6 "number_of" ps_number_of (spNumber C) := cal_number B A_number_of v6
  have v8 : Cal P w K mg base 5 "lengths" ps_lengths (spLengths C) := cal_lengths B A_lengths v3 d4 v4
  have x0 : Cal P w K mg base 2 "is_row" ps_is_row (spRowB K C) := rowB_of Ss (cal_rowG B Ss A_is_row (tup_of t1))
  have x1 : Cal P w K mg base 3 "is_view" ps_is_view (spViewB K C) := cal_viewB B A_is_view (tup_of t1) (txt_of c6) x0
  have x2 : CalX P w K mg base 4 "check_views" ps_check_views (spViewsE K C E_InvalidViews) := cal_viewsE B A_check_views EK_InvalidViews EF_InvalidViews (tup_of t1) x1
  have x3 : CalX P w K mg base 2 "check_length" ps_check_length (spLenE K E_InvalidLength) := cal_lenE B A_check_length EK_InvalidLength EF_InvalidLength (num_of c5)
  have y1 := cv_lengths B A_lengths x2
  have y2 := cv_least_text B A_least_text y1
  have y3 := cv_only_text B A_only_text y1
  have y4 := cv_signs B A_signs x2 x3
  have y5 := cv_number_of B A_number_of y4
  have bd : Cal P w K mg base 3 "_law_bad" ps_law_bad (spBadV K C) := cal_bad B Ss Xs A_law_bad c2
  have k4 := y4.askK (j := 6) (ks := ["length", "views"]) List.reverse (by decide) A_signs (fun r => valsK r) (fun _ _ _ _ _ _ us hl => match us, hl with | [_, _], _ => rfl)
  have k5 := y5.askK (j := 6) (ks := ["length", "views"]) List.reverse (by decide) A_number_of (fun r => valsK r) (fun _ _ _ _ _ _ us hl => match us, hl with | [_, _], _ => rfl)
  have e7 : CalG P w K mg base 10 "_law_right" ps_law_right (spRightT [(PP_law_right, lamQ_law_right)]) := cal_right B Ss AC_law_right TB_law_right A_law_ended UK_InputError EK_InvalidLength EF_InvalidLength EK_InvalidViews EF_InvalidViews c2 m1 bd (y1.ask (by decide)) (y2.ask (by decide)) (y3.ask (by decide)) (y4.ask (by decide)) k4 (y5.ask (by decide)) k5 v8 v6 v7
  exact cal_lawT B F (by decide) (cal_pot B A_law_pot) e7
end Gu
namespace Gu
open PySem PySem.Spec PyProof.Rows L2
set_option maxHeartbeats 0 in
theorem all_mk {l : PySem.W.OpenLaw} {q : Program} {w : World} {K : PySem.W.Frag} {h : Heap} {mg : Str → Option Value} {fa : Addr} {f_is_integer : Addr} {oc_is_integer kV_is_integer dc_is_integer pm_is_integer cd_is_integer ct_is_integer : Value} {od_is_integer an_is_integer : Option Addr} {sl_is_integer : Array (Option Value)} {f_is_tuple : Addr} {oc_is_tuple kV_is_tuple dc_is_tuple pm_is_tuple cd_is_tuple ct_is_tuple : Value} {od_is_tuple an_is_tuple : Option Addr} {sl_is_tuple : Array (Option Value)} {f_is_text : Addr} {oc_is_text kV_is_text dc_is_text pm_is_text cd_is_text ct_is_text : Value} {od_is_text an_is_text : Option Addr} {sl_is_text : Array (Option Value)} {f_check_mark : Addr} {oc_check_mark kV_check_mark dc_check_mark pm_check_mark cd_check_mark ct_check_mark : Value} {od_check_mark an_check_mark : Option Addr} {sl_check_mark : Array (Option Value)} {f_check_length : Addr} {oc_check_length kV_check_length dc_check_length pm_check_length cd_check_length ct_check_length : Value} {od_check_length an_check_length : Option Addr} {sl_check_length : Array (Option Value)} {f_shortened : Addr} {oc_shortened kV_shortened dc_shortened pm_shortened cd_shortened ct_shortened : Value} {od_shortened an_shortened : Option Addr} {sl_shortened : Array (Option Value)} {f_planned : Addr} {oc_planned kV_planned dc_planned pm_planned cd_planned ct_planned : Value} {od_planned an_planned : Option Addr} {sl_planned : Array (Option Value)} {f_telling_lengths : Addr} {oc_telling_lengths kV_telling_lengths dc_telling_lengths pm_telling_lengths cd_telling_lengths ct_telling_lengths : Value} {od_telling_lengths an_telling_lengths : Option Addr} {sl_telling_lengths : Array (Option Value)} {f_is_row : Addr} {oc_is_row kV_is_row dc_is_row pm_is_row cd_is_row ct_is_row : Value} {od_is_row an_is_row : Option Addr} {sl_is_row : Array (Option Value)} {f_is_view : Addr} {oc_is_view kV_is_view dc_is_view pm_is_view cd_is_view ct_is_view : Value} {od_is_view an_is_view : Option Addr} {sl_is_view : Array (Option Value)} {f_check_views : Addr} {oc_check_views kV_check_views dc_check_views pm_check_views cd_check_views ct_check_views : Value} {od_check_views an_check_views : Option Addr} {sl_check_views : Array (Option Value)} {f_known_signs : Addr} {oc_known_signs kV_known_signs dc_known_signs pm_known_signs cd_known_signs ct_known_signs : Value} {od_known_signs an_known_signs : Option Addr} {sl_known_signs : Array (Option Value)} {f_written_out : Addr} {oc_written_out kV_written_out dc_written_out pm_written_out cd_written_out ct_written_out : Value} {od_written_out an_written_out : Option Addr} {sl_written_out : Array (Option Value)} {f_signs : Addr} {oc_signs kV_signs dc_signs pm_signs cd_signs ct_signs : Value} {od_signs an_signs : Option Addr} {sl_signs : Array (Option Value)} {f_number_of : Addr} {oc_number_of kV_number_of dc_number_of pm_number_of cd_number_of ct_number_of : Value} {od_number_of an_number_of : Option Addr} {sl_number_of : Array (Option Value)} {f_lengths : Addr} {oc_lengths kV_lengths dc_lengths pm_lengths cd_lengths ct_lengths : Value} {od_lengths an_lengths : Option Addr} {sl_lengths : Array (Option Value)} {f_least_text : Addr} {oc_least_text kV_least_text dc_least_text pm_least_text cd_least_text ct_least_text : Value} {od_least_text an_least_text : Option Addr} {sl_least_text : Array (Option Value)} {f_only_text : Addr} {oc_only_text kV_only_text dc_only_text pm_only_text cd_only_text ct_only_text : Value} {od_only_text an_only_text : Option Addr} {sl_only_text : Array (Option Value)} {f_law_pot : Addr} {oc_law_pot kV_law_pot dc_law_pot pm_law_pot cd_law_pot ct_law_pot : Value} {od_law_pot an_law_pot : Option Addr} {sl_law_pot : Array (Option Value)} {f_law_ladle : Addr} {oc_law_ladle kV_law_ladle dc_law_ladle pm_law_ladle cd_law_ladle ct_law_ladle : Value} {od_law_ladle an_law_ladle : Option Addr} {sl_law_ladle : Array (Option Value)} {f_law_one_of : Addr} {oc_law_one_of kV_law_one_of dc_law_one_of pm_law_one_of cd_law_one_of ct_law_one_of : Value} {od_law_one_of an_law_one_of : Option Addr} {sl_law_one_of : Array (Option Value)} {f_law_ended : Addr} {oc_law_ended kV_law_ended dc_law_ended pm_law_ended cd_law_ended ct_law_ended : Value} {od_law_ended an_law_ended : Option Addr} {sl_law_ended : Array (Option Value)} {f_law_bad : Addr} {oc_law_bad kV_law_bad dc_law_bad pm_law_bad cd_law_bad ct_law_bad : Value} {od_law_bad an_law_bad : Option Addr} {sl_law_bad : Array (Option Value)} {f_law_right : Addr} {oc_law_right kV_law_right dc_law_right pm_law_right cd_law_right ct_law_right : Value} {od_law_right an_law_right : Option Addr} {sl_law_right : Array (Option Value)} {f_law : Addr} {oc_law kV_law dc_law pm_law cd_law ct_law : Value} {od_law an_law : Option Addr} {sl_law : Array (Option Value)} {C : Addr} {f_is : Addr} {oc_is kV_is dc_is pm_is cd_is ct_is : Value} {od_is an_is : Option Addr} {sl_is : Array (Option Value)} {U_InputError M_InputError : Addr} {q_InputError : Str} {bs_InputError sub_InputError : List Value} {sn_InputError : List Str} {ab_InputError : Bool} {col_InputError : Option Bool} {dd_InputError : Option Addr} {m0_InputError m1_InputError m2_InputError m3_InputError m5_InputError : Option Value} {E_InvalidLength M_InvalidLength : Addr} {q_InvalidLength : Str} {bs_InvalidLength sub_InvalidLength : List Value} {sn_InvalidLength : List Str} {ab_InvalidLength : Bool} {col_InvalidLength : Option Bool} {dd_InvalidLength : Option Addr} {m0_InvalidLength m1_InvalidLength m2_InvalidLength m3_InvalidLength m5_InvalidLength : Option Value} {f_xInvalidLength : Addr} {oc_xInvalidLength kV_xInvalidLength dc_xInvalidLength pm_xInvalidLength cd_xInvalidLength ct_xInvalidLength : Value} {od_xInvalidLength an_xInvalidLength : Option Addr} {sl_xInvalidLength : Array (Option Value)} {E_InvalidViews M_InvalidViews : Addr} {q_InvalidViews : Str} {bs_InvalidViews sub_InvalidViews : List Value} {sn_InvalidViews : List Str} {ab_InvalidViews : Bool} {col_InvalidViews : Option Bool} {dd_InvalidViews : Option Addr} {m0_InvalidViews m1_InvalidViews m2_InvalidViews m3_InvalidViews m5_InvalidViews : Option Value} {f_xInvalidViews : Addr} {oc_xInvalidViews kV_xInvalidViews dc_xInvalidViews pm_xInvalidViews cd_xInvalidViews ct_xInvalidViews : Value} {od_xInvalidViews an_xInvalidViews : Option Addr} {sl_xInvalidViews : Array (Option Value)} {cc_law_right PP_law_right : Addr} {rd_law_right : DefRec} {u_MOST_SIGNS : Tok} {u_MOST_MARK : Tok} {u_MOST_ROW : Tok} {u_MOST_VIEWS : Tok} {u_MOST_TEXT : Tok} {u_MOST_LENGTH : Tok} {u_SIGNS : Tok} {u_SEVERAL : Tok}
    (X : K.In h) (G : h.Ns mainGlobals mg) (TO : TabsOf q K h) (hfa : mg "law" = some (.ref fa))
    (a_is_integer : PySem.W.nsIn K mainGlobals "is_integer" = some (some (.ref f_is_integer)))
    (l_is_integer : K.lookup f_is_integer = some ⟨oc_is_integer, od_is_integer, .func (PySem.W.fnOf "is_integer" "is_integer" (defArgs s_is_integer) (defBody s_is_integer) (defScope s_is_integer) .none kV_is_integer dc_is_integer pm_is_integer an_is_integer cd_is_integer ct_is_integer), sl_is_integer⟩)
    (c_is_integer : PySem.W.codeIn K cd_is_integer "is_integer" = true)
    (k_is_integer : PySem.W.keepIn K (.ref f_is_integer) = true)
    (a_is_tuple : PySem.W.nsIn K mainGlobals "is_tuple" = some (some (.ref f_is_tuple)))
    (l_is_tuple : K.lookup f_is_tuple = some ⟨oc_is_tuple, od_is_tuple, .func (PySem.W.fnOf "is_tuple" "is_tuple" (defArgs s_is_tuple) (defBody s_is_tuple) (defScope s_is_tuple) .none kV_is_tuple dc_is_tuple pm_is_tuple an_is_tuple cd_is_tuple ct_is_tuple), sl_is_tuple⟩)
    (c_is_tuple : PySem.W.codeIn K cd_is_tuple "is_tuple" = true)
    (k_is_tuple : PySem.W.keepIn K (.ref f_is_tuple) = true)
    (a_is_text : PySem.W.nsIn K mainGlobals "is_text" = some (some (.ref f_is_text)))
    (l_is_text : K.lookup f_is_text = some ⟨oc_is_text, od_is_text, .func (PySem.W.fnOf "is_text" "is_text" (defArgs s_is_text) (defBody s_is_text) (defScope s_is_text) .none kV_is_text dc_is_text pm_is_text an_is_text cd_is_text ct_is_text), sl_is_text⟩)
    (c_is_text : PySem.W.codeIn K cd_is_text "is_text" = true)
    (k_is_text : PySem.W.keepIn K (.ref f_is_text) = true)
    (a_check_mark : PySem.W.nsIn K mainGlobals "check_mark" = some (some (.ref f_check_mark)))
    (l_check_mark : K.lookup f_check_mark = some ⟨oc_check_mark, od_check_mark, .func (PySem.W.fnOf "check_mark" "check_mark" (defArgs s_check_mark) (defBody s_check_mark) (defScope s_check_mark) .none kV_check_mark dc_check_mark pm_check_mark an_check_mark cd_check_mark ct_check_mark), sl_check_mark⟩)
    (c_check_mark : PySem.W.codeIn K cd_check_mark "check_mark" = true)
    (k_check_mark : PySem.W.keepIn K (.ref f_check_mark) = true)
    (a_check_length : PySem.W.nsIn K mainGlobals "check_length" = some (some (.ref f_check_length)))
    (l_check_length : K.lookup f_check_length = some ⟨oc_check_length, od_check_length, .func (PySem.W.fnOf "check_length" "check_length" (defArgs s_check_length) (defBody s_check_length) (defScope s_check_length) .none kV_check_length dc_check_length pm_check_length an_check_length cd_check_length ct_check_length), sl_check_length⟩)
    (c_check_length : PySem.W.codeIn K cd_check_length "check_length" = true)
    (k_check_length : PySem.W.keepIn K (.ref f_check_length) = true)
    (a_shortened : PySem.W.nsIn K mainGlobals "shortened" = some (some (.ref f_shortened)))
    (l_shortened : K.lookup f_shortened = some ⟨oc_shortened, od_shortened, .func (PySem.W.fnOf "shortened" "shortened" (defArgs s_shortened) (defBody s_shortened) (defScope s_shortened) .none kV_shortened dc_shortened pm_shortened an_shortened cd_shortened ct_shortened), sl_shortened⟩)
    (c_shortened : PySem.W.codeIn K cd_shortened "shortened" = true)
    (k_shortened : PySem.W.keepIn K (.ref f_shortened) = true)
    (a_planned : PySem.W.nsIn K mainGlobals "planned" = some (some (.ref f_planned)))
    (l_planned : K.lookup f_planned = some ⟨oc_planned, od_planned, .func (PySem.W.fnOf "planned" "planned" (defArgs s_planned) (defBody s_planned) (defScope s_planned) .none kV_planned dc_planned pm_planned an_planned cd_planned ct_planned), sl_planned⟩)
    (c_planned : PySem.W.codeIn K cd_planned "planned" = true)
    (k_planned : PySem.W.keepIn K (.ref f_planned) = true)
    (a_telling_lengths : PySem.W.nsIn K mainGlobals "telling_lengths" = some (some (.ref f_telling_lengths)))
    (l_telling_lengths : K.lookup f_telling_lengths = some ⟨oc_telling_lengths, od_telling_lengths, .func (PySem.W.fnOf "telling_lengths" "telling_lengths" (defArgs s_telling_lengths) (defBody s_telling_lengths) (defScope s_telling_lengths) .none kV_telling_lengths dc_telling_lengths pm_telling_lengths an_telling_lengths cd_telling_lengths ct_telling_lengths), sl_telling_lengths⟩)
    (c_telling_lengths : PySem.W.codeIn K cd_telling_lengths "telling_lengths" = true)
    (k_telling_lengths : PySem.W.keepIn K (.ref f_telling_lengths) = true)
    (a_is_row : PySem.W.nsIn K mainGlobals "is_row" = some (some (.ref f_is_row)))
    (l_is_row : K.lookup f_is_row = some ⟨oc_is_row, od_is_row, .func (PySem.W.fnOf "is_row" "is_row" (defArgs s_is_row) (defBody s_is_row) (defScope s_is_row) .none kV_is_row dc_is_row pm_is_row an_is_row cd_is_row ct_is_row), sl_is_row⟩)
    (c_is_row : PySem.W.codeIn K cd_is_row "is_row" = true)
    (k_is_row : PySem.W.keepIn K (.ref f_is_row) = true)
    (a_is_view : PySem.W.nsIn K mainGlobals "is_view" = some (some (.ref f_is_view)))
    (l_is_view : K.lookup f_is_view = some ⟨oc_is_view, od_is_view, .func (PySem.W.fnOf "is_view" "is_view" (defArgs s_is_view) (defBody s_is_view) (defScope s_is_view) .none kV_is_view dc_is_view pm_is_view an_is_view cd_is_view ct_is_view), sl_is_view⟩)
    (c_is_view : PySem.W.codeIn K cd_is_view "is_view" = true)
    (k_is_view : PySem.W.keepIn K (.ref f_is_view) = true)
    (a_check_views : PySem.W.nsIn K mainGlobals "check_views" = some (some (.ref f_check_views)))
    (l_check_views : K.lookup f_check_views = some ⟨oc_check_views, od_check_views, .func (PySem.W.fnOf "check_views" "check_views" (defArgs s_check_views) (defBody s_check_views) (defScope s_check_views) .none kV_check_views dc_check_views pm_check_views an_check_views cd_check_views ct_check_views), sl_check_views⟩)
    (c_check_views : PySem.W.codeIn K cd_check_views "check_views" = true)
    (k_check_views : PySem.W.keepIn K (.ref f_check_views) = true)
    (a_known_signs : PySem.W.nsIn K mainGlobals "known_signs" = some (some (.ref f_known_signs)))
    (l_known_signs : K.lookup f_known_signs = some ⟨oc_known_signs, od_known_signs, .func (PySem.W.fnOf "known_signs" "known_signs" (defArgs s_known_signs) (defBody s_known_signs) (defScope s_known_signs) .none kV_known_signs dc_known_signs pm_known_signs an_known_signs cd_known_signs ct_known_signs), sl_known_signs⟩)
    (c_known_signs : PySem.W.codeIn K cd_known_signs "known_signs" = true)
    (k_known_signs : PySem.W.keepIn K (.ref f_known_signs) = true)
    (a_written_out : PySem.W.nsIn K mainGlobals "written_out" = some (some (.ref f_written_out)))
    (l_written_out : K.lookup f_written_out = some ⟨oc_written_out, od_written_out, .func (PySem.W.fnOf "written_out" "written_out" (defArgs s_written_out) (defBody s_written_out) (defScope s_written_out) .none kV_written_out dc_written_out pm_written_out an_written_out cd_written_out ct_written_out), sl_written_out⟩)
    (c_written_out : PySem.W.codeIn K cd_written_out "written_out" = true)
    (k_written_out : PySem.W.keepIn K (.ref f_written_out) = true)
    (a_signs : PySem.W.nsIn K mainGlobals "signs" = some (some (.ref f_signs)))
    (l_signs : K.lookup f_signs = some ⟨oc_signs, od_signs, .func (PySem.W.fnOf "signs" "signs" (defArgs s_signs) (defBody s_signs) (defScope s_signs) .none kV_signs dc_signs pm_signs an_signs cd_signs ct_signs), sl_signs⟩)
    (c_signs : PySem.W.codeIn K cd_signs "signs" = true)
    (k_signs : PySem.W.keepIn K (.ref f_signs) = true)
    (a_number_of : PySem.W.nsIn K mainGlobals "number_of" = some (some (.ref f_number_of)))
    (l_number_of : K.lookup f_number_of = some ⟨oc_number_of, od_number_of, .func (PySem.W.fnOf "number_of" "number_of" (defArgs s_number_of) (defBody s_number_of) (defScope s_number_of) .none kV_number_of dc_number_of pm_number_of an_number_of cd_number_of ct_number_of), sl_number_of⟩)
    (c_number_of : PySem.W.codeIn K cd_number_of "number_of" = true)
    (k_number_of : PySem.W.keepIn K (.ref f_number_of) = true)
    (a_lengths : PySem.W.nsIn K mainGlobals "lengths" = some (some (.ref f_lengths)))
    (l_lengths : K.lookup f_lengths = some ⟨oc_lengths, od_lengths, .func (PySem.W.fnOf "lengths" "lengths" (defArgs s_lengths) (defBody s_lengths) (defScope s_lengths) .none kV_lengths dc_lengths pm_lengths an_lengths cd_lengths ct_lengths), sl_lengths⟩)
    (c_lengths : PySem.W.codeIn K cd_lengths "lengths" = true)
    (k_lengths : PySem.W.keepIn K (.ref f_lengths) = true)
    (a_least_text : PySem.W.nsIn K mainGlobals "least_text" = some (some (.ref f_least_text)))
    (l_least_text : K.lookup f_least_text = some ⟨oc_least_text, od_least_text, .func (PySem.W.fnOf "least_text" "least_text" (defArgs s_least_text) (defBody s_least_text) (defScope s_least_text) .none kV_least_text dc_least_text pm_least_text an_least_text cd_least_text ct_least_text), sl_least_text⟩)
    (c_least_text : PySem.W.codeIn K cd_least_text "least_text" = true)
    (k_least_text : PySem.W.keepIn K (.ref f_least_text) = true)
    (a_only_text : PySem.W.nsIn K mainGlobals "only_text" = some (some (.ref f_only_text)))
    (l_only_text : K.lookup f_only_text = some ⟨oc_only_text, od_only_text, .func (PySem.W.fnOf "only_text" "only_text" (defArgs s_only_text) (defBody s_only_text) (defScope s_only_text) .none kV_only_text dc_only_text pm_only_text an_only_text cd_only_text ct_only_text), sl_only_text⟩)
    (c_only_text : PySem.W.codeIn K cd_only_text "only_text" = true)
    (k_only_text : PySem.W.keepIn K (.ref f_only_text) = true)
    (a_law_pot : PySem.W.nsIn K mainGlobals "_law_pot" = some (some (.ref f_law_pot)))
    (l_law_pot : K.lookup f_law_pot = some ⟨oc_law_pot, od_law_pot, .func (PySem.W.fnOf "_law_pot" "_law_pot" (defArgs s_law_pot) (defBody s_law_pot) (defScope s_law_pot) .none kV_law_pot dc_law_pot pm_law_pot an_law_pot cd_law_pot ct_law_pot), sl_law_pot⟩)
    (c_law_pot : PySem.W.codeIn K cd_law_pot "_law_pot" = true)
    (k_law_pot : PySem.W.keepIn K (.ref f_law_pot) = true)
    (a_law_ladle : PySem.W.nsIn K mainGlobals "_law_ladle" = some (some (.ref f_law_ladle)))
    (l_law_ladle : K.lookup f_law_ladle = some ⟨oc_law_ladle, od_law_ladle, .func (PySem.W.fnOf "_law_ladle" "_law_ladle" (defArgs s_law_ladle) (defBody s_law_ladle) (defScope s_law_ladle) .none kV_law_ladle dc_law_ladle pm_law_ladle an_law_ladle cd_law_ladle ct_law_ladle), sl_law_ladle⟩)
    (c_law_ladle : PySem.W.codeIn K cd_law_ladle "_law_ladle" = true)
    (k_law_ladle : PySem.W.keepIn K (.ref f_law_ladle) = true)
    (a_law_one_of : PySem.W.nsIn K mainGlobals "_law_one_of" = some (some (.ref f_law_one_of)))
    (l_law_one_of : K.lookup f_law_one_of = some ⟨oc_law_one_of, od_law_one_of, .func (PySem.W.fnOf "_law_one_of" "_law_one_of" (defArgs s_law_one_of) (defBody s_law_one_of) (defScope s_law_one_of) .none kV_law_one_of dc_law_one_of pm_law_one_of an_law_one_of cd_law_one_of ct_law_one_of), sl_law_one_of⟩)
    (c_law_one_of : PySem.W.codeIn K cd_law_one_of "_law_one_of" = true)
    (k_law_one_of : PySem.W.keepIn K (.ref f_law_one_of) = true)
    (a_law_ended : PySem.W.nsIn K mainGlobals "_law_ended" = some (some (.ref f_law_ended)))
    (l_law_ended : K.lookup f_law_ended = some ⟨oc_law_ended, od_law_ended, .func (PySem.W.fnOf "_law_ended" "_law_ended" (defArgs s_law_ended) (defBody s_law_ended) (defScope s_law_ended) .none kV_law_ended dc_law_ended pm_law_ended an_law_ended cd_law_ended ct_law_ended), sl_law_ended⟩)
    (c_law_ended : PySem.W.codeIn K cd_law_ended "_law_ended" = true)
    (k_law_ended : PySem.W.keepIn K (.ref f_law_ended) = true)
    (a_law_bad : PySem.W.nsIn K mainGlobals "_law_bad" = some (some (.ref f_law_bad)))
    (l_law_bad : K.lookup f_law_bad = some ⟨oc_law_bad, od_law_bad, .func (PySem.W.fnOf "_law_bad" "_law_bad" (defArgs s_law_bad) (defBody s_law_bad) (defScope s_law_bad) .none kV_law_bad dc_law_bad pm_law_bad an_law_bad cd_law_bad ct_law_bad), sl_law_bad⟩)
    (c_law_bad : PySem.W.codeIn K cd_law_bad "_law_bad" = true)
    (k_law_bad : PySem.W.keepIn K (.ref f_law_bad) = true)
    (a_law_right : PySem.W.nsIn K mainGlobals "_law_right" = some (some (.ref f_law_right)))
    (l_law_right : K.lookup f_law_right = some ⟨oc_law_right, od_law_right, .func (PySem.W.fnOf "_law_right" "_law_right" (defArgs s_law_right) (defBody s_law_right) (defScope s_law_right) .none kV_law_right dc_law_right pm_law_right an_law_right cd_law_right ct_law_right), sl_law_right⟩)
    (c_law_right : PySem.W.codeIn K cd_law_right "_law_right" = true)
    (k_law_right : PySem.W.keepIn K (.ref f_law_right) = true)
    (a_law : PySem.W.nsIn K mainGlobals "law" = some (some (.ref f_law)))
    (l_law : K.lookup f_law = some ⟨oc_law, od_law, .func (PySem.W.fnOf "law" "law" (defArgs s_law) (defBody s_law) (defScope s_law) .none kV_law dc_law pm_law an_law cd_law ct_law), sl_law⟩)
    (c_law : PySem.W.codeIn K cd_law "law" = true)
    (k_law : PySem.W.keepIn K (.ref f_law) = true)
    (qn : PySem.W.specialIn K (.builtin "object.__class__") "__get__" = some (some (.builtin "getset_descriptor.__get__")))
    (qt : PySem.W.takesIn K (.builtin "object.__class__") = some true)
    (asC : PySem.W.nsIn K mainGlobals "Shortener" = some (some (.ref C)))
    (a_is : PySem.W.findIn K (.ref C) "__init__" = some (some (.ref f_is)))
    (l_is : K.lookup f_is = some ⟨oc_is, od_is, .func (PySem.W.fnOf "__init__" "Shortener.__init__" (defArgs s_Shortener_init) (defBody s_Shortener_init) (defScope s_Shortener_init) .none kV_is dc_is pm_is an_is cd_is ct_is), sl_is⟩)
    (c_is : PySem.W.codeIn K cd_is "Shortener.__init__" = true)
    (k_is : PySem.W.keepIn K (.ref f_is) = true)
    (i_is : PySem.W.isFn K (.ref f_is) = true)
    (pgs : PySem.W.plainGet K C Str.empty = true)
    (hds : PySem.W.hasDictIn K C = true)
    (pos : PySem.W.plainOver K C = true)
    (sas : PySem.W.findIn K (.ref C) "__setattr__" = some (some (.builtin "object.__setattr__")))
    (mksC : PySem.W.makesIn K C = true)
    (ksC : PySem.W.keepIn K (.ref C) = true)
    (ns_limit : PySem.W.findIn K (.ref C) "limit" = some none)
    (ns_head : PySem.W.findIn K (.ref C) "head" = some none)
    (ns_tail : PySem.W.findIn K (.ref C) "tail" = some none)
    (ns_mark : PySem.W.findIn K (.ref C) "mark" = some none)
    (ns_told : PySem.W.findIn K (.ref C) "told" = some none)
    (qas : PySem.W.findIn K (.ref C) "__class__" = some (some (.builtin "object.__class__")))
    (qms : PySem.W.mroIn K C (.type "object") = some true)
    (xts : PySem.W.typeIn K (.ref C) = some (.type "type"))
    (xns : PySem.W.mroIn K C (.type "tuple") = some false)
    (xss : PySem.W.mroIn K C (.type "str") = some false)
    (ea_InputError : PySem.W.nsIn K mainGlobals "InputError" = some (some (.ref U_InputError)))
    (ex_InputError : K.lookup U_InputError = some (excClassObj "InputError" q_InputError U_InputError M_InputError bs_InputError [.type "ValueError", .type "Exception", .type "BaseException", .type "object"] true sn_InputError sub_InputError ab_InputError col_InputError dd_InputError m0_InputError m1_InputError m2_InputError m3_InputError m5_InputError "ValueError.__new__"))
    (et_InputError : PySem.W.typeIn K (.ref U_InputError) = some (.type "type"))
    (ea_InvalidLength : PySem.W.nsIn K mainGlobals "InvalidLength" = some (some (.ref E_InvalidLength)))
    (ex_InvalidLength : K.lookup E_InvalidLength = some (excClassObj "InvalidLength" q_InvalidLength E_InvalidLength M_InvalidLength bs_InvalidLength (.ref U_InputError :: [.type "ValueError", .type "Exception", .type "BaseException", .type "object"]) true sn_InvalidLength sub_InvalidLength ab_InvalidLength col_InvalidLength dd_InvalidLength m0_InvalidLength m1_InvalidLength m2_InvalidLength m3_InvalidLength m5_InvalidLength "ValueError.__new__"))
    (et_InvalidLength : PySem.W.typeIn K (.ref E_InvalidLength) = some (.type "type"))
    (eset_InvalidLength : PySem.W.findIn K (.ref E_InvalidLength) "__setattr__" = some (some (.builtin "object.__setattr__")))
    (eget_InvalidLength : PySem.W.findIn K (.ref E_InvalidLength) "__getattribute__" = some (some (.builtin "BaseException.__getattribute__")))
    (ecla_InvalidLength : PySem.W.findIn K (.ref E_InvalidLength) "__class__" = some (some (.builtin "object.__class__")))
    (egg_InvalidLength : PySem.W.findIn K (.ref E_InvalidLength) "__getattr__" = some none)
    (ek_InvalidLength : PySem.W.keepIn K (.ref E_InvalidLength) = true)
    (en_InvalidLength : PySem.W.findIn K (.ref E_InvalidLength) "value" = some none)
    (a_xInvalidLength : PySem.W.findIn K (.ref E_InvalidLength) "__init__" = some (some (.ref f_xInvalidLength)))
    (l_xInvalidLength : K.lookup f_xInvalidLength = some ⟨oc_xInvalidLength, od_xInvalidLength, .func (PySem.W.fnOf "__init__" "InvalidLength.__init__" (defArgs s_InvalidLength_init) (defBody s_InvalidLength_init) (defScope s_InvalidLength_init) .none kV_xInvalidLength dc_xInvalidLength pm_xInvalidLength an_xInvalidLength cd_xInvalidLength ct_xInvalidLength), sl_xInvalidLength⟩)
    (c_xInvalidLength : PySem.W.codeIn K cd_xInvalidLength "InvalidLength.__init__" = true)
    (k_xInvalidLength : PySem.W.keepIn K (.ref f_xInvalidLength) = true)
    (ei_InvalidLength : PySem.W.typeIn K (.ref f_xInvalidLength) = some (.type "function"))
    (ea_InvalidViews : PySem.W.nsIn K mainGlobals "InvalidViews" = some (some (.ref E_InvalidViews)))
    (ex_InvalidViews : K.lookup E_InvalidViews = some (excClassObj "InvalidViews" q_InvalidViews E_InvalidViews M_InvalidViews bs_InvalidViews (.ref U_InputError :: [.type "ValueError", .type "Exception", .type "BaseException", .type "object"]) true sn_InvalidViews sub_InvalidViews ab_InvalidViews col_InvalidViews dd_InvalidViews m0_InvalidViews m1_InvalidViews m2_InvalidViews m3_InvalidViews m5_InvalidViews "ValueError.__new__"))
    (et_InvalidViews : PySem.W.typeIn K (.ref E_InvalidViews) = some (.type "type"))
    (eset_InvalidViews : PySem.W.findIn K (.ref E_InvalidViews) "__setattr__" = some (some (.builtin "object.__setattr__")))
    (eget_InvalidViews : PySem.W.findIn K (.ref E_InvalidViews) "__getattribute__" = some (some (.builtin "BaseException.__getattribute__")))
    (ecla_InvalidViews : PySem.W.findIn K (.ref E_InvalidViews) "__class__" = some (some (.builtin "object.__class__")))
    (egg_InvalidViews : PySem.W.findIn K (.ref E_InvalidViews) "__getattr__" = some none)
    (ek_InvalidViews : PySem.W.keepIn K (.ref E_InvalidViews) = true)
    (en_InvalidViews : PySem.W.findIn K (.ref E_InvalidViews) "index" = some none)
    (a_xInvalidViews : PySem.W.findIn K (.ref E_InvalidViews) "__init__" = some (some (.ref f_xInvalidViews)))
    (l_xInvalidViews : K.lookup f_xInvalidViews = some ⟨oc_xInvalidViews, od_xInvalidViews, .func (PySem.W.fnOf "__init__" "InvalidViews.__init__" (defArgs s_InvalidViews_init) (defBody s_InvalidViews_init) (defScope s_InvalidViews_init) .none kV_xInvalidViews dc_xInvalidViews pm_xInvalidViews an_xInvalidViews cd_xInvalidViews ct_xInvalidViews), sl_xInvalidViews⟩)
    (c_xInvalidViews : PySem.W.codeIn K cd_xInvalidViews "InvalidViews.__init__" = true)
    (k_xInvalidViews : PySem.W.keepIn K (.ref f_xInvalidViews) = true)
    (ei_InvalidViews : PySem.W.typeIn K (.ref f_xInvalidViews) = some (.type "function"))
    (tab_law_right : PySem.W.tabIn K "_law_right" = some (cc_law_right, PP_law_right))
    (cde_law_right : cd_law_right = .ref cc_law_right)
    (notab_law_right : K.lookup PP_law_right = none)
    (rec_law_right : (recsOf q).find? (fun e => e.name == ("_law_right" : Str)) = some rd_law_right)
    (z_ValueError : PySem.W.nsIn K mainGlobals "ValueError" = some none)
    (z_abs : PySem.W.nsIn K mainGlobals "abs" = some none)
    (z_all : PySem.W.nsIn K mainGlobals "all" = some none)
    (z_bool : PySem.W.nsIn K mainGlobals "bool" = some none)
    (z_divmod : PySem.W.nsIn K mainGlobals "divmod" = some none)
    (z_enumerate : PySem.W.nsIn K mainGlobals "enumerate" = some none)
    (z_int : PySem.W.nsIn K mainGlobals "int" = some none)
    (z_isinstance : PySem.W.nsIn K mainGlobals "isinstance" = some none)
    (z_len : PySem.W.nsIn K mainGlobals "len" = some none)
    (z_list : PySem.W.nsIn K mainGlobals "list" = some none)
    (z_max : PySem.W.nsIn K mainGlobals "max" = some none)
    (z_min : PySem.W.nsIn K mainGlobals "min" = some none)
    (z_range : PySem.W.nsIn K mainGlobals "range" = some none)
    (z_repr : PySem.W.nsIn K mainGlobals "repr" = some none)
    (z_str : PySem.W.nsIn K mainGlobals "str" = some none)
    (z_tuple : PySem.W.nsIn K mainGlobals "tuple" = some none)
    (z_zip : PySem.W.nsIn K mainGlobals "zip" = some none)
    (z_MOST_SIGNS : PySem.W.nsIn K mainGlobals "MOST_SIGNS" = some (some (.int 40 u_MOST_SIGNS)))
    (z_MOST_MARK : PySem.W.nsIn K mainGlobals "MOST_MARK" = some (some (.int 3 u_MOST_MARK)))
    (z_MOST_ROW : PySem.W.nsIn K mainGlobals "MOST_ROW" = some (some (.int 4 u_MOST_ROW)))
    (z_MOST_VIEWS : PySem.W.nsIn K mainGlobals "MOST_VIEWS" = some (some (.int 4 u_MOST_VIEWS)))
    (z_MOST_TEXT : PySem.W.nsIn K mainGlobals "MOST_TEXT" = some (some (.int 200 u_MOST_TEXT)))
    (z_MOST_LENGTH : PySem.W.nsIn K mainGlobals "MOST_LENGTH" = some (some (.int 500 u_MOST_LENGTH)))
    (z_SIGNS : PySem.W.nsIn K mainGlobals "SIGNS" = some (some (.str ".0123456789abcdefghijklmnopqrstuvwxyz~" u_SIGNS)))
    (z_SEVERAL : PySem.W.nsIn K mainGlobals "SEVERAL" = some (some (.str "?" u_SEVERAL))) :
    ∃ (fd : FuncData) (cs : List (Addr × Addr)) (sp : Sp), (∀ p ∈ cs, PySem.W.CodeHd h p.1 p.2 ∧ h.get? p.2 = some tabNil ∧ K.lookup p.2 = none) ∧ (∀ (s : Shared) (u : Value), BindsTo s fd ⟨[u], []⟩ [("_law_script", u)]) ∧ (∀ (H : Hp) (a : Addr) (ns : List Int), ns.length ≤ 63 → (∀ p ∈ cs, H p.2 = some (.tbl #[])) → Sys H → SqL K H a (ns.map V.int) → sp [.ref a] H (fun v _ => v = .bl true) fun _ _ _ => False) ∧ ∀ base : Heap, K.In base → base.Ns mainGlobals mg → (∀ p ∈ cs, LamX.TabB base mg p.1 p.2) → FnG l.prog w K mg base 11 fa fd ["_law_script"] sp := by
  have e := hfa.symm.trans (PySem.W.mg_of X G a_law)
  cases e
  have B : Bi mg := ⟨PySem.W.mg_none_of X G z_ValueError, PySem.W.mg_none_of X G z_abs, PySem.W.mg_none_of X G z_all, PySem.W.mg_none_of X G z_bool, PySem.W.mg_none_of X G z_divmod, PySem.W.mg_none_of X G z_enumerate, PySem.W.mg_none_of X G z_int, PySem.W.mg_none_of X G z_isinstance, PySem.W.mg_none_of X G z_len, PySem.W.mg_none_of X G z_list, PySem.W.mg_none_of X G z_max, PySem.W.mg_none_of X G z_min, PySem.W.mg_none_of X G z_range, PySem.W.mg_none_of X G z_repr, PySem.W.mg_none_of X G z_str, PySem.W.mg_none_of X G z_tuple, PySem.W.mg_none_of X G z_zip, cst_mk X G ⟨_, rfl⟩ z_MOST_SIGNS, cst_mk X G ⟨_, rfl⟩ z_MOST_MARK, cst_mk X G ⟨_, rfl⟩ z_MOST_ROW, cst_mk X G ⟨_, rfl⟩ z_MOST_VIEWS, cst_mk X G ⟨_, rfl⟩ z_MOST_TEXT, cst_mk X G ⟨_, rfl⟩ z_MOST_LENGTH, cst_mk X G ⟨_, rfl⟩ z_SIGNS, cst_mk X G ⟨_, rfl⟩ z_SEVERAL⟩
  have Ss : ShC K mg C := ⟨⟨pgs, hds, pos, sas⟩, ns_limit, ns_head, ns_tail, ns_mark, ns_told, PySem.W.mg_of X G asC, qas, qn, qt, qms, if_pos (beq_self_eq_true _)⟩
  have Xs : ShX K C := ⟨xts, xns, xss, cls_of_mro qms⟩
  have Is : InitAt K C := ⟨f_is, _, ⟨mksC, a_is, i_is, ksC⟩, fun_mk l_is c_is k_is, (fun_mk l_is c_is k_is).binds fun _ _ _ _ _ _ us hl => match us, hl with | [_, _, _, _, _], _ => rfl⟩
  have UK_InputError : UpK K mg bVE "InputError" U_InputError := ⟨PySem.W.mg_of X G ea_InputError, ⟨_, _, _, _, _, _, _, _, _, _, _, _, _, ex_InputError⟩, et_InputError⟩
  have EK_InvalidLength : ErrK K mg bVE U_InputError "InvalidLength" E_InvalidLength := ⟨bVE_ok, PySem.W.mg_of X G ea_InvalidLength, ⟨_, _, _, _, _, _, _, _, _, _, _, _, _, ex_InvalidLength⟩, eset_InvalidLength, eget_InvalidLength, egg_InvalidLength, ek_InvalidLength, et_InvalidLength, ecla_InvalidLength, qn, qt⟩
  have EF_InvalidLength : ErrF K "InvalidLength" "value" E_InvalidLength := ⟨.inl rfl, en_InvalidLength, f_xInvalidLength, s_InvalidLength_init, ⟨_, _, _, _, _, _⟩, _, a_xInvalidLength, ei_InvalidLength, by rw [show (("InvalidLength" : Str) ++ ".__init__" : Str) = "InvalidLength.__init__" by decide +kernel]; exact fun_mk l_xInvalidLength c_xInvalidLength k_xInvalidLength, rfl, rfl, rfl⟩
  have EK_InvalidViews : ErrK K mg bVE U_InputError "InvalidViews" E_InvalidViews := ⟨bVE_ok, PySem.W.mg_of X G ea_InvalidViews, ⟨_, _, _, _, _, _, _, _, _, _, _, _, _, ex_InvalidViews⟩, eset_InvalidViews, eget_InvalidViews, egg_InvalidViews, ek_InvalidViews, et_InvalidViews, ecla_InvalidViews, qn, qt⟩
  have EF_InvalidViews : ErrF K "InvalidViews" "index" E_InvalidViews := ⟨.inr (.inl rfl), en_InvalidViews, f_xInvalidViews, s_InvalidViews_init, ⟨_, _, _, _, _, _⟩, _, a_xInvalidViews, ei_InvalidViews, by rw [show (("InvalidViews" : Str) ++ ".__init__" : Str) = "InvalidViews.__init__" by decide +kernel]; exact fun_mk l_xInvalidViews c_xInvalidViews k_xInvalidViews, rfl, rfl, rfl⟩
  have AC_law_right : AtC K mg "_law_right" s_law_right ps_law_right cc_law_right := ⟨f_law_right, _, fun_mk l_law_right c_law_right k_law_right, (fun_mk l_law_right c_law_right k_law_right).binds (fun _ _ _ _ _ _ us hl => match us, hl with | [_], _ => rfl), PySem.W.mg_of X G a_law_right, cde_law_right⟩
  have TO_law_right := TO "_law_right" rd_law_right cc_law_right PP_law_right rec_law_right tab_law_right
  have A_is_integer : At K mg "is_integer" s_is_integer ps_is_integer := at_mk X G (fun _ _ _ _ _ _ us hl => match us, hl with | [_, _, _], _ => rfl) a_is_integer l_is_integer c_is_integer k_is_integer
  have A_is_tuple : At K mg "is_tuple" s_is_tuple ps_is_tuple := at_mk X G (fun _ _ _ _ _ _ us hl => match us, hl with | [_, _, _], _ => rfl) a_is_tuple l_is_tuple c_is_tuple k_is_tuple
  have A_is_text : At K mg "is_text" s_is_text ps_is_text := at_mk X G (fun _ _ _ _ _ _ us hl => match us, hl with | [_, _], _ => rfl) a_is_text l_is_text c_is_text k_is_text
  have A_check_mark : At K mg "check_mark" s_check_mark ps_check_mark := at_mk X G (fun _ _ _ _ _ _ us hl => match us, hl with | [_], _ => rfl) a_check_mark l_check_mark c_check_mark k_check_mark
  have A_check_length : At K mg "check_length" s_check_length ps_check_length := at_mk X G (fun _ _ _ _ _ _ us hl => match us, hl with | [_], _ => rfl) a_check_length l_check_length c_check_length k_check_length
  have A_shortened : At K mg "shortened" s_shortened ps_shortened := at_mk X G (fun _ _ _ _ _ _ us hl => match us, hl with | [_, _, _], _ => rfl) a_shortened l_shortened c_shortened k_shortened
  have A_planned : At K mg "planned" s_planned ps_planned := at_mk X G (fun _ _ _ _ _ _ us hl => match us, hl with | [_, _], _ => rfl) a_planned l_planned c_planned k_planned
  have A_telling_lengths : At K mg "telling_lengths" s_telling_lengths ps_telling_lengths := at_mk X G (fun _ _ _ _ _ _ us hl => match us, hl with | [], _ => rfl) a_telling_lengths l_telling_lengths c_telling_lengths k_telling_lengths
  have A_is_row : At K mg "is_row" s_is_row ps_is_row := at_mk X G (fun _ _ _ _ _ _ us hl => match us, hl with | [_], _ => rfl) a_is_row l_is_row c_is_row k_is_row
  have A_is_view : At K mg "is_view" s_is_view ps_is_view := at_mk X G (fun _ _ _ _ _ _ us hl => match us, hl with | [_], _ => rfl) a_is_view l_is_view c_is_view k_is_view
  have A_check_views : At K mg "check_views" s_check_views ps_check_views := at_mk X G (fun _ _ _ _ _ _ us hl => match us, hl with | [_], _ => rfl) a_check_views l_check_views c_check_views k_check_views
  have A_known_signs : At K mg "known_signs" s_known_signs ps_known_signs := at_mk X G (fun _ _ _ _ _ _ us hl => match us, hl with | [_, _], _ => rfl) a_known_signs l_known_signs c_known_signs k_known_signs
  have A_written_out : At K mg "written_out" s_written_out ps_written_out := at_mk X G (fun _ _ _ _ _ _ us hl => match us, hl with | [_, _, _], _ => rfl) a_written_out l_written_out c_written_out k_written_out
  have A_signs : At K mg "signs" s_signs ps_signs := at_mk X G (fun _ _ _ _ _ _ us hl => match us, hl with | [_, _], _ => rfl) a_signs l_signs c_signs k_signs
  have A_number_of : At K mg "number_of" s_number_of ps_number_of := at_mk X G (fun _ _ _ _ _ _ us hl => match us, hl with | [_, _], _ => rfl) a_number_of l_number_of c_number_of k_number_of
  have A_lengths : At K mg "lengths" s_lengths ps_lengths := at_mk X G (fun _ _ _ _ _ _ us hl => match us, hl with | [_], _ => rfl) a_lengths l_lengths c_lengths k_lengths
  have A_least_text : At K mg "least_text" s_least_text ps_least_text := at_mk X G (fun _ _ _ _ _ _ us hl => match us, hl with | [_], _ => rfl) a_least_text l_least_text c_least_text k_least_text
  have A_only_text : At K mg "only_text" s_only_text ps_only_text := at_mk X G (fun _ _ _ _ _ _ us hl => match us, hl with | [_], _ => rfl) a_only_text l_only_text c_only_text k_only_text
  have A_law_pot : At K mg "_law_pot" s_law_pot ps_law_pot := at_mk X G (fun _ _ _ _ _ _ us hl => match us, hl with | [_, _], _ => rfl) a_law_pot l_law_pot c_law_pot k_law_pot
  have A_law_ladle : At K mg "_law_ladle" s_law_ladle ps_law_ladle := at_mk X G (fun _ _ _ _ _ _ us hl => match us, hl with | [_, _], _ => rfl) a_law_ladle l_law_ladle c_law_ladle k_law_ladle
  have A_law_one_of : At K mg "_law_one_of" s_law_one_of ps_law_one_of := at_mk X G (fun _ _ _ _ _ _ us hl => match us, hl with | [_, _], _ => rfl) a_law_one_of l_law_one_of c_law_one_of k_law_one_of
  have A_law_ended : At K mg "_law_ended" s_law_ended ps_law_ended := at_mk X G (fun _ _ _ _ _ _ us hl => match us, hl with | [_], _ => rfl) a_law_ended l_law_ended c_law_ended k_law_ended
  have A_law_bad : At K mg "_law_bad" s_law_bad ps_law_bad := at_mk X G (fun _ _ _ _ _ _ us hl => match us, hl with | [_, _], _ => rfl) a_law_bad l_law_bad c_law_bad k_law_bad
  refine ⟨PySem.W.fnOf "law" "law" (defArgs s_law) (defBody s_law) (defScope s_law) .none kV_law dc_law pm_law an_law cd_law ct_law, [(cc_law_right, PP_law_right)], spLawT [(PP_law_right, lamQ_law_right)] K, fun p hp => by
      simp only [List.mem_cons, List.not_mem_nil, or_false] at hp
      subst hp
      exact ⟨TO_law_right.1, TO_law_right.2, notab_law_right⟩
, fun s v => .of_eq rfl, fun H a ns hl hT hY hS => ⟨a, ns, rfl, hS, hl, fun p hp => ?_, hY, fun _ => rfl⟩, fun base _ _ tb => ?_⟩
  · simp only [List.mem_cons, List.not_mem_nil, or_false] at hp
    subst hp
    exact LamX.TabS.nil (hT (cc_law_right, PP_law_right) (by simp))
  · exact fin B UK_InputError EK_InvalidLength EF_InvalidLength EK_InvalidViews EF_InvalidViews AC_law_right (tb (cc_law_right, PP_law_right) (by simp)) Ss Is Xs A_is_integer A_is_tuple A_is_text A_check_mark A_check_length A_shortened A_planned A_telling_lengths A_is_row A_is_view A_check_views A_known_signs A_written_out A_signs A_number_of A_lengths A_least_text A_only_text A_law_pot A_law_ladle A_law_one_of A_law_ended A_law_bad (fun_mk l_law c_law k_law)
end Gu
open PySem PySem.W PyProof.Rows
set_option maxHeartbeats 0 in
theorem PySem.Challenge.cw_shownshort_k14_views_refused_holds : PySem.Challenge.rw_shownshort_k14_views_refused.Holds := by
  w_on; o_law; k_head; (case hw => w_witness2)
  k_fill
  refine Gu.walkGT (l := PySem.Challenge.rw_shownshort_k14_views_refused) (n := 63) (k := 11) (x := "_law_script") rfl (by decide) rfl ⟨rfl, by decide, by decide⟩ ?alone ?noSys (fun w h Y => PySem.W.km_in_of Y) ?F
  case alone => first | rfl | decide +kernel
  case noSys => first | (intro w; rfl) | (intro w; k_is)
  case F =>
    intro w mg fa h KX G TO hmg
    refine' Gu.all_mk KX G TO hmg ?a_is_integer ?l_is_integer ?c_is_integer ?k_is_integer ?a_is_tuple ?l_is_tuple ?c_is_tuple ?k_is_tuple ?a_is_text ?l_is_text ?c_is_text ?k_is_text ?a_check_mark ?l_check_mark ?c_check_mark ?k_check_mark ?a_check_length ?l_check_length ?c_check_length ?k_check_length ?a_shortened ?l_shortened ?c_shortened ?k_shortened ?a_planned ?l_planned ?c_planned ?k_planned ?a_telling_lengths ?l_telling_lengths ?c_telling_lengths ?k_telling_lengths ?a_is_row ?l_is_row ?c_is_row ?k_is_row ?a_is_view ?l_is_view ?c_is_view ?k_is_view ?a_check_views ?l_check_views ?c_check_views ?k_check_views ?a_known_signs ?l_known_signs ?c_known_signs ?k_known_signs ?a_written_out ?l_written_out ?c_written_out ?k_written_out ?a_signs ?l_signs ?c_signs ?k_signs ?a_number_of ?l_number_of ?c_number_of ?k_number_of ?a_lengths ?l_lengths ?c_lengths ?k_lengths ?a_least_text ?l_least_text ?c_least_text ?k_least_text ?a_only_text ?l_only_text ?c_only_text ?k_only_text ?a_law_pot ?l_law_pot ?c_law_pot ?k_law_pot ?a_law_ladle ?l_law_ladle ?c_law_ladle ?k_law_ladle ?a_law_one_of ?l_law_one_of ?c_law_one_of ?k_law_one_of ?a_law_ended ?l_law_ended ?c_law_ended ?k_law_ended ?a_law_bad ?l_law_bad ?c_law_bad ?k_law_bad ?a_law_right ?l_law_right ?c_law_right ?k_law_right ?a_law ?l_law ?c_law ?k_law ?qn ?qt ?asC ?a_is ?l_is ?c_is ?k_is ?i_is ?pgs ?hds ?pos ?sas ?mksC ?ksC ?ns_limit ?ns_head ?ns_tail ?ns_mark ?ns_told ?qas ?qms ?xts ?xns ?xss ?ea_InputError ?ex_InputError ?et_InputError ?ea_InvalidLength ?ex_InvalidLength ?et_InvalidLength ?eset_InvalidLength ?eget_InvalidLength ?ecla_InvalidLength ?egg_InvalidLength ?ek_InvalidLength ?en_InvalidLength ?a_xInvalidLength ?l_xInvalidLength ?c_xInvalidLength ?k_xInvalidLength ?ei_InvalidLength ?ea_InvalidViews ?ex_InvalidViews ?et_InvalidViews ?eset_InvalidViews ?eget_InvalidViews ?ecla_InvalidViews ?egg_InvalidViews ?ek_InvalidViews ?en_InvalidViews ?a_xInvalidViews ?l_xInvalidViews ?c_xInvalidViews ?k_xInvalidViews ?ei_InvalidViews ?tab_law_right ?cde_law_right ?notab_law_right ?rec_law_right ?z_ValueError ?z_abs ?z_all ?z_bool ?z_divmod ?z_enumerate ?z_int ?z_isinstance ?z_len ?z_list ?z_max ?z_min ?z_range ?z_repr ?z_str ?z_tuple ?z_zip ?z_MOST_SIGNS ?z_MOST_MARK ?z_MOST_ROW ?z_MOST_VIEWS ?z_MOST_TEXT ?z_MOST_LENGTH ?z_SIGNS ?z_SEVERAL
    (case a_is_integer => k_is)
    (case l_is_integer => k_is)
    (case c_is_integer => k_is)
    (case k_is_integer => k_is)
    (case a_is_tuple => k_is)
    (case l_is_tuple => k_is)
    (case c_is_tuple => k_is)
    (case k_is_tuple => k_is)
    (case a_is_text => k_is)
    (case l_is_text => k_is)
    (case c_is_text => k_is)
    (case k_is_text => k_is)
    (case a_check_mark => k_is)
    (case l_check_mark => k_is)
    (case c_check_mark => k_is)
    (case k_check_mark => k_is)
    (case a_check_length => k_is)
    (case l_check_length => k_is)
    (case c_check_length => k_is)
    (case k_check_length => k_is)
    (case a_shortened => k_is)
    (case l_shortened => k_is)
    (case c_shortened => k_is)
    (case k_shortened => k_is)
    (case a_planned => k_is)
    (case l_planned => k_is)
    (case c_planned => k_is)
    (case k_planned => k_is)
    (case a_telling_lengths => k_is)
    (case l_telling_lengths => k_is)
    (case c_telling_lengths => k_is)
    (case k_telling_lengths => k_is)
    (case a_is_row => k_is)
    (case l_is_row => k_is)
    (case c_is_row => k_is)
    (case k_is_row => k_is)
    (case a_is_view => k_is)
    (case l_is_view => k_is)
    (case c_is_view => k_is)
    (case k_is_view => k_is)
    (case a_check_views => k_is)
    (case l_check_views => k_is)
    (case c_check_views => k_is)
    (case k_check_views => k_is)
    (case a_known_signs => k_is)
    (case l_known_signs => k_is)
    (case c_known_signs => k_is)
    (case k_known_signs => k_is)
    (case a_written_out => k_is)
    (case l_written_out => k_is)
    (case c_written_out => k_is)
    (case k_written_out => k_is)
    (case a_signs => k_is)
    (case l_signs => k_is)
    (case c_signs => k_is)
    (case k_signs => k_is)
    (case a_number_of => k_is)
    (case l_number_of => k_is)
    (case c_number_of => k_is)
    (case k_number_of => k_is)
    (case a_lengths => k_is)
    (case l_lengths => k_is)
    (case c_lengths => k_is)
    (case k_lengths => k_is)
    (case a_least_text => k_is)
    (case l_least_text => k_is)
    (case c_least_text => k_is)
    (case k_least_text => k_is)
    (case a_only_text => k_is)
    (case l_only_text => k_is)
    (case c_only_text => k_is)
    (case k_only_text => k_is)
    (case a_law_pot => k_is)
    (case l_law_pot => k_is)
    (case c_law_pot => k_is)
    (case k_law_pot => k_is)
    (case a_law_ladle => k_is)
    (case l_law_ladle => k_is)
    (case c_law_ladle => k_is)
    (case k_law_ladle => k_is)
    (case a_law_one_of => k_is)
    (case l_law_one_of => k_is)
    (case c_law_one_of => k_is)
    (case k_law_one_of => k_is)
    (case a_law_ended => k_is)
    (case l_law_ended => k_is)
    (case c_law_ended => k_is)
    (case k_law_ended => k_is)
    (case a_law_bad => k_is)
    (case l_law_bad => k_is)
    (case c_law_bad => k_is)
    (case k_law_bad => k_is)
    (case a_law_right => k_is)
    (case l_law_right => k_is)
    (case c_law_right => k_is)
    (case k_law_right => k_is)
    (case a_law => k_is)
    (case l_law => k_is)
    (case c_law => k_is)
    (case k_law => k_is)
    (case qn => k_is)
    (case qt => k_is)
    (case asC => k_is)
    (case a_is => k_is)
    (case l_is => k_is)
    (case c_is => k_is)
    (case k_is => k_is)
    (case i_is => k_is)
    (case pgs => k_is)
    (case hds => k_is)
    (case pos => k_is)
    (case sas => k_is)
    (case mksC => k_is)
    (case ksC => k_is)
    (case ns_limit => k_is)
    (case ns_head => k_is)
    (case ns_tail => k_is)
    (case ns_mark => k_is)
    (case ns_told => k_is)
    (case qas => k_is)
    (case qms => k_is)
    (case xts => k_is)
    (case xns => k_is)
    (case xss => k_is)
    (case ea_InputError => k_is)
    (case ex_InputError => k_is)
    (case et_InputError => k_is)
    (case ea_InvalidLength => k_is)
    (case ex_InvalidLength => k_is)
    (case et_InvalidLength => k_is)
    (case eset_InvalidLength => k_is)
    (case eget_InvalidLength => k_is)
    (case ecla_InvalidLength => k_is)
    (case egg_InvalidLength => k_is)
    (case ek_InvalidLength => k_is)
    (case en_InvalidLength => k_is)
    (case a_xInvalidLength => k_is)
    (case l_xInvalidLength => k_is)
    (case c_xInvalidLength => k_is)
    (case k_xInvalidLength => k_is)
    (case ei_InvalidLength => k_is)
    (case ea_InvalidViews => k_is)
    (case ex_InvalidViews => k_is)
    (case et_InvalidViews => k_is)
    (case eset_InvalidViews => k_is)
    (case eget_InvalidViews => k_is)
    (case ecla_InvalidViews => k_is)
    (case egg_InvalidViews => k_is)
    (case ek_InvalidViews => k_is)
    (case en_InvalidViews => k_is)
    (case a_xInvalidViews => k_is)
    (case l_xInvalidViews => k_is)
    (case c_xInvalidViews => k_is)
    (case k_xInvalidViews => k_is)
    (case ei_InvalidViews => k_is)
    (case tab_law_right => first | rfl | decide +kernel | k_is)
    (case cde_law_right => rfl)
    (case notab_law_right => first | rfl | decide +kernel | k_is)
    (case rec_law_right => first | rfl | decide +kernel | k_is)
    (case z_ValueError => k_is)
    (case z_abs => k_is)
    (case z_all => k_is)
    (case z_bool => k_is)
    (case z_divmod => k_is)
    (case z_enumerate => k_is)
    (case z_int => k_is)
    (case z_isinstance => k_is)
    (case z_len => k_is)
    (case z_list => k_is)
    (case z_max => k_is)
    (case z_min => k_is)
    (case z_range => k_is)
    (case z_repr => k_is)
    (case z_str => k_is)
    (case z_tuple => k_is)
    (case z_zip => k_is)
    (case z_MOST_SIGNS => k_is)
    (case z_MOST_MARK => k_is)
    (case z_MOST_ROW => k_is)
    (case z_MOST_VIEWS => k_is)
    (case z_MOST_TEXT => k_is)
    (case z_MOST_LENGTH => k_is)
    (case z_SIGNS => k_is)
    (case z_SEVERAL => k_is)
