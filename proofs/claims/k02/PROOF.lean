import PyProof.Rows.All
import Wide.All
import OpenK.AllK
import Wide.FinOn
import HandS.Base
import HandS.Call
import HandS.List
import HandS.Comp
import HandS.Ends
import HandS.Dict
import HandS.Iter
import HandS.Text
import HandS.Words
import HandS.WordsList
import HandS.WordsDict
import HandS.Conv
import HandS.Walk
import HandS.IsInst
import HandS.MakeKw
import HandS.MakeKwOnly
import HandS.Flow
import HandS.TupAny
import HandS.TupMul
import HandS.FStr
import HandS.Zip
import HandS.Style
import HandS.Codes
import HandS.TupLe
import HandS.SetKeys
import HandS.Strs
import HandS.SetFor
import HandS.Deep
import HandS.SortInts
import HandS.More
import HandS.CallLocal
import HandS.HeadHook3
import HandS.Exc
import HandS.TryOnly
import HandS.TryMany
import HandS.WordsExc
import HandS.ExcField
import HandS.ExcIs
import HandS.ExcInit
import HandS.Lambda
import KE.KExcInit
import KE.KExcIs
import PyProof.ExcBaseAll.LookupError
import PyProof.ExcBaseAll.ArithmeticError
import KE.GoesMore
import KE.GoesZip
import PyProof.TupleOfStr
import PySem.Challenge.RW_shownshort_k02_shorteners_refused
set_option Elab.async false
set_option linter.all false
set_option maxRecDepth 100000
namespace Gu
open PySem PySem.Spec PyProof.Rows L2
/-! the text, by places -/
def topS (i : Nat) : Stmt := PySem.Challenge.pw_shownshort_k02_shorteners_refused.main.body.getD i (.Pass ⟨0, 0, 0, 0⟩)
abbrev s_InvalidNumber_init : Stmt := inClass (topS 2) 0
abbrev ps_InvalidNumber_init : List Str := ["self", "value"]
theorem sc_InvalidNumber_init : FnScope ["self", "value"] ps_InvalidNumber_init (defScope s_InvalidNumber_init) := ⟨rfl, rfl, rfl, by decide +kernel, rfl, by decide +kernel, by decide +kernel⟩
abbrev s_InvalidMark_init : Stmt := inClass (topS 3) 0
abbrev ps_InvalidMark_init : List Str := ["self", "value"]
theorem sc_InvalidMark_init : FnScope ["self", "value"] ps_InvalidMark_init (defScope s_InvalidMark_init) := ⟨rfl, rfl, rfl, by decide +kernel, rfl, by decide +kernel, by decide +kernel⟩
abbrev s_is_integer : Stmt := topS 8
abbrev ps_is_integer : List Str := ["value", "least", "most"]
theorem sc_is_integer : FnScope ["value", "least", "most"] ps_is_integer (defScope s_is_integer) := ⟨rfl, rfl, rfl, by decide +kernel, rfl, by decide +kernel, by decide +kernel⟩
abbrev s_is_text : Stmt := topS 9
abbrev ps_is_text : List Str := ["value", "most"]
theorem sc_is_text : FnScope ["value", "most", "character"] ps_is_text (defScope s_is_text) := ⟨rfl, rfl, rfl, by decide +kernel, rfl, by decide +kernel, by decide +kernel⟩
abbrev s_check_mark : Stmt := topS 10
abbrev ps_check_mark : List Str := ["mark"]
theorem sc_check_mark : FnScope ["mark"] ps_check_mark (defScope s_check_mark) := ⟨rfl, rfl, rfl, by decide +kernel, rfl, by decide +kernel, by decide +kernel⟩
abbrev s_Shortener_init : Stmt := inClass (topS 12) 0
abbrev ps_Shortener_init : List Str := ["self", "limit", "head", "tail", "mark"]
theorem sc_Shortener_init : FnScope ["self", "limit", "head", "tail", "mark", "number"] ps_Shortener_init (defScope s_Shortener_init) := ⟨rfl, rfl, rfl, by decide +kernel, rfl, by decide +kernel, by decide +kernel⟩
abbrev s_Shortener_eq : Stmt := inClass (topS 12) 1
abbrev ps_Shortener_eq : List Str := ["self", "other"]
theorem sc_Shortener_eq : FnScope ["self", "other"] ps_Shortener_eq (defScope s_Shortener_eq) := ⟨rfl, rfl, rfl, by decide +kernel, rfl, by decide +kernel, by decide +kernel⟩
abbrev s_Shortener_repr : Stmt := inClass (topS 12) 2
abbrev ps_Shortener_repr : List Str := ["self"]
theorem sc_Shortener_repr : FnScope ["self"] ps_Shortener_repr (defScope s_Shortener_repr) := ⟨rfl, rfl, rfl, by decide +kernel, rfl, by decide +kernel, by decide +kernel⟩
abbrev s_law_pot : Stmt := topS 14
abbrev ps_law_pot : List Str := ["_law_script", "_law_k"]
theorem sc_law_pot : FnScope ["_law_script", "_law_k", "_law_own", "_law_mixed", "_law_entry"] ps_law_pot (defScope s_law_pot) := ⟨rfl, rfl, rfl, by decide +kernel, rfl, by decide +kernel, by decide +kernel⟩
abbrev s_law_ladle : Stmt := topS 15
abbrev ps_law_ladle : List Str := ["_law_pot_here", "_law_many"]
theorem sc_law_ladle : FnScope ["_law_pot_here", "_law_many", "_law_digit"] ps_law_ladle (defScope s_law_ladle) := ⟨rfl, rfl, rfl, by decide +kernel, rfl, by decide +kernel, by decide +kernel⟩
abbrev s_law_one_of : Stmt := topS 16
abbrev ps_law_one_of : List Str := ["_law_pot_here", "_law_some"]
theorem sc_law_one_of : FnScope ["_law_pot_here", "_law_some"] ps_law_one_of (defScope s_law_one_of) := ⟨rfl, rfl, rfl, by decide +kernel, rfl, by decide +kernel, by decide +kernel⟩
abbrev s_law_ended : Stmt := topS 17
abbrev ps_law_ended : List Str := ["_law_ask"]
theorem sc_law_ended : FnScope ["_law_ask", "_law_given", "e"] ps_law_ended (defScope s_law_ended) := ⟨rfl, rfl, rfl, by decide +kernel, rfl, by decide +kernel, by decide +kernel⟩
abbrev s_law_right : Stmt := topS 18
abbrev ps_law_right : List Str := ["_law_pot_here"]
theorem sc_law_right : FnScope ["_law_pot_here", "_law_bad", "_law_odd", "_law_low", "_law_seen", "_law_due"] ps_law_right (defScope s_law_right) := ⟨rfl, rfl, rfl, by decide +kernel, rfl, by decide +kernel, by decide +kernel⟩
abbrev s_law : Stmt := topS 19
abbrev ps_law : List Str := ["_law_script"]
theorem sc_law : FnScope ["_law_script", "_law_k"] ps_law (defScope s_law) := ⟨rfl, rfl, rfl, by decide +kernel, rfl, by decide +kernel, by decide +kernel⟩
/-- names that the module leaves to Python -/
structure Bi (mg : Str → Option Value) : Prop where
  ValueError : mg "ValueError" = none
  abs : mg "abs" = none
  all : mg "all" = none
  bool : mg "bool" = none
  divmod : mg "divmod" = none
  int : mg "int" = none
  isinstance : mg "isinstance" = none
  len : mg "len" = none
  max : mg "max" = none
  min : mg "min" = none
  range : mg "range" = none
  repr : mg "repr" = none
  str : mg "str" = none
  MOST_SIGNS : ∃ u, mg "MOST_SIGNS" = some u ∧ RelV (.int 40) u
  MOST_MARK : ∃ u, mg "MOST_MARK" = some u ∧ RelV (.int 3) u
  SIGNS : ∃ u, mg "SIGNS" = some u ∧ RelV (.str ".0123456789abcdefghijklmnopqrstuvwxyz~") u
end Gu
namespace Gu
open PySem PySem.Spec PyProof.Rows L2
/-! cuts -/
/-- from a middle state on -/
def tHalt (t u : TS) : TS := fun D σ H => ∃ M : L2.St → Hp → Prop, t { D with nx := M } σ H ∧ ∀ σ1 H1, M σ1 H1 → u D σ1 H1
/-! defs as they stand behind the top -/
structure At (K : PySem.W.Frag) (mg : Str → Option Value) (x : Str) (st : Stmt) (ps : List Str) : Prop where
  ex : ∃ (f : Addr) (fd : FuncData), Fun K x x st f fd ∧ Binds K fd ps [] ∧ mg x = some (.ref f)
structure Cal (P : Program) (w : World) (K : PySem.W.Frag) (mg : Str → Option Value) (base : Heap) (k : Nat) (x : Str) (ps : List Str) (sp : Sp) : Prop where
  ex : ∃ (f : Addr) (fd : FuncData), FnOk P w K mg base CX0 k f fd ps sp ∧ mg x = some (.ref f) ∧ PySem.W.keepIn K (.ref f) = true ∧ Binds K fd ps [] ∧ ∃ oc od sl, K.lookup f = some ⟨oc, od, .func fd, sl⟩
theorem At.cal {P : Program} {w : World} {K : PySem.W.Frag} {mg : Str → Option Value} {base : Heap} {x : Str} {st : Stmt} {N ps : List Str} {k : Nat} {sp : Sp} (D : At K mg x st ps) (S : FnScope N ps (defScope st)) (len : ∀ vs H Q E, sp vs H Q E → vs.length = ps.length)
    (body : ∀ (f : Addr) (cdv : Value) (A : Around) (outer : List Env) (s : Shared) (H : Hp) (vs : List V) (Q : VK) (E : XK), Room k (A.deeper (envOfC x (defScope st) s.heap.objs.size f cdv)) → sp vs H Q E →
      ∃ t, PSs (cxOf CX0 P w K mg base N x (defScope st) f cdv A outer s H E).nox (defBody st) t ∧ t { nx := fun _ H' => Q .non H', rt := Q } (start N vs) H) : Cal P w K mg base (k + 1) x ps sp := by
  obtain ⟨f, fd, F, b, g⟩ := D.ex
  obtain ⟨oc, od, kV, doc, pm, an, cdv, ct, osl, e, lk, hcd⟩ := F.ex
  exact ⟨f, fd, F.ok S len (body f), g, F.kp, b, oc, od, osl, lk⟩
section
variable {X : Cx} {k j : Nat} {x : Str} {ps : List Str} {sp : Sp} {p pos : Pos} {e : Expr} {es : List Expr} {t : TA}
theorem pe_own (c : Cal X.prog X.w X.K X.mg X.base k x ps sp) (hr : Room j X.A) (hk : k ≤ j) (hg : Gl X x) (ha : PA X (e :: es) t)
    (hdb : (x == ("__debug__" : Str)) = false := by decide) (he : starEach (e :: es) X.env = (false, eval e X.env) :: starEach es X.env := by rfl) (hpl : (backTo pos (starEach es X.env)).any (·.1) = false := by rfl) :
    PE X (.Call (.Name x p) (e :: es) [] pos) (tCall sp [] E0 t) := by
  obtain ⟨f, fd, F, hm, kp, b, _⟩ := c.ex
  exact pe_call F (hr.mono hk) hg hm kp b .nil pass0 ha hdb he hpl
theorem pe_cst {v : V} (h : ∃ u, X.mg x = some u ∧ RelV v u) (hg : Gl X x) (hdb : (x == ("__debug__" : Str)) = false := by decide) : PE X (.Name x pos) (tC v) := by
  obtain ⟨u, hm, r⟩ := h
  exact pe_glob hg hm r hdb
end
def tMid (t : TE) : TE := fun σ H Q => ∃ M : VK, t σ H M ∧ ∀ v G, M v G → Q v G
theorem pe_mid {X : Cx} {e : Expr} {t : TE} (d : PE X e t) : PE X e (tMid t) := ⟨fun pins s σ H Q I ⟨M, m, k⟩ => thn (d.run pins s σ H M I m) fun u s1 ⟨v, G, I1, r1, m1⟩ => ⟨v, G, I1, r1, k v G m1⟩⟩
/-! ### heaps -/
theorem same_new {H : Hp} {p : Addr} {o : HO} (h : H p = none) : Same H (upd H p o) := fun b x e => by
  rw [upd_ne (ne_of_none e h)]
  exact e
/-- a pot of three ints stands at p -/
def Pot (H : Hp) (p : Addr) : Prop := ∃ x y z : Int, H p = some (.lst [.int x, .int y, .int z])
/-- from H to G the pot at p may have changed, the rest stands -/
structure Ladled (p : Addr) (H G : Hp) : Prop where
  pot : Pot G p
  keep : ∀ b o, H b = some o → b ≠ p → G b = some o
theorem Pot.some {H : Hp} {p : Addr} (h : Pot H p) : ∃ o, H p = some o := by
  obtain ⟨x, y, z, e⟩ := h
  exact ⟨_, e⟩
theorem Pot.same {H G : Hp} {p : Addr} (s : Same H G) (h : Pot H p) : Pot G p := by
  obtain ⟨x, y, z, e⟩ := h
  exact ⟨x, y, z, s _ _ e⟩
theorem Ladled.refl {H : Hp} {p : Addr} (h : Pot H p) : Ladled p H H := ⟨h, fun _ _ e _ => e⟩
theorem Ladled.trans {H G J : Hp} {p : Addr} (a : Ladled p H G) (b : Ladled p G J) : Ladled p H J := ⟨b.pot, fun c o e n => b.keep c o (a.keep c o e n) n⟩
theorem Ladled.same {H G J : Hp} {p : Addr} (a : Ladled p H G) (b : Same G J) : Ladled p H J := ⟨a.pot.same b, fun c o e n => b _ _ (a.keep c o e n)⟩
theorem Ladled.ofSame {H G : Hp} {p : Addr} (h : Pot H p) (b : Same H G) : Ladled p H G := ⟨h.same b, fun c o e _ => b _ _ e⟩
theorem Ladled.new {H G : Hp} {p q : Addr} {o : HO} (a : Ladled p H G) (h : G q = none) : Ladled p H (upd G q o) := a.same (same_new h)
theorem Ladled.free {H G : Hp} {p l : Addr} (a : Ladled p H G) (h : G l = none) : H l = none := by
  cases q : H l with
  | none => rfl
  | some o =>
    by_cases e : l = p
    · subst e
      obtain ⟨u, hu⟩ := a.pot.some
      rw [hu] at h
      cases h
    · rw [a.keep l o q e] at h
      cases h
/-- what is not known at first may change -/
theorem Ladled.mut {H G : Hp} {p q : Addr} {o : HO} (a : Ladled p H G) (h : H q = none) (n : q ≠ p) : Ladled p H (upd G q o) := by
  refine ⟨?_, fun b u e nb => ?_⟩
  · obtain ⟨x, y, z, e⟩ := a.pot
    exact ⟨x, y, z, by rw [upd_ne (Ne.symm n)]; exact e⟩
  · rw [upd_ne (ne_of_none e h)]
    exact a.keep b u e nb
end Gu
namespace Gu
open PySem PySem.Spec PyProof.Rows L2
/-! ### errors of the program's own, with one field -/
/-- the places of an __init__ that stores what it gets -/
structure Spots where
  a : Pos
  b : Pos
  c : Pos
  d : Pos
  e : Pos
  f : Pos
def eArgs (F : Str) (p : Spots) : Arguments := { posonlyargs := [], args := [⟨"self", none, p.a⟩, ⟨F, none, p.b⟩], vararg := none, kwonlyargs := [], kw_defaults := [], kwarg := none, defaults := [] }
def eBody (F : Str) (p : Spots) : List Stmt := [.Assign [.Attribute (.Name "self" p.c) F p.d] (.Name F p.e) p.f]
def eScope (F : Str) : Scope := { kind := .function, names := [("self", .local), (F, .local)], isGenerator := false, isCoroutine := false, more := [] }
/-- a built-in class of errors that an own class stands over -/
structure BaseE where
  nm : String
  new : String
  ini : String
  tl : List Value
structure BaseE.ok (b : BaseE) : Prop where
  base : ExcBaseFacts b.nm b.new b.ini b.tl
  store : StoreFacts b.nm b.tl "object.__setattr__" "object"
  plain : ∀ D : Addr, b.tl.contains (.ref D) = false
def bVE : BaseE := ⟨"ValueError", "ValueError.__new__", "ValueError.__init__", [.type "ValueError", .type "Exception", .type "BaseException", .type "object"]⟩
theorem bVE_ok : bVE.ok := ⟨F.excBase_ValueError, F.store_ValueError, fun D => rfl⟩
/-- what the top has left of the class named N, at C, over the own class at U and the built-in b -/
structure ErrK (K : PySem.W.Frag) (mg : Str → Option Value) (b : BaseE) (U : Addr) (N : Str) (C : Addr) : Prop where
  bok : b.ok
  g : mg N = some (.ref C)
  cls : ∃ q M bs sn sub ab col dd k0 k1 k2 k3 k5, K.lookup C = some (excClassObj N q C M bs (.ref U :: b.tl) true sn sub ab col dd k0 k1 k2 k3 k5 b.new)
  sa : PySem.W.findIn K (.ref C) "__setattr__" = some (some (.builtin "object.__setattr__"))
  ga : PySem.W.findIn K (.ref C) "__getattribute__" = some (some (.builtin "BaseException.__getattribute__"))
  gg : PySem.W.findIn K (.ref C) "__getattr__" = some none
  kC : PySem.W.keepIn K (.ref C) = true
  ty : PySem.W.typeIn K (.ref C) = some (.type "type")
  ca : PySem.W.findIn K (.ref C) "__class__" = some (some (.builtin "object.__class__"))
  cn : PySem.W.specialIn K (.builtin "object.__class__") "__get__" = some (some (.builtin "getset_descriptor.__get__"))
  ct : PySem.W.takesIn K (.builtin "object.__class__") = some true
structure ErrF (K : PySem.W.Frag) (N F : Str) (C : Addr) : Prop where
  nm : F = "value" ∨ F = "index" ∨ F = "limit"
  no : PySem.W.findIn K (.ref C) F = some none
  init : ∃ (f : Addr) (st : Stmt) (p : Spots) (fd : FuncData), PySem.W.findIn K (.ref C) "__init__" = some (some (.ref f)) ∧ PySem.W.typeIn K (.ref f) = some (.type "function") ∧ L2.Fun K "__init__" (N ++ ".__init__") st f fd ∧ defArgs st = eArgs F p ∧ defBody st = eBody F p ∧ defScope st = eScope F
section
variable {K : PySem.W.Frag} {mg : Str → Option Value} {b : BaseE} {U C : Addr} {N F : Str}
theorem ErrK.cd (T : ErrK K mg b U N C) : ∃ cd : ClassData, PySem.W.clsIn K C = some cd ∧ cd.mro = .ref C :: .ref U :: b.tl ∧ cd.hasDict = true ∧ cd.name = N := by
  obtain ⟨q, M, bs, sn, sub, ab, col, dd, k0, k1, k2, k3, k5, e⟩ := T.cls
  refine ⟨{ name := N, bases := bs, mro := .ref C :: .ref U :: b.tl, ns := M, qualname := q, hasDict := true, slotNames := sn, subclasses := sub, abstract := ab, collection := col, hasDel := false }, ?_, rfl, rfl, rfl⟩
  unfold PySem.W.clsIn
  rw [e]
theorem ErrK.sub (T : ErrK K mg b U N C) (c : Value) : PySem.W.subIn K (.ref C) c = some ((Value.ref C :: .ref U :: b.tl).contains c) := by
  obtain ⟨cd, e, m, _⟩ := T.cd
  show PySem.W.mroIn K C c = _
  unfold PySem.W.mroIn
  rw [e, Option.bind_some, m, if_neg (by simp)]
theorem ErrK.subT (T : ErrK K mg b U N C) (X : String) : PySem.W.subIn K (.ref C) (.type X) = some (b.tl.contains (.type X)) := by
  rw [T.sub, List.contains_cons, List.contains_cons]
  rfl
theorem ErrK.exC (T : ErrK K mg b U N C) : PySem.W.subIn K (.ref C) (.type "BaseException") = some true := by
  rw [T.subT, T.bok.base.hasBase]
theorem ErrK.obj (T : ErrK K mg b U N C) : PySem.W.mroIn K C (.type "object") = some true := by
  show PySem.W.subIn K (.ref C) _ = _
  rw [T.subT, T.bok.store.hasOwner]
theorem ErrK.hd (T : ErrK K mg b U N C) : PySem.W.hasDictIn K C = true := by
  obtain ⟨cd, e, _, h, _⟩ := T.cd
  unfold PySem.W.hasDictIn
  rw [e]
  exact h
theorem ErrK.isC (T : ErrK K mg b U N C) : (PySem.W.clsIn K C).isSome = true := by
  obtain ⟨cd, e, _⟩ := T.cd
  rw [e]
  rfl
theorem name_at {D : Addr} {q q2 : Str} {M M2 : Addr} {N2 : Str} {bs bm bs2 bm2 : List Value} {sn sn2 : List Str} {sub sub2 : List Value} {ab ab2 : Bool} {col col2 : Option Bool} {dd dd2 : Option Addr} {k0 k1 k2 k3 k5 j0 j1 j2 j3 j5 : Option Value} {ni nj : String}
    (a : K.lookup C = some (excClassObj N q C M bs bm true sn sub ab col dd k0 k1 k2 k3 k5 ni)) (c : K.lookup D = some (excClassObj N2 q2 D M2 bs2 bm2 true sn2 sub2 ab2 col2 dd2 j0 j1 j2 j3 j5 nj)) (e : C = D) : N = N2 := by
  subst e
  have z := a.symm.trans c
  injection z with z
  injection z with _ _ z
  injection z with z
  injection z
/-- is an error of C one of D, D of the same make? -/
theorem ErrK.eqv {b2 : BaseE} {U2 D : Addr} {M : Str} (T : ErrK K mg b U N C) (S : ErrK K mg b2 U2 M D) (ne : U ≠ D) : PySem.W.subIn K (.ref C) (.ref D) = some (decide (N = M)) := by
  rw [T.sub, List.contains_cons, List.contains_cons, T.bok.plain, Bool.or_false]
  have u : (Value.ref D == Value.ref U) = false := beq_eq_false_iff_ne.mpr fun z => ne (Value.ref.inj z).symm
  rw [u, Bool.or_false]
  by_cases h : N = M
  · have e : C = D := by
      have a := T.g
      rw [h, S.g] at a
      exact (Value.ref.inj (Option.some.inj a)).symm
    rw [decide_eq_true h, e, beq_self_eq_true]
  · have e : (Value.ref D == Value.ref C) = false := beq_eq_false_iff_ne.mpr fun z => by
      obtain ⟨q, M1, bs, sn, sub, ab, col, dd, k0, k1, k2, k3, k5, a⟩ := T.cls
      obtain ⟨q2, M2, bs2, sn2, sub2, ab2, col2, dd2, j0, j1, j2, j3, j5, c⟩ := S.cls
      exact h (name_at a c (Value.ref.inj z).symm)
    rw [e, decide_eq_false h]
/-- an own class right over a built-in one -/
structure UpK (K : PySem.W.Frag) (mg : Str → Option Value) (b : BaseE) (N : Str) (U : Addr) : Prop where
  g : mg N = some (.ref U)
  cls : ∃ q M bs sn sub ab col dd k0 k1 k2 k3 k5, K.lookup U = some (excClassObj N q U M bs b.tl true sn sub ab col dd k0 k1 k2 k3 k5 b.new)
  ty : PySem.W.typeIn K (.ref U) = some (.type "type")
theorem UpK.isC {V : Addr} (S : UpK K mg b F V) : (PySem.W.clsIn K V).isSome = true := by
  obtain ⟨q, M, bs, sn, sub, ab, col, dd, k0, k1, k2, k3, k5, e⟩ := S.cls
  unfold PySem.W.clsIn
  rw [e]
  rfl
theorem UpK.exC {V : Addr} (ok : b.ok) (S : UpK K mg b F V) : PySem.W.subIn K (.ref V) (.type "BaseException") = some true := by
  obtain ⟨q, M, bs, sn, sub, ab, col, dd, k0, k1, k2, k3, k5, e⟩ := S.cls
  show PySem.W.mroIn K V _ = _
  unfold PySem.W.mroIn PySem.W.clsIn
  rw [e]
  show (if (Value.ref V :: b.tl).isEmpty = true then none else some ((Value.ref V :: b.tl).contains (.type "BaseException"))) = some true
  rw [if_neg (by simp), List.contains_cons, ok.base.hasBase, Bool.or_true]
theorem ErrK.up (T : ErrK K mg b U N C) : PySem.W.subIn K (.ref C) (.ref U) = some true := by
  rw [T.sub, List.contains_cons, List.contains_cons, beq_self_eq_true, Bool.true_or, Bool.or_true]
theorem UpK.ne {b2 : BaseE} {U2 D V : Addr} {M : Str} (S : UpK K mg b F V) (T : ErrK K mg b2 U2 M D) (h : F ≠ M) : V ≠ D := fun z => by
  obtain ⟨q, M1, bs, sn, sub, ab, col, dd, k0, k1, k2, k3, k5, a⟩ := S.cls
  obtain ⟨q2, M2, bs2, sn2, sub2, ab2, col2, dd2, j0, j1, j2, j3, j5, c⟩ := T.cls
  exact h (name_at a c z)
/-! what except and isinstance ask -/
theorem kit_ref {t : Value} {D : Addr} {r : Bool} (i : (PySem.W.clsIn K D).isSome = true) (ty : PySem.W.typeIn K (.ref D) = some (.type "type")) (s : PySem.W.subIn K t (.ref D) = some r) : PySem.W.kitCls K t (.ref D) = some r := by
  show (if ((PySem.W.clsIn K D).isSome && PySem.W.typeIn K (.ref D) == some (.type "type")) = true then PySem.W.subIn K t (.ref D) else none) = some r
  rw [i, ty, if_pos (by simp)]
  exact s
theorem kit_one {t : Value} {D : Addr} {r : Bool} (h : PySem.W.kitCls K t (.ref D) = some r) (y : t = .ref D → r = true) : PySem.W.kitOne K t (.ref D) = some r := by
  unfold PySem.W.kitOne
  split
  · next e => rw [y (eq_of_beq e)]
  · exact h
theorem ErrK.exm {b2 : BaseE} {U2 D : Addr} {M : Str} (T : ErrK K mg b U N C) (S : ErrK K mg b2 U2 M D) (ne : U ≠ D) : PySem.W.exmOne K (.ref C) (.ref D) = some (decide (N = M)) := by
  unfold PySem.W.exmOne
  rw [S.exC, if_pos (by simp)]
  exact kit_ref S.isC S.ty (T.eqv S ne)
theorem ErrK.kitU (T : ErrK K mg b U N C) (S : UpK K mg b F U) : PySem.W.kitOne K (.ref C) (.ref U) = some true := kit_one (kit_ref S.isC S.ty T.up) fun _ => rfl
theorem ErrK.kitV (T : ErrK K mg b U N C) (h : PySem.W.kitMeta b.nm = true) : PySem.W.kitOne K (.ref C) (.type b.nm) = some true := by
  unfold PySem.W.kitOne
  rw [if_neg (by simp)]
  show (if PySem.W.kitMeta b.nm = true then PySem.W.subIn K (.ref C) (.type b.nm) else none) = some true
  rw [if_pos h, T.subT, T.bok.base.hasB]
end
end Gu
namespace Gu
open PySem PySem.Spec PyProof.Rows L2 HandSPX
/-! ### such an error is made -/
section
variable {prog : Program} {w : World} {A : Around} {E : Value → Shared → Prop} {R : Result → Shared → Prop} {K : PySem.W.Frag} {mg : Str → Option Value} {b : BaseE} {U C : Addr} {N Fl : Str}
/-- a first field is laid: its dict is new -/
theorem err_store {hp : Heap} {g : Array GenState} {dr : Drawn} {tk0 : Nat} {os : OsState} {tk : Tok} {v : Value} {x : Addr} {fv : Array Value} (T : ErrK K mg b U N C) (inK : K.In hp) (at_x : hp.get? x = some { cls := .ref C, data := .fields fv }) (no : PySem.W.findIn K (.ref C) Fl = some none)
    (k : ∀ (h1 : Heap) (t1 : Nat) (dx : Addr), (∀ c o, c ≠ x → hp.get? c = some o → h1.get? c = some o) → hp.objs.size ≤ dx → dx ≠ x → h1.get? x = some { cls := .ref C, dict := some dx, data := .fields fv } → h1.Ns1 dx (fun y => if y = Fl then some v else none) → R (.ok (.ret .none)) ⟨h1, g, dr, t1, os⟩) :
    codeAny (model prog w) A (.call (.builtin "object.__setattr__") ⟨[.ref x, .str Fl tk, v], []⟩) R ⟨hp, g, dr, tk0, os⟩ := by
  obtain ⟨cd, ecd, em, eh, _⟩ := T.cd
  have inst : PySem.W.InstAt hp x { cls := .ref C, data := .fields fv } C none := ⟨at_x, rfl, rfl, trivial⟩
  have old : x ≠ hp.objs.size := Nat.ne_of_lt (Heap.lt_size at_x)
  have isO : PySem.W.Looks (model prog w) hp (isInstance (.ref x) (.type "object")) true := inst.type.andThen (PySem.W.looks_mroIn inK T.obj)
  have facts := PySem.F.store_object
  refine codeAny_call_builtin facts.slot.plain facts.entry (@PySem.W.check_slot (model prog w) _ _ ⟨hp, g, dr, tk0, os⟩ "object.__setattr__" "object" "__setattr__" (.ref x) [.str Fl tk, v] [] _ facts.kind facts.split isO (facts.args (.ref x) (.str Fl tk) v) ?_)
  have look : PySem.W.Looks (model prog w) hp (classData C) cd := PySem.W.looks_clsIn inK ecd
  have mro : PySem.W.Looks (model prog w) hp (mroOf (.ref C)) cd.mro := look.andThen .now
  have none' : PySem.W.Looks (model prog w) hp (Builtin.ObjectAttr.storeTaker? none) none := .now
  rw [PySem.W.osa_eq, refuse_eq]
  refine wpAny_bind (wpAny_bind (inst.type.at (wpAny_bind (mro.at ?_))))
  rw [em, refuseLoop_ref, refuseLoop_ref, T.bok.store.passes]
  refine wpAny_pure (wpAny_bind (inst.type.at (wpAny_bind ((PySem.W.looks_findIn inK no).at (wpAny_bind (none'.at ?_))))))
  obtain ⟨nm, bs, mr, ns, qn, hd, sn, sb, ab, col, del⟩ := cd
  dsimp only at eh
  subst eh
  show wpAny _ _ (Builtin.ObjectAttr.storeInOwnDict (.ref x) (.ref C) (.str Fl tk) Fl v false) _ _ _
  unfold Builtin.ObjectAttr.storeInOwnDict Builtin.ObjectAttr.ownDictForStores
  repeat (first | with_reducible refine store_in_new ?_ ?_ | with_reducible refine look.at ?_ | with_reducible refine wpAny_loadPart_at at_x ?_ | wp_step)
  · exact ⟨_, #[], _, (Heap.get?_update_ne _ _ _ _ old.symm).trans (Heap.get?_push_at rfl rfl), rfl, fun e he => absurd he (by simp), fun _ => rfl⟩
  · intro h1 t1 hn hs
    refine k h1 t1 hp.objs.size (fun c o hc ho => ?_) (Nat.le_refl _) old.symm ?_ hn
    · exact (hs.2 c (Nat.ne_of_lt (Heap.lt_size ho))).trans ((Heap.get?_update_ne _ _ _ _ hc).trans (Heap.get?_push_of_some _ ho))
    · exact (hs.2 x old).trans (Heap.get?_update_self _ (Heap.get?_push_of_some { cls := .type "dict", data := .dict #[] } at_x) rfl)
/-- what __init__ leaves of a fresh error at x -/
structure InitLeft (h h1 : Heap) (x C dx t1 : Addr) (Fl : Str) (v : Value) : Prop where
  keep : ∀ c o, c ≠ x → h.get? c = some o → h1.get? c = some o
  obj : h1.get? x = some { cls := .ref C, dict := some dx, data := .fields #[.ref t1, .none, .none, .none, .bool false, .none] }
  big : h.objs.size ≤ dx
  ne : dx ≠ x
  ns : h1.Ns1 dx (fun y => if y = Fl then some v else none)
theorem here_local {M : Model} {s : Shared} {name : Str} {scope : Scope} {L a : Addr} {cd : Value} {m : Str → Option Value} {x : Str} {pos : Pos} {v : Value} {Q : Value → Shared → Prop} (ns : s.heap.Ns L m) (hv : m x = some v) (q : Q v s)
    (hk : scope.kind = .function := by rfl) (hl : (envOfC name scope L a cd).kindOf x = some .local := by rfl) (hd : (x == ("__debug__" : Str)) = false := by decide) : wpAny M A (eval (.Name x pos) (envOfC name scope L a cd)) Q E s := wpAny_Name (wpAny_loadName_local hk hl ns hv q) hd
theorem err_init {s : Shared} {f x t0 : Addr} {v : Value} {st : Stmt} {p : Spots} {fd : FuncData} (T : ErrK K mg b U N C) (no : PySem.W.findIn K (.ref C) Fl = some none) (hF : Fl = "value" ∨ Fl = "index" ∨ Fl = "limit") (G : L2.Fun K "__init__" (N ++ ".__init__") st f fd) (e1 : defArgs st = eArgs Fl p) (e2 : defBody st = eBody Fl p) (e3 : defScope st = eScope Fl)
    (inK : K.In s.heap) (lim : s.heap.NoLimit) (at_x : s.heap.get? x = some (excO C t0)) (room : A.depth < recursionLimit)
    (k : ∀ h1 tk dx, InitLeft s.heap h1 x C dx t0 Fl v → R (.ok (.ret .none)) { s with heap := h1, toks := tk }) : codeAny (model prog w) A (.call (.ref f) ⟨[.ref x, v], []⟩) R s := by
  obtain ⟨oc, od, kV, doc, pm, an, cdv, ct, osl, ef, lk, hcd⟩ := G.ex
  rw [ef, e1, e2, e3] at lk
  have main : ∀ s1, InCallC s s.heap.objs.size (bindL (envOfC (N ++ ".__init__") (eScope Fl) s.heap.objs.size f cdv).kindOf [("self", .ref x), (Fl, v)] fun _ => none) (cellsFrom (s.heap.objs.size + 1) (eScope Fl).names []) (bindC (envOfC (N ++ ".__init__") (eScope Fl) s.heap.objs.size f cdv).kindOf [("self", .ref x), (Fl, v)] fun _ => none) s1 →
      wpAny (model prog w) (A.deeper (envOfC (N ++ ".__init__") (eScope Fl) s.heap.objs.size f cdv)) (execs (eBody Fl p) (envOfC (N ++ ".__init__") (eScope Fl) s.heap.objs.size f cdv)) (fun fl s' => R (.ok (.ret (match fl with | .ret v => v | _ => .none))) s')
        (fun e s' => wpAny (model prog w) (A.deeper (envOfC (N ++ ".__init__") (eScope Fl) s.heap.objs.size f cdv)) (leaving (envOfC (N ++ ".__init__") (eScope Fl) s.heap.objs.size f cdv) e) (fun _ s'' => R (.error e) s'') (fun e' s'' => R (.error e') s'') s') s1 := by
    intro s1 c1
    obtain ⟨h1, tk1, rfl⟩ := c1.toInCall.same
    have keep : ∀ c o, s.heap.get? c = some o → h1.get? c = some o := c1.toInCall.keep
    have ns := c1.toInCall.ns
    refine wpAny_execs_cons (plainObj_wpAny_Assign_Attribute ?_ ?_)
    · have v1 : (bindL (envOfC (N ++ ".__init__") (eScope Fl) s.heap.objs.size f cdv).kindOf [("self", .ref x), (Fl, v)] fun _ => none) Fl = some v := by
        rcases hF with rfl | rfl | rfl <;> first | rfl | with_unfolding_all rfl | kernel_rfl
      have v2 : (bindL (envOfC (N ++ ".__init__") (eScope Fl) s.heap.objs.size f cdv).kindOf [("self", .ref x), (Fl, v)] fun _ => none) "self" = some (.ref x) := by
        rcases hF with rfl | rfl | rfl <;> first | rfl | with_unfolding_all rfl | kernel_rfl
      refine here_local (v := v) ns v1 (here_local (v := .ref x) ns v2 ?_ rfl rfl (by decide)) rfl (by rcases hF with rfl | rfl | rfl <;> rfl) (by rcases hF with rfl | rfl | rfl <;> decide)
      refine PySem.W.set_plain (inK.keeps keep) (ox := excO C t0) (od := none) ⟨keep _ _ at_x, rfl, rfl, trivial⟩ T.sa ?_
      refine err_store T (inK.keeps keep) (keep _ _ at_x) no fun h3 tk3 dx k3 big ne hx hn => ?_
      have z : s.heap.objs.size < h1.objs.size := ns.lt
      exact wpAny_execs_nil (k h3 tk3 dx ⟨fun c o hc e => k3 c o hc (keep c o e), hx, Nat.le_of_lt (Nat.lt_of_lt_of_le z big), ne, hn⟩)
    · rfl
  refine Att.call_fn (binds := [("self", .ref x), (Fl, v)]) inK lim lk hcd room ?_ ?_ main rfl rfl rfl
  · rcases hF with rfl | rfl | rfl <;> exact BindsTo.of_eq (by first | rfl | with_unfolding_all rfl)
  · rcases hF with rfl | rfl | rfl <;> first | rfl | decide | with_unfolding_all rfl
end
end Gu
namespace Gu
open PySem PySem.Spec PyProof.Rows L2 HandSPX
section
variable {prog : Program} {w : World} {A : Around} {E : Value → Shared → Prop} {R : Result → Shared → Prop} {K : PySem.W.Frag} {mg : Str → Option Value} {b : BaseE} {U C : Addr} {N Fl : Str}
/-- an error that is made: at e, its dict at d -/
structure MadeE (h h1 : Heap) (e C d : Addr) (Fl : Str) (v : Value) : Prop where
  keep : ∀ c o, h.get? c = some o → h1.get? c = some o
  new : h.objs.size ≤ e
  obj : ∃ oe vs, h1.get? e = some oe ∧ oe.cls = .ref C ∧ oe.dict = some d ∧ oe.data = .fields vs ∧ vs[1]? = some .none
  big : h.objs.size ≤ d
  ne : d ≠ e
  ns : h1.Ns1 d (fun y => if y = Fl then some v else none)
theorem one_fits (v : Value) : [v].length ≤ sizeLine := by
  show 1 ≤ sizeLine
  decide
theorem err_made {s : Shared} {v : Value} (T : ErrK K mg b U N C) (S : ErrF K N Fl C) (inK : K.In s.heap) (lim : s.heap.NoLimit) (room : A.depth + 1 < recursionLimit) (k : ∀ h1 tk e d, MadeE s.heap h1 e C d Fl v → R (.ok (.ret (.ref e))) { s with heap := h1, toks := tk }) :
    codeAny (model prog w) A (.call (.ref C) ⟨[v], []⟩) R s := by
  obtain ⟨q, M, bs, sn, sub, ab, col, dd, k0, k1, k2, k3, k5, hC⟩ := T.cls
  obtain ⟨f, st, p, fd, hf, tf, G, e1, e2, e3⟩ := S.init
  obtain ⟨hp, g, dr, tk, os⟩ := s
  have old : ∀ c o, hp.get? c = some o → ((hp.push (PySem.W.kdv_tup [v])).push (excO C hp.objs.size)).get? c = some o := fun c o e => Heap.get?_push_of_some _ (Heap.get?_push_of_some _ e)
  have here : ((hp.push (PySem.W.kdv_tup [v])).push (excO C hp.objs.size)).get? (hp.objs.size + 1) = some (excO C hp.objs.size) := by heap_get
  refine call_own T.bok.base (fun X => by rw [List.contains_cons]; rfl) (inK _ _ hC) (PySem.W.looks_findIn inK hf) (fun self => PySem.W.bind_fn inK self tf) (one_fits v) ?_
  refine err_init (s := ⟨(hp.push (PySem.W.kdv_tup [v])).push (excO C hp.objs.size), g, dr, tk, os⟩) T S.no S.nm G e1 e2 e3 (inK.keeps old) (lim.keeps old) here room fun h1 t1 dx L => ?_
  have old1 : ∀ c o, hp.get? c = some o → h1.get? c = some o := fun c o e => L.keep c o (Nat.ne_of_lt (Nat.lt_succ_of_lt (Heap.lt_size e))) (old c o e)
  have z : hp.objs.size + 1 + 1 ≤ dx := by
    have q := L.big
    rw [Heap.size_push, Heap.size_push] at q
    exact q
  exact ⟨rfl, k h1 t1 (hp.objs.size + 1) dx ⟨old1, Nat.le_succ _, ⟨_, _, L.obj, rfl, rfl, rfl, rfl⟩, by show hp.objs.size ≤ dx; omega, L.ne, L.ns⟩⟩
end
theorem relO_one {Fl : Str} {v : V} {u : Value} (r : RelV v u) (g : Str) : RelO (List.lookup g [(Fl, v)]) (if g = Fl then some u else none) := by
  by_cases h : g = Fl
  · subst h
    rw [if_pos rfl, show List.lookup g [(g, v)] = some v by simp [List.lookup]]
    exact r
  · have q : (g == Fl) = false := by simpa using h
    rw [if_neg h, show List.lookup g [(Fl, v)] = none by simp [List.lookup, q]]
    trivial
section
variable {X : Cx} {b : BaseE} {U C : Addr} {N Fl : Str}
/-- N(e) -/
def tMkE (C : Addr) (Fl : Str) (ta : TA) : L2.St → Hp → XK → Prop := fun σ H Q => ta σ H fun vs G => ∃ v, vs = [v] ∧ ∀ d, G d = none → Q (.ref C) (some d) (upd G d (.xd [(Fl, v)]))
theorem pmk_err {a : Expr} {ta : TA} {p pos : Pos} {k : Nat} (T : ErrK X.K X.mg b U N C) (S : ErrF X.K N Fl C) (hr : Room k X.A) (ha : PA X [a] ta) (hg : Gl X N) (hdb : (N == ("__debug__" : Str)) = false)
    (he : starEach (a :: []) X.env = (false, eval a X.env) :: starEach [] X.env := by rfl) (hpl : (backTo pos (starEach [] X.env)).any (·.1) = false := by rfl) : PMk X (.Call (.Name N p) [a] [] pos) (tMkE C Fl ta) := by
  intro pins s σ H Q I want
  refine wpAny_Call_Name_kw (ld_glob I hg T.g ?_ hdb)
  refine PySem.W.callWith_K (h₀ := X.base) I.ok.mod.kin T.kC (thn (ha.run pos pins s σ H _ I want) fun us s1 ⟨vs, G, I1, r, v, ev, q⟩ => ⟨I1.kIn, ?_⟩) he hpl
  subst ev
  cases r with
  | @cons _ u _ _ rv rn =>
    cases rn
    have lim := I1.nolimit
    obtain ⟨hp, g, dr, tk, os⟩ := s1
    show wpAny _ _ (call (.ref C) [u]) _ _ _
    refine wpAny_call (err_made (v := u) T S I1.kIn lim (by have := hr.dp; omega) fun h1 t1 e d M => ?_)
    obtain ⟨oe, fv, hoe, hc, hd, hdat, h1n⟩ := M.obj
    obtain ⟨B, b1, b2⟩ := restrict h1 fun c => decide (c ≠ e)
    have inB : ∀ c, c ≠ e → B.get? c = h1.get? c := fun c hc => b1 c (decide_eq_true hc)
    have noB : B.get? e = none := b2 e (by simp)
    have old : ∀ c o, hp.get? c = some o → B.get? c = some o := fun c o z => (inB c (Nat.ne_of_lt (Nat.lt_of_lt_of_le (Heap.lt_size z) M.new))).trans (M.keep c o z)
    have ob : ObjOk X.prog X.w (upd G d (.xd [(Fl, v)])) B d (.xd [(Fl, v)]) := ⟨_, M.ns.at (fun o z => (inB d M.ne).trans z), fun y => relO_one rv y⟩
    have J : Inv X pins σ (upd G d (.xd [(Fl, v)])) ⟨B, g, dr, t1, os⟩ := I1.laid (t' := t1) old M.big ob
    show MkP X pins σ Q (.ref e) ⟨h1, g, dr, t1, os⟩
    refine ⟨e, oe, fv, ⟨B, g, dr, t1, os⟩, _, .ref C, some d, rfl, J, fun c o z => ?_, noB, hoe, ⟨hc, hd⟩, hdat, h1n, ?_, rfl, I1.bare, raises_own T.exC T.ty, q d (I1.hok.fresh M.big)⟩
    · by_cases hce : c = e
      · have z : B.get? c = some o := z
        rw [hce, noB] at z
        cases z
      · exact (inB c hce).symm.trans z
    · rw [upd_ne (Ne.symm M.ne)]
      exact I1.hok.fresh M.new
/-- raise N(e) -/
def tRaiseE (C : Addr) (Fl : Str) (W : WX) (ta : TA) : TS := fun _ σ H => tMkE C Fl ta σ H fun cls d G => W cls d σ G
theorem ps_raiseE {a : Expr} {ta : TA} {W : WX} {p pos pos2 : Pos} {k : Nat} (T : ErrK X.K X.mg b U N C) (S : ErrF X.K N Fl C) (hc : X.calm = true) (hr : Room k X.A) (tk : Takes X W) (ha : PA X [a] ta) (hg : Gl X N) (hdb : (N == ("__debug__" : Str)) = false := by decide)
    (he : starEach (a :: []) X.env = (false, eval a X.env) :: starEach [] X.env := by rfl) (hpl : (backTo pos (starEach [] X.env)).any (·.1) = false := by rfl) :
    PS X (.Raise (some (.Call (.Name N p) [a] [] pos)) none pos2) (tRaiseE C Fl W ta) := ps_raise hc tk (pmk_err T S hr ha hg hdb he hpl)
/-! ### an error that is held -/
/-- e.f, e the error at a that is pinned -/
def tXfE (a : Addr) (cls : Value) (d : Option Addr) (C : Addr) (f : Str) (te : TE) : TE := fun σ H Q => te σ H fun x G => x = .ref a ∧ cls = .ref C ∧ ∃ (dd : Addr) (fs : List (Str × V)) (v : V), d = some dd ∧ G dd = some (.xd fs) ∧ fs.lookup f = some v ∧ Q v G
theorem pe_xfE {a : Addr} {oe : Obj} {cls : Value} {d : Option Addr} {e : Expr} {te : TE} {pos : Pos} (T : ErrK X.K X.mg b U N C) (S : ErrF X.K N Fl C) (hp : (a, oe) ∈ X.pn) (hz : Zc cls d oe) (hf : ∃ vs, oe.data = .fields vs) (he : PE X e te) (hb : attributeBase e Fl X.env (eval e X.env) = eval e X.env) :
    PE X (.Attribute e Fl pos) (tXfE a cls d C Fl te) := by
  refine ⟨fun pins s σ H Q I want => attr_of hb (thn (he.run pins s σ H _ I want) fun u s1 ⟨x, G, I1, rx, ex, ec, dd, fs, v, ed, ea, l, q⟩ => ?_)⟩
  subst ex ec ed
  obtain rfl : u = Value.ref a := rx
  obtain ⟨ha, _⟩ := I1.pin (a, oe) (List.mem_append_left _ hp)
  obtain ⟨vs, hd⟩ := hf
  obtain ⟨mA, hns, rel⟩ := (show ObjOk X.prog X.w G s1.heap dd (.xd fs) from I1.hok dd _ ea)
  obtain ⟨od, ho, hl⟩ := lookIn_ns hns
  obtain ⟨u, hu, ru⟩ := RelO.some_of (v := v) (o := mA Fl) (by rw [← l]; exact rel Fl)
  have J : PySem.W.InstAt s1.heap a oe C (some od) := ⟨ha, hz.1, by unfold PySem.W.notCls; rw [hd] <;> rfl, by rw [hz.2]; exact ho⟩
  exact exc_get I1.kIn J T.ga T.gg T.exC (PySem.W.findObj_own T.hd S.no rfl (by rw [hl, hu])) (handed_of ru) ⟨v, G, I1.tok _, ru, q⟩
/-- isinstance(e, c), e the error at a that is pinned -/
def rIsX (K : PySem.W.Frag) (C a : Addr) (cls : Value) (d : Option Addr) : List V → Hp → VK → Prop := fun xs H Q => ∃ (c : V) (cv : Value) (r : Bool), xs = [.ref a, c] ∧ cls = .ref C ∧ (∀ u, RelV c u → u = cv) ∧ PySem.W.kitOne K (.ref C) cv = some r ∧ (∀ dd, d = some dd → ∃ fs, H dd = some (.xd fs)) ∧ Q (.bl r) H
theorem call_isX {a : Addr} {oe : Obj} {cls : Value} {d : Option Addr} (T : ErrK X.K X.mg b U N C) (hp : (a, oe) ∈ X.pn) (hz : Zc cls d oe) (hf : ∃ vs, oe.data = .fields vs) : CallR X (.builtin "isinstance") (rIsX X.K C a cls d) := by
  intro pins s σ H xs us Q I r h
  obtain ⟨c, cv, ans, rfl, rfl, hcv, e, hdd, q⟩ := h
  cases r with
  | cons rx rr =>
    cases rr with
    | cons rt rr =>
      cases rr
      cases rx
      have ec := hcv _ rt
      subst ec
      obtain ⟨get, _⟩ := I.pin (a, oe) (List.mem_append_left _ hp)
      obtain ⟨vs, hv⟩ := hf
      have J : ∃ od, PySem.W.InstAt s.heap a oe C od := by
        obtain ⟨oc, odd, oda, osl⟩ := oe
        obtain ⟨h1, h2⟩ := hz
        dsimp only at h1 h2 hv
        subst h1 h2 hv
        cases odd with
        | none => exact ⟨none, get, rfl, rfl, trivial⟩
        | some dd =>
          obtain ⟨fs, hx⟩ := hdd dd rfl
          obtain ⟨mA, hns, _⟩ := (show ObjOk X.prog X.w H s.heap dd (.xd fs) from I.hok dd _ hx)
          obtain ⟨od, ho, _⟩ := lookIn_ns hns
          exact ⟨some od, get, rfl, rfl, ho⟩
      obtain ⟨od, J⟩ := J
      exact PySem.W.kia_one (PySem.W.kitx_exc T.isC T.ga T.gg T.exC T.ca T.cn T.ct T.obj) I.kIn J e (fun z => nomatch z) fun tk => ⟨.bl ans, H, I.kept (t' := tk) fun _ _ z => z, rfl, q⟩
end
end Gu
namespace Gu
open PySem PySem.Spec PyProof.Rows L2 HandSPX
/-! ### try with several clauses, each of them naming the error -/
/-- the test of a clause: mt tells of the error's class whether it is this one; what stood stands -/
def HTest (X : Cx) (t : Expr) (mt : Value → Option Bool) : Prop := ∀ (a : Addr) (oe : Obj) (cls : Value) (d : Option Addr) (pn pins : List (Addr × Obj)) (σ : L2.St) (H : Hp) (s : Shared) (r : Bool) (Q : Bool → Shared → Prop) (E : Value → Shared → Prop), Inv (X.suite a ((a, oe) :: pn)) pins σ H s → s.heap.get? a = some oe → Zc cls d oe → mt cls = some r →
  (∀ h1 tk, (∀ c o, s.heap.get? c = some o → h1.get? c = some o) → Q r { s with heap := h1, toks := tk }) →
  wpAny (model X.prog X.w) (X.A.mark (some (.ref a))) (eval t X.env) (fun c s1 => wpAny (model X.prog X.w) (X.A.mark (some (.ref a))) (excMatches (.ref a) c) Q E s1) E s
theorem htest_name {X : Cx} {x : Str} {c : Value} {pos : Pos} (hc : Names X x c) : HTest X (.Name x pos) (fun cls => PySem.W.exmOne X.K cls c) := by
  intro a oe cls d pn pins σ H s r Q E I ha hz hm k
  have LT : PySem.W.Looks (model X.prog X.w) s.heap (typeOf (.ref a)) cls := fun A Q E s1 keep q => wpAny_typeOf_ref (keep _ _ ha) (by rw [hz.1]; exact q)
  have LM := PySem.W.exm_one (M := model X.prog X.w) I.kIn LT hm
  have go : wpAny (model X.prog X.w) (X.A.mark (some (.ref a))) (excMatches (.ref a) c) Q E s := LM.here (k s.heap s.toks fun _ _ e => e)
  obtain ⟨hg, hdb, hm | ⟨hm, hv, hn⟩⟩ := hc
  · exact ld_glob (X := X.suite a ((a, oe) :: pn)) I hg hm go hdb
  · exact ld_blt (X := X.suite a ((a, oe) :: pn)) I hg hm hv go hn hdb
/-- what the clauses wish of an error of the body, one after the other; slot i is the error's name -/
def wManyA (i : Nat) (Wout : WX) (D : Ends) : List ((Value → Option Bool) × (Addr → Value → Option Addr → TS)) → WX
  | [] => Wout
  | (mt, ts) :: l => fun cls d σ H => ∃ r, mt cls = some r ∧ (r = true → ∀ a, H a = none → i < σ.length → ts a cls d { nx := fun σ1 G => D.nx (σ1.set i none) G, rt := D.rt, bk := fun σ1 G => D.bk (σ1.set i none) G, ct := fun σ1 G => D.ct (σ1.set i none) G } (σ.set i (some (.ref a))) H) ∧ (r = false → wManyA i Wout D l cls d σ H)
inductive HdsA (X : Cx) (n : Str) : List ExceptHandler → List ((Value → Option Bool) × (Addr → Value → Option Addr → TS)) → Prop
  | nil : HdsA X n [] []
  | cons {t : Expr} {mt : Value → Option Bool} {ts : Addr → Value → Option Addr → TS} {b0 : Stmt} {suite : List Stmt} {pos : Pos} {hds : List ExceptHandler} {l : List ((Value → Option Bool) × (Addr → Value → Option Addr → TS))} (ht : HTest X t mt)
      (hs : ∀ (a : Addr) (oe : Obj) (cls : Value) (d : Option Addr) (pn : List (Addr × Obj)), Zc cls d oe → (∃ vs, oe.data = .fields vs) → PSs (X.suite a ((a, oe) :: pn)) (b0 :: suite) (ts a cls d)) (r : HdsA X n hds l) : HdsA X n (.ExceptHandler (some t) (some n) (b0 :: suite) pos :: hds) ((mt, ts) :: l)
/-- what flies stays so while more is laid -/
theorem flying_keep {B h h1 : Heap} {l : List Env} {e : Addr} {Z : Obj → Prop} (k : ∀ c o, h.get? c = some o → h1.get? c = some o) (f : FlyingZ B l e Z h) : FlyingZ B l e Z h1 := by
  obtain ⟨f1, f2, f3, oe, vs, T, oT, ts, he, hz, hd, a1, a2, a3, a4, a5, a6⟩ := f
  exact ⟨fun b o q => k b o (f1 b o q), f2, f3.of_keeps fun b o hb _ => ⟨o, k b o hb, rfl⟩, oe, vs, T, oT, ts, k _ _ he, hz, hd, a1, a2, a3, k _ _ a4, a5, a6⟩
section
variable {X : Cx} {n : Str} {i : Nat} {body : List Stmt} {h0 : ExceptHandler} {hds : List ExceptHandler} {l : List ((Value → Option Bool) × (Addr → Value → Option Addr → TS))} {pos : Pos} {tb : WX → TS} {Wout : WX}
theorem ps_try_manyA (hs : X.stack = X.env :: X.outer) (hf : X.env.frame = some X.env.locals) (hN : X.N.Nodup) (hi : X.N[i]? = some n) (hln : X.env.kindOf n = some .local) (tk : Takes X Wout)
    (hb : ∀ (W : WX) (pn : List (Addr × Obj)) (xe : Value → Shared → Prop), Takes (X.tr pn xe) W → PassesOwn (model X.prog X.w) X.A X.env xe → PSs (X.tr pn xe) body (tb W))
    (hh : HdsA X n (h0 :: hds) l) : PS X (.Try body (h0 :: hds) [] [] pos) (fun D σ H => tb (wManyA i Wout D l) D σ H) := by
  refine ⟨fun pins s σ H D I want => ?_⟩
  have ok := I.ok
  have frames : X.A.frames = some (X.env :: X.outer) := by rw [ok.frames, hs]
  have loc : Loc X.env.scope n := .inl hln
  refine wpAny_Try_except (wpAny_mono ((hb (wManyA i Wout D l) (X.pn ++ pins) (fun e s1 => wpAny (model X.prog X.w) X.A (noteFrame e X.env) (fun _ s2 => wpAny (model X.prog X.w) X.A (setFlight e none) (fun _ s3 => wpAny (model X.prog X.w) X.A (handleBy e X.env (h0 :: hds)) (SP X pins D) X.xe s3) X.xe s2) X.xe s1) (fun u s1 x1 => ?_) PassesOwn.looking).run [] s σ H D (I.toTry _) want) (fun fl s1 q => ?_) fun e s1 q => q)
  · obtain ⟨a, B, sI, _, σ1, H1, cls, d, rfl, J0, nb, up, sky, na, os, ag, wish⟩ := x1
    have J : Inv X pins σ1 H1 sI := J0.ofTry ok
    rw [hs] at sky
    refine Sky.land Zc.steady frames hf sky fun h3 fl3 up3 => ?_
    have out : ∀ {h : Heap} {o : Obj} {vs : Array Value}, h.FunFrames B (X.env :: X.outer) → h.get? a = some o → o.data = .fields vs → a ≠ X.env.locals ∧ a ∉ X.fs := fun {h o vs} ff e dd => by
      have nf : a ∉ frs (X.env :: X.outer) := fun hm => by
        obtain ⟨_, o2, e2, z⟩ := ff.mem hm
        rw [e] at e2
        cases e2
        exact z _ dd
      exact ⟨fun z => nf (List.mem_filterMap.mpr ⟨X.env, List.mem_cons_self, by rw [hf, z]⟩), fun hm => by
        obtain ⟨e, he, q⟩ := List.mem_filterMap.mp hm
        exact nf (List.mem_filterMap.mpr ⟨e, List.mem_cons_of_mem _ he, q⟩)⟩
    have go : ∀ {hs2 : List ExceptHandler} {l2 : List ((Value → Option Bool) × (Addr → Value → Option Addr → TS))}, HdsA X n hs2 l2 → ∀ (h : Heap) (t : Nat), FlyingZ B (X.env :: X.outer) a (Zc cls d) h → sI.heap.UpToSlots h → wManyA i Wout D l2 cls d σ1 H1 →
        wpAny (model X.prog X.w) X.A (handleBy (.ref a) X.env hs2) (SP X pins D) X.xe { s1 with heap := h, toks := t } := by
      intro hs2 l2 hk
      induction hk with
      | nil =>
        intro h t fl up wish
        refine wpAny_handleBy_nil ?_
        obtain ⟨_, _, _, oe, vs, T, oT, ts, he, hz, hd, h1, _⟩ := id fl
        unfold PySem.passOn
        refine wpAny_bind (wpAny_field he hd h1 ?_)
        rw [if_neg (by simp)]
        have last : wpAny (model X.prog X.w) X.A (setFlight (.ref a) X.env.frame) (fun _ s4 => wpAny (model X.prog X.w) X.A (throw (.ref a) : Sem Flow) (SP X pins D) X.xe s4) X.xe { s1 with heap := h, toks := t } := by
          rw [hf]
          refine setFlight_upZ fl fun h4 hh4 up4 => wpAny_throw (tk _ _ ?_)
          exact ⟨a, B, sI, pins, σ1, H1, cls, d, rfl, J, nb, up.trans up4, .inr (.inr (by rw [hs]; exact hh4)), na, os, ag, wish⟩
        first
          | exact wpAny_bind (wpAny_pure (wpAny_bind last))
          | exact wpAny_bind last
      | @cons t mt ts b0 suite pos2 hds2 l2 ht hsu r ih =>
        intro h tok fl up wish
        obtain ⟨ans, hm, yes, no⟩ := wish
        have J3 : Inv X pins σ1 H1 { s1 with heap := h, toks := tok } := J.landed (s' := { s1 with heap := h, toks := tok }) nb fl.1 up os ag
        obtain ⟨oe, vs, he, hz, hd⟩ := fl.there
        have nn := out fl.2.2.1 he hd
        have S3 := J3.suite he hd na nn.1 nn.2
        refine wpAny_handleBy_cons (codeAny_handlers_test ?_) (by intro q; cases q)
        refine ht a oe cls d (X.pn ++ pins) [] σ1 H1 { s1 with heap := h, toks := tok } ans _ _ S3 he hz hm fun h4 tok4 k4 => ?_
        have fl4 := flying_keep k4 fl
        have up4 : sI.heap.UpToSlots h4 := up.trans fun b o hb _ => ⟨o.slots, k4 b o hb⟩
        cases ans with
        | false => exact ih h4 tok4 fl4 up4 (no rfl)
        | true =>
          refine codeAny_handlers_suite_as (lands_againZ fl4 fun h5 fl5 up5 => ?_)
          have J5 : Inv X pins σ1 H1 { s1 with heap := h5, toks := tok4 } := J.landed (s' := { s1 with heap := h5, toks := tok4 }) nb fl5.1 (up4.trans up5) os ag
          obtain ⟨oe5, vs5, he5, hz5, hd5⟩ := fl5.there
          have n5 := out fl5.2.2.1 he5 hd5
          refine store_ok (X := X.suite a ((a, oe5) :: (X.pn ++ pins))) (v := .ref a) (J5.suite he5 hd5 na n5.1 n5.2) hN hi loc rfl (fun s6 S6 => ?_) (.inr hln)
          refine wpAny_mono ((hsu a oe5 cls d (X.pn ++ pins) hz5 ⟨_, hd5⟩).run [] s6 _ H1 _ S6 (yes rfl a na (by rw [J5.len]; exact (List.getElem?_eq_some_iff.mp hi).1))) (fun fl7 s7 q7 => ?_) fun _ _ z => False.elim z
          have gone : ∀ {σ7 : L2.St} {H7 : Hp} {Q : Shared → Prop}, Inv (X.suite a ((a, oe5) :: (X.pn ++ pins))) [] σ7 H7 s7 → (∀ s8, Inv X pins (σ7.set i none) H7 s8 → Q s8) → wpAny (model X.prog X.w) X.A (do bindName X.env n .none; unbindBehindTheSuite X.env n pos2) (fun _ s8 => Q s8) X.xe s7 := fun {σ7 H7 Q} S7 hq => gone_ok (S7.unsuite ok) hN hi hln hq
          cases fl7 with
          | next =>
            obtain ⟨σ7, H7, S7, q7⟩ := q7
            exact gone S7 fun s8 J8 => ⟨_, _, J8, q7⟩
          | brk =>
            obtain ⟨σ7, H7, S7, q7⟩ := q7
            exact gone S7 fun s8 J8 => ⟨_, _, J8, q7⟩
          | cont =>
            obtain ⟨σ7, H7, S7, q7⟩ := q7
            exact gone S7 fun s8 J8 => ⟨_, _, J8, q7⟩
          | ret u =>
            obtain ⟨v7, σ7, H7, S7, r7, q7⟩ := q7
            exact gone S7 fun s8 J8 => ⟨_, _, _, J8, r7, q7⟩
    exact go hh h3 s1.toks fl3 (up.trans up3) wish
  · cases fl with
    | next =>
      obtain ⟨σ1, H1, J1, q⟩ := q
      exact wpAny_execs_nil ⟨σ1, H1, J1.ofTry ok, q⟩
    | brk =>
      obtain ⟨σ1, H1, J1, q⟩ := q
      exact ⟨σ1, H1, J1.ofTry ok, q⟩
    | cont =>
      obtain ⟨σ1, H1, J1, q⟩ := q
      exact ⟨σ1, H1, J1.ofTry ok, q⟩
    | ret u =>
      obtain ⟨v, σ1, H1, J1, r, q⟩ := q
      exact ⟨v, σ1, H1, J1.ofTry ok, r, q⟩
end
end Gu
namespace Gu
open PySem PySem.Spec PyProof.Rows L2
/-! ### defs that are called where no container is being written out -/
structure FnG (P : Program) (w : World) (K : PySem.W.Frag) (mg : Str → Option Value) (base : Heap) (k : Nat) (f : Addr) (fd : FuncData) (ps : List Str) (sp : Sp) : Prop where
  len : ∀ vs H Q E, sp vs H Q E → vs.length = ps.length
  run : ∀ (A : Around) (outer : List Env) (s : Shared) (H : Hp) (args : Args) (us : List Value) (vs : List V) (Q : VK) (E : XK), Room k A → A.guards = some [] → Env0 P w K mg base A outer s H → BindsTo s fd args (ps.zip us) → Vals vs us → sp vs H Q E →
    codeAny (model P w) A (.call (.ref f) args) (CR CX0 outer P w H s Q E) s
section
variable {P : Program} {w : World} {K : PySem.W.Frag} {mg : Str → Option Value} {base : Heap}
theorem okG {x qual : Str} {st : Stmt} {f : Addr} {fd : FuncData} {N ps : List Str} {k : Nat} {sp : Sp} (F : Fun K x qual st f fd) (S : FnScope N ps (defScope st)) (len : ∀ vs H Q E, sp vs H Q E → vs.length = ps.length)
    (body : ∀ (cdv : Value) (A : Around) (outer : List Env) (s : Shared) (H : Hp) (vs : List V) (Q : VK) (E : XK), Room k (A.deeper (envOfC qual (defScope st) s.heap.objs.size f cdv)) → A.guards = some [] → sp vs H Q E →
      ∃ t, PSs (cxOf CX0 P w K mg base N qual (defScope st) f cdv A outer s H E).nox (defBody st) t ∧ t { nx := fun _ G => Q .non G, rt := Q } (start N vs) H) : FnG P w K mg base (k + 1) f fd ps sp := by
  obtain ⟨oc, od, kV, doc, pm, an, cdv, ct, osl, rfl, lk, hcd⟩ := F.ex
  refine ⟨len, fun A outer s H args us vs Q E room quiet env binds rel want => ?_⟩
  have stays : ∀ b o, base.get? b = some o → s.heap.get? b = some o := fun b o e => (env.bs b o e).1
  have inK : K.In s.heap := env.mod.kin.keeps stays
  have free : s.heap.NoLimit := env.mod.nolimit.keeps stays
  refine codeAny_call_function room.depth (inK _ _ lk) rfl S.co S.gen rfl (PySem.W.codeRec_of inK hcd) (binds _ _ _ _ ?_)
  refine wpAny_newFunctionEnv_cells S.kind (fun ⟨n, v⟩ hy => (S.par n (List.of_mem_zip hy).1).imp id fun q => ⟨q, PySem.W.cellsFrom_some _ _ _ (.inl q)⟩) fun env1 e1 s1 c1 => ?_
  subst e1
  refine ⟨free.keeps c1.toInCall.keep, codeAny_func ?_⟩
  obtain ⟨t, d, q⟩ := body cdv A outer s H vs Q E (room.deeper _) quiet want
  refine wpAny_mono (d.nox.run [] s1 (start N vs) H _ (inv_start S room.hd env (len _ _ _ _ want) rel c1) q) (fun fl s2 h2 => ?_) fun e s2 h2 => h2
  cases fl with
  | ret u =>
    obtain ⟨v, σ2, G, J, rv, r⟩ := h2
    exact ⟨v, G, J.os, J.bare, J.base, J.hok, rv, r⟩
  | next =>
    obtain ⟨σ2, G, J, r⟩ := h2
    exact ⟨V.non, G, J.os, J.bare, J.base, J.hok, rfl, r⟩
  | brk => exact (h2.choose_spec.choose_spec.2 : False).elim
  | cont => exact (h2.choose_spec.choose_spec.2 : False).elim
structure CalG (P : Program) (w : World) (K : PySem.W.Frag) (mg : Str → Option Value) (base : Heap) (k : Nat) (x : Str) (ps : List Str) (sp : Sp) : Prop where
  ex : ∃ (f : Addr) (fd : FuncData), FnG P w K mg base k f fd ps sp ∧ mg x = some (.ref f) ∧ PySem.W.keepIn K (.ref f) = true ∧ Binds K fd ps []
theorem At.calG {x : Str} {st : Stmt} {N ps : List Str} {k : Nat} {sp : Sp} (D : At K mg x st ps) (S : FnScope N ps (defScope st)) (len : ∀ vs H Q E, sp vs H Q E → vs.length = ps.length)
    (body : ∀ (f : Addr) (cdv : Value) (A : Around) (outer : List Env) (s : Shared) (H : Hp) (vs : List V) (Q : VK) (E : XK), Room k (A.deeper (envOfC x (defScope st) s.heap.objs.size f cdv)) → A.guards = some [] → sp vs H Q E →
      ∃ t, PSs (cxOf CX0 P w K mg base N x (defScope st) f cdv A outer s H E).nox (defBody st) t ∧ t { nx := fun _ G => Q .non G, rt := Q } (start N vs) H) : CalG P w K mg base (k + 1) x ps sp := by
  obtain ⟨f, fd, F, b, g⟩ := D.ex
  exact ⟨f, fd, okG F S len (body f), g, F.kp, b⟩
end
def tCallG (sp : Sp) (t : TA) : TE := fun σ H Q => t σ H fun vs G => sp vs G Q E0
section
variable {X : Cx} {k j : Nat} {x : Str} {ps : List Str} {sp : Sp} {p pos : Pos} {e : Expr} {es : List Expr} {t : TA}
theorem pe_ownG (c : CalG X.prog X.w X.K X.mg X.base k x ps sp) (hr : Room j X.A) (hk : k ≤ j) (quiet : X.A.guards = some []) (hg : Gl X x) (ha : PA X (e :: es) t)
    (hdb : (x == ("__debug__" : Str)) = false := by decide) (he : starEach (e :: es) X.env = (false, eval e X.env) :: starEach es X.env := by rfl) (hpl : (backTo pos (starEach es X.env)).any (·.1) = false := by rfl) :
    PE X (.Call (.Name x p) (e :: es) [] pos) (tCallG sp t) := by
  obtain ⟨f, fd, F, hm, kp, b⟩ := c.ex
  refine ⟨fun pins s σ H Q I h => wpAny_Call_Name_kw (ld_glob I hg hm (PySem.W.callWith_K (h₀ := X.base) I.ok.mod.kin kp (thn (ha.run pos pins s σ H _ I h) fun us s1 ⟨vs, G, I1, r, q⟩ => ⟨I1.kIn, ?_⟩) he hpl) hdb)⟩
  have ll : (us ++ []).length = ps.length := by
    rw [List.append_nil, ← r.length]
    exact F.len _ _ _ _ q
  have bt := b s1 us I1.kIn ll
  rw [List.append_nil] at bt
  refine wpAny_call (codeAny_mono (F.run X.A X.stack s1 G ⟨us, []⟩ us vs Q E0 (hr.mono hk) quiet I1.env0 bt r q) fun rr s2 h2 => ?_)
  cases rr with
  | error e => exact (h2 : False).elim
  | ok fl =>
    cases fl with
    | ret u => exact I1.after h2
    | next => exact (h2 : False).elim
    | brk => exact (h2 : False).elim
    | cont => exact (h2 : False).elim
end
end Gu
namespace Gu
open PySem PySem.Spec PyProof.Rows L2
/-- a heap in which nothing is tracked but, at most, the script at a, which stands still there -/
theorem quiet_end {P : Program} {w : World} {K : PySem.W.Frag} {mg mb : Str → Option Value} {k : Nat} {fa a : Addr} {fd : FuncData} {x : Str} {sp : Sp} {s : Shared} {us : List Value} {H : Hp} (inK : K.In s.heap) (nsG : s.heap.Ns mainGlobals mg) (nsB : s.heap.Ns builtinsNs mb)
    (bb : ∀ x : Str, x ≠ "__name__" → mb x = bootBuiltins x) (nl : s.heap.NoLimit) (ng : s.gens = #[]) (at_a : s.heap.get? a = some { cls := .type "list", data := .seq us.toArray }) (room : Room k callerA)
    (F : ∀ base : Heap, K.In base → base.Ns mainGlobals mg → FnG P w K mg base k fa fd [x] sp) (bind : ∀ (s : Shared) (u : Value), BindsTo s fd ⟨[u], []⟩ [(x, u)]) (want : sp [.ref a] H (fun v _ => v = .bl true) fun _ _ _ => False)
    (only : Only H) (ok : HOk P w H s.heap) (one : ∀ b, H b ≠ none → b = a ∧ K.lookup a = none) :
    codeAny (model P w) callerA (.call (.ref fa) ⟨[.ref a], []⟩) (fun r s2 => r = .ok (.ret (.bool true)) ∧ OldK s.heap s2.heap ∧ s2.os = s.os ∧ AllBare s2.gens) s := by
  have dictFree : ∀ (b : Addr) (o : Obj) (es : Array DictEntry) (ep : Nat), s.heap.get? b = some o → o.data = .dict es ep → H b = none := fun b o es ep e d =>
    Classical.byContradiction fun z => by
      have hb := (one b z).1
      rw [hb, at_a] at e
      cases e
      exact Data.noConfusion d
  have hiddenNs : ∀ (b : Addr) (m : Str → Option Value), s.heap.Ns b m → (hidT s.heap H).Ns b m := fun b m h => by
    obtain ⟨o, es, ep, e, d, r⟩ := h
    exact ⟨o, es, ep, hidT_get e (dictFree b o es ep e d), d, r⟩
  have hiddenK : K.In (hidT s.heap H) := fun b o e => hidT_get (inK b o e) (Classical.byContradiction fun z => by
    obtain ⟨h1, h2⟩ := one b z
    rw [h1, h2] at e
    cases e)
  have env : Env0 P w K mg (hidT s.heap H) callerA [] s H := by
    refine ⟨rfl, ⟨hiddenK, hiddenNs _ _ nsG, ⟨mb, hiddenNs _ _ nsB, bb⟩, ?_⟩, fun b o e => of_hidT e, Nat.le_of_eq (hidT_size _ _), trivial, fun b hb => absurd (show b ∈ ([] : List Addr) from hb) List.not_mem_nil, ok, .of_eq ng⟩
    obtain ⟨mc, h1, h2⟩ := nl
    exact ⟨mc, hiddenNs _ _ h1, h2⟩
  refine codeAny_mono ((F _ hiddenK (hiddenNs _ _ nsG)).run callerA [] s H ⟨[.ref a], []⟩ [.ref a] [.ref a] _ _ room rfl env (bind s (.ref a)) (.cons rfl .nil) want) fun r s2 h2 => ?_
  cases r with
  | error e => exact (h2 : False).elim
  | ok fl =>
    cases fl with
    | next => exact (h2 : False).elim
    | brk => exact (h2 : False).elim
    | cont => exact (h2 : False).elim
    | ret u =>
      obtain ⟨v, G, os, bare, un, ok2, rv, hv⟩ := h2
      cases (show v = .bl true from hv)
      cases (show u = Value.bool true from rv)
      refine ⟨rfl, OldK.of_keep fun b o e => ?_, os, bare⟩
      rcases only b with z | ⟨ob, xs, z⟩
      · exact un.keep b o e z (fun y => absurd (show b ∈ ([] : List Addr) from y) List.not_mem_nil) (by simp)
      · have e1 := (ok b _ z).1
        have e2 := (ok2 b _ (un.frzs b ob _ z)).1
        rw [e] at e1
        cases e1
        exact e2
/-- the law's call, by its promise -/
theorem quiet_call {P : Program} {w : World} {K : PySem.W.Frag} {mg mb : Str → Option Value} {k : Nat} {fa a : Addr} {fd : FuncData} {x : Str} {sp : Sp} {s : Shared} {us : List Value} {ns : List Int} (inK : K.In s.heap) (nsG : s.heap.Ns mainGlobals mg) (nsB : s.heap.Ns builtinsNs mb)
    (bb : ∀ x : Str, x ≠ "__name__" → mb x = bootBuiltins x) (nl : s.heap.NoLimit) (ng : s.gens = #[]) (at_a : s.heap.get? a = some { cls := .type "list", data := .seq us.toArray }) (nums : IntsAre us ns) (small : ns.length ≤ sizeLine) (room : Room k callerA)
    (F : ∀ base : Heap, K.In base → base.Ns mainGlobals mg → FnG P w K mg base k fa fd [x] sp) (bind : ∀ (s : Shared) (u : Value), BindsTo s fd ⟨[u], []⟩ [(x, u)])
    (want : ∀ H : Hp, SqL K H a (ns.map V.int) → sp [.ref a] H (fun v _ => v = .bl true) fun _ _ _ => False) :
    codeAny (model P w) callerA (.call (.ref fa) ⟨[.ref a], []⟩) (fun r s2 => r = .ok (.ret (.bool true)) ∧ OldK s.heap s2.heap ∧ s2.os = s.os ∧ AllBare s2.gens) s := by
  have rel := vals_ints nums
  cases hk : K.lookup a with
  | some o =>
    have e := inK a o hk
    rw [at_a] at e
    cases e
    refine quiet_end (H := fun _ => none) inK nsG nsB bb nl ng at_a room F bind (want _ (.inr ⟨_, us.toArray, _, hk, rfl, rfl, rfl, ?_, rel⟩)) (fun _ => .inl rfl) (fun b u z => nomatch (show (none : Option HO) = some u from z)) fun b z => absurd rfl z
    rw [List.size_toArray, nums.length]
    exact small
  | none =>
    refine quiet_end (H := upd (fun _ => none) a (.frz { cls := .type "list", data := .seq us.toArray } (.lst (ns.map V.int)))) inK nsG nsB bb nl ng at_a room F bind (want _ (.inl (.inr ⟨_, upd_same⟩))) (fun b => ?_) (fun b u z => ?_) fun b z => ?_
    · by_cases hb : b = a
      · exact .inr ⟨_, _, by rw [hb]; exact upd_same⟩
      · exact .inl (upd_ne hb)
    · by_cases hb : b = a
      · subst hb
        rw [upd_same] at z
        cases z
        exact ⟨at_a, by rw [List.length_map]; exact small, us, _, rel, at_a⟩
      · rw [upd_ne hb] at z
        cases z
    · by_cases hb : b = a
      · exact ⟨hb, hk⟩
      · exact absurd (upd_ne hb) z
theorem walkG {l : PySem.W.OpenLaw} {n k : Nat} {q : Program} {loose : List Str} {XP : (Str → Option Value) → Heap → Prop} {YP : World → Heap → Prop} {d : DefRec} {K : Params → PySem.W.Frag} {x : Str} {sp : PySem.W.Frag → Sp} (most : l.most = some n) (small : n ≤ sizeLine) (plain : d.params.defaults = []) (room : Room k callerA)
    (left : ∀ (w : World) (h : Heap), YP w h → (K w.params).In h)
    (F : ∀ (w : World) (mg : Str → Option Value) (fa : Addr) (h : Heap), (K w.params).In h → h.Ns mainGlobals mg → mg d.name = some (.ref fa) → ∃ fd : FuncData, (∀ (s : Shared) (u : Value), BindsTo s fd ⟨[u], []⟩ [(x, u)]) ∧
      ∀ base : Heap, (K w.params).In base → base.Ns mainGlobals mg → FnG l.prog w (K w.params) mg base k fa fd [x] (sp (K w.params)))
    (want : ∀ (w : World) (H : Hp) (a : Addr) (ns : List Int), ns.length ≤ n → SqL (K w.params) H a (ns.map V.int) → sp (K w.params) [.ref a] H (fun v _ => v = .bl true) fun _ _ _ => False) :
    PySem.W.WalkO q loose XP YP l.row.toRowW d [] (fun f vs => PySem.call f vs) := by
  refine Att.attach_call most plain fun w s0 s mg mb fa o pm cd doc a us ns G Y ho hd hcd hmg at_a nums le ng => ?_
  obtain ⟨fd, bind, fn⟩ := F w mg fa _ (left w _ Y) G.T.g hmg
  exact quiet_call (left w _ Y) G.T.g G.T.b G.T.builtins G.T.nolimit ng at_a nums (Nat.le_trans le small) room fn bind fun H hS => want w H a ns le hS
end Gu
namespace Gu
open PySem PySem.Spec PyProof.Rows L2
/-! ### what can be written out -/
structure Fine (n W : Nat) (d : PyData) : Prop where
  nd : d.hasDict = false
  sh : d.showable = true
  ls : d.leavesShort 80 = true
  dp : d.depth ≤ n
  wt : d.weight ≤ W
structure FineAll (n W : Nat) (ds : List PyData) : Prop where
  nd : PyData.hasDictAll ds = false
  sh : PyData.showableAll ds = true
  ls : PyData.leavesShortAll 80 ds = true
  dp : PyData.depthAll ds ≤ n
  wt : PyData.weightAll ds ≤ ds.length * (W + 1)
theorem FineAll.of {n W : Nat} : ∀ {ds : List PyData}, (∀ d ∈ ds, Fine n W d) → FineAll n W ds
  | [], _ => ⟨rfl, rfl, rfl, Nat.zero_le _, Nat.zero_le _⟩
  | d :: ds, h => by
    have a := h d (List.mem_cons_self ..)
    have b := FineAll.of (ds := ds) fun e he => h e (List.mem_cons_of_mem _ he)
    refine ⟨?_, ?_, ?_, Nat.max_le.mpr ⟨a.dp, b.dp⟩, ?_⟩
    · show (d.hasDict || PyData.hasDictAll ds) = false
      rw [a.nd, b.nd]
      rfl
    · show (d.showable && PyData.showableAll ds) = true
      rw [a.sh, b.sh]
      rfl
    · show (d.leavesShort 80 && PyData.leavesShortAll 80 ds) = true
      rw [a.ls, b.ls]
      rfl
    · show d.weight + 1 + PyData.weightAll ds ≤ (ds.length + 1) * (W + 1)
      have := a.wt
      have := b.wt
      rw [Nat.succ_mul]
      omega
theorem FineAll.list {n W : Nat} {ds : List PyData} (a : FineAll n W ds) : Fine (n + 1) (ds.length * (W + 1)) (.list ds) := ⟨a.nd, a.sh, a.ls, Nat.succ_le_succ a.dp, a.wt⟩
theorem FineAll.tup {n W : Nat} {ds : List PyData} (a : FineAll n W ds) : Fine (n + 1) (ds.length * (W + 1)) (.tuple ds) := ⟨a.nd, a.sh, a.ls, Nat.succ_le_succ a.dp, a.wt⟩
theorem Fine.mono {n m W Z : Nat} {d : PyData} (h : Fine n W d) (a : n ≤ m) (b : W ≤ Z) : Fine m Z d := ⟨h.nd, h.sh, h.ls, Nat.le_trans h.dp a, Nat.le_trans h.wt b⟩
theorem Fine.bool (b : Bool) : Fine 0 0 (.bool b) := ⟨rfl, rfl, rfl, Nat.le_refl _, Nat.le_refl _⟩
theorem Fine.none : Fine 0 0 .none := ⟨rfl, rfl, rfl, Nat.le_refl _, Nat.le_refl _⟩
theorem Fine.int {i : Int} (h : i.natAbs < 2 ^ 70) : Fine 0 70 (.int i) := by
  have l : i.natAbs.log2 < 70 := PySem.Flt.log2_lt_of (by decide) h
  refine ⟨rfl, decide_eq_true (by omega), decide_eq_true ?_, Nat.le_refl _, ?_⟩
  · have e := int_text_length_le (a := i) (k := 70) (by decide) l
    show (Str.ofString (toString i)).length ≤ 80
    rw [PySem.ofString_length]
    omega
  · show (if i == 0 then 0 else i.natAbs.log2 + 1) ≤ 70
    split <;> omega
theorem Fine.str {z : Str} {W : Nat} (h : ∀ c ∈ z.cps.toList, c < 16 ^ 8) (w : z.cps.toList.length ≤ W) : Fine 0 W (.str z) := by
  refine ⟨rfl, rfl, ?_, Nat.le_refl _, w⟩
  show (z.cps.toList.all fun c => decide (c < 16 ^ 8)) = true
  rw [List.all_eq_true]
  exact fun c hc => decide_eq_true (h c hc)
theorem Fine.fits {d : PyData} (h : Fine 60 100000 d) : d.shown.length ≤ sizeLine := by
  have a := PyData.shown_le 80 (by decide) d h.ls
  have b := h.wt
  have c : (80 + 2) * d.weight ≤ 82 * 100000 := Nat.mul_le_mul_left _ b
  have e : sizeLine = 16777216 := by decide
  omega
section
variable {X : Cx}
/-- repr of a list or tuple, where none is being written out -/
theorem call_reprD (quiet : X.A.guards = some []) (hu : X.A.units + 64 < cLine) : CallR X (.builtin "repr") (fun xs H Q => ∃ (a : Addr) (d : PyData), xs = [.ref a] ∧ Dp X.K H (.ref a) d ∧ Fine 60 100000 d ∧ Q (.str d.shown) H) := by
  intro pins s σ H xs us Q I r h
  obtain ⟨a, d, rfl, hd, fine, q⟩ := h
  cases r with
  | cons r rr =>
    cases rr
    cases (show _ = Value.ref a from r)
    obtain ⟨as, rd⟩ := Dp.reads I d (.ref a) (.ref a) hd rfl
    have dp := fine.dp
    exact repr_of_reads' rd fine.sh (PyData.noDict_hsm fine.nd) quiet (by omega) (fun _ _ e => e) (fun g u tk keep => ⟨.str d.shown, H, I.kept (t' := tk) keep, ⟨_, rfl⟩, q⟩) fine.fits
end
end Gu
namespace Gu
open PySem PySem.Spec PyProof.Rows L2
/-! ### things of any kind, an empty dict among them, written out -/
/-- the system's modules are known to stand -/
def Sys (H : Hp) : Prop := ∃ o u, H sysModules = some (.frz o u)
theorem Sys.same {H G : Hp} (h : Sys H) (s : Same H G) : Sys G := by
  obtain ⟨o, u, e⟩ := h
  exact ⟨o, u, s _ _ e⟩
mutual
inductive DpE (K : PySem.W.Frag) (H : Hp) : V → PyData → Prop
  | non : DpE K H .non .none
  | bl (b : Bool) : DpE K H (.bl b) (.bool b)
  | int (i : Int) : DpE K H (.int i) (.int i)
  | str (x : Str) : DpE K H (.str x) (.str x)
  | lst {a : Addr} {xs : List V} {ds : List PyData} : H a = some (.lst xs) → DpEs K H xs ds → DpE K H (.ref a) (.list ds)
  | tup {a : Addr} {xs : List V} {ds : List PyData} : SqT K H a xs → DpEs K H xs ds → DpE K H (.ref a) (.tuple ds)
  | dict {a : Addr} : H a = some (.dK []) → DpE K H (.ref a) (.dict [])
inductive DpEs (K : PySem.W.Frag) (H : Hp) : List V → List PyData → Prop
  | nil : DpEs K H [] []
  | cons {v : V} {vs : List V} {d : PyData} {ds : List PyData} : DpE K H v d → DpEs K H vs ds → DpEs K H (v :: vs) (d :: ds)
end
theorem stE {K : PySem.W.Frag} {H G : Hp} {a : Addr} {xs : List V} (s : Same H G) (h : SqT K H a xs) : SqT K G a xs := by
  rcases h with (h | ⟨o, h⟩) | h
  · exact .inl (.inl (s _ _ h))
  · exact .inl (.inr ⟨o, s _ _ h⟩)
  · exact .inr h
mutual
theorem DpE.same {K : PySem.W.Frag} {H G : Hp} (s : Same H G) : ∀ {v : V} {d : PyData}, DpE K H v d → DpE K G v d
  | _, _, .non => .non
  | _, _, .bl b => .bl b
  | _, _, .int i => .int i
  | _, _, .str x => .str x
  | _, _, .lst h a => .lst (s _ _ h) (DpEs.same s a)
  | _, _, .tup h a => .tup (stE s h) (DpEs.same s a)
  | _, _, .dict h => .dict (s _ _ h)
theorem DpEs.same {K : PySem.W.Frag} {H G : Hp} (s : Same H G) : ∀ {vs : List V} {ds : List PyData}, DpEs K H vs ds → DpEs K G vs ds
  | _, _, .nil => .nil
  | _, _, .cons a b => .cons (DpE.same s a) (DpEs.same s b)
end
section
variable {X : Cx} {pins : List (Addr × Obj)} {σ : L2.St} {H : Hp} {s : Shared}
mutual
theorem DpE.reads (I : Inv X pins σ H s) (y : Sys H) : ∀ (d : PyData) (v : V) (u : Value), DpE X.K H v d → RelV v u → ∃ as, Reads s.heap u d as ∧ sysModules ∉ as
  | .none, _, _, h, r => by
    cases h
    cases r
    exact ⟨_, Reads.none, List.not_mem_nil⟩
  | .bool b, _, _, h, r => by
    cases h
    cases r
    exact ⟨_, Reads.bool b, List.not_mem_nil⟩
  | .int i, _, _, h, r => by
    cases h
    obtain ⟨t, rfl⟩ := r
    exact ⟨_, Reads.int i t, List.not_mem_nil⟩
  | .str x, _, _, h, r => by
    cases h
    obtain ⟨t, rfl⟩ := r
    exact ⟨_, Reads.str x t, List.not_mem_nil⟩
  | .list ds, _, _, h, r => by
    cases h with
    | @lst a xs _ hs ha =>
      cases r
      obtain ⟨its, rv, ⟨o, n, ho, hc, _, hd⟩, _⟩ := I.list (.inl (.inl hs))
      obtain ⟨as, hr, na⟩ := DpEs.reads I y ds _ its ha rv
      refine ⟨_, Reads.list ho hc hd hr, fun z => ?_⟩
      rcases List.mem_cons.mp z with z | z
      · obtain ⟨o2, u2, e2⟩ := y
        rw [z, hs] at e2
        cases e2
      · exact na z
  | .tuple ds, _, _, h, r => by
    cases h with
    | tup hs ha =>
      cases r
      obtain ⟨its, rv, ⟨o, ho, hc, n, hd⟩, _⟩ := I.tuple hs
      obtain ⟨as, hr, na⟩ := DpEs.reads I y ds _ its ha rv
      exact ⟨_, Reads.tuple ho hc hd hr, na⟩
  | .dict kvs, _, _, h, r => by
    cases h with
    | @dict a hs =>
      cases r
      obtain ⟨_, ns, vs, kv, o, es, ep, ho, ex, hd, hes⟩ := (show ObjOk X.prog X.w H s.heap a (.dK []) from I.hok a _ hs)
      cases kv
      have en : es.toList = [] := by
        have q := hes.2.1
        generalize es.toList = l at q
        cases q
        rfl
      refine ⟨_, Reads.dict (kvs := []) ho ex.1 hd (by rw [en]; exact .nil) (by rw [en]; exact .nil), fun z => ?_⟩
      have z : sysModules = a := by simpa using z
      rw [← z] at ns
      simp at ns
theorem DpEs.reads (I : Inv X pins σ H s) (y : Sys H) : ∀ (ds : List PyData) (vs : List V) (us : List Value), DpEs X.K H vs ds → Vals vs us → ∃ as, ReadsAll s.heap us ds as ∧ sysModules ∉ as
  | [], _, _, h, r => by
    cases h
    cases r
    exact ⟨_, ReadsAll.nil, List.not_mem_nil⟩
  | d :: ds, _, _, h, r => by
    cases h with
    | cons h1 h2 =>
      cases r with
      | cons r1 r2 =>
        obtain ⟨as, q1, n1⟩ := DpE.reads I y d _ _ h1 r1
        obtain ⟨bs, q2, n2⟩ := DpEs.reads I y ds _ _ h2 r2
        exact ⟨_, ReadsAll.cons q1 q2, fun z => (List.mem_append.mp z).elim n1 n2⟩
end
end
/-- what can be written out -/
structure FineE (n W : Nat) (d : PyData) : Prop where
  sh : d.showable = true
  ls : d.leavesShort 80 = true
  dp : d.depth ≤ n
  wt : d.weight ≤ W
theorem Fine.e {n W : Nat} {d : PyData} (h : Fine n W d) : FineE n W d := ⟨h.sh, h.ls, h.dp, h.wt⟩
structure FineEs (n W : Nat) (ds : List PyData) : Prop where
  sh : PyData.showableAll ds = true
  ls : PyData.leavesShortAll 80 ds = true
  dp : PyData.depthAll ds ≤ n
  wt : PyData.weightAll ds ≤ ds.length * (W + 1)
theorem FineEs.of {n W : Nat} : ∀ {ds : List PyData}, (∀ d ∈ ds, FineE n W d) → FineEs n W ds
  | [], _ => ⟨rfl, rfl, Nat.zero_le _, Nat.zero_le _⟩
  | d :: ds, h => by
    have a := h d (List.mem_cons_self ..)
    have b := FineEs.of (ds := ds) fun e he => h e (List.mem_cons_of_mem _ he)
    refine ⟨?_, ?_, Nat.max_le.mpr ⟨a.dp, b.dp⟩, ?_⟩
    · show (d.showable && PyData.showableAll ds) = true
      rw [a.sh, b.sh]
      rfl
    · show (d.leavesShort 80 && PyData.leavesShortAll 80 ds) = true
      rw [a.ls, b.ls]
      rfl
    · show d.weight + 1 + PyData.weightAll ds ≤ (ds.length + 1) * (W + 1)
      have := a.wt
      have := b.wt
      rw [Nat.succ_mul]
      omega
theorem FineEs.list {n W : Nat} {ds : List PyData} (a : FineEs n W ds) : FineE (n + 1) (ds.length * (W + 1)) (.list ds) := ⟨a.sh, a.ls, Nat.succ_le_succ a.dp, a.wt⟩
theorem FineEs.tup {n W : Nat} {ds : List PyData} (a : FineEs n W ds) : FineE (n + 1) (ds.length * (W + 1)) (.tuple ds) := ⟨a.sh, a.ls, Nat.succ_le_succ a.dp, a.wt⟩
theorem FineE.mono {n m W Z : Nat} {d : PyData} (h : FineE n W d) (a : n ≤ m) (b : W ≤ Z) : FineE m Z d := ⟨h.sh, h.ls, Nat.le_trans h.dp a, Nat.le_trans h.wt b⟩
theorem FineE.dict0 : FineE 1 0 (.dict []) := ⟨rfl, rfl, Nat.le_refl _, Nat.le_refl _⟩
theorem FineE.fits {d : PyData} (h : FineE 60 100000 d) : d.shown.length ≤ sizeLine := by
  have a := PyData.shown_le 80 (by decide) d h.ls
  have b := h.wt
  have c : (80 + 2) * d.weight ≤ 82 * 100000 := Nat.mul_le_mul_left _ b
  have e : sizeLine = 16777216 := by decide
  omega
section
variable {X : Cx}
/-- repr of a list or tuple that may hold empty dicts -/
theorem call_reprE (quiet : X.A.guards = some []) (hu : X.A.units + 64 < cLine) : CallR X (.builtin "repr") (fun xs H Q => ∃ (a : Addr) (d : PyData), xs = [.ref a] ∧ Sys H ∧ DpE X.K H (.ref a) d ∧ FineE 60 100000 d ∧ Q (.str d.shown) H) := by
  intro pins s σ H xs us Q I r h
  obtain ⟨a, d, rfl, y, hd, fine, q⟩ := h
  cases r with
  | cons r rr =>
    cases rr
    cases (show _ = Value.ref a from r)
    obtain ⟨as, rd, nas⟩ := DpE.reads I y d (.ref a) (.ref a) hd rfl
    have dp := fine.dp
    exact repr_of_reads' rd fine.sh (fun _ => nas) quiet (by omega) (fun _ _ e => e) (fun g u tk keep => ⟨.str d.shown, H, I.kept (t' := tk) keep, ⟨_, rfl⟩, q⟩) fine.fits
end
end Gu
namespace Gu
open PySem PySem.Spec PyProof.Rows L2 LamX
/-! ### the law's end where defs make lambdas: their tables are tracked -/
abbrev tabNil : Obj := { cls := .none, data := .fields #[] }
theorem quiet_endT {P : Program} {w : World} {K : PySem.W.Frag} {mg mb : Str → Option Value} {k : Nat} {fa a : Addr} {cs : List (Addr × Addr)} {fd : FuncData} {x : Str} {sp : Sp} {s : Shared} {us : List Value} {H : Hp} (inK : K.In s.heap) (nsG : s.heap.Ns mainGlobals mg) (nsB : s.heap.Ns builtinsNs mb)
    (bb : ∀ x : Str, x ≠ "__name__" → mb x = bootBuiltins x) (nl : s.heap.NoLimit) (ng : s.gens = #[]) (at_a : s.heap.get? a = some { cls := .type "list", data := .seq us.toArray }) (room : Room k callerA)
    (tabs : ∀ p ∈ cs, PySem.W.CodeHd s.heap p.1 p.2 ∧ s.heap.get? p.2 = some tabNil ∧ K.lookup p.2 = none)
    (bm : ∃ (m : Addr) (ob : Obj), mg "__builtins__" = some (.ref m) ∧ m ≠ builtinsNs ∧ s.heap.get? m = some ob ∧ ob.cls = .type "module" ∧ ob.dict = some builtinsNs ∧ ob.data = .plain)
    (F : ∀ base : Heap, K.In base → base.Ns mainGlobals mg → (∀ p ∈ cs, TabB base mg p.1 p.2) → FnG P w K mg base k fa fd [x] sp) (bind : ∀ (s : Shared) (u : Value), BindsTo s fd ⟨[u], []⟩ [(x, u)]) (want : sp [.ref a] H (fun v _ => v = .bl true) fun _ _ _ => False)
    (sys : ∃ o es n, s.heap.get? sysModules = some o ∧ o.data = .dict es n) (noSys : K.lookup sysModules = none)
    (hH : ∀ p ∈ cs, H p.2 = some (.tbl #[])) (kinds : ∀ c, H c = none ∨ c ∈ cs.map (·.2) ∨ ∃ o u, H c = some (.frz o u)) (ok : HOk P w H s.heap) (one : ∀ c, H c ≠ none → (c = a ∧ K.lookup a = none) ∨ c ∈ cs.map (·.2) ∨ c = sysModules) :
    codeAny (model P w) callerA (.call (.ref fa) ⟨[.ref a], []⟩) (fun r s2 => r = .ok (.ret (.bool true)) ∧ OldK s.heap s2.heap ∧ s2.os = s.os ∧ AllBare s2.gens) s := by
  have isTab : ∀ c ∈ cs.map (·.2), s.heap.get? c = some tabNil := fun c hc => by
    obtain ⟨p, hp, rfl⟩ := List.mem_map.mp hc
    exact (tabs p hp).2.1
  have hides : ∀ (c : Addr) (o : Obj), s.heap.get? c = some o → (∀ vs n, o.data ≠ .seq vs n) → o.data ≠ .fields #[] → c ≠ sysModules → H c = none := fun c o e n1 n2 n3 => Classical.byContradiction fun z => by
    rcases one c z with ⟨rfl, _⟩ | hc | hc
    · rw [at_a] at e
      cases e
      exact n1 _ _ rfl
    · rw [isTab c hc] at e
      cases e
      exact n2 rfl
    · exact n3 hc
  have notSys : ∀ (c : Addr) (o : Obj), s.heap.get? c = some o → (∀ es n, o.data ≠ .dict es n) → c ≠ sysModules := fun c o e n1 z => by
    obtain ⟨o2, es, n, e2, d2⟩ := sys
    rw [z, e2] at e
    cases e
    exact n1 _ _ d2
  have hidNs : ∀ (c : Addr) (m : Str → Option Value), c ≠ sysModules → s.heap.Ns c m → (hidT s.heap H).Ns c m := fun c m nc h => by
    obtain ⟨o, es, ep, e, d, r⟩ := h
    exact ⟨o, es, ep, hidT_get e (hides c o e (fun vs n z => by rw [d] at z; cases z) (fun z => by rw [d] at z; cases z) nc), d, r⟩
  have hidK : K.In (hidT s.heap H) := fun c o e => hidT_get (inK c o e) (Classical.byContradiction fun z => by
    rcases one c z with ⟨h1, h2⟩ | hc | hc
    · rw [h1, h2] at e
      cases e
    · obtain ⟨p, hp, rfl⟩ := List.mem_map.mp hc
      rw [(tabs p hp).2.2] at e
      cases e
    · rw [hc, noSys] at e
      cases e)
  have g1 := hidNs mainGlobals mg (by decide) nsG
  have g2 := hidNs builtinsNs mb (by decide) nsB
  have env : Env0 P w K mg (hidT s.heap H) callerA [] s H := by
    refine ⟨rfl, ⟨hidK, g1, ⟨mb, g2, bb⟩, ?_⟩, fun c o e => of_hidT e, Nat.le_of_eq (hidT_size _ _), trivial, fun c hc => absurd (show c ∈ ([] : List Addr) from hc) List.not_mem_nil, ok, .of_eq ng⟩
    obtain ⟨mc, h1, h2⟩ := nl
    exact ⟨mc, hidNs _ _ (by decide) h1, h2⟩
  have tb : ∀ p ∈ cs, TabB (hidT s.heap H) mg p.1 p.2 := fun p hp => by
    obtain ⟨hd, hT, _⟩ := tabs p hp
    refine ⟨?_, ?_, fun z => ?_⟩
    · obtain ⟨o, vs, file, tf, fl, tg, inF, tx, tt, e1, e2, e3, e4, rest⟩ := hd
      refine ⟨o, vs, file, tf, fl, tg, inF, tx, tt, hidT_get e1 (hides _ o e1 (fun us n z => by rw [e3] at z; cases z) (fun z => ?_) (notSys _ o e1 fun es n z => by rw [e3] at z; cases z)), e2, e3, e4, rest⟩
      rw [e3] at z
      cases z
      simp at e4
    · obtain ⟨m, ob, m1, m2, m3, m4, m5, m6⟩ := bm
      refine ⟨m, ob, m1, m2, fun z => ?_, fun z => ?_, hidT_get m3 (hides _ ob m3 (fun us n z => by rw [m6] at z; cases z) (fun z => by rw [m6] at z; cases z) (notSys _ ob m3 fun es n z => by rw [m6] at z; cases z)), m4, m5, m6⟩
      · obtain ⟨o, es, ep, e, d, _⟩ := nsG
        rw [z, e] at m3
        cases m3
        rw [d] at m6
        cases m6
      · rw [z, hT] at m3
        cases m3
        cases m6
    · obtain ⟨o, es, ep, e, d, _⟩ := nsG
      rw [z, hT] at e
      cases e
      cases d
  refine codeAny_mono ((F _ hidK g1 tb).run callerA [] s H ⟨[.ref a], []⟩ [.ref a] [.ref a] _ _ room rfl env (bind s (.ref a)) (.cons rfl .nil) want) fun r s2 h2 => ?_
  cases r with
  | error e => exact (h2 : False).elim
  | ok fl =>
    cases fl with
    | next => exact (h2 : False).elim
    | brk => exact (h2 : False).elim
    | cont => exact (h2 : False).elim
    | ret u =>
      obtain ⟨v, G, os, bare, un, ok2, rv, hv⟩ := h2
      cases (show v = .bl true from hv)
      cases (show u = Value.bool true from rv)
      have stays : ∀ c o, c ∉ cs.map (·.2) → s.heap.get? c = some o → s2.heap.get? c = some o := fun c o nc e => by
        rcases kinds c with z | z | ⟨ob, xs, z⟩
        · exact un.keep c o e z (fun y => absurd (show c ∈ ([] : List Addr) from y) List.not_mem_nil) (by simp)
        · exact absurd z nc
        · have e1 := (ok c _ z).1
          have e2 := (ok2 c _ (un.frzs c ob _ z)).1
          rw [e] at e1
          cases e1
          exact e2
      have grows : ∀ p ∈ cs, ∃ more : Array Value, s2.heap.get? p.2 = some { cls := .none, data := .fields more } := fun p hp => by
        obtain ⟨more, z⟩ := un.tbls p.2 #[] (hH p hp)
        exact ⟨_, ok2 p.2 _ z⟩
      refine ⟨rfl, ⟨fun c o e => ?_, fun c o e => ?_⟩, os, bare⟩
      · by_cases hc : c ∈ cs.map (·.2)
        · obtain ⟨p, hp, rfl⟩ := List.mem_map.mp hc
          obtain ⟨more, hm⟩ := grows p hp
          rw [isTab _ hc] at e
          cases e
          exact .inr (.inl ⟨((tabs p hp).1.tab (tabs p hp).2.1).isCodeTable, rfl, #[], more, rfl, by rw [Array.empty_append]; exact hm⟩)
        · exact .inl (stays c o hc e)
      · by_cases hc : c ∈ cs.map (·.2)
        · obtain ⟨p, hp, rfl⟩ := List.mem_map.mp hc
          obtain ⟨more, hm⟩ := grows p hp
          exact ⟨_, hm⟩
        · exact ⟨o, stays c o hc e⟩
theorem quiet_callT {P : Program} {w : World} {K : PySem.W.Frag} {mg mb : Str → Option Value} {k : Nat} {fa a : Addr} {cs : List (Addr × Addr)} {fd : FuncData} {x : Str} {sp : Sp} {s : Shared} {us : List Value} {ns : List Int} (inK : K.In s.heap) (nsG : s.heap.Ns mainGlobals mg) (nsB : s.heap.Ns builtinsNs mb)
    (bb : ∀ x : Str, x ≠ "__name__" → mb x = bootBuiltins x) (nl : s.heap.NoLimit) (ng : s.gens = #[]) (at_a : s.heap.get? a = some { cls := .type "list", data := .seq us.toArray }) (nums : IntsAre us ns) (small : ns.length ≤ sizeLine) (room : Room k callerA)
    (tabs : ∀ p ∈ cs, PySem.W.CodeHd s.heap p.1 p.2 ∧ s.heap.get? p.2 = some tabNil ∧ K.lookup p.2 = none)
    (bm : ∃ (m : Addr) (ob : Obj), mg "__builtins__" = some (.ref m) ∧ m ≠ builtinsNs ∧ s.heap.get? m = some ob ∧ ob.cls = .type "module" ∧ ob.dict = some builtinsNs ∧ ob.data = .plain)
    (F : ∀ base : Heap, K.In base → base.Ns mainGlobals mg → (∀ p ∈ cs, TabB base mg p.1 p.2) → FnG P w K mg base k fa fd [x] sp) (bind : ∀ (s : Shared) (u : Value), BindsTo s fd ⟨[u], []⟩ [(x, u)])
    (sys : ∃ o es n, s.heap.get? sysModules = some o ∧ o.data = .dict es n) (noSys : K.lookup sysModules = none)
    (want : ∀ H : Hp, (∀ p ∈ cs, H p.2 = some (.tbl #[])) → Sys H → SqL K H a (ns.map V.int) → sp [.ref a] H (fun v _ => v = .bl true) fun _ _ _ => False) :
    codeAny (model P w) callerA (.call (.ref fa) ⟨[.ref a], []⟩) (fun r s2 => r = .ok (.ret (.bool true)) ∧ OldK s.heap s2.heap ∧ s2.os = s.os ∧ AllBare s2.gens) s := by
  have rel := vals_ints nums
  have isTab : ∀ c ∈ cs.map (·.2), s.heap.get? c = some tabNil := fun c hc => by
    obtain ⟨p, hp, rfl⟩ := List.mem_map.mp hc
    exact (tabs p hp).2.1
  have na : a ∉ cs.map (·.2) := fun z => by
    have q := isTab a z
    rw [at_a] at q
    cases q
  have mem : ∀ p ∈ cs, p.2 ∈ cs.map (·.2) := fun p hp => List.mem_map.mpr ⟨p, hp, rfl⟩
  obtain ⟨so, ses, sn, sg, sd⟩ := id sys
  have ns1 : sysModules ∉ cs.map (·.2) := fun z => by
    have q := isTab _ z
    rw [sg] at q
    cases q
    cases sd
  have ns2 : a ≠ sysModules := fun z => by
    rw [z, sg] at at_a
    cases at_a
    cases sd
  let T : Hp := upd (fun c => if c ∈ cs.map (·.2) then some (.tbl #[]) else none) sysModules (.frz so (.ext fun h => ∃ o, h.get? sysModules = some o))
  have tS : T sysModules = some (.frz so (.ext fun h => ∃ o, h.get? sysModules = some o)) := upd_same
  have tIn : ∀ {c}, c ∈ cs.map (·.2) → T c = some (.tbl #[]) := fun {c} hc => by
    show upd _ _ _ c = _
    rw [upd_ne fun z => ns1 (by rw [← z]; exact hc)]
    exact if_pos hc
  have tOut : ∀ {c}, c ∉ cs.map (·.2) → c ≠ sysModules → T c = none := fun {c} hc hn => by
    show upd _ _ _ c = _
    rw [upd_ne hn]
    exact if_neg hc
  have tKind : ∀ c, T c = none ∨ c ∈ cs.map (·.2) ∨ ∃ o u, T c = some (.frz o u) := fun c => by
    by_cases hc : c ∈ cs.map (·.2)
    · exact .inr (.inl hc)
    · by_cases hs : c = sysModules
      · exact .inr (.inr ⟨_, _, by rw [hs]; exact tS⟩)
      · exact .inl (tOut hc hs)
  have tOk : ∀ (H : Hp) c u, T c = some u → ObjOk P w H s.heap c u := fun H c u z => by
    by_cases hc : c ∈ cs.map (·.2)
    · rw [tIn hc] at z
      cases z
      exact isTab c hc
    · by_cases hs : c = sysModules
      · subst hs
        rw [tS] at z
        cases z
        exact ⟨sg, ⟨so, sg⟩, ⟨so, sg⟩, fun h1 h2 ⟨o, e⟩ k => ⟨o, k o e⟩⟩
      · rw [tOut hc hs] at z
        cases z
  have tOne : ∀ c, T c ≠ none → c ∈ cs.map (·.2) ∨ c = sysModules := fun c z => by
    by_cases hc : c ∈ cs.map (·.2)
    · exact .inl hc
    · by_cases hs : c = sysModules
      · exact .inr hs
      · exact absurd (tOut hc hs) z
  cases hk : K.lookup a with
  | some o =>
    have e := inK a o hk
    rw [at_a] at e
    cases e
    have hS : SqL K T a (ns.map V.int) := .inr ⟨_, us.toArray, _, hk, rfl, rfl, rfl, by rw [List.size_toArray, nums.length]; exact small, rel⟩
    exact quiet_endT (H := T) inK nsG nsB bb nl ng at_a room tabs bm F bind (want T (fun p hp => tIn (mem p hp)) ⟨_, _, tS⟩ hS) sys noSys (fun p hp => tIn (mem p hp)) tKind (fun c u z => tOk T c u z) fun c z => .inr (tOne c z)
  | none =>
    have hS : SqL K (upd T a (.frz { cls := .type "list", data := .seq us.toArray } (.lst (ns.map V.int)))) a (ns.map V.int) := .inl (.inr ⟨_, upd_same⟩)
    have up : ∀ p ∈ cs, upd T a (.frz { cls := .type "list", data := .seq us.toArray } (.lst (ns.map V.int))) p.2 = some (.tbl #[]) := fun p hp => by
      rw [upd_ne fun z => na (by rw [← z]; exact mem p hp)]
      exact tIn (mem p hp)
    refine quiet_endT (H := upd T a (.frz { cls := .type "list", data := .seq us.toArray } (.lst (ns.map V.int)))) inK nsG nsB bb nl ng at_a room tabs bm F bind (want _ up ⟨_, _, by rw [upd_ne ns2.symm]; exact tS⟩ hS) sys noSys up (fun c => ?_) (fun c u z => ?_) fun c z => ?_
    · by_cases hc : c = a
      · exact .inr (.inr ⟨_, _, by rw [hc]; exact upd_same⟩)
      · rw [upd_ne hc]
        exact tKind c
    · by_cases hc : c = a
      · subst hc
        rw [upd_same] at z
        cases z
        exact ⟨at_a, by rw [List.length_map]; exact small, us, _, rel, at_a⟩
      · rw [upd_ne hc] at z
        exact tOk _ c u z
    · by_cases hc : c = a
      · exact .inl ⟨hc, hk⟩
      · rw [upd_ne hc] at z
        exact .inr (tOne c z)
theorem sys_there {h : Heap} (n : h.NoSeer) : ∃ o es ep, h.get? sysModules = some o ∧ o.data = .dict es ep := by
  obtain ⟨mm, ⟨o, es, ep, e, d, _⟩, _⟩ := n.mods
  exact ⟨o, es, ep, e, d⟩
/-- what the head tells of the tables of the defs of q -/
def TabsOf (q : Program) (K : PySem.W.Frag) (h : Heap) : Prop := ∀ (x : Str) (d : DefRec) (c P : Addr), (recsOf q).find? (fun e => e.name == x) = some d → PySem.W.tabIn K x = some (c, P) → PySem.W.CodeHd h c P ∧ h.get? P = some tabNil
theorem walkGT {l : PySem.W.OpenLaw} {n k : Nat} {q : Program} {loose : List Str} {XP : (Str → Option Value) → Heap → Prop} {YP : World → Heap → Prop} {d : DefRec} {K : Params → PySem.W.Frag} {x : Str} (most : l.most = some n) (small : n ≤ sizeLine) (plain : d.params.defaults = []) (room : Room k callerA) (alone : importsNone q = true) (noSys : ∀ w : World, (K w.params).lookup sysModules = none)
    (left : ∀ (w : World) (h : Heap), YP w h → (K w.params).In h)
    (F : ∀ (w : World) (mg : Str → Option Value) (fa : Addr) (h : Heap), (K w.params).In h → h.Ns mainGlobals mg → TabsOf q (K w.params) h → mg d.name = some (.ref fa) → ∃ (fd : FuncData) (cs : List (Addr × Addr)) (sp : Sp), (∀ p ∈ cs, PySem.W.CodeHd h p.1 p.2 ∧ h.get? p.2 = some tabNil ∧ (K w.params).lookup p.2 = none) ∧ (∀ (s : Shared) (u : Value), BindsTo s fd ⟨[u], []⟩ [(x, u)]) ∧
      (∀ (H : Hp) (a : Addr) (ns : List Int), ns.length ≤ n → (∀ p ∈ cs, H p.2 = some (.tbl #[])) → Sys H → SqL (K w.params) H a (ns.map V.int) → sp [.ref a] H (fun v _ => v = .bl true) fun _ _ _ => False) ∧
      ∀ base : Heap, (K w.params).In base → base.Ns mainGlobals mg → (∀ p ∈ cs, TabB base mg p.1 p.2) → FnG l.prog w (K w.params) mg base k fa fd [x] sp) :
    PySem.W.WalkO q loose XP YP l.row.toRowW d [] (fun f vs => PySem.call f vs) := by
  refine Att.attach_call most plain fun w s0 s mg mb fa o pm cd doc a us ns G Y ho hd hcd hmg at_a nums le ng => ?_
  have inK := left w _ Y
  obtain ⟨fd, cs, sp, tabs, bind, want, fn⟩ := F w mg fa _ inK G.T.g (fun x d c P h1 h2 => PySem.W.tab_of G.T inK h1 h2) hmg
  exact quiet_callT inK G.T.g G.T.b G.T.builtins G.T.nolimit ng at_a nums (Nat.le_trans le small) room tabs G.T.bmain fn bind (sys_there (G.T.seer alone)) (noSys w) fun H hH hY hS => want H a ns le hH hY hS
end Gu
namespace Gu
open PySem PySem.Spec PyProof.Rows L2
section
variable {P : Program} {w : World} {K : PySem.W.Frag} {mg : Str → Option Value} {base : Heap}
/-! ### _law_ladle -/
def spLadle : Sp := fun vs H Q _ => ∃ (p : Addr) (m : Int), vs = [.ref p, .int m] ∧ Pot H p ∧ 0 < m ∧ m < 1000000 ∧ ∀ d G, 0 ≤ d → d < m → Ladled p H G → Q (.int d) G
theorem cal_ladle (B : Bi mg) (D : At K mg "_law_ladle" s_law_ladle ps_law_ladle) : Cal P w K mg base 1 "_law_ladle" ps_law_ladle spLadle := by
  refine D.cal sc_law_ladle (fun vs H Q E h => ?_) (fun f cdv A outer s H vs Q E hr h => ?_)
  · obtain ⟨p, m, rfl, _⟩ := h
    rfl
  · obtain ⟨p, m, rfl, ⟨x, y, z, hp⟩, m0, m1, k⟩ := h
    refine ⟨_, (pss_cons (ps_asg (pe_op op_add (pe_ix ix_list (pv 0) pe_int (fun _ _ => rfl)) pe_int) (pg_sub (pv 0) pe_int set_list))
      (pss_cons (ps_if (pt_cmpR op_gt (pe_ix ix_list (pv 0) pe_int (fun _ _ => rfl)) pe_int (nomark _)) (pss_cons (ps_asg (pe_callB call_divmod (by rfl) B.divmod (by decide +kernel) (pa_cons (pe_callTy call_int1 (by rfl) B.int (by decide +kernel) (pa_cons (pe_ix ix_list (pv 0) pe_int (fun _ _ => rfl)) pa_nil)) (pa_cons (pv 1) pa_nil))) (pg_tup rfl (pgs_cons (pg_sub (pv 0) pe_int set_list) (pgs_cons (pg_name (i := 2) sc_law_ladle.nd rfl (.inl rfl)) pgs_nil))))
      (pss_one (ps_ret (pv 2)))) pss_nil)
      (pss_cons (ps_asg (pe_op op_mod (pe_callTy call_int1 (by rfl) B.int (by decide +kernel) (pa_cons (pe_op op_add (pe_op op_add (pe_op op_mul (pe_ix ix_list (pv 0) pe_int (fun _ _ => rfl)) pe_int) (pe_op op_mul (pe_ix ix_list (pv 0) pe_int (fun _ _ => rfl)) pe_int)) (pe_op op_mul (pe_op op_fdiv (pe_ix ix_list (pv 0) pe_int (fun _ _ => rfl)) pe_int) pe_int)) pa_nil)) pe_int) (pg_sub (pv 0) pe_int set_list))
      (pss_one (ps_ret (pe_op op_mod (pe_callTy call_int1 (by rfl) B.int (by decide +kernel) (pa_cons (pe_op op_fdiv (pe_ix ix_list (pv 0) pe_int (fun _ _ => rfl)) pe_int) pa_nil)) (pv 1))))))), ?_⟩
    refine ⟨_, rfl, p, _, _, _, rfl, rfl, .inl (.inl hp), (rfl : atI [V.int x, V.int y, V.int z] 1 = some (V.int y)), _, _, rfl, rfl, _, rfl, p, _, _, 1, rfl, rfl, hp, rfl, ?_⟩
    have h1 : upd H p (.lst ([V.int x, V.int y, V.int z].set 1 (.int (y + 3)))) p = some (.lst [.int x, .int (y + 3), .int z]) := upd_same
    refine ⟨_, rfl, p, _, _, _, rfl, rfl, .inl (.inl h1), (rfl : atI [V.int x, V.int (y + 3), V.int z] 0 = some (V.int x)), _, _, rfl, rfl, _, rfl, ite2 (fun _ => ?_) (fun _ => ?_)⟩
    · refine ⟨_, rfl, p, _, _, _, rfl, rfl, .inl (.inl h1), (rfl : atI [V.int x, V.int (y + 3), V.int z] 0 = some (V.int x)), .inl ⟨_, rfl, _, rfl, _, _, rfl, ⟨m0, by omega⟩, fun q hq => ?_⟩⟩
      have npq : p ≠ q := ne_of_none h1 hq
      refine ⟨q, _, rfl, .inl (.inl upd_same), rfl, _, _, rfl, ⟨_, rfl, p, _, _, 0, rfl, rfl, (by rw [upd_ne npq]; exact h1), rfl, _, _, rfl, rfl, ?_⟩⟩
      refine ⟨_, rfl, ?_⟩
      refine k (x % m) _ (Int.emod_nonneg _ (by omega)) (Int.emod_lt_of_pos _ m0) ⟨⟨_, _, _, upd_same⟩, fun b o e n => ?_⟩
      have hb : upd H p (.lst ([V.int x, V.int y, V.int z].set 1 (.int (y + 3)))) b = some o := by rw [upd_ne n]; exact e
      rw [upd_ne n, upd_ne (ne_of_none hb hq), upd_ne n]
      exact e
    · refine ⟨_, rfl, p, _, _, _, rfl, rfl, .inl (.inl h1), (rfl : atI [V.int x, V.int (y + 3), V.int z] 2 = some (V.int z)), _, _, rfl, rfl, .inr ⟨by decide, by decide⟩, _, rfl, p, _, _, _, rfl, rfl, .inl (.inl h1), (rfl : atI [V.int x, V.int (y + 3), V.int z] 1 = some (V.int (y + 3))), _, _, rfl, rfl, .inr ⟨by decide, by decide⟩, _, _, rfl, rfl, ?_⟩
      refine ⟨_, rfl, p, _, _, _, rfl, rfl, .inl (.inl h1), (rfl : atI [V.int x, V.int (y + 3), V.int z] 2 = some (V.int z)), _, _, rfl, rfl, ⟨by decide, by decide⟩, _, _, rfl, rfl, .inr ⟨by decide, by decide⟩, _, _, rfl, rfl, .inl ⟨_, rfl, _, _, rfl, rfl, (by decide : (0 : Int) < 1999999889), ?_⟩⟩
      refine ⟨_, rfl, p, _, _, 2, rfl, rfl, h1, rfl, ?_⟩
      refine ⟨_, rfl, p, _, _, _, rfl, rfl, .inl (.inl upd_same), rfl, _, _, rfl, rfl, ⟨by decide, by decide⟩, .inl ⟨_, rfl, _, rfl, _, _, rfl, rfl, m0, ?_⟩⟩
      refine k _ _ (Int.emod_nonneg _ (by omega)) (Int.emod_lt_of_pos _ m0) ⟨⟨_, _, _, upd_same⟩, fun b o e n => ?_⟩
      rw [upd_ne n, upd_ne n]
      exact e
/-! ### _law_one_of: of a list or of a text -/
def spOneOf (K : PySem.W.Frag) : Sp := fun vs H Q _ => ∃ (p : Addr), Pot H p ∧
  ((∃ (l : Addr) (xs : List V), vs = [.ref p, .ref l] ∧ SqL K H l xs ∧ l ≠ p ∧ 0 < xs.length ∧ xs.length < 1000 ∧ ∀ v G, v ∈ xs → Ladled p H G → Q v G) ∨
   (∃ (z : Str), vs = [.ref p, .str z] ∧ 0 < z.cps.toList.length ∧ z.cps.toList.length < 1000 ∧ ∀ c G, c ∈ z.cps.toList → Ladled p H G → Q (.str ⟨#[c]⟩) G))
theorem Ladled.seq {K : PySem.W.Frag} {H G : Hp} {p l : Addr} {xs : List V} (a : Ladled p H G) (n : l ≠ p) (h : SqL K H l xs) : SqL K G l xs := by
  rcases h with (h | ⟨o, h⟩) | h
  · exact .inl (.inl (a.keep _ _ h n))
  · exact .inl (.inr ⟨o, a.keep _ _ h n⟩)
  · exact .inr h
theorem at_in {α : Type} {xs : List α} {d : Int} (h0 : 0 ≤ d) (h1 : d < (xs.length : Int)) : ∃ v, v ∈ xs ∧ atI xs d = some v := by
  obtain ⟨j, rfl⟩ := Int.eq_ofNat_of_zero_le h0
  have hj : j < xs.length := by omega
  exact ⟨xs[j], List.getElem_mem hj, atI_nat (List.getElem?_eq_getElem hj)⟩
theorem cal_oneOf (B : Bi mg) (D : At K mg "_law_one_of" s_law_one_of ps_law_one_of) (C_law_ladle : Cal P w K mg base 1 "_law_ladle" ps_law_ladle spLadle) : Cal P w K mg base 2 "_law_one_of" ps_law_one_of (spOneOf K) := by
  refine D.cal sc_law_one_of (fun vs H Q E h => ?_) (fun f cdv A outer s H vs Q E hr h => ?_)
  · obtain ⟨p, _, ⟨l, xs, rfl, _⟩ | ⟨z, rfl, _⟩⟩ := h
    · rfl
    · rfl
  · refine ⟨_, (pss_one (ps_ret (pe_ix ix_seq (pv 1) (pe_own C_law_ladle hr (by decide) (by rfl) (pa_cons (pv 0) (pa_cons (pe_callB call_len (by rfl) B.len (by decide +kernel) (pa_cons (pv 1) pa_nil)) pa_nil))) (fun _ _ => rfl)))), ?_⟩
    obtain ⟨p, hp, ⟨l, xs, rfl, hl, np, l0, l1, k⟩ | ⟨z, rfl, l0, l1, k⟩⟩ := h
    · refine ⟨_, rfl, _, rfl, _, rfl, _, _, rfl, .inl ⟨_, hl, rfl⟩, p, _, rfl, hp, by omega, by omega, fun d G d0 d1 L => ?_⟩
      obtain ⟨v, hv, ha⟩ := at_in (xs := xs) d0 d1
      exact .inl ⟨l, xs, d, v, rfl, rfl, L.seq np hl, ha, k v G hv L⟩
    · have ez : z.length = z.cps.toList.length := rfl
      refine ⟨_, rfl, _, rfl, _, rfl, _, _, rfl, ⟨Nat.le_of_lt (small1000 (by omega)), rfl⟩, p, _, rfl, hp, by omega, by omega, fun d G d0 d1 L => ?_⟩
      obtain ⟨c, hc, ha⟩ := at_in (xs := z.cps.toList) d0 (by omega)
      exact .inr (.inr ⟨z, d, c, rfl, rfl, Nat.le_of_lt (small1000 (by omega)), ha, k c G hc L⟩)
/-! ### _law_pot -/
def spPot (K : PySem.W.Frag) : Sp := fun vs H Q _ => ∃ (a : Addr) (k : Nat) (ns : List Int), vs = [.ref a, .int (k : Int)] ∧ SqL K H a (ns.map V.int) ∧ k < 1000 ∧ ∀ p G, H p = none → Pot G p → Same H G → Q (.ref p) G
theorem cal_pot (B : Bi mg) (D : At K mg "_law_pot" s_law_pot ps_law_pot) : Cal P w K mg base 1 "_law_pot" ps_law_pot (spPot K) := by
  refine D.cal sc_law_pot (fun vs H Q E h => ?_) (fun f cdv A outer s H vs Q E hr h => ?_)
  · obtain ⟨a, k, ns, rfl, _⟩ := h
    rfl
  · obtain ⟨a, k, ns, rfl, hS, hk, q⟩ := h
    refine ⟨_, (pss_cons (ps_set (i := 2) sc_law_pot.nd rfl (.inl rfl) (pe_mid (pe_ifExp (pt_cmpR op_lt (pv 1) (pe_callB call_len_seq (by rfl) B.len (by decide +kernel) (pa_cons (pv 0) pa_nil)) (nomark _)) (pe_callTy call_int1 (by rfl) B.int (by decide +kernel) (pa_cons (pe_ix ix_list (pv 0) (pv 1) (fun _ _ => rfl)) pa_nil)) (pe_op op_add (pe_op op_mul pe_int (pv 1)) pe_int))))
      (pss_cons (ps_set (i := 3) sc_law_pot.nd rfl (.inl rfl) (pe_op op_add pe_int (pe_op op_mul pe_int (pv 1))))
      (pss_cons (ps_for PassesOwn.never rfl (pi_list (pe_slice sl_list (pv 0) po_none (po_some pe_int))) (pg_name (i := 4) sc_law_pot.nd rfl (.inl rfl))
      (pss_one (ps_set (i := 3) sc_law_pot.nd rfl (.inl rfl) (pe_op op_mod (pe_callTy call_int1 (by rfl) B.int (by decide +kernel) (pa_cons (pe_op op_add (pe_op op_mul (pv 3) pe_int) (pe_op op_mod (pe_callTy call_int1 (by rfl) B.int (by decide +kernel) (pa_cons (pv 4) pa_nil)) pe_int)) pa_nil)) pe_int))))
      (pss_one (ps_ret (pe_lst (pa_cons (pe_mid (pe_ifExp (PW.pt (pw_or (pt_cmpR op_lt (pv 2) pe_int (nomark _)) (pw_or1 (pt_cmpR op_ge (pv 2) (pe_op op_pow pe_int pe_int) (nomark _))))) (pe_callB call_abs (by rfl) B.abs (by decide +kernel) (pa_cons (pv 2) pa_nil)) pe_int)) (pa_cons pe_int (pa_cons (pe_op op_mod (pe_callTy call_int1 (by rfl) B.int (by decide +kernel) (pa_cons (pe_op op_add (pe_op op_mul (pv 3) pe_int) (pe_op op_mod (pv 2) pe_int)) pa_nil)) pe_int) pa_nil))))))))), ?_⟩
    refine ⟨fun v G => (∃ i : Int, v = .int i) ∧ G = H, ?_, ?_⟩
    · refine ⟨_, rfl, _, rfl, a, _, rfl, .inl hS, _, _, rfl, rfl, _, rfl, ite2 (fun e => ?_) (fun _ => ?_)⟩
      · have hlt := of_decide_eq_true e
        have hj : k < ns.length := by
          rw [List.length_map] at hlt
          omega
        refine ⟨_, rfl, _, rfl, a, _, _, _, rfl, rfl, hS, atI_nat (j := k) (v := .int ns[k]) (by rw [List.getElem?_map, List.getElem?_eq_getElem hj]; rfl), .inl ⟨_, rfl, ⟨_, rfl⟩, rfl⟩⟩
      · refine ⟨_, rfl, _, _, rfl, rfl, .inl ⟨by decide, by decide⟩, _, _, rfl, rfl, ⟨_, rfl⟩, rfl⟩
    · rintro _ H0 ⟨⟨own, rfl⟩, eH⟩
      subst eH
      refine ⟨_, rfl, _, _, rfl, rfl, .inl ⟨by decide, by decide⟩, _, _, rfl, rfl, ?_⟩
      refine ⟨_, rfl, 14, rfl, a, _, rfl, hS, fun c nc => ?_⟩
      have sc : Same H0 (upd H0 c (.lst (cutV (ns.map V.int) none (some 14)))) := same_new nc
      have hC : cutV (ns.map V.int) none (some 14) = (ns.take 14).map V.int := by
        unfold cutV
        rw [HT.sIx_none, show HT.sIx (ns.map V.int).length (ns.map V.int).length (some 14) = min 14 (ns.map V.int).length from HT.sIx_nat _ _ 14, List.drop_zero, Nat.sub_zero, List.map_take, List.take_eq_take_iff]
        omega
      refine ⟨c, rfl, ⟨_, .inl (.inl upd_same)⟩, for_list (K := K) (a := c) (xs := (ns.take 14).map V.int) (fun i σ J => ∃ (mx : Int) (u : Option V), σ = [some (.ref a), some (.int (k : Int)), some (.int own), some (.int mx), u] ∧ Same H0 J ∧ J c = some (.lst ((ns.take 14).map V.int)))
        ⟨_, none, rfl, sc, by rw [upd_same, hC]⟩ (fun i σ J _ ⟨_, _, _, _, e⟩ => .inl (.inl e)) ?_ ?_⟩
      · rintro i v σ J hi ⟨mx, u, rfl, sJ, eJ⟩
        obtain ⟨t, rfl⟩ : ∃ t, v = V.int t := by
          rw [List.getElem?_map] at hi
          cases e : (ns.take 14)[i]? with
          | none =>
            rw [e] at hi
            cases hi
          | some t =>
            rw [e] at hi
            exact ⟨t, (Option.some.inj hi).symm⟩
        refine ⟨_, rfl, _, _, rfl, rfl, .inr ⟨by decide, by decide⟩, _, rfl, .inl ⟨_, rfl, _, _, rfl, rfl, (by decide : (0 : Int) < 1999999889), _, _, rfl, rfl, .inl ⟨_, rfl, _, _, rfl, rfl, (by decide : (0 : Int) < 1999999889), ?_⟩⟩⟩
        exact ⟨_, _, rfl, sJ, eJ⟩
      · rintro σ J ⟨mx, u, rfl, sJ, eJ⟩
        refine ⟨fun v J1 => (∃ i : Int, v = .int i) ∧ J1 = J, ?_, ?_⟩
        · refine ⟨_, rfl, _, _, rfl, rfl, _, rfl, ite2 (fun _ => ?_) (fun _ => ?_)⟩
          · refine iteT ⟨_, rfl, _, rfl, ⟨_, rfl⟩, rfl⟩
          · refine ⟨_, rfl, _, _, rfl, rfl, ⟨by decide, by decide, by decide⟩, _, _, rfl, rfl, _, rfl, ite2 (fun _ => ⟨_, rfl, _, rfl, ⟨_, rfl⟩, rfl⟩) (fun _ => ⟨⟨_, rfl⟩, rfl⟩)⟩
        · rintro _ _ ⟨⟨x, rfl⟩, rfl⟩
          refine ⟨_, rfl, _, _, rfl, rfl, .inr ⟨by decide, by decide⟩, _, rfl, _, _, rfl, rfl, (by decide : (0 : Int) < 1999999889), _, _, rfl, rfl, .inl ⟨_, rfl, _, _, rfl, rfl, (by decide : (0 : Int) < 1999999889), ?_⟩⟩
          refine ⟨by show 3 ≤ sizeLine; decide, fun p np => ?_⟩
          exact q p _ (sJ.free np) ⟨_, _, _, upd_same⟩ (sJ.trans (same_new np))
end
end Gu
namespace Gu
open PySem PySem.Spec PyProof.Rows L2
/-! ### _law_told -/
def marks : List Str := ["", "~", "..", "...", "a.b", "~"]
/-- four things as they are drawn -/
structure Four (l h t : Int) (z : Str) : Prop where
  l0 : 0 ≤ l
  l1 : l ≤ 40
  h0 : 0 ≤ h
  h1 : h ≤ 40
  t0 : 0 ≤ t
  t1 : t ≤ 40
  z : z ∈ marks
theorem marks_len {z : Str} (h : z ∈ marks) : z.cps.toList.length ≤ 3 := by
  have a : ∀ y ∈ marks, y.cps.toList.length ≤ 3 := by decide +kernel
  exact a z h
end Gu
namespace Gu
open PySem PySem.Spec PyProof.Rows L2
/-! ### _law_tolds -/
structure Rec where
  l : Int
  h : Int
  t : Int
  z : Str
def Rec.vs (r : Rec) : List V := [.int r.l, .int r.h, .int r.t, .str r.z]
def Rec.ok (r : Rec) : Prop := Four r.l r.h r.t r.z
theorem Pot.ne {H : Hp} {p q : Addr} (h : Pot H p) (n : H q = none) : q ≠ p := fun e => by
  subst e
  obtain ⟨o, ho⟩ := h.some
  rw [n] at ho
  cases ho
theorem yes {σ : L2.St} {H : Hp} {Q : Bool → Hp → Prop} (h : Q true H) : tYes σ H Q := h
section
variable {P : Program} {w : World} {K : PySem.W.Frag} {mg : Str → Option Value} {base : Heap}
/-- told tuples: a list of them at D -/
structure ToldsAt (G : Hp) (D : Addr) (ps : List (Addr × Rec)) : Prop where
  ls : G D = some (.lst (ps.map fun q => V.ref q.1))
  tp : ∀ q ∈ ps, G q.1 = some (.tup q.2.vs) ∧ q.2.ok
end
end Gu
namespace Gu
open PySem PySem.Spec PyProof.Rows L2
/-! ### is_integer, is_text -/
/-- isinstance(x, T) is b -/
def Isa (K : PySem.W.Frag) (H : Hp) (x : V) (T : String) (b : Bool) : Prop := ∃ t, TyX K H x t ∧ PySem.W.kitOne K t (.type T) = some b
def signs : Str := ".0123456789abcdefghijklmnopqrstuvwxyz~"
def isTxt (z : Str) (m : Int) : Bool := decide ((z.length : Int) ≤ m) && z.cps.toList.all fun c => decide (c ∈ signs.cps.toList)
section
variable {P : Program} {w : World} {K : PySem.W.Frag} {mg : Str → Option Value} {base : Heap}
theorem Isa.int_int {H : Hp} {i : Int} : Isa K H (.int i) "int" true := ⟨_, .base (.int i), kit_ty (by decide +kernel)⟩
theorem Isa.int_bool {H : Hp} {i : Int} : Isa K H (.int i) "bool" false := ⟨_, .base (.int i), kit_ty (by decide +kernel)⟩
theorem Isa.str_str {H : Hp} {z : Str} : Isa K H (.str z) "str" true := ⟨_, .base (.str z), kit_ty (by decide +kernel)⟩
def spIsInteger (K : PySem.W.Frag) : Sp := fun vs H Q _ => ∃ (x : V) (a b : Int), vs = [x, .int a, .int b] ∧
  ((∃ v, x = .int v ∧ Q (.bl (decide (a ≤ v ∧ v ≤ b))) H) ∨ (Isa K H x "int" false ∧ Q (.bl false) H) ∨ (Isa K H x "int" true ∧ Isa K H x "bool" true ∧ Q (.bl false) H))
theorem cal_isInteger (B : Bi mg) (D : At K mg "is_integer" s_is_integer ps_is_integer) : Cal P w K mg base 1 "is_integer" ps_is_integer (spIsInteger K) := by
  refine D.cal sc_is_integer (fun vs H Q E h => ?_) (fun f cdv A outer s H vs Q E hr h => ?_)
  · obtain ⟨x, a, b, rfl, _⟩ := h
    rfl
  · obtain ⟨x, a, b, rfl, h⟩ := h
    refine ⟨_, (pss_cons (ps_if (PW.pt (pw_or (pt_not (pt_val (pe_callB call_isi (by rfl) B.isinstance (by decide +kernel) (pa_cons (pv 0) (pa_cons (pe_bltn (v := .ty "int") (by rfl) B.int (by decide +kernel) rfl) pa_nil))))) (pw_or1 (pt_val (pe_callB call_isi (by rfl) B.isinstance (by decide +kernel) (pa_cons (pv 0) (pa_cons (pe_bltn (v := .ty "bool") (by rfl) B.bool (by decide +kernel) rfl) pa_nil))))))) (pss_one (ps_ret pe_bl)) pss_nil)
      (pss_one (ps_ret (pe_chain op_le op_le (pv 1) (pv 0) (pv 2))))), ?_⟩
    rcases h with ⟨v, rfl, k⟩ | ⟨⟨t, i1, i2⟩, k⟩ | ⟨⟨t, i1, i2⟩, ⟨t', j1, j2⟩, k⟩
    · obtain ⟨t, i1, i2⟩ := Isa.int_int (K := K) (H := H) (i := v)
      obtain ⟨t', j1, j2⟩ := Isa.int_bool (K := K) (H := H) (i := v)
      refine ⟨_, rfl, _, _, t, _, true, rfl, .ty _, i1, i2, _, rfl, iteF ⟨_, rfl, _, _, t', _, false, rfl, .ty _, j1, j2, _, rfl, iteF ?_⟩⟩
      refine ⟨_, rfl, _, rfl, _, _, rfl, rfl, _, rfl, ?_⟩
      by_cases e1 : a ≤ v
      · rw [decide_eq_true e1]
        refine iteT ⟨_, rfl, _, _, rfl, rfl, ?_⟩
        have e : decide (a ≤ v ∧ v ≤ b) = decide (v ≤ b) := by simp only [e1, true_and]
        rw [e] at k
        exact k
      · rw [decide_eq_false e1]
        refine iteF ?_
        have e : decide (a ≤ v ∧ v ≤ b) = false := by simp only [e1, false_and, decide_false]
        rw [e] at k
        exact k
    · refine ⟨_, rfl, _, _, t, _, false, rfl, .ty _, i1, i2, _, rfl, iteT (iteT k)⟩
    · refine ⟨_, rfl, _, _, t, _, true, rfl, .ty _, i1, i2, _, rfl, iteF ⟨_, rfl, _, _, t', _, true, rfl, .ty _, j1, j2, _, rfl, iteT k⟩⟩
def spIsText (K : PySem.W.Frag) : Sp := fun vs H Q _ => ∃ (x : V) (m : Int), vs = [x, .int m] ∧
  ((∃ z : Str, x = .str z ∧ z.length ≤ 1000 ∧ ∀ G, Same H G → Q (.bl (isTxt z m)) G) ∨ (Isa K H x "str" false ∧ Q (.bl false) H))
theorem cal_isText (B : Bi mg) (D : At K mg "is_text" s_is_text ps_is_text) : Cal P w K mg base 1 "is_text" ps_is_text (spIsText K) := by
  refine D.cal sc_is_text (fun vs H Q E h => ?_) (fun f cdv A outer s H vs Q E hr h => ?_)
  · obtain ⟨x, m, rfl, _⟩ := h
    rfl
  · obtain ⟨x, m, rfl, h⟩ := h
    refine ⟨_, (pss_cons (ps_if (PW.pt (pw_or (pt_not (pt_val (pe_callB call_isi (by rfl) B.isinstance (by decide +kernel) (pa_cons (pv 0) (pa_cons (pe_bltn (v := .ty "str") (by rfl) B.str (by decide +kernel) rfl) pa_nil))))) (pw_or1 (pt_cmpR op_gt (pe_callB call_len (by rfl) B.len (by decide +kernel) (pa_cons (pv 0) pa_nil)) (pv 1) (nomark _))))) (pss_one (ps_ret pe_bl)) pss_nil)
      (pss_one (ps_ret (pe_callB (cr_all rfl) (by rfl) B.all (by decide +kernel) (pa_cons (pe_lc (own := [("character", 2)]) (by rfl) sc_is_text.nd (pi_str (pv 0)) (blkOk_by (own := [("character", 2)]) (N := ["value", "most", "character"]) (sc := defScope s_is_text) (by decide +kernel)) (fun _ _ _ _ _ => pg_name (i := 2) sc_is_text.nd rfl (.inl rfl)) (fun _ _ _ _ _ => pts_nil) (fun _ _ _ _ _ => (pe_cmpR op_in_sign (pv 2) (pe_cst B.SIGNS (by rfl)) (by rfl)))) pa_nil))))), ?_⟩
    rcases h with ⟨z, rfl, zl, k⟩ | ⟨⟨t, i1, i2⟩, k⟩
    · obtain ⟨t, i1, i2⟩ := Isa.str_str (K := K) (H := H) (z := z)
      refine ⟨_, rfl, _, _, t, _, true, rfl, .ty _, i1, i2, _, rfl, iteF ⟨_, rfl, _, _, rfl, ⟨Nat.le_of_lt (small1000 zl), rfl⟩, _, rfl, _, _, rfl, rfl, _, rfl, ite2 (fun e => ?_) (fun e => ?_)⟩⟩
      · have e1 : ¬ (z.length : Int) ≤ m := by
          have := of_decide_eq_true e
          omega
        have e2 : isTxt z m = false := by
          unfold isTxt
          rw [decide_eq_false e1, Bool.false_and]
        rw [e2] at k
        exact k H (Same.refl H)
      · have e1 : (z.length : Int) ≤ m := by
          have h2 : ¬ m < (z.length : Int) := fun h3 => e (decide_eq_true h3)
          omega
        refine ⟨_, rfl, z, rfl, fun D nD => lc_it walk_str (fun i J => Same H J ∧ J D = some (.lst (((z.cps.toList.take i).map fun c => decide (c ∈ signs.cps.toList)).map V.bl)))
          ⟨same_new nD, by rw [upd_same]; rfl⟩ (fun _ _ _ _ => trivial) ?_ ?_⟩
        · rintro i v J _ hi ⟨sJ, eJ⟩ ⟨rfl, c, hc, rfl⟩
          refine ⟨rfl, yes (iteT ?_)⟩
          refine ⟨_, rfl, c, signs, rfl, rfl, _, eJ, small1000 ?_, ?_, ?_⟩
          · rw [List.length_map, List.length_map, List.length_take]
            have : z.length = z.cps.toList.length := rfl
            omega
          · exact fun b o e => by
              rw [upd_ne (ne_of_none e nD)]
              exact sJ b o e
          · rw [upd_same]
            have hc' : z.cps.toList[i]? = some c := by
              rw [← Array.getElem?_toList] at hc
              exact hc
            rw [List.take_add_one, hc', List.map_append, List.map_append]
            rfl
        · rintro J ⟨sJ, eJ⟩
          refine ⟨D, ((z.cps.toList.take z.cps.size).map fun c => decide (c ∈ signs.cps.toList)), rfl, .inl (.inl eJ), ?_⟩
          have e2 : ((z.cps.toList.take z.cps.size).map fun c => decide (c ∈ signs.cps.toList)).all id = isTxt z m := by
            unfold isTxt
            rw [decide_eq_true e1, Bool.true_and, List.take_of_length_le (show z.cps.toList.length ≤ z.cps.size from Nat.le_refl _), List.all_map]
            rfl
          rw [e2]
          exact k J sJ
    · refine ⟨_, rfl, _, _, t, _, false, rfl, .ty _, i1, i2, _, rfl, iteT (iteT k)⟩
end
end Gu
namespace Gu
open PySem PySem.Spec PyProof.Rows L2
/-! ### the class Shortener, its __init__ -/
def flds (r : Rec) (b : Addr) : List (Str × V) := putF "told" (.ref b) (putF "mark" (.str r.z) (putF "tail" (.int r.t) (putF "head" (.int r.h) (putF "limit" (.int r.l) []))))
theorem flds_limit (r : Rec) (b : Addr) : (flds r b).lookup ("limit" : Str) = some (.int r.l) := by
  unfold flds
  rw [lookup_putF, if_neg (by decide +kernel), lookup_putF, if_neg (by decide +kernel), lookup_putF, if_neg (by decide +kernel), lookup_putF, if_neg (by decide +kernel), lookup_putF, if_pos rfl]
theorem flds_head (r : Rec) (b : Addr) : (flds r b).lookup ("head" : Str) = some (.int r.h) := by
  unfold flds
  rw [lookup_putF, if_neg (by decide +kernel), lookup_putF, if_neg (by decide +kernel), lookup_putF, if_neg (by decide +kernel), lookup_putF, if_pos rfl]
theorem flds_tail (r : Rec) (b : Addr) : (flds r b).lookup ("tail" : Str) = some (.int r.t) := by
  unfold flds
  rw [lookup_putF, if_neg (by decide +kernel), lookup_putF, if_neg (by decide +kernel), lookup_putF, if_pos rfl]
theorem flds_mark (r : Rec) (b : Addr) : (flds r b).lookup ("mark" : Str) = some (.str r.z) := by
  unfold flds
  rw [lookup_putF, if_neg (by decide +kernel), lookup_putF, if_pos rfl]
theorem flds_told (r : Rec) (b : Addr) : (flds r b).lookup ("told" : Str) = some (.ref b) := by
  unfold flds
  rw [lookup_putF, if_pos rfl]
/-- what a Shortener may be made of -/
structure Rec.fit (r : Rec) : Prop where
  l : 0 ≤ r.l ∧ r.l ≤ 40
  h : 0 ≤ r.h ∧ r.h ≤ 40
  t : 0 ≤ r.t ∧ r.t ≤ 40
  z : isTxt r.z 3 = true
theorem isTxt_len {z : Str} {m : Int} (h : isTxt z m = true) : (z.length : Int) ≤ m := by
  unfold isTxt at h
  rw [Bool.and_eq_true] at h
  exact of_decide_eq_true h.1
theorem Rec.ok.fit {r : Rec} (o : r.ok) : r.fit := by
  have a : ∀ y ∈ marks, isTxt y 3 = true := by decide +kernel
  exact ⟨⟨o.l0, o.l1⟩, ⟨o.h0, o.h1⟩, ⟨o.t0, o.t1⟩, a _ o.z⟩
/-- the class as the top has left it -/
structure ShC (K : PySem.W.Frag) (mg : Str → Option Value) (C : Addr) : Prop where
  cl : Cls K C
  nL : NoAttr K C "limit"
  nH : NoAttr K C "head"
  nT : NoAttr K C "tail"
  nM : NoAttr K C "mark"
  nD : NoAttr K C "told"
  g : mg "Shortener" = some (.ref C)
  ha : PySem.W.findIn K (.ref C) "__class__" = some (some (.builtin "object.__class__"))
  hn : PySem.W.specialIn K (.builtin "object.__class__") "__get__" = some (some (.builtin "getset_descriptor.__get__"))
  ht : PySem.W.takesIn K (.builtin "object.__class__") = some true
  hm : PySem.W.mroIn K C (.type "object") = some true
  kk : PySem.W.kitOne K (.ref C) (.ref C) = some true
structure InitAt (K : PySem.W.Frag) (C : Addr) : Prop where
  ex : ∃ (f : Addr) (fd : FuncData), Mk K C f ∧ Fun K "__init__" "Shortener.__init__" s_Shortener_init f fd ∧ Binds K fd ps_Shortener_init []
structure Mak (P : Program) (w : World) (K : PySem.W.Frag) (mg : Str → Option Value) (base : Heap) (k : Nat) (x : Str) (C : Addr) (sp : Sp) : Prop where
  ex : ∃ (f : Addr) (fd : FuncData) (ps : List Str), Mk K C f ∧ FnOk P w K mg base CX0 k f fd ps sp ∧ mg x = some (.ref C) ∧ Binds K fd ps []
section
variable {X : Cx} {k j : Nat} {x : Str} {C : Addr} {sp : Sp} {p pos : Pos} {e : Expr} {es : List Expr} {t : TA}
theorem pe_new (c : Mak X.prog X.w X.K X.mg X.base k x C sp) (hr : Room j X.A) (hk : k + 1 ≤ j) (hg : Gl X x) (ha : PA X (e :: es) t)
    (hdb : (x == ("__debug__" : Str)) = false := by decide) (he : starEach (e :: es) X.env = (false, eval e X.env) :: starEach es X.env := by rfl) (hpl : (backTo pos (starEach es X.env)).any (·.1) = false := by rfl) :
    PE X (.Call (.Name x p) (e :: es) [] pos) (tMake C sp [] E0 t) := by
  obtain ⟨f, fd, ps, M, F, hm, b⟩ := c.ex
  exact pe_make M F (hr.mono hk) hg hm b .nil pass0 ha hdb he hpl
end
section
variable {P : Program} {w : World} {K : PySem.W.Frag} {mg : Str → Option Value} {base : Heap} {C : Addr}
def spCheckMark : Sp := fun vs H Q _ => ∃ (z : Str), vs = [.str z] ∧ isTxt z 3 = true ∧ ∀ G, Same H G → Q .non G
theorem cal_checkMark (B : Bi mg) (D : At K mg "check_mark" s_check_mark ps_check_mark) (C_is_text : Cal P w K mg base 1 "is_text" ps_is_text (spIsText K)) : Cal P w K mg base 2 "check_mark" ps_check_mark spCheckMark := by
  refine D.cal sc_check_mark (fun vs H Q E h => ?_) (fun f cdv A outer s H vs Q E hr h => ?_)
  · obtain ⟨z, rfl, _⟩ := h
    rfl
  · obtain ⟨z, rfl, hz, k⟩ := h
    have zl := isTxt_len hz
    refine ⟨_, (pss_one (ps_if (pt_not (pt_val (pe_own C_is_text hr (by decide) (by rfl) (pa_cons (pv 0) (pa_cons (pe_cst B.MOST_MARK (by rfl)) pa_nil))))) pss_never pss_nil)), ?_⟩
    refine ⟨_, rfl, _, _, rfl, .inl ⟨z, rfl, by omega, fun G sG => ⟨_, rfl, ?_⟩⟩⟩
    rw [hz]
    exact iteF (k G sG)
def spInit (C : Addr) : Sp := fun vs H Q _ => ∃ (x dx : Addr) (r : Rec), vs = [.ref x, .int r.l, .int r.h, .int r.t, .str r.z] ∧ H x = some (.ins C dx []) ∧ r.fit ∧
  ∀ (b : Addr) (G : Hp), H b = none → G x = some (.ins C dx (flds r b)) → G b = some (.tup r.vs) → (∀ c o, H c = some o → c ≠ x → G c = some o) → Q .non G
theorem ok_init {f : Addr} {fd : FuncData} (B : Bi mg) (S : ShC K mg C) (F : Fun K "__init__" "Shortener.__init__" s_Shortener_init f fd) (C_is_integer : Cal P w K mg base 1 "is_integer" ps_is_integer (spIsInteger K)) (C_check_mark : Cal P w K mg base 2 "check_mark" ps_check_mark spCheckMark) : FnOk P w K mg base CX0 3 f fd ps_Shortener_init (spInit C) := by
  refine F.ok sc_Shortener_init (fun vs H Q E h => ?_) (fun cdv A outer s H vs Q E hr h => ?_)
  · obtain ⟨x, dx, r, rfl, _⟩ := h
    rfl
  · obtain ⟨x, dx, r, rfl, hx, fit, k⟩ := h
    refine ⟨_, (pss_cons (ps_for PassesOwn.never rfl (pi_tup (pe_tup (pa_cons (pv 1) (pa_cons (pv 2) (pa_cons (pv 3) pa_nil))))) (pg_name (i := 5) sc_Shortener_init.nd rfl (.inl rfl))
      (pss_one (ps_if (pt_not (pt_val (pe_own C_is_integer hr (by decide) (by rfl) (pa_cons (pv 5) (pa_cons pe_int (pa_cons (pe_cst B.MOST_SIGNS (by rfl)) pa_nil)))))) pss_never pss_nil)))
      (pss_cons (ps_expr (pe_own C_check_mark hr (by decide) (by rfl) (pa_cons (pv 4) pa_nil)))
      (pss_cons (ps_fld (pv 0) (pv 1) rfl)
      (pss_cons (ps_fld (pv 0) (pv 2) rfl)
      (pss_cons (ps_fld (pv 0) (pv 3) rfl)
      (pss_cons (ps_fld (pv 0) (pv 4) rfl)
      (pss_one (ps_fld (pv 0) (pe_tup (pa_cons (pv 1) (pa_cons (pv 2) (pa_cons (pv 3) (pa_cons (pv 4) pa_nil))))) rfl)))))))), ?_⟩
    refine ⟨_, rfl, _, rfl, _, rfl, by show 3 ≤ sizeLine; decide, fun T nT => ?_⟩
    have nxT : x ≠ T := ne_of_none hx nT
    have hxT : upd H T (.tup [.int r.l, .int r.h, .int r.t]) x = some (.ins C dx []) := by rw [upd_ne nxT]; exact hx
    refine ⟨T, rfl, ⟨_, .inl (.inl upd_same)⟩, for_tup (K := K) (a := T) (xs := [.int r.l, .int r.h, .int r.t]) (fun i σ J => ∃ u, σ = [some (.ref x), some (.int r.l), some (.int r.h), some (.int r.t), some (.str r.z), u] ∧ J = upd H T (.tup [.int r.l, .int r.h, .int r.t]))
      ⟨none, rfl, rfl⟩ (fun i σ J _ ⟨_, _, e⟩ => by rw [e]; exact .inl (.inl upd_same)) ?_ ?_⟩
    · rintro i v σ J hi ⟨u, rfl, rfl⟩
      obtain ⟨n, n0, n1, rfl⟩ : ∃ n : Int, 0 ≤ n ∧ n ≤ 40 ∧ v = .int n := by
        have hv := List.mem_of_getElem? hi
        simp only [List.mem_cons, List.not_mem_nil, or_false] at hv
        rcases hv with rfl | rfl | rfl
        · exact ⟨_, fit.l.1, fit.l.2, rfl⟩
        · exact ⟨_, fit.h.1, fit.h.2, rfl⟩
        · exact ⟨_, fit.t.1, fit.t.2, rfl⟩
      refine ⟨_, rfl, _, _, _, rfl, .inl ⟨_, rfl, _, rfl, ?_⟩⟩
      rw [decide_eq_true ⟨n0, n1⟩]
      exact iteF ⟨_, rfl, rfl⟩
    · rintro σ J ⟨u, rfl, rfl⟩
      refine ⟨_, rfl, _, rfl, fit.z, fun G sG => ?_⟩
      have g0 : G x = some (.ins C dx []) := sG _ _ hxT
      refine ⟨_, rfl, _, rfl, x, C, dx, [], rfl, g0, S.cl, S.nL, by decide, ?_⟩
      refine ⟨_, rfl, _, rfl, x, C, dx, _, rfl, upd_same, S.cl, S.nH, by exact Nat.lt_of_le_of_lt (length_putF _ _ _) (by decide), ?_⟩
      rw [upd_upd]
      refine ⟨_, rfl, _, rfl, x, C, dx, _, rfl, upd_same, S.cl, S.nT, by exact Nat.lt_of_le_of_lt (length_putF _ _ _) (Nat.lt_of_le_of_lt (Nat.succ_le_succ (length_putF _ _ _)) (by decide)), ?_⟩
      rw [upd_upd]
      refine ⟨_, rfl, _, rfl, x, C, dx, _, rfl, upd_same, S.cl, S.nM, by exact Nat.lt_of_le_of_lt (length_putF _ _ _) (Nat.lt_of_le_of_lt (Nat.succ_le_succ (Nat.le_trans (length_putF _ _ _) (Nat.succ_le_succ (length_putF _ _ _)))) (by decide)), ?_⟩
      rw [upd_upd]
      refine ⟨_, rfl, _, rfl, _, rfl, _, rfl, by show 4 ≤ sizeLine; decide, fun b nb => ?_⟩
      have nxb : x ≠ b := ne_of_none upd_same nb
      refine ⟨_, rfl, x, C, dx, _, rfl, (by rw [upd_ne nxb, upd_same]), S.cl, S.nD, by exact Nat.lt_of_le_of_lt (length_putF _ _ _) (Nat.lt_of_le_of_lt (Nat.succ_le_succ (Nat.le_trans (length_putF _ _ _) (Nat.succ_le_succ (Nat.le_trans (length_putF _ _ _) (Nat.succ_le_succ (length_putF _ _ _)))))) (by decide)), ?_⟩
      have nb1 : G b = none := by rw [upd_ne nxb.symm] at nb; exact nb
      have nb0 : H b = none := (same_new nT).free (sG.free nb1)
      refine k b _ nb0 upd_same (by rw [upd_ne nxb.symm, upd_same]; rfl) fun c o e nc => ?_
      rw [upd_ne nc, upd_ne (ne_of_none e nb0), upd_ne nc]
      exact sG _ _ (same_new nT _ _ e)
theorem mak_sh (B : Bi mg) (S : ShC K mg C) (D : InitAt K C) (C_is_integer : Cal P w K mg base 1 "is_integer" ps_is_integer (spIsInteger K)) (C_check_mark : Cal P w K mg base 2 "check_mark" ps_check_mark spCheckMark) : Mak P w K mg base 3 "Shortener" C (spInit C) := by
  obtain ⟨f, fd, M, F, b⟩ := D.ex
  exact ⟨f, fd, ps_Shortener_init, M, ok_init B S F C_is_integer C_check_mark, S.g, b⟩
end
end Gu
namespace Gu
open PySem PySem.Spec PyProof.Rows L2 LamX
/-! ### heaps with tables -/
/-- all but tables stands -/
def SameN (H G : Hp) : Prop := ∀ c o, H c = some o → (∀ ps, o ≠ .tbl ps) → G c = some o
theorem SameN.refl (H : Hp) : SameN H H := fun _ _ e _ => e
theorem SameN.trans {H G J : Hp} (a : SameN H G) (b : SameN G J) : SameN H J := fun c o e n => b c o (a c o e n) n
theorem Same.n {H G : Hp} (a : Same H G) : SameN H G := fun c o e _ => a c o e
theorem SameN.lst {H G : Hp} (s : SameN H G) {a : Addr} {xs : List V} (h : H a = some (.lst xs)) : G a = some (.lst xs) := s _ _ h fun _ z => by cases z
theorem SameN.tup {H G : Hp} (s : SameN H G) {a : Addr} {xs : List V} (h : H a = some (.tup xs)) : G a = some (.tup xs) := s _ _ h fun _ z => by cases z
theorem SameN.xd {H G : Hp} (s : SameN H G) {a : Addr} {xs : List (Str × V)} (h : H a = some (.xd xs)) : G a = some (.xd xs) := s _ _ h fun _ z => by cases z
theorem SameN.ins {H G : Hp} (s : SameN H G) {a C dx : Addr} {fs : List (Str × V)} (h : H a = some (.ins C dx fs)) : G a = some (.ins C dx fs) := s _ _ h fun _ z => by cases z
theorem SameN.sys {H G : Hp} (s : SameN H G) (h : Sys H) : Sys G := by
  obtain ⟨o, u, e⟩ := h
  exact ⟨o, u, s _ _ e fun _ z => by cases z⟩
theorem SameN.sqT {K : PySem.W.Frag} {H G : Hp} {a : Addr} {xs : List V} (s : SameN H G) (h : SqT K H a xs) : SqT K G a xs := by
  rcases h with (h | ⟨o, h⟩) | h
  · exact .inl (.inl (s.tup h))
  · exact .inl (.inr ⟨o, s _ _ h fun _ z => by cases z⟩)
  · exact .inr h
theorem SameN.sqL {K : PySem.W.Frag} {H G : Hp} {a : Addr} {xs : List V} (s : SameN H G) (h : SqL K H a xs) : SqL K G a xs := by
  rcases h with (h | ⟨o, h⟩) | h
  · exact .inl (.inl (s.lst h))
  · exact .inl (.inr ⟨o, s _ _ h fun _ z => by cases z⟩)
  · exact .inr h
mutual
theorem DpE.sameN {K : PySem.W.Frag} {H G : Hp} (s : SameN H G) : ∀ {v : V} {d : PyData}, DpE K H v d → DpE K G v d
  | _, _, .non => .non
  | _, _, .bl b => .bl b
  | _, _, .int i => .int i
  | _, _, .str x => .str x
  | _, _, .lst h a => .lst (s.lst h) (DpEs.sameN s a)
  | _, _, .tup h a => .tup (s.sqT h) (DpEs.sameN s a)
  | _, _, .dict h => .dict (s _ _ h fun _ z => by cases z)
theorem DpEs.sameN {K : PySem.W.Frag} {H G : Hp} (s : SameN H G) : ∀ {vs : List V} {ds : List PyData}, DpEs K H vs ds → DpEs K G vs ds
  | _, _, .nil => .nil
  | _, _, .cons a b => .cons (DpE.sameN s a) (DpEs.sameN s b)
end
/-- from H to G the pot at p may have changed and tables may have grown, the rest stands -/
structure LadT (T : List (Addr × Str)) (p : Addr) (H G : Hp) : Prop where
  pot : Pot G p
  keep : ∀ c o, H c = some o → c ≠ p → (∀ ps, o ≠ .tbl ps) → G c = some o
  tabs : Tabs T G
  sys : Sys G
/-! ### defs that make lambdas -/
structure AtC (K : PySem.W.Frag) (mg : Str → Option Value) (x : Str) (st : Stmt) (ps : List Str) (c : Addr) : Prop where
  ex : ∃ (f : Addr) (fd : FuncData), Fun K x x st f fd ∧ Binds K fd ps [] ∧ mg x = some (.ref f) ∧ fd.code = .ref c
section
variable {P : Program} {w : World} {K : PySem.W.Frag} {mg : Str → Option Value} {base : Heap}
theorem okGT {x qual : Str} {st : Stmt} {f c : Addr} {fd : FuncData} {N ps : List Str} {k : Nat} {sp : Sp} (F : Fun K x qual st f fd) (hc : fd.code = .ref c) (S : FnScope N ps (defScope st)) (len : ∀ vs H Q E, sp vs H Q E → vs.length = ps.length)
    (body : ∀ (A : Around) (outer : List Env) (s : Shared) (H : Hp) (vs : List V) (Q : VK) (E : XK), Room k (A.deeper (envOfC qual (defScope st) s.heap.objs.size f (.ref c))) → A.guards = some [] → sp vs H Q E →
      ∃ t, PSs (cxOf CX0 P w K mg base N qual (defScope st) f (.ref c) A outer s H E).nox (defBody st) t ∧ t { nx := fun _ G => Q .non G, rt := Q } (start N vs) H) : FnG P w K mg base (k + 1) f fd ps sp := by
  obtain ⟨oc, od, kV, doc, pm, an, cdv, ct, osl, rfl, lk, hcd⟩ := F.ex
  obtain rfl : cdv = .ref c := hc
  refine ⟨len, fun A outer s H args us vs Q E room quiet env binds rel want => ?_⟩
  have stays : ∀ b o, base.get? b = some o → s.heap.get? b = some o := fun b o e => (env.bs b o e).1
  have inK : K.In s.heap := env.mod.kin.keeps stays
  have free : s.heap.NoLimit := env.mod.nolimit.keeps stays
  refine codeAny_call_function room.depth (inK _ _ lk) rfl S.co S.gen rfl (PySem.W.codeRec_of inK hcd) (binds _ _ _ _ ?_)
  refine wpAny_newFunctionEnv_cells S.kind (fun ⟨n, v⟩ hy => (S.par n (List.of_mem_zip hy).1).imp id fun q => ⟨q, PySem.W.cellsFrom_some _ _ _ (.inl q)⟩) fun env1 e1 s1 c1 => ?_
  subst e1
  refine ⟨free.keeps c1.toInCall.keep, codeAny_func ?_⟩
  obtain ⟨t, d, q⟩ := body A outer s H vs Q E (room.deeper _) quiet want
  refine wpAny_mono (d.nox.run [] s1 (start N vs) H _ (inv_start S room.hd env (len _ _ _ _ want) rel c1) q) (fun fl s2 h2 => ?_) fun e s2 h2 => h2
  cases fl with
  | ret u =>
    obtain ⟨v, σ2, G, J, rv, r⟩ := h2
    exact ⟨v, G, J.os, J.bare, J.base, J.hok, rv, r⟩
  | next =>
    obtain ⟨σ2, G, J, r⟩ := h2
    exact ⟨V.non, G, J.os, J.bare, J.base, J.hok, rfl, r⟩
  | brk => exact (h2.choose_spec.choose_spec.2 : False).elim
  | cont => exact (h2.choose_spec.choose_spec.2 : False).elim
theorem AtC.calG {x : Str} {st : Stmt} {N ps : List Str} {k : Nat} {sp : Sp} {c : Addr} (D : AtC K mg x st ps c) (S : FnScope N ps (defScope st)) (len : ∀ vs H Q E, sp vs H Q E → vs.length = ps.length)
    (body : ∀ (f : Addr) (A : Around) (outer : List Env) (s : Shared) (H : Hp) (vs : List V) (Q : VK) (E : XK), Room k (A.deeper (envOfC x (defScope st) s.heap.objs.size f (.ref c))) → A.guards = some [] → sp vs H Q E →
      ∃ t, PSs (cxOf CX0 P w K mg base N x (defScope st) f (.ref c) A outer s H E).nox (defBody st) t ∧ t { nx := fun _ G => Q .non G, rt := Q } (start N vs) H) : CalG P w K mg base (k + 1) x ps sp := by
  obtain ⟨f, fd, F, b, g, hc⟩ := D.ex
  exact ⟨f, fd, okGT F hc S len (body f), g, F.kp, b⟩
/-! ### defs that may raise -/
structure CalX (P : Program) (w : World) (K : PySem.W.Frag) (mg : Str → Option Value) (base : Heap) (k : Nat) (x : Str) (ps : List Str) (sp : Sp) : Prop where
  ex : ∃ (f : Addr) (fd : FuncData), FnOk P w K mg base (L2.CX P w) k f fd ps sp ∧ mg x = some (.ref f) ∧ PySem.W.keepIn K (.ref f) = true ∧ Binds K fd ps [] ∧ ∃ oc od sl, K.lookup f = some ⟨oc, od, .func fd, sl⟩
theorem At.calX {x : Str} {st : Stmt} {N ps : List Str} {k : Nat} {sp : Sp} (D : At K mg x st ps) (S : FnScope N ps (defScope st)) (len : ∀ vs H Q E, sp vs H Q E → vs.length = ps.length)
    (body : ∀ (f : Addr) (cdv : Value) (A : Around) (outer : List Env) (s : Shared) (H : Hp) (vs : List V) (Q : VK) (E : XK), Room k (A.deeper (envOfC x (defScope st) s.heap.objs.size f cdv)) → sp vs H Q E →
      ∃ t, PSs (cxOf (L2.CX P w) P w K mg base N x (defScope st) f cdv A outer s H E) (defBody st) t ∧ t { nx := fun _ G => Q .non G, rt := Q } (start N vs) H) : CalX P w K mg base (k + 1) x ps sp := by
  obtain ⟨f, fd, F, b, g⟩ := D.ex
  obtain ⟨oc, od, kV, doc, pm, an, cdv, ct, osl, e, lk, hcd⟩ := F.ex
  exact ⟨f, fd, F.okX S len (body f), g, F.kp, b, oc, od, osl, lk⟩
structure MakX (P : Program) (w : World) (K : PySem.W.Frag) (mg : Str → Option Value) (base : Heap) (k : Nat) (x : Str) (C : Addr) (sp : Sp) : Prop where
  ex : ∃ (f : Addr) (fd : FuncData) (ps : List Str), Mk K C f ∧ FnOk P w K mg base (L2.CX P w) k f fd ps sp ∧ mg x = some (.ref C) ∧ Binds K fd ps []
end
section
variable {X : Cx} {k j : Nat} {x : Str} {ps : List Str} {sp : Sp} {p pos : Pos} {e : Expr} {es : List Expr} {t : TA} {E : XK} {W : WX} {C : Addr}
theorem pe_ownX (c : CalX X.prog X.w X.K X.mg X.base k x ps sp) (hr : Room j X.A) (hk : k ≤ j) (tk : Takes X W) (hW : ∀ cls d σ H, E cls d H → W cls d σ H) (hg : Gl X x) (ha : PA X (e :: es) t)
    (hdb : (x == ("__debug__" : Str)) = false := by decide) (he : starEach (e :: es) X.env = (false, eval e X.env) :: starEach es X.env := by rfl) (hpl : (backTo pos (starEach es X.env)).any (·.1) = false := by rfl) :
    PE X (.Call (.Name x p) (e :: es) [] pos) (tCall sp [] E t) := by
  obtain ⟨f, fd, F, hm, kp, b, _⟩ := c.ex
  exact pe_call F (hr.mono hk) hg hm kp b .nil (passes_call tk hW) ha hdb he hpl
theorem pe_newX (c : MakX X.prog X.w X.K X.mg X.base k x C sp) (hr : Room j X.A) (hk : k + 1 ≤ j) (tk : Takes X W) (hW : ∀ cls d σ H, E cls d H → W cls d σ H) (hg : Gl X x) (ha : PA X (e :: es) t)
    (hdb : (x == ("__debug__" : Str)) = false := by decide) (he : starEach (e :: es) X.env = (false, eval e X.env) :: starEach es X.env := by rfl) (hpl : (backTo pos (starEach es X.env)).any (·.1) = false := by rfl) :
    PE X (.Call (.Name x p) (e :: es) [] pos) (tMake C sp [] E t) := by
  obtain ⟨f, fd, ps, M, F, hm, b⟩ := c.ex
  exact pe_make M F (hr.mono hk) hg hm b .nil (passes_call tk hW) ha hdb he hpl
end
/-! ### x(lambda: body) -/
section
variable {X : Cx}
theorem pe_lamE {T : List (Addr × Str)} {TT : (XK → Hp → VK → Prop) → Hp → VK → Prop} {x a : Str} {c P : Addr} {k j : Nat} {st : Stmt} {Ng : List Str} {params : Arguments} {body : Expr} {scope : Scope} {t : XK → TE} {p lpos pos : Pos} (D : At X.K X.mg x st [a]) (S : FnScope Ng [a] (defScope st))
    (hG : ∀ (g : Addr) (cdv : Value), GivesTo X Ng x (defScope st) g cdv (defBody st) a (X.env.qual ++ "<lambda>") TT) (TB : TabB X.base X.mg c P) (hr : Room j X.A) (hk : k + 2 ≤ j) (hg : Gl X x) (hNg : Ng[0]? = some a) (hva : Vis (defScope st) a) (hcode : X.env.code = .ref c) (hmT : (P, X.env.qual ++ "<lambda>") ∈ T) (hu : ∀ p ∈ T, p.1 = P → p.2 = X.env.qual ++ "<lambda>") (L : LamS X.env.scope scope) (hdef : defaultsOf params X.env = ([], []))
    (hbind : ∀ (q : Str) (cl : List (Str × Addr)) (pm cv ctv : Value), bindArgs (PySem.W.kla_fn "<lambda>" q params body scope cl pm cv ctv) ⟨[], []⟩ = pure [])
    (hbody : ∀ (A : Around) (outer : List Env) (s : Shared) (H : Hp) (E : XK) (f c' : Addr), Room k (A.deeper (lamEnv X scope s.heap.objs.size f c')) → PE (lamCx X A outer s H E scope f c') body (t E))
    (hdb : (x == ("__debug__" : Str)) = false := by decide) (hd : (a == ("__debug__" : Str)) = false := by decide) (hcd : (a == ("__classdict__" : Str)) = false := by decide) :
    PE X (.Call (.Name x p) [.Lambda params body scope lpos] [] pos) (tLam T TT t) := by
  obtain ⟨g, fd, F, b, hm⟩ := D.ex
  obtain ⟨oc, od, kV, doc, pm, an, cdv, ct, osl, rfl, lk, hcg⟩ := F.ex
  exact pe_lamcall (k := k) hg hm F.kp lk hcg b S hNg hva (hG g cdv) TB hcode hmT hu (hr.mono hk) L hdef hbind hbody hdb hd hcd
end
end Gu
namespace Gu
open PySem PySem.Spec PyProof.Rows L2 LamX
/-- what _law_ended makes of what it is handed -/
def Ended (hs : List (Str × Str × Addr)) (Q : VK) : XK := fun cls d G => ∃ (N Fl : Str) (C dd : Addr) (v : V), (N, Fl, C) ∈ hs ∧ cls = .ref C ∧ d = some dd ∧ G dd = some (.xd [(Fl, v)]) ∧ ∀ p J, Same G J → J p = some (.lst [.str N, v, .bl true]) → Q (.ref p) J
def TEnd (hs : List (Str × Str × Addr)) : (XK → Hp → VK → Prop) → Hp → VK → Prop := fun tl H Q => ∃ (E1 : XK) (Q1 : VK), tl E1 H Q1 ∧ (∀ cls d G, E1 cls d G → Ended hs Q cls d G) ∧ ∀ v G, Q1 v G → ∀ p J, Same G J → J p = some (.lst [.str "given", v]) → Q (.ref p) J
set_option maxHeartbeats 4000000 in
theorem ended_gives {X : Cx} {q : Str} {g U C0 C1 : Addr} {cdg : Value} (B : Bi X.mg) (UI : UpK X.K X.mg bVE "InputError" U) (T0 : ErrK X.K X.mg bVE U "InvalidMark" C0) (S0 : ErrF X.K "InvalidMark" "value" C0) (T1 : ErrK X.K X.mg bVE U "InvalidNumber" C1) (S1 : ErrF X.K "InvalidNumber" "value" C1) :
    GivesTo X ["_law_ask", "_law_given", "e"] "_law_ended" (defScope s_law_ended) g cdg (defBody s_law_ended) "_law_ask" q (TEnd [("InvalidMark", "value", C0), ("InvalidNumber", "value", C1)]) := by
  intro f c' s H Q tl act hc h
  refine ⟨_, pss_cons (ps_try_manyA (i := 2) (tb := fun W D σ H => ∃ Ech : XK, (∀ cls d σ1 G, Ech cls d G → W cls d σ1 G) ∧ σ[0]? = some (some (.ref f)) ∧ H c' = some (CodeO c' q) ∧ ∃ Q1 : VK, tl Ech H Q1 ∧ ∀ v G, Q1 v G → D.nx (σ.set 1 (some v)) G) (Wout := fun _ _ _ _ => False) rfl rfl sc_law_ended.nd rfl rfl L2.takes0
      (fun W pn xe tk _ => ⟨fun pins s1 σ G D I h1 => by
        obtain ⟨Ech, hW, h2, h3, Q1, h4, h5⟩ := h1
        exact (pss_one (ps_set (i := 1) sc_law_ended.nd rfl (.inl rfl) (pe_mid (act W pn xe Ech _ _ tk hW)))).run pins s1 σ G D I ⟨Q1, ⟨h2, h3, h4⟩, h5⟩⟩)
      (.cons (htest_name ⟨rfl, by decide, .inl T0.g⟩) (fun a oe cls d pn hz hf => (pss_one (ps_ret (pe_lst (pa_cons pe_str (pa_cons (pe_xfE T0 S0 (List.mem_cons_self ..) hz hf (pv 2) rfl) (pa_cons (pe_and (pe_callB (id := "isinstance") (r := rIsX X.K C0 a cls d) (by exact call_isX T0 (List.mem_cons_self ..) hz hf) (by rfl) B.isinstance (by decide +kernel) (pa_cons (pv 2) (pa_cons (pe_glob (v := .ref U) (by rfl) UI.g rfl) pa_nil))) (pe_one (pe_callB (id := "isinstance") (r := rIsX X.K C0 a cls d) (by exact call_isX T0 (List.mem_cons_self ..) hz hf) (by rfl) B.isinstance (by decide +kernel) (pa_cons (pv 2) (pa_cons (pe_bltn (v := .ty "ValueError") (by rfl) B.ValueError (by decide +kernel) rfl) pa_nil))))) pa_nil))))))) (.cons (htest_name ⟨rfl, by decide, .inl T1.g⟩) (fun a oe cls d pn hz hf => (pss_one (ps_ret (pe_lst (pa_cons pe_str (pa_cons (pe_xfE T1 S1 (List.mem_cons_self ..) hz hf (pv 2) rfl) (pa_cons (pe_and (pe_callB (id := "isinstance") (r := rIsX X.K C1 a cls d) (by exact call_isX T1 (List.mem_cons_self ..) hz hf) (by rfl) B.isinstance (by decide +kernel) (pa_cons (pv 2) (pa_cons (pe_glob (v := .ref U) (by rfl) UI.g rfl) pa_nil))) (pe_one (pe_callB (id := "isinstance") (r := rIsX X.K C1 a cls d) (by exact call_isX T1 (List.mem_cons_self ..) hz hf) (by rfl) B.isinstance (by decide +kernel) (pa_cons (pv 2) (pa_cons (pe_bltn (v := .ty "ValueError") (by rfl) B.ValueError (by decide +kernel) rfl) pa_nil))))) pa_nil))))))) .nil)))
    (pss_one (ps_ret (pe_lst (pa_cons pe_str (pa_cons (pv 1) pa_nil))))), ?_⟩
  obtain ⟨E1, Q1, h1, hE, hQ⟩ := h
  refine ⟨E1, fun cls d σ1 G he => ?_, rfl, hc, Q1, h1, fun v G hv => ?_⟩
  · obtain ⟨N, Fl, C, dd, v, mem, e1, e2, e3, k⟩ := hE cls d G he
    subst e1 e2
    simp only [List.mem_cons, List.not_mem_nil, or_false, Prod.mk.injEq] at mem
    have lk : ∀ Fl : Str, List.lookup Fl [(Fl, v)] = some v := fun Fl => by simp [List.lookup]
    rcases mem with mem | mem
    · obtain ⟨rfl, rfl, rfl⟩ := mem
      refine ⟨_, T0.exm T0 (UI.ne T0 (by decide +kernel)), fun _ a na len => ?_, fun z => absurd (decide_eq_true (rfl : ("InvalidMark" : Str) = "InvalidMark")) (by rw [z]; decide)⟩
      have here : (σ1.set 2 (some (V.ref a)))[2]? = some (some (V.ref a)) := List.getElem?_set_self len
      refine ⟨.ref a, here, rfl, rfl, dd, _, v, rfl, e3, lk _, .ref a, here, _, .ref U, true, rfl, rfl, fun u hu => hu, T0.kitU UI, fun d2 e => ⟨_, by cases e; exact e3⟩, ?_⟩
      exact ⟨_, rfl, iteT ⟨.ref a, here, _, .type "ValueError", true, rfl, rfl, fun u hu => hu, T0.kitV (by decide +kernel), fun d2 e => ⟨_, by cases e; exact e3⟩, by show 3 ≤ sizeLine; decide, fun p np => k p _ (same_new np) upd_same⟩⟩
    · obtain ⟨rfl, rfl, rfl⟩ := mem
      refine ⟨_, T1.exm T0 (UI.ne T0 (by decide +kernel)), fun z => absurd (of_decide_eq_true z) (by decide +kernel), fun _ => ?_⟩
      refine ⟨_, T1.exm T1 (UI.ne T1 (by decide +kernel)), fun _ a na len => ?_, fun z => absurd (decide_eq_true (rfl : ("InvalidNumber" : Str) = "InvalidNumber")) (by rw [z]; decide)⟩
      have here : (σ1.set 2 (some (V.ref a)))[2]? = some (some (V.ref a)) := List.getElem?_set_self len
      refine ⟨.ref a, here, rfl, rfl, dd, _, v, rfl, e3, lk _, .ref a, here, _, .ref U, true, rfl, rfl, fun u hu => hu, T1.kitU UI, fun d2 e => ⟨_, by cases e; exact e3⟩, ?_⟩
      exact ⟨_, rfl, iteT ⟨.ref a, here, _, .type "ValueError", true, rfl, rfl, fun u hu => hu, T1.kitV (by decide +kernel), fun d2 e => ⟨_, by cases e; exact e3⟩, by show 3 ≤ sizeLine; decide, fun p np => k p _ (same_new np) upd_same⟩⟩
  · exact ⟨_, rfl, by show 2 ≤ sizeLine; decide, fun p np => hQ v G hv p _ (same_new np) upd_same⟩
end Gu
namespace Gu
open PySem PySem.Spec PyProof.Rows L2
/-! ### Shorteners refused -/
section
variable {P : Program} {w : World} {K : PySem.W.Frag} {mg : Str → Option Value} {base : Heap} {C U CM CN : Addr}
def OkNum (v : V) : Prop := ∃ i : Int, v = .int i ∧ 0 ≤ i ∧ i ≤ 40
/-- no whole number from 0 to m -/
def NoNum (K : PySem.W.Frag) (H : Hp) (m : Int) (v : V) : Prop := (∃ i : Int, v = .int i ∧ ¬ (0 ≤ i ∧ i ≤ m)) ∨ Isa K H v "int" false ∨ (Isa K H v "int" true ∧ Isa K H v "bool" true)
/-- no text of at most m signs -/
def NoTxt (K : PySem.W.Frag) (H : Hp) (m : Int) (v : V) : Prop := Isa K H v "str" false ∨ ∃ z : Str, v = .str z ∧ z.length ≤ 1000 ∧ isTxt z m = false
theorem TyX.same {H G : Hp} (s : Same H G) {v : V} {t : Value} (h : TyX K H v t) : TyX K G v t := by
  cases h with
  | base b =>
    refine .base ?_
    cases b with
    | non => exact .non
    | bl x => exact .bl x
    | int i => exact .int i
    | str x => exact .str x
    | flt x => exact .flt x
    | lst e => exact .lst (s _ _ e)
    | frz e => exact .frz (s _ _ e)
    | tup e => exact .tup (s _ _ e)
    | dK e => exact .dK (s _ _ e)
    | dT e => exact .dT (s _ _ e)
    | ins e a b c d f => exact .ins (s _ _ e) a b c d f
  | byt b => exact .byt b
  | set e => exact .set (s _ _ e)
  | kList e c => exact .kList e c
  | kTuple e c => exact .kTuple e c
  | kDict e c => exact .kDict e c
  | fTuple e => exact .fTuple (s _ _ e)
  | fDict e => exact .fDict (s _ _ e)
theorem Isa.same {H G : Hp} (s : Same H G) {v : V} {T : String} {b : Bool} (h : Isa K H v T b) : Isa K G v T b := by
  obtain ⟨t, a, c⟩ := h
  exact ⟨t, TyX.same s a, c⟩
theorem NoNum.same {H G : Hp} (s : Same H G) {m : Int} {v : V} (h : NoNum K H m v) : NoNum K G m v := h.imp id (Or.imp (Isa.same s) fun ⟨a, b⟩ => ⟨a.same s, b.same s⟩)
theorem NoTxt.same {H G : Hp} (s : Same H G) {m : Int} {v : V} (h : NoTxt K H m v) : NoTxt K G m v := h.imp (Isa.same s) id
theorem Cal.imp {k : Nat} {x : Str} {ps : List Str} {s1 s2 : Sp} (c : Cal P w K mg base k x ps s1) (h : ∀ vs H Q E, s2 vs H Q E → s1 vs H Q E) : Cal P w K mg base k x ps s2 := by
  obtain ⟨f, fd, F, r⟩ := c.ex
  exact ⟨f, fd, ⟨fun vs H Q E z => F.len vs H Q E (h vs H Q E z), fun A outer s H args us vs Q E a b c d z => F.run A outer s H args us vs Q E a b c d (h vs H Q E z)⟩, r⟩
/-- a whole number from 0 to m, or none -/
def spNum (K : PySem.W.Frag) : Sp := fun vs H Q _ => ∃ (v : V) (m : Int), vs = [v, .int 0, .int m] ∧ ((∃ i : Int, v = .int i ∧ 0 ≤ i ∧ i ≤ m ∧ Q (.bl true) H) ∨ (NoNum K H m v ∧ Q (.bl false) H))
theorem num_of (c : Cal P w K mg base 1 "is_integer" ps_is_integer (spIsInteger K)) : Cal P w K mg base 1 "is_integer" ps_is_integer (spNum K) := c.imp fun vs H Q E ⟨v, m, e, h⟩ => by
  refine ⟨v, 0, m, e, ?_⟩
  rcases h with ⟨i, rfl, h0, h1, q⟩ | ⟨⟨i, rfl, h⟩ | h | ⟨h, k⟩, q⟩
  · exact .inl ⟨i, rfl, by rw [decide_eq_true ⟨h0, h1⟩]; exact q⟩
  · exact .inl ⟨i, rfl, by rw [decide_eq_false h]; exact q⟩
  · exact .inr (.inl ⟨h, q⟩)
  · exact .inr (.inr ⟨h, k, q⟩)
/-- a text of at most m signs, or none -/
def spTxt (K : PySem.W.Frag) : Sp := fun vs H Q _ => ∃ (v : V) (m : Int), vs = [v, .int m] ∧ ((∃ z : Str, v = .str z ∧ z.length ≤ 1000 ∧ isTxt z m = true ∧ ∀ G, Same H G → Q (.bl true) G) ∨ (NoTxt K H m v ∧ ∀ G, Same H G → Q (.bl false) G))
theorem txt_of (c : Cal P w K mg base 1 "is_text" ps_is_text (spIsText K)) : Cal P w K mg base 1 "is_text" ps_is_text (spTxt K) := c.imp fun vs H Q E ⟨v, m, e, h⟩ => by
  refine ⟨v, m, e, ?_⟩
  rcases h with ⟨z, rfl, l, h, q⟩ | ⟨h | ⟨z, rfl, l, h⟩, q⟩
  · exact .inl ⟨z, rfl, l, fun G s => by rw [h]; exact q G s⟩
  · exact .inr ⟨h, q H (Same.refl H)⟩
  · exact .inl ⟨z, rfl, l, fun G s => by rw [h]; exact q G s⟩
/-- an error of the class at C is raised that holds v -/
def Raised (C : Addr) (Fl : Str) (v : V) (H : Hp) (E : XK) : Prop := ∀ (d : Addr) (G : Hp), Same H G → G d = some (.xd [(Fl, v)]) → E (.ref C) (some d) G
theorem Raised.same {Fl : Str} {v : V} {H G : Hp} {E : XK} (s : Same H G) (h : Raised C Fl v H E) : Raised C Fl v G E := fun d J sJ e => h d J (s.trans sJ) e
def spMarkX (K : PySem.W.Frag) (CM : Addr) : Sp := fun vs H _ E => ∃ v : V, vs = [v] ∧ NoTxt K H 3 v ∧ Raised CM "value" v H E
theorem cal_markX (B : Bi mg) (D : At K mg "check_mark" s_check_mark ps_check_mark) (T_InvalidMark : ErrK K mg bVE U "InvalidMark" CM) (S_InvalidMark : ErrF K "InvalidMark" "value" CM) (C_is_text : Cal P w K mg base 1 "is_text" ps_is_text (spTxt K)) : CalX P w K mg base 2 "check_mark" ps_check_mark (spMarkX K CM) := by
  refine D.calX sc_check_mark (fun vs H Q E h => ?_) (fun f cdv A outer s H vs Q E hr h => ?_)
  · obtain ⟨v, rfl, _⟩ := h
    rfl
  · obtain ⟨v, rfl, no, k⟩ := h
    refine ⟨_, (pss_one (ps_if (pt_not (pt_val (pe_own C_is_text hr (by decide) (by rfl) (pa_cons (pv 0) (pa_cons (pe_cst B.MOST_MARK (by rfl)) pa_nil))))) (pss_one (ps_raiseE T_InvalidMark S_InvalidMark rfl hr (takes_of rfl rfl rfl rfl) (pa_cons (pv 0) pa_nil) (by rfl))) pss_nil)), ?_⟩
    refine ⟨_, rfl, v, 3, rfl, .inr ⟨no, fun G s => ⟨_, rfl, iteT ?_⟩⟩⟩
    exact ⟨_, rfl, v, rfl, fun d nd => k d _ (s.trans (same_new nd)) upd_same⟩
def spInitX (K : PySem.W.Frag) (C CN CM : Addr) : Sp := fun vs H _ E => ∃ (x dx : Addr) (l h t m : V), vs = [.ref x, l, h, t, m] ∧ H x = some (.ins C dx []) ∧
  ((∃ v, ((NoNum K H 40 l ∧ v = l) ∨ (OkNum l ∧ NoNum K H 40 h ∧ v = h) ∨ (OkNum l ∧ OkNum h ∧ NoNum K H 40 t ∧ v = t)) ∧ Raised CN "value" v H E) ∨ (OkNum l ∧ OkNum h ∧ OkNum t ∧ NoTxt K H 3 m ∧ Raised CM "value" m H E))
theorem ok_initX {f : Addr} {fd : FuncData} (B : Bi mg) (F : Fun K "__init__" "Shortener.__init__" s_Shortener_init f fd) (T_InvalidNumber : ErrK K mg bVE U "InvalidNumber" CN) (S_InvalidNumber : ErrF K "InvalidNumber" "value" CN) (C_is_integer : Cal P w K mg base 1 "is_integer" ps_is_integer (spNum K)) (CX_check_mark : CalX P w K mg base 2 "check_mark" ps_check_mark (spMarkX K CM)) : FnOk P w K mg base (L2.CX P w) 3 f fd ps_Shortener_init (spInitX K C CN CM) := by
  refine F.okX sc_Shortener_init (fun vs H Q E h => ?_) (fun cdv A outer s H vs Q E hr h => ?_)
  · obtain ⟨x, dx, l, h, t, m, rfl, _⟩ := h
    rfl
  · obtain ⟨x, dx, l, h, t, m, rfl, hx, way⟩ := h
    refine ⟨_, (pss_cons (ps_for (passes_of rfl) rfl (pi_tup (pe_tup (pa_cons (pv 1) (pa_cons (pv 2) (pa_cons (pv 3) pa_nil))))) (pg_name (i := 5) sc_Shortener_init.nd rfl (.inl rfl))
      (pss_one (ps_if (pt_not (pt_val (pe_own C_is_integer hr (by decide) (by rfl) (pa_cons (pv 5) (pa_cons pe_int (pa_cons (pe_cst B.MOST_SIGNS (by rfl)) pa_nil)))))) (pss_one (ps_raiseE T_InvalidNumber S_InvalidNumber rfl hr (takes_of rfl rfl rfl rfl) (pa_cons (pv 5) pa_nil) (by rfl))) pss_nil)))
      (pss_cons (ps_expr (pe_ownX CX_check_mark hr (by decide) (takes_of rfl rfl rfl rfl) (fun _ _ _ _ h => h) (by rfl) (pa_cons (pv 4) pa_nil)))
      (pss_cons (ps_fld (pv 0) (pv 1) rfl)
      (pss_cons (ps_fld (pv 0) (pv 2) rfl)
      (pss_cons (ps_fld (pv 0) (pv 3) rfl)
      (pss_cons (ps_fld (pv 0) (pv 4) rfl)
      (pss_one (ps_fld (pv 0) (pe_tup (pa_cons (pv 1) (pa_cons (pv 2) (pa_cons (pv 3) (pa_cons (pv 4) pa_nil))))) rfl)))))))), ?_⟩
    refine ⟨_, rfl, _, rfl, _, rfl, by show 3 ≤ sizeLine; decide, fun T nT => ?_⟩
    have sT : Same H (upd H T (.tup [l, h, t])) := same_new nT
    have eT : upd H T (.tup [l, h, t]) T = some (.tup [l, h, t]) := upd_same
    generalize upd H T (.tup [l, h, t]) = H1 at sT eT
    -- the numbers up to the first bad one
    have way1 : ∃ j : Nat, (∀ i u, i < j → [l, h, t][i]? = some u → OkNum u) ∧ ((j < 3 ∧ ∃ v, [l, h, t][j]? = some v ∧ NoNum K H1 40 v ∧ Raised CN "value" v H1 E) ∨ (j = 3 ∧ NoTxt K H1 3 m ∧ Raised CM "value" m H1 E)) := by
      have one : ∀ {u v : V}, OkNum v → some v = some u → OkNum u := fun o e => by
        cases e
        exact o
      rcases way with ⟨v, ⟨n, rfl⟩ | ⟨o, n, rfl⟩ | ⟨o, o2, n, rfl⟩, r⟩ | ⟨o, o2, o3, n, r⟩
      · exact ⟨0, fun i u hi => absurd hi (Nat.not_lt_zero i), .inl ⟨by decide, v, rfl, n.same sT, r.same sT⟩⟩
      · exact ⟨1, fun i u hi e => match i, hi, e with | 0, _, e => one o e, .inl ⟨by decide, v, rfl, n.same sT, r.same sT⟩⟩
      · exact ⟨2, fun i u hi e => match i, hi, e with | 0, _, e => one o e | 1, _, e => one o2 e, .inl ⟨by decide, v, rfl, n.same sT, r.same sT⟩⟩
      · exact ⟨3, fun i u _ e => match i, e with | 0, e => one o e | 1, e => one o2 e | 2, e => one o3 e, .inr ⟨rfl, n.same sT, r.same sT⟩⟩
    obtain ⟨j, fine, last⟩ := way1
    refine ⟨T, rfl, ⟨_, .inl (.inl eT)⟩, for_tup (K := K) (a := T) (xs := [l, h, t]) (fun i σ J => (∃ u, σ = [some (.ref x), some l, some h, some t, some m, u]) ∧ J = H1 ∧ i ≤ j)
      ⟨⟨none, rfl⟩, rfl, Nat.zero_le _⟩ (fun i σ J _ ⟨_, e, _⟩ => by rw [e]; exact .inl (.inl eT)) ?_ ?_⟩
    · rintro i v σ J hi ⟨⟨u, rfl⟩, rfl, ij⟩
      rcases Nat.lt_or_ge i j with lt | ge
      · obtain ⟨n, rfl, n0, n1⟩ := fine i v lt hi
        exact ⟨_, rfl, _, 40, rfl, .inl ⟨n, rfl, n0, n1, _, rfl, iteF ⟨⟨_, rfl⟩, rfl, lt⟩⟩⟩
      · have ej : j = i := by omega
        subst ej
        rcases last with ⟨_, v', e, n, r⟩ | ⟨e, _⟩
        · rw [e] at hi
          cases hi
          exact ⟨_, rfl, _, 40, rfl, .inr ⟨n, _, rfl, iteT ⟨_, rfl, v, rfl, fun d nd => r d _ (same_new nd) upd_same⟩⟩⟩
        · rw [e] at hi
          cases hi
    · rintro σ J ⟨⟨u, rfl⟩, rfl, ij⟩
      rcases last with ⟨lt, _⟩ | ⟨_, n, r⟩
      · exact absurd ij (Nat.not_le.mpr lt)
      · exact ⟨_, rfl, m, rfl, n, r⟩
theorem mak_shX (B : Bi mg) (S : ShC K mg C) (D : InitAt K C) (T_InvalidNumber : ErrK K mg bVE U "InvalidNumber" CN) (S_InvalidNumber : ErrF K "InvalidNumber" "value" CN) (C_is_integer : Cal P w K mg base 1 "is_integer" ps_is_integer (spNum K)) (CX_check_mark : CalX P w K mg base 2 "check_mark" ps_check_mark (spMarkX K CM)) : MakX P w K mg base 3 "Shortener" C (spInitX K C CN CM) := by
  obtain ⟨f, fd, M, F, b⟩ := D.ex
  exact ⟨f, fd, ps_Shortener_init, M, ok_initX B F T_InvalidNumber S_InvalidNumber C_is_integer CX_check_mark, S.g, b⟩
end
end Gu
namespace Gu
open PySem PySem.Spec PyProof.Rows L2 LamX
/-! ### what stands while the pot is used and tables grow -/
def KeepP (p : Addr) (H G : Hp) : Prop := ∀ c o, H c = some o → c ≠ p → (∀ ps, o ≠ .tbl ps) → G c = some o
theorem KeepP.refl (p : Addr) (H : Hp) : KeepP p H H := fun _ _ e _ _ => e
theorem KeepP.trans {p : Addr} {H G J : Hp} (a : KeepP p H G) (b : KeepP p G J) : KeepP p H J := fun c o e n t => b c o (a c o e n t) n t
theorem KeepP.ofSame {p : Addr} {H G : Hp} (a : Same H G) : KeepP p H G := fun c o e _ _ => a c o e
theorem KeepP.ofN {p : Addr} {H G : Hp} (a : SameN H G) : KeepP p H G := fun c o e _ t => a c o e t
theorem KeepP.ofL {p : Addr} {H G : Hp} (a : Ladled p H G) : KeepP p H G := fun c o e n _ => a.keep c o e n
theorem KeepP.tup {p : Addr} {H G : Hp} (k : KeepP p H G) (hp : Pot H p) {a : Addr} {xs : List V} (h : H a = some (.tup xs)) : G a = some (.tup xs) := k _ _ h (fun z => by
  obtain ⟨x, y, w, e⟩ := hp
  rw [← z, h] at e
  cases e) fun _ z => by cases z
theorem KeepP.dict {p : Addr} {H G : Hp} (k : KeepP p H G) (hp : Pot H p) {a : Addr} (h : H a = some (.dK [])) : G a = some (.dK []) := k _ _ h (fun z => by
  obtain ⟨x, y, w, e⟩ := hp
  rw [← z, h] at e
  cases e) fun _ z => by cases z
theorem KeepP.lst {p : Addr} {H G : Hp} (k : KeepP p H G) {a : Addr} (n : a ≠ p) {xs : List V} (h : H a = some (.lst xs)) : G a = some (.lst xs) := k _ _ h n fun _ z => by cases z
theorem KeepP.ins {p : Addr} {H G : Hp} (k : KeepP p H G) (hp : Pot H p) {a C dx : Addr} {fs : List (Str × V)} (h : H a = some (.ins C dx fs)) : G a = some (.ins C dx fs) := k _ _ h (fun z => by
  obtain ⟨x, y, w, e⟩ := hp
  rw [← z, h] at e
  cases e) fun _ z => by cases z
theorem KeepP.lst0 {p : Addr} {H G : Hp} (k : KeepP p H G) (hp : Pot H p) {a : Addr} {xs : List V} (h : H a = some (.lst xs)) (l : xs.length ≠ 3) : G a = some (.lst xs) := k _ _ h (fun z => by
  obtain ⟨x, y, w, e⟩ := hp
  rw [← z, h] at e
  cases e
  exact l rfl) fun _ z => by cases z
theorem TabS.of {H G : Hp} {P p : Addr} {q : Str} (t : TabS H P q) (hp : Pot H p) (e : ∀ b o, H b = some o → b ≠ p → G b = some o) : TabS G P q := by
  obtain ⟨x, y, z, ep⟩ := hp
  obtain ⟨ps, h1, h2, h3⟩ := t
  refine ⟨ps, e _ _ h1 fun q => ?_, h2, fun pos cv hc => ?_⟩
  · rw [q, ep] at h1
    cases h1
  · obtain ⟨c, e1, e2⟩ := h3 pos cv hc
    refine ⟨c, e1, e _ _ e2 fun q => ?_⟩
    rw [q, ep] at e2
    have z := Option.some.inj e2
    unfold CodeO at z
    cases z
theorem tabs_of {T : List (Addr × Str)} {H G : Hp} {p : Addr} (t : Tabs T H) (hp : Pot H p) (L : Ladled p H G) : Tabs T G := fun q hq => TabS.of (t q hq) hp L.keep
theorem sys_of {H G : Hp} {p : Addr} (y : Sys H) (hp : Pot H p) (L : Ladled p H G) : Sys G := by
  obtain ⟨x, y', z, ep⟩ := hp
  obtain ⟨o, u, e⟩ := y
  exact ⟨o, u, L.keep _ _ e fun q => by
    rw [q, ep] at e
    cases e⟩
theorem tabs_upd {T : List (Addr × Str)} {G : Hp} {q : Addr} {xs : List V} {o : HO} (t : Tabs T G) (e : G q = some (.lst xs)) : Tabs T (upd G q o) := fun r hr => by
  obtain ⟨ps, h1, h2, h3⟩ := t r hr
  refine ⟨ps, by rw [upd_ne fun z => by rw [z, e] at h1; cases h1]; exact h1, h2, fun pos cv hc => ?_⟩
  obtain ⟨c, e1, e2⟩ := h3 pos cv hc
  refine ⟨c, e1, ?_⟩
  rw [upd_ne fun z => by
    rw [z, e] at e2
    have y := Option.some.inj e2
    unfold CodeO at y
    cases y]
  exact e2
section
variable {T : List (Addr × Str)} {p : Addr} {H G J : Hp}
theorem LadT.refl (hp : Pot H p) (t : Tabs T H) (y : Sys H) : LadT T p H H := ⟨hp, fun _ _ e _ _ => e, t, y⟩
theorem LadT.trans (a : LadT T p H G) (b : LadT T p G J) : LadT T p H J := ⟨b.pot, fun c o e n t => b.keep c o (a.keep c o e n t) n t, b.tabs, b.sys⟩
theorem LadT.same (a : LadT T p H G) (s : Same G J) : LadT T p H J := ⟨a.pot.same s, fun c o e n t => s _ _ (a.keep c o e n t), a.tabs.ext s, a.sys.same s⟩
theorem LadT.lad (a : LadT T p H G) (L : Ladled p G J) : LadT T p H J := ⟨L.pot, fun c o e n t => L.keep _ _ (a.keep c o e n t) n, tabs_of a.tabs a.pot L, sys_of a.sys a.pot L⟩
theorem LadT.ext (a : LadT T p H G) (s : ExtN G J) (t : Tabs T J) : LadT T p H J := by
  obtain ⟨x, y, z, e⟩ := a.pot
  exact ⟨⟨x, y, z, s _ _ e fun _ q => by cases q⟩, fun c o e n q => s _ _ (a.keep c o e n q) q, t, SameN.sys s a.sys⟩
/-- what is not known in G was not known in H, but for a table -/
theorem LadT.free (a : LadT T p H G) {q : Addr} (h : G q = none) : q ≠ p ∧ ∀ o, H q = some o → ∃ ps, o = .tbl ps := by
  have n : q ≠ p := a.pot.ne h
  refine ⟨n, fun o e => Classical.byContradiction fun z => ?_⟩
  rw [a.keep q o e n fun ps y => z ⟨ps, y⟩] at h
  cases h
/-- a list that is new since H may change -/
theorem LadT.mut {q : Addr} {xs ys : List V} (a : LadT T p H G) (h : q ≠ p ∧ ∀ o, H q = some o → ∃ ps, o = .tbl ps) (e : G q = some (.lst xs)) : LadT T p H (upd G q (.lst ys)) := by
  obtain ⟨n, h⟩ := h
  refine ⟨?_, fun c o e1 nc nt => ?_, tabs_upd a.tabs e, ?_⟩
  · obtain ⟨x, y, z, ep⟩ := a.pot
    exact ⟨x, y, z, by rw [upd_ne (Ne.symm n)]; exact ep⟩
  · rw [upd_ne fun z => by
      obtain ⟨ps, y⟩ := h o (by rw [← z]; exact e1)
      exact nt ps y]
    exact a.keep c o e1 nc nt
  · obtain ⟨o, u, ey⟩ := a.sys
    exact ⟨o, u, by rw [upd_ne fun z => by rw [z, e] at ey; cases ey]; exact ey⟩
end
/-! ### Shortener by keywords, refused -/
def revK {α : Type} (a b : List α) : List α := a ++ b.reverse
theorem valsK : ∀ {zs : List V} {ws : List Value}, Vals zs ws → Vals zs.reverse ws.reverse
  | [], _, r => by
    cases r
    exact .nil
  | z :: zs, _, r => by
    cases r with
    | cons a r =>
      rw [List.reverse_cons, List.reverse_cons]
      exact (valsK r).append (.cons a .nil)
structure MakXK (P : Program) (w : World) (K : PySem.W.Frag) (mg : Str → Option Value) (base : Heap) (k : Nat) (x : Str) (C : Addr) (ks : List Str) (gV : List V → List V → List V) (sp : Sp) : Prop where
  ex : ∃ (f : Addr) (fd : FuncData) (ps : List Str) (g : List Value → List Value → List Value), Mk K C f ∧ FnOk P w K mg base (L2.CX P w) k f fd ps sp ∧ mg x = some (.ref C) ∧ KBn K fd ps 1 ks g gV
theorem pe_newXK {X : Cx} {k j : Nat} {x : Str} {C : Addr} {ks : List Str} {gV : List V → List V → List V} {sp : Sp} {E : XK} {W : WX} {p pos : Pos} {kws : List Keyword} {tk : TA} (c : MakXK X.prog X.w X.K X.mg X.base k x C ks gV sp) (hr : Room j X.A) (hk : k + 1 ≤ j) (ty : Takes X W) (hW : ∀ cls d σ H, E cls d H → W cls d σ H) (hg : Gl X x) (hkw : PK X kws tk)
    (hall : (backToKw pos (keywordEach kws X.env)).all (·.1.isSome) = true := by rfl) (hks : (backToKw pos (keywordEach kws X.env)).filterMap (·.1) = ks := by rfl) (hdb : (x == ("__debug__" : Str)) = false := by decide)
    (hpl : ((backTo pos (starEach [] X.env)).any (·.1) || (backToKw pos (keywordEach kws X.env)).any (·.1.isNone)) = false := by rfl) : PE X (.Call (.Name x p) [] kws pos) (tMakeK C 0 ks.length sp gV E tNil tk) := by
  obtain ⟨f, fd, ps, g, M, F, hm, b⟩ := c.ex
  exact pe_makeK0 M F (hr.mono hk) hg hm b (passes_call ty hW) hkw hall hks hdb hpl
section
variable {P : Program} {w : World} {K : PySem.W.Frag} {mg : Str → Option Value} {base : Heap} {C U CN CM : Addr}
theorem mak_shXK (B : Bi mg) (S : ShC K mg C) (D : InitAt K C) (T_InvalidNumber : ErrK K mg bVE U "InvalidNumber" CN) (S_InvalidNumber : ErrF K "InvalidNumber" "value" CN) (C_is_integer : Cal P w K mg base 1 "is_integer" ps_is_integer (spNum K)) (CX_check_mark : CalX P w K mg base 2 "check_mark" ps_check_mark (spMarkX K CM)) : MakXK P w K mg base 3 "Shortener" C ["mark", "tail", "head", "limit"] revK (spInitX K C CN CM) := by
  obtain ⟨f, fd, M, F, b⟩ := D.ex
  refine ⟨f, fd, ps_Shortener_init, revK, M, ok_initX B F T_InvalidNumber S_InvalidNumber C_is_integer CX_check_mark, S.g, ⟨fun s us ws I l1 l2 => ?_, fun r q => ?_⟩⟩
  · obtain ⟨oc, od, kV, doc, pm, an, cdv, ct, sl, e, lk, hcd⟩ := F.ex
    rw [e]
    match us, ws, l1, l2 with
    | [_], [_, _, _, _], _, _ => exact BindsTo.of_eq rfl
  · exact r.append (valsK q)
end
/-- the way in which a Shortener is refused: the word, the thing -/
def Refused (K : PySem.W.Frag) (H : Hp) (l h t m : V) (N : Str) (v : V) : Prop :=
  (N = "InvalidNumber" ∧ ((NoNum K H 40 l ∧ v = l) ∨ (OkNum l ∧ NoNum K H 40 h ∧ v = h) ∨ (OkNum l ∧ OkNum h ∧ NoNum K H 40 t ∧ v = t))) ∨ (N = "InvalidMark" ∧ OkNum l ∧ OkNum h ∧ OkNum t ∧ NoTxt K H 3 m ∧ v = m)
section
variable {K : PySem.W.Frag} {T : List (Addr × Str)} {C CN CM p : Addr} {H : Hp} {σ : L2.St} {Q : VK} {l h t m v : V} {N : Str}
theorem lam_core {hs : List (Str × Str × Addr)} (mN : (("InvalidNumber" : Str), ("value" : Str), CN) ∈ hs) (mM : (("InvalidMark" : Str), ("value" : Str), CM) ∈ hs) (L : LadT T p H H) (bad : ∀ G, KeepP p H G → Refused K G l h t m N v) (k : ∀ q J, LadT T p H J → J q = some (.lst [.str N, v, .bl true]) → Q (.ref q) J)
    {tl : XK → Hp → VK → Prop} (go : ∀ (E : XK) (G : Hp) (R : VK), (∀ x dx, G x = none → G dx = none → dx ≠ x → spInitX K C CN CM [.ref x, l, h, t, m] (upd (upd G dx (.own x)) x (.ins C dx [])) (fun u J => u = .non ∧ R (.ref x) J) E) → tl E G R) (H1 : Hp) (e1 : ExtN H H1) (t1 : Tabs T H1) : TEnd hs tl H1 Q := by
  have L1 : LadT T p H H1 := L.ext e1 t1
  refine ⟨fun cls d G => ∃ (D dd : Addr), cls = .ref D ∧ (N, ("value" : Str), D) ∈ hs ∧ d = some dd ∧ LadT T p H G ∧ G dd = some (.xd [("value", v)]), fun _ _ => False, go _ H1 _ fun x dx nx ndx ne => ?_, fun cls d G ⟨D, dd, h1, h2, h3, h4, h5⟩ => ⟨N, "value", D, dd, v, h2, h1, h3, h5, fun q J s e => k q J (h4.same s) e⟩, fun _ _ z => z.elim⟩
  have s2 : Same H1 (upd (upd H1 dx (.own x)) x (.ins C dx [])) := (same_new ndx).trans (same_new (by rw [upd_ne (Ne.symm ne)]; exact nx))
  have e2 : upd (upd H1 dx (.own x)) x (.ins C dx []) x = some (.ins C dx []) := upd_same
  generalize upd (upd H1 dx (.own x)) x (.ins C dx []) = H2 at s2 e2
  have L2 := L1.same s2
  refine ⟨x, dx, l, h, t, m, rfl, e2, ?_⟩
  rcases bad H2 L2.keep with ⟨rfl, b⟩ | ⟨rfl, o1, o2, o3, b, rfl⟩
  · exact .inl ⟨v, b, fun d G s e => ⟨CN, d, rfl, mN, rfl, L2.same s, e⟩⟩
  · exact .inr ⟨o1, o2, o3, b, fun d G s e => ⟨CM, d, rfl, mM, rfl, L2.same s, e⟩⟩
theorem lam_init {hs : List (Str × Str × Addr)} {ta : TA} (mN : (("InvalidNumber" : Str), ("value" : Str), CN) ∈ hs) (mM : (("InvalidMark" : Str), ("value" : Str), CM) ∈ hs) (L : LadT T p H H) (args : ∀ (G : Hp) (R : List V → Hp → Prop), R [l, h, t, m] G → ta σ G R) (bad : ∀ G, KeepP p H G → Refused K G l h t m N v) (k : ∀ q J, LadT T p H J → J q = some (.lst [.str N, v, .bl true]) → Q (.ref q) J) :
    tLam T (TEnd hs) (fun E => tMake C (spInitX K C CN CM) [] E ta) σ H Q := ⟨L.tabs, fun H1 e1 t1 => lam_core mN mM L bad k (fun E G R h => args G _ h) H1 e1 t1⟩
theorem lam_initK {hs : List (Str × Str × Addr)} {tk : TA} (mN : (("InvalidNumber" : Str), ("value" : Str), CN) ∈ hs) (mM : (("InvalidMark" : Str), ("value" : Str), CM) ∈ hs) (L : LadT T p H H) (args : ∀ (G : Hp) (R : List V → Hp → Prop), R [m, t, h, l] G → tk σ G R) (bad : ∀ G, KeepP p H G → Refused K G l h t m N v) (k : ∀ q J, LadT T p H J → J q = some (.lst [.str N, v, .bl true]) → Q (.ref q) J) :
    tLam T (TEnd hs) (fun E => tMakeK C 0 4 (spInitX K C CN CM) revK E tNil tk) σ H Q := ⟨L.tabs, fun H1 e1 t1 => lam_core mN mM L bad k (fun E G R h => args G _ ⟨rfl, rfl, h⟩) H1 e1 t1⟩
end
end Gu
namespace Gu
open PySem PySem.Spec PyProof.Rows L2
/-! ### things that are no numbers, no texts, no tuples -/
section
variable {K : PySem.W.Frag} {G : Hp} {m : Int} {a : Addr} {xs : List V}
theorem isa_non {T : String} {b : Bool} (h : PySem.W.kitOne K (.type "NoneType") (.type T) = some b) : Isa K G .non T b := ⟨_, .base .non, h⟩
theorem isa_bl {T : String} {b : Bool} {x : Bool} (h : PySem.W.kitOne K (.type "bool") (.type T) = some b) : Isa K G (.bl x) T b := ⟨_, .base (.bl x), h⟩
theorem isa_int {T : String} {b : Bool} {x : Int} (h : PySem.W.kitOne K (.type "int") (.type T) = some b) : Isa K G (.int x) T b := ⟨_, .base (.int x), h⟩
theorem isa_str {T : String} {b : Bool} {x : Str} (h : PySem.W.kitOne K (.type "str") (.type T) = some b) : Isa K G (.str x) T b := ⟨_, .base (.str x), h⟩
theorem isa_tup {T : String} {b : Bool} (e : G a = some (.tup xs)) (h : PySem.W.kitOne K (.type "tuple") (.type T) = some b) : Isa K G (.ref a) T b := ⟨_, .base (.tup e), h⟩
theorem isa_lst {T : String} {b : Bool} (e : G a = some (.lst xs)) (h : PySem.W.kitOne K (.type "list") (.type T) = some b) : Isa K G (.ref a) T b := ⟨_, .base (.lst e), h⟩
theorem isa_dict {T : String} {b : Bool} (e : G a = some (.dK [])) (h : PySem.W.kitOne K (.type "dict") (.type T) = some b) : Isa K G (.ref a) T b := ⟨_, .base (.dK e), h⟩
theorem nn_non : NoNum K G m .non := .inr (.inl (isa_non (kit_ty (by decide +kernel))))
theorem nn_str {z : Str} : NoNum K G m (.str z) := .inr (.inl (isa_str (kit_ty (by decide +kernel))))
theorem nn_bl {b : Bool} : NoNum K G m (.bl b) := .inr (.inr ⟨isa_bl (kit_ty (by decide +kernel)), isa_bl (kit_ty (by decide +kernel))⟩)
theorem nn_int {i : Int} (h : ¬ (0 ≤ i ∧ i ≤ m)) : NoNum K G m (.int i) := .inl ⟨i, rfl, h⟩
theorem nn_tup (e : G a = some (.tup xs)) : NoNum K G m (.ref a) := .inr (.inl (isa_tup e (kit_ty (by decide +kernel))))
theorem nn_lst (e : G a = some (.lst xs)) : NoNum K G m (.ref a) := .inr (.inl (isa_lst e (kit_ty (by decide +kernel))))
theorem nn_dict (e : G a = some (.dK [])) : NoNum K G m (.ref a) := .inr (.inl (isa_dict e (kit_ty (by decide +kernel))))
theorem nt_non : NoTxt K G m .non := .inl (isa_non (kit_ty (by decide +kernel)))
theorem nt_bl {b : Bool} : NoTxt K G m (.bl b) := .inl (isa_bl (kit_ty (by decide +kernel)))
theorem nt_int {i : Int} : NoTxt K G m (.int i) := .inl (isa_int (kit_ty (by decide +kernel)))
theorem nt_str {z : Str} (l : z.length ≤ 1000) (h : isTxt z m = false) : NoTxt K G m (.str z) := .inr ⟨z, rfl, l, h⟩
theorem nt_tup (e : G a = some (.tup xs)) : NoTxt K G m (.ref a) := .inl (isa_tup e (kit_ty (by decide +kernel)))
theorem nt_lst (e : G a = some (.lst xs)) : NoTxt K G m (.ref a) := .inl (isa_lst e (kit_ty (by decide +kernel)))
theorem nt_dict (e : G a = some (.dK [])) : NoTxt K G m (.ref a) := .inl (isa_dict e (kit_ty (by decide +kernel)))
/-- a thing that can be written out, and of which R holds, wherever only the pot and tables have changed -/
def Thing (K : PySem.W.Frag) (p : Addr) (H : Hp) (v : V) (d : PyData) (R : Hp → V → Prop) : Prop := FineE 2 400 d ∧ ∀ G, KeepP p H G → DpE K G v d ∧ R G v
theorem Thing.at {p : Addr} {H J : Hp} {v : V} {d : PyData} {R : Hp → V → Prop} (h : Thing K p H v d R) (k : KeepP p H J) : Thing K p J v d R := ⟨h.1, fun G z => h.2 G (k.trans z)⟩
variable {p : Addr} {H : Hp} {R : Hp → V → Prop}
theorem th_non (r : ∀ G, R G .non) : ∃ d, Thing K p H .non d R := ⟨.none, Fine.none.e.mono (by decide) (by decide), fun G _ => ⟨.non, r G⟩⟩
theorem th_bl {b : Bool} (r : ∀ G, R G (.bl b)) : ∃ d, Thing K p H (.bl b) d R := ⟨.bool b, (Fine.bool b).e.mono (by decide) (by decide), fun G _ => ⟨.bl b, r G⟩⟩
theorem th_int {i : Int} (h : i.natAbs < 2 ^ 70) (r : ∀ G, R G (.int i)) : ∃ d, Thing K p H (.int i) d R := ⟨.int i, (Fine.int h).e.mono (by decide) (by decide), fun G _ => ⟨.int i, r G⟩⟩
theorem th_str {z : Str} (h : ∀ c ∈ z.cps.toList, c < 16 ^ 8) (l : z.cps.toList.length ≤ 400) (r : ∀ G, R G (.str z)) : ∃ d, Thing K p H (.str z) d R := ⟨.str z, (Fine.str h l).e.mono (by decide) (Nat.le_refl _), fun G _ => ⟨.str z, r G⟩⟩
theorem th_dict {a : Addr} (hp : Pot H p) (e : H a = some (.dK [])) (r : ∀ G, G a = some (.dK []) → R G (.ref a)) : ∃ d, Thing K p H (.ref a) d R := ⟨.dict [], FineE.dict0.mono (by decide) (by decide), fun G k => ⟨.dict (k.dict hp e), r G (k.dict hp e)⟩⟩
theorem th_tup {a : Addr} {xs : List V} {ds : List PyData} (hp : Pot H p) (e : H a = some (.tup xs)) (f : FineE 2 400 (.tuple ds)) (all : ∀ G, KeepP p H G → DpEs K G xs ds) (r : ∀ G, G a = some (.tup xs) → R G (.ref a)) : ∃ d, Thing K p H (.ref a) d R := ⟨.tuple ds, f, fun G k => ⟨.tup (.inl (.inl (k.tup hp e))) (all G k), r G (k.tup hp e)⟩⟩
theorem th_lst {a : Addr} {xs : List V} {ds : List PyData} (n : a ≠ p) (e : H a = some (.lst xs)) (f : FineE 2 400 (.list ds)) (all : ∀ G, KeepP p H G → DpEs K G xs ds) (r : ∀ G, G a = some (.lst xs) → R G (.ref a)) : ∃ d, Thing K p H (.ref a) d R := ⟨.list ds, f, fun G k => ⟨.lst (k.lst n e) (all G k), r G (k.lst n e)⟩⟩
end
end Gu
namespace Gu
open PySem PySem.Spec PyProof.Rows L2
/-! data are equal to themselves -/
mutual
theorem eqv_self : ∀ d : PyData, d.canLay0 = true → PyData.eqv d d = true
  | .none, _ => rfl
  | .bool b, _ => by simp [PyData.eqv]
  | .int i, _ => by simp [PyData.eqv]
  | .str x, _ => by simp [PyData.eqv]
  | .list xs, h => by
    rw [PyData.eqv]
    exact eqv_selfs xs (by simpa [PyData.canLay0] using h)
  | .tuple xs, h => by
    rw [PyData.eqv]
    exact eqv_selfs xs (by simpa [PyData.canLay0] using h)
  | .dict _, h => by simp [PyData.canLay0] at h
theorem eqv_selfs : ∀ xs : List PyData, PyData.canLayAll0 xs = true → PyData.eqvAll xs xs = true
  | [], _ => rfl
  | x :: xs, h => by
    have h2 : x.canLay0 = true ∧ PyData.canLayAll0 xs = true := by simpa [PyData.canLayAll0] using h
    rw [PyData.eqvAll, eqv_self x h2.1, eqv_selfs xs h2.2]
    rfl
end
end Gu
namespace Gu
open PySem PySem.Spec PyProof.Rows L2 LamX
/-! ### what has been seen, one answer after the other -/
theorem LadT.kp {T : List (Addr × Str)} {p : Addr} {H G : Hp} (a : LadT T p H G) : KeepP p H G := a.keep
theorem LadT.here {T : List (Addr × Str)} {p : Addr} {H G : Hp} (a : LadT T p H G) : LadT T p G G := .refl a.pot a.tabs a.sys
theorem pot_neS {H : Hp} {p q : Addr} {z : Str} {xs : List V} (h : Pot H p) (e : H q = some (.lst (.str z :: xs))) : q ≠ p := fun y => by
  obtain ⟨a, b, c, f⟩ := h
  rw [← y, e] at f
  cases f
structure SeenAt (p : Addr) (H : Hp) (S : Addr) (qs : List (Addr × Str × V)) : Prop where
  ls : H S = some (.lst (qs.map fun q => V.ref q.1))
  ne : S ≠ p
  el : ∀ q ∈ qs, H q.1 = some (.lst [.str q.2.1, q.2.2, .bl true]) ∧ q.1 ≠ S
theorem SeenAt.keep {p S : Addr} {H G : Hp} {qs : List (Addr × Str × V)} (h : SeenAt p H S qs) (hp : Pot H p) (k : KeepP p H G) : SeenAt p G S qs := ⟨k.lst h.ne h.ls, h.ne, fun q hq => ⟨k.lst (pot_neS hp (h.el q hq).1) (h.el q hq).1, (h.el q hq).2⟩⟩
theorem SeenAt.first {p S q : Addr} {H : Hp} {N : Str} {v : V} (hp : Pot H p) (nS : H S = none) (e : H q = some (.lst [.str N, v, .bl true])) : SeenAt p (upd H S (.lst [.ref q])) S [(q, N, v)] := by
  refine ⟨upd_same, hp.ne nS, fun r hr => ?_⟩
  rw [List.mem_singleton.mp hr]
  exact ⟨by rw [upd_ne (ne_of_none e nS)]; exact e, ne_of_none e nS⟩
theorem SeenAt.none {p S : Addr} {H : Hp} (hp : Pot H p) (nS : H S = none) : SeenAt p (upd H S (.lst [])) S [] := ⟨upd_same, hp.ne nS, fun r hr => by cases hr⟩
section
variable {T : List (Addr × Str)} {p S q : Addr} {H J : Hp} {qs : List (Addr × Str × V)} {N : Str} {v : V}
/-- S.append(q), q new -/
theorem SeenAt.more (h : SeenAt p J S qs) (e : J q = some (.lst [.str N, v, .bl true])) (n : q ≠ S) : SeenAt p (upd J S (.lst ((qs.map fun q => V.ref q.1) ++ [.ref q]))) S (qs ++ [(q, N, v)]) := by
  refine ⟨by rw [upd_same, List.map_append]; rfl, h.ne, fun r hr => ?_⟩
  rcases List.mem_append.mp hr with hr | hr
  · exact ⟨by rw [upd_ne (h.el r hr).2]; exact (h.el r hr).1, (h.el r hr).2⟩
  · rw [List.mem_singleton.mp hr]
    exact ⟨by rw [upd_ne n]; exact e, n⟩
end
/-- the items of a list are things -/
theorem seen_data {K : PySem.W.Frag} {p S : Addr} {H : Hp} {qs : List (Addr × Str × V)} (h : SeenAt p H S qs) {ds : List PyData} (all : DpEs K H (qs.map (·.2.2)) ds) : DpE K H (.ref S) (.list ((qs.zip ds).map fun x => .list [.str x.1.2.1, x.2, .bool true])) := by
  refine .lst h.ls ?_
  have go : ∀ (qs : List (Addr × Str × V)) (ds : List PyData), (∀ q ∈ qs, H q.1 = some (.lst [.str q.2.1, q.2.2, .bl true])) → DpEs K H (qs.map (·.2.2)) ds → DpEs K H (qs.map fun q => V.ref q.1) ((qs.zip ds).map fun x => .list [.str x.1.2.1, x.2, .bool true]) := by
    intro qs
    induction qs with
    | nil => exact fun _ _ _ => .nil
    | cons q qs ih =>
      intro ds e a
      cases a with
      | cons a1 a2 => exact .cons (.lst (e q (List.mem_cons_self ..)) (.cons (.str _) (.cons a1 (.cons (.bl true) .nil)))) (ih _ (fun r hr => e r (List.mem_cons_of_mem _ hr)) a2)
  exact go qs ds (fun q hq => (h.el q hq).1) all
/-- a short word -/
def isTxt20 (N : Str) : Bool := decide (N.cps.toList.length ≤ 20) && N.cps.toList.all fun c => decide (c < 128)
theorem word_fine {N : Str} (h : isTxt20 N = true) : FineE 2 400 (.str N) := by
  unfold isTxt20 at h
  rw [Bool.and_eq_true, List.all_eq_true] at h
  have l := of_decide_eq_true h.1
  exact (Fine.str (W := 400) (fun c hc => Nat.lt_of_lt_of_le (of_decide_eq_true (h.2 c hc)) (by decide)) (by omega)).e.mono (by decide) (Nat.le_refl _)
/-- an answer written out -/
def said (N : Str) (d : PyData) : PyData := .list [.str N, d, .bool true]
theorem said_fine {N : Str} {d : PyData} (h : FineE 2 400 d) (n : isTxt20 N = true) : FineE 3 1300 (said N d) := by
  have a : FineEs 2 400 [.str N, d, .bool true] := .of fun e he => by
    simp only [List.mem_cons, List.not_mem_nil, or_false] at he
    rcases he with rfl | rfl | rfl
    · exact word_fine n
    · exact h
    · exact (Fine.bool true).e.mono (by decide) (by decide)
  exact a.list.mono (Nat.le_refl _) (by show 3 * 401 ≤ 1300; decide)
theorem all_said {l : List PyData} (h : ∀ d ∈ l, FineE 3 1300 d) (n : l.length ≤ 60) : FineE 60 100000 (.list l) := by
  refine (FineEs.of h).list.mono (by decide) ?_
  have := Nat.mul_le_mul_right 1301 n
  omega
end Gu
namespace Gu
open PySem PySem.Spec PyProof.Rows L2 LamX
abbrev lamQ_law_right : Str := (envOfC "_law_right" (defScope s_law_right) 0 0 .none).qual ++ "<lambda>"
def spRightT (T : List (Addr × Str)) : Sp := fun vs H Q _ => ∃ (p : Addr), vs = [.ref p] ∧ Pot H p ∧ Tabs T H ∧ Sys H ∧ ∀ G, LadT T p H G → Q (.bl true) G
section
variable {P : Program} {w : World} {K : PySem.W.Frag} {mg : Str → Option Value} {base : Heap} {C U C0 C1 c PT : Addr}
set_option maxHeartbeats 4000000 in
theorem cal_right (B : Bi mg) (SC : ShC K mg C) (D : AtC K mg "_law_right" s_law_right ps_law_right c) (TB : TabB base mg c PT) (A_ended : At K mg "_law_ended" s_law_ended ps_law_ended) (UI : UpK K mg bVE "InputError" U) (T0 : ErrK K mg bVE U "InvalidMark" C0) (S0 : ErrF K "InvalidMark" "value" C0) (T1 : ErrK K mg bVE U "InvalidNumber" C1) (S1 : ErrF K "InvalidNumber" "value" C1)
    (C_law_one_of : Cal P w K mg base 2 "_law_one_of" ps_law_one_of (spOneOf K)) (M_sh : Mak P w K mg base 3 "Shortener" C (spInit C)) (MX_sh : MakX P w K mg base 3 "Shortener" C (spInitX K C C1 C0)) (MXK_sh : MakXK P w K mg base 3 "Shortener" C ["mark", "tail", "head", "limit"] revK (spInitX K C C1 C0)) : CalG P w K mg base 8 "_law_right" ps_law_right (spRightT [(PT, lamQ_law_right)]) := by
  refine D.calG sc_law_right (fun vs H Q E h => ?_) (fun f A outer s H vs Q E hr quiet h => ?_)
  · obtain ⟨p, rfl, _⟩ := h
    rfl
  · obtain ⟨p, rfl, hp, hT, hY, k⟩ := h
    refine ⟨_, (pss_cons (ps_set (i := 1) sc_law_right.nd rfl (.inr rfl) (pe_own C_law_one_of hr (by decide) (by rfl) (pa_cons (pv 0) (pa_cons (pe_lst (pa_cons pe_non (pa_cons (pe_un un_neg pe_int) (pa_cons pe_int (pa_cons pe_bl (pa_cons pe_bl (pa_cons pe_str (pa_cons (pe_tup (pa_cons pe_int pa_nil)) (pa_cons (pe_lst (pa_cons pe_int pa_nil)) (pa_cons (pe_op op_pow pe_int pe_int) (pa_cons pe_dnewK pa_nil))))))))))) pa_nil))))
      (pss_cons (ps_set (i := 2) sc_law_right.nd rfl (.inr rfl) (pe_own C_law_one_of hr (by decide) (by rfl) (pa_cons (pv 0) (pa_cons (pe_lst (pa_cons pe_non (pa_cons pe_int (pa_cons (pe_un un_neg pe_int) (pa_cons pe_str (pa_cons (pe_tup (pa_cons pe_int pa_nil)) (pa_cons pe_bl (pa_cons (pe_un un_neg (pe_op op_pow pe_int pe_int)) pa_nil)))))))) pa_nil))))
      (pss_cons (ps_set (i := 3) sc_law_right.nd rfl (.inr rfl) (pe_own C_law_one_of hr (by decide) (by rfl) (pa_cons (pv 0) (pa_cons (pe_lst (pa_cons pe_non (pa_cons pe_str (pa_cons pe_str (pa_cons pe_str (pa_cons pe_str (pa_cons pe_int (pa_cons (pe_tup (pa_cons pe_str pa_nil)) (pa_cons (pe_lst pa_nil) (pa_cons pe_str (pa_cons pe_bl (pa_cons pe_str pa_nil)))))))))))) pa_nil))))
      (pss_cons (ps_set (i := 4) sc_law_right.nd rfl (.inl rfl) (pe_lst (pa_cons (pe_lamE A_ended sc_law_ended (fun g cdv => ended_gives B UI T0 S0 T1 S1) TB hr (by decide) (by rfl) rfl (.inl rfl) rfl (List.mem_singleton.mpr rfl) (fun p hp _ => by rw [List.mem_singleton.mp hp]; rfl) (lamS_by (sc := defScope s_law_right) (by decide +kernel)) rfl (fun _ _ _ _ _ => rfl) (k := 4) (T := [(PT, lamQ_law_right)]) (fun A2 outer2 s2 H2 E2 f2 c2 hr => (pe_newX MX_sh hr (by decide) (takes_of rfl rfl rfl rfl) (fun _ _ _ _ h => h) (by rfl) (pa_cons (pv 1) (pa_cons (pv 2) (pa_cons (pv 2) (pa_cons (pv 3) pa_nil))))))) pa_nil)))
      (pss_cons (ps_expr (pe_bm PySem.F.plainAttrs_list PySem.F.slot_list_append PySem.F.type_list_append mt_append (pv 4) (pa_cons (pe_lamE A_ended sc_law_ended (fun g cdv => ended_gives B UI T0 S0 T1 S1) TB hr (by decide) (by rfl) rfl (.inl rfl) rfl (List.mem_singleton.mpr rfl) (fun p hp _ => by rw [List.mem_singleton.mp hp]; rfl) (lamS_by (sc := defScope s_law_right) (by decide +kernel)) rfl (fun _ _ _ _ _ => rfl) (k := 4) (T := [(PT, lamQ_law_right)]) (fun A2 outer2 s2 H2 E2 f2 c2 hr => (pe_newX MX_sh hr (by decide) (takes_of rfl rfl rfl rfl) (fun _ _ _ _ h => h) (by rfl) (pa_cons pe_int (pa_cons (pv 2) (pa_cons (pv 1) (pa_cons (pv 3) pa_nil))))))) pa_nil)))
      (pss_cons (ps_expr (pe_bm PySem.F.plainAttrs_list PySem.F.slot_list_append PySem.F.type_list_append mt_append (pv 4) (pa_cons (pe_lamE A_ended sc_law_ended (fun g cdv => ended_gives B UI T0 S0 T1 S1) TB hr (by decide) (by rfl) rfl (.inl rfl) rfl (List.mem_singleton.mpr rfl) (fun p hp _ => by rw [List.mem_singleton.mp hp]; rfl) (lamS_by (sc := defScope s_law_right) (by decide +kernel)) rfl (fun _ _ _ _ _ => rfl) (k := 4) (T := [(PT, lamQ_law_right)]) (fun A2 outer2 s2 H2 E2 f2 c2 hr => (pe_newX MX_sh hr (by decide) (takes_of rfl rfl rfl rfl) (fun _ _ _ _ h => h) (by rfl) (pa_cons pe_int (pa_cons pe_int (pa_cons (pv 1) (pa_cons (pv 3) pa_nil))))))) pa_nil)))
      (pss_cons (ps_expr (pe_bm PySem.F.plainAttrs_list PySem.F.slot_list_append PySem.F.type_list_append mt_append (pv 4) (pa_cons (pe_lamE A_ended sc_law_ended (fun g cdv => ended_gives B UI T0 S0 T1 S1) TB hr (by decide) (by rfl) rfl (.inl rfl) rfl (List.mem_singleton.mpr rfl) (fun p hp _ => by rw [List.mem_singleton.mp hp]; rfl) (lamS_by (sc := defScope s_law_right) (by decide +kernel)) rfl (fun _ _ _ _ _ => rfl) (k := 4) (T := [(PT, lamQ_law_right)]) (fun A2 outer2 s2 H2 E2 f2 c2 hr => (pe_newXK MXK_sh hr (by decide) (takes_of rfl rfl rfl rfl) (fun _ _ _ _ h => h) (by rfl) (pk_cons (pv 3) (pk_cons pe_int (pk_cons pe_int (pk_cons pe_int pk_nil))))))) pa_nil)))
      (pss_cons (ps_set (i := 5) sc_law_right.nd rfl (.inl rfl) (pe_lst (pa_cons (pe_lst (pa_cons pe_str (pa_cons (pv 1) (pa_cons pe_bl pa_nil)))) (pa_cons (pe_lst (pa_cons pe_str (pa_cons (pv 2) (pa_cons pe_bl pa_nil)))) (pa_cons (pe_lst (pa_cons pe_str (pa_cons (pv 1) (pa_cons pe_bl pa_nil)))) pa_nil)))))
      (pss_cons (ps_if (pt_cmpR op_ne (pe_callB (call_reprE quiet hr.units) (by rfl) B.repr (by decide +kernel) (pa_cons (pv 4) pa_nil)) (pe_callB (call_reprE quiet hr.units) (by rfl) B.repr (by decide +kernel) (pa_cons (pe_op op_cat (pv 5) (pe_lst (pa_cons (pe_lst (pa_cons pe_str (pa_cons (pv 3) (pa_cons pe_bl pa_nil)))) pa_nil))) pa_nil)) (nomark _)) (pss_one (ps_ret pe_bl)) pss_nil)
      (pss_one (ps_ret (pe_cmpR (op_eqD hr.units) (pe_lst (pa_cons (pe_fld (pe_new M_sh hr (by decide) (by rfl) (pa_cons pe_int (pa_cons pe_int (pa_cons pe_int (pa_cons pe_str pa_nil))))) rfl) (pa_cons (pe_fld (pe_new M_sh hr (by decide) (by rfl) (pa_cons pe_int (pa_cons pe_int (pa_cons pe_int (pa_cons pe_str pa_nil))))) rfl) pa_nil))) (pe_lst (pa_cons (pe_tup (pa_cons pe_int (pa_cons pe_int (pa_cons pe_int (pa_cons pe_str pa_nil))))) (pa_cons (pe_tup (pa_cons pe_int (pa_cons pe_int (pa_cons pe_int (pa_cons pe_str pa_nil))))) pa_nil))) (nomark _))))))))))))), ?_⟩
    have LH : LadT [(PT, lamQ_law_right)] p H H := .refl hp hT hY
    -- a bad number
    refine ⟨_, rfl, _, rfl, by show 1 ≤ sizeLine; decide, fun t1 nt1 => ⟨by show 1 ≤ sizeLine; decide, fun l1 nl1 => ?_⟩⟩
    have s1 : Same H (upd H t1 (.tup [.int 2])) := same_new nt1
    have e1 : upd H t1 (.tup [.int 2]) t1 = some (.tup [.int 2]) := upd_same
    generalize upd H t1 (.tup [.int 2]) = H1 at s1 e1 nl1
    have s2 : Same H1 (upd H1 l1 (.lst [.int 1])) := same_new nl1
    have e2 : upd H1 l1 (.lst [.int 1]) l1 = some (.lst [.int 1]) := upd_same
    have nl1p : l1 ≠ p := (hp.same s1).ne nl1
    generalize upd H1 l1 (.lst [.int 1]) = H2 at s2 e2
    refine ⟨_, _, rfl, rfl, ⟨by decide, by decide, by decide⟩, fun d1 nd1 => ?_⟩
    have s3 : Same H2 (upd H2 d1 (.dK [])) := same_new nd1
    have e3 : upd H2 d1 (.dK []) d1 = some (.dK []) := upd_same
    generalize upd H2 d1 (.dK []) = H3 at s3 e3
    have L3 := LH.same (s1.trans (s2.trans s3))
    refine ⟨by show 10 ≤ sizeLine; decide, fun a1 na1 => ?_⟩
    have L4 := L3.same (same_new na1 (o := .lst [.non, .int (-1), .int 41, .bl true, .bl false, .str "3", .ref t1, .ref l1, .int (10 ^ (19 : Int).toNat), .ref d1]))
    refine ⟨p, L4.pot, .inl ⟨a1, _, rfl, .inl (.inl upd_same), L3.pot.ne na1, by show 0 < 10; decide, by show 10 < 1000; decide, fun v1 G1 mem Lv => ?_⟩⟩
    have b1 : ∃ d, Thing K p H3 v1 d (fun G v => NoNum K G 40 v) := by
      simp only [List.mem_cons, List.not_mem_nil, or_false] at mem
      rcases mem with rfl | rfl | rfl | rfl | rfl | rfl | rfl | rfl | rfl | rfl
      · exact th_non fun G => nn_non
      · exact th_int (by decide) fun G => nn_int (by decide)
      · exact th_int (by decide) fun G => nn_int (by decide)
      · exact th_bl fun G => nn_bl
      · exact th_bl fun G => nn_bl
      · exact th_str (by decide +kernel) (by decide +kernel) fun G => nn_str
      · exact th_tup (ds := [.int 2]) L3.pot (s3 _ _ (s2 _ _ e1)) ((FineAll.of fun d hd => by rw [List.mem_singleton.mp hd]; exact Fine.int (by decide)).tup.e.mono (by decide) (by decide)) (fun G _ => .cons (.int 2) .nil) fun G e => nn_tup e
      · exact th_lst (ds := [.int 1]) nl1p (s3 _ _ e2) ((FineAll.of fun d hd => by rw [List.mem_singleton.mp hd]; exact Fine.int (by decide)).list.e.mono (by decide) (by decide)) (fun G _ => .cons (.int 1) .nil) fun G e => nn_lst e
      · exact th_int (by decide) fun G => nn_int (by decide)
      · exact th_dict L3.pot e3 fun G e => nn_dict e
    obtain ⟨D1, b1⟩ := b1
    have b1 := b1.at ((KeepP.ofSame (same_new na1)).trans (KeepP.ofL Lv))
    have LG := L4.lad Lv
    clear mem L4 Lv L3 s1 s2 s3 e1 e2 e3 nt1 nl1 nd1 na1 nl1p
    have k1 := LG.keep
    -- an odd one
    refine ⟨_, rfl, _, rfl, by show 1 ≤ sizeLine; decide, fun t2 nt2 => ⟨_, _, rfl, rfl, ⟨by decide, by decide, by decide⟩, _, rfl, ?_⟩⟩
    have s1 : Same G1 (upd G1 t2 (.tup [.int 0])) := same_new nt2
    have e1 : upd G1 t2 (.tup [.int 0]) t2 = some (.tup [.int 0]) := upd_same
    generalize upd G1 t2 (.tup [.int 0]) = H1 at s1 e1
    have L3 := LG.same s1
    refine ⟨by show 7 ≤ sizeLine; decide, fun a2 na2 => ?_⟩
    have L4 := L3.same (same_new na2 (o := .lst [.non, .int 41, .int (-7), .str "", .ref t2, .bl true, .int (-(10 ^ (19 : Int).toNat))]))
    refine ⟨p, L4.pot, .inl ⟨a2, _, rfl, .inl (.inl upd_same), L3.pot.ne na2, by show 0 < 7; decide, by show 7 < 1000; decide, fun v2 G2 mem Lv => ?_⟩⟩
    have b2 : ∃ d, Thing K p H1 v2 d (fun G v => NoNum K G 40 v) := by
      simp only [List.mem_cons, List.not_mem_nil, or_false] at mem
      rcases mem with rfl | rfl | rfl | rfl | rfl | rfl | rfl
      · exact th_non fun G => nn_non
      · exact th_int (by decide) fun G => nn_int (by decide)
      · exact th_int (by decide) fun G => nn_int (by decide)
      · exact th_str (by decide +kernel) (by decide +kernel) fun G => nn_str
      · exact th_tup (ds := [.int 0]) L3.pot e1 ((FineAll.of fun d hd => by rw [List.mem_singleton.mp hd]; exact Fine.int (by decide)).tup.e.mono (by decide) (by decide)) (fun G _ => .cons (.int 0) .nil) fun G e => nn_tup e
      · exact th_bl fun G => nn_bl
      · exact th_int (by decide) fun G => nn_int (by decide)
    obtain ⟨D2, b2⟩ := b2
    have kv := (KeepP.ofSame (same_new na2)).trans (KeepP.ofL Lv)
    have b2 := b2.at kv
    have b1 := b1.at ((KeepP.ofSame s1).trans kv)
    have LG := L4.lad Lv
    clear mem L4 Lv L3 s1 e1 nt2 na2 kv k1
    -- a low one
    refine ⟨_, rfl, by show 1 ≤ sizeLine; decide, fun t3 nt3 => ⟨by show 0 ≤ sizeLine; decide, fun l3 nl3 => ?_⟩⟩
    have s1 : Same G2 (upd G2 t3 (.tup [.str "."])) := same_new nt3
    have e1 : upd G2 t3 (.tup [.str "."]) t3 = some (.tup [.str "."]) := upd_same
    generalize upd G2 t3 (.tup [.str "."]) = H1 at s1 e1 nl3
    have s2 : Same H1 (upd H1 l3 (.lst [])) := same_new nl3
    have e2 : upd H1 l3 (.lst []) l3 = some (.lst []) := upd_same
    have nl3p : l3 ≠ p := (LG.pot.same s1).ne nl3
    generalize upd H1 l3 (.lst []) = H2 at s2 e2
    have L3 := LG.same (s1.trans s2)
    refine ⟨by show 11 ≤ sizeLine; decide, fun a3 na3 => ?_⟩
    have L4 := L3.same (same_new na3 (o := .lst [.non, .str "....", .str "A", .str " ", .str "..\n", .int 5, .ref t3, .ref l3, .str "-", .bl true, .str "a_"]))
    refine ⟨p, L4.pot, .inl ⟨a3, _, rfl, .inl (.inl upd_same), L3.pot.ne na3, by show 0 < 11; decide, by show 11 < 1000; decide, fun v3 G3 mem Lv => ?_⟩⟩
    have b3 : ∃ d, Thing K p H2 v3 d (fun G v => NoTxt K G 3 v) := by
      simp only [List.mem_cons, List.not_mem_nil, or_false] at mem
      rcases mem with rfl | rfl | rfl | rfl | rfl | rfl | rfl | rfl | rfl | rfl | rfl
      · exact th_non fun G => nt_non
      · exact th_str (by decide +kernel) (by decide +kernel) fun G => nt_str (by decide +kernel) (by decide +kernel)
      · exact th_str (by decide +kernel) (by decide +kernel) fun G => nt_str (by decide +kernel) (by decide +kernel)
      · exact th_str (by decide +kernel) (by decide +kernel) fun G => nt_str (by decide +kernel) (by decide +kernel)
      · exact th_str (by decide +kernel) (by decide +kernel) fun G => nt_str (by decide +kernel) (by decide +kernel)
      · exact th_int (by decide) fun G => nt_int
      · exact th_tup (ds := [.str "."]) L3.pot (s2 _ _ e1) ((FineAll.of fun d hd => by rw [List.mem_singleton.mp hd]; exact Fine.str (W := 1) (by decide +kernel) (by decide +kernel)).tup.e.mono (by decide) (by decide)) (fun G _ => .cons (.str _) .nil) fun G e => nt_tup e
      · exact th_lst (ds := []) nl3p e2 ((FineAll.of (n := 0) (W := 0) (ds := []) fun d hd => by cases hd).list.e.mono (by decide) (by decide)) (fun G _ => .nil) fun G e => nt_lst e
      · exact th_str (by decide +kernel) (by decide +kernel) fun G => nt_str (by decide +kernel) (by decide +kernel)
      · exact th_bl fun G => nt_bl
      · exact th_str (by decide +kernel) (by decide +kernel) fun G => nt_str (by decide +kernel) (by decide +kernel)
    obtain ⟨D3, b3⟩ := b3
    have kv := (KeepP.ofSame (same_new na3)).trans (KeepP.ofL Lv)
    have b3 := b3.at kv
    have b1 := b1.at ((KeepP.ofSame (s1.trans s2)).trans kv)
    have b2 := b2.at ((KeepP.ofSame (s1.trans s2)).trans kv)
    have LG := L4.lad Lv
    clear mem L4 Lv L3 s1 s2 e1 e2 nt3 nl3 nl3p na3 kv
    -- refused, four times
    have mN : (("InvalidNumber" : Str), ("value" : Str), C1) ∈ [(("InvalidMark" : Str), ("value" : Str), C0), (("InvalidNumber" : Str), ("value" : Str), C1)] := List.mem_cons_of_mem _ (List.mem_cons_self ..)
    have mM : (("InvalidMark" : Str), ("value" : Str), C0) ∈ [(("InvalidMark" : Str), ("value" : Str), C0), (("InvalidNumber" : Str), ("value" : Str), C1)] := List.mem_cons_self ..
    refine lam_init (v := v1) (N := "InvalidNumber") mN mM (.refl LG.pot LG.tabs LG.sys) (fun G R r => ⟨_, rfl, _, rfl, _, rfl, _, rfl, r⟩) (fun G kp => .inl ⟨rfl, .inl ⟨(b1.2 G kp).2, rfl⟩⟩) fun q1 J1 M1 f1 => ?_
    refine ⟨by show 1 ≤ sizeLine; decide, fun S nS => ?_⟩
    have fS := M1.free nS
    have fH := (LG.trans M1).free nS
    have Z1 := SeenAt.first M1.pot nS f1
    have M1 := M1.same (same_new nS (o := .lst [.ref q1]))
    generalize upd J1 S (.lst [.ref q1]) = J1 at Z1 M1
    clear f1 nS
    -- the second
    refine ⟨_, rfl, .inl ⟨rfl, _, .inl (.inl Z1.ls)⟩, ?_⟩
    refine lam_init (v := v2) (N := "InvalidNumber") mN mM M1.here (fun G R r => ⟨_, rfl, _, rfl, _, rfl, r⟩) (fun G kp => .inl ⟨rfl, .inr (.inl ⟨⟨3, rfl, by decide, by decide⟩, (b2.2 G (M1.kp.trans kp)).2, rfl⟩)⟩) fun q2 J2 M2 f2 => ?_
    have Z2 := Z1.keep M1.pot M2.kp
    refine ⟨S, [.ref q1], _, rfl, rfl, Z2.ls, by show 1 < sizeLine; decide, ?_⟩
    have M2 := (M1.trans M2).mut (ys := [.ref q1] ++ [.ref q2]) fS Z2.ls
    have Z3 : SeenAt p (upd J2 S (.lst ([.ref q1] ++ [.ref q2]))) S _ := Z2.more (q := q2) f2 (fun z => by rw [z, Z2.ls] at f2; cases f2)
    generalize upd J2 S (.lst ([.ref q1] ++ [.ref q2])) = J2 at Z3 M2
    clear f2 Z2 Z1 M1
    -- the third
    refine ⟨_, rfl, .inl ⟨rfl, _, .inl (.inl Z3.ls)⟩, ?_⟩
    refine lam_init (v := v1) (N := "InvalidNumber") mN mM M2.here (fun G R r => ⟨_, rfl, _, rfl, r⟩) (fun G kp => .inl ⟨rfl, .inr (.inr ⟨⟨3, rfl, by decide, by decide⟩, ⟨0, rfl, by decide, by decide⟩, (b1.2 G (M2.kp.trans kp)).2, rfl⟩)⟩) fun q3 J3 M3 f3 => ?_
    have Z4 := Z3.keep M2.pot M3.kp
    refine ⟨S, [.ref q1, .ref q2], _, rfl, rfl, Z4.ls, by show 2 < sizeLine; decide, ?_⟩
    have M3 := (M2.trans M3).mut (ys := [.ref q1, .ref q2] ++ [.ref q3]) fS Z4.ls
    have Z5 : SeenAt p (upd J3 S (.lst ([.ref q1, .ref q2] ++ [.ref q3]))) S _ := Z4.more (q := q3) f3 (fun z => by rw [z, Z4.ls] at f3; cases f3)
    generalize upd J3 S (.lst ([.ref q1, .ref q2] ++ [.ref q3])) = J3 at Z5 M3
    clear f3 Z4 Z3 M2
    -- the fourth, by name
    refine ⟨_, rfl, .inl ⟨rfl, _, .inl (.inl Z5.ls)⟩, ?_⟩
    refine lam_initK (v := v3) (N := "InvalidMark") mN mM M3.here (fun G R r => ⟨_, rfl, r⟩) (fun G kp => .inr ⟨rfl, ⟨40, rfl, by decide, by decide⟩, ⟨0, rfl, by decide, by decide⟩, ⟨40, rfl, by decide, by decide⟩, (b3.2 G (M3.kp.trans kp)).2, rfl⟩) fun q4 J4 M4 f4 => ?_
    have Z6 := Z5.keep M3.pot M4.kp
    refine ⟨S, [.ref q1, .ref q2, .ref q3], _, rfl, rfl, Z6.ls, by show 3 < sizeLine; decide, ?_⟩
    have M4 := (M3.trans M4).mut (ys := [.ref q1, .ref q2, .ref q3] ++ [.ref q4]) fS Z6.ls
    have Z7 : SeenAt p (upd J4 S (.lst ([.ref q1, .ref q2, .ref q3] ++ [.ref q4]))) S _ := Z6.more (q := q4) f4 (fun z => by rw [z, Z6.ls] at f4; cases f4)
    generalize upd J4 S (.lst ([.ref q1, .ref q2, .ref q3] ++ [.ref q4])) = J4 at Z7 M4
    clear f4 Z6 Z5 M3
    -- what is due
    refine ⟨_, rfl, by show 3 ≤ sizeLine; decide, fun w1 n1 => ⟨_, rfl, by show 3 ≤ sizeLine; decide, fun w2 n2 => ⟨_, rfl, by show 3 ≤ sizeLine; decide, fun w3 n3 => ⟨by show 3 ≤ sizeLine; decide, fun W nW => ?_⟩⟩⟩⟩
    have s1 : Same J4 (upd J4 w1 (.lst [.str "InvalidNumber", v1, .bl true])) := same_new n1
    have e1 : upd J4 w1 (.lst [.str "InvalidNumber", v1, .bl true]) w1 = some (.lst [.str "InvalidNumber", v1, .bl true]) := upd_same
    generalize upd J4 w1 (.lst [.str "InvalidNumber", v1, .bl true]) = I1 at s1 e1 n2 n3 nW
    have s2 : Same I1 (upd I1 w2 (.lst [.str "InvalidNumber", v2, .bl true])) := same_new n2
    have e2 : upd I1 w2 (.lst [.str "InvalidNumber", v2, .bl true]) w2 = some (.lst [.str "InvalidNumber", v2, .bl true]) := upd_same
    generalize upd I1 w2 (.lst [.str "InvalidNumber", v2, .bl true]) = I2 at s2 e2 n3 nW
    have s3 : Same I2 (upd I2 w3 (.lst [.str "InvalidNumber", v1, .bl true])) := same_new n3
    have e3 : upd I2 w3 (.lst [.str "InvalidNumber", v1, .bl true]) w3 = some (.lst [.str "InvalidNumber", v1, .bl true]) := upd_same
    generalize upd I2 w3 (.lst [.str "InvalidNumber", v1, .bl true]) = I3 at s3 e3 nW
    have s4 : Same I3 (upd I3 W (.lst [.ref w1, .ref w2, .ref w3])) := same_new nW
    have e4 : upd I3 W (.lst [.ref w1, .ref w2, .ref w3]) W = some (.lst [.ref w1, .ref w2, .ref w3]) := upd_same
    generalize upd I3 W (.lst [.ref w1, .ref w2, .ref w3]) = I4 at s4 e4
    have s14 := s1.trans (s2.trans (s3.trans s4))
    have M5 := M4.same s14
    have Z8 := Z7.keep M4.pot (KeepP.ofSame s14)
    have e1 := s4 _ _ (s3 _ _ (s2 _ _ e1))
    have e2 := s4 _ _ (s3 _ _ e2)
    have e3 := s4 _ _ e3
    clear s1 s2 s3 s4 n1 n2 n3 nW Z7
    have c1 := b1.2 I4 M5.kp
    have c2 := b2.2 I4 M5.kp
    have c3 := b3.2 I4 M5.kp
    have dS : DpE K I4 (.ref S) (.list [said "InvalidNumber" D1, said "InvalidNumber" D2, said "InvalidNumber" D1, said "InvalidMark" D3]) := seen_data Z8 (ds := [D1, D2, D1, D3]) (.cons c1.1 (.cons c2.1 (.cons c1.1 (.cons c3.1 .nil))))
    have fine : FineE 60 100000 (.list [said "InvalidNumber" D1, said "InvalidNumber" D2, said "InvalidNumber" D1, said "InvalidMark" D3]) := all_said (fun d hd => by
      simp only [List.mem_cons, List.not_mem_nil, or_false] at hd
      rcases hd with rfl | rfl | rfl | rfl
      · exact said_fine b1.1 (by decide +kernel)
      · exact said_fine b2.1 (by decide +kernel)
      · exact said_fine b1.1 (by decide +kernel)
      · exact said_fine b3.1 (by decide +kernel)) (by show 4 ≤ 60; decide)
    refine ⟨_, rfl, S, _, rfl, M5.sys, dS, fine, ?_⟩
    refine ⟨_, rfl, _, rfl, by show 3 ≤ sizeLine; decide, fun w4 n4 => ⟨by show 1 ≤ sizeLine; decide, fun W2 nW2 => ?_⟩⟩
    have s5 : Same I4 (upd I4 w4 (.lst [.str "InvalidMark", v3, .bl true])) := same_new n4
    have e5 : upd I4 w4 (.lst [.str "InvalidMark", v3, .bl true]) w4 = some (.lst [.str "InvalidMark", v3, .bl true]) := upd_same
    generalize upd I4 w4 (.lst [.str "InvalidMark", v3, .bl true]) = I5 at s5 e5 nW2
    have s6 : Same I5 (upd I5 W2 (.lst [.ref w4])) := same_new nW2
    have e6 : upd I5 W2 (.lst [.ref w4]) W2 = some (.lst [.ref w4]) := upd_same
    generalize upd I5 W2 (.lst [.ref w4]) = I6 at s6 e6
    refine ⟨W, W2, _, _, rfl, rfl, s6 _ _ (s5 _ _ e4), e6, by show 3 + 1 ≤ sizeLine; decide, fun W3 nW3 => ?_⟩
    have s7 : Same I6 (upd I6 W3 (.lst [.ref w1, .ref w2, .ref w3, .ref w4])) := same_new nW3
    have e7 : upd I6 W3 (.lst ([.ref w1, .ref w2, .ref w3] ++ [.ref w4])) W3 = some (.lst [.ref w1, .ref w2, .ref w3, .ref w4]) := upd_same
    have s7 : Same I6 (upd I6 W3 (.lst ([.ref w1, .ref w2, .ref w3] ++ [.ref w4]))) := s7
    generalize upd I6 W3 (.lst ([.ref w1, .ref w2, .ref w3] ++ [.ref w4])) = I7 at s7 e7
    have s57 := s5.trans (s6.trans s7)
    have M6 := M5.same s57
    have dW : DpE K I7 (.ref W3) (.list [said "InvalidNumber" D1, said "InvalidNumber" D2, said "InvalidNumber" D1, said "InvalidMark" D3]) :=
      .lst e7 (.cons (.lst (s57 _ _ e1) (.cons (.str _) (.cons (c1.1.same s57) (.cons (.bl true) .nil)))) (.cons (.lst (s57 _ _ e2) (.cons (.str _) (.cons (c2.1.same s57) (.cons (.bl true) .nil)))) (.cons (.lst (s57 _ _ e3) (.cons (.str _) (.cons (c1.1.same s57) (.cons (.bl true) .nil)))) (.cons (.lst (s7 _ _ (s6 _ _ e5)) (.cons (.str _) (.cons (c3.1.same s57) (.cons (.bl true) .nil)))) .nil))))
    refine ⟨W3, _, rfl, M6.sys, dW, fine, ?_⟩
    generalize PyData.shown (.list [said "InvalidNumber" D1, said "InvalidNumber" D2, said "InvalidNumber" D1, said "InvalidMark" D3]) = zz
    refine ⟨rfl, _, rfl, iteNS rfl ?_⟩
    have LL := LG.trans M6
    clear dW dS fine c1 c2 c3 b1 b2 b3 e1 e2 e3 e4 e5 e6 e7 s5 s6 s7 s57 n4 nW2 nW3 Z8 M5 M4 s14 M6
    -- the least and the greatest are let
    have fitA : (⟨0, 0, 0, ("" : String)⟩ : Rec).fit := ⟨⟨by decide, by decide⟩, ⟨by decide, by decide⟩, ⟨by decide, by decide⟩, by decide +kernel⟩
    have fitB : (⟨40, 40, 40, ("9z~" : String)⟩ : Rec).fit := ⟨⟨by decide, by decide⟩, ⟨by decide, by decide⟩, ⟨by decide, by decide⟩, by decide +kernel⟩
    refine fun x1 dx1 nx1 nd1 ne1 => ?_
    have s1 : Same I7 (upd (upd I7 dx1 (.own x1)) x1 (.ins C dx1 [])) := (same_new nd1).trans (same_new (by rw [upd_ne (Ne.symm ne1)]; exact nx1))
    have e1 : upd (upd I7 dx1 (.own x1)) x1 (.ins C dx1 []) x1 = some (.ins C dx1 []) := upd_same
    have i1 : I7 x1 = none := nx1
    generalize upd (upd I7 dx1 (.own x1)) x1 (.ins C dx1 []) = I8 at s1 e1
    refine ⟨x1, dx1, ⟨0, 0, 0, ("" : String)⟩, rfl, e1, fitA, fun t1 I9 nt1 g1 g2 g3 => ⟨rfl, x1, C, dx1, _, _, rfl, g1, SC.cl, SC.nD, flds_told _ _, ?_⟩⟩
    have s2 : Same I7 I9 := fun b o e => g3 b o (s1 _ _ e) (ne_of_none e i1)
    refine fun x2 dx2 nx2 nd2 ne2 => ?_
    have s3 : Same I9 (upd (upd I9 dx2 (.own x2)) x2 (.ins C dx2 [])) := (same_new nd2).trans (same_new (by rw [upd_ne (Ne.symm ne2)]; exact nx2))
    have e3 : upd (upd I9 dx2 (.own x2)) x2 (.ins C dx2 []) x2 = some (.ins C dx2 []) := upd_same
    have i2 : I9 x2 = none := nx2
    generalize upd (upd I9 dx2 (.own x2)) x2 (.ins C dx2 []) = I10 at s3 e3
    refine ⟨x2, dx2, ⟨40, 40, 40, ("9z~" : String)⟩, rfl, e3, fitB, fun t2 I11 nt2 h1 h2 h3 => ⟨rfl, x2, C, dx2, _, _, rfl, h1, SC.cl, SC.nD, flds_told _ _, ?_⟩⟩
    have s4 : Same I9 I11 := fun b o e => h3 b o (s3 _ _ e) (ne_of_none e i2)
    refine ⟨by show 2 ≤ sizeLine; decide, fun V1 nV1 => ⟨by show 4 ≤ sizeLine; decide, fun u1 nu1 => ⟨by show 4 ≤ sizeLine; decide, fun u2 nu2 => ⟨by show 2 ≤ sizeLine; decide, fun V2 nV2 => ?_⟩⟩⟩⟩
    have r1 : Same I11 (upd I11 V1 (.lst [.ref t1, .ref t2])) := same_new nV1
    have f1 : upd I11 V1 (.lst [.ref t1, .ref t2]) V1 = some (.lst [.ref t1, .ref t2]) := upd_same
    generalize upd I11 V1 (.lst [.ref t1, .ref t2]) = I12 at r1 f1 nu1 nu2 nV2
    have r2 : Same I12 (upd I12 u1 (.tup [.int 0, .int 0, .int 0, .str ""])) := same_new nu1
    have f2 : upd I12 u1 (.tup [.int 0, .int 0, .int 0, .str ""]) u1 = some (.tup [.int 0, .int 0, .int 0, .str ""]) := upd_same
    generalize upd I12 u1 (.tup [.int 0, .int 0, .int 0, .str ""]) = I13 at r2 f2 nu2 nV2
    have r3 : Same I13 (upd I13 u2 (.tup [.int 40, .int 40, .int 40, .str "9z~"])) := same_new nu2
    have f3 : upd I13 u2 (.tup [.int 40, .int 40, .int 40, .str "9z~"]) u2 = some (.tup [.int 40, .int 40, .int 40, .str "9z~"]) := upd_same
    generalize upd I13 u2 (.tup [.int 40, .int 40, .int 40, .str "9z~"]) = I14 at r3 f3 nV2
    have r4 : Same I14 (upd I14 V2 (.lst [.ref u1, .ref u2])) := same_new nV2
    have f4 : upd I14 V2 (.lst [.ref u1, .ref u2]) V2 = some (.lst [.ref u1, .ref u2]) := upd_same
    generalize upd I14 V2 (.lst [.ref u1, .ref u2]) = I15 at r4 f4
    have r14 := r2.trans (r3.trans r4)
    have d1 : Dp K I15 (.ref V1) (.list [.tuple [.int 0, .int 0, .int 0, .str ""], .tuple [.int 40, .int 40, .int 40, .str "9z~"]]) := .lst (.inl (.inl (r14 _ _ f1))) (.cons (.tup (.inl (.inl (r14 _ _ (r1 _ _ (s4 _ _ g2))))) (.cons (.int _) (.cons (.int _) (.cons (.int _) (.cons (.str _) .nil))))) (.cons (.tup (.inl (.inl (r14 _ _ (r1 _ _ h2)))) (.cons (.int _) (.cons (.int _) (.cons (.int _) (.cons (.str _) .nil))))) .nil))
    have d2 : Dp K I15 (.ref V2) (.list [.tuple [.int 0, .int 0, .int 0, .str ""], .tuple [.int 40, .int 40, .int 40, .str "9z~"]]) := .lst (.inl (.inl f4)) (.cons (.tup (.inl (.inl (r4 _ _ (r3 _ _ f2)))) (.cons (.int _) (.cons (.int _) (.cons (.int _) (.cons (.str _) .nil))))) (.cons (.tup (.inl (.inl (r4 _ _ f3))) (.cons (.int _) (.cons (.int _) (.cons (.int _) (.cons (.str _) .nil))))) .nil))
    have sh : SeqAt.shaped (.list [.tuple [.int 0, .int 0, .int 0, .str ""], .tuple [.int 40, .int 40, .int 40, .str "9z~"]]) = true := by decide +kernel
    have ev : PyData.eqv (.list [.tuple [.int 0, .int 0, .int 0, .str ""], .tuple [.int 40, .int 40, .int 40, .str "9z~"]]) (.list [.tuple [.int 0, .int 0, .int 0, .str ""], .tuple [.int 40, .int 40, .int 40, .str "9z~"]]) = true := eqv_self _ (by decide +kernel)
    refine ⟨_, _, d1, d2, sh, sh, ?_⟩
    rw [ev]
    exact k _ (LL.same (s2.trans (s4.trans (r1.trans r14))))
end
end Gu
namespace Gu
open PySem PySem.Spec PyProof.Rows L2 LamX
section
variable {P : Program} {w : World} {K : PySem.W.Frag} {mg : Str → Option Value} {base : Heap}
def spLawT (T : List (Addr × Str)) (K : PySem.W.Frag) : Sp := fun vs H Q _ => ∃ (a : Addr) (ns : List Int), vs = [.ref a] ∧ SqL K H a (ns.map V.int) ∧ ns.length ≤ 63 ∧ Tabs T H ∧ Sys H ∧ ∀ G, Q (.bl true) G
theorem cal_lawT {n : Nat} {T : List (Addr × Str)} (B : Bi mg) {f : Addr} {fd : FuncData} (F : Fun K "law" "law" s_law f fd) (n1 : 1 ≤ n) (C_law_pot : Cal P w K mg base 1 "_law_pot" ps_law_pot (spPot K)) (C_law_right : CalG P w K mg base n "_law_right" ps_law_right (spRightT T)) : FnG P w K mg base (n + 1) f fd ps_law (spLawT T K) := by
  refine okG F sc_law (fun vs H Q E h => ?_) (fun cdv A outer s H vs Q E hr quiet h => ?_)
  · obtain ⟨a, ns, rfl, _⟩ := h
    rfl
  · obtain ⟨a, ns, rfl, hS, hl, hT, hY, k⟩ := h
    have hk1 := n1
    refine ⟨_, (pss_one (ps_ret (pe_callB (cr_all rfl) (by rfl) B.all (by decide +kernel) (pa_cons (pe_lc (own := [("_law_k", 1)]) (by rfl) sc_law.nd (pi_range1 (by rfl) B.range (pa_cons (pe_callB (call_max2 rfl) (by rfl) B.max (by decide +kernel) (pa_cons pe_int (pa_cons (pe_callB (call_min2 rfl) (by rfl) B.min (by decide +kernel) (pa_cons (pe_callB call_len_seq (by rfl) B.len (by decide +kernel) (pa_cons (pv 0) pa_nil)) (pa_cons pe_int pa_nil))) pa_nil))) pa_nil)) (blkOk_by (own := [("_law_k", 1)]) (N := ["_law_script", "_law_k"]) (sc := defScope s_law) (by decide +kernel)) (fun _ _ _ _ _ => pg_name (i := 1) sc_law.nd rfl (.inl rfl)) (fun _ _ _ _ _ => pts_nil) (fun _ _ _ _ _ => (pe_ownG C_law_right hr (Nat.le_refl _) quiet (by rfl) (pa_cons (pe_own C_law_pot hr hk1 (by rfl) (pa_cons (pv 0) (pa_cons (pv 1) pa_nil))) pa_nil)))) pa_nil)))), ?_⟩
    refine ⟨_, rfl, a, _, rfl, .inl hS, _, _, rfl, _, _, rfl, ?_⟩
    rw [List.length_map]
    generalize hm : (if (5 : Int) < (ns.length : Int) then (5 : Int) else (ns.length : Int)) = m
    have m1 : m ≤ 5 := by rw [← hm]; split <;> omega
    refine ⟨_, rfl, by split <;> omega, by split <;> omega, fun D nD => ?_⟩
    refine lc_range (lo := 0) (n := (if m > (2 : Int) then m else 2).toNat) (fun i J => ∃ bs : List Bool, bs.length = i ∧ bs.all id = true ∧ J D = some (.lst (bs.map V.bl)) ∧ SameN H J ∧ Tabs T J) ⟨[], rfl, rfl, upd_same, Same.n (same_new nD), hT.ext (same_new nD)⟩ ?_ ?_
    · rintro i J hi ⟨bs, rfl, ha, eD, sJ, tJ⟩
      have i5 : bs.length < 7 := by
        revert hi
        split <;> omega
      refine ⟨rfl, yes (iteT ⟨_, rfl, _, rfl, a, bs.length, ns, ?_, sJ.sqL hS, by omega, fun p G np hp sG => ?_⟩)⟩
      · rw [Int.zero_add]
        rfl
      · refine ⟨p, rfl, hp, tJ.ext sG, (sJ.sys hY).same sG, fun G2 L => ?_⟩
        have nDp : D ≠ p := ne_of_none eD np
        have gD : G2 D = some (.lst (bs.map V.bl)) := L.keep _ _ (sG _ _ eD) nDp fun _ z => by cases z
        refine ⟨_, gD, small1000 (by rw [List.length_map]; omega), bs ++ [true], by rw [List.length_append]; rfl, by rw [List.all_append, ha]; rfl, ?_, fun b o e nt => ?_, ?_⟩
        · rw [upd_same, List.map_append]
          rfl
        · rw [upd_ne (ne_of_none e nD)]
          exact L.keep _ _ (sG _ _ (sJ _ _ e nt)) (ne_of_none (sJ _ _ e nt) np) nt
        · exact tabs_upd L.tabs gD
    · rintro J ⟨bs, el, ha, eD, _⟩
      refine ⟨D, bs, rfl, .inl (.inl eD), ?_⟩
      rw [ha]
      exact k J
end
end Gu
namespace Gu
open PySem PySem.Spec PyProof.Rows L2
theorem at_mk {K : PySem.W.Frag} {h : Heap} {mg : Str → Option Value} {x : Str} {st : Stmt} {ps : List Str} {f : Addr} {oc : Value} {od an : Option Addr} {sl : Array (Option Value)} {kV dc pm cd ct : Value} (X : K.In h) (G : h.Ns mainGlobals mg)
    (hb : ∀ (kV doc pm : Value) (an : Option Addr) (cdv ct : Value) (us : List Value), us.length = ps.length → bindArgs (PySem.W.fnOf x x (defArgs st) (defBody st) (defScope st) .none kV doc pm an cdv ct) ⟨us, []⟩ = pure (ps.zip us))
    (a : PySem.W.nsIn K mainGlobals x = some (some (.ref f))) (l : K.lookup f = some ⟨oc, od, .func (PySem.W.fnOf x x (defArgs st) (defBody st) (defScope st) .none kV dc pm an cd ct), sl⟩) (c : PySem.W.codeIn K cd x = true) (k : PySem.W.keepIn K (.ref f) = true) : At K mg x st ps :=
  ⟨f, _, fun_mk l c k, (fun_mk l c k).binds hb, PySem.W.mg_of X G a⟩
theorem cst_mk {K : PySem.W.Frag} {h : Heap} {mg : Str → Option Value} {x : Str} {v : V} {u : Value} (X : K.In h) (G : h.Ns mainGlobals mg) (r : RelV v u) (a : PySem.W.nsIn K mainGlobals x = some (some u)) : ∃ u, mg x = some u ∧ RelV v u := ⟨u, PySem.W.mg_of X G a, r⟩
end Gu
namespace Gu
open PySem PySem.Spec PyProof.Rows L2
theorem fin {P : Program} {w : World} {K : PySem.W.Frag} {mg : Str → Option Value} {base : Heap} {C U_InputError E_InvalidNumber E_InvalidMark cc_law_right PP_law_right f : Addr} {fd : FuncData} (B : Bi mg) (UK_InputError : UpK K mg bVE "InputError" U_InputError) (EK_InvalidNumber : ErrK K mg bVE U_InputError "InvalidNumber" E_InvalidNumber) (EF_InvalidNumber : ErrF K "InvalidNumber" "value" E_InvalidNumber) (EK_InvalidMark : ErrK K mg bVE U_InputError "InvalidMark" E_InvalidMark) (EF_InvalidMark : ErrF K "InvalidMark" "value" E_InvalidMark) (AC_law_right : AtC K mg "_law_right" s_law_right ps_law_right cc_law_right) (TB_law_right : LamX.TabB base mg cc_law_right PP_law_right) (Ss : ShC K mg C) (Is : InitAt K C)
    (A_is_integer : At K mg "is_integer" s_is_integer ps_is_integer) (A_is_text : At K mg "is_text" s_is_text ps_is_text) (A_check_mark : At K mg "check_mark" s_check_mark ps_check_mark) (A_law_pot : At K mg "_law_pot" s_law_pot ps_law_pot) (A_law_ladle : At K mg "_law_ladle" s_law_ladle ps_law_ladle) (A_law_one_of : At K mg "_law_one_of" s_law_one_of ps_law_one_of) (A_law_ended : At K mg "_law_ended" s_law_ended ps_law_ended)
    (F : Fun K "law" "law" s_law f fd) : FnG P w K mg base 9 f fd ps_law (spLawT [(PP_law_right, lamQ_law_right)] K) := by
  have c1 : Cal P w K mg base 1 "_law_ladle" ps_law_ladle spLadle := cal_ladle B A_law_ladle
  have c2 : Cal P w K mg base 2 "_law_one_of" ps_law_one_of (spOneOf K) := cal_oneOf B A_law_one_of c1
  have c5 : Cal P w K mg base 1 "is_integer" ps_is_integer (spIsInteger K) := cal_isInteger B A_is_integer
  have c6 : Cal P w K mg base 1 "is_text" ps_is_text (spIsText K) := cal_isText B A_is_text
  have cmk : Cal P w K mg base 2 "check_mark" ps_check_mark spCheckMark := cal_checkMark B A_check_mark c6
  have m1 : Mak P w K mg base 3 "Shortener" C (spInit C) := mak_sh B Ss Is c5 cmk
  have x1 : CalX P w K mg base 2 "check_mark" ps_check_mark (spMarkX K E_InvalidMark) := cal_markX B A_check_mark EK_InvalidMark EF_InvalidMark (txt_of c6)
  have m2 : MakX P w K mg base 3 "Shortener" C (spInitX K C E_InvalidNumber E_InvalidMark) := mak_shX B Ss Is EK_InvalidNumber EF_InvalidNumber (num_of c5) x1
  have m3 : MakXK P w K mg base 3 "Shortener" C ["mark", "tail", "head", "limit"] revK (spInitX K C E_InvalidNumber E_InvalidMark) := mak_shXK B Ss Is EK_InvalidNumber EF_InvalidNumber (num_of c5) x1
  have e7 : CalG P w K mg base 8 "_law_right" ps_law_right (spRightT [(PP_law_right, lamQ_law_right)]) := cal_right B Ss AC_law_right TB_law_right A_law_ended UK_InputError EK_InvalidMark EF_InvalidMark EK_InvalidNumber EF_InvalidNumber c2 m1 m2 m3
  exact cal_lawT B F (by decide) (cal_pot B A_law_pot) e7
end Gu
namespace Gu
open PySem PySem.Spec PyProof.Rows L2
set_option maxHeartbeats 0 in
theorem all_mk {l : PySem.W.OpenLaw} {q : Program} {w : World} {K : PySem.W.Frag} {h : Heap} {mg : Str → Option Value} {fa : Addr} {f_is_integer : Addr} {oc_is_integer kV_is_integer dc_is_integer pm_is_integer cd_is_integer ct_is_integer : Value} {od_is_integer an_is_integer : Option Addr} {sl_is_integer : Array (Option Value)} {f_is_text : Addr} {oc_is_text kV_is_text dc_is_text pm_is_text cd_is_text ct_is_text : Value} {od_is_text an_is_text : Option Addr} {sl_is_text : Array (Option Value)} {f_check_mark : Addr} {oc_check_mark kV_check_mark dc_check_mark pm_check_mark cd_check_mark ct_check_mark : Value} {od_check_mark an_check_mark : Option Addr} {sl_check_mark : Array (Option Value)} {f_law_pot : Addr} {oc_law_pot kV_law_pot dc_law_pot pm_law_pot cd_law_pot ct_law_pot : Value} {od_law_pot an_law_pot : Option Addr} {sl_law_pot : Array (Option Value)} {f_law_ladle : Addr} {oc_law_ladle kV_law_ladle dc_law_ladle pm_law_ladle cd_law_ladle ct_law_ladle : Value} {od_law_ladle an_law_ladle : Option Addr} {sl_law_ladle : Array (Option Value)} {f_law_one_of : Addr} {oc_law_one_of kV_law_one_of dc_law_one_of pm_law_one_of cd_law_one_of ct_law_one_of : Value} {od_law_one_of an_law_one_of : Option Addr} {sl_law_one_of : Array (Option Value)} {f_law_ended : Addr} {oc_law_ended kV_law_ended dc_law_ended pm_law_ended cd_law_ended ct_law_ended : Value} {od_law_ended an_law_ended : Option Addr} {sl_law_ended : Array (Option Value)} {f_law_right : Addr} {oc_law_right kV_law_right dc_law_right pm_law_right cd_law_right ct_law_right : Value} {od_law_right an_law_right : Option Addr} {sl_law_right : Array (Option Value)} {f_law : Addr} {oc_law kV_law dc_law pm_law cd_law ct_law : Value} {od_law an_law : Option Addr} {sl_law : Array (Option Value)} {C : Addr} {f_is : Addr} {oc_is kV_is dc_is pm_is cd_is ct_is : Value} {od_is an_is : Option Addr} {sl_is : Array (Option Value)} {U_InputError M_InputError : Addr} {q_InputError : Str} {bs_InputError sub_InputError : List Value} {sn_InputError : List Str} {ab_InputError : Bool} {col_InputError : Option Bool} {dd_InputError : Option Addr} {m0_InputError m1_InputError m2_InputError m3_InputError m5_InputError : Option Value} {E_InvalidNumber M_InvalidNumber : Addr} {q_InvalidNumber : Str} {bs_InvalidNumber sub_InvalidNumber : List Value} {sn_InvalidNumber : List Str} {ab_InvalidNumber : Bool} {col_InvalidNumber : Option Bool} {dd_InvalidNumber : Option Addr} {m0_InvalidNumber m1_InvalidNumber m2_InvalidNumber m3_InvalidNumber m5_InvalidNumber : Option Value} {f_xInvalidNumber : Addr} {oc_xInvalidNumber kV_xInvalidNumber dc_xInvalidNumber pm_xInvalidNumber cd_xInvalidNumber ct_xInvalidNumber : Value} {od_xInvalidNumber an_xInvalidNumber : Option Addr} {sl_xInvalidNumber : Array (Option Value)} {E_InvalidMark M_InvalidMark : Addr} {q_InvalidMark : Str} {bs_InvalidMark sub_InvalidMark : List Value} {sn_InvalidMark : List Str} {ab_InvalidMark : Bool} {col_InvalidMark : Option Bool} {dd_InvalidMark : Option Addr} {m0_InvalidMark m1_InvalidMark m2_InvalidMark m3_InvalidMark m5_InvalidMark : Option Value} {f_xInvalidMark : Addr} {oc_xInvalidMark kV_xInvalidMark dc_xInvalidMark pm_xInvalidMark cd_xInvalidMark ct_xInvalidMark : Value} {od_xInvalidMark an_xInvalidMark : Option Addr} {sl_xInvalidMark : Array (Option Value)} {cc_law_right PP_law_right : Addr} {rd_law_right : DefRec} {u_MOST_SIGNS : Tok} {u_MOST_MARK : Tok} {u_SIGNS : Tok}
    (X : K.In h) (G : h.Ns mainGlobals mg) (TO : TabsOf q K h) (hfa : mg "law" = some (.ref fa))
    (a_is_integer : PySem.W.nsIn K mainGlobals "is_integer" = some (some (.ref f_is_integer)))
    (l_is_integer : K.lookup f_is_integer = some ⟨oc_is_integer, od_is_integer, .func (PySem.W.fnOf "is_integer" "is_integer" (defArgs s_is_integer) (defBody s_is_integer) (defScope s_is_integer) .none kV_is_integer dc_is_integer pm_is_integer an_is_integer cd_is_integer ct_is_integer), sl_is_integer⟩)
    (c_is_integer : PySem.W.codeIn K cd_is_integer "is_integer" = true)
    (k_is_integer : PySem.W.keepIn K (.ref f_is_integer) = true)
    (a_is_text : PySem.W.nsIn K mainGlobals "is_text" = some (some (.ref f_is_text)))
    (l_is_text : K.lookup f_is_text = some ⟨oc_is_text, od_is_text, .func (PySem.W.fnOf "is_text" "is_text" (defArgs s_is_text) (defBody s_is_text) (defScope s_is_text) .none kV_is_text dc_is_text pm_is_text an_is_text cd_is_text ct_is_text), sl_is_text⟩)
    (c_is_text : PySem.W.codeIn K cd_is_text "is_text" = true)
    (k_is_text : PySem.W.keepIn K (.ref f_is_text) = true)
    (a_check_mark : PySem.W.nsIn K mainGlobals "check_mark" = some (some (.ref f_check_mark)))
    (l_check_mark : K.lookup f_check_mark = some ⟨oc_check_mark, od_check_mark, .func (PySem.W.fnOf "check_mark" "check_mark" (defArgs s_check_mark) (defBody s_check_mark) (defScope s_check_mark) .none kV_check_mark dc_check_mark pm_check_mark an_check_mark cd_check_mark ct_check_mark), sl_check_mark⟩)
    (c_check_mark : PySem.W.codeIn K cd_check_mark "check_mark" = true)
    (k_check_mark : PySem.W.keepIn K (.ref f_check_mark) = true)
    (a_law_pot : PySem.W.nsIn K mainGlobals "_law_pot" = some (some (.ref f_law_pot)))
    (l_law_pot : K.lookup f_law_pot = some ⟨oc_law_pot, od_law_pot, .func (PySem.W.fnOf "_law_pot" "_law_pot" (defArgs s_law_pot) (defBody s_law_pot) (defScope s_law_pot) .none kV_law_pot dc_law_pot pm_law_pot an_law_pot cd_law_pot ct_law_pot), sl_law_pot⟩)
    (c_law_pot : PySem.W.codeIn K cd_law_pot "_law_pot" = true)
    (k_law_pot : PySem.W.keepIn K (.ref f_law_pot) = true)
    (a_law_ladle : PySem.W.nsIn K mainGlobals "_law_ladle" = some (some (.ref f_law_ladle)))
    (l_law_ladle : K.lookup f_law_ladle = some ⟨oc_law_ladle, od_law_ladle, .func (PySem.W.fnOf "_law_ladle" "_law_ladle" (defArgs s_law_ladle) (defBody s_law_ladle) (defScope s_law_ladle) .none kV_law_ladle dc_law_ladle pm_law_ladle an_law_ladle cd_law_ladle ct_law_ladle), sl_law_ladle⟩)
    (c_law_ladle : PySem.W.codeIn K cd_law_ladle "_law_ladle" = true)
    (k_law_ladle : PySem.W.keepIn K (.ref f_law_ladle) = true)
    (a_law_one_of : PySem.W.nsIn K mainGlobals "_law_one_of" = some (some (.ref f_law_one_of)))
    (l_law_one_of : K.lookup f_law_one_of = some ⟨oc_law_one_of, od_law_one_of, .func (PySem.W.fnOf "_law_one_of" "_law_one_of" (defArgs s_law_one_of) (defBody s_law_one_of) (defScope s_law_one_of) .none kV_law_one_of dc_law_one_of pm_law_one_of an_law_one_of cd_law_one_of ct_law_one_of), sl_law_one_of⟩)
    (c_law_one_of : PySem.W.codeIn K cd_law_one_of "_law_one_of" = true)
    (k_law_one_of : PySem.W.keepIn K (.ref f_law_one_of) = true)
    (a_law_ended : PySem.W.nsIn K mainGlobals "_law_ended" = some (some (.ref f_law_ended)))
    (l_law_ended : K.lookup f_law_ended = some ⟨oc_law_ended, od_law_ended, .func (PySem.W.fnOf "_law_ended" "_law_ended" (defArgs s_law_ended) (defBody s_law_ended) (defScope s_law_ended) .none kV_law_ended dc_law_ended pm_law_ended an_law_ended cd_law_ended ct_law_ended), sl_law_ended⟩)
    (c_law_ended : PySem.W.codeIn K cd_law_ended "_law_ended" = true)
    (k_law_ended : PySem.W.keepIn K (.ref f_law_ended) = true)
    (a_law_right : PySem.W.nsIn K mainGlobals "_law_right" = some (some (.ref f_law_right)))
    (l_law_right : K.lookup f_law_right = some ⟨oc_law_right, od_law_right, .func (PySem.W.fnOf "_law_right" "_law_right" (defArgs s_law_right) (defBody s_law_right) (defScope s_law_right) .none kV_law_right dc_law_right pm_law_right an_law_right cd_law_right ct_law_right), sl_law_right⟩)
    (c_law_right : PySem.W.codeIn K cd_law_right "_law_right" = true)
    (k_law_right : PySem.W.keepIn K (.ref f_law_right) = true)
    (a_law : PySem.W.nsIn K mainGlobals "law" = some (some (.ref f_law)))
    (l_law : K.lookup f_law = some ⟨oc_law, od_law, .func (PySem.W.fnOf "law" "law" (defArgs s_law) (defBody s_law) (defScope s_law) .none kV_law dc_law pm_law an_law cd_law ct_law), sl_law⟩)
    (c_law : PySem.W.codeIn K cd_law "law" = true)
    (k_law : PySem.W.keepIn K (.ref f_law) = true)
    (qn : PySem.W.specialIn K (.builtin "object.__class__") "__get__" = some (some (.builtin "getset_descriptor.__get__")))
    (qt : PySem.W.takesIn K (.builtin "object.__class__") = some true)
    (asC : PySem.W.nsIn K mainGlobals "Shortener" = some (some (.ref C)))
    (a_is : PySem.W.findIn K (.ref C) "__init__" = some (some (.ref f_is)))
    (l_is : K.lookup f_is = some ⟨oc_is, od_is, .func (PySem.W.fnOf "__init__" "Shortener.__init__" (defArgs s_Shortener_init) (defBody s_Shortener_init) (defScope s_Shortener_init) .none kV_is dc_is pm_is an_is cd_is ct_is), sl_is⟩)
    (c_is : PySem.W.codeIn K cd_is "Shortener.__init__" = true)
    (k_is : PySem.W.keepIn K (.ref f_is) = true)
    (i_is : PySem.W.isFn K (.ref f_is) = true)
    (pgs : PySem.W.plainGet K C Str.empty = true)
    (hds : PySem.W.hasDictIn K C = true)
    (pos : PySem.W.plainOver K C = true)
    (sas : PySem.W.findIn K (.ref C) "__setattr__" = some (some (.builtin "object.__setattr__")))
    (mksC : PySem.W.makesIn K C = true)
    (ksC : PySem.W.keepIn K (.ref C) = true)
    (ns_limit : PySem.W.findIn K (.ref C) "limit" = some none)
    (ns_head : PySem.W.findIn K (.ref C) "head" = some none)
    (ns_tail : PySem.W.findIn K (.ref C) "tail" = some none)
    (ns_mark : PySem.W.findIn K (.ref C) "mark" = some none)
    (ns_told : PySem.W.findIn K (.ref C) "told" = some none)
    (qas : PySem.W.findIn K (.ref C) "__class__" = some (some (.builtin "object.__class__")))
    (qms : PySem.W.mroIn K C (.type "object") = some true)
    (ea_InputError : PySem.W.nsIn K mainGlobals "InputError" = some (some (.ref U_InputError)))
    (ex_InputError : K.lookup U_InputError = some (excClassObj "InputError" q_InputError U_InputError M_InputError bs_InputError [.type "ValueError", .type "Exception", .type "BaseException", .type "object"] true sn_InputError sub_InputError ab_InputError col_InputError dd_InputError m0_InputError m1_InputError m2_InputError m3_InputError m5_InputError "ValueError.__new__"))
    (et_InputError : PySem.W.typeIn K (.ref U_InputError) = some (.type "type"))
    (ea_InvalidNumber : PySem.W.nsIn K mainGlobals "InvalidNumber" = some (some (.ref E_InvalidNumber)))
    (ex_InvalidNumber : K.lookup E_InvalidNumber = some (excClassObj "InvalidNumber" q_InvalidNumber E_InvalidNumber M_InvalidNumber bs_InvalidNumber (.ref U_InputError :: [.type "ValueError", .type "Exception", .type "BaseException", .type "object"]) true sn_InvalidNumber sub_InvalidNumber ab_InvalidNumber col_InvalidNumber dd_InvalidNumber m0_InvalidNumber m1_InvalidNumber m2_InvalidNumber m3_InvalidNumber m5_InvalidNumber "ValueError.__new__"))
    (et_InvalidNumber : PySem.W.typeIn K (.ref E_InvalidNumber) = some (.type "type"))
    (eset_InvalidNumber : PySem.W.findIn K (.ref E_InvalidNumber) "__setattr__" = some (some (.builtin "object.__setattr__")))
    (eget_InvalidNumber : PySem.W.findIn K (.ref E_InvalidNumber) "__getattribute__" = some (some (.builtin "BaseException.__getattribute__")))
    (ecla_InvalidNumber : PySem.W.findIn K (.ref E_InvalidNumber) "__class__" = some (some (.builtin "object.__class__")))
    (egg_InvalidNumber : PySem.W.findIn K (.ref E_InvalidNumber) "__getattr__" = some none)
    (ek_InvalidNumber : PySem.W.keepIn K (.ref E_InvalidNumber) = true)
    (en_InvalidNumber : PySem.W.findIn K (.ref E_InvalidNumber) "value" = some none)
    (a_xInvalidNumber : PySem.W.findIn K (.ref E_InvalidNumber) "__init__" = some (some (.ref f_xInvalidNumber)))
    (l_xInvalidNumber : K.lookup f_xInvalidNumber = some ⟨oc_xInvalidNumber, od_xInvalidNumber, .func (PySem.W.fnOf "__init__" "InvalidNumber.__init__" (defArgs s_InvalidNumber_init) (defBody s_InvalidNumber_init) (defScope s_InvalidNumber_init) .none kV_xInvalidNumber dc_xInvalidNumber pm_xInvalidNumber an_xInvalidNumber cd_xInvalidNumber ct_xInvalidNumber), sl_xInvalidNumber⟩)
    (c_xInvalidNumber : PySem.W.codeIn K cd_xInvalidNumber "InvalidNumber.__init__" = true)
    (k_xInvalidNumber : PySem.W.keepIn K (.ref f_xInvalidNumber) = true)
    (ei_InvalidNumber : PySem.W.typeIn K (.ref f_xInvalidNumber) = some (.type "function"))
    (ea_InvalidMark : PySem.W.nsIn K mainGlobals "InvalidMark" = some (some (.ref E_InvalidMark)))
    (ex_InvalidMark : K.lookup E_InvalidMark = some (excClassObj "InvalidMark" q_InvalidMark E_InvalidMark M_InvalidMark bs_InvalidMark (.ref U_InputError :: [.type "ValueError", .type "Exception", .type "BaseException", .type "object"]) true sn_InvalidMark sub_InvalidMark ab_InvalidMark col_InvalidMark dd_InvalidMark m0_InvalidMark m1_InvalidMark m2_InvalidMark m3_InvalidMark m5_InvalidMark "ValueError.__new__"))
    (et_InvalidMark : PySem.W.typeIn K (.ref E_InvalidMark) = some (.type "type"))
    (eset_InvalidMark : PySem.W.findIn K (.ref E_InvalidMark) "__setattr__" = some (some (.builtin "object.__setattr__")))
    (eget_InvalidMark : PySem.W.findIn K (.ref E_InvalidMark) "__getattribute__" = some (some (.builtin "BaseException.__getattribute__")))
    (ecla_InvalidMark : PySem.W.findIn K (.ref E_InvalidMark) "__class__" = some (some (.builtin "object.__class__")))
    (egg_InvalidMark : PySem.W.findIn K (.ref E_InvalidMark) "__getattr__" = some none)
    (ek_InvalidMark : PySem.W.keepIn K (.ref E_InvalidMark) = true)
    (en_InvalidMark : PySem.W.findIn K (.ref E_InvalidMark) "value" = some none)
    (a_xInvalidMark : PySem.W.findIn K (.ref E_InvalidMark) "__init__" = some (some (.ref f_xInvalidMark)))
    (l_xInvalidMark : K.lookup f_xInvalidMark = some ⟨oc_xInvalidMark, od_xInvalidMark, .func (PySem.W.fnOf "__init__" "InvalidMark.__init__" (defArgs s_InvalidMark_init) (defBody s_InvalidMark_init) (defScope s_InvalidMark_init) .none kV_xInvalidMark dc_xInvalidMark pm_xInvalidMark an_xInvalidMark cd_xInvalidMark ct_xInvalidMark), sl_xInvalidMark⟩)
    (c_xInvalidMark : PySem.W.codeIn K cd_xInvalidMark "InvalidMark.__init__" = true)
    (k_xInvalidMark : PySem.W.keepIn K (.ref f_xInvalidMark) = true)
    (ei_InvalidMark : PySem.W.typeIn K (.ref f_xInvalidMark) = some (.type "function"))
    (tab_law_right : PySem.W.tabIn K "_law_right" = some (cc_law_right, PP_law_right))
    (cde_law_right : cd_law_right = .ref cc_law_right)
    (notab_law_right : K.lookup PP_law_right = none)
    (rec_law_right : (recsOf q).find? (fun e => e.name == ("_law_right" : Str)) = some rd_law_right)
    (z_ValueError : PySem.W.nsIn K mainGlobals "ValueError" = some none)
    (z_abs : PySem.W.nsIn K mainGlobals "abs" = some none)
    (z_all : PySem.W.nsIn K mainGlobals "all" = some none)
    (z_bool : PySem.W.nsIn K mainGlobals "bool" = some none)
    (z_divmod : PySem.W.nsIn K mainGlobals "divmod" = some none)
    (z_int : PySem.W.nsIn K mainGlobals "int" = some none)
    (z_isinstance : PySem.W.nsIn K mainGlobals "isinstance" = some none)
    (z_len : PySem.W.nsIn K mainGlobals "len" = some none)
    (z_max : PySem.W.nsIn K mainGlobals "max" = some none)
    (z_min : PySem.W.nsIn K mainGlobals "min" = some none)
    (z_range : PySem.W.nsIn K mainGlobals "range" = some none)
    (z_repr : PySem.W.nsIn K mainGlobals "repr" = some none)
    (z_str : PySem.W.nsIn K mainGlobals "str" = some none)
    (z_MOST_SIGNS : PySem.W.nsIn K mainGlobals "MOST_SIGNS" = some (some (.int 40 u_MOST_SIGNS)))
    (z_MOST_MARK : PySem.W.nsIn K mainGlobals "MOST_MARK" = some (some (.int 3 u_MOST_MARK)))
    (z_SIGNS : PySem.W.nsIn K mainGlobals "SIGNS" = some (some (.str ".0123456789abcdefghijklmnopqrstuvwxyz~" u_SIGNS))) :
    ∃ (fd : FuncData) (cs : List (Addr × Addr)) (sp : Sp), (∀ p ∈ cs, PySem.W.CodeHd h p.1 p.2 ∧ h.get? p.2 = some tabNil ∧ K.lookup p.2 = none) ∧ (∀ (s : Shared) (u : Value), BindsTo s fd ⟨[u], []⟩ [("_law_script", u)]) ∧ (∀ (H : Hp) (a : Addr) (ns : List Int), ns.length ≤ 63 → (∀ p ∈ cs, H p.2 = some (.tbl #[])) → Sys H → SqL K H a (ns.map V.int) → sp [.ref a] H (fun v _ => v = .bl true) fun _ _ _ => False) ∧ ∀ base : Heap, K.In base → base.Ns mainGlobals mg → (∀ p ∈ cs, LamX.TabB base mg p.1 p.2) → FnG l.prog w K mg base 9 fa fd ["_law_script"] sp := by
  have e := hfa.symm.trans (PySem.W.mg_of X G a_law)
  cases e
  have B : Bi mg := ⟨PySem.W.mg_none_of X G z_ValueError, PySem.W.mg_none_of X G z_abs, PySem.W.mg_none_of X G z_all, PySem.W.mg_none_of X G z_bool, PySem.W.mg_none_of X G z_divmod, PySem.W.mg_none_of X G z_int, PySem.W.mg_none_of X G z_isinstance, PySem.W.mg_none_of X G z_len, PySem.W.mg_none_of X G z_max, PySem.W.mg_none_of X G z_min, PySem.W.mg_none_of X G z_range, PySem.W.mg_none_of X G z_repr, PySem.W.mg_none_of X G z_str, cst_mk X G ⟨_, rfl⟩ z_MOST_SIGNS, cst_mk X G ⟨_, rfl⟩ z_MOST_MARK, cst_mk X G ⟨_, rfl⟩ z_SIGNS⟩
  have Ss : ShC K mg C := ⟨⟨pgs, hds, pos, sas⟩, ns_limit, ns_head, ns_tail, ns_mark, ns_told, PySem.W.mg_of X G asC, qas, qn, qt, qms, if_pos (beq_self_eq_true _)⟩
  have Is : InitAt K C := ⟨f_is, _, ⟨mksC, a_is, i_is, ksC⟩, fun_mk l_is c_is k_is, (fun_mk l_is c_is k_is).binds fun _ _ _ _ _ _ us hl => match us, hl with | [_, _, _, _, _], _ => rfl⟩
  have UK_InputError : UpK K mg bVE "InputError" U_InputError := ⟨PySem.W.mg_of X G ea_InputError, ⟨_, _, _, _, _, _, _, _, _, _, _, _, _, ex_InputError⟩, et_InputError⟩
  have EK_InvalidNumber : ErrK K mg bVE U_InputError "InvalidNumber" E_InvalidNumber := ⟨bVE_ok, PySem.W.mg_of X G ea_InvalidNumber, ⟨_, _, _, _, _, _, _, _, _, _, _, _, _, ex_InvalidNumber⟩, eset_InvalidNumber, eget_InvalidNumber, egg_InvalidNumber, ek_InvalidNumber, et_InvalidNumber, ecla_InvalidNumber, qn, qt⟩
  have EF_InvalidNumber : ErrF K "InvalidNumber" "value" E_InvalidNumber := ⟨.inl rfl, en_InvalidNumber, f_xInvalidNumber, s_InvalidNumber_init, ⟨_, _, _, _, _, _⟩, _, a_xInvalidNumber, ei_InvalidNumber, by rw [show (("InvalidNumber" : Str) ++ ".__init__" : Str) = "InvalidNumber.__init__" by decide +kernel]; exact fun_mk l_xInvalidNumber c_xInvalidNumber k_xInvalidNumber, rfl, rfl, rfl⟩
  have EK_InvalidMark : ErrK K mg bVE U_InputError "InvalidMark" E_InvalidMark := ⟨bVE_ok, PySem.W.mg_of X G ea_InvalidMark, ⟨_, _, _, _, _, _, _, _, _, _, _, _, _, ex_InvalidMark⟩, eset_InvalidMark, eget_InvalidMark, egg_InvalidMark, ek_InvalidMark, et_InvalidMark, ecla_InvalidMark, qn, qt⟩
  have EF_InvalidMark : ErrF K "InvalidMark" "value" E_InvalidMark := ⟨.inl rfl, en_InvalidMark, f_xInvalidMark, s_InvalidMark_init, ⟨_, _, _, _, _, _⟩, _, a_xInvalidMark, ei_InvalidMark, by rw [show (("InvalidMark" : Str) ++ ".__init__" : Str) = "InvalidMark.__init__" by decide +kernel]; exact fun_mk l_xInvalidMark c_xInvalidMark k_xInvalidMark, rfl, rfl, rfl⟩
  have AC_law_right : AtC K mg "_law_right" s_law_right ps_law_right cc_law_right := ⟨f_law_right, _, fun_mk l_law_right c_law_right k_law_right, (fun_mk l_law_right c_law_right k_law_right).binds (fun _ _ _ _ _ _ us hl => match us, hl with | [_], _ => rfl), PySem.W.mg_of X G a_law_right, cde_law_right⟩
  have TO_law_right := TO "_law_right" rd_law_right cc_law_right PP_law_right rec_law_right tab_law_right
  have A_is_integer : At K mg "is_integer" s_is_integer ps_is_integer := at_mk X G (fun _ _ _ _ _ _ us hl => match us, hl with | [_, _, _], _ => rfl) a_is_integer l_is_integer c_is_integer k_is_integer
  have A_is_text : At K mg "is_text" s_is_text ps_is_text := at_mk X G (fun _ _ _ _ _ _ us hl => match us, hl with | [_, _], _ => rfl) a_is_text l_is_text c_is_text k_is_text
  have A_check_mark : At K mg "check_mark" s_check_mark ps_check_mark := at_mk X G (fun _ _ _ _ _ _ us hl => match us, hl with | [_], _ => rfl) a_check_mark l_check_mark c_check_mark k_check_mark
  have A_law_pot : At K mg "_law_pot" s_law_pot ps_law_pot := at_mk X G (fun _ _ _ _ _ _ us hl => match us, hl with | [_, _], _ => rfl) a_law_pot l_law_pot c_law_pot k_law_pot
  have A_law_ladle : At K mg "_law_ladle" s_law_ladle ps_law_ladle := at_mk X G (fun _ _ _ _ _ _ us hl => match us, hl with | [_, _], _ => rfl) a_law_ladle l_law_ladle c_law_ladle k_law_ladle
  have A_law_one_of : At K mg "_law_one_of" s_law_one_of ps_law_one_of := at_mk X G (fun _ _ _ _ _ _ us hl => match us, hl with | [_, _], _ => rfl) a_law_one_of l_law_one_of c_law_one_of k_law_one_of
  have A_law_ended : At K mg "_law_ended" s_law_ended ps_law_ended := at_mk X G (fun _ _ _ _ _ _ us hl => match us, hl with | [_], _ => rfl) a_law_ended l_law_ended c_law_ended k_law_ended
  refine ⟨PySem.W.fnOf "law" "law" (defArgs s_law) (defBody s_law) (defScope s_law) .none kV_law dc_law pm_law an_law cd_law ct_law, [(cc_law_right, PP_law_right)], spLawT [(PP_law_right, lamQ_law_right)] K, fun p hp => by
      simp only [List.mem_cons, List.not_mem_nil, or_false] at hp
      subst hp
      exact ⟨TO_law_right.1, TO_law_right.2, notab_law_right⟩
, fun s v => .of_eq rfl, fun H a ns hl hT hY hS => ⟨a, ns, rfl, hS, hl, fun p hp => ?_, hY, fun _ => rfl⟩, fun base _ _ tb => ?_⟩
  · simp only [List.mem_cons, List.not_mem_nil, or_false] at hp
    subst hp
    exact LamX.TabS.nil (hT (cc_law_right, PP_law_right) (by simp))
  · exact fin B UK_InputError EK_InvalidNumber EF_InvalidNumber EK_InvalidMark EF_InvalidMark AC_law_right (tb (cc_law_right, PP_law_right) (by simp)) Ss Is A_is_integer A_is_text A_check_mark A_law_pot A_law_ladle A_law_one_of A_law_ended (fun_mk l_law c_law k_law)
end Gu
open PySem PySem.W PyProof.Rows
set_option maxHeartbeats 0 in
theorem PySem.Challenge.cw_shownshort_k02_shorteners_refused_holds : PySem.Challenge.rw_shownshort_k02_shorteners_refused.Holds := by
  w_on; o_law; k_head; (case hw => w_witness2)
  k_fill
  refine Gu.walkGT (l := PySem.Challenge.rw_shownshort_k02_shorteners_refused) (n := 63) (k := 9) (x := "_law_script") rfl (by decide) rfl ⟨rfl, by decide, by decide⟩ ?alone ?noSys (fun w h Y => PySem.W.km_in_of Y) ?F
  case alone => first | rfl | decide +kernel
  case noSys => first | (intro w; rfl) | (intro w; k_is)
  case F =>
    intro w mg fa h KX G TO hmg
    refine' Gu.all_mk KX G TO hmg ?a_is_integer ?l_is_integer ?c_is_integer ?k_is_integer ?a_is_text ?l_is_text ?c_is_text ?k_is_text ?a_check_mark ?l_check_mark ?c_check_mark ?k_check_mark ?a_law_pot ?l_law_pot ?c_law_pot ?k_law_pot ?a_law_ladle ?l_law_ladle ?c_law_ladle ?k_law_ladle ?a_law_one_of ?l_law_one_of ?c_law_one_of ?k_law_one_of ?a_law_ended ?l_law_ended ?c_law_ended ?k_law_ended ?a_law_right ?l_law_right ?c_law_right ?k_law_right ?a_law ?l_law ?c_law ?k_law ?qn ?qt ?asC ?a_is ?l_is ?c_is ?k_is ?i_is ?pgs ?hds ?pos ?sas ?mksC ?ksC ?ns_limit ?ns_head ?ns_tail ?ns_mark ?ns_told ?qas ?qms ?ea_InputError ?ex_InputError ?et_InputError ?ea_InvalidNumber ?ex_InvalidNumber ?et_InvalidNumber ?eset_InvalidNumber ?eget_InvalidNumber ?ecla_InvalidNumber ?egg_InvalidNumber ?ek_InvalidNumber ?en_InvalidNumber ?a_xInvalidNumber ?l_xInvalidNumber ?c_xInvalidNumber ?k_xInvalidNumber ?ei_InvalidNumber ?ea_InvalidMark ?ex_InvalidMark ?et_InvalidMark ?eset_InvalidMark ?eget_InvalidMark ?ecla_InvalidMark ?egg_InvalidMark ?ek_InvalidMark ?en_InvalidMark ?a_xInvalidMark ?l_xInvalidMark ?c_xInvalidMark ?k_xInvalidMark ?ei_InvalidMark ?tab_law_right ?cde_law_right ?notab_law_right ?rec_law_right ?z_ValueError ?z_abs ?z_all ?z_bool ?z_divmod ?z_int ?z_isinstance ?z_len ?z_max ?z_min ?z_range ?z_repr ?z_str ?z_MOST_SIGNS ?z_MOST_MARK ?z_SIGNS
    (case a_is_integer => k_is)
    (case l_is_integer => k_is)
    (case c_is_integer => k_is)
    (case k_is_integer => k_is)
    (case a_is_text => k_is)
    (case l_is_text => k_is)
    (case c_is_text => k_is)
    (case k_is_text => k_is)
    (case a_check_mark => k_is)
    (case l_check_mark => k_is)
    (case c_check_mark => k_is)
    (case k_check_mark => k_is)
    (case a_law_pot => k_is)
    (case l_law_pot => k_is)
    (case c_law_pot => k_is)
    (case k_law_pot => k_is)
    (case a_law_ladle => k_is)
    (case l_law_ladle => k_is)
    (case c_law_ladle => k_is)
    (case k_law_ladle => k_is)
    (case a_law_one_of => k_is)
    (case l_law_one_of => k_is)
    (case c_law_one_of => k_is)
    (case k_law_one_of => k_is)
    (case a_law_ended => k_is)
    (case l_law_ended => k_is)
    (case c_law_ended => k_is)
    (case k_law_ended => k_is)
    (case a_law_right => k_is)
    (case l_law_right => k_is)
    (case c_law_right => k_is)
    (case k_law_right => k_is)
    (case a_law => k_is)
    (case l_law => k_is)
    (case c_law => k_is)
    (case k_law => k_is)
    (case qn => k_is)
    (case qt => k_is)
    (case asC => k_is)
    (case a_is => k_is)
    (case l_is => k_is)
    (case c_is => k_is)
    (case k_is => k_is)
    (case i_is => k_is)
    (case pgs => k_is)
    (case hds => k_is)
    (case pos => k_is)
    (case sas => k_is)
    (case mksC => k_is)
    (case ksC => k_is)
    (case ns_limit => k_is)
    (case ns_head => k_is)
    (case ns_tail => k_is)
    (case ns_mark => k_is)
    (case ns_told => k_is)
    (case qas => k_is)
    (case qms => k_is)
    (case ea_InputError => k_is)
    (case ex_InputError => k_is)
    (case et_InputError => k_is)
    (case ea_InvalidNumber => k_is)
    (case ex_InvalidNumber => k_is)
    (case et_InvalidNumber => k_is)
    (case eset_InvalidNumber => k_is)
    (case eget_InvalidNumber => k_is)
    (case ecla_InvalidNumber => k_is)
    (case egg_InvalidNumber => k_is)
    (case ek_InvalidNumber => k_is)
    (case en_InvalidNumber => k_is)
    (case a_xInvalidNumber => k_is)
    (case l_xInvalidNumber => k_is)
    (case c_xInvalidNumber => k_is)
    (case k_xInvalidNumber => k_is)
    (case ei_InvalidNumber => k_is)
    (case ea_InvalidMark => k_is)
    (case ex_InvalidMark => k_is)
    (case et_InvalidMark => k_is)
    (case eset_InvalidMark => k_is)
    (case eget_InvalidMark => k_is)
    (case ecla_InvalidMark => k_is)
    (case egg_InvalidMark => k_is)
    (case ek_InvalidMark => k_is)
    (case en_InvalidMark => k_is)
    (case a_xInvalidMark => k_is)
    (case l_xInvalidMark => k_is)
    (case c_xInvalidMark => k_is)
    (case k_xInvalidMark => k_is)
    (case ei_InvalidMark => k_is)
    (case tab_law_right => first | rfl | decide +kernel | k_is)
    (case cde_law_right => rfl)
    (case notab_law_right => first | rfl | decide +kernel | k_is)
    (case rec_law_right => first | rfl | decide +kernel | k_is)
    (case z_ValueError => k_is)
    (case z_abs => k_is)
    (case z_all => k_is)
    (case z_bool => k_is)
    (case z_divmod => k_is)
    (case z_int => k_is)
    (case z_isinstance => k_is)
    (case z_len => k_is)
    (case z_max => k_is)
    (case z_min => k_is)
    (case z_range => k_is)
    (case z_repr => k_is)
    (case z_str => k_is)
    (case z_MOST_SIGNS => k_is)
    (case z_MOST_MARK => k_is)
    (case z_SIGNS => k_is)
