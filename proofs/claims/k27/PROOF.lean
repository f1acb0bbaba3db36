import PyProof.Rows.All
import Wide.All
import OpenK.AllK
import Wide.FinOn
import HandS.Base
import HandS.Call
import HandS.List
import HandS.Comp
import HandS.Ends
import HandS.Dict
import HandS.Iter
import HandS.Text
import HandS.Words
import HandS.WordsList
import HandS.WordsDict
import HandS.Conv
import HandS.Walk
import HandS.IsInst
import HandS.MakeKw
import HandS.MakeKwOnly
import HandS.Flow
import HandS.TupAny
import HandS.TupMul
import HandS.FStr
import HandS.Zip
import HandS.Style
import HandS.Codes
import HandS.TupLe
import HandS.SetKeys
import HandS.Strs
import HandS.SetFor
import HandS.Deep
import KE.GoesMore
import KE.GoesZip
import PyProof.TupleOfStr
import PySem.Challenge.RW_shownshort_k27_whole_groups_shown_alike
set_option Elab.async false
set_option linter.all false
set_option maxRecDepth 100000
namespace Gu
open PySem PySem.Spec PyProof.Rows L2
/-! the text, by places -/
def topS (i : Nat) : Stmt := PySem.Challenge.pw_shownshort_k27_whole_groups_shown_alike.main.body.getD i (.Pass ⟨0, 0, 0, 0⟩)
abbrev s_InvalidNumber_init : Stmt := inClass (topS 2) 0
abbrev ps_InvalidNumber_init : List Str := ["self", "value"]
theorem sc_InvalidNumber_init : FnScope ["self", "value"] ps_InvalidNumber_init (defScope s_InvalidNumber_init) := ⟨rfl, rfl, rfl, by decide +kernel, rfl, by decide +kernel, by decide +kernel⟩
abbrev s_InvalidMark_init : Stmt := inClass (topS 3) 0
abbrev ps_InvalidMark_init : List Str := ["self", "value"]
theorem sc_InvalidMark_init : FnScope ["self", "value"] ps_InvalidMark_init (defScope s_InvalidMark_init) := ⟨rfl, rfl, rfl, by decide +kernel, rfl, by decide +kernel, by decide +kernel⟩
abbrev s_InvalidRow_init : Stmt := inClass (topS 4) 0
abbrev ps_InvalidRow_init : List Str := ["self", "index"]
theorem sc_InvalidRow_init : FnScope ["self", "index"] ps_InvalidRow_init (defScope s_InvalidRow_init) := ⟨rfl, rfl, rfl, by decide +kernel, rfl, by decide +kernel, by decide +kernel⟩
abbrev s_InvalidTexts_init : Stmt := inClass (topS 5) 0
abbrev ps_InvalidTexts_init : List Str := ["self", "index"]
theorem sc_InvalidTexts_init : FnScope ["self", "index"] ps_InvalidTexts_init (defScope s_InvalidTexts_init) := ⟨rfl, rfl, rfl, by decide +kernel, rfl, by decide +kernel, by decide +kernel⟩
abbrev s_is_integer : Stmt := topS 12
abbrev ps_is_integer : List Str := ["value", "least", "most"]
theorem sc_is_integer : FnScope ["value", "least", "most"] ps_is_integer (defScope s_is_integer) := ⟨rfl, rfl, rfl, by decide +kernel, rfl, by decide +kernel, by decide +kernel⟩
abbrev s_is_tuple : Stmt := topS 13
abbrev ps_is_tuple : List Str := ["value", "least", "most"]
theorem sc_is_tuple : FnScope ["value", "least", "most"] ps_is_tuple (defScope s_is_tuple) := ⟨rfl, rfl, rfl, by decide +kernel, rfl, by decide +kernel, by decide +kernel⟩
abbrev s_is_text : Stmt := topS 14
abbrev ps_is_text : List Str := ["value", "most"]
theorem sc_is_text : FnScope ["value", "most", "character"] ps_is_text (defScope s_is_text) := ⟨rfl, rfl, rfl, by decide +kernel, rfl, by decide +kernel, by decide +kernel⟩
abbrev s_check_mark : Stmt := topS 15
abbrev ps_check_mark : List Str := ["mark"]
theorem sc_check_mark : FnScope ["mark"] ps_check_mark (defScope s_check_mark) := ⟨rfl, rfl, rfl, by decide +kernel, rfl, by decide +kernel, by decide +kernel⟩
abbrev s_check_texts : Stmt := topS 16
abbrev ps_check_texts : List Str := ["texts", "most"]
theorem sc_check_texts : FnScope ["texts", "most", "place", "text"] ps_check_texts (defScope s_check_texts) := ⟨rfl, rfl, rfl, by decide +kernel, rfl, by decide +kernel, by decide +kernel⟩
abbrev s_Shortener_init : Stmt := inClass (topS 18) 0
abbrev ps_Shortener_init : List Str := ["self", "limit", "head", "tail", "mark"]
theorem sc_Shortener_init : FnScope ["self", "limit", "head", "tail", "mark", "number"] ps_Shortener_init (defScope s_Shortener_init) := ⟨rfl, rfl, rfl, by decide +kernel, rfl, by decide +kernel, by decide +kernel⟩
abbrev s_Shortener_eq : Stmt := inClass (topS 18) 1
abbrev ps_Shortener_eq : List Str := ["self", "other"]
theorem sc_Shortener_eq : FnScope ["self", "other"] ps_Shortener_eq (defScope s_Shortener_eq) := ⟨rfl, rfl, rfl, by decide +kernel, rfl, by decide +kernel, by decide +kernel⟩
abbrev s_Shortener_repr : Stmt := inClass (topS 18) 2
abbrev ps_Shortener_repr : List Str := ["self"]
theorem sc_Shortener_repr : FnScope ["self"] ps_Shortener_repr (defScope s_Shortener_repr) := ⟨rfl, rfl, rfl, by decide +kernel, rfl, by decide +kernel, by decide +kernel⟩
abbrev s_check_row : Stmt := topS 19
abbrev ps_check_row : List Str := ["row"]
theorem sc_check_row : FnScope ["row", "place", "shortener"] ps_check_row (defScope s_check_row) := ⟨rfl, rfl, rfl, by decide +kernel, rfl, by decide +kernel, by decide +kernel⟩
abbrev s_shortened : Stmt := topS 20
abbrev ps_shortened : List Str := ["shortener", "whole", "mark"]
theorem sc_shortened : FnScope ["shortener", "whole", "mark", "tail_start"] ps_shortened (defScope s_shortened) := ⟨rfl, rfl, rfl, by decide +kernel, rfl, by decide +kernel, by decide +kernel⟩
abbrev s_shown_by : Stmt := topS 21
abbrev ps_shown_by : List Str := ["row", "text"]
theorem sc_shown_by : FnScope ["row", "text", "shown", "shortener"] ps_shown_by (defScope s_shown_by) := ⟨rfl, rfl, rfl, by decide +kernel, rfl, by decide +kernel, by decide +kernel⟩
abbrev s_separates : Stmt := topS 24
abbrev ps_separates : List Str := ["row", "texts"]
theorem sc_separates : FnScope ["row", "texts", "text"] ps_separates (defScope s_separates) := ⟨rfl, rfl, rfl, by decide +kernel, rfl, by decide +kernel, by decide +kernel⟩
abbrev s_groups : Stmt := topS 25
abbrev ps_groups : List Str := ["row", "texts"]
theorem sc_groups : FnScope ["row", "texts", "places", "place", "text", "shared"] ps_groups (defScope s_groups) := ⟨rfl, rfl, rfl, by decide +kernel, rfl, by decide +kernel, by decide +kernel⟩
abbrev s_tells_apart : Stmt := topS 26
abbrev ps_tells_apart : List Str := ["row", "texts"]
theorem sc_tells_apart : FnScope ["row", "texts"] ps_tells_apart (defScope s_tells_apart) := ⟨rfl, rfl, rfl, by decide +kernel, rfl, by decide +kernel, by decide +kernel⟩
abbrev s_law_pot : Stmt := topS 28
abbrev ps_law_pot : List Str := ["_law_script", "_law_k"]
theorem sc_law_pot : FnScope ["_law_script", "_law_k", "_law_own", "_law_mixed", "_law_entry"] ps_law_pot (defScope s_law_pot) := ⟨rfl, rfl, rfl, by decide +kernel, rfl, by decide +kernel, by decide +kernel⟩
abbrev s_law_ladle : Stmt := topS 29
abbrev ps_law_ladle : List Str := ["_law_pot_here", "_law_many"]
theorem sc_law_ladle : FnScope ["_law_pot_here", "_law_many", "_law_digit"] ps_law_ladle (defScope s_law_ladle) := ⟨rfl, rfl, rfl, by decide +kernel, rfl, by decide +kernel, by decide +kernel⟩
abbrev s_law_one_of : Stmt := topS 30
abbrev ps_law_one_of : List Str := ["_law_pot_here", "_law_some"]
theorem sc_law_one_of : FnScope ["_law_pot_here", "_law_some"] ps_law_one_of (defScope s_law_one_of) := ⟨rfl, rfl, rfl, by decide +kernel, rfl, by decide +kernel, by decide +kernel⟩
abbrev s_law_told : Stmt := topS 31
abbrev ps_law_told : List Str := ["_law_pot_here"]
theorem sc_law_told : FnScope ["_law_pot_here", "_law_sign", "_law_way", "_law_bound", "_law_low", "_law_high"] ps_law_told (defScope s_law_told) := ⟨rfl, rfl, rfl, by decide +kernel, rfl, by decide +kernel, by decide +kernel⟩
abbrev s_law_tolds : Stmt := topS 32
abbrev ps_law_tolds : List Str := ["_law_pot_here"]
theorem sc_law_tolds : FnScope ["_law_pot_here", "_law_k"] ps_law_tolds (defScope s_law_tolds) := ⟨rfl, rfl, rfl, by decide +kernel, rfl, by decide +kernel, by decide +kernel⟩
abbrev s_law_made : Stmt := topS 33
abbrev ps_law_made : List Str := ["_law_tolds_here"]
theorem sc_law_made : FnScope ["_law_tolds_here", "_law_a", "_law_b", "_law_c", "_law_d"] ps_law_made (defScope s_law_made) := ⟨rfl, rfl, rfl, by decide +kernel, rfl, by decide +kernel, by decide +kernel⟩
abbrev s_law_cut : Stmt := topS 34
abbrev ps_law_cut : List Str := ["_law_tolds_here", "_law_things"]
theorem sc_law_cut : FnScope ["_law_tolds_here", "_law_things", "_law_bound", "_law_low", "_law_high", "_law_sign", "_law_front", "_law_back", "_law_each"] ps_law_cut (defScope s_law_cut) := ⟨rfl, rfl, rfl, by decide +kernel, rfl, by decide +kernel, by decide +kernel⟩
abbrev s_law_seen : Stmt := topS 35
abbrev ps_law_seen : List Str := ["_law_tolds_here", "_law_line_here"]
theorem sc_law_seen : FnScope ["_law_tolds_here", "_law_line_here", "_law_each"] ps_law_seen (defScope s_law_seen) := ⟨rfl, rfl, rfl, by decide +kernel, rfl, by decide +kernel, by decide +kernel⟩
abbrev s_law_line : Stmt := topS 36
abbrev ps_law_line : List Str := ["_law_pot_here", "_law_many"]
theorem sc_law_line : FnScope ["_law_pot_here", "_law_many", "_law_signs_here", "_law_k"] ps_law_line (defScope s_law_line) := ⟨rfl, rfl, rfl, by decide +kernel, rfl, by decide +kernel, by decide +kernel⟩
abbrev s_law_some_lines : Stmt := topS 37
abbrev ps_law_some_lines : List Str := ["_law_pot_here", "_law_many"]
theorem sc_law_some_lines : FnScope ["_law_pot_here", "_law_many", "_law_stem", "_law_found", "_law_k", "_law_way", "_law_at", "_law_line_here"] ps_law_some_lines (defScope s_law_some_lines) := ⟨rfl, rfl, rfl, by decide +kernel, rfl, by decide +kernel, by decide +kernel⟩
abbrev s_law_right : Stmt := topS 38
abbrev ps_law_right : List Str := ["_law_pot_here"]
theorem sc_law_right : FnScope ["_law_pot_here", "_law_again", "_law_tolds_here", "_law_lines", "_law_made_here", "_law_seen_here", "_law_due", "_law_apart", "_law_k", "_law_mates", "_law_line_here", "_law_j"] ps_law_right (defScope s_law_right) := ⟨rfl, rfl, rfl, by decide +kernel, rfl, by decide +kernel, by decide +kernel⟩
abbrev s_law : Stmt := topS 39
abbrev ps_law : List Str := ["_law_script"]
theorem sc_law : FnScope ["_law_script", "_law_k"] ps_law (defScope s_law) := ⟨rfl, rfl, rfl, by decide +kernel, rfl, by decide +kernel, by decide +kernel⟩
/-- names that the module leaves to Python -/
structure Bi (mg : Str → Option Value) : Prop where
  ValueError : mg "ValueError" = none
  abs : mg "abs" = none
  all : mg "all" = none
  bool : mg "bool" = none
  divmod : mg "divmod" = none
  enumerate : mg "enumerate" = none
  int : mg "int" = none
  isinstance : mg "isinstance" = none
  len : mg "len" = none
  max : mg "max" = none
  min : mg "min" = none
  range : mg "range" = none
  repr : mg "repr" = none
  set : mg "set" = none
  str : mg "str" = none
  tuple : mg "tuple" = none
  MOST_SIGNS : ∃ u, mg "MOST_SIGNS" = some u ∧ RelV (.int 40) u
  MOST_MARK : ∃ u, mg "MOST_MARK" = some u ∧ RelV (.int 3) u
  MOST_ROW : ∃ u, mg "MOST_ROW" = some u ∧ RelV (.int 4) u
  MOST_TEXT : ∃ u, mg "MOST_TEXT" = some u ∧ RelV (.int 200) u
  SIGNS : ∃ u, mg "SIGNS" = some u ∧ RelV (.str ".0123456789abcdefghijklmnopqrstuvwxyz~") u
  MOST_TEXTS : ∃ u, mg "MOST_TEXTS" = some u ∧ RelV (.int 20) u
end Gu
namespace Gu
open PySem PySem.Spec PyProof.Rows L2
/-! cuts -/
/-- from a middle state on -/
def tHalt (t u : TS) : TS := fun D σ H => ∃ M : L2.St → Hp → Prop, t { D with nx := M } σ H ∧ ∀ σ1 H1, M σ1 H1 → u D σ1 H1
/-! defs as they stand behind the top -/
structure At (K : PySem.W.Frag) (mg : Str → Option Value) (x : Str) (st : Stmt) (ps : List Str) : Prop where
  ex : ∃ (f : Addr) (fd : FuncData), Fun K x x st f fd ∧ Binds K fd ps [] ∧ mg x = some (.ref f)
structure Cal (P : Program) (w : World) (K : PySem.W.Frag) (mg : Str → Option Value) (base : Heap) (k : Nat) (x : Str) (ps : List Str) (sp : Sp) : Prop where
  ex : ∃ (f : Addr) (fd : FuncData), FnOk P w K mg base CX0 k f fd ps sp ∧ mg x = some (.ref f) ∧ PySem.W.keepIn K (.ref f) = true ∧ Binds K fd ps [] ∧ ∃ oc od sl, K.lookup f = some ⟨oc, od, .func fd, sl⟩
theorem At.cal {P : Program} {w : World} {K : PySem.W.Frag} {mg : Str → Option Value} {base : Heap} {x : Str} {st : Stmt} {N ps : List Str} {k : Nat} {sp : Sp} (D : At K mg x st ps) (S : FnScope N ps (defScope st)) (len : ∀ vs H Q E, sp vs H Q E → vs.length = ps.length)
    (body : ∀ (f : Addr) (cdv : Value) (A : Around) (outer : List Env) (s : Shared) (H : Hp) (vs : List V) (Q : VK) (E : XK), Room k (A.deeper (envOfC x (defScope st) s.heap.objs.size f cdv)) → sp vs H Q E →
      ∃ t, PSs (cxOf CX0 P w K mg base N x (defScope st) f cdv A outer s H E).nox (defBody st) t ∧ t { nx := fun _ H' => Q .non H', rt := Q } (start N vs) H) : Cal P w K mg base (k + 1) x ps sp := by
  obtain ⟨f, fd, F, b, g⟩ := D.ex
  obtain ⟨oc, od, kV, doc, pm, an, cdv, ct, osl, e, lk, hcd⟩ := F.ex
  exact ⟨f, fd, F.ok S len (body f), g, F.kp, b, oc, od, osl, lk⟩
section
variable {X : Cx} {k j : Nat} {x : Str} {ps : List Str} {sp : Sp} {p pos : Pos} {e : Expr} {es : List Expr} {t : TA}
theorem pe_own (c : Cal X.prog X.w X.K X.mg X.base k x ps sp) (hr : Room j X.A) (hk : k ≤ j) (hg : Gl X x) (ha : PA X (e :: es) t)
    (hdb : (x == ("__debug__" : Str)) = false := by decide) (he : starEach (e :: es) X.env = (false, eval e X.env) :: starEach es X.env := by rfl) (hpl : (backTo pos (starEach es X.env)).any (·.1) = false := by rfl) :
    PE X (.Call (.Name x p) (e :: es) [] pos) (tCall sp [] E0 t) := by
  obtain ⟨f, fd, F, hm, kp, b, _⟩ := c.ex
  exact pe_call F (hr.mono hk) hg hm kp b .nil pass0 ha hdb he hpl
theorem pe_cst {v : V} (h : ∃ u, X.mg x = some u ∧ RelV v u) (hg : Gl X x) (hdb : (x == ("__debug__" : Str)) = false := by decide) : PE X (.Name x pos) (tC v) := by
  obtain ⟨u, hm, r⟩ := h
  exact pe_glob hg hm r hdb
end
def tMid (t : TE) : TE := fun σ H Q => ∃ M : VK, t σ H M ∧ ∀ v G, M v G → Q v G
theorem pe_mid {X : Cx} {e : Expr} {t : TE} (d : PE X e t) : PE X e (tMid t) := ⟨fun pins s σ H Q I ⟨M, m, k⟩ => thn (d.run pins s σ H M I m) fun u s1 ⟨v, G, I1, r1, m1⟩ => ⟨v, G, I1, r1, k v G m1⟩⟩
/-! ### heaps -/
theorem same_new {H : Hp} {p : Addr} {o : HO} (h : H p = none) : Same H (upd H p o) := fun b x e => by
  rw [upd_ne (ne_of_none e h)]
  exact e
/-- a pot of three ints stands at p -/
def Pot (H : Hp) (p : Addr) : Prop := ∃ x y z : Int, H p = some (.lst [.int x, .int y, .int z])
/-- from H to G the pot at p may have changed, the rest stands -/
structure Ladled (p : Addr) (H G : Hp) : Prop where
  pot : Pot G p
  keep : ∀ b o, H b = some o → b ≠ p → G b = some o
theorem Pot.some {H : Hp} {p : Addr} (h : Pot H p) : ∃ o, H p = some o := by
  obtain ⟨x, y, z, e⟩ := h
  exact ⟨_, e⟩
theorem Pot.same {H G : Hp} {p : Addr} (s : Same H G) (h : Pot H p) : Pot G p := by
  obtain ⟨x, y, z, e⟩ := h
  exact ⟨x, y, z, s _ _ e⟩
theorem Ladled.refl {H : Hp} {p : Addr} (h : Pot H p) : Ladled p H H := ⟨h, fun _ _ e _ => e⟩
theorem Ladled.trans {H G J : Hp} {p : Addr} (a : Ladled p H G) (b : Ladled p G J) : Ladled p H J := ⟨b.pot, fun c o e n => b.keep c o (a.keep c o e n) n⟩
theorem Ladled.same {H G J : Hp} {p : Addr} (a : Ladled p H G) (b : Same G J) : Ladled p H J := ⟨a.pot.same b, fun c o e n => b _ _ (a.keep c o e n)⟩
theorem Ladled.ofSame {H G : Hp} {p : Addr} (h : Pot H p) (b : Same H G) : Ladled p H G := ⟨h.same b, fun c o e _ => b _ _ e⟩
theorem Ladled.new {H G : Hp} {p q : Addr} {o : HO} (a : Ladled p H G) (h : G q = none) : Ladled p H (upd G q o) := a.same (same_new h)
theorem Ladled.free {H G : Hp} {p l : Addr} (a : Ladled p H G) (h : G l = none) : H l = none := by
  cases q : H l with
  | none => rfl
  | some o =>
    by_cases e : l = p
    · subst e
      obtain ⟨u, hu⟩ := a.pot.some
      rw [hu] at h
      cases h
    · rw [a.keep l o q e] at h
      cases h
/-- what is not known at first may change -/
theorem Ladled.mut {H G : Hp} {p q : Addr} {o : HO} (a : Ladled p H G) (h : H q = none) (n : q ≠ p) : Ladled p H (upd G q o) := by
  refine ⟨?_, fun b u e nb => ?_⟩
  · obtain ⟨x, y, z, e⟩ := a.pot
    exact ⟨x, y, z, by rw [upd_ne (Ne.symm n)]; exact e⟩
  · rw [upd_ne (ne_of_none e h)]
    exact a.keep b u e nb
end Gu
namespace Gu
open PySem PySem.Spec PyProof.Rows L2
section
variable {P : Program} {w : World} {K : PySem.W.Frag} {mg : Str → Option Value} {base : Heap}
/-! ### _law_ladle -/
def spLadle : Sp := fun vs H Q _ => ∃ (p : Addr) (m : Int), vs = [.ref p, .int m] ∧ Pot H p ∧ 0 < m ∧ m < 1000000 ∧ ∀ d G, 0 ≤ d → d < m → Ladled p H G → Q (.int d) G
theorem cal_ladle (B : Bi mg) (D : At K mg "_law_ladle" s_law_ladle ps_law_ladle) : Cal P w K mg base 1 "_law_ladle" ps_law_ladle spLadle := by
  refine D.cal sc_law_ladle (fun vs H Q E h => ?_) (fun f cdv A outer s H vs Q E hr h => ?_)
  · obtain ⟨p, m, rfl, _⟩ := h
    rfl
  · obtain ⟨p, m, rfl, ⟨x, y, z, hp⟩, m0, m1, k⟩ := h
    refine ⟨_, (pss_cons (ps_asg (pe_op op_add (pe_ix ix_list (pv 0) pe_int (fun _ _ => rfl)) pe_int) (pg_sub (pv 0) pe_int set_list))
      (pss_cons (ps_if (pt_cmpR op_gt (pe_ix ix_list (pv 0) pe_int (fun _ _ => rfl)) pe_int (nomark _)) (pss_cons (ps_asg (pe_callB call_divmod (by rfl) B.divmod (by decide +kernel) (pa_cons (pe_callTy call_int1 (by rfl) B.int (by decide +kernel) (pa_cons (pe_ix ix_list (pv 0) pe_int (fun _ _ => rfl)) pa_nil)) (pa_cons (pv 1) pa_nil))) (pg_tup rfl (pgs_cons (pg_sub (pv 0) pe_int set_list) (pgs_cons (pg_name (i := 2) sc_law_ladle.nd rfl (.inl rfl)) pgs_nil))))
      (pss_one (ps_ret (pv 2)))) pss_nil)
      (pss_cons (ps_asg (pe_op op_mod (pe_callTy call_int1 (by rfl) B.int (by decide +kernel) (pa_cons (pe_op op_add (pe_op op_add (pe_op op_mul (pe_ix ix_list (pv 0) pe_int (fun _ _ => rfl)) pe_int) (pe_op op_mul (pe_ix ix_list (pv 0) pe_int (fun _ _ => rfl)) pe_int)) (pe_op op_mul (pe_op op_fdiv (pe_ix ix_list (pv 0) pe_int (fun _ _ => rfl)) pe_int) pe_int)) pa_nil)) pe_int) (pg_sub (pv 0) pe_int set_list))
      (pss_one (ps_ret (pe_op op_mod (pe_callTy call_int1 (by rfl) B.int (by decide +kernel) (pa_cons (pe_op op_fdiv (pe_ix ix_list (pv 0) pe_int (fun _ _ => rfl)) pe_int) pa_nil)) (pv 1))))))), ?_⟩
    refine ⟨_, rfl, p, _, _, _, rfl, rfl, .inl (.inl hp), (rfl : atI [V.int x, V.int y, V.int z] 1 = some (V.int y)), _, _, rfl, rfl, _, rfl, p, _, _, 1, rfl, rfl, hp, rfl, ?_⟩
    have h1 : upd H p (.lst ([V.int x, V.int y, V.int z].set 1 (.int (y + 3)))) p = some (.lst [.int x, .int (y + 3), .int z]) := upd_same
    refine ⟨_, rfl, p, _, _, _, rfl, rfl, .inl (.inl h1), (rfl : atI [V.int x, V.int (y + 3), V.int z] 0 = some (V.int x)), _, _, rfl, rfl, _, rfl, ite2 (fun _ => ?_) (fun _ => ?_)⟩
    · refine ⟨_, rfl, p, _, _, _, rfl, rfl, .inl (.inl h1), (rfl : atI [V.int x, V.int (y + 3), V.int z] 0 = some (V.int x)), .inl ⟨_, rfl, _, rfl, _, _, rfl, ⟨m0, by omega⟩, fun q hq => ?_⟩⟩
      have npq : p ≠ q := ne_of_none h1 hq
      refine ⟨q, _, rfl, .inl (.inl upd_same), rfl, _, _, rfl, ⟨_, rfl, p, _, _, 0, rfl, rfl, (by rw [upd_ne npq]; exact h1), rfl, _, _, rfl, rfl, ?_⟩⟩
      refine ⟨_, rfl, ?_⟩
      refine k (x % m) _ (Int.emod_nonneg _ (by omega)) (Int.emod_lt_of_pos _ m0) ⟨⟨_, _, _, upd_same⟩, fun b o e n => ?_⟩
      have hb : upd H p (.lst ([V.int x, V.int y, V.int z].set 1 (.int (y + 3)))) b = some o := by rw [upd_ne n]; exact e
      rw [upd_ne n, upd_ne (ne_of_none hb hq), upd_ne n]
      exact e
    · refine ⟨_, rfl, p, _, _, _, rfl, rfl, .inl (.inl h1), (rfl : atI [V.int x, V.int (y + 3), V.int z] 2 = some (V.int z)), _, _, rfl, rfl, .inr ⟨by decide, by decide⟩, _, rfl, p, _, _, _, rfl, rfl, .inl (.inl h1), (rfl : atI [V.int x, V.int (y + 3), V.int z] 1 = some (V.int (y + 3))), _, _, rfl, rfl, .inr ⟨by decide, by decide⟩, _, _, rfl, rfl, ?_⟩
      refine ⟨_, rfl, p, _, _, _, rfl, rfl, .inl (.inl h1), (rfl : atI [V.int x, V.int (y + 3), V.int z] 2 = some (V.int z)), _, _, rfl, rfl, ⟨by decide, by decide⟩, _, _, rfl, rfl, .inr ⟨by decide, by decide⟩, _, _, rfl, rfl, .inl ⟨_, rfl, _, _, rfl, rfl, (by decide : (0 : Int) < 1999999889), ?_⟩⟩
      refine ⟨_, rfl, p, _, _, 2, rfl, rfl, h1, rfl, ?_⟩
      refine ⟨_, rfl, p, _, _, _, rfl, rfl, .inl (.inl upd_same), rfl, _, _, rfl, rfl, ⟨by decide, by decide⟩, .inl ⟨_, rfl, _, rfl, _, _, rfl, rfl, m0, ?_⟩⟩
      refine k _ _ (Int.emod_nonneg _ (by omega)) (Int.emod_lt_of_pos _ m0) ⟨⟨_, _, _, upd_same⟩, fun b o e n => ?_⟩
      rw [upd_ne n, upd_ne n]
      exact e
/-! ### _law_one_of: of a list or of a text -/
def spOneOf (K : PySem.W.Frag) : Sp := fun vs H Q _ => ∃ (p : Addr), Pot H p ∧
  ((∃ (l : Addr) (xs : List V), vs = [.ref p, .ref l] ∧ SqL K H l xs ∧ l ≠ p ∧ 0 < xs.length ∧ xs.length < 1000 ∧ ∀ v G, v ∈ xs → Ladled p H G → Q v G) ∨
   (∃ (z : Str), vs = [.ref p, .str z] ∧ 0 < z.cps.toList.length ∧ z.cps.toList.length < 1000 ∧ ∀ c G, c ∈ z.cps.toList → Ladled p H G → Q (.str ⟨#[c]⟩) G))
theorem Ladled.seq {K : PySem.W.Frag} {H G : Hp} {p l : Addr} {xs : List V} (a : Ladled p H G) (n : l ≠ p) (h : SqL K H l xs) : SqL K G l xs := by
  rcases h with (h | ⟨o, h⟩) | h
  · exact .inl (.inl (a.keep _ _ h n))
  · exact .inl (.inr ⟨o, a.keep _ _ h n⟩)
  · exact .inr h
theorem at_in {α : Type} {xs : List α} {d : Int} (h0 : 0 ≤ d) (h1 : d < (xs.length : Int)) : ∃ v, v ∈ xs ∧ atI xs d = some v := by
  obtain ⟨j, rfl⟩ := Int.eq_ofNat_of_zero_le h0
  have hj : j < xs.length := by omega
  exact ⟨xs[j], List.getElem_mem hj, atI_nat (List.getElem?_eq_getElem hj)⟩
theorem cal_oneOf (B : Bi mg) (D : At K mg "_law_one_of" s_law_one_of ps_law_one_of) (C_law_ladle : Cal P w K mg base 1 "_law_ladle" ps_law_ladle spLadle) : Cal P w K mg base 2 "_law_one_of" ps_law_one_of (spOneOf K) := by
  refine D.cal sc_law_one_of (fun vs H Q E h => ?_) (fun f cdv A outer s H vs Q E hr h => ?_)
  · obtain ⟨p, _, ⟨l, xs, rfl, _⟩ | ⟨z, rfl, _⟩⟩ := h
    · rfl
    · rfl
  · refine ⟨_, (pss_one (ps_ret (pe_ix ix_seq (pv 1) (pe_own C_law_ladle hr (by decide) (by rfl) (pa_cons (pv 0) (pa_cons (pe_callB call_len (by rfl) B.len (by decide +kernel) (pa_cons (pv 1) pa_nil)) pa_nil))) (fun _ _ => rfl)))), ?_⟩
    obtain ⟨p, hp, ⟨l, xs, rfl, hl, np, l0, l1, k⟩ | ⟨z, rfl, l0, l1, k⟩⟩ := h
    · refine ⟨_, rfl, _, rfl, _, rfl, _, _, rfl, .inl ⟨_, hl, rfl⟩, p, _, rfl, hp, by omega, by omega, fun d G d0 d1 L => ?_⟩
      obtain ⟨v, hv, ha⟩ := at_in (xs := xs) d0 d1
      exact .inl ⟨l, xs, d, v, rfl, rfl, L.seq np hl, ha, k v G hv L⟩
    · have ez : z.length = z.cps.toList.length := rfl
      refine ⟨_, rfl, _, rfl, _, rfl, _, _, rfl, ⟨Nat.le_of_lt (small1000 (by omega)), rfl⟩, p, _, rfl, hp, by omega, by omega, fun d G d0 d1 L => ?_⟩
      obtain ⟨c, hc, ha⟩ := at_in (xs := z.cps.toList) d0 (by omega)
      exact .inr (.inr ⟨z, d, c, rfl, rfl, Nat.le_of_lt (small1000 (by omega)), ha, k c G hc L⟩)
/-! ### _law_pot -/
def spPot (K : PySem.W.Frag) : Sp := fun vs H Q _ => ∃ (a : Addr) (k : Nat) (ns : List Int), vs = [.ref a, .int (k : Int)] ∧ SqL K H a (ns.map V.int) ∧ k < 1000 ∧ ∀ p G, H p = none → Pot G p → Same H G → Q (.ref p) G
theorem cal_pot (B : Bi mg) (D : At K mg "_law_pot" s_law_pot ps_law_pot) : Cal P w K mg base 1 "_law_pot" ps_law_pot (spPot K) := by
  refine D.cal sc_law_pot (fun vs H Q E h => ?_) (fun f cdv A outer s H vs Q E hr h => ?_)
  · obtain ⟨a, k, ns, rfl, _⟩ := h
    rfl
  · obtain ⟨a, k, ns, rfl, hS, hk, q⟩ := h
    refine ⟨_, (pss_cons (ps_set (i := 2) sc_law_pot.nd rfl (.inl rfl) (pe_mid (pe_ifExp (pt_cmpR op_lt (pv 1) (pe_callB call_len_seq (by rfl) B.len (by decide +kernel) (pa_cons (pv 0) pa_nil)) (nomark _)) (pe_callTy call_int1 (by rfl) B.int (by decide +kernel) (pa_cons (pe_ix ix_list (pv 0) (pv 1) (fun _ _ => rfl)) pa_nil)) (pe_op op_add (pe_op op_mul pe_int (pv 1)) pe_int))))
      (pss_cons (ps_set (i := 3) sc_law_pot.nd rfl (.inl rfl) (pe_op op_add pe_int (pe_op op_mul pe_int (pv 1))))
      (pss_cons (ps_for PassesOwn.never rfl (pi_list (pe_slice sl_list (pv 0) po_none (po_some pe_int))) (pg_name (i := 4) sc_law_pot.nd rfl (.inl rfl))
      (pss_one (ps_set (i := 3) sc_law_pot.nd rfl (.inl rfl) (pe_op op_mod (pe_callTy call_int1 (by rfl) B.int (by decide +kernel) (pa_cons (pe_op op_add (pe_op op_mul (pv 3) pe_int) (pe_op op_mod (pe_callTy call_int1 (by rfl) B.int (by decide +kernel) (pa_cons (pv 4) pa_nil)) pe_int)) pa_nil)) pe_int))))
      (pss_one (ps_ret (pe_lst (pa_cons (pe_mid (pe_ifExp (PW.pt (pw_or (pt_cmpR op_lt (pv 2) pe_int (nomark _)) (pw_or1 (pt_cmpR op_ge (pv 2) (pe_op op_pow pe_int pe_int) (nomark _))))) (pe_callB call_abs (by rfl) B.abs (by decide +kernel) (pa_cons (pv 2) pa_nil)) pe_int)) (pa_cons pe_int (pa_cons (pe_op op_mod (pe_callTy call_int1 (by rfl) B.int (by decide +kernel) (pa_cons (pe_op op_add (pe_op op_mul (pv 3) pe_int) (pe_op op_mod (pv 2) pe_int)) pa_nil)) pe_int) pa_nil))))))))), ?_⟩
    refine ⟨fun v G => (∃ i : Int, v = .int i) ∧ G = H, ?_, ?_⟩
    · refine ⟨_, rfl, _, rfl, a, _, rfl, .inl hS, _, _, rfl, rfl, _, rfl, ite2 (fun e => ?_) (fun _ => ?_)⟩
      · have hlt := of_decide_eq_true e
        have hj : k < ns.length := by
          rw [List.length_map] at hlt
          omega
        refine ⟨_, rfl, _, rfl, a, _, _, _, rfl, rfl, hS, atI_nat (j := k) (v := .int ns[k]) (by rw [List.getElem?_map, List.getElem?_eq_getElem hj]; rfl), .inl ⟨_, rfl, ⟨_, rfl⟩, rfl⟩⟩
      · refine ⟨_, rfl, _, _, rfl, rfl, .inl ⟨by decide, by decide⟩, _, _, rfl, rfl, ⟨_, rfl⟩, rfl⟩
    · rintro _ H0 ⟨⟨own, rfl⟩, eH⟩
      subst eH
      refine ⟨_, rfl, _, _, rfl, rfl, .inl ⟨by decide, by decide⟩, _, _, rfl, rfl, ?_⟩
      refine ⟨_, rfl, 14, rfl, a, _, rfl, hS, fun c nc => ?_⟩
      have sc : Same H0 (upd H0 c (.lst (cutV (ns.map V.int) none (some 14)))) := same_new nc
      have hC : cutV (ns.map V.int) none (some 14) = (ns.take 14).map V.int := by
        unfold cutV
        rw [HT.sIx_none, show HT.sIx (ns.map V.int).length (ns.map V.int).length (some 14) = min 14 (ns.map V.int).length from HT.sIx_nat _ _ 14, List.drop_zero, Nat.sub_zero, List.map_take, List.take_eq_take_iff]
        omega
      refine ⟨c, rfl, ⟨_, .inl (.inl upd_same)⟩, for_list (K := K) (a := c) (xs := (ns.take 14).map V.int) (fun i σ J => ∃ (mx : Int) (u : Option V), σ = [some (.ref a), some (.int (k : Int)), some (.int own), some (.int mx), u] ∧ Same H0 J ∧ J c = some (.lst ((ns.take 14).map V.int)))
        ⟨_, none, rfl, sc, by rw [upd_same, hC]⟩ (fun i σ J _ ⟨_, _, _, _, e⟩ => .inl (.inl e)) ?_ ?_⟩
      · rintro i v σ J hi ⟨mx, u, rfl, sJ, eJ⟩
        obtain ⟨t, rfl⟩ : ∃ t, v = V.int t := by
          rw [List.getElem?_map] at hi
          cases e : (ns.take 14)[i]? with
          | none =>
            rw [e] at hi
            cases hi
          | some t =>
            rw [e] at hi
            exact ⟨t, (Option.some.inj hi).symm⟩
        refine ⟨_, rfl, _, _, rfl, rfl, .inr ⟨by decide, by decide⟩, _, rfl, .inl ⟨_, rfl, _, _, rfl, rfl, (by decide : (0 : Int) < 1999999889), _, _, rfl, rfl, .inl ⟨_, rfl, _, _, rfl, rfl, (by decide : (0 : Int) < 1999999889), ?_⟩⟩⟩
        exact ⟨_, _, rfl, sJ, eJ⟩
      · rintro σ J ⟨mx, u, rfl, sJ, eJ⟩
        refine ⟨fun v J1 => (∃ i : Int, v = .int i) ∧ J1 = J, ?_, ?_⟩
        · refine ⟨_, rfl, _, _, rfl, rfl, _, rfl, ite2 (fun _ => ?_) (fun _ => ?_)⟩
          · refine iteT ⟨_, rfl, _, rfl, ⟨_, rfl⟩, rfl⟩
          · refine ⟨_, rfl, _, _, rfl, rfl, ⟨by decide, by decide, by decide⟩, _, _, rfl, rfl, _, rfl, ite2 (fun _ => ⟨_, rfl, _, rfl, ⟨_, rfl⟩, rfl⟩) (fun _ => ⟨⟨_, rfl⟩, rfl⟩)⟩
        · rintro _ _ ⟨⟨x, rfl⟩, rfl⟩
          refine ⟨_, rfl, _, _, rfl, rfl, .inr ⟨by decide, by decide⟩, _, rfl, _, _, rfl, rfl, (by decide : (0 : Int) < 1999999889), _, _, rfl, rfl, .inl ⟨_, rfl, _, _, rfl, rfl, (by decide : (0 : Int) < 1999999889), ?_⟩⟩
          refine ⟨by show 3 ≤ sizeLine; decide, fun p np => ?_⟩
          exact q p _ (sJ.free np) ⟨_, _, _, upd_same⟩ (sJ.trans (same_new np))
end
end Gu
namespace Gu
open PySem PySem.Spec PyProof.Rows L2
/-! ### _law_told -/
def marks : List Str := ["", "~", "..", "...", "a.b", "~"]
/-- four things as they are drawn -/
structure Four (l h t : Int) (z : Str) : Prop where
  l0 : 0 ≤ l
  l1 : l ≤ 40
  h0 : 0 ≤ h
  h1 : h ≤ 40
  t0 : 0 ≤ t
  t1 : t ≤ 40
  z : z ∈ marks
theorem marks_len {z : Str} (h : z ∈ marks) : z.cps.toList.length ≤ 3 := by
  have a : ∀ y ∈ marks, y.cps.toList.length ≤ 3 := by decide +kernel
  exact a z h
end Gu
namespace Gu
open PySem PySem.Spec PyProof.Rows L2
section
variable {P : Program} {w : World} {K : PySem.W.Frag} {mg : Str → Option Value} {base : Heap}
def spTold : Sp := fun vs H Q _ => ∃ (p : Addr), vs = [.ref p] ∧ Pot H p ∧ ∀ (q : Addr) (G : Hp) (l h t : Int) (z : Str), H q = none → G q = some (.tup [.int l, .int h, .int t, .str z]) → Four l h t z → Ladled p H G → Q (.ref q) G
theorem cal_told (B : Bi mg) (D : At K mg "_law_told" s_law_told ps_law_told) (C_law_ladle : Cal P w K mg base 1 "_law_ladle" ps_law_ladle spLadle) (C_law_one_of : Cal P w K mg base 2 "_law_one_of" ps_law_one_of (spOneOf K)) : Cal P w K mg base 3 "_law_told" ps_law_told spTold := by
  refine D.cal sc_law_told (fun vs H Q E h => ?_) (fun f cdv A outer s H vs Q E hr h => ?_)
  · obtain ⟨p, rfl, _⟩ := h
    rfl
  · obtain ⟨p, rfl, hp, k⟩ := h
    refine ⟨_, (pss_cons (ps_set (i := 1) sc_law_told.nd rfl (.inl rfl) (pe_own C_law_one_of hr (by decide) (by rfl) (pa_cons (pv 0) (pa_cons (pe_lst (pa_cons pe_str (pa_cons pe_str (pa_cons pe_str (pa_cons pe_str (pa_cons pe_str (pa_cons pe_str pa_nil))))))) pa_nil))))
      (pss_cons (ps_par (i := 2) (j := 3) (by rfl) sc_law_told.nd rfl rfl (by decide) rfl rfl (pa_cons (pe_own C_law_ladle hr (by decide) (by rfl) (pa_cons (pv 0) (pa_cons pe_int pa_nil))) (pa_cons (pe_own C_law_one_of hr (by decide) (by rfl) (pa_cons (pv 0) (pa_cons (pe_lst (pa_cons pe_int (pa_cons pe_int (pa_cons pe_int (pa_cons pe_int pa_nil))))) pa_nil))) pa_nil)) (by rfl))
      (pss_cons (ps_par (i := 4) (j := 5) (by rfl) sc_law_told.nd rfl rfl (by decide) rfl rfl (pa_cons (pe_own C_law_ladle hr (by decide) (by rfl) (pa_cons (pv 0) (pa_cons (pv 3) pa_nil))) (pa_cons (pe_own C_law_ladle hr (by decide) (by rfl) (pa_cons (pv 0) (pa_cons (pv 3) pa_nil))) pa_nil)) (by rfl))
      (pss_cons (ps_if (pt_cmpR op_eq (pv 2) pe_int (nomark _)) (pss_one (ps_ret (pe_tup (pa_cons (pe_callB (call_min2 rfl) (by rfl) B.min (by decide +kernel) (pa_cons pe_int (pa_cons (pe_op op_add (pe_op op_add (pv 4) (pv 5)) (pe_callB call_len (by rfl) B.len (by decide +kernel) (pa_cons (pv 1) pa_nil))) pa_nil))) (pa_cons (pv 4) (pa_cons (pv 5) (pa_cons (pv 1) pa_nil))))))) pss_nil)
      (pss_cons (ps_if (pt_cmpR op_eq (pv 2) pe_int (nomark _)) (pss_one (ps_ret (pe_tup (pa_cons (pe_own C_law_ladle hr (by decide) (by rfl) (pa_cons (pv 0) (pa_cons (pv 3) pa_nil))) (pa_cons (pv 4) (pa_cons pe_int (pa_cons (pv 1) pa_nil))))))) pss_nil)
      (pss_one (ps_ret (pe_tup (pa_cons (pe_own C_law_ladle hr (by decide) (by rfl) (pa_cons (pv 0) (pa_cons (pv 3) pa_nil))) (pa_cons (pv 4) (pa_cons (pv 5) (pa_cons (pv 1) pa_nil)))))))))))), ?_⟩
    -- the sign
    refine ⟨_, rfl, by show 6 ≤ sizeLine; decide, fun q0 n0 => ?_⟩
    have hp0 : Pot (upd H q0 (.lst [.str "", .str "~", .str "..", .str "...", .str "a.b", .str "~"])) p := hp.same (same_new n0)
    have L0 : Ladled p H (upd H q0 (.lst [.str "", .str "~", .str "..", .str "...", .str "a.b", .str "~"])) := .ofSame hp (same_new n0)
    have np0 : q0 ≠ p := fun e => by
      subst e
      obtain ⟨o, ho⟩ := hp.some
      rw [n0] at ho
      cases ho
    refine ⟨p, hp0, .inl ⟨q0, _, rfl, .inl (.inl upd_same), np0, by decide, by decide, fun v G1 hv L1 => ?_⟩⟩
    obtain ⟨z, hz, rfl⟩ : ∃ z, z ∈ marks ∧ v = .str z := by
      have e : ([.str "", .str "~", .str "..", .str "...", .str "a.b", .str "~"] : List V) = marks.map V.str := rfl
      rw [e] at hv
      obtain ⟨z, h1, h2⟩ := List.mem_map.mp hv
      exact ⟨z, h1, h2.symm⟩
    have M1 : Ladled p H G1 := L0.trans L1
    -- the way, the bound
    refine ⟨_, rfl, p, 4, rfl, M1.pot, by decide, by decide, fun way G2 w0 w1 L2 => ?_⟩
    have M2 : Ladled p H G2 := M1.trans L2
    refine ⟨_, rfl, by show 4 ≤ sizeLine; decide, fun q1 n1 => ?_⟩
    have np1 : q1 ≠ p := fun e => by
      subst e
      obtain ⟨o, ho⟩ := M2.pot.some
      rw [n1] at ho
      cases ho
    refine ⟨p, M2.pot.same (same_new n1), .inl ⟨q1, _, rfl, .inl (.inl upd_same), np1, by decide, by decide, fun v G3 hv L3 => ?_⟩⟩
    obtain ⟨b, b0, b1, rfl⟩ : ∃ b : Int, 0 < b ∧ b ≤ 41 ∧ v = .int b := by
      rcases List.mem_cons.mp hv with rfl | hv
      · exact ⟨3, by decide, by decide, rfl⟩
      rcases List.mem_cons.mp hv with rfl | hv
      · exact ⟨6, by decide, by decide, rfl⟩
      rcases List.mem_cons.mp hv with rfl | hv
      · exact ⟨12, by decide, by decide, rfl⟩
      rcases List.mem_cons.mp hv with rfl | hv
      · exact ⟨41, by decide, by decide, rfl⟩
      cases hv
    have M3 : Ladled p H G3 := (M2.new n1).trans L3
    refine ⟨_, _, rfl, ?_⟩
    -- low, high
    refine ⟨_, rfl, _, rfl, p, b, rfl, M3.pot, b0, by omega, fun low G4 x0 x1 L4 => ?_⟩
    have M4 : Ladled p H G4 := M3.trans L4
    refine ⟨_, rfl, _, rfl, p, b, rfl, M4.pot, b0, by omega, fun high G5 y0 y1 L5 => ?_⟩
    have M5 : Ladled p H G5 := M4.trans L5
    refine ⟨_, _, rfl, ?_⟩
    have zl := marks_len hz
    have ez : z.length = z.cps.toList.length := rfl
    -- if way == 0
    refine ⟨_, rfl, rfl, _, rfl, ite2 (fun _ => ?_) (fun _ => ?_)⟩
    · refine ⟨_, rfl, _, rfl, _, _, rfl, rfl, _, rfl, _, _, rfl, ⟨Nat.le_of_lt (small1000 (by omega)), rfl⟩, _, _, rfl, rfl, _, _, rfl, _, rfl, _, rfl, _, rfl, by show 4 ≤ sizeLine; decide, fun q nq => ?_⟩
      refine k q _ _ _ _ _ (M5.free nq) upd_same ⟨?_, ?_, x0, by omega, y0, by omega, hz⟩ (M5.new nq)
      · split <;> omega
      · split <;> omega
    -- if way == 1
    refine ⟨_, rfl, rfl, _, rfl, ite2 (fun _ => ?_) (fun _ => ?_)⟩
    · refine ⟨_, rfl, _, rfl, p, b, rfl, M5.pot, b0, by omega, fun lim G6 u0 u1 L6 => ?_⟩
      have M6 : Ladled p H G6 := M5.trans L6
      refine ⟨_, rfl, _, rfl, by show 4 ≤ sizeLine; decide, fun q nq => ?_⟩
      exact k q _ _ _ _ _ (M6.free nq) upd_same ⟨u0, by omega, x0, by omega, by decide, by decide, hz⟩ (M6.new nq)
    · refine ⟨_, rfl, _, rfl, p, b, rfl, M5.pot, b0, by omega, fun lim G6 u0 u1 L6 => ?_⟩
      have M6 : Ladled p H G6 := M5.trans L6
      refine ⟨_, rfl, _, rfl, _, rfl, by show 4 ≤ sizeLine; decide, fun q nq => ?_⟩
      exact k q _ _ _ _ _ (M6.free nq) upd_same ⟨u0, by omega, x0, by omega, y0, by omega, hz⟩ (M6.new nq)
end
end Gu
namespace Gu
open PySem PySem.Spec PyProof.Rows L2
/-! ### _law_tolds -/
structure Rec where
  l : Int
  h : Int
  t : Int
  z : Str
def Rec.vs (r : Rec) : List V := [.int r.l, .int r.h, .int r.t, .str r.z]
def Rec.ok (r : Rec) : Prop := Four r.l r.h r.t r.z
theorem Pot.ne {H : Hp} {p q : Addr} (h : Pot H p) (n : H q = none) : q ≠ p := fun e => by
  subst e
  obtain ⟨o, ho⟩ := h.some
  rw [n] at ho
  cases ho
theorem yes {σ : L2.St} {H : Hp} {Q : Bool → Hp → Prop} (h : Q true H) : tYes σ H Q := h
section
variable {P : Program} {w : World} {K : PySem.W.Frag} {mg : Str → Option Value} {base : Heap}
/-- told tuples: a list of them at D -/
structure ToldsAt (G : Hp) (D : Addr) (ps : List (Addr × Rec)) : Prop where
  ls : G D = some (.lst (ps.map fun q => V.ref q.1))
  tp : ∀ q ∈ ps, G q.1 = some (.tup q.2.vs) ∧ q.2.ok
def spTolds : Sp := fun vs H Q _ => ∃ (p : Addr), vs = [.ref p] ∧ Pot H p ∧ ∀ (D : Addr) (G : Hp) (ps : List (Addr × Rec)), H D = none → ToldsAt G D ps → (∀ q ∈ ps, H q.1 = none) → 1 ≤ ps.length → ps.length ≤ 4 → Ladled p H G → Q (.ref D) G
theorem cal_tolds (B : Bi mg) (D : At K mg "_law_tolds" s_law_tolds ps_law_tolds) (C_law_told : Cal P w K mg base 3 "_law_told" ps_law_told spTold) (C_law_one_of : Cal P w K mg base 2 "_law_one_of" ps_law_one_of (spOneOf K)) : Cal P w K mg base 4 "_law_tolds" ps_law_tolds spTolds := by
  refine D.cal sc_law_tolds (fun vs H Q E h => ?_) (fun f cdv A outer s H vs Q E hr h => ?_)
  · obtain ⟨p, rfl, _⟩ := h
    rfl
  · obtain ⟨p, rfl, hp, k⟩ := h
    refine ⟨_, (pss_one (ps_ret (pe_lc (own := [("_law_k", 1)]) (by rfl) sc_law_tolds.nd (pi_range1 (by rfl) B.range (pa_cons (pe_own C_law_one_of hr (by decide) (by rfl) (pa_cons (pv 0) (pa_cons (pe_lst (pa_cons pe_int (pa_cons pe_int (pa_cons pe_int (pa_cons pe_int (pa_cons pe_int (pa_cons pe_int pa_nil))))))) pa_nil))) pa_nil)) (blkOk_by (own := [("_law_k", 1)]) (N := ["_law_pot_here", "_law_k"]) (sc := defScope s_law_tolds) (by decide +kernel)) (fun _ _ _ _ _ => pg_name (i := 1) sc_law_tolds.nd rfl (.inl rfl)) (fun _ _ _ _ _ => pts_nil) (fun _ _ _ _ _ => (pe_own C_law_told hr (by decide) (by rfl) (pa_cons (pv 0) pa_nil)))))), ?_⟩
    refine ⟨_, rfl, by show 6 ≤ sizeLine; decide, fun q0 n0 => ?_⟩
    have L0 : Ladled p H (upd H q0 (.lst [.int 1, .int 1, .int 2, .int 2, .int 3, .int 4])) := .ofSame hp (same_new n0)
    refine ⟨p, L0.pot, .inl ⟨q0, _, rfl, .inl (.inl upd_same), hp.ne n0, by decide, by decide, fun v G1 hv L1 => ?_⟩⟩
    obtain ⟨n, e0, e1, rfl⟩ : ∃ n : Int, 1 ≤ n ∧ n ≤ 4 ∧ v = .int n := by
      have a : ∀ v ∈ ([.int 1, .int 1, .int 2, .int 2, .int 3, .int 4] : List V), ∃ n : Int, 1 ≤ n ∧ n ≤ 4 ∧ v = .int n := by
        intro v hv
        simp only [List.mem_cons, List.not_mem_nil, or_false] at hv
        rcases hv with rfl | rfl | rfl | rfl | rfl | rfl <;> exact ⟨_, by decide, by decide, rfl⟩
      exact a v hv
    have M1 : Ladled p H G1 := L0.trans L1
    refine ⟨n, rfl, by omega, by omega, fun D nD => lc_range (lo := 0) (n := n.toNat) (fun i J => ∃ ps : List (Addr × Rec), ps.length = i ∧ ToldsAt J D ps ∧ (∀ q ∈ ps, H q.1 = none) ∧ Ladled p H J)
      ⟨[], rfl, ⟨upd_same, (fun q hq => by cases hq)⟩, (fun q hq => by cases hq), M1.mut (M1.free nD) (M1.pot.ne nD)⟩ ?_ ?_⟩
    · rintro i J hi ⟨ps, rfl, T, nw, M⟩
      have hD : H D = none := M1.free nD
      refine ⟨rfl, yes (iteT ?_)⟩
      refine ⟨_, rfl, p, rfl, M.pot, fun q G l h t z nq eq ok L => ?_⟩
      have GD : G D = some (.lst (ps.map fun q => V.ref q.1)) := L.keep _ _ T.ls (hp.ne hD)
      refine ⟨_, GD, small1000 (by rw [List.length_map]; omega), ps ++ [(q, ⟨l, h, t, z⟩)], by rw [List.length_append]; rfl, ⟨?_, fun r hr => ?_⟩, fun r hr => ?_, (M.trans L).mut hD (hp.ne hD)⟩
      · rw [upd_same, List.map_append]
        rfl
      · rcases List.mem_append.mp hr with hr | hr
        · obtain ⟨g1, g2⟩ := T.tp r hr
          have ne1 : r.1 ≠ D := ne_of g1 T.ls (by intro z; cases z)
          have ne2 : r.1 ≠ p := hp.ne (nw r hr)
          exact ⟨by rw [upd_ne ne1]; exact L.keep _ _ g1 ne2, g2⟩
        · rw [List.mem_singleton.mp hr]
          have ne1 : q ≠ D := ne_of eq GD (by intro z; cases z)
          exact ⟨by rw [upd_ne ne1]; exact eq, ok⟩
      · rcases List.mem_append.mp hr with hr | hr
        · exact nw r hr
        · rw [List.mem_singleton.mp hr]
          exact M.free nq
    · rintro J ⟨ps, e, T, nw, M⟩
      exact k D J ps (M1.free nD) T nw (by omega) (by omega) M
end
end Gu
namespace Gu
open PySem PySem.Spec PyProof.Rows L2
/-! ### is_integer, is_text -/
/-- isinstance(x, T) is b -/
def Isa (K : PySem.W.Frag) (H : Hp) (x : V) (T : String) (b : Bool) : Prop := ∃ t, TyX K H x t ∧ PySem.W.kitOne K t (.type T) = some b
def signs : Str := ".0123456789abcdefghijklmnopqrstuvwxyz~"
def isTxt (z : Str) (m : Int) : Bool := decide ((z.length : Int) ≤ m) && z.cps.toList.all fun c => decide (c ∈ signs.cps.toList)
section
variable {P : Program} {w : World} {K : PySem.W.Frag} {mg : Str → Option Value} {base : Heap}
theorem Isa.int_int {H : Hp} {i : Int} : Isa K H (.int i) "int" true := ⟨_, .base (.int i), kit_ty (by decide +kernel)⟩
theorem Isa.int_bool {H : Hp} {i : Int} : Isa K H (.int i) "bool" false := ⟨_, .base (.int i), kit_ty (by decide +kernel)⟩
theorem Isa.str_str {H : Hp} {z : Str} : Isa K H (.str z) "str" true := ⟨_, .base (.str z), kit_ty (by decide +kernel)⟩
def spIsInteger (K : PySem.W.Frag) : Sp := fun vs H Q _ => ∃ (x : V) (a b : Int), vs = [x, .int a, .int b] ∧
  ((∃ v, x = .int v ∧ Q (.bl (decide (a ≤ v ∧ v ≤ b))) H) ∨ (Isa K H x "int" false ∧ Q (.bl false) H) ∨ (Isa K H x "int" true ∧ Isa K H x "bool" true ∧ Q (.bl false) H))
theorem cal_isInteger (B : Bi mg) (D : At K mg "is_integer" s_is_integer ps_is_integer) : Cal P w K mg base 1 "is_integer" ps_is_integer (spIsInteger K) := by
  refine D.cal sc_is_integer (fun vs H Q E h => ?_) (fun f cdv A outer s H vs Q E hr h => ?_)
  · obtain ⟨x, a, b, rfl, _⟩ := h
    rfl
  · obtain ⟨x, a, b, rfl, h⟩ := h
    refine ⟨_, (pss_cons (ps_if (PW.pt (pw_or (pt_not (pt_val (pe_callB call_isi (by rfl) B.isinstance (by decide +kernel) (pa_cons (pv 0) (pa_cons (pe_bltn (v := .ty "int") (by rfl) B.int (by decide +kernel) rfl) pa_nil))))) (pw_or1 (pt_val (pe_callB call_isi (by rfl) B.isinstance (by decide +kernel) (pa_cons (pv 0) (pa_cons (pe_bltn (v := .ty "bool") (by rfl) B.bool (by decide +kernel) rfl) pa_nil))))))) (pss_one (ps_ret pe_bl)) pss_nil)
      (pss_one (ps_ret (pe_chain op_le op_le (pv 1) (pv 0) (pv 2))))), ?_⟩
    rcases h with ⟨v, rfl, k⟩ | ⟨⟨t, i1, i2⟩, k⟩ | ⟨⟨t, i1, i2⟩, ⟨t', j1, j2⟩, k⟩
    · obtain ⟨t, i1, i2⟩ := Isa.int_int (K := K) (H := H) (i := v)
      obtain ⟨t', j1, j2⟩ := Isa.int_bool (K := K) (H := H) (i := v)
      refine ⟨_, rfl, _, _, t, _, true, rfl, .ty _, i1, i2, _, rfl, iteF ⟨_, rfl, _, _, t', _, false, rfl, .ty _, j1, j2, _, rfl, iteF ?_⟩⟩
      refine ⟨_, rfl, _, rfl, _, _, rfl, rfl, _, rfl, ?_⟩
      by_cases e1 : a ≤ v
      · rw [decide_eq_true e1]
        refine iteT ⟨_, rfl, _, _, rfl, rfl, ?_⟩
        have e : decide (a ≤ v ∧ v ≤ b) = decide (v ≤ b) := by simp only [e1, true_and]
        rw [e] at k
        exact k
      · rw [decide_eq_false e1]
        refine iteF ?_
        have e : decide (a ≤ v ∧ v ≤ b) = false := by simp only [e1, false_and, decide_false]
        rw [e] at k
        exact k
    · refine ⟨_, rfl, _, _, t, _, false, rfl, .ty _, i1, i2, _, rfl, iteT (iteT k)⟩
    · refine ⟨_, rfl, _, _, t, _, true, rfl, .ty _, i1, i2, _, rfl, iteF ⟨_, rfl, _, _, t', _, true, rfl, .ty _, j1, j2, _, rfl, iteT k⟩⟩
def spIsText (K : PySem.W.Frag) : Sp := fun vs H Q _ => ∃ (x : V) (m : Int), vs = [x, .int m] ∧
  ((∃ z : Str, x = .str z ∧ z.length ≤ 1000 ∧ ∀ G, Same H G → Q (.bl (isTxt z m)) G) ∨ (Isa K H x "str" false ∧ Q (.bl false) H))
theorem cal_isText (B : Bi mg) (D : At K mg "is_text" s_is_text ps_is_text) : Cal P w K mg base 1 "is_text" ps_is_text (spIsText K) := by
  refine D.cal sc_is_text (fun vs H Q E h => ?_) (fun f cdv A outer s H vs Q E hr h => ?_)
  · obtain ⟨x, m, rfl, _⟩ := h
    rfl
  · obtain ⟨x, m, rfl, h⟩ := h
    refine ⟨_, (pss_cons (ps_if (PW.pt (pw_or (pt_not (pt_val (pe_callB call_isi (by rfl) B.isinstance (by decide +kernel) (pa_cons (pv 0) (pa_cons (pe_bltn (v := .ty "str") (by rfl) B.str (by decide +kernel) rfl) pa_nil))))) (pw_or1 (pt_cmpR op_gt (pe_callB call_len (by rfl) B.len (by decide +kernel) (pa_cons (pv 0) pa_nil)) (pv 1) (nomark _))))) (pss_one (ps_ret pe_bl)) pss_nil)
      (pss_one (ps_ret (pe_callB (cr_all rfl) (by rfl) B.all (by decide +kernel) (pa_cons (pe_lc (own := [("character", 2)]) (by rfl) sc_is_text.nd (pi_str (pv 0)) (blkOk_by (own := [("character", 2)]) (N := ["value", "most", "character"]) (sc := defScope s_is_text) (by decide +kernel)) (fun _ _ _ _ _ => pg_name (i := 2) sc_is_text.nd rfl (.inl rfl)) (fun _ _ _ _ _ => pts_nil) (fun _ _ _ _ _ => (pe_cmpR op_in_sign (pv 2) (pe_cst B.SIGNS (by rfl)) (by rfl)))) pa_nil))))), ?_⟩
    rcases h with ⟨z, rfl, zl, k⟩ | ⟨⟨t, i1, i2⟩, k⟩
    · obtain ⟨t, i1, i2⟩ := Isa.str_str (K := K) (H := H) (z := z)
      refine ⟨_, rfl, _, _, t, _, true, rfl, .ty _, i1, i2, _, rfl, iteF ⟨_, rfl, _, _, rfl, ⟨Nat.le_of_lt (small1000 zl), rfl⟩, _, rfl, _, _, rfl, rfl, _, rfl, ite2 (fun e => ?_) (fun e => ?_)⟩⟩
      · have e1 : ¬ (z.length : Int) ≤ m := by
          have := of_decide_eq_true e
          omega
        have e2 : isTxt z m = false := by
          unfold isTxt
          rw [decide_eq_false e1, Bool.false_and]
        rw [e2] at k
        exact k H (Same.refl H)
      · have e1 : (z.length : Int) ≤ m := by
          have h2 : ¬ m < (z.length : Int) := fun h3 => e (decide_eq_true h3)
          omega
        refine ⟨_, rfl, z, rfl, fun D nD => lc_it walk_str (fun i J => Same H J ∧ J D = some (.lst (((z.cps.toList.take i).map fun c => decide (c ∈ signs.cps.toList)).map V.bl)))
          ⟨same_new nD, by rw [upd_same]; rfl⟩ (fun _ _ _ _ => trivial) ?_ ?_⟩
        · rintro i v J _ hi ⟨sJ, eJ⟩ ⟨rfl, c, hc, rfl⟩
          refine ⟨rfl, yes (iteT ?_)⟩
          refine ⟨_, rfl, c, signs, rfl, rfl, _, eJ, small1000 ?_, ?_, ?_⟩
          · rw [List.length_map, List.length_map, List.length_take]
            have : z.length = z.cps.toList.length := rfl
            omega
          · exact fun b o e => by
              rw [upd_ne (ne_of_none e nD)]
              exact sJ b o e
          · rw [upd_same]
            have hc' : z.cps.toList[i]? = some c := by
              rw [← Array.getElem?_toList] at hc
              exact hc
            rw [List.take_add_one, hc', List.map_append, List.map_append]
            rfl
        · rintro J ⟨sJ, eJ⟩
          refine ⟨D, ((z.cps.toList.take z.cps.size).map fun c => decide (c ∈ signs.cps.toList)), rfl, .inl (.inl eJ), ?_⟩
          have e2 : ((z.cps.toList.take z.cps.size).map fun c => decide (c ∈ signs.cps.toList)).all id = isTxt z m := by
            unfold isTxt
            rw [decide_eq_true e1, Bool.true_and, List.take_of_length_le (show z.cps.toList.length ≤ z.cps.size from Nat.le_refl _), List.all_map]
            rfl
          rw [e2]
          exact k J sJ
    · refine ⟨_, rfl, _, _, t, _, false, rfl, .ty _, i1, i2, _, rfl, iteT (iteT k)⟩
end
end Gu
namespace Gu
open PySem PySem.Spec PyProof.Rows L2
/-! ### is_tuple -/
theorem isaTupP {K : PySem.W.Frag} {H : Hp} {l : Addr} {xs : List V} (h : SqT K H l xs) : Isa K H (.ref l) "tuple" true := by
  rcases h with (h | ⟨o, h⟩) | ⟨o, its, n, e, c, _⟩
  · exact ⟨_, .base (.tup h), kit_ty (by decide +kernel)⟩
  · exact ⟨_, .fTuple h, kit_ty (by decide +kernel)⟩
  · exact ⟨_, .kTuple e c, kit_ty (by decide +kernel)⟩
section
variable {P : Program} {w : World} {K : PySem.W.Frag} {mg : Str → Option Value} {base : Heap} {C : Addr}
def spIsTuple (K : PySem.W.Frag) : Sp := fun vs H Q _ => ∃ (x : V) (a b : Int), vs = [x, .int a, .int b] ∧
  ((∃ (l : Addr) (xs : List V), x = .ref l ∧ SqT K H l xs ∧ Q (.bl (decide (a ≤ (xs.length : Int) ∧ (xs.length : Int) ≤ b))) H) ∨ (Isa K H x "tuple" false ∧ Q (.bl false) H))
theorem cal_isTuple (B : Bi mg) (D : At K mg "is_tuple" s_is_tuple ps_is_tuple) : Cal P w K mg base 1 "is_tuple" ps_is_tuple (spIsTuple K) := by
  refine D.cal sc_is_tuple (fun vs H Q E h => ?_) (fun f cdv A outer s H vs Q E hr h => ?_)
  · obtain ⟨x, a, b, rfl, _⟩ := h
    rfl
  · obtain ⟨x, a, b, rfl, h⟩ := h
    refine ⟨_, (pss_one (ps_ret (pe_and (pe_callB call_isi (by rfl) B.isinstance (by decide +kernel) (pa_cons (pv 0) (pa_cons (pe_bltn (v := .ty "tuple") (by rfl) B.tuple (by decide +kernel) rfl) pa_nil))) (pe_one (pe_chain op_le op_le (pv 1) (pe_callB call_len (by rfl) B.len (by decide +kernel) (pa_cons (pv 0) pa_nil)) (pv 2)))))), ?_⟩
    rcases h with ⟨l, xs, rfl, hT, k⟩ | ⟨⟨t, i1, i2⟩, k⟩
    · obtain ⟨t, i1, i2⟩ := isaTupP hT
      refine ⟨_, rfl, _, _, t, _, true, rfl, .ty _, i1, i2, _, rfl, iteT ?_⟩
      refine ⟨_, rfl, _, rfl, _, _, rfl, .inr ⟨_, hT, rfl⟩, _, _, rfl, rfl, _, rfl, ?_⟩
      by_cases e1 : a ≤ (xs.length : Int)
      · rw [decide_eq_true e1]
        refine iteT ⟨_, rfl, _, _, rfl, rfl, ?_⟩
        have e : decide (a ≤ (xs.length : Int) ∧ (xs.length : Int) ≤ b) = decide ((xs.length : Int) ≤ b) := by simp only [e1, true_and]
        rw [e] at k
        exact k
      · rw [decide_eq_false e1]
        refine iteF ?_
        have e : decide (a ≤ (xs.length : Int) ∧ (xs.length : Int) ≤ b) = false := by simp only [e1, false_and, decide_false]
        rw [e] at k
        exact k
    · exact ⟨_, rfl, _, _, t, _, false, rfl, .ty _, i1, i2, _, rfl, iteF k⟩
end
end Gu
namespace Gu
open PySem PySem.Spec PyProof.Rows L2
/-! ### the class Shortener, its __init__ -/
def flds (r : Rec) (b : Addr) : List (Str × V) := putF "told" (.ref b) (putF "mark" (.str r.z) (putF "tail" (.int r.t) (putF "head" (.int r.h) (putF "limit" (.int r.l) []))))
theorem flds_limit (r : Rec) (b : Addr) : (flds r b).lookup ("limit" : Str) = some (.int r.l) := by
  unfold flds
  rw [lookup_putF, if_neg (by decide +kernel), lookup_putF, if_neg (by decide +kernel), lookup_putF, if_neg (by decide +kernel), lookup_putF, if_neg (by decide +kernel), lookup_putF, if_pos rfl]
theorem flds_head (r : Rec) (b : Addr) : (flds r b).lookup ("head" : Str) = some (.int r.h) := by
  unfold flds
  rw [lookup_putF, if_neg (by decide +kernel), lookup_putF, if_neg (by decide +kernel), lookup_putF, if_neg (by decide +kernel), lookup_putF, if_pos rfl]
theorem flds_tail (r : Rec) (b : Addr) : (flds r b).lookup ("tail" : Str) = some (.int r.t) := by
  unfold flds
  rw [lookup_putF, if_neg (by decide +kernel), lookup_putF, if_neg (by decide +kernel), lookup_putF, if_pos rfl]
theorem flds_mark (r : Rec) (b : Addr) : (flds r b).lookup ("mark" : Str) = some (.str r.z) := by
  unfold flds
  rw [lookup_putF, if_neg (by decide +kernel), lookup_putF, if_pos rfl]
theorem flds_told (r : Rec) (b : Addr) : (flds r b).lookup ("told" : Str) = some (.ref b) := by
  unfold flds
  rw [lookup_putF, if_pos rfl]
/-- what a Shortener may be made of -/
structure Rec.fit (r : Rec) : Prop where
  l : 0 ≤ r.l ∧ r.l ≤ 40
  h : 0 ≤ r.h ∧ r.h ≤ 40
  t : 0 ≤ r.t ∧ r.t ≤ 40
  z : isTxt r.z 3 = true
theorem isTxt_len {z : Str} {m : Int} (h : isTxt z m = true) : (z.length : Int) ≤ m := by
  unfold isTxt at h
  rw [Bool.and_eq_true] at h
  exact of_decide_eq_true h.1
theorem Rec.ok.fit {r : Rec} (o : r.ok) : r.fit := by
  have a : ∀ y ∈ marks, isTxt y 3 = true := by decide +kernel
  exact ⟨⟨o.l0, o.l1⟩, ⟨o.h0, o.h1⟩, ⟨o.t0, o.t1⟩, a _ o.z⟩
/-- the class as the top has left it -/
structure ShC (K : PySem.W.Frag) (mg : Str → Option Value) (C : Addr) : Prop where
  cl : Cls K C
  nL : NoAttr K C "limit"
  nH : NoAttr K C "head"
  nT : NoAttr K C "tail"
  nM : NoAttr K C "mark"
  nD : NoAttr K C "told"
  g : mg "Shortener" = some (.ref C)
  ha : PySem.W.findIn K (.ref C) "__class__" = some (some (.builtin "object.__class__"))
  hn : PySem.W.specialIn K (.builtin "object.__class__") "__get__" = some (some (.builtin "getset_descriptor.__get__"))
  ht : PySem.W.takesIn K (.builtin "object.__class__") = some true
  hm : PySem.W.mroIn K C (.type "object") = some true
  kk : PySem.W.kitOne K (.ref C) (.ref C) = some true
structure InitAt (K : PySem.W.Frag) (C : Addr) : Prop where
  ex : ∃ (f : Addr) (fd : FuncData), Mk K C f ∧ Fun K "__init__" "Shortener.__init__" s_Shortener_init f fd ∧ Binds K fd ps_Shortener_init []
structure Mak (P : Program) (w : World) (K : PySem.W.Frag) (mg : Str → Option Value) (base : Heap) (k : Nat) (x : Str) (C : Addr) (sp : Sp) : Prop where
  ex : ∃ (f : Addr) (fd : FuncData) (ps : List Str), Mk K C f ∧ FnOk P w K mg base CX0 k f fd ps sp ∧ mg x = some (.ref C) ∧ Binds K fd ps []
section
variable {X : Cx} {k j : Nat} {x : Str} {C : Addr} {sp : Sp} {p pos : Pos} {e : Expr} {es : List Expr} {t : TA}
theorem pe_new (c : Mak X.prog X.w X.K X.mg X.base k x C sp) (hr : Room j X.A) (hk : k + 1 ≤ j) (hg : Gl X x) (ha : PA X (e :: es) t)
    (hdb : (x == ("__debug__" : Str)) = false := by decide) (he : starEach (e :: es) X.env = (false, eval e X.env) :: starEach es X.env := by rfl) (hpl : (backTo pos (starEach es X.env)).any (·.1) = false := by rfl) :
    PE X (.Call (.Name x p) (e :: es) [] pos) (tMake C sp [] E0 t) := by
  obtain ⟨f, fd, ps, M, F, hm, b⟩ := c.ex
  exact pe_make M F (hr.mono hk) hg hm b .nil pass0 ha hdb he hpl
end
section
variable {P : Program} {w : World} {K : PySem.W.Frag} {mg : Str → Option Value} {base : Heap} {C : Addr}
def spCheckMark : Sp := fun vs H Q _ => ∃ (z : Str), vs = [.str z] ∧ isTxt z 3 = true ∧ ∀ G, Same H G → Q .non G
theorem cal_checkMark (B : Bi mg) (D : At K mg "check_mark" s_check_mark ps_check_mark) (C_is_text : Cal P w K mg base 1 "is_text" ps_is_text (spIsText K)) : Cal P w K mg base 2 "check_mark" ps_check_mark spCheckMark := by
  refine D.cal sc_check_mark (fun vs H Q E h => ?_) (fun f cdv A outer s H vs Q E hr h => ?_)
  · obtain ⟨z, rfl, _⟩ := h
    rfl
  · obtain ⟨z, rfl, hz, k⟩ := h
    have zl := isTxt_len hz
    refine ⟨_, (pss_one (ps_if (pt_not (pt_val (pe_own C_is_text hr (by decide) (by rfl) (pa_cons (pv 0) (pa_cons (pe_cst B.MOST_MARK (by rfl)) pa_nil))))) pss_never pss_nil)), ?_⟩
    refine ⟨_, rfl, _, _, rfl, .inl ⟨z, rfl, by omega, fun G sG => ⟨_, rfl, ?_⟩⟩⟩
    rw [hz]
    exact iteF (k G sG)
def spInit (C : Addr) : Sp := fun vs H Q _ => ∃ (x dx : Addr) (r : Rec), vs = [.ref x, .int r.l, .int r.h, .int r.t, .str r.z] ∧ H x = some (.ins C dx []) ∧ r.fit ∧
  ∀ (b : Addr) (G : Hp), H b = none → G x = some (.ins C dx (flds r b)) → G b = some (.tup r.vs) → (∀ c o, H c = some o → c ≠ x → G c = some o) → Q .non G
theorem ok_init {f : Addr} {fd : FuncData} (B : Bi mg) (S : ShC K mg C) (F : Fun K "__init__" "Shortener.__init__" s_Shortener_init f fd) (C_is_integer : Cal P w K mg base 1 "is_integer" ps_is_integer (spIsInteger K)) (C_check_mark : Cal P w K mg base 2 "check_mark" ps_check_mark spCheckMark) : FnOk P w K mg base CX0 3 f fd ps_Shortener_init (spInit C) := by
  refine F.ok sc_Shortener_init (fun vs H Q E h => ?_) (fun cdv A outer s H vs Q E hr h => ?_)
  · obtain ⟨x, dx, r, rfl, _⟩ := h
    rfl
  · obtain ⟨x, dx, r, rfl, hx, fit, k⟩ := h
    refine ⟨_, (pss_cons (ps_for PassesOwn.never rfl (pi_tup (pe_tup (pa_cons (pv 1) (pa_cons (pv 2) (pa_cons (pv 3) pa_nil))))) (pg_name (i := 5) sc_Shortener_init.nd rfl (.inl rfl))
      (pss_one (ps_if (pt_not (pt_val (pe_own C_is_integer hr (by decide) (by rfl) (pa_cons (pv 5) (pa_cons pe_int (pa_cons (pe_cst B.MOST_SIGNS (by rfl)) pa_nil)))))) pss_never pss_nil)))
      (pss_cons (ps_expr (pe_own C_check_mark hr (by decide) (by rfl) (pa_cons (pv 4) pa_nil)))
      (pss_cons (ps_fld (pv 0) (pv 1) rfl)
      (pss_cons (ps_fld (pv 0) (pv 2) rfl)
      (pss_cons (ps_fld (pv 0) (pv 3) rfl)
      (pss_cons (ps_fld (pv 0) (pv 4) rfl)
      (pss_one (ps_fld (pv 0) (pe_tup (pa_cons (pv 1) (pa_cons (pv 2) (pa_cons (pv 3) (pa_cons (pv 4) pa_nil))))) rfl)))))))), ?_⟩
    refine ⟨_, rfl, _, rfl, _, rfl, by show 3 ≤ sizeLine; decide, fun T nT => ?_⟩
    have nxT : x ≠ T := ne_of_none hx nT
    have hxT : upd H T (.tup [.int r.l, .int r.h, .int r.t]) x = some (.ins C dx []) := by rw [upd_ne nxT]; exact hx
    refine ⟨T, rfl, ⟨_, .inl (.inl upd_same)⟩, for_tup (K := K) (a := T) (xs := [.int r.l, .int r.h, .int r.t]) (fun i σ J => ∃ u, σ = [some (.ref x), some (.int r.l), some (.int r.h), some (.int r.t), some (.str r.z), u] ∧ J = upd H T (.tup [.int r.l, .int r.h, .int r.t]))
      ⟨none, rfl, rfl⟩ (fun i σ J _ ⟨_, _, e⟩ => by rw [e]; exact .inl (.inl upd_same)) ?_ ?_⟩
    · rintro i v σ J hi ⟨u, rfl, rfl⟩
      obtain ⟨n, n0, n1, rfl⟩ : ∃ n : Int, 0 ≤ n ∧ n ≤ 40 ∧ v = .int n := by
        have hv := List.mem_of_getElem? hi
        simp only [List.mem_cons, List.not_mem_nil, or_false] at hv
        rcases hv with rfl | rfl | rfl
        · exact ⟨_, fit.l.1, fit.l.2, rfl⟩
        · exact ⟨_, fit.h.1, fit.h.2, rfl⟩
        · exact ⟨_, fit.t.1, fit.t.2, rfl⟩
      refine ⟨_, rfl, _, _, _, rfl, .inl ⟨_, rfl, _, rfl, ?_⟩⟩
      rw [decide_eq_true ⟨n0, n1⟩]
      exact iteF ⟨_, rfl, rfl⟩
    · rintro σ J ⟨u, rfl, rfl⟩
      refine ⟨_, rfl, _, rfl, fit.z, fun G sG => ?_⟩
      have g0 : G x = some (.ins C dx []) := sG _ _ hxT
      refine ⟨_, rfl, _, rfl, x, C, dx, [], rfl, g0, S.cl, S.nL, by decide, ?_⟩
      refine ⟨_, rfl, _, rfl, x, C, dx, _, rfl, upd_same, S.cl, S.nH, by exact Nat.lt_of_le_of_lt (length_putF _ _ _) (by decide), ?_⟩
      rw [upd_upd]
      refine ⟨_, rfl, _, rfl, x, C, dx, _, rfl, upd_same, S.cl, S.nT, by exact Nat.lt_of_le_of_lt (length_putF _ _ _) (Nat.lt_of_le_of_lt (Nat.succ_le_succ (length_putF _ _ _)) (by decide)), ?_⟩
      rw [upd_upd]
      refine ⟨_, rfl, _, rfl, x, C, dx, _, rfl, upd_same, S.cl, S.nM, by exact Nat.lt_of_le_of_lt (length_putF _ _ _) (Nat.lt_of_le_of_lt (Nat.succ_le_succ (Nat.le_trans (length_putF _ _ _) (Nat.succ_le_succ (length_putF _ _ _)))) (by decide)), ?_⟩
      rw [upd_upd]
      refine ⟨_, rfl, _, rfl, _, rfl, _, rfl, by show 4 ≤ sizeLine; decide, fun b nb => ?_⟩
      have nxb : x ≠ b := ne_of_none upd_same nb
      refine ⟨_, rfl, x, C, dx, _, rfl, (by rw [upd_ne nxb, upd_same]), S.cl, S.nD, by exact Nat.lt_of_le_of_lt (length_putF _ _ _) (Nat.lt_of_le_of_lt (Nat.succ_le_succ (Nat.le_trans (length_putF _ _ _) (Nat.succ_le_succ (Nat.le_trans (length_putF _ _ _) (Nat.succ_le_succ (length_putF _ _ _)))))) (by decide)), ?_⟩
      have nb1 : G b = none := by rw [upd_ne nxb.symm] at nb; exact nb
      have nb0 : H b = none := (same_new nT).free (sG.free nb1)
      refine k b _ nb0 upd_same (by rw [upd_ne nxb.symm, upd_same]; rfl) fun c o e nc => ?_
      rw [upd_ne nc, upd_ne (ne_of_none e nb0), upd_ne nc]
      exact sG _ _ (same_new nT _ _ e)
theorem mak_sh (B : Bi mg) (S : ShC K mg C) (D : InitAt K C) (C_is_integer : Cal P w K mg base 1 "is_integer" ps_is_integer (spIsInteger K)) (C_check_mark : Cal P w K mg base 2 "check_mark" ps_check_mark spCheckMark) : Mak P w K mg base 3 "Shortener" C (spInit C) := by
  obtain ⟨f, fd, M, F, b⟩ := D.ex
  exact ⟨f, fd, ps_Shortener_init, M, ok_init B S F C_is_integer C_check_mark, S.g, b⟩
end
end Gu
namespace PySem
open Sem (wp)
open AutoSeq1 (wpAny_loadPart')
theorem gu_new_enum (a : Addr) (vs : Array Value) (n : Nat) (dt : Option Addr) (sl : Array (Option Value)) : Meets (Builtin.«enumerate.__new__» ⟨[.type "enumerate", .ref a], []⟩) (fun _ R s =>
    s.heap.get? a = some ⟨.type "tuple", dt, .seq vs n, sl⟩ ∧ R (.ok (.ret (.ref (s.heap.push { cls := .type "tuple_iterator", data := .fields #[.ref a, .int 0 0] }).objs.size))) { s with heap := (s.heap.push { cls := .type "tuple_iterator", data := .fields #[.ref a, .int 0 0] }).push { cls := .type "enumerate", data := .fields #[.none, .bool false, .ref s.heap.objs.size, rawInt 0, .none, .none] } }) :=
  .of_wp fun prog w A R s h => by
    obtain ⟨s1, s2, s3, s4, s5⟩ := s
    obtain ⟨ha, h⟩ := h
    have sb := sub_enumerate
    have hT : Heap.IsTuple (Shared.heap ⟨s1, s2, s3, s4, s5⟩) a vs := ⟨_, ha, rfl, n, rfl⟩
    wp_walk using wpAny_loadPart' ha
    refine wpAny_stack_any fun fr => wpAny_pure ?_
    split
    · next c _ _ _ _ _ =>
      cases (c == Value.type "enumerate") <;> (wp_walk using wpAny_loadPart' ha, wpAny_pyIter_tuple hT; exact ⟨_, rfl, h⟩)
    · wp_walk using wpAny_loadPart' ha, wpAny_pyIter_tuple hT
      exact ⟨_, rfl, h⟩
section
variable {prog : Program} {w : World} {A : Around} {E : Value → Shared → Prop} {s : Shared}
theorem gu_call_enum {a : Addr} {vs : Array Value} {Q : Value → Shared → Prop} (hT : s.heap.IsTuple a vs)
    (h : ∀ g, IsEnum g (s.heap.objs.size + 1) s.heap.objs.size 0 .none → g.IsTupleIter s.heap.objs.size a 0 → (∀ b o, s.heap.get? b = some o → g.get? b = some o) → Q (.ref (s.heap.objs.size + 1)) { s with heap := g }) :
    wpAny (model prog w) A (call (.type "enumerate") [.ref a]) Q E s := by
  obtain ⟨⟨oc, od, dd, sl⟩, ha, hc, n, hd⟩ := hT
  cases (show oc = .type "tuple" from hc)
  cases (show dd = .seq vs n from hd)
  refine callType_new F.called_enumerate (by decide) (F.typeCall_enumerate_1 _) (F.newCall_enumerate_1 _) (fun o => F.args_object_init_2 o _) F.entry_enumerate_new (gu_new_enum a vs n od sl) ⟨ha, ?_⟩
  have z1 : (s.heap.push { cls := .type "tuple_iterator", data := .fields #[.ref a, .int 0 0] }).objs.size = s.heap.objs.size + 1 := Heap.size_push ..
  show _ ∧ _
  rw [z1]
  have en : IsEnum ((s.heap.push { cls := .type "tuple_iterator", data := .fields #[.ref a, .int 0 0] }).push { cls := .type "enumerate", data := .fields #[.none, .bool false, .ref s.heap.objs.size, rawInt 0, .none, .none] }) (s.heap.objs.size + 1) s.heap.objs.size 0 .none := by
    have q := Heap.get?_push_size (s.heap.push { cls := .type "tuple_iterator", data := .fields #[.ref a, .int 0 0] }) (o := { cls := .type "enumerate", data := .fields #[.none, .bool false, .ref s.heap.objs.size, rawInt 0, .none, .none] }) rfl
    rw [z1] at q
    exact q
  exact ⟨⟨_, en, rfl⟩, h _ en ⟨_, Heap.get?_push_of_some _ (Heap.get?_push_size _ rfl), rfl, rfl⟩ fun b o x => Heap.get?_push_of_some _ (Heap.get?_push_of_some _ x)⟩
end
end PySem
namespace Gu
open PySem PySem.Spec PyProof.Rows L2
/-- the tuple at a, each item in a new pair with its place -/
def EnT (K : PySem.W.Frag) (a : Addr) : It where
  go := fun i H => ∃ (xs : List V) (x : V), SqT K H a xs ∧ xs[i]? = some x
  yld := fun i H v G => ∃ T x, v = .ref T ∧ H T = none ∧ G = upd H T (.tup [.int (i : Nat), x]) ∧ ∀ xs, SqT K H a xs → xs[i]? = some x
  stop := fun i H => ∃ xs : List V, SqT K H a xs ∧ xs.length = i
theorem turn_enT {P : Program} {w : World} {K : PySem.W.Frag} {es : List Expr} {kk : Nat} {tp : Pos} (a e it : Addr) :
    Turn P w K (.Tuple es kk tp) (EnT K a) [e, it] e (fun i h => (∃ old, IsEnum h e it ((i : Nat) : Int) old) ∧ h.IsTupleIter it a i ∧ e ≠ it) where
  mem := List.mem_cons_self ..
  obj := fun i h st b hb => by
    obtain ⟨⟨old, he⟩, ⟨o, ho, hc, hd⟩, _⟩ := st
    simp only [List.mem_cons, List.not_mem_nil, or_false] at hb
    rcases hb with rfl | rfl
    · exact ⟨_, he, fun v q => nomatch q⟩
    · exact ⟨o, ho, fun v q => by rw [hd] at q; cases q⟩
  keep := fun i h g st k => by
    obtain ⟨⟨old, he⟩, hi, ne⟩ := st
    exact ⟨⟨old, k e (by simp) _ he⟩, hi.at fun o q => k it (by simp) o q, ne⟩
  item := by
    intro X hP hw hK hc i pins s σ H E I hf st hg
    subst hP hw hK
    obtain ⟨⟨old, he⟩, hit, ne⟩ := st
    obtain ⟨xs, x, hq, hx⟩ := hg
    obtain ⟨its, rv, tp, hz⟩ := I.tuple hq
    obtain ⟨u, hu, ru⟩ := rv.get hx
    have el : e < s.heap.objs.size := Heap.lt_size he
    have il : it < s.heap.objs.size := by
      obtain ⟨_, q, _⟩ := hit
      exact Heap.lt_size q
    have tp' : s.heap.IsTuple a its.toArray := tp
    have nai : a ≠ it := fun z => by
      obtain ⟨o1, g1, c1, _⟩ := tp'
      obtain ⟨o2, g2, c2, _⟩ := hit
      rw [z] at g1
      cases g1.symm.trans g2
      exact absurd (Value.type.inj (c1.symm.trans c2)) (by decide)
    have nea : e ≠ a := fun z => by
      obtain ⟨o1, g1, c1, _⟩ := tp'
      have g2 := he
      rw [z] at g2
      cases g1.symm.trans g2
      exact absurd (Value.type.inj c1) (by decide)
    have hd : X.A.in1.handled = none := I.ok.hd hc
    refine wpAny_pyNext_enum_itemD (Draws.tuple hd it a nai its.toArray) he ⟨hit, tp'⟩ (i := i) (by
      have := (List.getElem?_eq_some_iff.mp hu).1
      simpa using this) ne (by simp [ne, nea]) fun y g tk hy ho st' hT hsz hk => ?_
    have ey : y = u := by
      have : its[i]? = some y := by simpa using hy
      rw [hu] at this
      exact (Option.some.inj this).symm
    subst ey
    refine ⟨_, rfl, wpAny_letOwnedTupleGo_enum (s := { s with heap := g, toks := tk + 1 }) ho fun g2 he' sb => ?_⟩
    have hT2 : g2.get? s.heap.objs.size = some { cls := .type "tuple", data := .seq #[.int i tk, y] } := (sb.2 _ (Nat.ne_of_gt el)).trans hT
    have nw : ObjOk X.prog X.w (upd H s.heap.objs.size (.tup [.int (i : Nat), x])) g2 s.heap.objs.size (.tup [.int (i : Nat), x]) := ⟨by show 2 ≤ sizeLine; decide, [.int i tk, y], .cons ⟨_, rfl⟩ (.cons ru .nil), ⟨_, hT2, rfl, _, rfl⟩⟩
    have I1 : Inv X pins σ (upd H s.heap.objs.size (.tup [.int (i : Nat), x])) { s with heap := g2, toks := tk + 1 } :=
      I.turnedNew (ch := [e, it]) (fun b ob hb q => (sb.2 b (fun z => hb (by simp [z]))).trans (hk b ob (fun z => hb (by simp [z])) (fun z => hb (by simp [z])) q)) hf (Nat.le_refl _) nw
    refine ⟨.ref s.heap.objs.size, _, I1, rfl, ⟨_, x, rfl, I.hok.fresh (Nat.le_refl _), rfl, fun ys hy => by rw [I.tuple_inj hy hq]; exact hx⟩, ⟨⟨y, ?_⟩, st'.1.at fun o q => (sb.2 it (Ne.symm ne)).trans q, ne⟩, fun b hb => ?_⟩
    · rw [show ((i + 1 : Nat) : Int) = (i : Int) + 1 by omega]
      exact he'
    · have hb' : b < s.heap.objs.size := by
        simp only [List.mem_cons, List.not_mem_nil, or_false] at hb
        rcases hb with rfl | rfl
        · exact el
        · exact il
      rw [upd_ne (Nat.ne_of_lt hb')]
      exact (hf b hb).1
  done := by
    intro X hP hw hK hc i pins s σ H E I hf st hg
    subst hP hw hK
    obtain ⟨⟨old, he⟩, hit, ne⟩ := st
    obtain ⟨xs, hq, hx⟩ := hg
    obtain ⟨its, rv, tp, hz⟩ := I.tuple hq
    have tp' : s.heap.IsTuple a its.toArray := tp
    have nai : a ≠ it := fun z => by
      obtain ⟨o1, g1, c1, _⟩ := tp'
      obtain ⟨o2, g2, c2, _⟩ := hit
      rw [z] at g1
      cases g1.symm.trans g2
      exact absurd (Value.type.inj (c1.symm.trans c2)) (by decide)
    have hd : X.A.in1.handled = none := I.ok.hd hc
    have en : its.toArray.size = i := by
      have := rv.length
      simp only [List.size_toArray]
      omega
    obtain ⟨f0, f1, f2, f3, f4, f5⟩ := hf it (by simp)
    exact wpAny_pyNext_enum_endD (Draws.tuple hd it a nai its.toArray) he ⟨by rw [en]; exact hit, tp'⟩ fun g eb => ⟨rfl, I.turned (t' := s.toks) (fun b o hb q => eb b o hb q) f0 f1 f3 f4 f5⟩
  self := fun A i s Q E st h => by
    obtain ⟨⟨_, he⟩, _⟩ := st
    exact wpAny_pyIter_enum he h
def iEnT (K : PySem.W.Frag) (ta : TA) : TI := fun σ H R => ta σ H fun vs G => ∃ a xs, vs = [.ref a] ∧ SqT K G a xs ∧ R (EnT K a) G
theorem pi_enT {X : Cx} {e : Expr} {ta : TA} {p pos tp : Pos} {es : List Expr} {kk : Nat} (hg : Gl X "enumerate") (hm : X.mg "enumerate" = none) (ha : PA X [e] ta) (hs : starEach [e] X.env = [(false, eval e X.env)] := by rfl) :
    PI X (.Tuple es kk tp) (.Call (.Name "enumerate" p) [e] [] pos) (iEnT X.K ta) := by
  refine ⟨fun pins s σ H R I h => ?_⟩
  refine Call_ (ld_blt I hg hm boot_enumerate (PyProof.Rows.callWith_type1 (thn (ha.run pos pins s σ H _ I h) fun us s1 ⟨vs, G, I1, r1, q1⟩ => ?_) hs rfl))
  obtain ⟨a, xs, ex, hq, q⟩ := q1
  subst ex
  cases r1 with
  | cons r rr =>
    cases rr
    cases r
    obtain ⟨its, rv, tq, hz⟩ := I1.tuple hq
    refine gu_call_enum (show s1.heap.IsTuple a its.toArray from tq) fun g he hit hk => wpAny_pyIter_enum he ?_
    have I2 : Inv X pins σ G { s1 with heap := g } := I1.kept (t' := s1.toks) hk
    refine ⟨s1.heap.objs.size + 1, [s1.heap.objs.size + 1, s1.heap.objs.size], _, _, G, rfl, I2, turn_enT a (s1.heap.objs.size + 1) s1.heap.objs.size, ⟨⟨.none, he⟩, hit, Nat.succ_ne_self _⟩, fun b hb => ?_, q⟩
    have le : s1.heap.objs.size ≤ b := by
      simp only [List.mem_cons, List.not_mem_nil, or_false] at hb
      rcases hb with rfl | rfl
      · exact Nat.le_add_right _ _
      · exact Nat.le_refl _
    exact I1.fpOk le (I1.hok.fresh le)
/-- the walk of such a loop: a new pair each turn -/
theorem walk_enT {K : PySem.W.Frag} {a : Addr} {xs : List V} : Walk (EnT K a) xs.length (fun H => SqT K H a xs) (fun i H v G => ∃ T x, xs[i]? = some x ∧ v = .ref T ∧ H T = none ∧ G = upd H T (.tup [.int (i : Nat), x])) where
  goes := fun i H hi h => ⟨xs, xs[i], h, List.getElem?_eq_getElem hi⟩
  stops := fun H h => ⟨xs, h, rfl⟩
  yields := fun i H v G hi h ⟨T, x, e1, e2, e3, e4⟩ => ⟨T, x, e4 xs h, e1, e2, e3⟩
end Gu
namespace Gu
open PySem PySem.Spec PyProof.Rows L2
/-! ### what is cut, as lists -/
def cut {α : Type} (l h t : Nat) (m xs : List α) : List α := if xs.length ≤ l then xs else xs.take h ++ m ++ xs.drop (xs.length - t)
theorem cut_front {α : Type} (xs : List α) {h : Int} (h0 : 0 ≤ h) : (xs.drop (HT.sIx xs.length 0 none)).take (HT.sIx xs.length xs.length (some h) - HT.sIx xs.length 0 none) = xs.take h.toNat := by
  obtain ⟨k, rfl⟩ := Int.eq_ofNat_of_zero_le h0
  rw [HT.sIx_none, HT.sIx_nat, List.drop_zero, Nat.sub_zero, Int.toNat_natCast, List.take_eq_take_iff]
  omega
theorem cut_back {α : Type} (xs : List α) {h : Int} (h0 : 0 ≤ h) : (xs.drop (HT.sIx xs.length 0 (some h))).take (HT.sIx xs.length xs.length none - HT.sIx xs.length 0 (some h)) = xs.drop h.toNat := by
  obtain ⟨k, rfl⟩ := Int.eq_ofNat_of_zero_le h0
  rw [HT.sIx_none, HT.sIx_nat, Int.toNat_natCast]
  rw [List.take_of_length_le (by rw [List.length_drop]; omega)]
  by_cases e : k ≤ xs.length
  · rw [Nat.min_eq_left e]
  · rw [Nat.min_eq_right (by omega), List.drop_length, List.drop_eq_nil_of_le (by omega)]
theorem cut_length {α : Type} {l h t : Nat} {m xs : List α} : (cut l h t m xs).length ≤ max xs.length (h + m.length + t) := by
  unfold cut
  split
  · omega
  · rw [List.length_append, List.length_append, List.length_take, List.length_drop]
    omega
theorem app_cps (a b : Str) : (a ++ b).cps.toList = a.cps.toList ++ b.cps.toList := by
  show (a.cps ++ b.cps).toList = _
  rw [Array.toList_append]
def Rec.cut (r : Rec) (xs : List Nat) : List Nat := Gu.cut r.l.toNat r.h.toNat r.t.toNat r.z.cps.toList xs
def cuts (rs : List Rec) (xs : List Nat) : List Nat := rs.foldl (fun acc r => r.cut acc) xs
theorem Rec.fit.zl {r : Rec} (f : r.fit) : r.z.cps.toList.length ≤ 3 := by
  have h := isTxt_len f.z
  have e : r.z.length = r.z.cps.toList.length := rfl
  omega
theorem Rec.fit.cut_len {r : Rec} (f : r.fit) {xs : List Nat} (h : xs.length ≤ 200) : (r.cut xs).length ≤ 200 := by
  have a : (r.cut xs).length ≤ _ := cut_length
  have b := f.zl
  have c := f.h
  have d := f.t
  omega
/-! ### shorteners and rows in the heap -/
def ShAt (C : Addr) (H : Hp) (x : Addr) (r : Rec) : Prop := ∃ dx b, H x = some (.ins C dx (flds r b)) ∧ H b = some (.tup r.vs)
structure RowAt (C : Addr) (H : Hp) (a : Addr) (rs : List (Addr × Rec)) : Prop where
  tp : H a = some (.tup (rs.map fun q => V.ref q.1))
  sh : ∀ q ∈ rs, ShAt C H q.1 q.2 ∧ q.2.fit
theorem ShAt.same {C : Addr} {H G : Hp} {x : Addr} {r : Rec} (s : Same H G) (h : ShAt C H x r) : ShAt C G x r := by
  obtain ⟨dx, b, h1, h2⟩ := h
  exact ⟨dx, b, s _ _ h1, s _ _ h2⟩
theorem RowAt.same {C : Addr} {H G : Hp} {a : Addr} {rs : List (Addr × Rec)} (s : Same H G) (h : RowAt C H a rs) : RowAt C G a rs := ⟨s _ _ h.tp, fun q hq => ⟨(h.sh q hq).1.same s, (h.sh q hq).2⟩⟩
section
variable {P : Program} {w : World} {K : PySem.W.Frag} {mg : Str → Option Value} {base : Heap} {C : Addr}
/-! ### check_row, check_text -/
def spCheckRow (C : Addr) : Sp := fun vs H Q _ => ∃ (a : Addr) (rs : List (Addr × Rec)), vs = [.ref a] ∧ RowAt C H a rs ∧ 1 ≤ rs.length ∧ rs.length ≤ 4 ∧ ∀ G, Same H G → Q .non G
theorem cal_checkRow (B : Bi mg) (S : ShC K mg C) (D : At K mg "check_row" s_check_row ps_check_row) (C_is_tuple : Cal P w K mg base 1 "is_tuple" ps_is_tuple (spIsTuple K)) : Cal P w K mg base 2 "check_row" ps_check_row (spCheckRow C) := by
  refine D.cal sc_check_row (fun vs H Q E h => ?_) (fun f cdv A outer s H vs Q E hr h => ?_)
  · obtain ⟨a, rs, rfl, _⟩ := h
    rfl
  · obtain ⟨a, rs, rfl, hR, l1, l4, k⟩ := h
    refine ⟨_, (pss_cons (ps_if (pt_not (pt_val (pe_own C_is_tuple hr (by decide) (by rfl) (pa_cons (pv 0) (pa_cons pe_int (pa_cons (pe_cst B.MOST_ROW (by rfl)) pa_nil)))))) pss_never pss_nil)
      (pss_one (ps_for PassesOwn.never rfl (pi_enT (by rfl) B.enumerate (pa_cons (pv 0) pa_nil)) (pg_tup rfl (pgs_cons (pg_name (i := 1) sc_check_row.nd rfl (.inl rfl)) (pgs_cons (pg_name (i := 2) sc_check_row.nd rfl (.inl rfl)) pgs_nil)))
      (pss_one (ps_if (pt_not (pt_val (pe_callB call_isi (by rfl) B.isinstance (by decide +kernel) (pa_cons (pv 2) (pa_cons (pe_glob (v := .ref C) (by rfl) S.g rfl) pa_nil))))) pss_never pss_nil))))), ?_⟩
    refine ⟨_, rfl, _, _, _, rfl, .inl ⟨a, _, rfl, .inl (.inl hR.tp), _, rfl, ?_⟩⟩
    rw [decide_eq_true (show (1 : Int) ≤ ((rs.map fun q => V.ref q.1).length : Int) ∧ ((rs.map fun q => V.ref q.1).length : Int) ≤ 4 by rw [List.length_map]; omega)]
    refine iteF ⟨_, rfl, a, _, rfl, .inl (.inl hR.tp), for_it walk_enT (fun i σ J => ∃ u v, σ = [some (.ref a), u, v] ∧ Same H J) ⟨none, none, rfl, Same.refl H⟩ (fun i σ J _ ⟨_, _, _, sJ⟩ => .inl (.inl (sJ _ _ hR.tp))) ?_ ?_⟩
    · rintro i v σ J J1 hi ⟨u, v2, rfl, sJ⟩ ⟨T, x, hx, rfl, nT, rfl⟩
      obtain ⟨q, hq, rfl⟩ : ∃ q ∈ rs, x = .ref q.1 := by
        obtain ⟨q, h1, h2⟩ := List.mem_map.mp (List.mem_of_getElem? hx)
        exact ⟨q, h1, h2.symm⟩
      have sT : Same H (upd J T (.tup [.int (i : Nat), .ref q.1])) := sJ.trans (same_new nT)
      obtain ⟨dx, b, e1, _⟩ := ((hR.sh q hq).1).same sT
      refine ⟨T, _, rfl, .inl (.inl upd_same), rfl, _, _, rfl, _, _, rfl, rfl, ?_⟩
      refine ⟨_, rfl, _, _, _, _, true, rfl, .own C, .base (.ins e1 S.cl S.ha S.hn S.ht S.hm), S.kk, _, rfl, iteF ⟨_, _, rfl, sT⟩⟩
    · rintro σ J ⟨u, v, rfl, sJ⟩
      exact k J sJ
def spCheckText : Sp := fun vs H Q _ => ∃ (z : Str), vs = [.str z] ∧ isTxt z 200 = true ∧ ∀ G, Same H G → Q .non G
/-! ### shortened: of a text -/
def spShortS (C : Addr) : Sp := fun vs H Q _ => ∃ (x : Addr) (r : Rec) (z : Str), vs = [.ref x, .str z, .str r.z] ∧ ShAt C H x r ∧ r.fit ∧ z.length ≤ 1000 ∧ ∀ y : Str, y.cps.toList = r.cut z.cps.toList → Q (.str y) H
theorem cal_shortS (B : Bi mg) (S : ShC K mg C) (D : At K mg "shortened" s_shortened ps_shortened) : Cal P w K mg base 1 "shortened" ps_shortened (spShortS C) := by
  refine D.cal sc_shortened (fun vs H Q E h => ?_) (fun f cdv A outer s H vs Q E hr h => ?_)
  · obtain ⟨x, r, z, rfl, _⟩ := h
    rfl
  · obtain ⟨x, r, z, rfl, ⟨dx, b, hx, _⟩, fit, zl, k⟩ := h
    have ez : z.length = z.cps.toList.length := rfl
    have zs : z.length ≤ sizeLine := Nat.le_of_lt (small1000 zl)
    have f1 := fit.l
    have f2 := fit.h
    have f3 := fit.t
    have f4 := fit.zl
    refine ⟨_, (pss_cons (ps_if (pt_cmpR op_le (pe_callB call_len (by rfl) B.len (by decide +kernel) (pa_cons (pv 1) pa_nil)) (pe_fld (pv 0) rfl) (nomark _)) (pss_one (ps_ret (pv 1))) pss_nil)
      (pss_cons (ps_set (i := 3) sc_shortened.nd rfl (.inl rfl) (pe_callB (call_max2 rfl) (by rfl) B.max (by decide +kernel) (pa_cons pe_int (pa_cons (pe_op op_sub (pe_callB call_len (by rfl) B.len (by decide +kernel) (pa_cons (pv 1) pa_nil)) (pe_fld (pv 0) rfl)) pa_nil))))
      (pss_one (ps_ret (pe_op op_add_str (pe_op op_add_str (pe_slice sl_str (pv 1) po_none (po_some (pe_fld (pv 0) rfl))) (pv 2)) (pe_slice sl_str (pv 1) (po_some (pv 3)) po_none)))))), ?_⟩
    refine ⟨_, rfl, _, _, rfl, ⟨zs, rfl⟩, _, rfl, x, C, dx, _, _, rfl, hx, S.cl, S.nL, flds_limit _ _, _, _, rfl, rfl, _, rfl, ite2 (fun e => ?_) (fun e => ?_)⟩
    · have e1 := of_decide_eq_true e
      refine ⟨_, rfl, k z ?_⟩
      unfold Rec.cut cut
      rw [if_pos (by omega)]
    · have e1 : ¬ (z.length : Int) ≤ r.l := fun h => e (decide_eq_true h)
      refine ⟨_, rfl, _, _, rfl, ⟨zs, rfl⟩, _, rfl, x, C, dx, _, _, rfl, hx, S.cl, S.nT, flds_tail _ _, _, _, rfl, rfl, _, _, rfl, ?_⟩
      refine ⟨_, rfl, _, rfl, x, C, dx, _, _, rfl, hx, S.cl, S.nH, flds_head _ _, _, rfl, z, rfl, zs, _, rfl, _, _, rfl, rfl, ?_, _, rfl, _, rfl, _, rfl, z, rfl, zs, _, _, rfl, rfl, ?_, k _ ?_⟩
      · have a := cutS_length z none (some r.h)
        have b : r.z.length = r.z.cps.toList.length := rfl
        exact Nat.le_of_lt (Nat.lt_of_le_of_lt (show _ ≤ 2000 by omega) (by decide))
      · have a := cutS_length z none (some r.h)
        have b : r.z.length = r.z.cps.toList.length := rfl
        have c := cutS_length z (some (if (z.length : Int) - r.t > 0 then (z.length : Int) - r.t else 0)) none
        have d : (cutS z none (some r.h) ++ r.z).length = (cutS z none (some r.h)).length + r.z.length := by
          show (cutS z none (some r.h) ++ r.z).cps.toList.length = _
          rw [app_cps, List.length_append]
          rfl
        exact Nat.le_of_lt (Nat.lt_of_le_of_lt (show _ ≤ 4000 by omega) (by decide))
      · rw [app_cps, app_cps]
        have a : (cutS z none (some r.h)).cps.toList = z.cps.toList.take r.h.toNat := by
          show ((z.cps.toList.drop _).take _).toArray.toList = _
          rw [List.toList_toArray]
          exact cut_front z.cps.toList f2.1
        have c : (cutS z (some (if (z.length : Int) - r.t > 0 then (z.length : Int) - r.t else 0)) none).cps.toList = z.cps.toList.drop (z.cps.toList.length - r.t.toNat) := by
          show ((z.cps.toList.drop _).take _).toArray.toList = _
          rw [List.toList_toArray]
          have q := cut_back z.cps.toList (h := if (z.length : Int) - r.t > 0 then (z.length : Int) - r.t else 0) (by split <;> omega)
          have n : (if (z.length : Int) - r.t > 0 then (z.length : Int) - r.t else 0).toNat = z.cps.toList.length - r.t.toNat := by split <;> omega
          rw [n] at q
          exact q
        rw [a, c]
        unfold Rec.cut cut
        rw [if_neg (show ¬ z.cps.toList.length ≤ r.l.toNat by omega)]
/-! ### shown_by, show -/
theorem Rec.fit.cut_lenW {r : Rec} (f : r.fit) {xs : List Nat} (h : xs.length ≤ 600) : (r.cut xs).length ≤ 600 := by
  have a : (r.cut xs).length ≤ _ := cut_length
  have b := f.zl
  have c := f.h
  have d := f.t
  omega
def spShownBy (C : Addr) : Sp := fun vs H Q _ => ∃ (a : Addr) (rs : List (Addr × Rec)) (z : Str), vs = [.ref a, .str z] ∧ RowAt C H a rs ∧ z.cps.toList.length ≤ 600 ∧ ∀ (y : Str), y.cps.toList = cuts (rs.map (·.2)) z.cps.toList → Q (.str y) H
theorem cal_shownBy (B : Bi mg) (S : ShC K mg C) (D : At K mg "shown_by" s_shown_by ps_shown_by) (C_shortened : Cal P w K mg base 1 "shortened" ps_shortened (spShortS C)) : Cal P w K mg base 2 "shown_by" ps_shown_by (spShownBy C) := by
  refine D.cal sc_shown_by (fun vs H Q E h => ?_) (fun f cdv A outer s H vs Q E hr h => ?_)
  · obtain ⟨a, rs, z, rfl, _⟩ := h
    rfl
  · obtain ⟨a, rs, z, rfl, R2, zl, k⟩ := h
    refine ⟨_, (pss_cons (ps_set (i := 2) sc_shown_by.nd rfl (.inl rfl) (pv 1))
      (pss_cons (ps_for PassesOwn.never rfl (pi_tup (pv 0)) (pg_name (i := 3) sc_shown_by.nd rfl (.inl rfl))
      (pss_one (ps_set (i := 2) sc_shown_by.nd rfl (.inl rfl) (pe_own C_shortened hr (by decide) (by rfl) (pa_cons (pv 3) (pa_cons (pv 2) (pa_cons (pe_fld (pv 3) rfl) pa_nil)))))))
      (pss_one (ps_ret (pv 2))))), ?_⟩
    refine ⟨_, rfl, _, rfl, a, rfl, ⟨_, .inl (.inl R2.tp)⟩, for_tup (K := K) (a := a) (xs := rs.map fun q => V.ref q.1) (fun i σ J => ∃ (y : Str) (u : Option V), σ = [some (.ref a), some (.str z), some (.str y), u] ∧ J = H ∧ y.cps.toList = cuts ((rs.take i).map (·.2)) z.cps.toList ∧ y.cps.toList.length ≤ 600)
      ⟨z, none, rfl, rfl, rfl, zl⟩ (fun i σ J _ ⟨_, _, _, e, _⟩ => by rw [e]; exact .inl (.inl R2.tp)) ?_ ?_⟩
    · rintro i v σ J hi ⟨y, u, rfl, rfl, ey, ly⟩
      rw [List.getElem?_map] at hi
      cases hq : rs[i]? with
      | none =>
        rw [hq] at hi
        cases hi
      | some q =>
        rw [hq] at hi
        cases hi
        have mq : q ∈ rs := List.mem_of_getElem? hq
        obtain ⟨sq, fq⟩ := R2.sh q mq
        obtain ⟨dx, b, e1, e2⟩ := id sq
        have lz : y.length = y.cps.toList.length := rfl
        refine ⟨_, rfl, _, rfl, _, rfl, q.1, C, dx, _, _, rfl, e1, S.cl, S.nM, flds_mark _ _, q.1, q.2, y, rfl, sq, fq, by omega, fun y2 h2 => ⟨y2, _, rfl, rfl, ?_, ?_⟩⟩
        · rw [h2, ey, List.take_add_one, hq]
          unfold cuts
          rw [List.map_append, List.foldl_append]
          rfl
        · rw [h2]
          exact fq.cut_lenW ly
    · rintro σ J ⟨y, u, rfl, rfl, ey, ly⟩
      rw [List.length_map, List.take_length] at ey
      exact ⟨_, rfl, k y ey⟩
def spShow (C : Addr) : Sp := fun vs H Q _ => ∃ (a : Addr) (rs : List (Addr × Rec)) (z : Str), vs = [.ref a, .str z] ∧ RowAt C H a rs ∧ 1 ≤ rs.length ∧ rs.length ≤ 4 ∧ isTxt z 200 = true ∧ ∀ (y : Str) (G : Hp), Same H G → y.cps.toList = cuts (rs.map (·.2)) z.cps.toList → Q (.str y) G
end
end Gu
namespace Gu
open PySem PySem.Spec PyProof.Rows L2
/-! ### texts of single signs -/
def one (c : Nat) : Str := ⟨#[c]⟩
def ones (cs : List Nat) : List V := cs.map fun c => V.str (one c)
theorem join_ones : ∀ cs : List Nat, (Str.join ⟨#[]⟩ (cs.map one)).cps.toList = cs
  | [] => rfl
  | c :: r => by
    rw [List.map_cons, join_nil_cons, app_cps, join_ones r]
    rfl
theorem tjoin_ones (cs : List Nat) : (Txt.join "" (cs.map one)).cps.toList = cs := by
  have e : (("" : String) : Str) = ⟨#[]⟩ := by decide +kernel
  show (Builtin.Str.glued _ _).cps.toList = cs
  rw [e, StrLaws.glued_eq_join]
  exact join_ones cs
theorem ones_len (cs : List Nat) : ((cs.map one).map (·.length)).sum = cs.length := by
  induction cs with
  | nil => rfl
  | cons c r ih =>
    rw [List.map_cons, List.map_cons, List.sum_cons, ih]
    show 1 + r.length = r.length + 1
    omega
theorem ones_map (cs : List Nat) : ones cs = (cs.map one).map V.str := by
  unfold ones
  rw [List.map_map]
  rfl
def cutsV (rs : List Rec) (xs : List V) : List V := rs.foldl (fun acc r => cut r.l.toNat r.h.toNat r.t.toNat (ones r.z.cps.toList) acc) xs
theorem cut_map {α β : Type} (f : α → β) (l h t : Nat) (m xs : List α) : cut l h t (m.map f) (xs.map f) = (cut l h t m xs).map f := by
  unfold cut
  rw [List.length_map]
  split
  · rfl
  · rw [List.map_append, List.map_append, List.map_take, List.map_drop]
theorem cutsV_ones : ∀ (rs : List Rec) (cs : List Nat), cutsV rs (ones cs) = ones (cuts rs cs)
  | [], _ => rfl
  | r :: rs, cs => by
    show cutsV rs (cut r.l.toNat r.h.toNat r.t.toNat (ones r.z.cps.toList) (ones cs)) = ones (cuts rs (r.cut cs))
    unfold ones
    rw [cut_map]
    exact cutsV_ones rs (r.cut cs)
theorem cuts_len : ∀ (rs : List Rec) {xs : List Nat}, (∀ r ∈ rs, r.fit) → xs.length ≤ 200 → (cuts rs xs).length ≤ 200
  | [], _, _, h => h
  | r :: rs, xs, hf, h => cuts_len rs (xs := r.cut xs) (fun q hq => hf q (List.mem_cons_of_mem _ hq)) ((hf r (List.mem_cons_self ..)).cut_len h)
theorem ShAt.list {C : Addr} {H : Hp} {x M : Addr} {r : Rec} {acc ys : List V} (h : ShAt C H x r) (e : H M = some (.lst acc)) : ShAt C (upd H M (.lst ys)) x r := by
  obtain ⟨dx, b, h1, h2⟩ := h
  exact ⟨dx, b, by rw [upd_ne (ne_of h1 e (by intro z; cases z))]; exact h1, by rw [upd_ne (ne_of h2 e (by intro z; cases z))]; exact h2⟩
theorem ToldsAt.same {H G : Hp} {D : Addr} {ps : List (Addr × Rec)} (s : Same H G) (h : ToldsAt H D ps) : ToldsAt G D ps := ⟨s _ _ h.ls, fun q hq => ⟨s _ _ (h.tp q hq).1, (h.tp q hq).2⟩⟩
section
variable {P : Program} {w : World} {K : PySem.W.Frag} {mg : Str → Option Value} {base : Heap} {C : Addr}
/-! ### _law_made -/
def spMade (C : Addr) : Sp := fun vs H Q _ => ∃ (D : Addr) (ps : List (Addr × Rec)), vs = [.ref D] ∧ ToldsAt H D ps ∧ ps.length ≤ 4 ∧ ∀ (a : Addr) (G : Hp) (rs : List (Addr × Rec)), H a = none → RowAt C G a rs → rs.map (·.2) = ps.map (·.2) → Same H G → Q (.ref a) G
theorem cal_made (B : Bi mg) (D : At K mg "_law_made" s_law_made ps_law_made) (M_sh : Mak P w K mg base 3 "Shortener" C (spInit C)) : Cal P w K mg base 5 "_law_made" ps_law_made (spMade C) := by
  refine D.cal sc_law_made (fun vs H Q E h => ?_) (fun f cdv A outer s H vs Q E hr h => ?_)
  · obtain ⟨D, ps, rfl, _⟩ := h
    rfl
  · obtain ⟨D, ps, rfl, hT, l4, k⟩ := h
    refine ⟨_, (pss_one (ps_ret (pe_callTy call_tuple_of (by rfl) B.tuple (by decide +kernel) (pa_cons (pe_lc (g := gTup K 4 (gCons (gName 1) (gCons (gName 2) (gCons (gName 3) (gCons (gName 4) gNil))))) (own := [("_law_a", 1), ("_law_b", 2), ("_law_c", 3), ("_law_d", 4)]) (by rfl) sc_law_made.nd (pi_list (pv 0)) (blkOk_by (own := [("_law_a", 1), ("_law_b", 2), ("_law_c", 3), ("_law_d", 4)]) (N := ["_law_tolds_here", "_law_a", "_law_b", "_law_c", "_law_d"]) (sc := defScope s_law_made) (by decide +kernel)) (fun _ _ _ _ _ => (pg_tup rfl (pgs_cons (pg_name (i := 1) sc_law_made.nd rfl (.inl rfl)) (pgs_cons (pg_name (i := 2) sc_law_made.nd rfl (.inl rfl)) (pgs_cons (pg_name (i := 3) sc_law_made.nd rfl (.inl rfl)) (pgs_cons (pg_name (i := 4) sc_law_made.nd rfl (.inl rfl)) pgs_nil)))))) (fun _ _ _ _ _ => pts_nil) (fun _ _ _ _ _ => (pe_new M_sh hr (by decide) (by rfl) (pa_cons (pv 1) (pa_cons (pv 2) (pa_cons (pv 3) (pa_cons (pv 4) pa_nil))))))) pa_nil)))), ?_⟩
    refine ⟨_, rfl, D, rfl, ⟨_, .inl (.inl hT.ls)⟩, fun M nM => lc_list (K := K) (a := D) (xs := ps.map fun q => V.ref q.1) (fun i J => ∃ rs : List (Addr × Rec), rs.length = i ∧ J M = some (.lst (rs.map fun q => V.ref q.1)) ∧ (∀ q ∈ rs, ShAt C J q.1 q.2 ∧ q.2.fit) ∧ rs.map (·.2) = (ps.take i).map (·.2) ∧ Same H J)
      ⟨[], rfl, upd_same, (fun q hq => by cases hq), rfl, same_new nM⟩ (fun i J _ ⟨_, _, _, _, _, sJ⟩ => .inl (.inl (sJ _ _ hT.ls))) ?_ ?_⟩
    · rintro i v J hi ⟨rs, rfl, eM, hs, er, sJ⟩
      rw [List.getElem?_map] at hi
      cases hq : ps[rs.length]? with
      | none =>
        rw [hq] at hi
        cases hi
      | some q =>
        rw [hq] at hi
        cases hi
        have mq : q ∈ ps := List.mem_of_getElem? hq
        obtain ⟨tq, oq⟩ := hT.tp q mq
        have il : rs.length < ps.length := (List.getElem?_eq_some_iff.mp hq).1
        refine ⟨q.1, q.2.vs, rfl, .inl (.inl (sJ _ _ tq)), rfl, _, _, rfl, _, _, rfl, _, _, rfl, _, _, rfl, rfl, rfl, yes (iteT ?_)⟩
        refine ⟨_, rfl, _, rfl, _, rfl, _, rfl, fun x dx nx ndx nex => ⟨x, dx, q.2, rfl, upd_same, oq.fit, fun b G nb gx gb keep => ⟨rfl, ?_⟩⟩⟩
        have sG : Same J G := fun c o e => keep c o (by rw [upd_ne (ne_of_none e nx), upd_ne (ne_of_none e ndx)]; exact e) (ne_of_none e nx)
        have gM := sG _ _ eM
        refine ⟨_, gM, small1000 (by rw [List.length_map]; omega), rs ++ [(x, q.2)], by rw [List.length_append]; rfl, ?_, fun r hr => ?_, ?_, ?_⟩
        · rw [upd_same, List.map_append]
          rfl
        · rcases List.mem_append.mp hr with hr | hr
          · obtain ⟨h1, h2⟩ := hs r hr
            exact ⟨(h1.same sG).list gM, h2⟩
          · rw [List.mem_singleton.mp hr]
            exact ⟨ShAt.list ⟨dx, b, gx, gb⟩ gM, oq.fit⟩
        · rw [List.map_append, er, List.take_add_one, hq, List.map_append]
          rfl
        · intro c o e
          rw [upd_ne (ne_of_none e nM)]
          exact sG _ _ (sJ _ _ e)
    · rintro J ⟨rs, el, eM, hs, er, sJ⟩
      refine ⟨M, _, rfl, .inl ⟨.inl (.inl eM), fun a na => ?_⟩⟩
      rw [List.length_map, List.take_length] at er
      have s1 : Same J (upd J a (.tup (rs.map fun q => V.ref q.1))) := same_new na
      exact k a _ rs (sJ.free na) ⟨upd_same, fun q hq => ⟨(hs q hq).1.same s1, (hs q hq).2⟩⟩ er (sJ.trans s1)
/-! ### _law_cut -/
theorem neg_back {α : Type} (xs : List α) {h : Int} (h0 : 0 < h) : (xs.drop (HT.sIx xs.length 0 (some (-h)))).take (HT.sIx xs.length xs.length none - HT.sIx xs.length 0 (some (-h))) = xs.drop (xs.length - h.toNat) := by
  have e : HT.sIx xs.length 0 (some (-h)) = xs.length - h.toNat := by
    show (if -h < 0 then (-h + (xs.length : Int)).toNat else min (-h).toNat xs.length) = _
    rw [if_pos (by omega)]
    omega
  rw [e, HT.sIx_none, List.take_of_length_le (by rw [List.length_drop]; omega)]
theorem cutsV_snoc (ps : List (Addr × Rec)) {i : Nat} {q : Addr × Rec} (h : ps[i]? = some q) (xs : List V) :
    cutsV ((ps.take (i + 1)).map (·.2)) xs = cut q.2.l.toNat q.2.h.toNat q.2.t.toNat (ones q.2.z.cps.toList) (cutsV ((ps.take i).map (·.2)) xs) := by
  rw [List.take_add_one, h, List.map_append]
  unfold cutsV
  rw [List.foldl_append]
  rfl
def spCut : Sp := fun vs H Q _ => ∃ (D T : Addr) (ps : List (Addr × Rec)) (xs : List V), vs = [.ref D, .ref T] ∧ ToldsAt H D ps ∧ H T = some (.lst xs) ∧ xs.length ≤ 600 ∧ ∀ (U : Addr) (G : Hp), Same H G → G U = some (.lst (cutsV (ps.map (·.2)) xs)) → Q (.ref U) G
theorem cal_cut (B : Bi mg) (D : At K mg "_law_cut" s_law_cut ps_law_cut) : Cal P w K mg base 1 "_law_cut" ps_law_cut spCut := by
  refine D.cal sc_law_cut (fun vs H Q E h => ?_) (fun f cdv A outer s H vs Q E hr h => ?_)
  · obtain ⟨D, T, ps, xs, rfl, _⟩ := h
    rfl
  · obtain ⟨D, T, ps, xs, rfl, hT, hx, lx, k⟩ := h
    refine ⟨_, (pss_cons (ps_for PassesOwn.never rfl (pi_list (pv 0)) (pg_tup rfl (pgs_cons (pg_name (i := 2) sc_law_cut.nd rfl (.inl rfl)) (pgs_cons (pg_name (i := 3) sc_law_cut.nd rfl (.inl rfl)) (pgs_cons (pg_name (i := 4) sc_law_cut.nd rfl (.inl rfl)) (pgs_cons (pg_name (i := 5) sc_law_cut.nd rfl (.inl rfl)) pgs_nil)))))
      (pss_one (ps_if (pt_cmpR op_gt (pe_callB call_len (by rfl) B.len (by decide +kernel) (pa_cons (pv 1) pa_nil)) (pv 2) (nomark _)) (pss_cons (ps_par (i := 6) (j := 7) (by rfl) sc_law_cut.nd rfl rfl (by decide) rfl rfl (pa_cons (pe_slice sl_list (pv 1) po_none (po_some (pv 3))) (pa_cons (pe_mid (pe_ifExp (pt_cmpR op_gt (pv 4) pe_int (nomark _)) (pe_slice sl_list (pv 1) (po_some (pe_un un_neg (pv 4))) po_none) (pe_lst pa_nil))) pa_nil)) (by rfl))
      (pss_one (ps_set (i := 1) sc_law_cut.nd rfl (.inl rfl) (pe_op op_cat (pe_op op_cat (pv 6) (pe_lc (own := [("_law_each", 8)]) (by rfl) sc_law_cut.nd (pi_str (pv 5)) (blkOk_by (own := [("_law_each", 8)]) (N := ["_law_tolds_here", "_law_things", "_law_bound", "_law_low", "_law_high", "_law_sign", "_law_front", "_law_back", "_law_each"]) (sc := defScope s_law_cut) (by decide +kernel)) (fun _ _ _ _ _ => pg_name (i := 8) sc_law_cut.nd rfl (.inl rfl)) (fun _ _ _ _ _ => pts_nil) (fun _ _ _ _ _ => (pv 8)))) (pv 7))))) pss_nil)))
      (pss_one (ps_ret (pv 1)))), ?_⟩
    refine ⟨_, rfl, D, rfl, ⟨_, .inl (.inl hT.ls)⟩, for_list (K := K) (a := D) (xs := ps.map fun q => V.ref q.1) (fun i σ J => ∃ (U : Addr) (a b c d e f g : Option V), σ = [some (.ref D), some (.ref U), a, b, c, d, e, f, g] ∧ Same H J ∧ J U = some (.lst (cutsV ((ps.take i).map (·.2)) xs)) ∧ (cutsV ((ps.take i).map (·.2)) xs).length ≤ 600)
      ⟨T, none, none, none, none, none, none, none, rfl, Same.refl H, hx, lx⟩ (fun i σ J _ ⟨_, _, _, _, _, _, _, _, _, sJ, _⟩ => .inl (.inl (sJ _ _ hT.ls))) ?_ ?_⟩
    · rintro i v σ J hi ⟨U, a, b, c, d, e, f, g, rfl, sJ, eU, lU⟩
      rw [List.getElem?_map] at hi
      cases hq : ps[i]? with
      | none =>
        rw [hq] at hi
        cases hi
      | some q =>
        rw [hq] at hi
        cases hi
        obtain ⟨tq, oq⟩ := hT.tp q (List.mem_of_getElem? hq)
        have zl := oq.fit.zl
        have es := cutsV_snoc ps hq xs
        generalize hys : cutsV ((ps.take i).map (·.2)) xs = ys at eU lU es
        have o1 := oq.l0
        have o2 := oq.h0
        have o3 := oq.t0
        have o4 := oq.h1
        have o5 := oq.t1
        refine ⟨q.1, q.2.vs, rfl, .inl (.inl (sJ _ _ tq)), rfl, _, _, rfl, _, _, rfl, _, _, rfl, _, _, rfl, rfl, ?_⟩
        refine ⟨_, rfl, _, _, rfl, .inl ⟨_, .inl (.inl eU), rfl⟩, _, rfl, _, _, rfl, rfl, _, rfl, ite2 (fun e1 => ?_) (fun e1 => ?_)⟩
        · have e2 : q.2.l < (ys.length : Int) := of_decide_eq_true e1
          refine ⟨_, rfl, _, rfl, _, rfl, U, ys, rfl, .inl (.inl eU), fun F nF => ?_⟩
          have s1 : Same J (upd J F (.lst (cutV ys none (some q.2.h)))) := same_new nF
          refine ⟨fun v G => ∃ bk, v = .ref bk ∧ Same (upd J F (.lst (cutV ys none (some q.2.h)))) G ∧ G bk = some (.lst (ys.drop (ys.length - q.2.t.toNat))), ?_, ?_⟩
          · refine ⟨_, rfl, _, _, rfl, rfl, _, rfl, ite2 (fun e3 => ?_) (fun e3 => ?_)⟩
            · have e4 : 0 < q.2.t := of_decide_eq_true e3
              refine ⟨_, rfl, _, rfl, _, rfl, _, rfl, U, ys, rfl, .inl (.inl (s1 _ _ eU)), fun R nR => ⟨R, rfl, same_new nR, ?_⟩⟩
              rw [upd_same]
              exact congrArg (fun l => some (HO.lst l)) (neg_back ys e4)
            · have e4 : ¬ 0 < q.2.t := fun h => e3 (decide_eq_true h)
              have e5 : q.2.t.toNat = 0 := by omega
              refine ⟨Nat.zero_le _, fun R nR => ⟨R, rfl, same_new nR, ?_⟩⟩
              rw [upd_same, e5, Nat.sub_zero, List.drop_length]
          · rintro _ G ⟨bk, rfl, s2, eB⟩
            refine ⟨_, _, rfl, ?_⟩
            have eF : G F = some (.lst (ys.take q.2.h.toNat)) := by
              rw [s2 F _ upd_same]
              exact congrArg (fun l => some (HO.lst l)) (cut_front ys o2)
            refine ⟨_, rfl, _, rfl, q.2.z, rfl, fun M nM => lc_it walk_str (fun j G1 => Same G G1 ∧ G1 M = some (.lst (ones (q.2.z.cps.toList.take j)))) ⟨same_new nM, by rw [upd_same]; rfl⟩ (fun _ _ _ _ => trivial) ?_ ?_⟩
            · rintro j v G1 _ hj ⟨sG1, eM⟩ ⟨rfl, ch, hch, rfl⟩
              refine ⟨rfl, yes (iteT ⟨_, rfl, _, eM, small1000 ?_, ?_, ?_⟩)⟩
              · unfold ones
                rw [List.length_map, List.length_take]
                omega
              · intro c2 o e
                rw [upd_ne (ne_of_none e nM)]
                exact sG1 _ _ e
              · rw [upd_same]
                have hc' : q.2.z.cps.toList[j]? = some ch := by
                  rw [← Array.getElem?_toList] at hch
                  exact hch
                unfold ones
                rw [List.take_add_one, hc', List.map_append]
                rfl
            · rintro G1 ⟨sG1, eM⟩
              rw [List.take_of_length_le (show q.2.z.cps.toList.length ≤ q.2.z.cps.size from Nat.le_refl _)] at eM
              have le1 : (ones q.2.z.cps.toList).length ≤ 3 := by
                unfold ones
                rw [List.length_map]
                exact zl
              refine ⟨F, M, _, _, rfl, rfl, sG1 _ _ eF, eM, Nat.le_of_lt (small1000 (by rw [List.length_take]; omega)), fun R1 nR1 => ?_⟩
              have s3 : Same G1 (upd G1 R1 (.lst (ys.take q.2.h.toNat ++ ones q.2.z.cps.toList))) := same_new nR1
              refine ⟨_, rfl, R1, bk, _, _, rfl, rfl, upd_same, s3 _ _ (sG1 _ _ eB), Nat.le_of_lt (small1000 (by rw [List.length_append, List.length_take, List.length_drop]; omega)), fun R2 nR2 => ?_⟩
              refine ⟨R2, _, _, _, _, _, _, _, rfl, (sJ.trans s1).trans (s2.trans (sG1.trans (s3.trans (same_new nR2)))), ?_, ?_⟩
              · rw [upd_same, es]
                unfold cut
                rw [if_neg (show ¬ ys.length ≤ q.2.l.toNat by omega)]
              · rw [es]
                refine Nat.le_trans cut_length ?_
                omega
        · have e2 : ¬ q.2.l < (ys.length : Int) := fun h => e1 (decide_eq_true h)
          have e3 : cut q.2.l.toNat q.2.h.toNat q.2.t.toNat (ones q.2.z.cps.toList) ys = ys := by
            unfold cut
            rw [if_pos (by omega)]
          refine ⟨U, _, _, _, _, _, _, _, rfl, sJ, ?_, ?_⟩
          · rw [es, e3]
            exact eU
          · rw [es, e3]
            exact lU
    · rintro σ J ⟨U, a, b, c, d, e, f, g, rfl, sJ, eU, lU⟩
      rw [List.length_map, List.take_length] at eU
      exact ⟨_, rfl, k U J sJ eU⟩
end
end Gu
namespace Gu
open PySem PySem.Spec PyProof.Rows L2
/-! ### calls by keywords alone -/
structure CalK (P : Program) (w : World) (K : PySem.W.Frag) (mg : Str → Option Value) (base : Heap) (k : Nat) (x : Str) (ks : List Str) (gV : List V → List V) (sp : Sp) : Prop where
  ex : ∃ (f : Addr) (fd : FuncData) (ps : List Str) (g : List Value → List Value), FnOk P w K mg base CX0 k f fd ps sp ∧ mg x = some (.ref f) ∧ PySem.W.keepIn K (.ref f) = true ∧ KBn K fd ps 0 ks (fun _ ws => g ws) (fun _ zs => gV zs)
theorem Cal.kw {P : Program} {w : World} {K : PySem.W.Frag} {mg : Str → Option Value} {base : Heap} {k : Nat} {x : Str} {st : Stmt} {ps ks : List Str} {sp : Sp} (g : {α : Type} → List α → List α) (c : Cal P w K mg base k x ps sp) (D : At K mg x st ps)
    (hv : ∀ {zs : List V} {ws : List Value}, Vals zs ws → Vals (g zs) (g ws))
    (hb : ∀ (kV doc pm : Value) (an : Option Addr) (cdv ct : Value) (ws : List Value), ws.length = ks.length → bindArgs (PySem.W.fnOf x x (defArgs st) (defBody st) (defScope st) .none kV doc pm an cdv ct) ⟨[], ks.zip ws⟩ = pure (ps.zip (g ws))) : CalK P w K mg base k x ks g sp := by
  obtain ⟨f, fd, F, hm, kp, b, oc, od, sl, lk⟩ := c.ex
  obtain ⟨f2, fd2, F2, b2, hm2⟩ := D.ex
  cases hm.symm.trans hm2
  obtain ⟨oc2, od2, kV, doc, pm, an, cdv, ct, sl2, e, lk2, hcd⟩ := F2.ex
  cases lk.symm.trans lk2
  refine ⟨f, fd, ps, g, F, hm, kp, ⟨fun s us ws I l1 l2 => ?_, fun _ r => hv r⟩⟩
  cases us with
  | nil =>
    rw [e]
    exact BindsTo.of_eq (hb kV doc pm an cdv ct ws l2)
  | cons u r => cases l1
def tKw (m : Nat) (gV : List V → List V) (sp : Sp) (tk : TA) : TE := fun σ H Q => tk σ H fun zs G => zs.length = m ∧ sp (gV zs) G Q E0
section
variable {X : Cx} {k j : Nat} {x : Str} {ks : List Str} {gV : List V → List V} {sp : Sp} {p pos : Pos} {kws : List Keyword} {tk : TA}
theorem pe_kw (c : CalK X.prog X.w X.K X.mg X.base k x ks gV sp) (hr : Room j X.A) (hk : k ≤ j) (hg : Gl X x) (hkw : PK X kws tk) (hall : (backToKw pos (keywordEach kws X.env)).all (·.1.isSome) = true := by rfl)
    (hks : (backToKw pos (keywordEach kws X.env)).filterMap (·.1) = ks := by rfl) (hdb : (x == ("__debug__" : Str)) = false := by decide)
    (hpl : ((backTo pos (starEach [] X.env)).any (·.1) || (backToKw pos (keywordEach kws X.env)).any (·.1.isNone)) = false := by rfl) : PE X (.Call (.Name x p) [] kws pos) (tKw ks.length gV sp tk) := by
  obtain ⟨f, fd, ps, g, F, hm, kp, b⟩ := c.ex
  refine ⟨fun pins s σ H Q I h => ?_⟩
  refine wpAny_Call_Name_kw (ld_glob I hg hm ?_ hdb)
  refine PySem.W.callWith_KW0 (h₀ := X.base) I.ok.mod.kin kp hall ?_ hpl
  refine thn (hkw.run pos pins s σ H _ I h) fun ws s2 ⟨zs, G, I2, rz, l2, q2⟩ => ⟨I2.kIn, ?_⟩
  rw [hks]
  exact run_fnN (us := []) (vs := []) F (hr.mono hk) b pass0 I2 .nil rz rfl l2 q2
end
def swap2 {α : Type} : List α → List α
  | [a, b] => [b, a]
  | l => l
theorem swap2_vals {zs : List V} {ws : List Value} (r : Vals zs ws) : Vals (swap2 zs) (swap2 ws) := by
  cases r with
  | nil => exact .nil
  | cons a r =>
    cases r with
    | nil => exact .cons a .nil
    | cons b r =>
      cases r with
      | nil => exact .cons b (.cons a .nil)
      | cons c r => exact .cons a (.cons b (.cons c r))
theorem str_ext {a b : Str} (h : a.cps.toList = b.cps.toList) : a = b := by
  cases a
  cases b
  exact congrArg Str.mk (Array.ext' h)
end Gu
namespace Gu
open PySem PySem.Spec PyProof.Rows L2
section
variable {P : Program} {w : World} {K : PySem.W.Frag} {mg : Str → Option Value} {base : Heap} {C : Addr}
def spSeen : Sp := fun vs H Q _ => ∃ (D : Addr) (ps : List (Addr × Rec)) (z : Str), vs = [.ref D, .str z] ∧ ToldsAt H D ps ∧ z.cps.toList.length ≤ 200 ∧ ∀ (y : Str) (G : Hp), Same H G → y.cps.toList = cuts (ps.map (·.2)) z.cps.toList → Q (.str y) G
theorem cal_seen (B : Bi mg) (D : At K mg "_law_seen" s_law_seen ps_law_seen) (C_law_cut : Cal P w K mg base 1 "_law_cut" ps_law_cut spCut) : Cal P w K mg base 2 "_law_seen" ps_law_seen spSeen := by
  refine D.cal sc_law_seen (fun vs H Q E h => ?_) (fun f cdv A outer s H vs Q E hr h => ?_)
  · obtain ⟨D, ps, z, rfl, _⟩ := h
    rfl
  · obtain ⟨D, ps, z, rfl, hT, zl, k⟩ := h
    refine ⟨_, (pss_one (ps_ret (pe_join pe_str (pe_own C_law_cut hr (by decide) (by rfl) (pa_cons (pv 0) (pa_cons (pe_lc (own := [("_law_each", 2)]) (by rfl) sc_law_seen.nd (pi_str (pv 1)) (blkOk_by (own := [("_law_each", 2)]) (N := ["_law_tolds_here", "_law_line_here", "_law_each"]) (sc := defScope s_law_seen) (by decide +kernel)) (fun _ _ _ _ _ => pg_name (i := 2) sc_law_seen.nd rfl (.inl rfl)) (fun _ _ _ _ _ => pts_nil) (fun _ _ _ _ _ => (pv 2))) pa_nil)))))), ?_⟩
    refine ⟨⟨_, rfl⟩, _, rfl, _, rfl, z, rfl, fun M nM => lc_it walk_str (fun j G => Same H G ∧ G M = some (.lst (ones (z.cps.toList.take j)))) ⟨same_new nM, by rw [upd_same]; rfl⟩ (fun _ _ _ _ => trivial) ?_ ?_⟩
    · rintro j v G _ hj ⟨sG, eM⟩ ⟨rfl, ch, hch, rfl⟩
      refine ⟨rfl, yes (iteT ⟨_, rfl, _, eM, small1000 ?_, ?_, ?_⟩)⟩
      · unfold ones
        rw [List.length_map, List.length_take]
        omega
      · intro c2 o e
        rw [upd_ne (ne_of_none e nM)]
        exact sG _ _ e
      · rw [upd_same]
        have hc' : z.cps.toList[j]? = some ch := by
          rw [← Array.getElem?_toList] at hch
          exact hch
        unfold ones
        rw [List.take_add_one, hc', List.map_append]
        rfl
    · rintro G ⟨sG, eM⟩
      rw [List.take_of_length_le (show z.cps.toList.length ≤ z.cps.size from Nat.le_refl _)] at eM
      refine ⟨D, M, ps, _, rfl, hT.same sG, eM, ?_, fun U G2 s2 eU => ?_⟩
      · unfold ones
        rw [List.length_map]
        omega
      · rw [cutsV_ones, ones_map] at eU
        have lc := cuts_len (ps.map (·.2)) (xs := z.cps.toList) (fun r hr => by
          obtain ⟨q, hq, rfl⟩ := List.mem_map.mp hr
          exact (hT.tp q hq).2.fit) zl
        refine ⟨_, U, _, rfl, rfl, .inl (.inl (.inl eU)), ?_, k _ G2 (sG.trans s2) (tjoin_ones _)⟩
        rw [ones_len, List.length_map]
        have e0 : (("" : String) : Str).length = 0 := by decide +kernel
        rw [e0]
        omega
end
end Gu
namespace Gu
open PySem PySem.Spec PyProof.Rows L2
section
variable {P : Program} {w : World} {K : PySem.W.Frag} {mg : Str → Option Value} {base : Heap} {C : Addr}
def spLine : Sp := fun vs H Q _ => ∃ (p : Addr) (n : Int), vs = [.ref p, .int n] ∧ Pot H p ∧ 0 ≤ n ∧ n ≤ 200 ∧ ∀ (y : Str) (G : Hp), Ladled p H G → y.cps.toList.length = n.toNat → isTxt y 200 = true → Q (.str y) G
theorem cal_line (B : Bi mg) (D : At K mg "_law_line" s_law_line ps_law_line) (C_law_one_of : Cal P w K mg base 2 "_law_one_of" ps_law_one_of (spOneOf K)) : Cal P w K mg base 3 "_law_line" ps_law_line spLine := by
  refine D.cal sc_law_line (fun vs H Q E h => ?_) (fun f cdv A outer s H vs Q E hr h => ?_)
  · obtain ⟨p, n, rfl, _⟩ := h
    rfl
  · obtain ⟨p, n, rfl, hp, n0, n1, k⟩ := h
    refine ⟨_, (pss_cons (ps_set (i := 2) sc_law_line.nd rfl (.inr rfl) (pe_own C_law_one_of hr (by decide) (by rfl) (pa_cons (pv 0) (pa_cons (pe_lst (pa_cons pe_str (pa_cons pe_str (pa_cons pe_str pa_nil)))) pa_nil))))
      (pss_one (ps_ret (pe_join pe_str (pe_lc (own := [("_law_k", 3)]) (by rfl) sc_law_line.nd (pi_range1 (by rfl) B.range (pa_cons (pv 1) pa_nil)) (blkOk_by (own := [("_law_k", 3)]) (N := ["_law_pot_here", "_law_many", "_law_signs_here", "_law_k"]) (sc := defScope s_law_line) (by decide +kernel)) (fun _ _ _ _ _ => pg_name (i := 3) sc_law_line.nd rfl (.inl rfl)) (fun _ _ _ _ _ => pts_nil) (fun _ _ _ _ _ => (pe_own C_law_one_of hr (by decide) (by rfl) (pa_cons (pv 0) (pa_cons (pv 2) pa_nil))))))))), ?_⟩
    refine ⟨_, rfl, by show 3 ≤ sizeLine; decide, fun q0 m0 => ?_⟩
    have L0 : Ladled p H (upd H q0 (.lst [.str ".0", .str "ab~", .str ".0123456789abcdefghijklmnopqrstuvwxyz~"])) := .ofSame hp (same_new m0)
    refine ⟨p, L0.pot, .inl ⟨q0, _, rfl, .inl (.inl upd_same), hp.ne m0, by decide, by decide, fun v G1 hv L1 => ?_⟩⟩
    obtain ⟨g, rfl, g0, g1, gs⟩ : ∃ g : Str, v = .str g ∧ 0 < g.cps.toList.length ∧ g.cps.toList.length < 1000 ∧ ∀ c ∈ g.cps.toList, c ∈ signs.cps.toList := by
      have a : ∀ g ∈ ([".0", "ab~", ".0123456789abcdefghijklmnopqrstuvwxyz~"] : List Str), 0 < g.cps.toList.length ∧ g.cps.toList.length < 1000 ∧ ∀ c ∈ g.cps.toList, c ∈ signs.cps.toList := by decide +kernel
      have e : ([.str ".0", .str "ab~", .str ".0123456789abcdefghijklmnopqrstuvwxyz~"] : List V) = ([".0", "ab~", ".0123456789abcdefghijklmnopqrstuvwxyz~"] : List Str).map V.str := rfl
      rw [e] at hv
      obtain ⟨g, h1, h2⟩ := List.mem_map.mp hv
      exact ⟨g, h2.symm, a g h1⟩
    have M1 : Ladled p H G1 := L0.trans L1
    refine ⟨⟨_, rfl⟩, _, rfl, n, rfl, by omega, by omega, fun M nM => lc_range (lo := 0) (n := n.toNat) (fun i J => ∃ cs : List Nat, cs.length = i ∧ (∀ c ∈ cs, c ∈ signs.cps.toList) ∧ J M = some (.lst (ones cs)) ∧ Ladled p H J)
      ⟨[], rfl, (fun c hc => by cases hc), upd_same, M1.mut (M1.free nM) (M1.pot.ne nM)⟩ ?_ ?_⟩
    · rintro i J hi ⟨cs, rfl, hc, eM, L⟩
      have hM : H M = none := M1.free nM
      refine ⟨rfl, yes (iteT ⟨_, rfl, _, rfl, p, L.pot, .inr ⟨g, rfl, g0, g1, fun c G c1 L2 => ?_⟩⟩)⟩
      have gM := L2.keep _ _ eM (hp.ne hM)
      refine ⟨_, gM, small1000 (by unfold ones; rw [List.length_map]; omega), cs ++ [c], by rw [List.length_append]; rfl, fun d hd => ?_, ?_, (L.trans L2).mut hM (hp.ne hM)⟩
      · rcases List.mem_append.mp hd with hd | hd
        · exact hc d hd
        · rw [List.mem_singleton.mp hd]
          exact gs c c1
      · rw [upd_same]
        unfold ones
        rw [List.map_append]
        rfl
    · rintro J ⟨cs, el, hc, eM, L⟩
      rw [ones_map] at eM
      refine ⟨_, M, _, rfl, rfl, .inl (.inl (.inl eM)), ?_, k _ J L ?_ ?_⟩
      · rw [ones_len, List.length_map]
        have e0 : (("" : String) : Str).length = 0 := by decide +kernel
        rw [e0]
        omega
      · rw [tjoin_ones]
        exact el
      · unfold isTxt
        rw [tjoin_ones, Bool.and_eq_true, List.all_eq_true]
        refine ⟨decide_eq_true ?_, fun c h => decide_eq_true (hc c h)⟩
        show ((Txt.join "" (cs.map one)).cps.toList.length : Int) ≤ 200
        rw [tjoin_ones]
        omega
end
end Gu
namespace Gu
open PySem PySem.Spec PyProof.Rows L2
section
variable {P : Program} {w : World} {K : PySem.W.Frag} {mg : Str → Option Value} {base : Heap} {C : Addr}
theorem Ladled.row {C : Addr} {H G : Hp} {p a : Addr} {rs : List (Addr × Rec)} (L : Ladled p H G) (hp : Pot H p) (h : RowAt C H a rs) : RowAt C G a rs := by
  obtain ⟨x, y, z, e⟩ := hp
  refine ⟨L.keep _ _ h.tp (ne_of h.tp e (by intro z; cases z)), fun q hq => ⟨?_, (h.sh q hq).2⟩⟩
  obtain ⟨dx, b, h1, h2⟩ := (h.sh q hq).1
  exact ⟨dx, b, L.keep _ _ h1 (ne_of h1 e (by intro z; cases z)), L.keep _ _ h2 (ne_of h2 e (by intro z; cases z))⟩
theorem Ladled.tolds {H G : Hp} {p D : Addr} {ps : List (Addr × Rec)} (L : Ladled p H G) (n : D ≠ p) (nq : ∀ q ∈ ps, q.1 ≠ p) (h : ToldsAt H D ps) : ToldsAt G D ps := ⟨L.keep _ _ h.ls n, fun q hq => ⟨L.keep _ _ (h.tp q hq).1 (nq q hq), (h.tp q hq).2⟩⟩
/-! ### signs stay signs -/
def Signs (xs : List Nat) : Prop := ∀ c ∈ xs, c ∈ signs.cps.toList
theorem isTxt_signs {z : Str} {m : Int} (h : isTxt z m = true) : Signs z.cps.toList := by
  unfold isTxt at h
  rw [Bool.and_eq_true, List.all_eq_true] at h
  exact fun c hc => of_decide_eq_true (h.2 c hc)
theorem cut_signs {l h t : Nat} {m xs : List Nat} (hm : Signs m) (hx : Signs xs) : Signs (cut l h t m xs) := by
  unfold cut
  split
  · exact hx
  · intro c hc
    rcases List.mem_append.mp hc with hc | hc
    · rcases List.mem_append.mp hc with hc | hc
      · exact hx c (List.mem_of_mem_take hc)
      · exact hm c hc
    · exact hx c (List.mem_of_mem_drop hc)
theorem cuts_signs : ∀ (rs : List Rec) {xs : List Nat}, (∀ r ∈ rs, r.fit) → Signs xs → Signs (cuts rs xs)
  | [], _, _, h => h
  | r :: rs, xs, hf, h => cuts_signs rs (xs := r.cut xs) (fun q hq => hf q (List.mem_cons_of_mem _ hq)) (cut_signs (isTxt_signs (hf r (List.mem_cons_self ..)).z) h)
theorem signs_ok {y : Str} (h : Signs y.cps.toList) : (PyData.str y).canLay0 = true := by
  have a : ∀ c ∈ signs.cps.toList, c < 0x110000 := by decide +kernel
  show y.cps.all _ = true
  rw [← Array.all_toList, List.all_eq_true]
  exact fun c hc => decide_eq_true (a c (h c hc))
theorem shaped_two {y z : Str} (hy : Signs y.cps.toList) (hz : Signs z.cps.toList) : SeqAt.shaped (.list [.str y, .str z]) = true := by
  have a := signs_ok hy
  have b := signs_ok hz
  show ((PyData.str y).canLay0 && ((PyData.str z).canLay0 && true) && true) = true
  rw [a, b]
  rfl
end
end Gu
namespace Gu
open PySem PySem.Spec PyProof.Rows L2
/-! ### defs that are called where no container is being written out -/
structure FnG (P : Program) (w : World) (K : PySem.W.Frag) (mg : Str → Option Value) (base : Heap) (k : Nat) (f : Addr) (fd : FuncData) (ps : List Str) (sp : Sp) : Prop where
  len : ∀ vs H Q E, sp vs H Q E → vs.length = ps.length
  run : ∀ (A : Around) (outer : List Env) (s : Shared) (H : Hp) (args : Args) (us : List Value) (vs : List V) (Q : VK) (E : XK), Room k A → A.guards = some [] → Env0 P w K mg base A outer s H → BindsTo s fd args (ps.zip us) → Vals vs us → sp vs H Q E →
    codeAny (model P w) A (.call (.ref f) args) (CR CX0 outer P w H s Q E) s
section
variable {P : Program} {w : World} {K : PySem.W.Frag} {mg : Str → Option Value} {base : Heap}
theorem okG {x qual : Str} {st : Stmt} {f : Addr} {fd : FuncData} {N ps : List Str} {k : Nat} {sp : Sp} (F : Fun K x qual st f fd) (S : FnScope N ps (defScope st)) (len : ∀ vs H Q E, sp vs H Q E → vs.length = ps.length)
    (body : ∀ (cdv : Value) (A : Around) (outer : List Env) (s : Shared) (H : Hp) (vs : List V) (Q : VK) (E : XK), Room k (A.deeper (envOfC qual (defScope st) s.heap.objs.size f cdv)) → A.guards = some [] → sp vs H Q E →
      ∃ t, PSs (cxOf CX0 P w K mg base N qual (defScope st) f cdv A outer s H E).nox (defBody st) t ∧ t { nx := fun _ G => Q .non G, rt := Q } (start N vs) H) : FnG P w K mg base (k + 1) f fd ps sp := by
  obtain ⟨oc, od, kV, doc, pm, an, cdv, ct, osl, rfl, lk, hcd⟩ := F.ex
  refine ⟨len, fun A outer s H args us vs Q E room quiet env binds rel want => ?_⟩
  have stays : ∀ b o, base.get? b = some o → s.heap.get? b = some o := fun b o e => (env.bs b o e).1
  have inK : K.In s.heap := env.mod.kin.keeps stays
  have free : s.heap.NoLimit := env.mod.nolimit.keeps stays
  refine codeAny_call_function room.depth (inK _ _ lk) rfl S.co S.gen rfl (PySem.W.codeRec_of inK hcd) (binds _ _ _ _ ?_)
  refine wpAny_newFunctionEnv_cells S.kind (fun ⟨n, v⟩ hy => (S.par n (List.of_mem_zip hy).1).imp id fun q => ⟨q, PySem.W.cellsFrom_some _ _ _ (.inl q)⟩) fun env1 e1 s1 c1 => ?_
  subst e1
  refine ⟨free.keeps c1.toInCall.keep, codeAny_func ?_⟩
  obtain ⟨t, d, q⟩ := body cdv A outer s H vs Q E (room.deeper _) quiet want
  refine wpAny_mono (d.nox.run [] s1 (start N vs) H _ (inv_start S room.hd env (len _ _ _ _ want) rel c1) q) (fun fl s2 h2 => ?_) fun e s2 h2 => h2
  cases fl with
  | ret u =>
    obtain ⟨v, σ2, G, J, rv, r⟩ := h2
    exact ⟨v, G, J.os, J.bare, J.base, J.hok, rv, r⟩
  | next =>
    obtain ⟨σ2, G, J, r⟩ := h2
    exact ⟨V.non, G, J.os, J.bare, J.base, J.hok, rfl, r⟩
  | brk => exact (h2.choose_spec.choose_spec.2 : False).elim
  | cont => exact (h2.choose_spec.choose_spec.2 : False).elim
structure CalG (P : Program) (w : World) (K : PySem.W.Frag) (mg : Str → Option Value) (base : Heap) (k : Nat) (x : Str) (ps : List Str) (sp : Sp) : Prop where
  ex : ∃ (f : Addr) (fd : FuncData), FnG P w K mg base k f fd ps sp ∧ mg x = some (.ref f) ∧ PySem.W.keepIn K (.ref f) = true ∧ Binds K fd ps []
theorem At.calG {x : Str} {st : Stmt} {N ps : List Str} {k : Nat} {sp : Sp} (D : At K mg x st ps) (S : FnScope N ps (defScope st)) (len : ∀ vs H Q E, sp vs H Q E → vs.length = ps.length)
    (body : ∀ (f : Addr) (cdv : Value) (A : Around) (outer : List Env) (s : Shared) (H : Hp) (vs : List V) (Q : VK) (E : XK), Room k (A.deeper (envOfC x (defScope st) s.heap.objs.size f cdv)) → A.guards = some [] → sp vs H Q E →
      ∃ t, PSs (cxOf CX0 P w K mg base N x (defScope st) f cdv A outer s H E).nox (defBody st) t ∧ t { nx := fun _ G => Q .non G, rt := Q } (start N vs) H) : CalG P w K mg base (k + 1) x ps sp := by
  obtain ⟨f, fd, F, b, g⟩ := D.ex
  exact ⟨f, fd, okG F S len (body f), g, F.kp, b⟩
end
def tCallG (sp : Sp) (t : TA) : TE := fun σ H Q => t σ H fun vs G => sp vs G Q E0
section
variable {X : Cx} {k j : Nat} {x : Str} {ps : List Str} {sp : Sp} {p pos : Pos} {e : Expr} {es : List Expr} {t : TA}
theorem pe_ownG (c : CalG X.prog X.w X.K X.mg X.base k x ps sp) (hr : Room j X.A) (hk : k ≤ j) (quiet : X.A.guards = some []) (hg : Gl X x) (ha : PA X (e :: es) t)
    (hdb : (x == ("__debug__" : Str)) = false := by decide) (he : starEach (e :: es) X.env = (false, eval e X.env) :: starEach es X.env := by rfl) (hpl : (backTo pos (starEach es X.env)).any (·.1) = false := by rfl) :
    PE X (.Call (.Name x p) (e :: es) [] pos) (tCallG sp t) := by
  obtain ⟨f, fd, F, hm, kp, b⟩ := c.ex
  refine ⟨fun pins s σ H Q I h => wpAny_Call_Name_kw (ld_glob I hg hm (PySem.W.callWith_K (h₀ := X.base) I.ok.mod.kin kp (thn (ha.run pos pins s σ H _ I h) fun us s1 ⟨vs, G, I1, r, q⟩ => ⟨I1.kIn, ?_⟩) he hpl) hdb)⟩
  have ll : (us ++ []).length = ps.length := by
    rw [List.append_nil, ← r.length]
    exact F.len _ _ _ _ q
  have bt := b s1 us I1.kIn ll
  rw [List.append_nil] at bt
  refine wpAny_call (codeAny_mono (F.run X.A X.stack s1 G ⟨us, []⟩ us vs Q E0 (hr.mono hk) quiet I1.env0 bt r q) fun rr s2 h2 => ?_)
  cases rr with
  | error e => exact (h2 : False).elim
  | ok fl =>
    cases fl with
    | ret u => exact I1.after h2
    | next => exact (h2 : False).elim
    | brk => exact (h2 : False).elim
    | cont => exact (h2 : False).elim
end
end Gu
namespace Gu
open PySem PySem.Spec PyProof.Rows L2
/-- a heap in which nothing is tracked but, at most, the script at a, which stands still there -/
theorem quiet_end {P : Program} {w : World} {K : PySem.W.Frag} {mg mb : Str → Option Value} {k : Nat} {fa a : Addr} {fd : FuncData} {x : Str} {sp : Sp} {s : Shared} {us : List Value} {H : Hp} (inK : K.In s.heap) (nsG : s.heap.Ns mainGlobals mg) (nsB : s.heap.Ns builtinsNs mb)
    (bb : ∀ x : Str, x ≠ "__name__" → mb x = bootBuiltins x) (nl : s.heap.NoLimit) (ng : s.gens = #[]) (at_a : s.heap.get? a = some { cls := .type "list", data := .seq us.toArray }) (room : Room k callerA)
    (F : ∀ base : Heap, K.In base → base.Ns mainGlobals mg → FnG P w K mg base k fa fd [x] sp) (bind : ∀ (s : Shared) (u : Value), BindsTo s fd ⟨[u], []⟩ [(x, u)]) (want : sp [.ref a] H (fun v _ => v = .bl true) fun _ _ _ => False)
    (only : Only H) (ok : HOk P w H s.heap) (one : ∀ b, H b ≠ none → b = a ∧ K.lookup a = none) :
    codeAny (model P w) callerA (.call (.ref fa) ⟨[.ref a], []⟩) (fun r s2 => r = .ok (.ret (.bool true)) ∧ OldK s.heap s2.heap ∧ s2.os = s.os ∧ AllBare s2.gens) s := by
  have dictFree : ∀ (b : Addr) (o : Obj) (es : Array DictEntry) (ep : Nat), s.heap.get? b = some o → o.data = .dict es ep → H b = none := fun b o es ep e d =>
    Classical.byContradiction fun z => by
      have hb := (one b z).1
      rw [hb, at_a] at e
      cases e
      exact Data.noConfusion d
  have hiddenNs : ∀ (b : Addr) (m : Str → Option Value), s.heap.Ns b m → (hidT s.heap H).Ns b m := fun b m h => by
    obtain ⟨o, es, ep, e, d, r⟩ := h
    exact ⟨o, es, ep, hidT_get e (dictFree b o es ep e d), d, r⟩
  have hiddenK : K.In (hidT s.heap H) := fun b o e => hidT_get (inK b o e) (Classical.byContradiction fun z => by
    obtain ⟨h1, h2⟩ := one b z
    rw [h1, h2] at e
    cases e)
  have env : Env0 P w K mg (hidT s.heap H) callerA [] s H := by
    refine ⟨rfl, ⟨hiddenK, hiddenNs _ _ nsG, ⟨mb, hiddenNs _ _ nsB, bb⟩, ?_⟩, fun b o e => of_hidT e, Nat.le_of_eq (hidT_size _ _), trivial, fun b hb => absurd (show b ∈ ([] : List Addr) from hb) List.not_mem_nil, ok, .of_eq ng⟩
    obtain ⟨mc, h1, h2⟩ := nl
    exact ⟨mc, hiddenNs _ _ h1, h2⟩
  refine codeAny_mono ((F _ hiddenK (hiddenNs _ _ nsG)).run callerA [] s H ⟨[.ref a], []⟩ [.ref a] [.ref a] _ _ room rfl env (bind s (.ref a)) (.cons rfl .nil) want) fun r s2 h2 => ?_
  cases r with
  | error e => exact (h2 : False).elim
  | ok fl =>
    cases fl with
    | next => exact (h2 : False).elim
    | brk => exact (h2 : False).elim
    | cont => exact (h2 : False).elim
    | ret u =>
      obtain ⟨v, G, os, bare, un, ok2, rv, hv⟩ := h2
      cases (show v = .bl true from hv)
      cases (show u = Value.bool true from rv)
      refine ⟨rfl, OldK.of_keep fun b o e => ?_, os, bare⟩
      rcases only b with z | ⟨ob, xs, z⟩
      · exact un.keep b o e z (fun y => absurd (show b ∈ ([] : List Addr) from y) List.not_mem_nil) (by simp)
      · have e1 := (ok b _ z).1
        have e2 := (ok2 b _ (un.frzs b ob _ z)).1
        rw [e] at e1
        cases e1
        exact e2
/-- the law's call, by its promise -/
theorem quiet_call {P : Program} {w : World} {K : PySem.W.Frag} {mg mb : Str → Option Value} {k : Nat} {fa a : Addr} {fd : FuncData} {x : Str} {sp : Sp} {s : Shared} {us : List Value} {ns : List Int} (inK : K.In s.heap) (nsG : s.heap.Ns mainGlobals mg) (nsB : s.heap.Ns builtinsNs mb)
    (bb : ∀ x : Str, x ≠ "__name__" → mb x = bootBuiltins x) (nl : s.heap.NoLimit) (ng : s.gens = #[]) (at_a : s.heap.get? a = some { cls := .type "list", data := .seq us.toArray }) (nums : IntsAre us ns) (small : ns.length ≤ sizeLine) (room : Room k callerA)
    (F : ∀ base : Heap, K.In base → base.Ns mainGlobals mg → FnG P w K mg base k fa fd [x] sp) (bind : ∀ (s : Shared) (u : Value), BindsTo s fd ⟨[u], []⟩ [(x, u)])
    (want : ∀ H : Hp, SqL K H a (ns.map V.int) → sp [.ref a] H (fun v _ => v = .bl true) fun _ _ _ => False) :
    codeAny (model P w) callerA (.call (.ref fa) ⟨[.ref a], []⟩) (fun r s2 => r = .ok (.ret (.bool true)) ∧ OldK s.heap s2.heap ∧ s2.os = s.os ∧ AllBare s2.gens) s := by
  have rel := vals_ints nums
  cases hk : K.lookup a with
  | some o =>
    have e := inK a o hk
    rw [at_a] at e
    cases e
    refine quiet_end (H := fun _ => none) inK nsG nsB bb nl ng at_a room F bind (want _ (.inr ⟨_, us.toArray, _, hk, rfl, rfl, rfl, ?_, rel⟩)) (fun _ => .inl rfl) (fun b u z => nomatch (show (none : Option HO) = some u from z)) fun b z => absurd rfl z
    rw [List.size_toArray, nums.length]
    exact small
  | none =>
    refine quiet_end (H := upd (fun _ => none) a (.frz { cls := .type "list", data := .seq us.toArray } (.lst (ns.map V.int)))) inK nsG nsB bb nl ng at_a room F bind (want _ (.inl (.inr ⟨_, upd_same⟩))) (fun b => ?_) (fun b u z => ?_) fun b z => ?_
    · by_cases hb : b = a
      · exact .inr ⟨_, _, by rw [hb]; exact upd_same⟩
      · exact .inl (upd_ne hb)
    · by_cases hb : b = a
      · subst hb
        rw [upd_same] at z
        cases z
        exact ⟨at_a, by rw [List.length_map]; exact small, us, _, rel, at_a⟩
      · rw [upd_ne hb] at z
        cases z
    · by_cases hb : b = a
      · exact ⟨hb, hk⟩
      · exact absurd (upd_ne hb) z
theorem walkG {l : PySem.W.OpenLaw} {n k : Nat} {q : Program} {loose : List Str} {XP : (Str → Option Value) → Heap → Prop} {YP : World → Heap → Prop} {d : DefRec} {K : Params → PySem.W.Frag} {x : Str} {sp : PySem.W.Frag → Sp} (most : l.most = some n) (small : n ≤ sizeLine) (plain : d.params.defaults = []) (room : Room k callerA)
    (left : ∀ (w : World) (h : Heap), YP w h → (K w.params).In h)
    (F : ∀ (w : World) (mg : Str → Option Value) (fa : Addr) (h : Heap), (K w.params).In h → h.Ns mainGlobals mg → mg d.name = some (.ref fa) → ∃ fd : FuncData, (∀ (s : Shared) (u : Value), BindsTo s fd ⟨[u], []⟩ [(x, u)]) ∧
      ∀ base : Heap, (K w.params).In base → base.Ns mainGlobals mg → FnG l.prog w (K w.params) mg base k fa fd [x] (sp (K w.params)))
    (want : ∀ (w : World) (H : Hp) (a : Addr) (ns : List Int), ns.length ≤ n → SqL (K w.params) H a (ns.map V.int) → sp (K w.params) [.ref a] H (fun v _ => v = .bl true) fun _ _ _ => False) :
    PySem.W.WalkO q loose XP YP l.row.toRowW d [] (fun f vs => PySem.call f vs) := by
  refine Att.attach_call most plain fun w s0 s mg mb fa o pm cd doc a us ns G Y ho hd hcd hmg at_a nums le ng => ?_
  obtain ⟨fd, bind, fn⟩ := F w mg fa _ (left w _ Y) G.T.g hmg
  exact quiet_call (left w _ Y) G.T.g G.T.b G.T.builtins G.T.nolimit ng at_a nums (Nat.le_trans le small) room fn bind fun H hS => want w H a ns le hS
end Gu
namespace Gu
open PySem PySem.Spec PyProof.Rows L2
/-! ### what can be written out -/
structure Fine (n W : Nat) (d : PyData) : Prop where
  nd : d.hasDict = false
  sh : d.showable = true
  ls : d.leavesShort 80 = true
  dp : d.depth ≤ n
  wt : d.weight ≤ W
structure FineAll (n W : Nat) (ds : List PyData) : Prop where
  nd : PyData.hasDictAll ds = false
  sh : PyData.showableAll ds = true
  ls : PyData.leavesShortAll 80 ds = true
  dp : PyData.depthAll ds ≤ n
  wt : PyData.weightAll ds ≤ ds.length * (W + 1)
theorem FineAll.of {n W : Nat} : ∀ {ds : List PyData}, (∀ d ∈ ds, Fine n W d) → FineAll n W ds
  | [], _ => ⟨rfl, rfl, rfl, Nat.zero_le _, Nat.zero_le _⟩
  | d :: ds, h => by
    have a := h d (List.mem_cons_self ..)
    have b := FineAll.of (ds := ds) fun e he => h e (List.mem_cons_of_mem _ he)
    refine ⟨?_, ?_, ?_, Nat.max_le.mpr ⟨a.dp, b.dp⟩, ?_⟩
    · show (d.hasDict || PyData.hasDictAll ds) = false
      rw [a.nd, b.nd]
      rfl
    · show (d.showable && PyData.showableAll ds) = true
      rw [a.sh, b.sh]
      rfl
    · show (d.leavesShort 80 && PyData.leavesShortAll 80 ds) = true
      rw [a.ls, b.ls]
      rfl
    · show d.weight + 1 + PyData.weightAll ds ≤ (ds.length + 1) * (W + 1)
      have := a.wt
      have := b.wt
      rw [Nat.succ_mul]
      omega
theorem FineAll.list {n W : Nat} {ds : List PyData} (a : FineAll n W ds) : Fine (n + 1) (ds.length * (W + 1)) (.list ds) := ⟨a.nd, a.sh, a.ls, Nat.succ_le_succ a.dp, a.wt⟩
theorem FineAll.tup {n W : Nat} {ds : List PyData} (a : FineAll n W ds) : Fine (n + 1) (ds.length * (W + 1)) (.tuple ds) := ⟨a.nd, a.sh, a.ls, Nat.succ_le_succ a.dp, a.wt⟩
theorem Fine.mono {n m W Z : Nat} {d : PyData} (h : Fine n W d) (a : n ≤ m) (b : W ≤ Z) : Fine m Z d := ⟨h.nd, h.sh, h.ls, Nat.le_trans h.dp a, Nat.le_trans h.wt b⟩
theorem Fine.bool (b : Bool) : Fine 0 0 (.bool b) := ⟨rfl, rfl, rfl, Nat.le_refl _, Nat.le_refl _⟩
theorem Fine.none : Fine 0 0 .none := ⟨rfl, rfl, rfl, Nat.le_refl _, Nat.le_refl _⟩
theorem Fine.int {i : Int} (h : i.natAbs < 2 ^ 70) : Fine 0 70 (.int i) := by
  have l : i.natAbs.log2 < 70 := PySem.Flt.log2_lt_of (by decide) h
  refine ⟨rfl, decide_eq_true (by omega), decide_eq_true ?_, Nat.le_refl _, ?_⟩
  · have e := int_text_length_le (a := i) (k := 70) (by decide) l
    show (Str.ofString (toString i)).length ≤ 80
    rw [PySem.ofString_length]
    omega
  · show (if i == 0 then 0 else i.natAbs.log2 + 1) ≤ 70
    split <;> omega
theorem Fine.str {z : Str} {W : Nat} (h : ∀ c ∈ z.cps.toList, c < 16 ^ 8) (w : z.cps.toList.length ≤ W) : Fine 0 W (.str z) := by
  refine ⟨rfl, rfl, ?_, Nat.le_refl _, w⟩
  show (z.cps.toList.all fun c => decide (c < 16 ^ 8)) = true
  rw [List.all_eq_true]
  exact fun c hc => decide_eq_true (h c hc)
theorem Fine.fits {d : PyData} (h : Fine 60 100000 d) : d.shown.length ≤ sizeLine := by
  have a := PyData.shown_le 80 (by decide) d h.ls
  have b := h.wt
  have c : (80 + 2) * d.weight ≤ 82 * 100000 := Nat.mul_le_mul_left _ b
  have e : sizeLine = 16777216 := by decide
  omega
section
variable {X : Cx}
/-- repr of a list or tuple, where none is being written out -/
theorem call_reprD (quiet : X.A.guards = some []) (hu : X.A.units + 64 < cLine) : CallR X (.builtin "repr") (fun xs H Q => ∃ (a : Addr) (d : PyData), xs = [.ref a] ∧ Dp X.K H (.ref a) d ∧ Fine 60 100000 d ∧ Q (.str d.shown) H) := by
  intro pins s σ H xs us Q I r h
  obtain ⟨a, d, rfl, hd, fine, q⟩ := h
  cases r with
  | cons r rr =>
    cases rr
    cases (show _ = Value.ref a from r)
    obtain ⟨as, rd⟩ := Dp.reads I d (.ref a) (.ref a) hd rfl
    have dp := fine.dp
    exact repr_of_reads' rd fine.sh (PyData.noDict_hsm fine.nd) quiet (by omega) (fun _ _ e => e) (fun g u tk keep => ⟨.str d.shown, H, I.kept (t' := tk) keep, ⟨_, rfl⟩, q⟩) fine.fits
end
end Gu
namespace Gu
open PySem PySem.Spec PyProof.Rows L2
/-! ### sets made of a list or a tuple of keys -/
/-- each once, in the order of their first coming -/
def dds {α : Type} [DecidableEq α] (ks : List α) : List α := ks.foldl (fun acc k => if k ∈ acc then acc else acc ++ [k]) []
/-- j is among ks -/
def isIn {α : Type} [DecidableEq α] (ks : List α) (j : α) : Bool := decide (j ∈ ks)
theorem dds_snoc {α : Type} [DecidableEq α] (ks : List α) (k : α) : dds (ks ++ [k]) = if k ∈ dds ks then dds ks else dds ks ++ [k] := by
  unfold dds
  rw [List.foldl_append]
  rfl
theorem mem_dds {α : Type} [DecidableEq α] {j : α} (ks : List α) : j ∈ dds ks ↔ j ∈ ks := by
  have main : ∀ (ks acc : List α), j ∈ ks.foldl (fun acc k => if k ∈ acc then acc else acc ++ [k]) acc ↔ j ∈ acc ∨ j ∈ ks := by
    intro ks
    induction ks with
    | nil =>
      intro acc
      show j ∈ acc ↔ _
      simp
    | cons k ks ih =>
      intro acc
      show j ∈ ks.foldl _ (if k ∈ acc then acc else acc ++ [k]) ↔ _
      rw [ih]
      by_cases h : k ∈ acc
      · rw [if_pos h, List.mem_cons]
        constructor
        · rintro (h1 | h1)
          · exact .inl h1
          · exact .inr (.inr h1)
        · rintro (h1 | h1 | h1)
          · exact .inl h1
          · exact .inl (h1 ▸ h)
          · exact .inr h1
      · rw [if_neg h, List.mem_append, List.mem_singleton, List.mem_cons, or_assoc]
  have := main ks []
  unfold dds
  rw [this]
  simp
theorem dds_nodup {α : Type} [DecidableEq α] (ks : List α) : (dds ks).Nodup := by
  have main : ∀ (ks acc : List α), acc.Nodup → (ks.foldl (fun acc k => if k ∈ acc then acc else acc ++ [k]) acc).Nodup := by
    intro ks
    induction ks with
    | nil => exact fun acc h => h
    | cons k ks ih =>
      intro acc h
      show (ks.foldl _ (if k ∈ acc then acc else acc ++ [k])).Nodup
      apply ih
      by_cases e : k ∈ acc
      · rw [if_pos e]
        exact h
      · rw [if_neg e, List.nodup_append]
        refine ⟨h, by simp, fun a ha b hb => ?_⟩
        rw [List.mem_singleton.mp hb]
        exact fun q => e (q ▸ ha)
  exact main ks [] List.nodup_nil
theorem dds_len {α : Type} [DecidableEq α] (ks : List α) : (dds ks).length ≤ ks.length := by
  have main : ∀ (ks acc : List α), (ks.foldl (fun acc k => if k ∈ acc then acc else acc ++ [k]) acc).length ≤ acc.length + ks.length := by
    intro ks
    induction ks with
    | nil => exact fun acc => Nat.le_refl _
    | cons k ks ih =>
      intro acc
      refine Nat.le_trans (ih _) ?_
      show (if k ∈ acc then acc else acc ++ [k]).length + _ ≤ _
      split
      · simp only [List.length_cons]
        omega
      · simp only [List.length_cons, List.length_append, List.length_nil]
        omega
  have e := main ks []
  rw [List.length_nil, Nat.zero_add] at e
  exact e
section
variable {prog : Program} {w : World} {A : Around} {R : Result → Shared → Prop} {I : Addr} {fp wr : List Addr} {G : Array GenState → Array GenState → Prop} {n : Nat} {Py : Nat → Value → Prop} {St : Nat → Shared → Prop} {α : Type} [DecidableEq α] {knd : KeyKind prog w α}
theorem fill_set (W : WalksS prog w A.in1 I fp wr G n Py St) (T : Addr) (away : T ∉ fp) (ks : List α) (many : n = ks.length) (few : ks.length + 1 < scanBound)
    (drawn : ∀ i v, Py i v → ∃ k, ks[i]? = some k ∧ knd.is k v = true ∧ v.scannable = true) :
    ∀ (left i : Nat) (s : Shared), n - i = left → i ≤ n → St i s → s.heap.SetOf knd T (isIn (ks.take i)) (dds (ks.take i)).length →
      (∀ t, Moved (T :: wr) G s t → t.heap.SetOf knd T (isIn ks) (dds ks).length → R (.ok (.ret .none)) t) →
      codeAny (model prog w) A (.builtin "set.update.loop" ⟨[.ref T, .ref I], []⟩) R s := by
  have awayW : T ∉ wr := fun h => away (W.sub _ h)
  have wider : ∀ b ∈ wr, b ∈ T :: wr := fun b q => List.mem_cons_of_mem _ q
  intro left
  induction left with
  | zero =>
    intro i s el il st so goal
    have ei : i = n := by omega
    subst ei
    refine codeAny_builtin F.entry_set_update_loop ?_
    rw [Around.under_plainId F.plain_set_update_loop _]
    show wpAny _ A.in1 (pyNext (.ref I) >>= _) _ _ s
    refine wpAny_bind (W.done s _ _ st fun t mv => ?_)
    show wpAny _ A.in1 (ret Value.none) _ _ t
    have full : ks.take i = ks := List.take_of_length_le (by omega)
    rw [full] at so
    refine wpAny_pure (goal t (mv.mono wider) ?_)
    obtain ⟨o, es, ep, tb, ho, more⟩ := so
    exact ⟨o, es, ep, tb, mv.heap T _ awayW ho, more⟩
  | succ left ih =>
    intro i s el il st so goal
    have less : i < n := by omega
    refine codeAny_builtin F.entry_set_update_loop ?_
    rw [Around.under_plainId F.plain_set_update_loop _]
    show wpAny _ A.in1 (pyNext (.ref I) >>= _) _ _ s
    refine wpAny_bind (W.item i s _ _ less st fun v t py st1 mv => ?_)
    obtain ⟨k, ek, isk, sc⟩ := drawn i v py
    have so1 : t.heap.SetOf knd T (isIn (ks.take i)) (dds (ks.take i)).length := by
      obtain ⟨o, es, ep, tb, ho, more⟩ := so
      exact ⟨o, es, ep, tb, mv.heap T _ awayW ho, more⟩
    show wpAny _ A.in1 (holding [v] (setAdd T v) >>= _) _ _ t
    refine wpAny_bind (wpAny_holding ?_)
    unfold setAdd
    refine wpAny_holding ?_
    refine wpAny_bind (knd.pyHash isk ?_)
    have room1 : (dds (ks.take i)).length + 1 < scanBound := by
      have a := dds_len (ks.take i)
      rw [List.length_take] at a
      omega
    refine wpAny_setAddHashed_of (knd := knd) (s := { t with toks := t.toks + 1 }) isk sc so1 room1 fun h2 sb so2 => ?_
    have snoc : ks.take (i + 1) = ks.take i ++ [k] := by
      rw [List.take_add_one, ek]
      rfl
    have so3 : h2.SetOf knd T (isIn (ks.take (i + 1))) (dds (ks.take (i + 1))).length := by
      have e1 : (fun j => isIn (ks.take i) j || decide (j = k)) = isIn (ks.take (i + 1)) := by
        funext j
        unfold isIn
        rw [snoc]
        simp [List.mem_append]
      have e2 : (if isIn (ks.take i) k = true then (dds (ks.take i)).length else (dds (ks.take i)).length + 1) = (dds (ks.take (i + 1))).length := by
        rw [snoc, dds_snoc]
        unfold isIn
        by_cases q : k ∈ ks.take i
        · rw [if_pos (decide_eq_true q), if_pos ((mem_dds _).mpr q)]
        · rw [if_neg (fun z => q (of_decide_eq_true z)), if_neg (fun z => q ((mem_dds _).mp z)), List.length_append]
          rfl
      rw [← e1, ← e2]
      exact so2
    refine wpAny_pure ⟨plainId_quiet F.plain_set_update_loop _, ih (i + 1) _ (by omega) less (W.frame _ t _ _ st1 (Nat.le_succ _) fun b q o e => ?_) so3 fun t2 mv2 so4 => ?_⟩
    · rw [sb.2 b (fun z : b = T => away (z ▸ q))]
      exact e
    · refine goal t2 (Moved.trans W.gtrans ((mv.mono wider).then_heap (Nat.le_succ _) fun b o q e => ?_) mv2) so4
      rw [sb.2 b (fun z : b = T => q (by rw [z]; exact List.mem_cons_self))]
      exact e
end
section
variable {prog : Program} {w : World} {A : Around} {E : Value → Shared → Prop} {s : Shared}
/-- the empty set's object, by its way of order -/
abbrev noneIn (b : Bool) : Obj := { cls := .type "set", dict := none, data := .set #[] 0 (.fresh 0 0 b) }
set_option maxHeartbeats 3200000 in
theorem init_goes {T l : Addr} {b : Bool} {Q : PySem.Fin → Shared → Prop} {TY : String} {od : Option Addr} {dt : Data} {sl : Array (Option Value)} (at_T : s.heap.get? T = some (noneIn b)) (at_l : s.heap.get? l = some { cls := .type TY, dict := od, data := dt, slots := sl })
    (notS : isSubtype (.type TY) (.type "set") = pure false) (notF : isSubtype (.type TY) (.type "frozenset") = pure false) (notD : (Value.type TY == Value.type "dict") = false)
    (h : wpAny (model prog w) A (pyIter (.ref l)) (fun a t => wpAny (model prog w) A (do let _ ← runValue (Code.builtin "set.update.loop" { pos := [Value.ref T, a] }); pure ()) (fun _ t2 => wpAny (model prog w) A (ret Value.none) Q E t2) E t) E s) :
    wpAny (model prog w) A (Builtin.«set.__init__» ⟨[.ref T, .ref l], []⟩) Q E s := by
  have isS : Shared.TypeIs s (.ref T) "set" := ⟨_, at_T, rfl⟩
  unfold Builtin.«set.__init__» noKeywords Builtin.Frozenset.updateFrom
  revert h
  generalize pyIter = PI
  intro h
  wp_walk
  exact h
end
section
variable {prog : Program} {w : World} {A : Around} {E : Value → Shared → Prop} {s : Shared} {α : Type} [DecidableEq α] {knd : KeyKind prog w α}
set_option maxHeartbeats 3200000 in
theorem call_setOfL {l : Addr} {items : Array Value} (ks : List α) {Q : Value → Shared → Prop} (calm : A.handled = none) (at_l : s.heap.IsList l items) (size : items.size = ks.length) (few : ks.length + 1 < scanBound)
    (keys : ∀ (i : Nat) (v : Value), items[i]? = some v → ∃ k : α, ks[i]? = some k ∧ knd.is k v = true ∧ v.scannable = true)
    (h : ∀ (g : Heap) (tk : Nat), g.SetOf knd s.heap.objs.size (isIn ks) (dds ks).length → (∀ b o, s.heap.get? b = some o → g.get? b = some o) → Q (.ref s.heap.objs.size) { s with heap := g, toks := tk }) :
    wpAny (model prog w) A (call (.type "set") [.ref l]) Q E s := by
  obtain ⟨c0, tl0, mro0⟩ := F.called_set.mro
  have made0 := F.called_set.made
  have sub0 := F.called_set.sub
  refine wpAny_call (codeAny_of_tree ?_)
  show wpAny _ _ (callAny (.type "set") _) _ _ _
  refine wpAny_pure ⟨Code.quiet_builtin _ (by decide +kernel), codeAny_builtin F.entry_type_call ?_⟩
  rw [Around.under_plain (weight_type_call_type "set" [.ref l] []) rfl]
  have nt0 := F.called_set.notType
  have cc0 := F.called_set.canCreate
  have tc0 := F.typeCall_set_1 (.ref l)
  repeat (any_goals (first | assumption | wp_step))
  refine codeAny_mono (code_set_new_1 (.ref l) (E := E) (Q₁ := fun x t => ∃ b : Bool, x = .ref s.heap.objs.size ∧ t = { s with heap := s.heap.push (noneIn b) }) fun b => ⟨b, rfl, rfl⟩) fun r t hr => ?_
  cases r with
  | error e => exact hr
  | ok fl =>
    cases fl with
    | next => exact (hr : False).elim
    | brk => exact (hr : False).elim
    | cont => exact (hr : False).elim
    | ret x =>
      obtain ⟨b0, rfl, rfl⟩ := hr
      have new0 : (s.heap.push (noneIn b0)).get? s.heap.objs.size = some (noneIn b0) := Heap.get?_push_size _ rfl
      have isS : Shared.TypeIs { s with heap := s.heap.push (noneIn b0) } (.ref s.heap.objs.size) "set" := ⟨_, new0, rfl⟩
      have li0 := F.called_set.init.lookup
      have bi0 := F.called_set.init.bind (.ref s.heap.objs.size)
      repeat (any_goals (first | assumption | wp_step))
      refine codeAny_mono (codeAny_call_builtin (R := wants (fun y t2 => y = .none ∧ ∃ (g : Heap) (tk : Nat), t2 = { s with heap := g, toks := tk } ∧ g.SetOf knd s.heap.objs.size (isIn ks) (dds ks).length ∧ (∀ b o, s.heap.get? b = some o → g.get? b = some o)) E)
        F.called_set.init.plain F.entry_set_init (check_set_init_1 isS ?_)) fun r2 t2 hr2 => ?_
      · obtain ⟨ol, hol, cl0, nl, dl0⟩ := at_l
        obtain ⟨ocls, odict, odata, oslots⟩ := ol
        simp only at cl0 dl0
        subst cl0
        subst dl0
        have hol1 : (s.heap.push (noneIn b0)).get? l = some { cls := .type "list", dict := odict, data := .seq items nl, slots := oslots } := Heap.get?_push_of_some _ hol
        have notS := F.sub_list_set
        have notF := F.sub_list_frozenset
        have notD : (Value.type "list" == Value.type "dict") = false := by decide
        have at1 : (s.heap.push (noneIn b0)).IsList l items := ⟨_, hol1, rfl, nl, rfl⟩
        refine init_goes (b := b0) new0 hol1 notS notF notD ?_
        refine wpAny_pyIter_list at1 ?_
        refine wpAny_bind (wpAny_runValue ?_)
        have lt0 : l < s.heap.objs.size := Heap.lt_size hol
        have calm3 : A.in1.in1.in1.handled = none := by simp [calm]
        have z1 : (s.heap.push (noneIn b0)).objs.size = s.heap.objs.size + 1 := Heap.size_push ..
        have apart : l ≠ (s.heap.push (noneIn b0)).objs.size := by
          rw [z1]
          exact Nat.ne_of_lt (Nat.lt_succ_of_lt lt0)
        have off : s.heap.objs.size ∉ [(s.heap.push (noneIn b0)).objs.size, l] := by
          rw [z1]
          intro q
          rcases List.mem_cons.mp q with q | q
          · exact absurd q (Nat.ne_of_lt (Nat.lt_succ_self _))
          · exact absurd (List.mem_singleton.mp q) (Nat.ne_of_gt lt0)
        refine fill_set ((Walks.list calm3 _ l apart items).toS) s.heap.objs.size off ks size few keys (items.size - 0) 0 _ (by omega) (Nat.zero_le _) ⟨⟨_, Heap.get?_push_size _ rfl, rfl, rfl⟩, (at1.push _)⟩ ?first ?last
        case first =>
          have got : ((s.heap.push (noneIn b0)).push { cls := .type "list_iterator", data := .fields #[.ref l, .int 0 0] }).get? s.heap.objs.size = some (noneIn b0) := Heap.get?_push_of_some _ new0
          refine ⟨_, #[], 0, _, got, ⟨rfl, rfl, rfl⟩, rfl, (fun e he => by simp at he), (fun k => by simp [isIn]), (by decide), (by rfl), rfl⟩
        case last =>
          intro t3 mv so
          obtain ⟨g, gn, dr, tk, os⟩ := t3
          have e1 : gn = s.gens := mv.gens
          have e2 : dr = s.drawn := mv.drawn
          have e3 : os = s.os := mv.os
          subst e1
          subst e2
          subst e3
          show wpAny _ _ _ _ _ _
          refine wpAny_pure ?_
          show wpAny _ _ (ret Value.none) _ _ _
          refine wpAny_pure ⟨rfl, g, tk, rfl, so, fun b o e => ?_⟩
          have below : b < s.heap.objs.size := Heap.lt_size e
          refine mv.heap b o (fun q => ?_) (Heap.get?_push_of_some _ (Heap.get?_push_of_some _ e))
          rcases List.mem_cons.mp q with q | q
          · exact absurd q (Nat.ne_of_lt below)
          · have q2 := List.mem_singleton.mp q
            rw [z1] at q2
            exact absurd q2 (Nat.ne_of_lt (Nat.lt_succ_of_lt below))
      · cases r2 with
        | error e => exact hr2
        | ok fl2 =>
          cases fl2 with
          | next => exact (hr2 : False).elim
          | brk => exact (hr2 : False).elim
          | cont => exact (hr2 : False).elim
          | ret y =>
            obtain ⟨rfl, g, tk, rfl, so, keep⟩ := hr2
            repeat (any_goals (first | assumption | wp_step))
            exact h _ _ so keep
end
section
variable {prog : Program} {w : World} {A : Around} {E : Value → Shared → Prop} {s : Shared} {α : Type} [DecidableEq α] {knd : KeyKind prog w α}
set_option maxHeartbeats 3200000 in
theorem call_setOfT {l : Addr} {items : Array Value} (ks : List α) {Q : Value → Shared → Prop} (calm : A.handled = none) (at_l : s.heap.IsTuple l items) (size : items.size = ks.length) (few : ks.length + 1 < scanBound)
    (keys : ∀ (i : Nat) (v : Value), items[i]? = some v → ∃ k : α, ks[i]? = some k ∧ knd.is k v = true ∧ v.scannable = true)
    (h : ∀ (g : Heap) (tk : Nat), g.SetOf knd s.heap.objs.size (isIn ks) (dds ks).length → (∀ b o, s.heap.get? b = some o → g.get? b = some o) → Q (.ref s.heap.objs.size) { s with heap := g, toks := tk }) :
    wpAny (model prog w) A (call (.type "set") [.ref l]) Q E s := by
  obtain ⟨c0, tl0, mro0⟩ := F.called_set.mro
  have made0 := F.called_set.made
  have sub0 := F.called_set.sub
  refine wpAny_call (codeAny_of_tree ?_)
  show wpAny _ _ (callAny (.type "set") _) _ _ _
  refine wpAny_pure ⟨Code.quiet_builtin _ (by decide +kernel), codeAny_builtin F.entry_type_call ?_⟩
  rw [Around.under_plain (weight_type_call_type "set" [.ref l] []) rfl]
  have nt0 := F.called_set.notType
  have cc0 := F.called_set.canCreate
  have tc0 := F.typeCall_set_1 (.ref l)
  repeat (any_goals (first | assumption | wp_step))
  refine codeAny_mono (code_set_new_1 (.ref l) (E := E) (Q₁ := fun x t => ∃ b : Bool, x = .ref s.heap.objs.size ∧ t = { s with heap := s.heap.push (noneIn b) }) fun b => ⟨b, rfl, rfl⟩) fun r t hr => ?_
  cases r with
  | error e => exact hr
  | ok fl =>
    cases fl with
    | next => exact (hr : False).elim
    | brk => exact (hr : False).elim
    | cont => exact (hr : False).elim
    | ret x =>
      obtain ⟨b0, rfl, rfl⟩ := hr
      have new0 : (s.heap.push (noneIn b0)).get? s.heap.objs.size = some (noneIn b0) := Heap.get?_push_size _ rfl
      have isS : Shared.TypeIs { s with heap := s.heap.push (noneIn b0) } (.ref s.heap.objs.size) "set" := ⟨_, new0, rfl⟩
      have li0 := F.called_set.init.lookup
      have bi0 := F.called_set.init.bind (.ref s.heap.objs.size)
      repeat (any_goals (first | assumption | wp_step))
      refine codeAny_mono (codeAny_call_builtin (R := wants (fun y t2 => y = .none ∧ ∃ (g : Heap) (tk : Nat), t2 = { s with heap := g, toks := tk } ∧ g.SetOf knd s.heap.objs.size (isIn ks) (dds ks).length ∧ (∀ b o, s.heap.get? b = some o → g.get? b = some o)) E)
        F.called_set.init.plain F.entry_set_init (check_set_init_1 isS ?_)) fun r2 t2 hr2 => ?_
      · obtain ⟨ol, hol, cl0, nl, dl0⟩ := at_l
        obtain ⟨ocls, odict, odata, oslots⟩ := ol
        simp only at cl0 dl0
        subst cl0
        subst dl0
        have hol1 : (s.heap.push (noneIn b0)).get? l = some { cls := .type "tuple", dict := odict, data := .seq items nl, slots := oslots } := Heap.get?_push_of_some _ hol
        have notS := F.sub_tuple_set
        have notF := F.sub_tuple_frozenset
        have notD : (Value.type "tuple" == Value.type "dict") = false := by decide
        have at1 : (s.heap.push (noneIn b0)).IsTuple l items := ⟨_, hol1, rfl, nl, rfl⟩
        refine init_goes (b := b0) new0 hol1 notS notF notD ?_
        refine wpAny_pyIter_tuple at1 ?_
        refine wpAny_bind (wpAny_runValue ?_)
        have lt0 : l < s.heap.objs.size := Heap.lt_size hol
        have calm3 : A.in1.in1.in1.handled = none := by simp [calm]
        have z1 : (s.heap.push (noneIn b0)).objs.size = s.heap.objs.size + 1 := Heap.size_push ..
        have apart : l ≠ (s.heap.push (noneIn b0)).objs.size := by
          rw [z1]
          exact Nat.ne_of_lt (Nat.lt_succ_of_lt lt0)
        have off : s.heap.objs.size ∉ [(s.heap.push (noneIn b0)).objs.size, l] := by
          rw [z1]
          intro q
          rcases List.mem_cons.mp q with q | q
          · exact absurd q (Nat.ne_of_lt (Nat.lt_succ_self _))
          · exact absurd (List.mem_singleton.mp q) (Nat.ne_of_gt lt0)
        refine fill_set ((Walks.tuple calm3 _ l apart items).toS) s.heap.objs.size off ks size few keys (items.size - 0) 0 _ (by omega) (Nat.zero_le _) ⟨⟨_, Heap.get?_push_size _ rfl, rfl, rfl⟩, (at1.push _)⟩ ?first ?last
        case first =>
          have got : ((s.heap.push (noneIn b0)).push { cls := .type "tuple_iterator", data := .fields #[.ref l, .int 0 0] }).get? s.heap.objs.size = some (noneIn b0) := Heap.get?_push_of_some _ new0
          refine ⟨_, #[], 0, _, got, ⟨rfl, rfl, rfl⟩, rfl, (fun e he => by simp at he), (fun k => by simp [isIn]), (by decide), (by rfl), rfl⟩
        case last =>
          intro t3 mv so
          obtain ⟨g, gn, dr, tk, os⟩ := t3
          have e1 : gn = s.gens := mv.gens
          have e2 : dr = s.drawn := mv.drawn
          have e3 : os = s.os := mv.os
          subst e1
          subst e2
          subst e3
          show wpAny _ _ _ _ _ _
          refine wpAny_pure ?_
          show wpAny _ _ (ret Value.none) _ _ _
          refine wpAny_pure ⟨rfl, g, tk, rfl, so, fun b o e => ?_⟩
          have below : b < s.heap.objs.size := Heap.lt_size e
          refine mv.heap b o (fun q => ?_) (Heap.get?_push_of_some _ (Heap.get?_push_of_some _ e))
          rcases List.mem_cons.mp q with q | q
          · exact absurd q (Nat.ne_of_lt below)
          · have q2 := List.mem_singleton.mp q
            rw [z1] at q2
            exact absurd q2 (Nat.ne_of_lt (Nat.lt_succ_of_lt below))
      · cases r2 with
        | error e => exact hr2
        | ok fl2 =>
          cases fl2 with
          | next => exact (hr2 : False).elim
          | brk => exact (hr2 : False).elim
          | cont => exact (hr2 : False).elim
          | ret y =>
            obtain ⟨rfl, g, tk, rfl, so, keep⟩ := hr2
            repeat (any_goals (first | assumption | wp_step))
            exact h _ _ so keep
end
theorem key_at : ∀ {ks : List Key} {us : List Value}, Vals (ks.map kV) us → ∀ (i : Nat) (v : Value), us[i]? = some v → ∃ k, ks[i]? = some k ∧ RelV (kV k) v
  | [], _, .nil, i, v, h => by simp at h
  | k :: ks, _, .cons r t, 0, v, h => by
    cases h
    exact ⟨k, rfl, r⟩
  | k :: ks, _, .cons r t, i + 1, v, h => key_at t i v h
/-- len(set(x)): how many different keys -/
def tLenSetK (K : PySem.W.Frag) (ta : TE) : TE := fun σ H Q => ta σ H fun x G => ∃ (l : Addr) (ks : List Key), x = .ref l ∧ (SqL K G l (ks.map kV) ∨ SqT K G l (ks.map kV)) ∧ ks.length ≤ 4000 ∧ Q (.int ((dds ks).length : Nat)) G
theorem pe_lenSetK {X : Cx} {a : Expr} {ta : TE} {p p2 q pos : Pos} (hg : Gl X "len") (hm : X.mg "len" = none) (hg2 : Gl X "set") (hm2 : X.mg "set" = none) (ha : PE X a ta) (calm : X.calm = true := by rfl)
    (na : starEach [a] X.env = (false, eval a X.env) :: starEach [] X.env := by rfl) : PE X (.Call (.Name "len" p) [.Call (.Name "set" p2) [a] [] q] [] pos) (tLenSetK X.K ta) := by
  refine ⟨fun pins s σ H Q I h => Call_ (ld_blt I hg hm boot_len (PyProof.Rows.callWith_builtin1 (PyProof.Rows.args_cons ?_ rfl) rfl rfl))⟩
  refine Call_ (ld_blt I hg2 hm2 boot_set (PyProof.Rows.callWith_type1 (PyProof.Rows.args_cons (thn (ha.run pins s σ H _ I h) fun v s1 ⟨x, G, I1, r1, q1⟩ => PyProof.Rows.args_nil ?_) na) na rfl))
  obtain ⟨l, ks, rfl, hq, few, q1⟩ := q1
  cases r1
  have fin : ∀ (g : Heap) (tk : Nat), g.SetOf (mixKind X.prog X.w) s1.heap.objs.size (isIn ks) (dds ks).length → (∀ b o, s1.heap.get? b = some o → g.get? b = some o) →
      wpAny (model X.prog X.w) X.A (call (.builtin "len") [.ref s1.heap.objs.size]) (fun v s' => ∃ (y : V) (J : Hp), Inv X pins σ J s' ∧ RelV y v ∧ Q y J) X.xe { s1 with heap := g, toks := tk } := by
    intro g tk so keep
    obtain ⟨o, es, ep, t, ho, hex, hd, _, _, _, hf, hn⟩ := so
    have I2 : Inv X pins σ G { s1 with heap := g, toks := tk } := I1.kept keep
    have b1 := dds_len ks
    exact call_len_set ho hex hd hf (by rw [hn]; omega) ⟨.int ((dds ks).length : Nat), G, I2.tok _, ⟨_, by rw [hn]⟩, q1⟩
  rcases hq with hq | hq
  · obtain ⟨its, r, pl, hz⟩ := I1.list hq
    have el : its.toArray.size = ks.length := by rw [List.size_toArray, ← r.length, List.length_map]
    refine call_setOfL (knd := mixKind X.prog X.w) ks (I1.ok.hd calm) pl.isList el (by unfold scanBound; omega) (fun i v hv => ?_) fun g tk so keep => PyProof.Rows.args_nil (fin g tk so keep)
    obtain ⟨k, e1, e2⟩ := key_at r i v (by simpa using hv)
    exact ⟨k, e1, kV_is e2, key_scan e2⟩
  · obtain ⟨its, r, pl, hz⟩ := I1.tuple hq
    have el : its.toArray.size = ks.length := by rw [List.size_toArray, ← r.length, List.length_map]
    refine call_setOfT (knd := mixKind X.prog X.w) ks (I1.ok.hd calm) pl el (by unfold scanBound; omega) (fun i v hv => ?_) fun g tk so keep => PyProof.Rows.args_nil (fin g tk so keep)
    obtain ⟨k, e1, e2⟩ := key_at r i v (by simpa using hv)
    exact ⟨k, e1, kV_is e2, key_scan e2⟩
end Gu
namespace Gu
open PySem PySem.Spec PyProof.Rows L2
/-! ### families of shorteners -/
inductive Kd where
  | e
  | s
  | m
def Kd.word : Kd → Str
  | .e => "end"
  | .s => "start"
  | .m => "middle"
def fam (k : Kd) (z : Str) (w : Int) : Rec := match k with
  | .e => ⟨w, w - z.length, 0, z⟩
  | .s => ⟨w, 0, w - z.length, z⟩
  | .m => ⟨w, (w - z.length) - (w - z.length) / 2, (w - z.length) / 2, z⟩
theorem fam_fit (k : Kd) {z : Str} {w : Int} (hz : isTxt z 3 = true) (h1 : (z.length : Int) ≤ w) (h2 : w ≤ 40) : (fam k z w).fit := by
  cases k
  · exact ⟨⟨show (0 : Int) ≤ w by omega, h2⟩, ⟨show (0 : Int) ≤ w - z.length by omega, show w - z.length ≤ 40 by omega⟩, ⟨show (0 : Int) ≤ 0 by omega, show (0 : Int) ≤ 40 by omega⟩, hz⟩
  · exact ⟨⟨show (0 : Int) ≤ w by omega, h2⟩, ⟨show (0 : Int) ≤ 0 by omega, show (0 : Int) ≤ 40 by omega⟩, ⟨show (0 : Int) ≤ w - z.length by omega, show w - z.length ≤ 40 by omega⟩, hz⟩
  · exact ⟨⟨show (0 : Int) ≤ w by omega, h2⟩, ⟨show (0 : Int) ≤ (w - z.length) - (w - z.length) / 2 by omega, show (w - z.length) - (w - z.length) / 2 ≤ 40 by omega⟩, ⟨show (0 : Int) ≤ (w - z.length) / 2 by omega, show (w - z.length) / 2 ≤ 40 by omega⟩, hz⟩
theorem str_eqL {y z : Str} (h : y.cps.toList = z.cps.toList) : y = z := by
  cases y with
  | mk a =>
    cases z with
    | mk b =>
      congr 1
      exact Array.toList_inj.mp h
/-- what is shown, as a text -/
def shown (rs : List Rec) (z : Str) : Str := ⟨(cuts rs z.cps.toList).toArray⟩
theorem shown_cps (rs : List Rec) (z : Str) : (shown rs z).cps.toList = cuts rs z.cps.toList := rfl
theorem shown_of {rs : List Rec} {y z : Str} (h : y.cps.toList = cuts rs z.cps.toList) : y = shown rs z := str_eqL h
theorem dds_map {α β : Type} [DecidableEq α] [DecidableEq β] {f : α → β} (inj : ∀ a b, f a = f b → a = b) (xs : List α) : dds (xs.map f) = (dds xs).map f := by
  have main : ∀ (xs acc : List α), (xs.map f).foldl (fun acc k => if k ∈ acc then acc else acc ++ [k]) (acc.map f) = (xs.foldl (fun acc k => if k ∈ acc then acc else acc ++ [k]) acc).map f := by
    intro xs
    induction xs with
    | nil => exact fun _ => rfl
    | cons x xs ih =>
      intro acc
      show (xs.map f).foldl _ (if f x ∈ acc.map f then acc.map f else acc.map f ++ [f x]) = (xs.foldl _ (if x ∈ acc then acc else acc ++ [x])).map f
      by_cases e : x ∈ acc
      · rw [if_pos e, if_pos (List.mem_map.mpr ⟨x, e, rfl⟩)]
        exact ih acc
      · rw [if_neg e, if_neg (fun h => by
          obtain ⟨y, h1, h2⟩ := List.mem_map.mp h
          exact e (inj _ _ h2 ▸ h1))]
        have := ih (acc ++ [x])
        rw [List.map_append] at this
        exact this
  exact main xs []
theorem keyS_len (zs : List Str) : (dds (zs.map (Sum.inr : Str → Key))).length = (dds zs).length := by
  rw [dds_map (fun a b h => Sum.inr.inj h), List.length_map]
/-- different texts are shown in different ways -/
def sepB (rs : List Rec) (zs : List Str) : Bool := decide ((dds (zs.map (shown rs))).length = (dds zs).length)
theorem atP_strs' {ts : List Str} {i : Nat} {x : V} (h : (ts.map V.str)[i]? = some x) : ∃ t, ts[i]? = some t ∧ x = .str t := by
  rw [List.getElem?_map] at h
  cases e : ts[i]? with
  | none =>
    rw [e] at h
    cases h
  | some t =>
    rw [e] at h
    cases h
    exact ⟨t, rfl, rfl⟩
theorem sameT {K : PySem.W.Frag} {H G : Hp} {l : Addr} {xs : List V} (a : Same H G) (h : SqT K H l xs) : SqT K G l xs := by
  rcases h with (h | ⟨o, h⟩) | h
  · exact .inl (.inl (a _ _ h))
  · exact .inl (.inr ⟨o, a _ _ h⟩)
  · exact .inr h
theorem offH {H J : Hp} {M : Addr} {o : HO} (s : Same H J) (n : H M = none) : Same H (upd J M o) := fun b x e => by
  rw [upd_ne (ne_of_none e n)]
  exact s b x e
theorem takeN {α : Type} {qs : List α} {i : Nat} {q : α} (h : qs[i]? = some q) : qs.take (i + 1) = qs.take i ++ [q] := by
  rw [List.take_add_one, h]
  rfl
section
variable {P : Program} {w : World} {K : PySem.W.Frag} {mg : Str → Option Value} {base : Heap} {C : Addr}
def spWidthsOf : Sp := fun vs H Q _ => ∃ (z : Str), vs = [.str z] ∧ isTxt z 3 = true ∧ ∀ (T : Addr), H T = none → Q (.ref T) (upd H T (.lst (rgV (z.length : Int) 41)))
def spMemberOf (C : Addr) : Sp := fun vs H Q _ => ∃ (k : Kd) (z : Str) (w : Int), vs = [.str k.word, .str z, .int w] ∧ isTxt z 3 = true ∧ (z.length : Int) ≤ w ∧ w ≤ 40 ∧ ∀ (x : Addr) (G : Hp), H x = none → ShAt C G x (fam k z w) → Same H G → Q (.ref x) G
theorem made_sh {H G : Hp} {x dx : Addr} {o1 o2 : HO} (nx : H x = none) (ndx : H dx = none) (keep : ∀ c o, upd (upd H dx o1) x o2 c = some o → c ≠ x → G c = some o) : Same H G := fun c o e => keep c o (by rw [upd_ne (ne_of_none e nx), upd_ne (ne_of_none e ndx)]; exact e) (ne_of_none e nx)
/-! ### separates -/
def spSep (K : PySem.W.Frag) (C : Addr) : Sp := fun vs H Q _ => ∃ (a T : Addr) (rs : List (Addr × Rec)) (zs : List Str), vs = [.ref a, .ref T] ∧ RowAt C H a rs ∧ SqT K H T (zs.map V.str) ∧ (∀ z ∈ zs, z.cps.toList.length ≤ 600) ∧ zs.length ≤ 100 ∧ ∀ G, Same H G → Q (.bl (sepB (rs.map (·.2)) zs)) G
theorem cal_sep (B : Bi mg) (D : At K mg "separates" s_separates ps_separates) (C_shown_by : Cal P w K mg base 2 "shown_by" ps_shown_by (spShownBy C)) : Cal P w K mg base 3 "separates" ps_separates (spSep K C) := by
  refine D.cal sc_separates (fun vs H Q E h => ?_) (fun f cdv A outer s H vs Q E hr h => ?_)
  · obtain ⟨a, T, rs, zs, rfl, _⟩ := h
    rfl
  · obtain ⟨a, T, rs, zs, rfl, hR, hT, zl, nl, k⟩ := h
    refine ⟨_, (pss_one (ps_ret (pe_cmpR op_eq (pe_lenSetK (by rfl) B.len (by rfl) B.set (pe_lc (own := [("text", 2)]) (by rfl) sc_separates.nd (pi_tup (pv 1)) (blkOk_by (own := [("text", 2)]) (N := ["row", "texts", "text"]) (sc := defScope s_separates) (by decide +kernel)) (fun _ _ _ _ _ => pg_name (i := 2) sc_separates.nd rfl (.inl rfl)) (fun _ _ _ _ _ => pts_nil) (fun _ _ _ _ _ => (pe_own C_shown_by hr (by decide) (by rfl) (pa_cons (pv 0) (pa_cons (pv 2) pa_nil)))))) (pe_lenSetK (by rfl) B.len (by rfl) B.set (pv 1)) (nomark _)))), ?_⟩
    refine ⟨_, rfl, T, rfl, ⟨_, hT⟩, fun M nM => lc_tup (K := K) (a := T) (xs := zs.map V.str) (fun i J => J M = some (.lst (((zs.take i).map (shown (rs.map (·.2)))).map V.str)) ∧ Same H J)
      ⟨upd_same, same_new nM⟩ (fun i J _ ⟨_, sJ⟩ => sameT sJ hT) ?_ ?_⟩
    · rintro i v J hi ⟨eM, sJ⟩
      obtain ⟨z, hz, rfl⟩ := atP_strs' hi
      have mz := List.mem_of_getElem? hz
      refine ⟨rfl, yes (iteT ⟨_, rfl, _, rfl, a, rs, z, rfl, hR.same sJ, zl z mz, fun y ey => ⟨_, eM, small1000 ?_, ?_, offH sJ nM⟩⟩)⟩
      · rw [List.length_map, List.length_map, List.length_take]
        omega
      · rw [upd_same, takeN hz, shown_of ey, List.map_append, List.map_append]
        rfl
    · rintro J ⟨eM, sJ⟩
      rw [List.length_map, List.take_length] at eM
      refine ⟨M, (zs.map (shown (rs.map (·.2)))).map Sum.inr, rfl, .inl (.inl (.inl ?_)), by rw [List.length_map, List.length_map]; omega, ?_⟩
      · rw [eM]
        simp only [List.map_map]
        rfl
      refine ⟨_, rfl, T, zs.map Sum.inr, rfl, .inr ?_, by rw [List.length_map]; omega, rfl, ?_⟩
      · rw [List.map_map]
        exact sameT sJ hT
      · rw [keyS_len, keyS_len]
        have e : decide (V.int ((dds (zs.map (shown (rs.map (·.2))))).length : Nat) = V.int ((dds zs).length : Nat)) = sepB (rs.map (·.2)) zs := by
          unfold sepB
          refine decide_eq_decide.mpr ⟨fun h => ?_, fun h => by rw [h]⟩
          have := V.int.inj h
          omega
        rw [e]
        exact k J sJ
end
end Gu
namespace Gu
open PySem PySem.Spec PyProof.Rows L2
/-! ### checks of kinds and texts -/
/-- a module's tuple of texts -/
structure TupC (K : PySem.W.Frag) (mg : Str → Option Value) (x : Str) (ys : List Str) : Prop where
  ex : ∃ T, mg x = some (.ref T) ∧ ∀ H : Hp, SqT K H T (ys.map V.str)
def kinds : List Str := ["end", "start", "middle"]
theorem Kd.mem (k : Kd) : k.word ∈ kinds := by
  cases k
  · exact List.mem_cons_self ..
  · exact List.mem_cons_of_mem _ (List.mem_cons_self ..)
  · exact List.mem_cons_of_mem _ (List.mem_cons_of_mem _ (List.mem_cons_self ..))
theorem kind_of {y : Str} (h : y ∈ kinds) : ∃ k : Kd, y = k.word := by
  unfold kinds at h
  simp only [List.mem_cons, List.not_mem_nil, or_false] at h
  rcases h with rfl | rfl | rfl
  · exact ⟨.e, rfl⟩
  · exact ⟨.s, rfl⟩
  · exact ⟨.m, rfl⟩
theorem inV_strs (y : Str) (ys : List Str) : inV (.str y) (ys.map V.str) = decide (y ∈ ys) := by
  induction ys with
  | nil => rfl
  | cons x xs ih =>
    show (eqV (.str x) (.str y) || inV (.str y) (xs.map V.str)) = _
    rw [ih]
    by_cases h : x = y
    · subst h
      have e : eqV (.str x) (.str x) = true := decide_eq_true rfl
      rw [e, Bool.true_or, decide_eq_true (List.mem_cons_self ..)]
    · have e : eqV (.str x) (.str y) = false := decide_eq_false fun q => h q
      rw [e, Bool.false_or]
      refine decide_eq_decide.mpr ⟨fun q => List.mem_cons_of_mem _ q, fun q => ?_⟩
      rcases List.mem_cons.mp q with q | q
      · exact absurd q.symm h
      · exact q
theorem flatS (ys : List Str) : (ys.map V.str).all flatV = true := by
  rw [List.all_map, List.all_eq_true]
  exact fun _ _ => rfl
section
variable {P : Program} {w : World} {K : PySem.W.Frag} {mg : Str → Option Value} {base : Heap} {C : Addr}
def spCheckKind : Sp := fun vs H Q _ => ∃ (k : Kd), vs = [.str k.word] ∧ Q .non H
def spTexts (K : PySem.W.Frag) : Sp := fun vs H Q _ => ∃ (l : Addr) (ts : List Str) (m : Int), vs = [.ref l, .int m] ∧ SqT K H l (ts.map V.str) ∧ (ts.length : Int) ≤ m ∧ (∀ t ∈ ts, isTxt t 200 = true) ∧ ∀ G, Same H G → Q .non G
theorem cal_texts (B : Bi mg) (D : At K mg "check_texts" s_check_texts ps_check_texts) (C_is_tuple : Cal P w K mg base 1 "is_tuple" ps_is_tuple (spIsTuple K)) (C_is_text : Cal P w K mg base 1 "is_text" ps_is_text (spIsText K)) : Cal P w K mg base 2 "check_texts" ps_check_texts (spTexts K) := by
  refine D.cal sc_check_texts (fun vs H Q E h => ?_) (fun f cdv A outer s H vs Q E hr h => ?_)
  · obtain ⟨l, ts, m, rfl, _⟩ := h
    rfl
  · obtain ⟨l, ts, m, rfl, hl, tm, wt, k⟩ := h
    refine ⟨_, (pss_cons (ps_if (pt_not (pt_val (pe_own C_is_tuple hr (by decide) (by rfl) (pa_cons (pv 0) (pa_cons pe_int (pa_cons (pv 1) pa_nil)))))) pss_never pss_nil)
      (pss_one (ps_for PassesOwn.never rfl (pi_enT (by rfl) B.enumerate (pa_cons (pv 0) pa_nil)) (pg_tup rfl (pgs_cons (pg_name (i := 2) sc_check_texts.nd rfl (.inl rfl)) (pgs_cons (pg_name (i := 3) sc_check_texts.nd rfl (.inl rfl)) pgs_nil)))
      (pss_one (ps_if (pt_not (pt_val (pe_own C_is_text hr (by decide) (by rfl) (pa_cons (pv 3) (pa_cons (pe_cst B.MOST_TEXT (by rfl)) pa_nil))))) pss_never pss_nil))))), ?_⟩
    refine ⟨_, rfl, _, rfl, _, _, _, rfl, .inl ⟨l, _, rfl, hl, _, rfl, ?_⟩⟩
    rw [decide_eq_true (show (0 : Int) ≤ ((ts.map V.str).length : Int) ∧ ((ts.map V.str).length : Int) ≤ m by rw [List.length_map]; omega)]
    refine iteF ⟨_, rfl, l, _, rfl, hl, for_it walk_enT (fun i σ J => ∃ u v, σ = [some (.ref l), some (.int m), u, v] ∧ Same H J) ⟨none, none, rfl, Same.refl H⟩ (fun i σ J _ ⟨_, _, _, sJ⟩ => sameT sJ hl) ?_ ?_⟩
    · rintro i v σ J J1 hi ⟨u, v2, rfl, sJ⟩ ⟨T, x, hx, rfl, nT, rfl⟩
      obtain ⟨t, ht, rfl⟩ := atP_strs' hx
      have mt := List.mem_of_getElem? ht
      have sT : Same H (upd J T (.tup [.int (i : Nat), .str t])) := sJ.trans (same_new nT)
      have tl := isTxt_len (wt t mt)
      refine ⟨T, _, rfl, .inl (.inl upd_same), rfl, _, _, rfl, _, _, rfl, rfl, ?_⟩
      refine ⟨_, rfl, _, _, rfl, .inl ⟨t, rfl, by omega, fun G sG => ⟨_, rfl, ?_⟩⟩⟩
      rw [show isTxt t 200 = true from wt t mt]
      exact iteF ⟨_, _, rfl, sT.trans sG⟩
    · rintro σ J ⟨u, v, rfl, sJ⟩
      exact k J sJ
/-! ### tells_apart, widths, narrowest -/
def spTells (K : PySem.W.Frag) (C : Addr) : Sp := fun vs H Q _ => ∃ (a T : Addr) (rs : List (Addr × Rec)) (zs : List Str), vs = [.ref a, .ref T] ∧ RowAt C H a rs ∧ 1 ≤ rs.length ∧ rs.length ≤ 4 ∧ SqT K H T (zs.map V.str) ∧ (∀ z ∈ zs, isTxt z 200 = true) ∧ zs.length ≤ 20 ∧ ∀ G, Same H G → Q (.bl (sepB (rs.map (·.2)) zs)) G
theorem txt_len {z : Str} (h : isTxt z 200 = true) : z.cps.toList.length ≤ 200 := by
  have a := isTxt_len h
  have e : z.length = z.cps.toList.length := rfl
  omega
theorem cal_tells (B : Bi mg) (D : At K mg "tells_apart" s_tells_apart ps_tells_apart) (C_check_row : Cal P w K mg base 2 "check_row" ps_check_row (spCheckRow C)) (C_check_texts : Cal P w K mg base 2 "check_texts" ps_check_texts (spTexts K)) (C_separates : Cal P w K mg base 3 "separates" ps_separates (spSep K C)) : Cal P w K mg base 4 "tells_apart" ps_tells_apart (spTells K C) := by
  refine D.cal sc_tells_apart (fun vs H Q E h => ?_) (fun f cdv A outer s H vs Q E hr h => ?_)
  · obtain ⟨a, T, rs, zs, rfl, _⟩ := h
    rfl
  · obtain ⟨a, T, rs, zs, rfl, hR, l1, l4, hT, zt, zl, k⟩ := h
    refine ⟨_, (pss_cons (ps_expr (pe_own C_check_row hr (by decide) (by rfl) (pa_cons (pv 0) pa_nil)))
      (pss_cons (ps_expr (pe_own C_check_texts hr (by decide) (by rfl) (pa_cons (pv 1) (pa_cons (pe_cst B.MOST_TEXTS (by rfl)) pa_nil))))
      (pss_one (ps_ret (pe_own C_separates hr (by decide) (by rfl) (pa_cons (pv 0) (pa_cons (pv 1) pa_nil))))))), ?_⟩
    refine ⟨_, rfl, a, rs, rfl, hR, l1, l4, fun G1 s1 => ⟨_, rfl, T, zs, _, rfl, sameT s1 hT, by omega, zt, fun G2 s2 => ?_⟩⟩
    have s12 := s1.trans s2
    exact ⟨_, rfl, _, rfl, a, T, rs, zs, rfl, hR.same s12, sameT s12 hT, fun z hz => Nat.le_trans (txt_len (zt z hz)) (by decide), by omega, fun G s3 => k G (s12.trans s3)⟩
/-- the widths from m on, n of them, that tell apart -/
def widL (k : Kd) (z : Str) (zs : List Str) (n : Nat) : List Int := ((List.range n).map fun i => (z.length : Int) + (i : Nat)).filter fun w => sepB [fam k z w] zs
theorem widL_succ (k : Kd) (z : Str) (zs : List Str) (n : Nat) : widL k z zs (n + 1) = widL k z zs n ++ if sepB [fam k z ((z.length : Int) + (n : Nat))] zs = true then [(z.length : Int) + (n : Nat)] else [] := by
  unfold widL
  rw [List.range_succ, List.map_append, List.filter_append]
  congr 1
  show List.filter _ [_] = _
  rw [List.filter_cons, List.filter_nil]
theorem widL_len (k : Kd) (z : Str) (zs : List Str) (n : Nat) : (widL k z zs n).length ≤ n := by
  unfold widL
  refine Nat.le_trans (List.length_filter_le _ _) ?_
  rw [List.length_map, List.length_range]
  exact Nat.le_refl n
theorem rgV_at {a b : Int} {i : Nat} {x : V} (h : (rgV a b)[i]? = some x) : x = .int (a + (i : Nat)) ∧ (i : Int) < b - a := by
  unfold rgV at h
  rw [List.getElem?_map] at h
  cases e : (List.range (b - a).toNat)[i]? with
  | none =>
    rw [e] at h
    cases h
  | some j =>
    rw [e] at h
    cases h
    obtain ⟨h1, h2⟩ := List.getElem?_eq_some_iff.mp e
    rw [List.getElem_range] at h2
    subst h2
    rw [List.length_range] at h1
    exact ⟨rfl, by omega⟩
def widAll (k : Kd) (z : Str) (zs : List Str) : List Int := widL k z zs ((41 : Int) - z.length).toNat
def spWidths (K : PySem.W.Frag) : Sp := fun vs H Q _ => ∃ (kd : Kd) (z : Str) (T : Addr) (zs : List Str), vs = [.str kd.word, .str z, .ref T] ∧ isTxt z 3 = true ∧ SqT K H T (zs.map V.str) ∧ (∀ z ∈ zs, isTxt z 200 = true) ∧ zs.length ≤ 20 ∧ ∀ (U : Addr) (G : Hp), Same H G → G U = some (.tup ((widAll kd z zs).map V.int)) → Q (.ref U) G
def firstW : List Int → V
  | [] => .non
  | i :: _ => .int i
def spNarrow (K : PySem.W.Frag) : Sp := fun vs H Q _ => ∃ (kd : Kd) (z : Str) (T : Addr) (zs : List Str), vs = [.str kd.word, .str z, .ref T] ∧ isTxt z 3 = true ∧ SqT K H T (zs.map V.str) ∧ (∀ z ∈ zs, isTxt z 200 = true) ∧ zs.length ≤ 20 ∧ ∀ (G : Hp), Same H G → Q (firstW (widAll kd z zs)) G
end
end Gu
namespace Gu
open PySem PySem.Spec PyProof.Rows L2
/-! ### the law's lists of texts, and its families -/
theorem txt_mk {z : Str} (h : Signs z.cps.toList) (l : z.cps.toList.length ≤ 200) : isTxt z 200 = true := by
  have e : z.length = z.cps.toList.length := rfl
  unfold isTxt
  rw [decide_eq_true (by omega), Bool.true_and, List.all_eq_true]
  exact fun c hc => decide_eq_true (h c hc)
theorem cutS_sub {z : Str} {lo hi : Option Int} : ∀ c ∈ (cutS z lo hi).cps.toList, c ∈ z.cps.toList := by
  intro c h
  have h : c ∈ ((z.cps.toList.drop _).take _).toArray.toList := h
  rw [List.toList_toArray] at h
  exact List.mem_of_mem_drop (List.mem_of_mem_take h)
theorem app_len (a b : Str) : (a ++ b).length = a.length + b.length := by
  show (a ++ b).cps.toList.length = _
  rw [app_cps, List.length_append]
  rfl
section
variable {P : Program} {w : World} {K : PySem.W.Frag} {mg : Str → Option Value} {base : Heap}
def spSomeLines : Sp := fun vs H Q _ => ∃ (p : Addr) (m : Int), vs = [.ref p, .int m] ∧ Pot H p ∧ 0 ≤ m ∧ m ≤ 20 ∧ ∀ (T : Addr) (G : Hp) (zs : List Str), H T = none → G T = some (.tup (zs.map V.str)) → (zs.length : Int) ≤ m → (∀ z ∈ zs, isTxt z 200 = true) → Ladled p H G → Q (.ref T) G
theorem cal_someLines (B : Bi mg) (D : At K mg "_law_some_lines" s_law_some_lines ps_law_some_lines) (C_law_ladle : Cal P w K mg base 1 "_law_ladle" ps_law_ladle spLadle) (C_law_one_of : Cal P w K mg base 2 "_law_one_of" ps_law_one_of (spOneOf K)) (C_law_line : Cal P w K mg base 3 "_law_line" ps_law_line spLine) : Cal P w K mg base 4 "_law_some_lines" ps_law_some_lines spSomeLines := by
  refine D.cal sc_law_some_lines (fun vs H Q E h => ?_) (fun f cdv A outer s H vs Q E hr h => ?_)
  · obtain ⟨p, m, rfl, _⟩ := h
    rfl
  · obtain ⟨p, m, rfl, hp, m0, m1, k⟩ := h
    refine ⟨_, (pss_cons (ps_par (i := 2) (j := 3) (by rfl) sc_law_some_lines.nd rfl rfl (by decide) rfl rfl (pa_cons (pe_own C_law_line hr (by decide) (by rfl) (pa_cons (pv 0) (pa_cons (pe_own C_law_ladle hr (by decide) (by rfl) (pa_cons (pv 0) (pa_cons (pe_own C_law_one_of hr (by decide) (by rfl) (pa_cons (pv 0) (pa_cons (pe_lst (pa_cons pe_int (pa_cons pe_int (pa_cons pe_int pa_nil)))) pa_nil))) pa_nil))) pa_nil))) (pa_cons (pe_lst pa_nil) pa_nil)) (by rfl))
      (pss_cons (ps_for PassesOwn.never rfl (pi_range1 (by rfl) B.range (pa_cons (pe_own C_law_ladle hr (by decide) (by rfl) (pa_cons (pv 0) (pa_cons (pe_op op_add (pv 1) pe_int) pa_nil))) pa_nil)) (pg_name (i := 4) sc_law_some_lines.nd rfl (.inl rfl))
      (pss_cons (ps_par (i := 5) (j := 6) (by rfl) sc_law_some_lines.nd rfl rfl (by decide) rfl rfl (pa_cons (pe_own C_law_ladle hr (by decide) (by rfl) (pa_cons (pv 0) (pa_cons pe_int pa_nil))) (pa_cons (pe_own C_law_ladle hr (by decide) (by rfl) (pa_cons (pv 0) (pa_cons (pe_op op_add (pe_callB call_len (by rfl) B.len (by decide +kernel) (pa_cons (pv 2) pa_nil)) pe_int) pa_nil))) pa_nil)) (by rfl))
      (pss_cons (ps_set (i := 7) sc_law_some_lines.nd rfl (.inl rfl) (pe_op op_add_str (pe_op op_add_str (pe_slice sl_str (pv 2) po_none (po_some (pv 6))) (pe_own C_law_line hr (by decide) (by rfl) (pa_cons (pv 0) (pa_cons (pe_own C_law_ladle hr (by decide) (by rfl) (pa_cons (pv 0) (pa_cons pe_int pa_nil))) pa_nil)))) (pe_slice sl_str (pv 2) (po_some (pe_op op_add (pv 6) (pe_own C_law_ladle hr (by decide) (by rfl) (pa_cons (pv 0) (pa_cons pe_int pa_nil))))) po_none)))
      (pss_one (ps_expr (pe_bm PySem.F.plainAttrs_list PySem.F.slot_list_append PySem.F.type_list_append mt_append (pv 3) (pa_cons (pe_own C_law_one_of hr (by decide) (by rfl) (pa_cons (pv 0) (pa_cons (pe_lst (pa_cons (pv 2) (pa_cons (pv 7) (pa_cons (pv 7) (pa_cons (pv 7) (pa_cons (pe_own C_law_line hr (by decide) (by rfl) (pa_cons (pv 0) (pa_cons pe_int pa_nil))) pa_nil)))))) pa_nil))) pa_nil)))))))
      (pss_one (ps_ret (pe_callTy call_tuple_of (by rfl) B.tuple (by decide +kernel) (pa_cons (pv 3) pa_nil)))))), ?_⟩
    refine ⟨_, rfl, _, rfl, _, rfl, by show 3 ≤ sizeLine; decide, fun q0 n0 => ?_⟩
    have L0 : Ladled p H (upd H q0 (.lst [.int 6, .int 20, .int 45])) := .ofSame hp (same_new n0)
    refine ⟨p, L0.pot, .inl ⟨q0, _, rfl, .inl (.inl upd_same), hp.ne n0, by decide, by decide, fun v G1 hv L1 => ?_⟩⟩
    obtain ⟨n, e0, e1, rfl⟩ : ∃ n : Int, 1 ≤ n ∧ n ≤ 45 ∧ v = .int n := by
      simp only [List.mem_cons, List.not_mem_nil, or_false] at hv
      rcases hv with rfl | rfl | rfl <;> exact ⟨_, by decide, by decide, rfl⟩
    have M1 := L0.trans L1
    refine ⟨p, n, rfl, M1.pot, by omega, by omega, fun d G2 d0 d1 L2 => ?_⟩
    have M2 := M1.trans L2
    refine ⟨p, d, rfl, M2.pot, d0, by omega, fun stem G3 L3 ly ty => ?_⟩
    have M3 := M2.trans L3
    have sg := isTxt_signs ty
    have sl : stem.length = stem.cps.toList.length := rfl
    have sz : stem.length ≤ sizeLine := Nat.le_of_lt (small1000 (by omega))
    refine ⟨Nat.zero_le _, fun F nF => ⟨_, _, rfl, ?_⟩⟩
    have hF : H F = none := M3.free nF
    have nFp : F ≠ p := M3.pot.ne nF
    have M4 : Ladled p H (upd G3 F (.lst [])) := M3.new nF
    have eF : upd G3 F (.lst []) F = some (.lst []) := upd_same
    generalize upd G3 F (.lst []) = G4 at M4 eF
    refine ⟨_, rfl, _, rfl, _, _, rfl, rfl, p, m + 1, rfl, M4.pot, by omega, by omega, fun t G5 t0 t1 L5 => ?_⟩
    have M5 := M4.trans L5
    have eF5 := L5.keep _ _ eF nFp
    refine ⟨t, rfl, by omega, by omega, for_range (lo := 0) (n := t.toNat) (fun i σ J => ∃ (zs : List Str) (a b c d : Option V), σ = [some (.ref p), some (.int m), some (.str stem), some (.ref F), a, b, c, d] ∧ zs.length = i ∧ J F = some (.lst (zs.map V.str)) ∧ (∀ z ∈ zs, isTxt z 200 = true) ∧ Ladled p H J)
      ⟨[], none, none, none, none, rfl, rfl, eF5, (fun z hz => by cases hz), M5⟩ ?_ ?_⟩
    · rintro i σ J hi ⟨zs, a, b, c, d, rfl, rfl, eJ, tz, M⟩
      refine ⟨_, rfl, p, 5, rfl, M.pot, by decide, by decide, fun d1 H1 d10 d11 N1 => ?_⟩
      have M6 := M.trans N1
      refine ⟨_, rfl, _, rfl, _, _, rfl, ⟨sz, rfl⟩, _, _, rfl, rfl, p, _, rfl, M6.pot, by omega, by omega, fun d2 H2 d20 d21 N2 => ⟨_, _, rfl, ?_⟩⟩
      have M7 := M6.trans N2
      refine ⟨_, rfl, _, rfl, _, rfl, stem, rfl, sz, _, rfl, _, rfl, p, 3, rfl, M7.pot, by decide, by decide, fun d3 H3 d30 d31 N3 => ?_⟩
      have M8 := M7.trans N3
      refine ⟨p, d3, rfl, M8.pot, d30, by omega, fun y H4 N4 yl yt => ?_⟩
      have M9 := M8.trans N4
      have yl2 : y.length = y.cps.toList.length := rfl
      have c1 := cutS_length stem none (some d2)
      refine ⟨_, _, rfl, rfl, Nat.le_of_lt (small1000 (by omega)), ?_⟩
      refine ⟨_, rfl, _, rfl, _, rfl, p, 2, rfl, M9.pot, by decide, by decide, fun d4 H5 d40 d41 N5 => ?_⟩
      have M10 := M9.trans N5
      have c2 := cutS_length stem (some (d2 + d4)) none
      have al := app_len (cutS stem none (some d2)) y
      refine ⟨_, _, rfl, rfl, _, rfl, stem, rfl, sz, _, _, rfl, rfl, Nat.le_of_lt (small1000 (by omega)), ?_⟩
      have lt : isTxt (cutS stem none (some d2) ++ y ++ cutS stem (some (d2 + d4)) none) 200 = true := by
        have al2 := app_len (cutS stem none (some d2) ++ y) (cutS stem (some (d2 + d4)) none)
        refine txt_mk (fun c hc => ?_) (show (cutS stem none (some d2) ++ y ++ cutS stem (some (d2 + d4)) none).length ≤ 200 by omega)
        rw [app_cps, app_cps, List.mem_append, List.mem_append] at hc
        rcases hc with (hc | hc) | hc
        · exact sg c (cutS_sub c hc)
        · exact isTxt_signs yt c hc
        · exact sg c (cutS_sub c hc)
      generalize cutS stem none (some d2) ++ y ++ cutS stem (some (d2 + d4)) none = line at lt
      have eJ5 := N5.keep _ _ (N4.keep _ _ (N3.keep _ _ (N2.keep _ _ (N1.keep _ _ eJ nFp) nFp) nFp) nFp) nFp
      refine ⟨_, rfl, .inl ⟨rfl, _, .inl (.inl eJ5)⟩, _, rfl, _, rfl, _, rfl, _, rfl, _, rfl, _, rfl, p, 4, rfl, M10.pot, by decide, by decide, fun y2 H6 N6 y2l y2t => ?_⟩
      have M11 := M10.trans N6
      refine ⟨by show 5 ≤ sizeLine; decide, fun q nq => ?_⟩
      have M12 : Ladled p H (upd H6 q (.lst [.str stem, .str line, .str line, .str line, .str y2])) := M11.new nq
      refine ⟨p, M12.pot, .inl ⟨q, _, rfl, .inl (.inl upd_same), M11.pot.ne nq, by show 0 < 5; decide, by show 5 < 1000; decide, fun v H7 hv N7 => ?_⟩⟩
      obtain ⟨z, rfl, tz2⟩ : ∃ z : Str, v = .str z ∧ isTxt z 200 = true := by
        simp only [List.mem_cons, List.not_mem_nil, or_false] at hv
        rcases hv with rfl | rfl | rfl | rfl | rfl
        · exact ⟨_, rfl, ty⟩
        · exact ⟨_, rfl, lt⟩
        · exact ⟨_, rfl, lt⟩
        · exact ⟨_, rfl, lt⟩
        · exact ⟨_, rfl, y2t⟩
      have eJ7 : H7 F = some (.lst (zs.map V.str)) := N7.keep _ _ (same_new nq _ _ (N6.keep _ _ eJ5 nFp)) nFp
      refine ⟨F, _, _, rfl, rfl, eJ7, small1000 (by rw [List.length_map]; omega), zs ++ [z], _, _, _, _, rfl, by rw [List.length_append]; rfl, ?_, fun x hx => ?_, (M12.trans N7).mut hF nFp⟩
      · rw [upd_same, List.map_append]
        rfl
      · rcases List.mem_append.mp hx with hx | hx
        · exact tz x hx
        · rw [List.mem_singleton.mp hx]
          exact tz2
    · rintro σ J ⟨zs, a, b, c, d, rfl, el, eJ, tz, M⟩
      refine ⟨_, rfl, F, _, rfl, .inl ⟨.inl (.inl eJ), fun T nT => k T _ zs (M.free nT) upd_same (by omega) tz (M.new nT)⟩⟩
def spFamily : Sp := fun vs H Q _ => ∃ (kd : Kd) (z : Str) (w : Int), vs = [.str kd.word, .str z, .int w] ∧ z.length ≤ 1000 ∧ ∀ (T : Addr), H T = none → Q (.ref T) (upd H T (.tup (fam kd z w).vs))
end
end Gu
namespace Gu
open PySem PySem.Spec PyProof.Rows L2
/-! ### when different texts are shown in different ways -/
theorem len_sub {α : Type} [DecidableEq α] : ∀ (xs : List α) {ys : List α}, xs.Nodup → (∀ x ∈ xs, x ∈ ys) → xs.length ≤ ys.length
  | [], ys, _, _ => Nat.zero_le _
  | x :: xs, ys, nd, sub => by
    have nd := List.nodup_cons.mp nd
    have hx := sub x (List.mem_cons_self ..)
    have := len_sub xs (ys := ys.erase x) nd.2 fun y hy => by
      have ne : y ≠ x := fun e => nd.1 (e ▸ hy)
      exact (List.mem_erase_of_ne ne).mpr (sub y (List.mem_cons_of_mem _ hy))
    rw [List.length_erase_of_mem hx] at this
    have : 0 < ys.length := List.length_pos_of_mem hx
    simp only [List.length_cons]
    omega
theorem dds_mapOn {α β : Type} [DecidableEq α] [DecidableEq β] {f : α → β} (xs : List α) (inj : ∀ a ∈ xs, ∀ b ∈ xs, f a = f b → a = b) : dds (xs.map f) = (dds xs).map f := by
  have main : ∀ (ys acc : List α), (∀ a, a ∈ ys ∨ a ∈ acc → a ∈ xs) → (ys.map f).foldl (fun acc k => if k ∈ acc then acc else acc ++ [k]) (acc.map f) = (ys.foldl (fun acc k => if k ∈ acc then acc else acc ++ [k]) acc).map f := by
    intro ys
    induction ys with
    | nil => exact fun _ _ => rfl
    | cons x ys ih =>
      intro acc sub
      show (ys.map f).foldl _ (if f x ∈ acc.map f then acc.map f else acc.map f ++ [f x]) = (ys.foldl _ (if x ∈ acc then acc else acc ++ [x])).map f
      by_cases e : x ∈ acc
      · rw [if_pos e, if_pos (List.mem_map.mpr ⟨x, e, rfl⟩)]
        exact ih acc fun a ha => sub a (ha.imp (fun h => List.mem_cons_of_mem _ h) id)
      · rw [if_neg e, if_neg (fun h => by
          obtain ⟨y, h1, h2⟩ := List.mem_map.mp h
          exact e (inj _ (sub y (.inr h1)) _ (sub x (.inl (List.mem_cons_self ..))) h2 ▸ h1))]
        have := ih (acc ++ [x]) fun a ha => by
          rcases ha with ha | ha
          · exact sub a (.inl (List.mem_cons_of_mem _ ha))
          · rcases List.mem_append.mp ha with ha | ha
            · exact sub a (.inr ha)
            · rw [List.mem_singleton.mp ha]
              exact sub x (.inl (List.mem_cons_self ..))
        rw [List.map_append] at this
        exact this
  exact main xs [] fun a ha => ha.elim id fun h => by cases h
theorem dds_inj {α β : Type} [DecidableEq α] [DecidableEq β] {f : α → β} (xs : List α) (h : (dds (xs.map f)).length = (dds xs).length) : ∀ a ∈ xs, ∀ b ∈ xs, f a = f b → a = b := fun a ha b hb e => by
  refine Decidable.byContradiction fun ne => ?_
  have hb2 : b ∈ dds xs := (mem_dds xs).mpr hb
  have le := len_sub (dds (xs.map f)) (ys := ((dds xs).erase b).map f) (dds_nodup _) fun y hy => by
    obtain ⟨x, hx, rfl⟩ := List.mem_map.mp ((mem_dds _).mp hy)
    by_cases q : x = b
    · exact List.mem_map.mpr ⟨a, (List.mem_erase_of_ne ne).mpr ((mem_dds xs).mpr ha), by rw [q, e]⟩
    · exact List.mem_map.mpr ⟨x, (List.mem_erase_of_ne q).mpr ((mem_dds xs).mpr hx), rfl⟩
  rw [List.length_map, List.length_erase_of_mem hb2] at le
  have := List.length_pos_of_mem hb2
  omega
theorem sepB_iff {rs : List Rec} {zs : List Str} : sepB rs zs = true ↔ ∀ a ∈ zs, ∀ b ∈ zs, shown rs a = shown rs b → a = b := by
  unfold sepB
  rw [decide_eq_true_iff]
  refine ⟨dds_inj zs, fun h => ?_⟩
  rw [dds_mapOn zs h, List.length_map]
end Gu
namespace Gu
open PySem PySem.Spec PyProof.Rows L2
/-! ### places of equal texts -/
def idxs (ss : List Str) (s : Str) : List Nat := (List.range ss.length).filter fun j => decide (ss[j]? = some s)
theorem idxs_snoc (ss : List Str) (y s : Str) : idxs (ss ++ [y]) s = idxs ss s ++ if s = y then [ss.length] else [] := by
  unfold idxs
  rw [List.length_append, show [y].length = 1 from rfl, List.range_succ, List.filter_append]
  congr 1
  · refine List.filter_congr fun j hj => ?_
    rw [List.getElem?_append_left (List.mem_range.mp hj)]
  · rw [List.filter_cons, List.filter_nil, List.getElem?_append_right (Nat.le_refl _), Nat.sub_self]
    by_cases e : s = y
    · rw [if_pos e, if_pos (decide_eq_true (by rw [e]; rfl))]
    · rw [if_neg e, if_neg (show ¬ decide ([y][0]? = some s) = true from fun h => e (Option.some.inj (show some y = some s from of_decide_eq_true h)).symm)]
theorem idxs_mem {ss : List Str} {s : Str} {j : Nat} : j ∈ idxs ss s ↔ ss[j]? = some s := by
  unfold idxs
  rw [List.mem_filter, List.mem_range, decide_eq_true_iff]
  exact ⟨fun h => h.2, fun h => ⟨(List.getElem?_eq_some_iff.mp h).1, h⟩⟩
theorem idxs_none {ss : List Str} {s : Str} (h : s ∉ ss) : idxs ss s = [] := by
  refine List.eq_nil_iff_forall_not_mem.mpr fun j hj => h ?_
  exact List.mem_of_getElem? (idxs_mem.mp hj)
theorem idxs_len (ss : List Str) (s : Str) : (idxs ss s).length ≤ ss.length := by
  unfold idxs
  refine Nat.le_trans (List.length_filter_le _ _) ?_
  rw [List.length_range]
  exact Nat.le_refl _
def glL (ss : List Str) : List (Str × List Nat) := (dds ss).map fun s => (s, idxs ss s)
theorem glL_old {ss : List Str} {y : Str} (h : y ∈ ss) : glL (ss ++ [y]) = (glL ss).map fun g => if g.1 = y then (g.1, g.2 ++ [ss.length]) else g := by
  unfold glL
  rw [dds_snoc, if_pos ((mem_dds ss).mpr h), List.map_map]
  refine List.map_congr_left fun s _ => ?_
  rw [idxs_snoc]
  show (s, idxs ss s ++ _) = if s = y then (s, idxs ss s ++ [ss.length]) else (s, idxs ss s)
  by_cases e : s = y
  · rw [if_pos e, if_pos e]
  · rw [if_neg e, if_neg e, List.append_nil]
theorem glL_new {ss : List Str} {y : Str} (h : y ∉ ss) : glL (ss ++ [y]) = glL ss ++ [(y, [ss.length])] := by
  unfold glL
  rw [dds_snoc, if_neg (fun q => h ((mem_dds ss).mp q)), List.map_append]
  congr 1
  · refine List.map_congr_left fun s hs => ?_
    rw [idxs_snoc, if_neg (fun e => h (by rw [← e]; exact (mem_dds ss).mp hs)), List.append_nil]
  · show [(y, idxs (ss ++ [y]) y)] = _
    rw [idxs_snoc, if_pos rfl, idxs_none h]
    rfl
def rLenG (K : PySem.W.Frag) : List V → Hp → VK → Prop := fun xs H Q => ∃ (x : V) (n : Nat), xs = [x] ∧ LenV K x H n ∧ Q (.int n) H
def rTupG (K : PySem.W.Frag) : List V → Hp → VK → Prop := fun xs H Q => ∃ p ys, xs = [.ref p] ∧ ((SqL K H p ys ∧ ∀ l, H l = none → Q (.ref l) (upd H l (.tup ys))) ∨ (SqT K H p ys ∧ Q (.ref p) H))
def natI (n : Nat) : V := .int (n : Int)
/-- a group: its form, the place of its list, its places -/
structure Gr where
  key : Str
  ad : Addr
  pl : List Nat
def gkv (gs : List Gr) : List (Key × V) := gs.map fun g => (Sum.inr g.key, V.ref g.ad)
theorem gkv_some : ∀ {gs : List Gr} {y : Str} {v : V}, valV (gkv gs) (Sum.inr y) = some v → ∃ g ∈ gs, g.key = y ∧ v = .ref g.ad
  | [], _, _, h => by cases h
  | g :: gs, y, v, h => by
    by_cases e : g.key = y
    · have := valV_pos (p := (Sum.inr g.key, V.ref g.ad)) (r := gkv gs) (k := (Sum.inr y : Key)) (by rw [e])
      rw [show gkv (g :: gs) = (Sum.inr g.key, V.ref g.ad) :: gkv gs from rfl, this] at h
      exact ⟨g, List.mem_cons_self .., e, (Option.some.inj h).symm⟩
    · rw [show gkv (g :: gs) = (Sum.inr g.key, V.ref g.ad) :: gkv gs from rfl, valV_neg (fun q => e (Sum.inr.inj q))] at h
      obtain ⟨g2, h1, h2⟩ := gkv_some h
      exact ⟨g2, List.mem_cons_of_mem _ h1, h2⟩
theorem gkv_none : ∀ {gs : List Gr} {y : Str}, valV (gkv gs) (Sum.inr y) = none → ∀ g ∈ gs, g.key ≠ y
  | [], _, _, g, hg => by cases hg
  | g :: gs, y, h, g2, hg => by
    have ne : g.key ≠ y := fun e => by
      have := valV_pos (p := (Sum.inr g.key, V.ref g.ad)) (r := gkv gs) (k := (Sum.inr y : Key)) (by rw [e])
      rw [show gkv (g :: gs) = (Sum.inr g.key, V.ref g.ad) :: gkv gs from rfl, this] at h
      cases h
    rcases List.mem_cons.mp hg with rfl | hg
    · exact ne
    · rw [show gkv (g :: gs) = (Sum.inr g.key, V.ref g.ad) :: gkv gs from rfl, valV_neg (fun q => ne (Sum.inr.inj q))] at h
      exact gkv_none h g2 hg
/-- the groups as they stand -/
structure GrAt (J : Hp) (gs : List Gr) : Prop where
  at_ : ∀ g ∈ gs, J g.ad = some (.lst (g.pl.map natI))
  ai : ∀ g ∈ gs, ∀ h ∈ gs, g.ad = h.ad → g.key = h.key
  ki : ∀ g ∈ gs, ∀ h ∈ gs, g.key = h.key → g = h
theorem GrAt.same {H G : Hp} {gs : List Gr} (s : Same H G) (h : GrAt H gs) : GrAt G gs := ⟨fun g hg => s _ _ (h.at_ g hg), h.ai, h.ki⟩
def addAt (y : Str) (n : Nat) (g : Gr) : Gr := if g.key = y then ⟨g.key, g.ad, g.pl ++ [n]⟩ else g
theorem addAt_key (y : Str) (n : Nat) (g : Gr) : (addAt y n g).key = g.key := by
  unfold addAt
  split <;> rfl
theorem addAt_ad (y : Str) (n : Nat) (g : Gr) : (addAt y n g).ad = g.ad := by
  unfold addAt
  split <;> rfl
theorem gkv_add (y : Str) (n : Nat) (gs : List Gr) : gkv (gs.map (addAt y n)) = gkv gs := by
  unfold gkv
  rw [List.map_map]
  refine List.map_congr_left fun g _ => ?_
  show (Sum.inr (addAt y n g).key, V.ref (addAt y n g).ad) = _
  rw [addAt_key, addAt_ad]
theorem GrAt.add {J : Hp} {gs : List Gr} {g : Gr} {n : Nat} (h : GrAt J gs) (hg : g ∈ gs) : GrAt (upd J g.ad (.lst (g.pl.map natI ++ [natI n]))) (gs.map (addAt g.key n)) := by
  refine ⟨fun x hx => ?_, fun x hx y hy e => ?_, fun x hx y hy e => ?_⟩
  · obtain ⟨x, mx, rfl⟩ := List.mem_map.mp hx
    rw [addAt_ad]
    by_cases e : x.ad = g.ad
    · have ek := h.ai x mx g hg e
      have ex := h.ki x mx g hg ek
      subst ex
      rw [upd_same]
      unfold addAt
      rw [if_pos rfl, List.map_append]
      rfl
    · rw [upd_ne e, h.at_ x mx]
      unfold addAt
      rw [if_neg fun q => e (by rw [h.ki x mx g hg q])]
  · obtain ⟨x, mx, rfl⟩ := List.mem_map.mp hx
    obtain ⟨y, my, rfl⟩ := List.mem_map.mp hy
    rw [addAt_ad, addAt_ad] at e
    rw [addAt_key, addAt_key]
    exact h.ai x mx y my e
  · obtain ⟨x, mx, rfl⟩ := List.mem_map.mp hx
    obtain ⟨y, my, rfl⟩ := List.mem_map.mp hy
    rw [addAt_key, addAt_key] at e
    rw [h.ki x mx y my e]
theorem GrAt.new {J : Hp} {gs : List Gr} {y : Str} {L : Addr} {n : Nat} (h : GrAt J gs) (nL : ∀ g ∈ gs, g.ad ≠ L) (no : ∀ g ∈ gs, g.key ≠ y) : GrAt (upd J L (.lst [natI n])) (gs ++ [⟨y, L, [n]⟩]) := by
  refine ⟨fun x hx => ?_, fun a ha b hb e => ?_, fun a ha b hb e => ?_⟩
  · rcases List.mem_append.mp hx with hx | hx
    · rw [upd_ne (nL x hx)]
      exact h.at_ x hx
    · rw [List.mem_singleton.mp hx]
      exact upd_same
  · rcases List.mem_append.mp ha with ha | ha
    · rcases List.mem_append.mp hb with hb | hb
      · exact h.ai a ha b hb e
      · rw [List.mem_singleton.mp hb] at e
        exact absurd e (nL a ha)
    · rcases List.mem_append.mp hb with hb | hb
      · rw [List.mem_singleton.mp ha] at e
        exact absurd e.symm (nL b hb)
      · rw [List.mem_singleton.mp ha, List.mem_singleton.mp hb]
  · rcases List.mem_append.mp ha with ha | ha
    · rcases List.mem_append.mp hb with hb | hb
      · exact h.ki a ha b hb e
      · rw [List.mem_singleton.mp hb] at e
        exact absurd e (no a ha)
    · rcases List.mem_append.mp hb with hb | hb
      · rw [List.mem_singleton.mp ha] at e
        exact absurd e.symm (no b hb)
      · rw [List.mem_singleton.mp ha, List.mem_singleton.mp hb]
def grpL (ss : List Str) : List (List Nat) := ((glL ss).map (·.2)).filter fun l => decide (1 < l.length)
/-- tuples of numbers in the heap -/
def Tns (G : Hp) (ts : List (Addr × List Nat)) : Prop := ∀ t ∈ ts, G t.1 = some (.tup (t.2.map natI))
theorem Tns.same {H G : Hp} {ts : List (Addr × List Nat)} (s : Same H G) (h : Tns H ts) : Tns G ts := fun q hq => s _ _ (h q hq)
theorem Tns.list {H : Hp} {M : Addr} {acc ys : List V} {ts : List (Addr × List Nat)} (h : Tns H ts) (e : H M = some (.lst acc)) : Tns (upd H M (.lst ys)) ts := fun q hq => by
  rw [upd_ne (ne_of (h q hq) e (by intro z; cases z))]
  exact h q hq
theorem Tns.snoc {H : Hp} {ts : List (Addr × List Nat)} {a : Addr} {l : List Nat} (h : Tns H ts) (e : H a = some (.tup (l.map natI))) : Tns H (ts ++ [(a, l)]) := fun q hq => by
  rcases List.mem_append.mp hq with hq | hq
  · exact h q hq
  · rw [List.mem_singleton.mp hq]
    exact e
section
variable {P : Program} {w : World} {K : PySem.W.Frag} {mg : Str → Option Value} {base : Heap} {C : Addr}
def spGroups (K : PySem.W.Frag) (C : Addr) : Sp := fun vs H Q _ => ∃ (a T : Addr) (rs : List (Addr × Rec)) (zs : List Str), vs = [.ref a, .ref T] ∧ RowAt C H a rs ∧ 1 ≤ rs.length ∧ rs.length ≤ 4 ∧ SqT K H T (zs.map V.str) ∧ (∀ z ∈ zs, isTxt z 200 = true) ∧ zs.length ≤ 20 ∧
  ∀ (U : Addr) (G : Hp) (ts : List (Addr × List Nat)), Same H G → G U = some (.tup (ts.map fun t => V.ref t.1)) → Tns G ts → ts.map (·.2) = grpL (zs.map (shown (rs.map (·.2)))) → Q (.ref U) G
theorem cal_groups (B : Bi mg) (D : At K mg "groups" s_groups ps_groups) (C_check_row : Cal P w K mg base 2 "check_row" ps_check_row (spCheckRow C)) (C_check_texts : Cal P w K mg base 2 "check_texts" ps_check_texts (spTexts K)) (C_shown_by : Cal P w K mg base 2 "shown_by" ps_shown_by (spShownBy C)) : Cal P w K mg base 3 "groups" ps_groups (spGroups K C) := by
  refine D.cal sc_groups (fun vs H Q E h => ?_) (fun f cdv A outer s H vs Q E hr h => ?_)
  · obtain ⟨a, T, rs, zs, rfl, _⟩ := h
    rfl
  · obtain ⟨a, T, rs, zs, rfl, hR, l1, l4, hT, zt, zl, k⟩ := h
    refine ⟨_, (pss_cons (ps_expr (pe_own C_check_row hr (by decide) (by rfl) (pa_cons (pv 0) pa_nil)))
      (pss_cons (ps_expr (pe_own C_check_texts hr (by decide) (by rfl) (pa_cons (pv 1) (pa_cons (pe_cst B.MOST_TEXTS (by rfl)) pa_nil))))
      (pss_cons (ps_set (i := 2) sc_groups.nd rfl (.inl rfl) pe_dnewK)
      (pss_cons (ps_for PassesOwn.never rfl (pi_enT (by rfl) B.enumerate (pa_cons (pv 1) pa_nil)) (pg_tup rfl (pgs_cons (pg_name (i := 3) sc_groups.nd rfl (.inl rfl)) (pgs_cons (pg_name (i := 4) sc_groups.nd rfl (.inl rfl)) pgs_nil)))
      (pss_one (ps_expr (pe_bm PySem.F.plainAttrs_list PySem.F.slot_list_append PySem.F.type_list_append mt_append (pe_dsetd (pv 2) (pe_own C_shown_by hr (by decide) (by rfl) (pa_cons (pv 0) (pa_cons (pv 4) pa_nil))) (pe_lst pa_nil) ⟨rfl, rfl, rfl, rfl⟩) (pa_cons (pv 3) pa_nil)))))
      (pss_one (ps_ret (pe_callTy call_tuple_of (by rfl) B.tuple (by decide +kernel) (pa_cons (pe_lock (pe_lc (own := [("shared", 5)]) (by rfl) sc_groups.nd (pi_values (pv 2)) (blkOk_by (own := [("shared", 5)]) (N := ["row", "texts", "places", "place", "text", "shared"]) (sc := defScope s_groups) (by decide +kernel)) (fun _ _ _ _ _ => pg_name (i := 5) sc_groups.nd rfl (.inl rfl)) (fun _ _ _ _ _ => (pts_one (pt_cmpR op_gt (pe_callB (id := "len") (r := rLenG K) call_len (by rfl) B.len (by decide +kernel) (pa_cons (pv 5) pa_nil)) pe_int (nomark _)))) (fun _ _ _ _ _ => (pe_callTy (r := rTupG K) call_tuple_of (by rfl) B.tuple (by decide +kernel) (pa_cons (pv 5) pa_nil))))) pa_nil)))))))), ?_⟩
    obtain ⟨rr, hrr⟩ : ∃ rr : List Rec, rr = rs.map (·.2) := ⟨_, rfl⟩
    rw [← hrr] at k
    refine ⟨_, rfl, a, rs, rfl, hR, l1, l4, fun G1 s1 => ⟨_, rfl, T, zs, _, rfl, sameT s1 hT, by omega, zt, fun G2 s2 => ?_⟩⟩
    have s12 := s1.trans s2
    intro d nd
    have sd : Same G2 (upd G2 d (.dK [])) := same_new nd
    refine ⟨_, rfl, T, _, rfl, sameT (s12.trans sd) hT, for_it walk_enT (fun i σ J => ∃ (u v : Option V) (gs : List Gr), σ = [some (.ref a), some (.ref T), some (.ref d), u, v, none] ∧ J d = some (.dK (gkv gs)) ∧ GrAt J gs ∧ (gs.map fun g => (g.key, g.pl)) = glL ((zs.take i).map (shown rr)) ∧ (∀ g ∈ gs, G2 g.ad = none ∧ g.ad ≠ d) ∧ gs.length ≤ i ∧ Same G2 J)
      ⟨none, none, [], rfl, upd_same, ⟨(fun g hg => by cases hg), (fun g hg => by cases hg), (fun g hg => by cases hg)⟩, rfl, (fun g hg => by cases hg), Nat.le_refl _, sd⟩ (fun i σ J _ ⟨_, _, _, _, _, _, _, _, _, sJ⟩ => sameT (s12.trans sJ) hT) ?_ ?_⟩
    · rintro i v σ J J1 hi ⟨u, v2, gs, rfl, eD, hG, eg, ng, gl, sJ⟩ ⟨N, x, hx, rfl, nN, rfl⟩
      obtain ⟨z, hz, rfl⟩ := atP_strs' hx
      have mz := List.mem_of_getElem? hz
      have il := (List.getElem?_eq_some_iff.mp hz).1
      have sN : Same J (upd J N (.tup [.int (i : Nat), .str z])) := same_new nN
      refine ⟨N, _, rfl, .inl (.inl upd_same), rfl, _, _, rfl, _, _, rfl, rfl, ?_⟩
      generalize upd J N (.tup [.int (i : Nat), .str z]) = J1 at sN
      refine ⟨_, rfl, d, rfl, .inl ⟨_, .inl (sN _ _ eD)⟩, _, rfl, _, rfl, a, rs, z, rfl, hR.same (s12.trans (sJ.trans sN)), Nat.le_trans (txt_len (zt z mz)) (by decide), fun y ey => ?_⟩
      rw [← hrr] at ey
      obtain rfl := shown_of ey
      refine ⟨Nat.zero_le _, fun L nL => ?_⟩
      have sL : Same J1 (upd J1 L (.lst [])) := same_new nL
      have eL : upd J1 L (.lst []) L = some (.lst []) := upd_same
      generalize upd J1 L (.lst []) = J2 at sL eL
      have s3 := sN.trans sL
      have eD2 := s3 _ _ eD
      have hG2 := hG.same s3
      have nL2 : G2 L = none := (sJ.trans sN).free nL
      have nLd : L ≠ d := Ne.symm (ne_of_none (sN _ _ eD) nL)
      have nLg : ∀ g ∈ gs, g.ad ≠ L := fun g hg => ne_of_none (sN _ _ (hG.at_ g hg)) nL
      have len : ((zs.take i).map (shown rr)).length = i := by
        rw [List.length_map, List.length_take]
        omega
      have nextS : (zs.take (i + 1)).map (shown rr) = (zs.take i).map (shown rr) ++ [shown rr z] := by
        rw [takeN hz, List.map_append]
        rfl
      have keys : ∀ y, y ∈ (zs.take i).map (shown rr) ↔ ∃ g ∈ gs, g.key = y := fun y => by
        have e2 : gs.map (·.key) = dds ((zs.take i).map (shown rr)) := by
          have := congrArg (List.map (·.1)) eg
          unfold glL at this
          rw [List.map_map, List.map_map] at this
          have e3 : (List.map ((fun x => x.1) ∘ fun s => (s, idxs ((zs.take i).map (shown rr)) s)) (dds ((zs.take i).map (shown rr)))) = dds ((zs.take i).map (shown rr)) := List.map_id _
          rw [e3] at this
          exact this
        rw [← mem_dds, ← e2, List.mem_map]
      refine ⟨gkv gs, Sum.inr (shown rr z), eD2, rfl, small1000 (by unfold gkv; rw [List.length_map]; omega), fun v hv => ?_, fun hn => ?_⟩
      · obtain ⟨g, mg, kg, rfl⟩ := gkv_some hv
        have eg2 := hG2.at_ g mg
        have il2 : g.pl.length ≤ 20 := by
          have m2 : (g.key, g.pl) ∈ gs.map fun g => (g.key, g.pl) := List.mem_map.mpr ⟨g, mg, rfl⟩
          rw [eg] at m2
          unfold glL at m2
          obtain ⟨s, _, e⟩ := List.mem_map.mp m2
          have e4 : idxs ((zs.take i).map (shown rr)) s = g.pl := congrArg Prod.snd e
          have := idxs_len ((zs.take i).map (shown rr)) s
          rw [e4, len] at this
          omega
        refine ⟨.inl ⟨rfl, _, .inl (.inl eg2)⟩, _, rfl, g.ad, _, _, rfl, rfl, eg2, small1000 (by rw [List.length_map]; omega), ?_⟩
        refine ⟨_, _, gs.map (addAt g.key i), rfl, ?_, hG2.add mg, ?_, fun x hx => ?_, by rw [List.length_map]; omega, offH (sJ.trans s3) (ng g mg).1⟩
        · rw [gkv_add, upd_ne (Ne.symm (ng g mg).2)]
          exact eD2
        · rw [nextS, glL_old ((keys _).mpr ⟨g, mg, kg⟩), ← eg, List.map_map, List.map_map, len]
          refine List.map_congr_left fun x _ => ?_
          show ((addAt g.key i x).key, (addAt g.key i x).pl) = if x.key = shown rr z then (x.key, x.pl ++ [i]) else (x.key, x.pl)
          rw [← kg]
          unfold addAt
          split <;> rfl
        · obtain ⟨x, mx, rfl⟩ := List.mem_map.mp hx
          rw [addAt_ad]
          exact ng x mx
      · have no := gkv_none hn
        have eLu : upd J2 d (.dK (putK (gkv gs) (Sum.inr (shown rr z)) (.ref L))) L = some (.lst []) := by
          rw [upd_ne nLd]
          exact eL
        refine ⟨.inl ⟨rfl, _, .inl (.inl eLu)⟩, _, rfl, L, _, _, rfl, rfl, eLu, by show 0 < sizeLine; decide, ?_⟩
        have hG3 : GrAt (upd J2 d (.dK (putK (gkv gs) (Sum.inr (shown rr z)) (.ref L)))) gs := ⟨fun g hg => by rw [upd_ne (ng g hg).2]; exact hG2.at_ g hg, hG2.ai, hG2.ki⟩
        refine ⟨_, _, gs ++ [Gr.mk (shown rr z) L [i]], rfl, ?_, hG3.new (n := i) nLg no, ?_, fun x hx => ?_, by rw [List.length_append]; exact Nat.succ_le_succ gl, offH (offH (sJ.trans s3) nd) nL2⟩
        · rw [upd_ne (Ne.symm nLd), upd_same, putK_new _ hn]
          unfold gkv
          rw [List.map_append]
          rfl
        · rw [nextS, glL_new (fun q => by
            obtain ⟨g, hg, e⟩ := (keys _).mp q
            exact no g hg e), ← eg, List.map_append, len]
          rfl
        · rcases List.mem_append.mp hx with hx | hx
          · exact ng x hx
          · rw [List.mem_singleton.mp hx]
            exact ⟨nL2, nLd⟩
    · rintro σ J ⟨u, v, gs, rfl, eD, hG, eg, ng, gl, sJ⟩
      rw [List.length_map, List.take_length] at eg
      rw [List.length_map] at gl
      refine ⟨d, _, eD, trivial, fun od => ?_⟩
      have sl : ∀ b o, J b = some o → b ≠ d → upd J d (.frz od (.dK (gkv gs))) b = some o := fun b o e n => by
        rw [upd_ne n]
        exact e
      refine ⟨_, rfl, d, od, _, rfl, upd_same, fun M nM => lc_it walk_values (fun i J1 => ∃ ts : List (Addr × List Nat), J1 M = some (.lst (ts.map fun t => V.ref t.1)) ∧ Tns J1 ts ∧ ts.map (·.2) = ((gs.map (·.pl)).take i).filter (fun l => decide (1 < l.length)) ∧ J1 d = some (.frz od (.dK (gkv gs))) ∧ ∀ b o, J b = some o → b ≠ d → J1 b = some o)
        ⟨[], upd_same, (fun t ht => by cases ht), rfl, ?_, fun b o e n => ?_⟩ (fun i J1 _ ⟨_, _, _, _, e, _⟩ => e) ?_ ?_⟩
      · rw [upd_ne (ne_of_none upd_same nM), upd_same]
      · rw [upd_ne (ne_of_none (sl b o e n) nM)]
        exact sl b o e n
      · rintro i v J1 J2 hi ⟨ts, eM, hts, et, ed, keep⟩ ⟨rfl, kk, hk⟩
        unfold gkv at hk hi
        rw [List.getElem?_map] at hk
        rw [List.length_map] at hi
        cases hg : gs[i]? with
        | none =>
          rw [hg] at hk
          cases hk
        | some g =>
          rw [hg] at hk
          cases hk
          have mg := List.mem_of_getElem? hg
          have gp : (gs.map (·.pl))[i]? = some g.pl := by rw [List.getElem?_map, hg]; rfl
          have e1 := keep _ _ (hG.at_ g mg) (ng g mg).2
          have tl : ts.length ≤ 20 := by
            have a := congrArg List.length et
            rw [List.length_map] at a
            have b := List.length_filter_le (fun l : List Nat => decide (1 < l.length)) ((gs.map (·.pl)).take i)
            rw [List.length_take] at b
            omega
          have nx : ((gs.map (·.pl)).take (i + 1)).filter (fun l => decide (1 < l.length)) = ((gs.map (·.pl)).take i).filter (fun l => decide (1 < l.length)) ++ if decide (1 < g.pl.length) = true then [g.pl] else [] := by
            rw [takeN gp, List.filter_append]
            congr 1
            show List.filter _ [_] = _
            rw [List.filter_cons, List.filter_nil]
          refine ⟨rfl, _, rfl, _, _, rfl, .inl ⟨_, .inl (.inl e1), rfl⟩, _, _, rfl, rfl, _, rfl, ?_⟩
          rw [List.length_map]
          refine ite2 (fun q => ?_) (fun q => ?_)
          · have q2 : 1 < g.pl.length := by
              have := of_decide_eq_true q
              omega
            refine ⟨_, rfl, g.ad, _, rfl, .inl ⟨.inl (.inl e1), fun t nt => ?_⟩⟩
            have st : Same J2 (upd J2 t (.tup (g.pl.map natI))) := same_new nt
            have ett : upd J2 t (.tup (g.pl.map natI)) t = some (.tup (g.pl.map natI)) := upd_same
            generalize upd J2 t (.tup (g.pl.map natI)) = J3 at st ett
            refine ⟨_, st _ _ eM, small1000 (by rw [List.length_map]; omega), ts ++ [(t, g.pl)], ?_, ((hts.same st).snoc ett).list (st _ _ eM), ?_, ?_, fun b o e n => ?_⟩
            · rw [upd_same, List.map_append]
              rfl
            · rw [List.map_append, et, nx, if_pos (decide_eq_true q2)]
              rfl
            · have nMd : d ≠ M := fun z => by
                have a := ed
                rw [z, eM] at a
                cases a
              rw [upd_ne nMd]
              exact st _ _ ed
            · rw [upd_ne (ne_of_none (sl b o e n) nM)]
              exact st _ _ (keep b o e n)
          · have q2 : ¬ 1 < g.pl.length := fun h => q (decide_eq_true (by omega))
            refine ⟨ts, eM, hts, ?_, ed, keep⟩
            rw [nx, if_neg (fun h => q2 (of_decide_eq_true h)), List.append_nil]
            exact et
      · rintro J1 ⟨ts, eM, hts, et, ed, keep⟩
        refine ⟨ed, ?_⟩
        have nMd : M ≠ d := fun z => by
          rw [z, ed] at eM
          cases eM
        have sF : Same H (upd J1 d (.dK (gkv gs))) := s12.trans (fun b o e => by
          have nb : b ≠ d := ne_of_none e nd
          rw [upd_ne nb]
          exact keep b o (sJ b o e) nb)
        have eM2 : upd J1 d (.dK (gkv gs)) M = some (.lst (ts.map fun t => V.ref t.1)) := by
          rw [upd_ne nMd]
          exact eM
        have hts2 : Tns (upd J1 d (.dK (gkv gs))) ts := fun t ht => by
          rw [upd_ne (ne_of (hts t ht) ed (by intro z; cases z))]
          exact hts t ht
        refine ⟨M, _, rfl, .inl ⟨.inl (.inl eM2), fun U nU => k U _ ts (sF.trans (same_new nU)) upd_same (hts2.same (same_new nU)) ?_⟩⟩
        have gl2 : (gkv gs).length = (gs.map (·.pl)).length := by
          unfold gkv
          rw [List.length_map, List.length_map]
        rw [et, gl2, List.take_length]
        unfold grpL
        rw [← eg, List.map_map]
        rfl
end
end Gu
namespace Gu
open PySem PySem.Spec PyProof.Rows L2
/-! ### the law's groups -/
def atS (ss : List Str) (k : Nat) : Str := (ss[k]?).getD Str.empty
theorem atS_some {ss : List Str} {k : Nat} (h : k < ss.length) : ss[k]? = some (atS ss k) := by
  unfold atS
  rw [List.getElem?_eq_getElem h]
  rfl
def mateL (ss : List Str) (k : Nat) : List Nat := idxs ss (atS ss k)
def dueB (ss : List Str) (k : Nat) : Bool := decide (1 < (mateL ss k).length) && decide ((mateL ss k)[0]? = some k)
def dueL (ss : List Str) (m : Nat) : List (List Nat) := ((List.range m).filter (dueB ss)).map (mateL ss)
theorem dueL_succ (ss : List Str) (m : Nat) : dueL ss (m + 1) = dueL ss m ++ if dueB ss m = true then [mateL ss m] else [] := by
  unfold dueL
  rw [List.range_succ, List.filter_append, List.map_append]
  congr 1
  rw [List.filter_cons, List.filter_nil]
  split <;> rfl
theorem dueL_len (ss : List Str) (m : Nat) : (dueL ss m).length ≤ m := by
  unfold dueL
  rw [List.length_map]
  refine Nat.le_trans (List.length_filter_le _ _) ?_
  rw [List.length_range]
  exact Nat.le_refl _
theorem not_take {ss : List Str} {k : Nat} {s : Str} : s ∉ ss.take k ↔ ∀ j, j < k → ss[j]? ≠ some s := by
  constructor
  · intro h j hj e
    refine h (List.mem_of_getElem? (i := j) ?_)
    rw [List.getElem?_take, if_pos hj]
    exact e
  · intro h q
    obtain ⟨j, hj⟩ := List.mem_iff_getElem?.mp q
    rw [List.getElem?_take] at hj
    by_cases e : j < k
    · rw [if_pos e] at hj
      exact h j e hj
    · rw [if_neg e] at hj
      cases hj
theorem dds_first (ss : List Str) : ∀ m, m ≤ ss.length → dds (ss.take m) = ((List.range m).filter fun k => decide (atS ss k ∉ ss.take k)).map (atS ss)
  | 0, _ => rfl
  | m + 1, h => by
    have ih := dds_first ss m (by omega)
    rw [takeN (atS_some (show m < ss.length by omega)), dds_snoc, List.range_succ, List.filter_append, List.map_append, ← ih, List.filter_cons, List.filter_nil]
    by_cases e : atS ss m ∈ ss.take m
    · rw [if_pos ((mem_dds _).mpr e), if_neg (show ¬ decide (atS ss m ∉ ss.take m) = true from fun q => of_decide_eq_true q e)]
      exact (List.append_nil _).symm
    · rw [if_neg (fun q => e ((mem_dds _).mp q)), if_pos (decide_eq_true e)]
      rfl
theorem head_mate {ss : List Str} {k : Nat} (hk : k < ss.length) : (mateL ss k)[0]? = some k ↔ atS ss k ∉ ss.take k := by
  unfold mateL idxs
  rw [← List.head?_eq_getElem?, List.head?_filter, List.find?_range_eq_some, not_take]
  constructor
  · rintro ⟨_, _, h⟩ j hj e
    have := h j hj
    rw [decide_eq_true e] at this
    cases this
  · intro h
    refine ⟨decide_eq_true (atS_some hk), List.mem_range.mpr hk, fun j hj => ?_⟩
    rw [decide_eq_false (h j hj)]
    rfl
theorem due_grp (ss : List Str) : dueL ss ss.length = grpL ss := by
  unfold grpL glL dueL
  have e := dds_first ss ss.length (Nat.le_refl _)
  rw [List.take_length] at e
  rw [e]
  simp only [List.map_map, List.filter_map, List.filter_filter]
  have e2 : (List.range ss.length).filter (dueB ss) = (List.range ss.length).filter fun a => ((fun l => decide (1 < l.length)) ∘ (fun x => x.2) ∘ (fun s => (s, idxs ss s)) ∘ atS ss) a && decide (atS ss a ∉ ss.take a) := by
    refine List.filter_congr fun k hk => ?_
    unfold dueB
    show (decide (1 < (mateL ss k).length) && decide ((mateL ss k)[0]? = some k)) = (decide (1 < (idxs ss (atS ss k)).length) && decide (atS ss k ∉ ss.take k))
    rw [decide_eq_decide.mpr (head_mate (List.mem_range.mp hk))]
    rfl
  rw [e2]
  rfl
def apB (zs ss : List Str) (k : Nat) : Bool := ((mateL ss k).map fun j => decide (atS zs j = atS zs k)).all id
def apL (zs ss : List Str) (m : Nat) : Bool := ((List.range m).filter (dueB ss)).all (apB zs ss)
theorem apL_succ (zs ss : List Str) (m : Nat) : apL zs ss (m + 1) = (apL zs ss m && if dueB ss m = true then apB zs ss m else true) := by
  unfold apL
  rw [List.range_succ, List.filter_append, List.all_append, List.filter_cons, List.filter_nil]
  congr 1
  split
  · show (apB zs ss m && true) = _
    rw [Bool.and_true]
  · rfl
theorem atS_map {f : Str → Str} {zs : List Str} {k : Nat} (h : k < zs.length) : atS (zs.map f) k = f (atS zs k) := by
  have a := atS_some (ss := zs.map f) (by rw [List.length_map]; exact h)
  rw [List.getElem?_map, atS_some h] at a
  exact (Option.some.inj a).symm
theorem apart_sep (rs : List Rec) (zs : List Str) : apL zs (zs.map (shown rs)) zs.length = sepB rs zs := by
  refine Bool.eq_iff_iff.mpr ?_
  rw [sepB_iff]
  unfold apL
  rw [List.all_eq_true]
  have len : (zs.map (shown rs)).length = zs.length := List.length_map ..
  constructor
  · intro h a ha b hb e
    obtain ⟨i, hi⟩ := List.mem_iff_getElem?.mp ha
    obtain ⟨j, hj⟩ := List.mem_iff_getElem?.mp hb
    have il := (List.getElem?_eq_some_iff.mp hi).1
    have jl := (List.getElem?_eq_some_iff.mp hj).1
    have ai : atS zs i = a := Option.some.inj ((atS_some il).symm.trans hi)
    have aj : atS zs j = b := Option.some.inj ((atS_some jl).symm.trans hj)
    have si : (zs.map (shown rs))[i]? = some (shown rs a) := by rw [List.getElem?_map, hi]; rfl
    have sj : (zs.map (shown rs))[j]? = some (shown rs a) := by rw [List.getElem?_map, hj, e]; rfl
    by_cases q : i = j
    · rw [← ai, ← aj, q]
    have mi : i ∈ idxs (zs.map (shown rs)) (shown rs a) := idxs_mem.mpr si
    have mj : j ∈ idxs (zs.map (shown rs)) (shown rs a) := idxs_mem.mpr sj
    -- the first of the form
    cases hk : idxs (zs.map (shown rs)) (shown rs a) with
    | nil =>
      rw [hk] at mi
      cases mi
    | cons k r =>
      have mk : (zs.map (shown rs))[k]? = some (shown rs a) := idxs_mem.mp (by rw [hk]; exact List.mem_cons_self ..)
      have kl := (List.getElem?_eq_some_iff.mp mk).1
      have ek : atS (zs.map (shown rs)) k = shown rs a := Option.some.inj ((atS_some kl).symm.trans mk)
      have em : mateL (zs.map (shown rs)) k = k :: r := by
        unfold mateL
        rw [ek, hk]
      have rl : r ≠ [] := fun z => by
        rw [hk, z] at mi mj
        rw [List.mem_singleton] at mi mj
        exact q (mi.trans mj.symm)
      have due : dueB (zs.map (shown rs)) k = true := by
        unfold dueB
        rw [em, decide_eq_true (show 1 < (k :: r).length from Nat.succ_lt_succ (List.length_pos_iff.mpr rl)), decide_eq_true (show (k :: r)[0]? = some k from rfl)]
        rfl
      have al := h k (List.mem_filter.mpr ⟨List.mem_range.mpr (by rw [← len]; exact kl), due⟩)
      unfold apB at al
      rw [List.all_map, List.all_eq_true, em, ← hk] at al
      have t1 : atS zs i = atS zs k := of_decide_eq_true (al i mi)
      have t2 : atS zs j = atS zs k := of_decide_eq_true (al j mj)
      rw [← ai, ← aj, t1, t2]
  · intro h k hk
    have kl := List.mem_range.mp (List.mem_filter.mp hk).1
    unfold apB
    rw [List.all_map, List.all_eq_true]
    intro j hj
    have sj := idxs_mem.mp hj
    have jl : j < zs.length := by
      have := (List.getElem?_eq_some_iff.mp sj).1
      omega
    have e1 : atS (zs.map (shown rs)) j = atS (zs.map (shown rs)) k := Option.some.inj ((atS_some (by omega)).symm.trans sj)
    rw [atS_map jl, atS_map kl] at e1
    exact decide_eq_true (h _ (List.mem_of_getElem? (atS_some jl)) _ (List.mem_of_getElem? (atS_some kl)) e1)
end Gu
namespace Gu
open PySem PySem.Spec PyProof.Rows L2
def spRight : Sp := fun vs H Q _ => ∃ (p : Addr), vs = [.ref p] ∧ Pot H p ∧ ∀ G, Ladled p H G → Q (.bl true) G
end Gu
namespace Gu
open PySem PySem.Spec PyProof.Rows L2
def rev3 {α : Type} : List α → List α
  | [a, b, c] => [c, b, a]
  | l => l
theorem rev3_vals {zs : List V} {ws : List Value} (r : Vals zs ws) : Vals (rev3 zs) (rev3 ws) := by
  cases r with
  | nil => exact .nil
  | cons a r =>
    cases r with
    | nil => exact .cons a .nil
    | cons b r =>
      cases r with
      | nil => exact .cons a (.cons b .nil)
      | cons c r =>
        cases r with
        | nil => exact .cons c (.cons b (.cons a .nil))
        | cons d r => exact .cons a (.cons b (.cons c (.cons d r)))
/-- what == looks into -/
theorem shapedL {ds : List PyData} (h : ∀ d ∈ ds, d.canLay0 = true ∧ d.depth ≤ 10) : SeqAt.shaped (.list ds) = true := by
  have a : ∀ ds : List PyData, (∀ d ∈ ds, d.canLay0 = true ∧ d.depth ≤ 10) → PyData.canLayAll0 ds = true ∧ PyData.depthAll ds ≤ 10 := by
    intro ds
    induction ds with
    | nil => exact fun _ => ⟨rfl, Nat.zero_le _⟩
    | cons d ds ih =>
      intro h
      have b := ih fun e he => h e (List.mem_cons_of_mem _ he)
      have c := h d (List.mem_cons_self ..)
      refine ⟨?_, Nat.max_le.mpr ⟨c.2, b.2⟩⟩
      show (d.canLay0 && PyData.canLayAll0 ds) = true
      rw [c.1, b.1]
      rfl
  have b := a ds h
  unfold SeqAt.shaped
  rw [Bool.and_eq_true]
  refine ⟨b.1, decide_eq_true ?_⟩
  show PyData.depthAll ds + 1 ≤ 64
  omega
theorem dp_ints {K : PySem.W.Frag} {H : Hp} : ∀ is : List Int, DpAll K H (is.map V.int) (is.map PyData.int)
  | [] => .nil
  | _ :: r => .cons (.int _) (dp_ints r)
theorem fine_ints {is : List Int} (l : is.length ≤ 100) (h : ∀ i ∈ is, i.natAbs < 2 ^ 70) : Fine 1 (100 * 71) (.tuple (is.map PyData.int)) := by
  have a : FineAll 0 70 (is.map PyData.int) := .of fun d hd => by
    obtain ⟨i, hi, rfl⟩ := List.mem_map.mp hd
    exact .int (h i hi)
  refine a.tup.mono (Nat.le_refl _) ?_
  rw [List.length_map]
  exact Nat.mul_le_mul_right _ l
theorem fine_two {n W : Nat} {d e : PyData} (a : Fine n W d) (b : Fine n W e) (hn : n + 1 ≤ 60) (hW : 2 * (W + 1) ≤ 100000) : Fine 60 100000 (.list [d, e]) := by
  have c : FineAll n W [d, e] := .of fun x hx => by
    simp only [List.mem_cons, List.not_mem_nil, or_false] at hx
    rcases hx with rfl | rfl
    · exact a
    · exact b
  exact c.list.mono hn hW
theorem marks_txt {z : Str} (h : z ∈ marks) : isTxt z 3 = true := by
  have a : ∀ y ∈ marks, isTxt y 3 = true := by decide +kernel
  exact a z h
theorem fam_ok {kd : Kd} {z : Str} {w : Int} (hz : z ∈ marks) (h1 : (z.length : Int) ≤ w) (h2 : w ≤ 40) : (fam kd z w).ok := by
  have f := fam_fit kd (marks_txt hz) h1 h2
  have e : (fam kd z w).z = z := by cases kd <;> rfl
  exact ⟨f.l.1, f.l.2, f.h.1, f.h.2, f.t.1, f.t.2, by rw [e]; exact hz⟩
end Gu
namespace Gu
open PySem PySem.Spec PyProof.Rows L2
theorem ToldsAt.off {H : Hp} {D p : Addr} {ps : List (Addr × Rec)} (h : ToldsAt H D ps) (hp : Pot H p) (l : 1 ≤ ps.length) : D ≠ p := fun e => by
  subst e
  obtain ⟨x, y, z, e⟩ := hp
  have a := h.ls.symm.trans e
  cases ps with
  | nil => cases l
  | cons q ps => cases a
theorem same_len {ps rs : List (Addr × Rec)} (e : rs.map (·.2) = ps.map (·.2)) : rs.length = ps.length := by
  have := congrArg List.length e
  rw [List.length_map, List.length_map] at this
  exact this
end Gu
namespace Gu
open PySem PySem.Spec PyProof.Rows L2
def natD (n : Nat) : PyData := .int (n : Int)
def natT (l : List Nat) : PyData := .tuple (l.map natD)
theorem dp_nats {K : PySem.W.Frag} {H : Hp} : ∀ l : List Nat, DpAll K H (l.map natI) (l.map natD)
  | [] => .nil
  | _ :: r => .cons (.int _) (dp_nats r)
theorem dp_tns {K : PySem.W.Frag} {H : Hp} : ∀ {ts : List (Addr × List Nat)}, Tns H ts → DpAll K H (ts.map fun t => V.ref t.1) ((ts.map (·.2)).map natT)
  | [], _ => .nil
  | t :: ts, h => .cons (.tup (.inl (.inl (h t (List.mem_cons_self ..)))) (dp_nats t.2)) (dp_tns fun r hr => h r (List.mem_cons_of_mem _ hr))
theorem natT_fine {l : List Nat} (h : l.length ≤ 20) (s : ∀ n ∈ l, n < 1000) : Fine 1 (20 * 71) (natT l) := by
  have a : FineAll 0 70 (l.map natD) := .of fun d hd => by
    obtain ⟨n, hn, rfl⟩ := List.mem_map.mp hd
    refine .int ?_
    have := s n hn
    show (n : Int).natAbs < 2 ^ 70
    omega
  refine a.tup.mono (Nat.le_refl _) ?_
  rw [List.length_map]
  exact Nat.mul_le_mul_right _ h
theorem grp_fine {gs : List (List Nat)} (l : gs.length ≤ 20) (h : ∀ g ∈ gs, g.length ≤ 20 ∧ ∀ n ∈ g, n < 1000) : Fine 2 (20 * 1421) (.tuple (gs.map natT)) := by
  have a : FineAll 1 (20 * 71) (gs.map natT) := .of fun d hd => by
    obtain ⟨g, hg, rfl⟩ := List.mem_map.mp hd
    exact natT_fine (h g hg).1 (h g hg).2
  refine a.tup.mono (Nat.le_refl _) ?_
  rw [List.length_map]
  exact Nat.mul_le_mul_right _ l
theorem RowAt.off_list {C : Addr} {H : Hp} {M R : Addr} {acc ys : List V} {rs : List (Addr × Rec)} (h : RowAt C H R rs) (e : H M = some (.lst acc)) : RowAt C (upd H M (.lst ys)) R rs := ⟨by rw [upd_ne (ne_of h.tp e (by intro z; cases z))]; exact h.tp, fun q hq => ⟨(h.sh q hq).1.list e, (h.sh q hq).2⟩⟩
theorem mate_small {ss : List Str} {k : Nat} (h : ss.length ≤ 20) : (mateL ss k).length ≤ 20 ∧ ∀ n ∈ mateL ss k, n < 1000 := by
  refine ⟨Nat.le_trans (idxs_len _ _) h, fun n hn => ?_⟩
  have := (List.getElem?_eq_some_iff.mp (idxs_mem.mp hn)).1
  omega
section
variable {P : Program} {w : World} {K : PySem.W.Frag} {mg : Str → Option Value} {base : Heap} {C : Addr}
theorem cal_right (B : Bi mg) (D : At K mg "_law_right" s_law_right ps_law_right) (C_law_tolds : Cal P w K mg base 4 "_law_tolds" ps_law_tolds spTolds) (C_law_some_lines : Cal P w K mg base 4 "_law_some_lines" ps_law_some_lines spSomeLines) (C_law_made : Cal P w K mg base 5 "_law_made" ps_law_made (spMade C)) (C_law_seen : Cal P w K mg base 2 "_law_seen" ps_law_seen spSeen)
    (C_groups : Cal P w K mg base 3 "groups" ps_groups (spGroups K C)) (CK_groups : CalK P w K mg base 3 "groups" ["texts", "row"] swap2 (spGroups K C)) (C_tells_apart : Cal P w K mg base 4 "tells_apart" ps_tells_apart (spTells K C)) (CK_tells_apart : CalK P w K mg base 4 "tells_apart" ["texts", "row"] swap2 (spTells K C)) : CalG P w K mg base 6 "_law_right" ps_law_right spRight := by
  refine D.calG sc_law_right (fun vs H Q E h => ?_) (fun f cdv A outer s H vs Q E hr quiet h => ?_)
  · obtain ⟨p, rfl, _⟩ := h
    rfl
  · obtain ⟨p, rfl, hp, k⟩ := h
    refine ⟨_, (pss_cons (ps_for PassesOwn.never rfl (pi_range1 (by rfl) B.range (pa_cons pe_int pa_nil)) (pg_name (i := 1) sc_law_right.nd rfl (.inl rfl))
      (pss_cons (ps_asg (pe_tup (pa_cons (pe_own C_law_tolds hr (by decide) (by rfl) (pa_cons (pv 0) pa_nil)) (pa_cons (pe_own C_law_some_lines hr (by decide) (by rfl) (pa_cons (pv 0) (pa_cons pe_int pa_nil))) pa_nil))) (pg_tup rfl (pgs_cons (pg_name (i := 2) sc_law_right.nd rfl (.inr rfl)) (pgs_cons (pg_name (i := 3) sc_law_right.nd rfl (.inr rfl)) pgs_nil))))
      (pss_cons (ps_set (i := 4) sc_law_right.nd rfl (.inl rfl) (pe_own C_law_made hr (by decide) (by rfl) (pa_cons (pv 2) pa_nil)))
      (pss_cons (ps_asg (pe_tup (pa_cons (pe_lc (own := [("_law_line_here", 10)]) (by rfl) sc_law_right.nd (pi_tup (pv 3)) (blkOk_by (own := [("_law_line_here", 10)]) (N := ["_law_pot_here", "_law_again", "_law_tolds_here", "_law_lines", "_law_made_here", "_law_seen_here", "_law_due", "_law_apart", "_law_k", "_law_mates", "_law_line_here", "_law_j"]) (sc := defScope s_law_right) (by decide +kernel)) (fun _ _ _ _ _ => pg_name (i := 10) sc_law_right.nd rfl (.inl rfl)) (fun _ _ _ _ _ => pts_nil) (fun _ _ _ _ _ => (pe_own C_law_seen hr (by decide) (by rfl) (pa_cons (pv 2) (pa_cons (pv 10) pa_nil))))) (pa_cons (pe_lst pa_nil) (pa_cons pe_bl pa_nil)))) (pg_tup rfl (pgs_cons (pg_name (i := 5) sc_law_right.nd rfl (.inr rfl)) (pgs_cons (pg_name (i := 6) sc_law_right.nd rfl (.inl rfl)) (pgs_cons (pg_name (i := 7) sc_law_right.nd rfl (.inl rfl)) pgs_nil)))))
      (pss_cons (ps_for PassesOwn.never rfl (pi_range1 (by rfl) B.range (pa_cons (pe_callB call_len (by rfl) B.len (by decide +kernel) (pa_cons (pv 3) pa_nil)) pa_nil)) (pg_name (i := 8) sc_law_right.nd rfl (.inr rfl))
      (pss_cons (ps_setLc (i := 9) (own := [("_law_j", 11)]) (by rfl) sc_law_right.nd rfl rfl (sw_true rfl rfl rfl (by decide +kernel)) (pi_range1 (by rfl) B.range (pa_cons (pe_callB call_len (by rfl) B.len (by decide +kernel) (pa_cons (pv 3) pa_nil)) pa_nil)) (blkOk_by (own := [("_law_j", 11)]) (N := ["_law_pot_here", "_law_again", "_law_tolds_here", "_law_lines", "_law_made_here", "_law_seen_here", "_law_due", "_law_apart", "_law_k", "_law_mates", "_law_line_here", "_law_j"]) (sc := defScope s_law_right) (by decide +kernel)) (fun _ _ _ _ _ => pg_name (i := 11) sc_law_right.nd rfl (.inl rfl)) (fun _ _ _ _ _ => (pts_one (pt_cmpR op_eq (pe_ix (r := rIxL K) ix_list (pv 5) (pv 11) (fun _ _ => rfl)) (pe_ix (r := rIxL K) ix_list (pv 5) (pv 8) (fun _ _ => rfl)) (nomark _)))) (fun _ _ _ _ _ => (pv 11)))
      (pss_one (ps_if (PW.pt (pw_and (pt_cmpR op_gt (pe_callB call_len (by rfl) B.len (by decide +kernel) (pa_cons (pv 9) pa_nil)) pe_int (nomark _)) (pw_and1 (pt_cmpR op_eq (pe_ix ix_list (pv 9) pe_int (fun _ _ => rfl)) (pv 8) (nomark _))))) (pss_cons (ps_expr (pe_bm PySem.F.plainAttrs_list PySem.F.slot_list_append PySem.F.type_list_append mt_append (pv 6) (pa_cons (pe_callTy call_tuple_of (by rfl) B.tuple (by decide +kernel) (pa_cons (pv 9) pa_nil)) pa_nil)))
      (pss_one (ps_set (i := 7) sc_law_right.nd rfl (.inl rfl) (pe_and (pv 7) (pe_one (pe_callB (cr_all rfl) (by rfl) B.all (by decide +kernel) (pa_cons (pe_lc (own := [("_law_j", 11)]) (by rfl) sc_law_right.nd (pi_list (pv 9)) (blkOk_by (own := [("_law_j", 11)]) (N := ["_law_pot_here", "_law_again", "_law_tolds_here", "_law_lines", "_law_made_here", "_law_seen_here", "_law_due", "_law_apart", "_law_k", "_law_mates", "_law_line_here", "_law_j"]) (sc := defScope s_law_right) (by decide +kernel)) (fun _ _ _ _ _ => pg_name (i := 11) sc_law_right.nd rfl (.inl rfl)) (fun _ _ _ _ _ => pts_nil) (fun _ _ _ _ _ => (pe_cmpR op_eq (pe_ix (r := rIxT K) ix_tup (pv 3) (pv 11) (fun _ _ => rfl)) (pe_ix (r := rIxT K) ix_tup (pv 3) (pv 8) (fun _ _ => rfl)) (nomark _)))) pa_nil))))))) pss_nil))))
      (pss_cons (ps_if (pt_cmpR op_ne (pe_callB (call_reprD quiet hr.units) (by rfl) B.repr (by decide +kernel) (pa_cons (pe_lst (pa_cons (pe_own C_groups hr (by decide) (by rfl) (pa_cons (pv 4) (pa_cons (pv 3) pa_nil))) (pa_cons (pe_kw CK_groups hr (by decide) (by rfl) (pk_cons (pv 3) (pk_cons (pv 4) pk_nil))) pa_nil))) pa_nil)) (pe_callB (call_reprD quiet hr.units) (by rfl) B.repr (by decide +kernel) (pa_cons (pe_op op_rep (pe_lst (pa_cons (pe_callTy call_tuple_of (by rfl) B.tuple (by decide +kernel) (pa_cons (pv 6) pa_nil)) pa_nil)) pe_int) pa_nil)) (nomark _)) (pss_one (ps_ret pe_bl)) pss_nil)
      (pss_one (ps_if (pt_cmpR op_ne (pe_callB (call_reprD quiet hr.units) (by rfl) B.repr (by decide +kernel) (pa_cons (pe_lst (pa_cons (pe_own C_tells_apart hr (by decide) (by rfl) (pa_cons (pv 4) (pa_cons (pv 3) pa_nil))) (pa_cons (pe_kw CK_tells_apart hr (by decide) (by rfl) (pk_cons (pv 3) (pk_cons (pv 4) pk_nil))) pa_nil))) pa_nil)) (pe_callB (call_reprD quiet hr.units) (by rfl) B.repr (by decide +kernel) (pa_cons (pe_lst (pa_cons (pv 7) (pa_cons (pv 7) pa_nil))) pa_nil)) (nomark _)) (pss_one (ps_ret pe_bl)) pss_nil))))))))
      (pss_one (ps_ret pe_bl))), ?_⟩
    refine ⟨5, rfl, by decide, by decide, for_range (lo := 0) (n := 5) (fun i σ J => ∃ a1 a2 a3 a4 a5 a6 a7 a8 a9, σ = [some (.ref p), a1, a2, a3, a4, a5, a6, a7, a8, a9, none, none] ∧ Ladled p H J) ⟨none, none, none, none, none, none, none, none, none, rfl, .refl hp⟩ ?_ ?_⟩
    · rintro i σ J hi ⟨a1, a2, a3, a4, a5, a6, a7, a8, a9, rfl, M⟩
      clear hi
      generalize (V.int (0 + (i : Int))) = again
      refine ⟨_, rfl, p, rfl, M.pot, fun D1 G1 ps nD1 t1 nq p1 p4 L1 => ?_⟩
      have M1 := M.trans L1
      have nDp : D1 ≠ p := M.pot.ne nD1
      refine ⟨_, rfl, p, 20, rfl, M1.pot, by decide, by decide, fun T G2 zs nT eT zl tz L2 => ?_⟩
      have M2 := M1.trans L2
      have t1 : ToldsAt G2 D1 ps := L2.tolds nDp (fun q hq => M.pot.ne (nq q hq)) t1
      refine ⟨by show 2 ≤ sizeLine; decide, fun t nt => ⟨t, _, rfl, .inl (.inl upd_same), rfl, _, _, rfl, _, _, rfl, rfl, ?_⟩⟩
      have s3 : Same G2 (upd G2 t (.tup [.ref D1, .ref T])) := same_new nt
      generalize upd G2 t (.tup [.ref D1, .ref T]) = G3 at s3
      refine ⟨_, rfl, D1, ps, rfl, t1.same s3, p4, fun R G4 rs nR row er s4 => ?_⟩
      have lr := same_len er
      have s34 := s3.trans s4
      have t1 := t1.same s34
      have eT4 := s34 _ _ eT
      have M4 := M2.same s34
      obtain ⟨rr, hrr⟩ : ∃ rr : List Rec, rr = rs.map (·.2) := ⟨_, rfl⟩
      have erp : ps.map (·.2) = rr := by rw [hrr, er]
      clear L1 L2 M1 M2 s3 s4 s34 eT nT
      -- what is seen
      refine ⟨_, rfl, T, rfl, ⟨_, .inl (.inl eT4)⟩, fun S nS => lc_tup (K := K) (a := T) (xs := zs.map V.str) (fun i J => J S = some (.lst (((zs.take i).map (shown rr)).map V.str)) ∧ Same G4 J)
        ⟨upd_same, same_new nS⟩ (fun i J _ ⟨_, sJ⟩ => .inl (.inl (sJ _ _ eT4))) ?_ ?_⟩
      · rintro i v J hi ⟨eS, sJ⟩
        obtain ⟨z, hz, rfl⟩ := atP_strs' hi
        have mz := List.mem_of_getElem? hz
        refine ⟨rfl, yes (iteT ⟨_, rfl, _, rfl, D1, ps, z, rfl, t1.same sJ, txt_len (tz z mz), fun y G sG ey => ⟨_, sG _ _ eS, small1000 ?_, ?_, offH (sJ.trans sG) nS⟩⟩)⟩
        · rw [List.length_map, List.length_map, List.length_take]
          omega
        · rw [erp] at ey
          rw [upd_same, takeN hz, shown_of ey, List.map_append, List.map_append]
          rfl
      rintro J5 ⟨eS, s5⟩
      rw [List.length_map, List.take_length] at eS
      obtain ⟨ss, hss⟩ : ∃ ss : List Str, ss = zs.map (shown rr) := ⟨_, rfl⟩
      have sl : ss.length = zs.length := by rw [hss, List.length_map]
      rw [← hss] at eS
      refine ⟨Nat.zero_le _, fun F nF => ?_⟩
      have hF : H F = none := (M4.same s5).free nF
      have nFp : F ≠ p := (M4.same s5).pot.ne nF
      have s6 : Same J5 (upd J5 F (.lst [])) := same_new nF
      have eF : upd J5 F (.lst []) F = some (.lst []) := upd_same
      have nSF : S ≠ F := ne_of_none eS nF
      have nTF : T ≠ F := ne_of_none (s5 _ _ eT4) nF
      generalize upd J5 F (.lst []) = J6 at s6 eF
      refine ⟨by show 3 ≤ sizeLine; decide, fun t nt => ⟨t, _, rfl, .inl (.inl upd_same), rfl, _, _, rfl, _, _, rfl, _, _, rfl, rfl, ?_⟩⟩
      have s7 : Same J6 (upd J6 t (.tup [.ref S, .ref F, .bl true])) := same_new nt
      generalize upd J6 t (.tup [.ref S, .ref F, .bl true]) = J7 at s7
      have s47 := s5.trans (s6.trans s7)
      have s57 := s6.trans s7
      refine ⟨_, rfl, _, _, rfl, .inr ⟨_, .inl (.inl (s47 _ _ eT4)), rfl⟩, _, rfl, by rw [List.length_map]; omega, by rw [List.length_map]; omega, for_range (lo := 0) (n := ((zs.map V.str).length : Int).toNat) (fun n σ J => ∃ (u8 u9 : Option V) (ts : List (Addr × List Nat)), σ = [some (.ref p), some again, some (.ref D1), some (.ref T), some (.ref R), some (.ref S), some (.ref F), some (.bl (apL zs ss n)), u8, u9, none, none] ∧ Ladled p H J ∧ RowAt C J R rs ∧ J T = some (.tup (zs.map V.str)) ∧ J S = some (.lst (ss.map V.str)) ∧ J F = some (.lst (ts.map fun t => V.ref t.1)) ∧ Tns J ts ∧ ts.map (·.2) = dueL ss n)
        ⟨_, _, [], rfl, M4.same s47, row.same s47, s47 _ _ eT4, s57 _ _ eS, s7 _ _ eF, (fun t ht => by cases ht), rfl⟩ ?_ ?_⟩
      · rintro n σ J hn ⟨u8, u9, ts, rfl, M, row, eT, eS, eF, hts, et⟩
        rw [Int.toNat_natCast, List.length_map] at hn
        have zn : zs[n]? = some (atS zs n) := atS_some hn
        have sn : ss[n]? = some (atS ss n) := atS_some (by omega)
        have tl : ts.length ≤ n := by
          have a := congrArg List.length et
          rw [List.length_map] at a
          have b := dueL_len ss n
          omega
        have atN : ∀ (xs : List Str) (j : Nat) (x : Str), xs[j]? = some x → atI (xs.map V.str) (0 + (j : Int)) = some (V.str x) := fun xs j x h => by
          rw [Int.zero_add]
          exact atI_nat (by rw [List.getElem?_map, h]; rfl)
        refine ⟨_, rfl, _, _, rfl, .inr ⟨_, .inl (.inl eT), rfl⟩, _, rfl, by rw [List.length_map]; omega, by rw [List.length_map]; omega, fun X nX => lc_range (lo := 0) (n := ((zs.map V.str).length : Int).toNat) (fun j J1 => J1 X = some (.lst (((List.range j).filter fun j => decide (ss[j]? = some (atS ss n))).map natI)) ∧ Same J J1)
          ⟨upd_same, same_new nX⟩ ?_ ?_⟩
        · rintro j J1 hj ⟨eX, s1⟩
          rw [Int.toNat_natCast, List.length_map] at hj
          have sj : ss[j]? = some (atS ss j) := atS_some (by omega)
          have fl := List.length_filter_le (fun j => decide (ss[j]? = some (atS ss n))) (List.range j)
          rw [List.length_range] at fl
          refine ⟨rfl, _, rfl, _, rfl, S, _, _, _, rfl, rfl, .inl (.inl (s1 _ _ eS)), atN ss j _ sj, _, rfl, _, rfl, S, _, _, _, rfl, rfl, .inl (.inl (s1 _ _ eS)), atN ss n _ sn, rfl, _, rfl, ?_⟩
          have nx : ((List.range (j + 1)).filter fun j => decide (ss[j]? = some (atS ss n))) = ((List.range j).filter fun j => decide (ss[j]? = some (atS ss n))) ++ if atS ss j = atS ss n then [j] else [] := by
            rw [List.range_succ, List.filter_append, List.filter_cons, List.filter_nil, sj]
            congr 1
            by_cases e : atS ss j = atS ss n
            · rw [if_pos e, if_pos (decide_eq_true (by rw [e]))]
            · rw [if_neg e, if_neg (fun h => e (Option.some.inj (of_decide_eq_true h)))]
          refine ite2 (fun q => ?_) (fun q => ?_)
          · have q2 : atS ss j = atS ss n := V.str.inj (of_decide_eq_true q)
            refine ⟨_, rfl, _, eX, small1000 (by rw [List.length_map]; omega), ?_, offH s1 nX⟩
            rw [upd_same, nx, if_pos q2, List.map_append, Int.zero_add]
            rfl
          · have q2 : ¬ atS ss j = atS ss n := fun e => q (decide_eq_true (by rw [e]))
            refine ⟨?_, s1⟩
            rw [nx, if_neg q2, List.append_nil]
            exact eX
        rintro J1 ⟨eX, s1⟩
        have eX : J1 X = some (.lst ((mateL ss n).map natI)) := by
          rw [eX, Int.toNat_natCast, List.length_map, ← sl]
          rfl
        obtain ⟨ml, ms⟩ := mate_small (ss := ss) (k := n) (by omega)
        have ee : ∀ b, dueB ss n = b → decide (1 < (mateL ss n).length) = true → decide ((mateL ss n)[0]? = some n) = b := fun b e h => by
          unfold dueB at e
          rw [h, Bool.true_and] at e
          exact e
        refine ⟨_, rfl, _, _, rfl, .inl ⟨_, .inl (.inl eX), rfl⟩, _, _, rfl, rfl, _, rfl, ?_⟩
        rw [List.length_map]
        refine ite2 (fun q => ?_) (fun q => ?_)
        · have q1 : 1 < (mateL ss n).length := by
            have := of_decide_eq_true q
            omega
          cases hm : mateL ss n with
          | nil =>
            rw [hm] at q1
            cases q1
          | cons m0 mr =>
            have am : atI ((mateL ss n).map natI) 0 = some (natI m0) := by
              rw [hm]
              exact atI_nat (j := 0) rfl
            refine ⟨_, rfl, X, _, _, _, rfl, rfl, .inl (.inl eX), am, _, rfl, rfl, _, rfl, ?_⟩
            refine ite2 (fun q3 => ?_) (fun q3 => ?_)
            · have q4 : m0 = n := by
                have := V.int.inj (of_decide_eq_true q3)
                omega
              have due : dueB ss n = true := by
                unfold dueB
                rw [decide_eq_true q1, hm, q4, decide_eq_true (show (n :: mr)[0]? = some n from rfl)]
                rfl
              clear am q3 q4 hm
              refine ⟨_, rfl, .inl ⟨rfl, _, .inl (.inl (s1 _ _ eF))⟩, _, rfl, X, _, rfl, .inl ⟨.inl (.inl eX), fun t nt => ?_⟩⟩
              have s2 : Same J1 (upd J1 t (.tup ((mateL ss n).map natI))) := same_new nt
              have e2 : upd J1 t (.tup ((mateL ss n).map natI)) t = some (.tup ((mateL ss n).map natI)) := upd_same
              generalize upd J1 t (.tup ((mateL ss n).map natI)) = J2 at s2 e2
              have s12 := s1.trans s2
              have eF2 := s12 _ _ eF
              have nXF : X ≠ F := Ne.symm (ne_of_none eF nX)
              refine ⟨F, _, _, rfl, rfl, eF2, small1000 (by rw [List.length_map]; omega), ?_⟩
              have M3 : Ladled p H (upd J2 F (.lst ((ts.map fun t => V.ref t.1) ++ [.ref t]))) := (M.same s12).mut hF nFp
              have row3 : RowAt C (upd J2 F (.lst ((ts.map fun t => V.ref t.1) ++ [.ref t]))) R rs := (row.same s12).off_list eF2
              have eT3 : upd J2 F (.lst ((ts.map fun t => V.ref t.1) ++ [.ref t])) T = some (.tup (zs.map V.str)) := by rw [upd_ne nTF]; exact s12 _ _ eT
              have eS3 : upd J2 F (.lst ((ts.map fun t => V.ref t.1) ++ [.ref t])) S = some (.lst (ss.map V.str)) := by rw [upd_ne nSF]; exact s12 _ _ eS
              have eX3 : upd J2 F (.lst ((ts.map fun t => V.ref t.1) ++ [.ref t])) X = some (.lst ((mateL ss n).map natI)) := by rw [upd_ne nXF]; exact s2 _ _ eX
              have eF3 : upd J2 F (.lst ((ts.map fun t => V.ref t.1) ++ [.ref t])) F = some (.lst ((ts ++ [(t, mateL ss n)]).map fun t => V.ref t.1)) := by
                rw [upd_same, List.map_append]
                rfl
              have hts3 : Tns (upd J2 F (.lst ((ts.map fun t => V.ref t.1) ++ [.ref t]))) (ts ++ [(t, mateL ss n)]) := ((hts.same s12).snoc e2).list eF2
              have et3 : (ts ++ [(t, mateL ss n)]).map (·.2) = dueL ss (n + 1) := by
                rw [dueL_succ, due, if_pos rfl, List.map_append, et]
                rfl
              generalize upd J2 F (.lst ((ts.map fun t => V.ref t.1) ++ [.ref t])) = J3 at M3 row3 eT3 eS3 eX3 eF3 hts3
              refine ⟨_, rfl, _, rfl, ?_⟩
              cases ha : apL zs ss n with
              | false =>
                refine iteF ⟨some (.int (0 + (n : Int))), some (.ref X), _, ?_, M3, row3, eT3, eS3, eF3, hts3, et3⟩
                rw [apL_succ, ha, Bool.false_and]
                rfl
              | true =>
                refine iteT ⟨_, rfl, X, rfl, ⟨_, .inl (.inl eX3)⟩, fun Y nY => lc_list (K := K) (a := X) (xs := (mateL ss n).map natI) (fun j J4 => J4 Y = some (.lst ((((mateL ss n).take j).map fun j => decide (atS zs j = atS zs n)).map V.bl)) ∧ Same J3 J4)
                  ⟨upd_same, same_new nY⟩ (fun j J4 _ ⟨_, s⟩ => .inl (.inl (s _ _ eX3))) ?_ ?_⟩
                · rintro j v J4 hj ⟨eY, s4⟩
                  rw [List.getElem?_map] at hj
                  cases hm : (mateL ss n)[j]? with
                  | none =>
                    rw [hm] at hj
                    cases hj
                  | some m =>
                    rw [hm] at hj
                    have hj : some (natI m) = some v := hj
                    cases hj
                    have mm := List.mem_of_getElem? hm
                    have ml2 : m < zs.length := by
                      have := (List.getElem?_eq_some_iff.mp (idxs_mem.mp mm)).1
                      omega
                    have zm : zs[m]? = some (atS zs m) := atS_some ml2
                    refine ⟨rfl, yes (iteT ⟨_, rfl, _, rfl, T, _, _, _, rfl, rfl, .inl (.inl (s4 _ _ eT3)), atI_nat (j := m) (by rw [List.getElem?_map, zm]; rfl), _, rfl, _, rfl, T, _, _, _, rfl, rfl, .inl (.inl (s4 _ _ eT3)), atN zs n _ zn, rfl, _, eY, small1000 ?_, ?_, offH s4 nY⟩)⟩
                    · rw [List.length_map, List.length_map, List.length_take]
                      omega
                    · rw [upd_same, takeN hm, List.map_append, List.map_append]
                      have e : decide (V.str (atS zs m) = V.str (atS zs n)) = decide (atS zs m = atS zs n) := decide_eq_decide.mpr ⟨fun h => V.str.inj h, fun h => by rw [h]⟩
                      rw [e]
                      rfl
                · rintro J4 ⟨eY, s4⟩
                  rw [List.length_map, List.take_length] at eY
                  refine ⟨Y, _, rfl, .inl (.inl eY), some (.int (0 + (n : Int))), some (.ref X), _, ?_, M3.same s4, row3.same s4, s4 _ _ eT3, s4 _ _ eS3, s4 _ _ eF3, hts3.same s4, et3⟩
                  rw [apL_succ, ha, due, if_pos rfl, Bool.true_and]
                  rfl
            · have due : dueB ss n = false := by
                unfold dueB
                rw [hm, decide_eq_false (show ¬ (m0 :: mr)[0]? = some n from fun e => q3 (decide_eq_true (by
                  have e2 : m0 = n := Option.some.inj e
                  rw [e2, Int.zero_add]
                  rfl))), Bool.and_false]
              refine ⟨some (.int (0 + (n : Int))), some (.ref X), ts, ?_, M.same s1, row.same s1, s1 _ _ eT, s1 _ _ eS, s1 _ _ eF, hts.same s1, ?_⟩
              · rw [apL_succ, due, if_neg (by decide), Bool.and_true]
                rfl
              · rw [dueL_succ, due, if_neg (by decide), List.append_nil]
                exact et
        · have due : dueB ss n = false := by
            unfold dueB
            rw [decide_eq_false (fun h => q (decide_eq_true (by omega))), Bool.false_and]
          refine ⟨some (.int (0 + (n : Int))), some (.ref X), ts, ?_, M.same s1, row.same s1, s1 _ _ eT, s1 _ _ eS, s1 _ _ eF, hts.same s1, ?_⟩
          · rw [apL_succ, due, if_neg (by decide), Bool.and_true]
            rfl
          · rw [dueL_succ, due, if_neg (by decide), List.append_nil]
            exact et
      · rintro σ J ⟨u8, u9, ts, rfl, M, row, eT, eS, eF, hts, et⟩
        rw [Int.toNat_natCast, List.length_map] at et ⊢
        have fin : ts.map (·.2) = grpL ss := by rw [et, ← sl, due_grp]
        have apa : apL zs ss zs.length = sepB rr zs := by rw [hss]; exact apart_sep rr zs
        rw [apa]
        have gsm : ∀ g ∈ grpL ss, g.length ≤ 20 ∧ ∀ n ∈ g, n < 1000 := fun g hg => by
          rw [← due_grp] at hg
          unfold dueL at hg
          obtain ⟨m, _, rfl⟩ := List.mem_map.mp hg
          exact mate_small (by omega)
        have gll : (grpL ss).length ≤ 20 := by
          rw [← due_grp]
          exact Nat.le_trans (dueL_len _ _) (by omega)
        have ft := grp_fine gll gsm
        have sub : zs.map (shown (rs.map (·.2))) = ss := by rw [hss, hrr]
        refine ⟨_, rfl, _, rfl, R, T, rs, zs, rfl, row, by omega, by omega, .inl (.inl eT), tz, by omega, fun U1 G1 p1 s1 e1 h1 f1 => ?_⟩
        refine ⟨_, rfl, _, rfl, rfl, R, T, rs, zs, rfl, row.same s1, by omega, by omega, .inl (.inl (s1 _ _ eT)), tz, by omega, fun U2 G2 p2 s2 e2 h2 f2 => ?_⟩
        rw [sub] at f1 f2
        have e1 := s2 _ _ e1
        have h1 := h1.same s2
        refine ⟨by show 2 ≤ sizeLine; decide, fun L1 n1 => ?_⟩
        have s3 : Same G2 (upd G2 L1 (.lst [.ref U1, .ref U2])) := same_new n1
        have e3 : upd G2 L1 (.lst [.ref U1, .ref U2]) L1 = some (.lst [.ref U1, .ref U2]) := upd_same
        generalize upd G2 L1 (.lst [.ref U1, .ref U2]) = G3 at s3 e3
        obtain ⟨dt, hdt⟩ : ∃ d : PyData, d = .list [.tuple ((grpL ss).map natT), .tuple ((grpL ss).map natT)] := ⟨_, rfl⟩
        have fine : Fine 60 100000 dt := by
          rw [hdt]
          exact fine_two ft ft (by decide) (by decide)
        refine ⟨L1, dt, rfl, ?_, fine, ?_⟩
        · rw [hdt]
          have a := dp_tns (K := K) (h1.same s3)
          have b := dp_tns (K := K) (h2.same s3)
          rw [f1] at a
          rw [f2] at b
          exact .lst (.inl (.inl e3)) (.cons (.tup (.inl (.inl (s3 _ _ e1))) a) (.cons (.tup (.inl (.inl (s3 _ _ e2))) b) .nil))
        have s123 := s1.trans (s2.trans s3)
        refine ⟨_, rfl, F, _, rfl, .inl ⟨.inl (.inl (s123 _ _ eF)), fun t nt => ?_⟩⟩
        refine ⟨by show 1 ≤ sizeLine; decide, fun L2 n2 => ?_⟩
        refine ⟨L2, 2, _, rfl, rfl, upd_same, by decide, by decide, by show 1 * 2 ≤ sizeLine; decide, fun L3 n3 => ?_⟩
        have s4 : Same G3 (upd G3 t (.tup (ts.map fun q => V.ref q.1))) := same_new nt
        have e4 : upd G3 t (.tup (ts.map fun q => V.ref q.1)) t = some (.tup (ts.map fun q => V.ref q.1)) := upd_same
        generalize upd G3 t (.tup (ts.map fun q => V.ref q.1)) = G4 at s4 e4 n2 n3
        have s5 : Same G4 (upd (upd G4 L2 (.lst [.ref t])) L3 (.lst (List.replicate (2 : Int).toNat [V.ref t]).flatten)) := (same_new n2).trans (same_new n3)
        have e5 : upd (upd G4 L2 (.lst [.ref t])) L3 (.lst (List.replicate (2 : Int).toNat [V.ref t]).flatten) L3 = some (.lst [.ref t, .ref t]) := upd_same
        generalize upd (upd G4 L2 (.lst [.ref t])) L3 (.lst (List.replicate (2 : Int).toNat [V.ref t]).flatten) = G5 at s5 e5
        have s15 := s123.trans (s4.trans s5)
        have dps := dp_tns (K := K) (hts.same s15)
        rw [fin] at dps
        refine ⟨L3, dt, rfl, ?_, fine, rfl, _, rfl, iteNS rfl ?_⟩
        · rw [hdt]
          exact .lst (.inl (.inl e5)) (.cons (.tup (.inl (.inl (s5 _ _ e4))) dps) (.cons (.tup (.inl (.inl (s5 _ _ e4))) dps) .nil))
        -- told apart or not
        have row5 := row.same s15
        have eT5 := s15 _ _ eT
        refine ⟨_, rfl, _, rfl, R, T, rs, zs, rfl, row5, by omega, by omega, .inl (.inl eT5), tz, by omega, fun G6 s6 => ?_⟩
        refine ⟨_, rfl, _, rfl, rfl, R, T, rs, zs, rfl, row5.same s6, by omega, by omega, .inl (.inl (s6 _ _ eT5)), tz, by omega, fun G7 s7 => ?_⟩
        rw [← hrr]
        generalize sepB rr zs = bb
        refine ⟨by show 2 ≤ sizeLine; decide, fun L5 n5 => ?_⟩
        obtain ⟨du, hdu⟩ : ∃ d : PyData, d = .list [.bool bb, .bool bb] := ⟨_, rfl⟩
        have fine2 : Fine 60 100000 du := by
          rw [hdu]
          exact fine_two (Fine.bool bb) (Fine.bool bb) (by decide) (by decide)
        have s8 : Same G7 (upd G7 L5 (.lst [.bl bb, .bl bb])) := same_new n5
        have e8 : upd G7 L5 (.lst [.bl bb, .bl bb]) L5 = some (.lst [.bl bb, .bl bb]) := upd_same
        generalize upd G7 L5 (.lst [.bl bb, .bl bb]) = G8 at s8 e8
        refine ⟨L5, du, rfl, ?_, fine2, ?_⟩
        · rw [hdu]
          exact .lst (.inl (.inl e8)) (.cons (.bl _) (.cons (.bl _) .nil))
        refine ⟨_, rfl, _, rfl, by show 2 ≤ sizeLine; decide, fun L6 n6 => ?_⟩
        refine ⟨L6, du, rfl, ?_, fine2, rfl, _, rfl, iteNS rfl ?_⟩
        · rw [hdu]
          exact .lst (.inl (.inl upd_same)) (.cons (.bl _) (.cons (.bl _) .nil))
        exact ⟨_, _, _, _, _, _, _, _, _, rfl, M.same (s15.trans (s6.trans (s7.trans (s8.trans (same_new (o := .lst [.bl bb, .bl bb]) n6)))))⟩
    · rintro σ J ⟨a1, a2, a3, a4, a5, a6, a7, a8, a9, rfl, M⟩
      exact k J M
end
end Gu
namespace Gu
open PySem PySem.Spec PyProof.Rows L2
section
variable {P : Program} {w : World} {K : PySem.W.Frag} {mg : Str → Option Value} {base : Heap}
/-! ### law -/
def spLaw (K : PySem.W.Frag) : Sp := fun vs H Q _ => ∃ (a : Addr) (ns : List Int), vs = [.ref a] ∧ SqL K H a (ns.map V.int) ∧ ns.length ≤ 63 ∧ ∀ G, Q (.bl true) G
theorem cal_law {n : Nat} (B : Bi mg) {f : Addr} {fd : FuncData} (F : Fun K "law" "law" s_law f fd) (n1 : 1 ≤ n) (C_law_pot : Cal P w K mg base 1 "_law_pot" ps_law_pot (spPot K)) (C_law_right : CalG P w K mg base n "_law_right" ps_law_right spRight) : FnG P w K mg base (n + 1) f fd ps_law (spLaw K) := by
  refine okG F sc_law (fun vs H Q E h => ?_) (fun cdv A outer s H vs Q E hr quiet h => ?_)
  · obtain ⟨a, ns, rfl, _⟩ := h
    rfl
  · obtain ⟨a, ns, rfl, hS, hl, k⟩ := h
    have hk1 := n1
    refine ⟨_, (pss_one (ps_ret (pe_callB (cr_all rfl) (by rfl) B.all (by decide +kernel) (pa_cons (pe_lc (own := [("_law_k", 1)]) (by rfl) sc_law.nd (pi_range1 (by rfl) B.range (pa_cons (pe_callB (call_max2 rfl) (by rfl) B.max (by decide +kernel) (pa_cons pe_int (pa_cons (pe_callB (call_min2 rfl) (by rfl) B.min (by decide +kernel) (pa_cons (pe_callB call_len_seq (by rfl) B.len (by decide +kernel) (pa_cons (pv 0) pa_nil)) (pa_cons pe_int pa_nil))) pa_nil))) pa_nil)) (blkOk_by (own := [("_law_k", 1)]) (N := ["_law_script", "_law_k"]) (sc := defScope s_law) (by decide +kernel)) (fun _ _ _ _ _ => pg_name (i := 1) sc_law.nd rfl (.inl rfl)) (fun _ _ _ _ _ => pts_nil) (fun _ _ _ _ _ => (pe_ownG C_law_right hr (Nat.le_refl _) quiet (by rfl) (pa_cons (pe_own C_law_pot hr hk1 (by rfl) (pa_cons (pv 0) (pa_cons (pv 1) pa_nil))) pa_nil)))) pa_nil)))), ?_⟩
    refine ⟨_, rfl, a, _, rfl, .inl hS, _, _, rfl, _, _, rfl, ?_⟩
    rw [List.length_map]
    generalize hm : (if (5 : Int) < (ns.length : Int) then (5 : Int) else (ns.length : Int)) = m
    have m1 : m ≤ 5 := by rw [← hm]; split <;> omega
    refine ⟨_, rfl, by split <;> omega, by split <;> omega, fun D nD => ?_⟩
    refine lc_range (lo := 0) (n := (if m > (2 : Int) then m else 2).toNat) (fun i J => ∃ bs : List Bool, bs.length = i ∧ bs.all id = true ∧ J D = some (.lst (bs.map V.bl)) ∧ Same H J) ⟨[], rfl, rfl, upd_same, same_new nD⟩ ?_ ?_
    · rintro i J hi ⟨bs, rfl, ha, eD, sJ⟩
      have i5 : bs.length < 5 := by
        revert hi
        split <;> omega
      refine ⟨rfl, yes (iteT ⟨_, rfl, _, rfl, a, bs.length, ns, ?_, sJ.seq hS, by omega, fun p G np hp sG => ?_⟩)⟩
      · rw [Int.zero_add]
        rfl
      · refine ⟨p, rfl, hp, fun G2 L => ?_⟩
        have nDp : D ≠ p := ne_of_none eD np
        have gD : G2 D = some (.lst (bs.map V.bl)) := L.keep _ _ (sG _ _ eD) nDp
        refine ⟨_, gD, small1000 (by rw [List.length_map]; omega), bs ++ [true], by rw [List.length_append]; rfl, by rw [List.all_append, ha]; rfl, ?_, fun b o e => ?_⟩
        · rw [upd_same, List.map_append]
          rfl
        · rw [upd_ne (ne_of_none e nD)]
          exact L.keep _ _ (sG _ _ (sJ _ _ e)) (ne_of_none (sJ _ _ e) np)
    · rintro J ⟨bs, el, ha, eD, sJ⟩
      refine ⟨D, bs, rfl, .inl (.inl eD), ?_⟩
      rw [ha]
      exact k J
end
end Gu
namespace Gu
open PySem PySem.Spec PyProof.Rows L2
theorem at_mk {K : PySem.W.Frag} {h : Heap} {mg : Str → Option Value} {x : Str} {st : Stmt} {ps : List Str} {f : Addr} {oc : Value} {od an : Option Addr} {sl : Array (Option Value)} {kV dc pm cd ct : Value} (X : K.In h) (G : h.Ns mainGlobals mg)
    (hb : ∀ (kV doc pm : Value) (an : Option Addr) (cdv ct : Value) (us : List Value), us.length = ps.length → bindArgs (PySem.W.fnOf x x (defArgs st) (defBody st) (defScope st) .none kV doc pm an cdv ct) ⟨us, []⟩ = pure (ps.zip us))
    (a : PySem.W.nsIn K mainGlobals x = some (some (.ref f))) (l : K.lookup f = some ⟨oc, od, .func (PySem.W.fnOf x x (defArgs st) (defBody st) (defScope st) .none kV dc pm an cd ct), sl⟩) (c : PySem.W.codeIn K cd x = true) (k : PySem.W.keepIn K (.ref f) = true) : At K mg x st ps :=
  ⟨f, _, fun_mk l c k, (fun_mk l c k).binds hb, PySem.W.mg_of X G a⟩
theorem cst_mk {K : PySem.W.Frag} {h : Heap} {mg : Str → Option Value} {x : Str} {v : V} {u : Value} (X : K.In h) (G : h.Ns mainGlobals mg) (r : RelV v u) (a : PySem.W.nsIn K mainGlobals x = some (some u)) : ∃ u, mg x = some u ∧ RelV v u := ⟨u, PySem.W.mg_of X G a, r⟩
end Gu
namespace Gu
open PySem PySem.Spec PyProof.Rows L2
theorem fin {P : Program} {w : World} {K : PySem.W.Frag} {mg : Str → Option Value} {base : Heap} {C f : Addr} {fd : FuncData} (B : Bi mg) (Ss : ShC K mg C) (Is : InitAt K C)
    (A_is_integer : At K mg "is_integer" s_is_integer ps_is_integer) (A_is_tuple : At K mg "is_tuple" s_is_tuple ps_is_tuple) (A_is_text : At K mg "is_text" s_is_text ps_is_text) (A_check_mark : At K mg "check_mark" s_check_mark ps_check_mark) (A_check_texts : At K mg "check_texts" s_check_texts ps_check_texts) (A_check_row : At K mg "check_row" s_check_row ps_check_row) (A_shortened : At K mg "shortened" s_shortened ps_shortened) (A_shown_by : At K mg "shown_by" s_shown_by ps_shown_by) (A_separates : At K mg "separates" s_separates ps_separates) (A_groups : At K mg "groups" s_groups ps_groups) (A_tells_apart : At K mg "tells_apart" s_tells_apart ps_tells_apart) (A_law_pot : At K mg "_law_pot" s_law_pot ps_law_pot) (A_law_ladle : At K mg "_law_ladle" s_law_ladle ps_law_ladle) (A_law_one_of : At K mg "_law_one_of" s_law_one_of ps_law_one_of) (A_law_told : At K mg "_law_told" s_law_told ps_law_told) (A_law_tolds : At K mg "_law_tolds" s_law_tolds ps_law_tolds) (A_law_made : At K mg "_law_made" s_law_made ps_law_made) (A_law_line : At K mg "_law_line" s_law_line ps_law_line) (A_law_cut : At K mg "_law_cut" s_law_cut ps_law_cut) (A_law_seen : At K mg "_law_seen" s_law_seen ps_law_seen) (A_law_some_lines : At K mg "_law_some_lines" s_law_some_lines ps_law_some_lines) (A_law_right : At K mg "_law_right" s_law_right ps_law_right)
    (F : Fun K "law" "law" s_law f fd) : FnG P w K mg base 7 f fd ps_law (spLaw K) := by
  have c1 : Cal P w K mg base 1 "_law_ladle" ps_law_ladle spLadle := cal_ladle B A_law_ladle
  have c2 : Cal P w K mg base 2 "_law_one_of" ps_law_one_of (spOneOf K) := cal_oneOf B A_law_one_of c1
  have c3 : Cal P w K mg base 3 "_law_told" ps_law_told spTold := cal_told B A_law_told c1 c2
  have c4 : Cal P w K mg base 4 "_law_tolds" ps_law_tolds spTolds := cal_tolds B A_law_tolds c3 c2
  have c5 : Cal P w K mg base 1 "is_integer" ps_is_integer (spIsInteger K) := cal_isInteger B A_is_integer
  have c6 : Cal P w K mg base 1 "is_text" ps_is_text (spIsText K) := cal_isText B A_is_text
  have cmk : Cal P w K mg base 2 "check_mark" ps_check_mark spCheckMark := cal_checkMark B A_check_mark c6
  have m1 : Mak P w K mg base 3 "Shortener" C (spInit C) := mak_sh B Ss Is c5 cmk
  have c7 : Cal P w K mg base 5 "_law_made" ps_law_made (spMade C) := cal_made B A_law_made m1
  have t1 : Cal P w K mg base 1 "is_tuple" ps_is_tuple (spIsTuple K) := cal_isTuple B A_is_tuple
  have d1 : Cal P w K mg base 2 "check_row" ps_check_row (spCheckRow C) := cal_checkRow B Ss A_check_row t1
  have g2 : Cal P w K mg base 1 "shortened" ps_shortened (spShortS C) := cal_shortS B Ss A_shortened
  have sby : Cal P w K mg base 2 "shown_by" ps_shown_by (spShownBy C) := cal_shownBy B Ss A_shown_by g2
  have p2 : Cal P w K mg base 2 "check_texts" ps_check_texts (spTexts K) := cal_texts B A_check_texts t1 c6
  have p5 : Cal P w K mg base 3 "separates" ps_separates (spSep K C) := cal_sep B A_separates sby
  have p6 : Cal P w K mg base 3 "groups" ps_groups (spGroups K C) := cal_groups B A_groups d1 p2 sby
  have p7 : Cal P w K mg base 4 "tells_apart" ps_tells_apart (spTells K C) := cal_tells B A_tells_apart d1 p2 p5
  have k6 : CalK P w K mg base 3 "groups" ["texts", "row"] swap2 (spGroups K C) := p6.kw swap2 A_groups swap2_vals fun _ _ _ _ _ _ ws hl => match ws, hl with | [_, _], _ => rfl
  have k7 : CalK P w K mg base 4 "tells_apart" ["texts", "row"] swap2 (spTells K C) := p7.kw swap2 A_tells_apart swap2_vals fun _ _ _ _ _ _ ws hl => match ws, hl with | [_, _], _ => rfl
  have g8 : Cal P w K mg base 3 "_law_line" ps_law_line spLine := cal_line B A_law_line c2
  have l1 : Cal P w K mg base 1 "_law_cut" ps_law_cut spCut := cal_cut B A_law_cut
  have l2 : Cal P w K mg base 2 "_law_seen" ps_law_seen spSeen := cal_seen B A_law_seen l1
  have l3 : Cal P w K mg base 4 "_law_some_lines" ps_law_some_lines spSomeLines := cal_someLines B A_law_some_lines c1 c2 g8
  have e7 : CalG P w K mg base 6 "_law_right" ps_law_right spRight := cal_right B A_law_right c4 l3 c7 l2 p6 k6 p7 k7
  exact cal_law B F (by decide) (cal_pot B A_law_pot) e7
end Gu
namespace Gu
open PySem PySem.Spec PyProof.Rows L2
theorem all_mk {l : PySem.W.OpenLaw} {w : World} {K : PySem.W.Frag} {h : Heap} {mg : Str → Option Value} {fa : Addr} {f_is_integer : Addr} {oc_is_integer kV_is_integer dc_is_integer pm_is_integer cd_is_integer ct_is_integer : Value} {od_is_integer an_is_integer : Option Addr} {sl_is_integer : Array (Option Value)} {f_is_tuple : Addr} {oc_is_tuple kV_is_tuple dc_is_tuple pm_is_tuple cd_is_tuple ct_is_tuple : Value} {od_is_tuple an_is_tuple : Option Addr} {sl_is_tuple : Array (Option Value)} {f_is_text : Addr} {oc_is_text kV_is_text dc_is_text pm_is_text cd_is_text ct_is_text : Value} {od_is_text an_is_text : Option Addr} {sl_is_text : Array (Option Value)} {f_check_mark : Addr} {oc_check_mark kV_check_mark dc_check_mark pm_check_mark cd_check_mark ct_check_mark : Value} {od_check_mark an_check_mark : Option Addr} {sl_check_mark : Array (Option Value)} {f_check_texts : Addr} {oc_check_texts kV_check_texts dc_check_texts pm_check_texts cd_check_texts ct_check_texts : Value} {od_check_texts an_check_texts : Option Addr} {sl_check_texts : Array (Option Value)} {f_check_row : Addr} {oc_check_row kV_check_row dc_check_row pm_check_row cd_check_row ct_check_row : Value} {od_check_row an_check_row : Option Addr} {sl_check_row : Array (Option Value)} {f_shortened : Addr} {oc_shortened kV_shortened dc_shortened pm_shortened cd_shortened ct_shortened : Value} {od_shortened an_shortened : Option Addr} {sl_shortened : Array (Option Value)} {f_shown_by : Addr} {oc_shown_by kV_shown_by dc_shown_by pm_shown_by cd_shown_by ct_shown_by : Value} {od_shown_by an_shown_by : Option Addr} {sl_shown_by : Array (Option Value)} {f_separates : Addr} {oc_separates kV_separates dc_separates pm_separates cd_separates ct_separates : Value} {od_separates an_separates : Option Addr} {sl_separates : Array (Option Value)} {f_groups : Addr} {oc_groups kV_groups dc_groups pm_groups cd_groups ct_groups : Value} {od_groups an_groups : Option Addr} {sl_groups : Array (Option Value)} {f_tells_apart : Addr} {oc_tells_apart kV_tells_apart dc_tells_apart pm_tells_apart cd_tells_apart ct_tells_apart : Value} {od_tells_apart an_tells_apart : Option Addr} {sl_tells_apart : Array (Option Value)} {f_law_pot : Addr} {oc_law_pot kV_law_pot dc_law_pot pm_law_pot cd_law_pot ct_law_pot : Value} {od_law_pot an_law_pot : Option Addr} {sl_law_pot : Array (Option Value)} {f_law_ladle : Addr} {oc_law_ladle kV_law_ladle dc_law_ladle pm_law_ladle cd_law_ladle ct_law_ladle : Value} {od_law_ladle an_law_ladle : Option Addr} {sl_law_ladle : Array (Option Value)} {f_law_one_of : Addr} {oc_law_one_of kV_law_one_of dc_law_one_of pm_law_one_of cd_law_one_of ct_law_one_of : Value} {od_law_one_of an_law_one_of : Option Addr} {sl_law_one_of : Array (Option Value)} {f_law_told : Addr} {oc_law_told kV_law_told dc_law_told pm_law_told cd_law_told ct_law_told : Value} {od_law_told an_law_told : Option Addr} {sl_law_told : Array (Option Value)} {f_law_tolds : Addr} {oc_law_tolds kV_law_tolds dc_law_tolds pm_law_tolds cd_law_tolds ct_law_tolds : Value} {od_law_tolds an_law_tolds : Option Addr} {sl_law_tolds : Array (Option Value)} {f_law_made : Addr} {oc_law_made kV_law_made dc_law_made pm_law_made cd_law_made ct_law_made : Value} {od_law_made an_law_made : Option Addr} {sl_law_made : Array (Option Value)} {f_law_line : Addr} {oc_law_line kV_law_line dc_law_line pm_law_line cd_law_line ct_law_line : Value} {od_law_line an_law_line : Option Addr} {sl_law_line : Array (Option Value)} {f_law_cut : Addr} {oc_law_cut kV_law_cut dc_law_cut pm_law_cut cd_law_cut ct_law_cut : Value} {od_law_cut an_law_cut : Option Addr} {sl_law_cut : Array (Option Value)} {f_law_seen : Addr} {oc_law_seen kV_law_seen dc_law_seen pm_law_seen cd_law_seen ct_law_seen : Value} {od_law_seen an_law_seen : Option Addr} {sl_law_seen : Array (Option Value)} {f_law_some_lines : Addr} {oc_law_some_lines kV_law_some_lines dc_law_some_lines pm_law_some_lines cd_law_some_lines ct_law_some_lines : Value} {od_law_some_lines an_law_some_lines : Option Addr} {sl_law_some_lines : Array (Option Value)} {f_law_right : Addr} {oc_law_right kV_law_right dc_law_right pm_law_right cd_law_right ct_law_right : Value} {od_law_right an_law_right : Option Addr} {sl_law_right : Array (Option Value)} {f_law : Addr} {oc_law kV_law dc_law pm_law cd_law ct_law : Value} {od_law an_law : Option Addr} {sl_law : Array (Option Value)} {C : Addr} {f_is : Addr} {oc_is kV_is dc_is pm_is cd_is ct_is : Value} {od_is an_is : Option Addr} {sl_is : Array (Option Value)} {u_MOST_SIGNS : Tok} {u_MOST_MARK : Tok} {u_MOST_ROW : Tok} {u_MOST_TEXT : Tok} {u_SIGNS : Tok} {u_MOST_TEXTS : Tok}
    (X : K.In h) (G : h.Ns mainGlobals mg) (hfa : mg "law" = some (.ref fa))
    (a_is_integer : PySem.W.nsIn K mainGlobals "is_integer" = some (some (.ref f_is_integer)))
    (l_is_integer : K.lookup f_is_integer = some ⟨oc_is_integer, od_is_integer, .func (PySem.W.fnOf "is_integer" "is_integer" (defArgs s_is_integer) (defBody s_is_integer) (defScope s_is_integer) .none kV_is_integer dc_is_integer pm_is_integer an_is_integer cd_is_integer ct_is_integer), sl_is_integer⟩)
    (c_is_integer : PySem.W.codeIn K cd_is_integer "is_integer" = true)
    (k_is_integer : PySem.W.keepIn K (.ref f_is_integer) = true)
    (a_is_tuple : PySem.W.nsIn K mainGlobals "is_tuple" = some (some (.ref f_is_tuple)))
    (l_is_tuple : K.lookup f_is_tuple = some ⟨oc_is_tuple, od_is_tuple, .func (PySem.W.fnOf "is_tuple" "is_tuple" (defArgs s_is_tuple) (defBody s_is_tuple) (defScope s_is_tuple) .none kV_is_tuple dc_is_tuple pm_is_tuple an_is_tuple cd_is_tuple ct_is_tuple), sl_is_tuple⟩)
    (c_is_tuple : PySem.W.codeIn K cd_is_tuple "is_tuple" = true)
    (k_is_tuple : PySem.W.keepIn K (.ref f_is_tuple) = true)
    (a_is_text : PySem.W.nsIn K mainGlobals "is_text" = some (some (.ref f_is_text)))
    (l_is_text : K.lookup f_is_text = some ⟨oc_is_text, od_is_text, .func (PySem.W.fnOf "is_text" "is_text" (defArgs s_is_text) (defBody s_is_text) (defScope s_is_text) .none kV_is_text dc_is_text pm_is_text an_is_text cd_is_text ct_is_text), sl_is_text⟩)
    (c_is_text : PySem.W.codeIn K cd_is_text "is_text" = true)
    (k_is_text : PySem.W.keepIn K (.ref f_is_text) = true)
    (a_check_mark : PySem.W.nsIn K mainGlobals "check_mark" = some (some (.ref f_check_mark)))
    (l_check_mark : K.lookup f_check_mark = some ⟨oc_check_mark, od_check_mark, .func (PySem.W.fnOf "check_mark" "check_mark" (defArgs s_check_mark) (defBody s_check_mark) (defScope s_check_mark) .none kV_check_mark dc_check_mark pm_check_mark an_check_mark cd_check_mark ct_check_mark), sl_check_mark⟩)
    (c_check_mark : PySem.W.codeIn K cd_check_mark "check_mark" = true)
    (k_check_mark : PySem.W.keepIn K (.ref f_check_mark) = true)
    (a_check_texts : PySem.W.nsIn K mainGlobals "check_texts" = some (some (.ref f_check_texts)))
    (l_check_texts : K.lookup f_check_texts = some ⟨oc_check_texts, od_check_texts, .func (PySem.W.fnOf "check_texts" "check_texts" (defArgs s_check_texts) (defBody s_check_texts) (defScope s_check_texts) .none kV_check_texts dc_check_texts pm_check_texts an_check_texts cd_check_texts ct_check_texts), sl_check_texts⟩)
    (c_check_texts : PySem.W.codeIn K cd_check_texts "check_texts" = true)
    (k_check_texts : PySem.W.keepIn K (.ref f_check_texts) = true)
    (a_check_row : PySem.W.nsIn K mainGlobals "check_row" = some (some (.ref f_check_row)))
    (l_check_row : K.lookup f_check_row = some ⟨oc_check_row, od_check_row, .func (PySem.W.fnOf "check_row" "check_row" (defArgs s_check_row) (defBody s_check_row) (defScope s_check_row) .none kV_check_row dc_check_row pm_check_row an_check_row cd_check_row ct_check_row), sl_check_row⟩)
    (c_check_row : PySem.W.codeIn K cd_check_row "check_row" = true)
    (k_check_row : PySem.W.keepIn K (.ref f_check_row) = true)
    (a_shortened : PySem.W.nsIn K mainGlobals "shortened" = some (some (.ref f_shortened)))
    (l_shortened : K.lookup f_shortened = some ⟨oc_shortened, od_shortened, .func (PySem.W.fnOf "shortened" "shortened" (defArgs s_shortened) (defBody s_shortened) (defScope s_shortened) .none kV_shortened dc_shortened pm_shortened an_shortened cd_shortened ct_shortened), sl_shortened⟩)
    (c_shortened : PySem.W.codeIn K cd_shortened "shortened" = true)
    (k_shortened : PySem.W.keepIn K (.ref f_shortened) = true)
    (a_shown_by : PySem.W.nsIn K mainGlobals "shown_by" = some (some (.ref f_shown_by)))
    (l_shown_by : K.lookup f_shown_by = some ⟨oc_shown_by, od_shown_by, .func (PySem.W.fnOf "shown_by" "shown_by" (defArgs s_shown_by) (defBody s_shown_by) (defScope s_shown_by) .none kV_shown_by dc_shown_by pm_shown_by an_shown_by cd_shown_by ct_shown_by), sl_shown_by⟩)
    (c_shown_by : PySem.W.codeIn K cd_shown_by "shown_by" = true)
    (k_shown_by : PySem.W.keepIn K (.ref f_shown_by) = true)
    (a_separates : PySem.W.nsIn K mainGlobals "separates" = some (some (.ref f_separates)))
    (l_separates : K.lookup f_separates = some ⟨oc_separates, od_separates, .func (PySem.W.fnOf "separates" "separates" (defArgs s_separates) (defBody s_separates) (defScope s_separates) .none kV_separates dc_separates pm_separates an_separates cd_separates ct_separates), sl_separates⟩)
    (c_separates : PySem.W.codeIn K cd_separates "separates" = true)
    (k_separates : PySem.W.keepIn K (.ref f_separates) = true)
    (a_groups : PySem.W.nsIn K mainGlobals "groups" = some (some (.ref f_groups)))
    (l_groups : K.lookup f_groups = some ⟨oc_groups, od_groups, .func (PySem.W.fnOf "groups" "groups" (defArgs s_groups) (defBody s_groups) (defScope s_groups) .none kV_groups dc_groups pm_groups an_groups cd_groups ct_groups), sl_groups⟩)
    (c_groups : PySem.W.codeIn K cd_groups "groups" = true)
    (k_groups : PySem.W.keepIn K (.ref f_groups) = true)
    (a_tells_apart : PySem.W.nsIn K mainGlobals "tells_apart" = some (some (.ref f_tells_apart)))
    (l_tells_apart : K.lookup f_tells_apart = some ⟨oc_tells_apart, od_tells_apart, .func (PySem.W.fnOf "tells_apart" "tells_apart" (defArgs s_tells_apart) (defBody s_tells_apart) (defScope s_tells_apart) .none kV_tells_apart dc_tells_apart pm_tells_apart an_tells_apart cd_tells_apart ct_tells_apart), sl_tells_apart⟩)
    (c_tells_apart : PySem.W.codeIn K cd_tells_apart "tells_apart" = true)
    (k_tells_apart : PySem.W.keepIn K (.ref f_tells_apart) = true)
    (a_law_pot : PySem.W.nsIn K mainGlobals "_law_pot" = some (some (.ref f_law_pot)))
    (l_law_pot : K.lookup f_law_pot = some ⟨oc_law_pot, od_law_pot, .func (PySem.W.fnOf "_law_pot" "_law_pot" (defArgs s_law_pot) (defBody s_law_pot) (defScope s_law_pot) .none kV_law_pot dc_law_pot pm_law_pot an_law_pot cd_law_pot ct_law_pot), sl_law_pot⟩)
    (c_law_pot : PySem.W.codeIn K cd_law_pot "_law_pot" = true)
    (k_law_pot : PySem.W.keepIn K (.ref f_law_pot) = true)
    (a_law_ladle : PySem.W.nsIn K mainGlobals "_law_ladle" = some (some (.ref f_law_ladle)))
    (l_law_ladle : K.lookup f_law_ladle = some ⟨oc_law_ladle, od_law_ladle, .func (PySem.W.fnOf "_law_ladle" "_law_ladle" (defArgs s_law_ladle) (defBody s_law_ladle) (defScope s_law_ladle) .none kV_law_ladle dc_law_ladle pm_law_ladle an_law_ladle cd_law_ladle ct_law_ladle), sl_law_ladle⟩)
    (c_law_ladle : PySem.W.codeIn K cd_law_ladle "_law_ladle" = true)
    (k_law_ladle : PySem.W.keepIn K (.ref f_law_ladle) = true)
    (a_law_one_of : PySem.W.nsIn K mainGlobals "_law_one_of" = some (some (.ref f_law_one_of)))
    (l_law_one_of : K.lookup f_law_one_of = some ⟨oc_law_one_of, od_law_one_of, .func (PySem.W.fnOf "_law_one_of" "_law_one_of" (defArgs s_law_one_of) (defBody s_law_one_of) (defScope s_law_one_of) .none kV_law_one_of dc_law_one_of pm_law_one_of an_law_one_of cd_law_one_of ct_law_one_of), sl_law_one_of⟩)
    (c_law_one_of : PySem.W.codeIn K cd_law_one_of "_law_one_of" = true)
    (k_law_one_of : PySem.W.keepIn K (.ref f_law_one_of) = true)
    (a_law_told : PySem.W.nsIn K mainGlobals "_law_told" = some (some (.ref f_law_told)))
    (l_law_told : K.lookup f_law_told = some ⟨oc_law_told, od_law_told, .func (PySem.W.fnOf "_law_told" "_law_told" (defArgs s_law_told) (defBody s_law_told) (defScope s_law_told) .none kV_law_told dc_law_told pm_law_told an_law_told cd_law_told ct_law_told), sl_law_told⟩)
    (c_law_told : PySem.W.codeIn K cd_law_told "_law_told" = true)
    (k_law_told : PySem.W.keepIn K (.ref f_law_told) = true)
    (a_law_tolds : PySem.W.nsIn K mainGlobals "_law_tolds" = some (some (.ref f_law_tolds)))
    (l_law_tolds : K.lookup f_law_tolds = some ⟨oc_law_tolds, od_law_tolds, .func (PySem.W.fnOf "_law_tolds" "_law_tolds" (defArgs s_law_tolds) (defBody s_law_tolds) (defScope s_law_tolds) .none kV_law_tolds dc_law_tolds pm_law_tolds an_law_tolds cd_law_tolds ct_law_tolds), sl_law_tolds⟩)
    (c_law_tolds : PySem.W.codeIn K cd_law_tolds "_law_tolds" = true)
    (k_law_tolds : PySem.W.keepIn K (.ref f_law_tolds) = true)
    (a_law_made : PySem.W.nsIn K mainGlobals "_law_made" = some (some (.ref f_law_made)))
    (l_law_made : K.lookup f_law_made = some ⟨oc_law_made, od_law_made, .func (PySem.W.fnOf "_law_made" "_law_made" (defArgs s_law_made) (defBody s_law_made) (defScope s_law_made) .none kV_law_made dc_law_made pm_law_made an_law_made cd_law_made ct_law_made), sl_law_made⟩)
    (c_law_made : PySem.W.codeIn K cd_law_made "_law_made" = true)
    (k_law_made : PySem.W.keepIn K (.ref f_law_made) = true)
    (a_law_line : PySem.W.nsIn K mainGlobals "_law_line" = some (some (.ref f_law_line)))
    (l_law_line : K.lookup f_law_line = some ⟨oc_law_line, od_law_line, .func (PySem.W.fnOf "_law_line" "_law_line" (defArgs s_law_line) (defBody s_law_line) (defScope s_law_line) .none kV_law_line dc_law_line pm_law_line an_law_line cd_law_line ct_law_line), sl_law_line⟩)
    (c_law_line : PySem.W.codeIn K cd_law_line "_law_line" = true)
    (k_law_line : PySem.W.keepIn K (.ref f_law_line) = true)
    (a_law_cut : PySem.W.nsIn K mainGlobals "_law_cut" = some (some (.ref f_law_cut)))
    (l_law_cut : K.lookup f_law_cut = some ⟨oc_law_cut, od_law_cut, .func (PySem.W.fnOf "_law_cut" "_law_cut" (defArgs s_law_cut) (defBody s_law_cut) (defScope s_law_cut) .none kV_law_cut dc_law_cut pm_law_cut an_law_cut cd_law_cut ct_law_cut), sl_law_cut⟩)
    (c_law_cut : PySem.W.codeIn K cd_law_cut "_law_cut" = true)
    (k_law_cut : PySem.W.keepIn K (.ref f_law_cut) = true)
    (a_law_seen : PySem.W.nsIn K mainGlobals "_law_seen" = some (some (.ref f_law_seen)))
    (l_law_seen : K.lookup f_law_seen = some ⟨oc_law_seen, od_law_seen, .func (PySem.W.fnOf "_law_seen" "_law_seen" (defArgs s_law_seen) (defBody s_law_seen) (defScope s_law_seen) .none kV_law_seen dc_law_seen pm_law_seen an_law_seen cd_law_seen ct_law_seen), sl_law_seen⟩)
    (c_law_seen : PySem.W.codeIn K cd_law_seen "_law_seen" = true)
    (k_law_seen : PySem.W.keepIn K (.ref f_law_seen) = true)
    (a_law_some_lines : PySem.W.nsIn K mainGlobals "_law_some_lines" = some (some (.ref f_law_some_lines)))
    (l_law_some_lines : K.lookup f_law_some_lines = some ⟨oc_law_some_lines, od_law_some_lines, .func (PySem.W.fnOf "_law_some_lines" "_law_some_lines" (defArgs s_law_some_lines) (defBody s_law_some_lines) (defScope s_law_some_lines) .none kV_law_some_lines dc_law_some_lines pm_law_some_lines an_law_some_lines cd_law_some_lines ct_law_some_lines), sl_law_some_lines⟩)
    (c_law_some_lines : PySem.W.codeIn K cd_law_some_lines "_law_some_lines" = true)
    (k_law_some_lines : PySem.W.keepIn K (.ref f_law_some_lines) = true)
    (a_law_right : PySem.W.nsIn K mainGlobals "_law_right" = some (some (.ref f_law_right)))
    (l_law_right : K.lookup f_law_right = some ⟨oc_law_right, od_law_right, .func (PySem.W.fnOf "_law_right" "_law_right" (defArgs s_law_right) (defBody s_law_right) (defScope s_law_right) .none kV_law_right dc_law_right pm_law_right an_law_right cd_law_right ct_law_right), sl_law_right⟩)
    (c_law_right : PySem.W.codeIn K cd_law_right "_law_right" = true)
    (k_law_right : PySem.W.keepIn K (.ref f_law_right) = true)
    (a_law : PySem.W.nsIn K mainGlobals "law" = some (some (.ref f_law)))
    (l_law : K.lookup f_law = some ⟨oc_law, od_law, .func (PySem.W.fnOf "law" "law" (defArgs s_law) (defBody s_law) (defScope s_law) .none kV_law dc_law pm_law an_law cd_law ct_law), sl_law⟩)
    (c_law : PySem.W.codeIn K cd_law "law" = true)
    (k_law : PySem.W.keepIn K (.ref f_law) = true)
    (qn : PySem.W.specialIn K (.builtin "object.__class__") "__get__" = some (some (.builtin "getset_descriptor.__get__")))
    (qt : PySem.W.takesIn K (.builtin "object.__class__") = some true)
    (asC : PySem.W.nsIn K mainGlobals "Shortener" = some (some (.ref C)))
    (a_is : PySem.W.findIn K (.ref C) "__init__" = some (some (.ref f_is)))
    (l_is : K.lookup f_is = some ⟨oc_is, od_is, .func (PySem.W.fnOf "__init__" "Shortener.__init__" (defArgs s_Shortener_init) (defBody s_Shortener_init) (defScope s_Shortener_init) .none kV_is dc_is pm_is an_is cd_is ct_is), sl_is⟩)
    (c_is : PySem.W.codeIn K cd_is "Shortener.__init__" = true)
    (k_is : PySem.W.keepIn K (.ref f_is) = true)
    (i_is : PySem.W.isFn K (.ref f_is) = true)
    (pgs : PySem.W.plainGet K C Str.empty = true)
    (hds : PySem.W.hasDictIn K C = true)
    (pos : PySem.W.plainOver K C = true)
    (sas : PySem.W.findIn K (.ref C) "__setattr__" = some (some (.builtin "object.__setattr__")))
    (mksC : PySem.W.makesIn K C = true)
    (ksC : PySem.W.keepIn K (.ref C) = true)
    (ns_limit : PySem.W.findIn K (.ref C) "limit" = some none)
    (ns_head : PySem.W.findIn K (.ref C) "head" = some none)
    (ns_tail : PySem.W.findIn K (.ref C) "tail" = some none)
    (ns_mark : PySem.W.findIn K (.ref C) "mark" = some none)
    (ns_told : PySem.W.findIn K (.ref C) "told" = some none)
    (qas : PySem.W.findIn K (.ref C) "__class__" = some (some (.builtin "object.__class__")))
    (qms : PySem.W.mroIn K C (.type "object") = some true)
    (z_ValueError : PySem.W.nsIn K mainGlobals "ValueError" = some none)
    (z_abs : PySem.W.nsIn K mainGlobals "abs" = some none)
    (z_all : PySem.W.nsIn K mainGlobals "all" = some none)
    (z_bool : PySem.W.nsIn K mainGlobals "bool" = some none)
    (z_divmod : PySem.W.nsIn K mainGlobals "divmod" = some none)
    (z_enumerate : PySem.W.nsIn K mainGlobals "enumerate" = some none)
    (z_int : PySem.W.nsIn K mainGlobals "int" = some none)
    (z_isinstance : PySem.W.nsIn K mainGlobals "isinstance" = some none)
    (z_len : PySem.W.nsIn K mainGlobals "len" = some none)
    (z_max : PySem.W.nsIn K mainGlobals "max" = some none)
    (z_min : PySem.W.nsIn K mainGlobals "min" = some none)
    (z_range : PySem.W.nsIn K mainGlobals "range" = some none)
    (z_repr : PySem.W.nsIn K mainGlobals "repr" = some none)
    (z_set : PySem.W.nsIn K mainGlobals "set" = some none)
    (z_str : PySem.W.nsIn K mainGlobals "str" = some none)
    (z_tuple : PySem.W.nsIn K mainGlobals "tuple" = some none)
    (z_MOST_SIGNS : PySem.W.nsIn K mainGlobals "MOST_SIGNS" = some (some (.int 40 u_MOST_SIGNS)))
    (z_MOST_MARK : PySem.W.nsIn K mainGlobals "MOST_MARK" = some (some (.int 3 u_MOST_MARK)))
    (z_MOST_ROW : PySem.W.nsIn K mainGlobals "MOST_ROW" = some (some (.int 4 u_MOST_ROW)))
    (z_MOST_TEXT : PySem.W.nsIn K mainGlobals "MOST_TEXT" = some (some (.int 200 u_MOST_TEXT)))
    (z_SIGNS : PySem.W.nsIn K mainGlobals "SIGNS" = some (some (.str ".0123456789abcdefghijklmnopqrstuvwxyz~" u_SIGNS)))
    (z_MOST_TEXTS : PySem.W.nsIn K mainGlobals "MOST_TEXTS" = some (some (.int 20 u_MOST_TEXTS))) :
    ∃ fd : FuncData, (∀ (s : Shared) (v : Value), BindsTo s fd ⟨[v], []⟩ [("_law_script", v)]) ∧ ∀ base : Heap, K.In base → base.Ns mainGlobals mg → FnG l.prog w K mg base 7 fa fd ["_law_script"] (spLaw K) := by
  have e := hfa.symm.trans (PySem.W.mg_of X G a_law)
  cases e
  have B : Bi mg := ⟨PySem.W.mg_none_of X G z_ValueError, PySem.W.mg_none_of X G z_abs, PySem.W.mg_none_of X G z_all, PySem.W.mg_none_of X G z_bool, PySem.W.mg_none_of X G z_divmod, PySem.W.mg_none_of X G z_enumerate, PySem.W.mg_none_of X G z_int, PySem.W.mg_none_of X G z_isinstance, PySem.W.mg_none_of X G z_len, PySem.W.mg_none_of X G z_max, PySem.W.mg_none_of X G z_min, PySem.W.mg_none_of X G z_range, PySem.W.mg_none_of X G z_repr, PySem.W.mg_none_of X G z_set, PySem.W.mg_none_of X G z_str, PySem.W.mg_none_of X G z_tuple, cst_mk X G ⟨_, rfl⟩ z_MOST_SIGNS, cst_mk X G ⟨_, rfl⟩ z_MOST_MARK, cst_mk X G ⟨_, rfl⟩ z_MOST_ROW, cst_mk X G ⟨_, rfl⟩ z_MOST_TEXT, cst_mk X G ⟨_, rfl⟩ z_SIGNS, cst_mk X G ⟨_, rfl⟩ z_MOST_TEXTS⟩
  have Ss : ShC K mg C := ⟨⟨pgs, hds, pos, sas⟩, ns_limit, ns_head, ns_tail, ns_mark, ns_told, PySem.W.mg_of X G asC, qas, qn, qt, qms, if_pos (beq_self_eq_true _)⟩
  have Is : InitAt K C := ⟨f_is, _, ⟨mksC, a_is, i_is, ksC⟩, fun_mk l_is c_is k_is, (fun_mk l_is c_is k_is).binds fun _ _ _ _ _ _ us hl => match us, hl with | [_, _, _, _, _], _ => rfl⟩
  have A_is_integer : At K mg "is_integer" s_is_integer ps_is_integer := at_mk X G (fun _ _ _ _ _ _ us hl => match us, hl with | [_, _, _], _ => rfl) a_is_integer l_is_integer c_is_integer k_is_integer
  have A_is_tuple : At K mg "is_tuple" s_is_tuple ps_is_tuple := at_mk X G (fun _ _ _ _ _ _ us hl => match us, hl with | [_, _, _], _ => rfl) a_is_tuple l_is_tuple c_is_tuple k_is_tuple
  have A_is_text : At K mg "is_text" s_is_text ps_is_text := at_mk X G (fun _ _ _ _ _ _ us hl => match us, hl with | [_, _], _ => rfl) a_is_text l_is_text c_is_text k_is_text
  have A_check_mark : At K mg "check_mark" s_check_mark ps_check_mark := at_mk X G (fun _ _ _ _ _ _ us hl => match us, hl with | [_], _ => rfl) a_check_mark l_check_mark c_check_mark k_check_mark
  have A_check_texts : At K mg "check_texts" s_check_texts ps_check_texts := at_mk X G (fun _ _ _ _ _ _ us hl => match us, hl with | [_, _], _ => rfl) a_check_texts l_check_texts c_check_texts k_check_texts
  have A_check_row : At K mg "check_row" s_check_row ps_check_row := at_mk X G (fun _ _ _ _ _ _ us hl => match us, hl with | [_], _ => rfl) a_check_row l_check_row c_check_row k_check_row
  have A_shortened : At K mg "shortened" s_shortened ps_shortened := at_mk X G (fun _ _ _ _ _ _ us hl => match us, hl with | [_, _, _], _ => rfl) a_shortened l_shortened c_shortened k_shortened
  have A_shown_by : At K mg "shown_by" s_shown_by ps_shown_by := at_mk X G (fun _ _ _ _ _ _ us hl => match us, hl with | [_, _], _ => rfl) a_shown_by l_shown_by c_shown_by k_shown_by
  have A_separates : At K mg "separates" s_separates ps_separates := at_mk X G (fun _ _ _ _ _ _ us hl => match us, hl with | [_, _], _ => rfl) a_separates l_separates c_separates k_separates
  have A_groups : At K mg "groups" s_groups ps_groups := at_mk X G (fun _ _ _ _ _ _ us hl => match us, hl with | [_, _], _ => rfl) a_groups l_groups c_groups k_groups
  have A_tells_apart : At K mg "tells_apart" s_tells_apart ps_tells_apart := at_mk X G (fun _ _ _ _ _ _ us hl => match us, hl with | [_, _], _ => rfl) a_tells_apart l_tells_apart c_tells_apart k_tells_apart
  have A_law_pot : At K mg "_law_pot" s_law_pot ps_law_pot := at_mk X G (fun _ _ _ _ _ _ us hl => match us, hl with | [_, _], _ => rfl) a_law_pot l_law_pot c_law_pot k_law_pot
  have A_law_ladle : At K mg "_law_ladle" s_law_ladle ps_law_ladle := at_mk X G (fun _ _ _ _ _ _ us hl => match us, hl with | [_, _], _ => rfl) a_law_ladle l_law_ladle c_law_ladle k_law_ladle
  have A_law_one_of : At K mg "_law_one_of" s_law_one_of ps_law_one_of := at_mk X G (fun _ _ _ _ _ _ us hl => match us, hl with | [_, _], _ => rfl) a_law_one_of l_law_one_of c_law_one_of k_law_one_of
  have A_law_told : At K mg "_law_told" s_law_told ps_law_told := at_mk X G (fun _ _ _ _ _ _ us hl => match us, hl with | [_], _ => rfl) a_law_told l_law_told c_law_told k_law_told
  have A_law_tolds : At K mg "_law_tolds" s_law_tolds ps_law_tolds := at_mk X G (fun _ _ _ _ _ _ us hl => match us, hl with | [_], _ => rfl) a_law_tolds l_law_tolds c_law_tolds k_law_tolds
  have A_law_made : At K mg "_law_made" s_law_made ps_law_made := at_mk X G (fun _ _ _ _ _ _ us hl => match us, hl with | [_], _ => rfl) a_law_made l_law_made c_law_made k_law_made
  have A_law_line : At K mg "_law_line" s_law_line ps_law_line := at_mk X G (fun _ _ _ _ _ _ us hl => match us, hl with | [_, _], _ => rfl) a_law_line l_law_line c_law_line k_law_line
  have A_law_cut : At K mg "_law_cut" s_law_cut ps_law_cut := at_mk X G (fun _ _ _ _ _ _ us hl => match us, hl with | [_, _], _ => rfl) a_law_cut l_law_cut c_law_cut k_law_cut
  have A_law_seen : At K mg "_law_seen" s_law_seen ps_law_seen := at_mk X G (fun _ _ _ _ _ _ us hl => match us, hl with | [_, _], _ => rfl) a_law_seen l_law_seen c_law_seen k_law_seen
  have A_law_some_lines : At K mg "_law_some_lines" s_law_some_lines ps_law_some_lines := at_mk X G (fun _ _ _ _ _ _ us hl => match us, hl with | [_, _], _ => rfl) a_law_some_lines l_law_some_lines c_law_some_lines k_law_some_lines
  have A_law_right : At K mg "_law_right" s_law_right ps_law_right := at_mk X G (fun _ _ _ _ _ _ us hl => match us, hl with | [_], _ => rfl) a_law_right l_law_right c_law_right k_law_right
  exact ⟨_, fun s v => .of_eq rfl, fun base _ _ => fin B Ss Is A_is_integer A_is_tuple A_is_text A_check_mark A_check_texts A_check_row A_shortened A_shown_by A_separates A_groups A_tells_apart A_law_pot A_law_ladle A_law_one_of A_law_told A_law_tolds A_law_made A_law_line A_law_cut A_law_seen A_law_some_lines A_law_right (fun_mk l_law c_law k_law)⟩
end Gu
open PySem PySem.W PyProof.Rows
set_option maxHeartbeats 0 in
theorem PySem.Challenge.cw_shownshort_k27_whole_groups_shown_alike_holds : PySem.Challenge.rw_shownshort_k27_whole_groups_shown_alike.Holds := by
  w_on; o_law; k_head; (case hw => w_witness2)
  k_fill
  refine Gu.walkG (l := PySem.Challenge.rw_shownshort_k27_whole_groups_shown_alike) (n := 63) (k := 7) (x := "_law_script") (sp := Gu.spLaw) rfl (by decide) rfl ⟨rfl, by decide, by decide⟩ (fun w h Y => PySem.W.kIn_of Y) ?F (fun _ _ a ns hl hS => ⟨a, ns, rfl, hS, hl, fun _ => rfl⟩)
  case F =>
    intro w mg fa h KX G hmg
    refine' Gu.all_mk KX G hmg ?a_is_integer ?l_is_integer ?c_is_integer ?k_is_integer ?a_is_tuple ?l_is_tuple ?c_is_tuple ?k_is_tuple ?a_is_text ?l_is_text ?c_is_text ?k_is_text ?a_check_mark ?l_check_mark ?c_check_mark ?k_check_mark ?a_check_texts ?l_check_texts ?c_check_texts ?k_check_texts ?a_check_row ?l_check_row ?c_check_row ?k_check_row ?a_shortened ?l_shortened ?c_shortened ?k_shortened ?a_shown_by ?l_shown_by ?c_shown_by ?k_shown_by ?a_separates ?l_separates ?c_separates ?k_separates ?a_groups ?l_groups ?c_groups ?k_groups ?a_tells_apart ?l_tells_apart ?c_tells_apart ?k_tells_apart ?a_law_pot ?l_law_pot ?c_law_pot ?k_law_pot ?a_law_ladle ?l_law_ladle ?c_law_ladle ?k_law_ladle ?a_law_one_of ?l_law_one_of ?c_law_one_of ?k_law_one_of ?a_law_told ?l_law_told ?c_law_told ?k_law_told ?a_law_tolds ?l_law_tolds ?c_law_tolds ?k_law_tolds ?a_law_made ?l_law_made ?c_law_made ?k_law_made ?a_law_line ?l_law_line ?c_law_line ?k_law_line ?a_law_cut ?l_law_cut ?c_law_cut ?k_law_cut ?a_law_seen ?l_law_seen ?c_law_seen ?k_law_seen ?a_law_some_lines ?l_law_some_lines ?c_law_some_lines ?k_law_some_lines ?a_law_right ?l_law_right ?c_law_right ?k_law_right ?a_law ?l_law ?c_law ?k_law ?qn ?qt ?asC ?a_is ?l_is ?c_is ?k_is ?i_is ?pgs ?hds ?pos ?sas ?mksC ?ksC ?ns_limit ?ns_head ?ns_tail ?ns_mark ?ns_told ?qas ?qms ?z_ValueError ?z_abs ?z_all ?z_bool ?z_divmod ?z_enumerate ?z_int ?z_isinstance ?z_len ?z_max ?z_min ?z_range ?z_repr ?z_set ?z_str ?z_tuple ?z_MOST_SIGNS ?z_MOST_MARK ?z_MOST_ROW ?z_MOST_TEXT ?z_SIGNS ?z_MOST_TEXTS
    (case a_is_integer => k_is)
    (case l_is_integer => k_is)
    (case c_is_integer => k_is)
    (case k_is_integer => k_is)
    (case a_is_tuple => k_is)
    (case l_is_tuple => k_is)
    (case c_is_tuple => k_is)
    (case k_is_tuple => k_is)
    (case a_is_text => k_is)
    (case l_is_text => k_is)
    (case c_is_text => k_is)
    (case k_is_text => k_is)
    (case a_check_mark => k_is)
    (case l_check_mark => k_is)
    (case c_check_mark => k_is)
    (case k_check_mark => k_is)
    (case a_check_texts => k_is)
    (case l_check_texts => k_is)
    (case c_check_texts => k_is)
    (case k_check_texts => k_is)
    (case a_check_row => k_is)
    (case l_check_row => k_is)
    (case c_check_row => k_is)
    (case k_check_row => k_is)
    (case a_shortened => k_is)
    (case l_shortened => k_is)
    (case c_shortened => k_is)
    (case k_shortened => k_is)
    (case a_shown_by => k_is)
    (case l_shown_by => k_is)
    (case c_shown_by => k_is)
    (case k_shown_by => k_is)
    (case a_separates => k_is)
    (case l_separates => k_is)
    (case c_separates => k_is)
    (case k_separates => k_is)
    (case a_groups => k_is)
    (case l_groups => k_is)
    (case c_groups => k_is)
    (case k_groups => k_is)
    (case a_tells_apart => k_is)
    (case l_tells_apart => k_is)
    (case c_tells_apart => k_is)
    (case k_tells_apart => k_is)
    (case a_law_pot => k_is)
    (case l_law_pot => k_is)
    (case c_law_pot => k_is)
    (case k_law_pot => k_is)
    (case a_law_ladle => k_is)
    (case l_law_ladle => k_is)
    (case c_law_ladle => k_is)
    (case k_law_ladle => k_is)
    (case a_law_one_of => k_is)
    (case l_law_one_of => k_is)
    (case c_law_one_of => k_is)
    (case k_law_one_of => k_is)
    (case a_law_told => k_is)
    (case l_law_told => k_is)
    (case c_law_told => k_is)
    (case k_law_told => k_is)
    (case a_law_tolds => k_is)
    (case l_law_tolds => k_is)
    (case c_law_tolds => k_is)
    (case k_law_tolds => k_is)
    (case a_law_made => k_is)
    (case l_law_made => k_is)
    (case c_law_made => k_is)
    (case k_law_made => k_is)
    (case a_law_line => k_is)
    (case l_law_line => k_is)
    (case c_law_line => k_is)
    (case k_law_line => k_is)
    (case a_law_cut => k_is)
    (case l_law_cut => k_is)
    (case c_law_cut => k_is)
    (case k_law_cut => k_is)
    (case a_law_seen => k_is)
    (case l_law_seen => k_is)
    (case c_law_seen => k_is)
    (case k_law_seen => k_is)
    (case a_law_some_lines => k_is)
    (case l_law_some_lines => k_is)
    (case c_law_some_lines => k_is)
    (case k_law_some_lines => k_is)
    (case a_law_right => k_is)
    (case l_law_right => k_is)
    (case c_law_right => k_is)
    (case k_law_right => k_is)
    (case a_law => k_is)
    (case l_law => k_is)
    (case c_law => k_is)
    (case k_law => k_is)
    (case qn => k_is)
    (case qt => k_is)
    (case asC => k_is)
    (case a_is => k_is)
    (case l_is => k_is)
    (case c_is => k_is)
    (case k_is => k_is)
    (case i_is => k_is)
    (case pgs => k_is)
    (case hds => k_is)
    (case pos => k_is)
    (case sas => k_is)
    (case mksC => k_is)
    (case ksC => k_is)
    (case ns_limit => k_is)
    (case ns_head => k_is)
    (case ns_tail => k_is)
    (case ns_mark => k_is)
    (case ns_told => k_is)
    (case qas => k_is)
    (case qms => k_is)
    (case z_ValueError => k_is)
    (case z_abs => k_is)
    (case z_all => k_is)
    (case z_bool => k_is)
    (case z_divmod => k_is)
    (case z_enumerate => k_is)
    (case z_int => k_is)
    (case z_isinstance => k_is)
    (case z_len => k_is)
    (case z_max => k_is)
    (case z_min => k_is)
    (case z_range => k_is)
    (case z_repr => k_is)
    (case z_set => k_is)
    (case z_str => k_is)
    (case z_tuple => k_is)
    (case z_MOST_SIGNS => k_is)
    (case z_MOST_MARK => k_is)
    (case z_MOST_ROW => k_is)
    (case z_MOST_TEXT => k_is)
    (case z_SIGNS => k_is)
    (case z_MOST_TEXTS => k_is)
