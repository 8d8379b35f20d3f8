import PyProof.Rows.All
import Wide.All
import OpenK.AllK
import Wide.FinOn
import PySem.Challenge.RW_mailtide_k36_whole_least_rows
import HandS.ForMost
import HandS.Exc
import HandS.TryOnly
import HandS.TryMany
import HandS.Lambda
import HandS.EndTab
import HandS.IsInst
import HandS.SortRule
import HandS.SortInts
import HandS.StrMore
import HandS.Conv
import HandS.Wide
import HandS.Flow
import HandS.Walk
import HandS.TupAny
import HandS.ListEq
import HandS.DeepEq
import KE.KExcSuper
import KE.GoesMore
import PyProof.Draws
import HandS.ForExc
import HandS.Zip
import HandS.Strs
import HandS.SetFor
import HandS.Star
import HandS.SortKw
import HandS.Deep
import KE.DataMinMax
import KE.DatumOrd
import PyProof.P3In
import PyProof.Rows.SetFrom
import HandS.Codes
import HandS.OwnEq
import PyProof.NeKinds
import HandS.Defaults
import HandS.DictComp
import HandS.Small
import HandS.Style
import HandS.Dict
import HandS.ForDict
import HandS.Evl
import KE.DataMinKey
import KE.SortData
import KE.DataAny
set_option Elab.async false
set_option linter.all false
set_option maxRecDepth 100000
namespace K1
open PySem PySem.Spec PyProof.Rows L2
def topS (i : Nat) : Stmt := PySem.Challenge.pw_mailtide_k36_whole_least_rows.main.body.getD i (.Pass ⟨0, 0, 0, 0⟩)
abbrev st__wall : Stmt := topS 0
abbrev st_TideError : Stmt := topS 2
abbrev st_BadFolder : Stmt := topS 3
abbrev st_BadNumber : Stmt := topS 4
abbrev st_BadSigns : Stmt := topS 5
abbrev st_BadDeed : Stmt := topS 6
abbrev st_BadRow : Stmt := topS 7
abbrev st_BadCopy : Stmt := topS 8
abbrev st_BadValue : Stmt := topS 9
abbrev st_is_integer : Stmt := topS 13
abbrev st_is_number : Stmt := topS 14
abbrev st_is_body : Stmt := topS 15
abbrev st_is_mark : Stmt := topS 16
abbrev st_is_sign : Stmt := topS 17
abbrev st_is_signs : Stmt := topS 18
abbrev st_is_numbers : Stmt := topS 19
abbrev st_is_ascending : Stmt := topS 20
abbrev st_Folder : Stmt := topS 22
abbrev st__check_numbers : Stmt := topS 23
abbrev st__with_sign : Stmt := topS 24
abbrev st__without_sign : Stmt := topS 25
abbrev st_played : Stmt := topS 27
abbrev st_is_deed : Stmt := topS 28
abbrev st_can_be_done : Stmt := topS 29
abbrev st_done : Stmt := topS 30
abbrev st_Copy : Stmt := topS 33
abbrev st_copy_of : Stmt := topS 34
abbrev st_stepped : Stmt := topS 35
abbrev st_run : Stmt := topS 36
abbrev st_least_row : Stmt := topS 37
abbrev st__check_copy : Stmt := topS 38
abbrev st__check_copies : Stmt := topS 39
abbrev st__check_folder : Stmt := topS 40
abbrev st__sent : Stmt := topS 41
abbrev st__are_letters : Stmt := topS 42
abbrev st__are_made : Stmt := topS 43
abbrev st__law_cell_at : Stmt := topS 45
abbrev st__law_mixed : Stmt := topS 46
abbrev st__law_source : Stmt := topS 47
abbrev st__law_next : Stmt := topS 48
abbrev st__law_one : Stmt := topS 49
abbrev st__law_signs : Stmt := topS 50
abbrev st__law_deed : Stmt := topS 51
abbrev st__law_folder : Stmt := topS 52
abbrev st__law_offline : Stmt := topS 53
abbrev st__law_stepped : Stmt := topS 54
abbrev st__law_copies : Stmt := topS 55
abbrev st__law_first : Stmt := topS 56
abbrev st__law_right : Stmt := topS 57
abbrev st__law_alike_right : Stmt := topS 58
abbrev st__law_four_right : Stmt := topS 59
abbrev st_law : Stmt := topS 60
end K1


set_option Elab.async false
set_option linter.all false
set_option maxRecDepth 100000
set_option maxHeartbeats 4000000
namespace K1
open PySem PySem.Spec PyProof.Rows L2
/-! ### a def by its name -/
structure Def (P : Program) (w : World) (K : PySem.W.Frag) (mg : Str → Option Value) (base : Heap) (CX : CXT) (k : Nat) (x : Str) (ps : List Str) (sp : Sp) : Prop where
  ex : ∃ (f : Addr) (fd : FuncData), mg x = some (.ref f) ∧ PySem.W.keepIn K (.ref f) = true ∧ Binds K fd ps [] ∧ FnOk P w K mg base CX k f fd ps sp
section
variable {X : Cx} {CX : CXT} {k : Nat} {ps : List Str} {sp : Sp} {E : XK} {x : Str} {p pos : Pos} {e : Expr} {es : List Expr} {t : TA}
theorem pe_def (D : Def X.prog X.w X.K X.mg X.base CX k x ps sp) (hr : Room k X.A) (hg : Gl X x) (hx : Passes CX X E)
    (ha : PA X (e :: es) t) (hdb : (x == ("__debug__" : Str)) = false := by decide) (he : starEach (e :: es) X.env = (false, eval e X.env) :: starEach es X.env := by rfl) (hpl : (backTo pos (starEach es X.env)).any (·.1) = false := by rfl) :
    PE X (.Call (.Name x p) (e :: es) [] pos) (tCall sp [] E t) := by
  obtain ⟨f, fd, hm, hk, hb, F⟩ := D.ex
  exact pe_call F hr hg hm hk hb .nil hx ha hdb he hpl
theorem pe_def0 (D : Def X.prog X.w X.K X.mg X.base CX k x ps sp) (hr : Room k X.A) (hg : Gl X x) (hx : Passes CX X E)
    (hdb : (x == ("__debug__" : Str)) = false := by decide) : PE X (.Call (.Name x p) [] [] pos) (tCall sp [] E tNil) := by
  obtain ⟨f, fd, hm, hk, hb, F⟩ := D.ex
  exact pe_call0 F hr hg hm hk hb .nil hx hdb
end
/-! ### heaps: all that is tracked but p stays -/
def Ext (p : Addr) (H H' : Hp) : Prop := ∀ b o, b ≠ p → H b = some o → H' b = some o
theorem Ext.refl {p : Addr} (H : Hp) : Ext p H H := fun _ _ _ h => h
theorem Ext.trans {p : Addr} {H H1 H2 : Hp} (a : Ext p H H1) (b : Ext p H1 H2) : Ext p H H2 := fun c o n h => b c o n (a c o n h)
theorem Ext.self {p : Addr} {H H' : Hp} {o : HO} (a : Ext p H H') : Ext p H (upd H' p o) := fun c u n h => by rw [upd_ne n]; exact a c u n h
theorem Ext.new {p q : Addr} {H H' : Hp} {o : HO} (a : Ext p H H') (h : H' q = none) : Ext p H (upd H' q o) := fun c u n e => by
  have e' := a c u n e
  rw [upd_ne (ne_of_none e' h)]; exact e'
theorem Ext.mut {p q : Addr} {H H' : Hp} {o : HO} (a : Ext p H H') (h : H q = none) : Ext p H (upd H' q o) := fun c u n e => by
  rw [upd_ne (ne_of_none e h)]; exact a c u n e
theorem Ext.free {p q : Addr} {H H' : Hp} (a : Ext p H H') (h : H' q = none) (n : q ≠ p) : H q = none := by
  cases e : H q with
  | none => rfl
  | some o => rw [a q o n e] at h; cases h
theorem same_ext {p : Addr} {H H' : Hp} (a : Same H H') : Ext p H H' := fun b o _ h => a b o h
theorem same_new {q : Addr} {H : Hp} {o : HO} (h : H q = none) : Same H (upd H q o) := fun c u e => by
  rw [upd_ne (ne_of_none e h)]; exact e
theorem _root_.L2.Same.new {q : Addr} {H H' : Hp} {o : HO} (a : Same H H') (h : H' q = none) : Same H (upd H' q o) := a.trans (same_new h)
theorem _root_.L2.Same.mut {q : Addr} {H H' : Hp} {o : HO} (a : Same H H') (h : H q = none) : Same H (upd H' q o) := fun c u e => by
  rw [upd_ne (ne_of_none e h)]; exact a c u e
theorem lt1 (n : Nat) (h : n ≤ 100000) : n ≤ sizeLine := Nat.le_trans h (by decide)
theorem lt2 (n : Nat) (h : n ≤ 100000) : n < sizeLine := Nat.lt_of_le_of_lt h (by decide)
/-- a well: three ints -/
def WellAt (H : Hp) (p : Addr) : Prop := ∃ c m t : Int, H p = some (.lst [.int c, .int m, .int t])
theorem WellAt.new {H : Hp} {p q : Addr} {o : HO} (w : WellAt H p) (h : H q = none) : WellAt (upd H q o) p := by
  obtain ⟨c, m, t, e⟩ := w
  exact ⟨c, m, t, by rw [upd_ne (ne_of_none e h)]; exact e⟩
theorem WellAt.ne {H : Hp} {p q : Addr} (w : WellAt H p) (h : H q = none) : q ≠ p := by
  obtain ⟨c, m, t, e⟩ := w
  exact (ne_of_none e h).symm
theorem WellAt.upd {H : Hp} {p q : Addr} {o : HO} (w : WellAt H p) (h : q ≠ p) : WellAt (upd H q o) p := by
  obtain ⟨c, m, t, e⟩ := w
  exact ⟨c, m, t, by rw [upd_ne h.symm]; exact e⟩
theorem sq {K : PySem.W.Frag} {H : Hp} {a : Addr} {xs : List V} (h : H a = some (.lst xs)) : SqL K H a xs := .inl (.inl h)
theorem st {K : PySem.W.Frag} {H : Hp} {a : Addr} {xs : List V} (h : H a = some (.tup xs)) : SqT K H a xs := .inl (.inl h)
/-- names that the top leaves to the built-ins -/
structure Bi (mg : Str → Option Value) : Prop where
  int : mg "int" = none
  len : mg "len" = none
  str : mg "str" = none
  range : mg "range" = none
  max : mg "max" = none
  min : mg "min" = none
  sorted : mg "sorted" = none
  tuple : mg "tuple" = none
  list : mg "list" = none
  enumerate : mg "enumerate" = none
  isinstance : mg "isinstance" = none
  bool : mg "bool" = none
end K1
namespace K1
open PySem PySem.Spec PyProof.Rows L2
/-- a def of the text stands at its name -/
def At (K : PySem.W.Frag) (mg : Str → Option Value) (x : Str) (st : Stmt) : Prop := ∃ (f : Addr) (fd : FuncData), mg x = some (.ref f) ∧ Fun K x x st f fd
theorem At.def {P : Program} {w : World} {K : PySem.W.Frag} {mg : Str → Option Value} {base : Heap} {CX : CXT} {k : Nat} {x : Str} {ps : List Str} {sp : Sp} {st : Stmt} (a : At K mg x st)
    (hb : ∀ (kV doc pm : Value) (an : Option Addr) (cdv ct : Value) (us : List Value), us.length = ps.length → bindArgs (PySem.W.fnOf x x (defArgs st) (defBody st) (defScope st) .none kV doc pm an cdv ct) ⟨us, []⟩ = pure (ps.zip us))
    (h : ∀ f fd, Fun K x x st f fd → FnOk P w K mg base CX k f fd ps sp) : Def P w K mg base CX k x ps sp := by
  obtain ⟨f, fd, hm, F⟩ := a
  exact ⟨f, fd, hm, F.kp, F.binds hb, h f fd F⟩
end K1
namespace K1
open PySem PySem.Spec PyProof.Rows L2
def G : Int := 999999999999999999999999999999
/-- numbers that are there -/
structure There (ns : List Int) : Prop where
  asc : ns.Pairwise (· < ·)
  rng : ∀ n ∈ ns, 1 ≤ n ∧ n ≤ G
  len : ns.length ≤ 200
theorem getD_map {ns : List Int} {i : Nat} {y : V} (h : (ns.map V.int)[i]? = some y) : ∃ z, ns[i]? = some z ∧ y = .int z := by
  rw [List.getElem?_map] at h
  cases e : ns[i]? with
  | none => rw [e] at h; cases h
  | some z => rw [e] at h; exact ⟨z, rfl, (Option.some.inj h).symm⟩
theorem take_more {α : Type} {l : List α} {i : Nat} {x : α} (h : l[i]? = some x) : l.take (i + 1) = l.take i ++ [x] := by
  rw [List.take_add_one, h]; rfl
theorem lt_of_get {α : Type} {l : List α} {i : Nat} {x : α} (h : l[i]? = some x) : i < l.length := (List.getElem?_eq_some_iff.mp h).1
end K1
namespace K1
open PySem PySem.Spec PyProof.Rows L2
/-- a comprehension without a test -/
theorem tyes {σ : L2.St} {H : Hp} {A B : Hp → Prop} (h : A H) : tYes σ H (fun b H3 => if b = true then A H3 else B H3) := by
  show (if true = true then A H else B H)
  rw [if_pos rfl]
  exact h
/-- a test whose answer is known -/
theorem itbT {c : Bool} {A B : Prop} (hc : c = true) (h : A) : if c = true then A else B := by
  rw [if_pos hc]
  exact h
theorem itbF {c : Bool} {A B : Prop} (hc : c = false) (h : B) : if c = true then A else B := by
  rw [hc, if_neg Bool.false_ne_true]
  exact h
end K1
namespace K1
open PySem PySem.Spec PyProof.Rows L2
/-! ### rules with the written part by its name (for blocks) -/
section
variable {X : Cx} {K : PySem.W.Frag}
theorem call_lenK (h : X.K = K) : CallR X (.builtin "len") (fun xs H Q => ∃ p ys, xs = [.ref p] ∧ (SqL K H p ys ∨ SqT K H p ys) ∧ Q (.int ys.length) H) := by
  subst h; exact call_len_seq
theorem ix_listK (h : X.K = K) : IxR X (rIxL K) := by subst h; exact ix_list
theorem ix_tupK (h : X.K = K) : IxR X (rIxT K) := by subst h; exact ix_tup
theorem op_in_seqK (h : X.K = K) : OpR X (compareOp .In) (rIn K false) := by subst h; exact op_in_seq
theorem op_notIn_seqK (h : X.K = K) : OpR X (compareOp .NotIn) (rIn K true) := by subst h; exact op_notIn_seq
theorem op_eqDK (h : X.K = K) (hu : X.A.units + 64 < cLine) : OpR X (compareOp .Eq) (rEqD K) := by subst h; exact op_eqD hu
theorem op_neDK (h : X.K = K) (hu : X.A.units + 64 < cLine) : OpR X (compareOp .NotEq) (rNeD K) := by subst h; exact op_neD hu
theorem pi_listK {tg l : Expr} {tl : TE} (h : X.K = K) (hl : PE X l tl) : PI X tg l (iList K tl) := by subst h; exact pi_list hl
theorem pi_tupK {tg l : Expr} {tl : TE} (h : X.K = K) (hl : PE X l tl) : PI X tg l (iTup K tl) := by subst h; exact pi_tup hl
theorem call_list_ofK (h : X.K = K) : CallR X (.type "list") (fun xs H Q => ∃ p ys, xs = [.ref p] ∧ (SqL K H p ys ∨ SqT K H p ys) ∧ ∀ l, H l = none → Q (.ref l) (upd H l (.lst ys))) := by
  subst h; exact call_list_of
theorem call_tuple_ofK (h : X.K = K) : CallR X (.type "tuple") (fun xs H Q => ∃ p ys, xs = [.ref p] ∧ ((SqL K H p ys ∧ ∀ l, H l = none → Q (.ref l) (upd H l (.tup ys))) ∨ (SqT K H p ys ∧ Q (.ref p) H))) := by
  subst h; exact call_tuple_of
theorem pe_joinK {o e : Expr} {to te : TE} {apos pos : Pos} (h : X.K = K) (ho : PE X o to) (he : PE X e te) (hs : starEach [e] X.env = [(false, eval e X.env)] := by rfl) (hbase : attributeBase o "join" X.env (eval o X.env) = eval o X.env := by rfl) (hline : (apos.endLine == pos.line) = true := by rfl) :
    PE X (.Call (.Attribute o "join" apos) [e] [] pos) (tM1 (fun x xs H Q => ∃ a p, ∃ ys : List Str, x = .str a ∧ xs = [.ref p] ∧ (SqL K H p (ys.map V.str) ∨ SqT K H p (ys.map V.str)) ∧
      (ys.map (·.length)).sum + ys.length * a.length ≤ 16777216 ∧ Q (.str (Txt.join a ys)) H) to te) := by
  subst h; exact pe_join ho he hs hbase hline
end
end K1
namespace K1
open PySem PySem.Spec PyProof.Rows L2
section
variable {X : Cx} {K : PySem.W.Frag}
theorem cr_minK (h : X.K = K) (hc : X.calm = true) : CallR X (.builtin "min") (rMin K) := by subst h; exact cr_min hc
theorem cr_maxK (h : X.K = K) (hc : X.calm = true) : CallR X (.builtin "max") (rMax K) := by subst h; exact cr_max hc
end
/-! ### data that are compared -/
theorem dp_ints {K : PySem.W.Frag} {H : Hp} : ∀ ns : List Int, DpAll K H (ns.map V.int) (ns.map PyData.int)
  | [] => .nil
  | n :: r => .cons (.int n) (dp_ints r)
theorem dp_list {K : PySem.W.Frag} {H : Hp} {a : Addr} {ns : List Int} (h : SqL K H a (ns.map V.int)) : Dp K H (.ref a) (.list (ns.map PyData.int)) := .lst h (dp_ints ns)
theorem lay_ints : ∀ ns : List Int, PyData.canLayAll0 (ns.map PyData.int) = true
  | [] => by rfl
  | n :: r => by
    show (PyData.canLay0 (.int n) && PyData.canLayAll0 (r.map PyData.int)) = true
    rw [lay_ints r]; rfl
theorem depth_ints : ∀ ns : List Int, PyData.depthAll (ns.map PyData.int) = 0
  | [] => by rfl
  | n :: r => by
    show max (PyData.depth (.int n)) (PyData.depthAll (r.map PyData.int)) = 0
    rw [depth_ints r]; rfl
theorem shaped_ints (ns : List Int) : SeqAt.shaped (.list (ns.map PyData.int)) = true := by
  unfold SeqAt.shaped
  have h1 : PyData.canLay0 (.list (ns.map PyData.int)) = true := lay_ints ns
  have h2 : PyData.depth (.list (ns.map PyData.int)) = 1 := by
    show PyData.depthAll (ns.map PyData.int) + 1 = 1
    rw [depth_ints]
  rw [h1, h2]; rfl
theorem eqv_ints : ∀ xs ys : List Int, PyData.eqv (.list (xs.map PyData.int)) (.list (ys.map PyData.int)) = decide (xs = ys) := by
  have h : ∀ xs ys : List Int, PyData.eqvAll (xs.map PyData.int) (ys.map PyData.int) = decide (xs = ys) := by
    intro xs
    induction xs with
    | nil => intro ys; cases ys <;> simp [PyData.eqvAll]
    | cons x r ih =>
      intro ys
      cases ys with
      | nil => simp [PyData.eqvAll]
      | cons y t =>
        show (PyData.eqv (.int x) (.int y) && PyData.eqvAll (r.map PyData.int) (t.map PyData.int)) = decide (x :: r = y :: t)
        rw [ih, show PyData.eqv (.int x) (.int y) = (x == y) by simp [PyData.eqv]]
        by_cases e : x = y <;> by_cases e2 : r = t <;> simp [e, e2]
  intro xs ys
  show PyData.eqvAll (xs.map PyData.int) (ys.map PyData.int) = _
  exact h xs ys
theorem inV_ints (n : Int) : ∀ ns : List Int, inV (.int n) (ns.map V.int) = decide (n ∈ ns)
  | [] => by simp [inV]
  | m :: r => by
    have ih := inV_ints n r
    unfold inV at ih ⊢
    rw [List.map_cons, List.any_cons, ih]
    by_cases e : m = n
    · subst e; simp [eqV]
    · have e' : ¬ n = m := fun h => e h.symm
      simp [eqV, e, e']
theorem flat_ints : ∀ ns : List Int, (ns.map V.int).all flatV = true
  | [] => rfl
  | m :: r => by rw [List.map_cons, List.all_cons, flat_ints r]; rfl
/-- a list by a filter -/
def FiltBy (ns : List Int) (P : Int → Prop) (rs : List Int) : Prop := ∃ p : Int → Bool, (∀ n ∈ ns, (p n = true ↔ P n)) ∧ rs = ns.filter p
theorem FiltBy.eq {ns rs ts : List Int} {P R : Int → Prop} (h1 : FiltBy ns P rs) (h2 : FiltBy ns R ts) (h : ∀ n ∈ ns, (P n ↔ R n)) : rs = ts := by
  obtain ⟨p, hp, rfl⟩ := h1
  obtain ⟨q, hq, rfl⟩ := h2
  refine List.filter_congr fun n hn => ?_
  have a := hp n hn
  have b := hq n hn
  have c := h n hn
  cases e : p n <;> cases e2 : q n <;> simp_all
end K1


set_option Elab.async false
set_option linter.all false
set_option maxRecDepth 100000
set_option maxHeartbeats 4000000
/-! Own errors below an own error below ValueError, whose __init__ says super().__init__(a text) and then stores its one argument. -/
namespace PySem
namespace Tide
open PySem.W PySem.Calls PyProof.Rows PySem.HandSPX
def iA (fl : Str) (p1 p2 : Pos) : Arguments := { posonlyargs := [], args := [{ arg := "self", annotation := none, pos := p1 }, { arg := fl, annotation := none, pos := p2 }], vararg := none, kwonlyargs := [], kw_defaults := [], kwarg := none, defaults := [] }
def iB (fl tx : Str) (j : Nat) (q1 q2 q3 q4 q5 q6 q7 q8 q9 q10 : Pos) : List Stmt :=
  [.Expr (.Call (.Attribute (.Call (.Name "super" q1) [] [] q2) "__init__" q3) [.Constant (.str tx) j q4] [] q5) q6, .Assign [.Attribute (.Name "self" q7) fl q8] (.Name fl q9) q10]
def iS (fl : Str) : Scope := { kind := .function, names := [(PySem.Str.ofString "self", .local), (fl, .local), (PySem.Str.ofString "__class__", .free), (PySem.Str.ofString "super", .globalImplicit)], isGenerator := false, isCoroutine := false, more := [] }
/-- how the call of super().__init__ is run (shown at the text's own places) -/
def CallIs (tx : Str) (j : Nat) (q1 q2 q3 q4 q5 : Pos) : Prop := ∃ pl : Sem Bool, ∀ env : Env, eval (.Call (.Attribute (.Call (.Name "super" q1) [] [] q2) "__init__" q3) [.Constant (.str tx) j q4] [] q5) env = (do
      let ov ← attributeBase (.Call (.Name "super" q1) [] [] q2) "__init__" env (eval (.Call (.Name "super" q1) [] [] q2) env)
      standAt q3.atName
      let (f, first) ← holding [ov] (getMethod ov "__init__" pl)
      callWith q5 f first (backTo q5 (starEach [.Constant (.str tx) j q4] env)) [])
example : CallIs "no set text" 0 ⟨7, 8, 7, 13⟩ ⟨7, 8, 7, 15⟩ ⟨7, 8, 7, 24⟩ ⟨7, 25, 7, 38⟩ ⟨7, 8, 7, 39⟩ := ⟨_, fun env => by rfl⟩
/-- the fields' names -/
def FlOk (fl : Str) : Prop := ¬ fl = ("self" : Str) ∧ ¬ fl = ("__class__" : Str) ∧ ¬ fl = ("super" : Str) ∧ (fl == ("__debug__" : Str)) = false ∧
  ∀ (qual : Str) (body : List Stmt) (p1 p2 : Pos) (doc pm ct cd : Value) (an : Option Addr) (cc : Addr) (a b : Value), bindArgs (ksFn "__init__" qual (iA fl p1 p2) body (iS fl) .none .none doc pm an cd ct cc) ⟨[a, b], []⟩ = pure [(("self" : Str), a), (fl, b)]
theorem ok_value : FlOk "value" := ⟨by decide +kernel, by decide +kernel, by decide +kernel, by decide +kernel, fun _ _ _ _ _ _ _ _ _ _ _ _ => rfl⟩
theorem ok_at : FlOk "at" := ⟨by decide +kernel, by decide +kernel, by decide +kernel, by decide +kernel, fun _ _ _ _ _ _ _ _ _ _ _ _ => rfl⟩
theorem ok_why : FlOk "why" := ⟨by decide +kernel, by decide +kernel, by decide +kernel, by decide +kernel, fun _ _ _ _ _ _ _ _ _ _ _ _ => rfl⟩
theorem ok_limit : FlOk "limit" := ⟨by decide +kernel, by decide +kernel, by decide +kernel, by decide +kernel, fun _ _ _ _ _ _ _ _ _ _ _ _ => rfl⟩
/-- what the written part says of the class at C, of its __init__ at fI -/
structure TideTxt (prog : Program) (K : Frag) (mg : Str → Option Value) (x : Str) (C fI : Addr) (fl : Str) : Prop where
  gC : mg x = some (.ref C)
  ok : FlOk fl
  cls : ∃ nm q N bs bm sn sub ab col dd k0 k1 k2 k3 k5, K.lookup C = some (excClassObj nm q C N bs bm true sn sub ab col dd k0 k1 k2 k3 k5 "ValueError.__new__") ∧ refsVE bm = true
  sa : findIn K (.ref C) "__setattr__" = some (some (.builtin "object.__setattr__"))
  ga : findIn K (.ref C) "__getattribute__" = some (some (.builtin "BaseException.__getattribute__"))
  gg : findIn K (.ref C) "__getattr__" = some none
  noN : findIn K (.ref C) fl = some none
  iC : findIn K (.ref C) "__init__" = some (some (.ref fI))
  tC : typeIn K (.ref fI) = some (.type "function")
  kC : keepIn K (.ref C) = true
  exC : subIn K (.ref C) (.type "BaseException") = some true
  tyC : typeIn K (.ref C) = some (.type "type")
  hdC : hasDictIn K C = true
  te : exmOne K (.ref C) (.ref C) = some true
  sup : ks_superIn K C C "__init__" = some (some (.builtin "ValueError.__init__"))
  isV : subIn K (.ref C) (.type "ValueError") = some true
  self_ : mroIn K C (.ref C) = some true
  tpa : nsIn K cStatics "thirdparty.any" = some none
  nsu : mg "super" = none
  htop : (prog.main.scope.names.lookup ("super" : Str)).isSome = false
  fn : ∃ (oc : Value) (od : Option Addr) (doc pm ct : Value) (an : Option Addr) (osl : Array (Option Value)) (qual tx : Str) (j : Nat) (p1 p2 q1 q2 q3 q4 q5 q6 q7 q8 q9 q10 : Pos) (cda cc : Addr),
    K.lookup fI = some ⟨oc, od, .func (ksFn "__init__" qual (iA fl p1 p2) (iB fl tx j q1 q2 q3 q4 q5 q6 q7 q8 q9 q10) (iS fl) .none .none doc pm an (.ref cda) ct cc), osl⟩ ∧ codeIn K (.ref cda) qual = true ∧ CallIs tx j q1 q2 q3 q4 q5 ∧
    (∃ ccl cdd vs ccs file tf, K.lookup cda = some ⟨ccl, cdd, .fields vs, ccs⟩ ∧ vs[2]? = some (.str file tf) ∧ ((prog.main.file : Str) == file) = true) ∧ ∃ cl cld csl, K.lookup cc = some ⟨cl, cld, .cell (some (.ref C)), csl⟩
section
variable {fl : Str}
theorem lkT {β : Type} {a b : Str} {v : β} {l : List (Str × β)} (h : (a == b) = true) : List.lookup a ((b, v) :: l) = some v := by
  rw [List.lookup_cons, h]
theorem lkF {β : Type} {a b : Str} {v : β} {l : List (Str × β)} (h : (a == b) = false) : List.lookup a ((b, v) :: l) = List.lookup a l := by
  rw [List.lookup_cons, h]
theorem neB {a b : Str} (h : ¬ a = b) : (a == b) = false := beq_eq_false_iff_ne.mpr h
theorem lk_self : (iS fl).names.lookup ("self" : Str) = some .local := lkT (by decide +kernel)
theorem lk_fl (ok : FlOk fl) : (iS fl).names.lookup fl = some .local := (lkF (neB ok.1)).trans (lkT (beq_self_eq_true _))
theorem lk_cls (ok : FlOk fl) : (iS fl).names.lookup ("__class__" : Str) = some .free := (lkF (by decide +kernel)).trans ((lkF (neB fun h => ok.2.1 h.symm)).trans (lkT (by decide +kernel)))
theorem lk_super (ok : FlOk fl) : (iS fl).names.lookup ("super" : Str) = some .globalImplicit :=
  (lkF (by decide +kernel)).trans ((lkF (neB fun h => ok.2.2.1 h.symm)).trans ((lkF (by decide +kernel)).trans (lkT (by decide +kernel))))
end
theorem one_size (v : Value) : [v].length ≤ sizeLine := by
  rw [sizeLine_eq]
  exact (by decide : 1 ≤ 16777216)
/-- what __init__ leaves of a fresh exception at x -/
structure InitEnd (fl : Str) (h h' : Heap) (x C dx t1 : Addr) (v : Value) : Prop where
  keep : ∀ b o, b ≠ x → h.get? b = some o → h'.get? b = some o
  obj : h'.get? x = some { cls := .ref C, dict := some dx, data := .fields #[.ref t1, .none, .none, .none, .bool false, .none] }
  dbig : h.objs.size ≤ dx
  dne : dx ≠ x
  ns : h'.Ns1 dx (fun y => if y = fl then some v else none)
/-- a made one -/
structure OwnMade (fl : Str) (h h' : Heap) (e C d : Addr) (v : Value) : Prop where
  keep : ∀ b o, h.get? b = some o → h'.get? b = some o
  new : h.objs.size ≤ e
  obj : ∃ oe vs, h'.get? e = some oe ∧ oe.cls = .ref C ∧ oe.dict = some d ∧ oe.data = .fields vs ∧ vs[1]? = some .none
  dbig : h.objs.size ≤ d
  dne : d ≠ e
  ns : h'.Ns1 d (fun y => if y = fl then some v else none)
section
variable {prog : Program} {w : World} {A : Around} {E : Value → Shared → Prop} {R : Result → Shared → Prop} {s : Shared} {K : Frag} {mg mb : Str → Option Value} {C fI : Addr} {fl xn : Str}
theorem ldC {M : Model} {s : Shared} {env : Env} {m : Str → Option Value} {x : Str} {pos : Pos} {v : Value} {Q : Value → Shared → Prop} {A : Around} {E : Value → Shared → Prop} (hn : s.heap.Ns env.locals m) (hv : m x = some v) (h : Q v s)
    (hk : env.scope.kind = .function) (hl : env.kindOf x = some .local) (hd : (x == ("__debug__" : Str)) = false) :
    wpAny M A (eval (.Name x pos) env) Q E s := wpAny_Name (wpAny_loadName_local hk hl hn hv h) hd
/-- the built-in __init__ bound to the object, called -/
theorem call_mw {u e t0 : Addr} {rest : List Value} {Q : Value → Shared → Prop} {nm q : Str} {N : Addr} {bs bm : List Value} {hdct : Bool} {sn : List Str} {sub : List Value} {ab : Bool} {col : Option Bool} {dd : Option Addr} {k0 k1 k2 k3 k5 : Option Value}
    (hC : s.heap.get? C = some (excClassObj nm q C N bs bm hdct sn sub ab col dd k0 k1 k2 k3 k5 "ValueError.__new__")) (he : s.heap.get? e = some (excO C t0)) (hu : s.heap.get? u = some (kxs_mw "ValueError.__init__" e)) (hrest : rest.length ≤ sizeLine)
    (hq : ∀ h', (∀ b o, b ≠ e → s.heap.get? b = some o → h'.get? b = some o) → h'.get? e = some (excO C s.heap.objs.size) → Q .none { s with heap := h' }) :
    wpAny (model prog w) A (call (.ref u) rest) Q E s := by
  have FB := F.excBase_ValueError
  obtain ⟨hh, g, d, tk, os⟩ := s
  refine wpAny_call (codeAny_of_tree ?_)
  show wpAny _ A.in1 (callAny (.ref u) ⟨rest, []⟩) _ _ _
  simp only [callAny]
  refine wpAny_bind (wpAny_load hu ?_)
  simp only [kxs_mw, show (Value.type "method-wrapper" == Value.type "method" || Value.type "method-wrapper" == Value.type "builtin_function_or_method" || Value.type "method-wrapper" == Value.type "method-wrapper") = true by decide, if_true]
  refine KFB.if_so (by decide) ?_
  refine wpAny_bind (check_bound_init FB.toExcCallFacts hC he rfl ?_)
  refine wpAny_bind (wpAny_pure (wpAny_pure ?_))
  refine ⟨plainId_quiet FB.init.plain _, codeAny_builtin FB.initEntry ?_⟩
  exact exc_init_tree (cls := .ref C) (t0 := t0) (dv := none) (c2 := .none) (c3 := .none) (b4 := .bool false) he hrest fun h' k e' _ => hq h' k e'
theorem tide_init (T : TideTxt prog K mg xn C fI fl) {x t0 : Addr} {v : Value} (X : K.In s.heap) (hG : s.heap.Ns mainGlobals mg) (hB : s.heap.Ns builtinsNs mb) (hmb : mb "super" = some (.type "super")) (hlim : s.heap.NoLimit) (hx : s.heap.get? x = some (excO C t0)) (hnx : K.lookup x = none) (hroom : A.depth < recursionLimit)
    (hq : ∀ h' tk dx t1, InitEnd fl s.heap h' x C dx t1 v → R (.ok (.ret .none)) { s with heap := h', toks := tk }) :
    codeAny (model prog w) A (.call (.ref fI) ⟨[.ref x, v], []⟩) R s := by
  obtain ⟨oc, od, doc, pm, ct, an, osl, qual, tx, j, p1, p2, q1, q2, q3, q4, q5, q6, q7, q8, q9, q10, cda, cc, ho, hcd, ⟨pl, hpl⟩, ⟨ccl, cdd, vs, ccs, file, tf, hcda, hvs, hfile⟩, cl, cld, csl, hcell⟩ := T.fn
  obtain ⟨nm, q, N, bs, bm, sn, sub, ab, col, dd, k0, k1, k2, k3, k5, hC, hbm⟩ := T.cls
  obtain ⟨n1, n2, n3, n4, n5⟩ := T.ok
  have hcl : clsIn K C = some { name := nm, bases := bs, mro := .ref C :: bm, ns := N, qualname := q, hasDict := true, slotNames := sn, subclasses := sub, abstract := ab, collection := col, hasDel := false } := by unfold clsIn; rw [hC] <;> rfl
  have e1 : (("self" : Str) == fl) = false := by rw [beq_eq_false_iff_ne]; exact fun h => n1 h.symm
  have e1' : (fl == ("self" : Str)) = false := by rw [beq_eq_false_iff_ne]; exact n1
  have X₀ := X
  refine ks_codeAny_call_defAt (fd := ksFn "__init__" qual (iA fl p1 p2) (iB fl tx j q1 q2 q3 q4 q5 q6 q7 q8 q9 q10) (iS fl) .none .none doc pm an (.ref cda) ct cc) (body := iB fl tx j q1 q2 q3 q4 q5 q6 q7 q8 q9 q10) (binds := [("self", .ref x), (fl, v)]) hroom (X _ _ ho) rfl hlim (codeRec_of X hcd) rfl (BindsTo.of_eq ?_) ?_ ?_ (fun h₁ hns k => ?_) rfl rfl rfl
  · exact n5 _ _ _ _ _ _ _ _ _ _ _ _
  · intro y hy
    have hy : y ∈ [(PySem.Str.ofString "self", NameKind.local), (fl, .local), (PySem.Str.ofString "__class__", .free), (PySem.Str.ofString "super", .globalImplicit)] := hy
    simp only [List.mem_cons, List.not_mem_nil, or_false] at hy
    rcases hy with rfl | rfl | rfl | rfl <;> exact fun h => nomatch h
  · intro y hy
    simp only [List.mem_cons, List.not_mem_nil, or_false] at hy
    rcases hy with rfl | rfl
    · exact lk_self
    · exact lk_fl T.ok
  · have hxL : s.heap.objs.size ≠ x := Nat.ne_of_gt (Heap.lt_size hx)
    have X₁ : K.In h₁ := X.keeps k
    have hx₁ := k _ _ hx
    have I : InstAt h₁ x (excO C t0) C none := ⟨hx₁, rfl, rfl, trivial⟩
    refine ks_wpAt_execs_cons (ks_wpAt_Expr_any (ks_wpAt_MethodCall (ks_wpAt_super_base (f := fI) (cc := cda) (lk_super T.ok) (lk_cls T.ok) (by decide) rfl (X₁ _ _ ho) rfl rfl rfl (X₁ _ _ hcda) rfl hvs hfile T.htop ?_) (hpl _)))
    refine ks_loadName_global rfl (lk_super T.ok) (loadGlobal_builtin (hG.keeps k) T.nsu (hB.keeps k) hmb ⟨rfl, ?_⟩)
    refine wpAny_loadName_free rfl (lk_cls T.ok) rfl ⟨_, X₁ _ _ hcell, rfl⟩ ?_
    refine wpAny_loadName_local (v := .ref x) rfl lk_self hns ?_ ?_
    · exact (lkF (neB fun h => T.ok.1 h.symm)).trans (lkT (by decide +kernel))
    refine ks_wpAny_isType_cls (X₁ _ _ hC) rfl ⟨rfl, ?_⟩
    refine ks_wpAny_call_super (X₁ _ _ hC) rfl I.at_ I.cls (fun c e => by cases e) (looks_mroIn X₁ T.self_) (fun h₂ e₂ k₂ => ?_)
    have X₂ : K.In h₂ := X₁.keeps k₂
    have I₂ : InstAt h₂ x (excO C t0) C none := ⟨k₂ _ _ hx₁, rfl, rfl, trivial⟩
    have hsup : alongIn K "__init__" (((.ref C :: bm).dropWhile (· != .ref C)).drop 1) = some (some (.builtin "ValueError.__init__")) := by
      have h := T.sup
      unfold ks_superIn at h
      rw [hcl] at h
      exact h
    have hxC : x ≠ C := ks_ne X₂ I₂ hcl
    have hI : Looks (model prog w) h₂ (isInstance (.ref x) (.type "ValueError")) true := I₂.type.andThen (looks_subIn X₂ T.isV)
    refine kxs_getMethod kxs_ValueError e₂ (looks_opaque X₂ T.tpa) (l₀ := .ref C :: bm) (fun A Q E s k q => wpAny_bind ((looks_clsIn X₂ hcl) A _ E s k (wpAny_pure q))) rfl X₂ hsup hI hxC (by decide) ?_
    refine kxs_callWith (i := "ValueError.__init__") (x := x) rfl (evalArgs_plain ?_)
    show wpAny _ _ (spliced ((false, eval (.Constant (.str tx) j q4) _) :: backTo q5 (starEach [] _))) _ _ _
    refine Calls.spliced_cons ?_
    refine Calls.Constant_str (Calls.spliced_nil ⟨?_, ?_⟩)
    · exact Heap.get?_push_at rfl rfl
    refine call_mw (C := C) (t0 := t0) (Heap.get?_push_of_some _ (X₂ _ _ hC)) (Heap.get?_push_of_some _ I₂.at_) (Heap.get?_push_at rfl rfl) (one_size _) (fun h₃ k₃ e₃ => ?_)
    -- self.fl = fl
    have keep : ∀ b o, b ≠ x → s.heap.get? b = some o → h₃.get? b = some o := fun b o hb e => k₃ b o hb (Heap.get?_push_of_some _ (k₂ _ _ (k _ _ e)))
    have keep1 : ∀ b o, b ≠ x → h₁.get? b = some o → h₃.get? b = some o := fun b o hb e => k₃ b o hb (Heap.get?_push_of_some _ (k₂ _ _ e))
    have X₃ : K.In h₃ := fun a o e => keep a o (fun z => by rw [z, hnx] at e; cases e) (X a o e)
    have hns₃ : h₃.Ns s.heap.objs.size (fun y => [(("self" : Str), Value.ref x), (fl, v)].reverse.lookup y) := by
      obtain ⟨oL, es, ep, hL, r⟩ := hns
      exact ⟨oL, es, ep, keep1 _ _ hxL hL, r⟩
    show wpAt _ _ _ (execs _ _) _ _ _
    refine wpAt_of_wpAny (wpAny_execs_cons (plainObj_wpAny_Assign_Attribute ?_))
    refine ldC (v := v) hns₃ ?_ (ldC (v := .ref x) hns₃ ?_ ?_ rfl lk_self (by decide)) rfl (lk_fl T.ok) T.ok.2.2.2.1
    · exact lkT (beq_self_eq_true _)
    · exact (lkF (neB fun h => T.ok.1 h.symm)).trans (lkT (by decide +kernel))
    refine set_plain X₃ (ox := excO C _) (od := none) ⟨e₃, rfl, rfl, trivial⟩ T.sa ?_
    refine exc_osa X₃ e₃ hcl (show refsVE (.ref C :: bm) = true from hbm) rfl T.noN (fun h₄ tk₄ dx k₄ dn dne hx₄ hn₄ => ?_)
    show wpAny _ _ (execs _ _) _ _ _
    have z : s.heap.objs.size ≤ h₃.objs.size := by
      exact Nat.le_of_lt hns₃.lt
    refine wpAny_execs_nil (hq h₄ tk₄ dx _ ⟨fun b o hb e => k₄ b o hb (keep b o hb e), hx₄, Nat.le_trans z dn, dne, hn₄⟩)
theorem tide_made (T : TideTxt prog K mg xn C fI fl) {v : Value} (X : K.In s.heap) (hG : s.heap.Ns mainGlobals mg) (hB : s.heap.Ns builtinsNs mb) (hmb : mb "super" = some (.type "super")) (hlim : s.heap.NoLimit) (hroom : A.depth + 1 < recursionLimit)
    (hq : ∀ h' tk e d, OwnMade fl s.heap h' e C d v → R (.ok (.ret (.ref e))) { s with heap := h', toks := tk }) :
    codeAny (model prog w) A (.call (.ref C) ⟨[v], []⟩) R s := by
  obtain ⟨nm, q, N, bs, bm, sn, sub, ab, col, dd, k0, k1, k2, k3, k5, hC, hbm⟩ := T.cls
  obtain ⟨hp, g, dr, tk, os⟩ := s
  have k : ∀ b o, hp.get? b = some o → ((hp.push (kdv_tup [v])).push (excO C hp.objs.size)).get? b = some o := fun b o e => Heap.get?_push_of_some _ (Heap.get?_push_of_some _ e)
  have hget : ((hp.push (kdv_tup [v])).push (excO C hp.objs.size)).get? (hp.objs.size + 1) = some (excO C hp.objs.size) := by heap_get
  have hnx : K.lookup (hp.objs.size + 1) = none := by
    cases e : K.lookup (hp.objs.size + 1) with
    | none => rfl
    | some o =>
      have z : hp.get? (hp.objs.size + 1) = some o := X _ _ e
      exact absurd (Nat.lt_of_succ_lt (Heap.lt_size z)) (Nat.lt_irrefl _)
  refine call_own F.excBase_ValueError (fun X => refsVE_contains X bm hbm) (X _ _ hC) (looks_findIn X T.iC) (fun self => bind_fn X self T.tC) (one_size v) ?_
  refine tide_init (s := ⟨(hp.push (kdv_tup [v])).push (excO C hp.objs.size), g, dr, tk, os⟩) T (X.keeps k) (hG.keeps k) (hB.keeps k) hmb (hlim.keeps k) hget hnx ?_ fun h' tk' dx t1 ⟨k', hx, dn, dne, hns⟩ => ?_
  · show A.depth + 1 < recursionLimit
    exact hroom
  · have old : ∀ b o, hp.get? b = some o → h'.get? b = some o := fun b o e => k' b o (Nat.ne_of_lt (Nat.lt_succ_of_lt (Heap.lt_size e))) (k b o e)
    have z : hp.objs.size + 1 + 1 ≤ dx := by
      first
        | (simpa only [Heap.size_push] using dn)
        | exact dn
        | (have q := dn; rw [Heap.size_push, Heap.size_push] at q; exact q)
    exact ⟨rfl, hq h' tk' (hp.objs.size + 1) dx ⟨old, Nat.le_succ _, ⟨_, _, hx, rfl, rfl, rfl, rfl⟩, Nat.le_trans (Nat.le_trans (Nat.le_succ _) (Nat.le_succ _)) z, dne, hns⟩⟩
end
end Tide
end PySem
namespace L2
open PySem PySem.Spec PyProof.Rows
theorem relO_tide {fl : Str} {v : V} {v' : Value} (r : RelV v v') (f : Str) : RelO (List.lookup f [(fl, v)]) (if f = fl then some v' else none) := by
  by_cases hw : f = fl
  · subst hw
    rw [if_pos rfl]
    have q : List.lookup f [(f, v)] = some v := by simp [List.lookup]
    rw [q]
    exact r
  · rw [if_neg hw]
    have qw : (f == fl) = false := by simpa using hw
    have q2 : List.lookup f [(fl, v)] = none := by simp [List.lookup, qw]
    rw [q2]
    trivial
section
variable {X : Cx} {C fI : Addr} {fl xn : Str}
/-- E(e) -/
def tMkTide (C : Addr) (fl : Str) (ta : TA) : St → Hp → XK → Prop := fun σ H Q => ta σ H fun vs H1 => ∃ v, vs = [v] ∧ ∀ d, H1 d = none → Q (.ref C) (some d) (upd H1 d (.xd [(fl, v)]))
theorem pmk_tide {a : Expr} {ta : TA} {p pos : Pos} {k : Nat} (T : PySem.Tide.TideTxt X.prog X.K X.mg xn C fI fl) (hr : Room k X.A) (ha : PA X [a] ta) (hg : Gl X xn := by rfl) (hdb : (xn == ("__debug__" : Str)) = false := by decide)
    (he : starEach (a :: []) X.env = (false, eval a X.env) :: starEach [] X.env := by rfl) (hpl : (backTo pos (starEach [] X.env)).any (·.1) = false := by rfl) :
    PMk X (.Call (.Name xn p) [a] [] pos) (tMkTide C fl ta) := by
  intro pins s σ H Q I h
  refine wpAny_Call_Name_kw (ld_glob I hg T.gC ?_ hdb)
  refine PySem.W.callWith_K (h₀ := X.base) I.ok.mod.kin T.kC (thn (ha.run pos pins s σ H _ I h) fun us s1 hh => ?_) he hpl
  obtain ⟨vs, H1, I1, r1, v, ev, q1⟩ := hh
  subst ev
  refine ⟨I1.kIn, ?_⟩
  cases r1 with
  | cons rv rn =>
    rename_i v' us'
    cases rn
    show wpAny _ _ (call (.ref C) [v']) _ _ _
    have hlim := I1.nolimit
    have hG := I1.mod.glob.keeps I1.bk
    obtain ⟨mb, hB0, hmb0⟩ := I1.mod.blt
    have hB := hB0.keeps I1.bk
    have hmb : mb "super" = some (.type "super") := (hmb0 _ (by decide +kernel)).trans (by decide +kernel)
    obtain ⟨hp, g, dr, tk, os⟩ := s1
    refine wpAny_call (PySem.Tide.tide_made T I1.kIn hG hB hmb hlim (by have := hr.dp; omega) fun h' tk' e d M => ?_)
    show MkP X pins σ Q (.ref e) ⟨h', g, dr, tk', os⟩
    obtain ⟨oe, fv, hoe, hc, hd, hdat, h1⟩ := M.obj
    have hns := M.ns
    obtain ⟨G', g1, g2⟩ := restrict h' fun b => decide (b ≠ e)
    have gk : ∀ b, b ≠ e → G'.get? b = h'.get? b := fun b hb => g1 b (decide_eq_true hb)
    have ge : G'.get? e = none := g2 e (by simp)
    have old : ∀ b o, hp.get? b = some o → G'.get? b = some o := fun b o q => (gk b (Nat.ne_of_lt (Nat.lt_of_lt_of_le (Heap.lt_size q) M.new))).trans (M.keep b o q)
    have ob : ObjOk X.prog X.w (upd H1 d (.xd [(fl, v)])) G' d (.xd [(fl, v)]) :=
      ⟨_, hns.at (fun o q => (gk d M.dne).trans q), fun f => relO_tide rv f⟩
    have J : Inv X pins σ (upd H1 d (.xd [(fl, v)])) ⟨G', g, dr, tk', os⟩ := I1.laid (t' := tk') old M.dbig ob
    refine ⟨e, oe, fv, ⟨G', g, dr, tk', os⟩, _, .ref C, some d, rfl, J, fun b o q => ?_, ge, hoe, ⟨hc, hd⟩, hdat, h1, ?_, rfl, I1.bare, raises_own T.exC T.tyC, q1 d (I1.hok.fresh M.dbig)⟩
    · by_cases hb : b = e
      · have q' : G'.get? b = some o := q
        rw [hb, ge] at q'; cases q'
      · exact (gk b hb).symm.trans q
    · rw [upd_ne (Ne.symm M.dne)]
      exact I1.hok.fresh M.new
/-- raise E(e) -/
def tRaiseTide (C : Addr) (fl : Str) (W : WX) (ta : TA) : TS := fun _ σ H => tMkTide C fl ta σ H fun cls d H' => W cls d σ H'
theorem ps_raiseTide {a : Expr} {ta : TA} {W : WX} {p pos pos2 : Pos} {k : Nat} (hc : X.calm = true) (T : PySem.Tide.TideTxt X.prog X.K X.mg xn C fI fl) (hr : Room k X.A) (tk : Takes X W) (ha : PA X [a] ta) (hg : Gl X xn := by rfl) (hdb : (xn == ("__debug__" : Str)) = false := by decide)
    (he : starEach (a :: []) X.env = (false, eval a X.env) :: starEach [] X.env := by rfl) (hpl : (backTo pos (starEach [] X.env)).any (·.1) = false := by rfl) :
    PS X (.Raise (some (.Call (.Name xn p) [a] [] pos)) none pos2) (tRaiseTide C fl W ta) := ps_raise hc tk (pmk_tide T hr ha hg hdb he hpl)
/-- e.fl, e the exception that the suite holds (at a; its class cls, its dict d) -/
def tByTide (C : Addr) (fl : Str) (a : Addr) (cls : Value) (d : Option Addr) (te : TE) : TE := fun σ H Q => te σ H fun x H1 => x = .ref a ∧ cls = .ref C ∧ ∃ (dd : Addr) (v : V), d = some dd ∧ H1 dd = some (.xd [(fl, v)]) ∧ Q v H1
theorem pe_byTide {a : Addr} {oe : Obj} {cls : Value} {d : Option Addr} {pn : List (Addr × Obj)} {e : Expr} {te : TE} {pos : Pos} (T : PySem.Tide.TideTxt X.prog X.K X.mg xn C fI fl) (hz : Zc cls d oe) (hf : ∃ vs, oe.data = .fields vs) (he : PE (X.suite a ((a, oe) :: pn)) e te)
    (hb : attributeBase e fl X.env (eval e X.env) = eval e X.env) :
    PE (X.suite a ((a, oe) :: pn)) (.Attribute e fl pos) (tByTide C fl a cls d te) := by
  refine ⟨fun pins s σ H Q I h => ?_⟩
  refine attr_of hb (thn (he.run pins s σ H _ I h) fun u s1 hh => ?_)
  obtain ⟨x, H1, I1, rx, ex, ec, dd, v, ed, ea, q⟩ := hh
  subst ex
  obtain rfl : u = Value.ref a := rx
  subst ec
  subst ed
  obtain ⟨ha, _⟩ := I1.pin (a, oe) (List.mem_append_left _ List.mem_cons_self)
  obtain ⟨vs, hd⟩ := hf
  have hx : ObjOk X.prog X.w H1 s1.heap dd (.xd [(fl, v)]) := I1.hok dd _ ea
  obtain ⟨mA, hns, hr⟩ := hx
  obtain ⟨od, ho, hl⟩ := lookIn_ns hns
  have l : List.lookup fl [(fl, v)] = some v := by simp [List.lookup]
  obtain ⟨u, hu, ru⟩ := RelO.some_of (v := v) (o := mA fl) (by rw [← l]; exact hr fl)
  have J : PySem.W.InstAt s1.heap a oe C (some od) := ⟨ha, hz.1, by unfold PySem.W.notCls; rw [hd] <;> rfl, by rw [hz.2]; exact ho⟩
  exact HandSPX.exc_get I1.kIn J T.ga T.gg T.exC (PySem.W.findObj_own T.hdC T.noN rfl (by rw [hl, hu])) (handed_of ru) ⟨v, H1, I1.tok _, ru, q⟩
end
end L2


set_option Elab.async false
set_option linter.all false
set_option maxRecDepth 100000
set_option maxHeartbeats 4000000
/-! enumerate over a list or a tuple -/
namespace PySem
open Sem (wp)
open AutoSeq1 (wpAny_loadPart')
theorem my_enumerate_newT (l : Addr) (items : Array Value) (n : Nat) (dct : Option Addr) (sl : Array (Option Value)) :
    Meets (Builtin.«enumerate.__new__» ⟨[.type "enumerate", .ref l], []⟩) (fun _ R s => s.heap.get? l = some { cls := .type "tuple", dict := dct, data := .seq items n, slots := sl } ∧
      R (.ok (.ret (.ref (s.heap.push { cls := .type "tuple_iterator", data := .fields #[.ref l, .int 0 0] }).objs.size)))
        { s with heap := (s.heap.push { cls := .type "tuple_iterator", data := .fields #[.ref l, .int 0 0] }).push { cls := .type "enumerate", data := .fields #[.none, .bool false, .ref s.heap.objs.size, rawInt 0, .none, .none] } }) :=
  .of_wp fun prog w A R s h => by
    obtain ⟨hp, g, d, tk, os⟩ := s; obtain ⟨hl, h⟩ := h
    have hsub := sub_enumerate
    have hL : Heap.IsTuple (Shared.heap ⟨hp, g, d, tk, os⟩) l items := ⟨_, hl, rfl, n, rfl⟩
    wp_walk using wpAny_loadPart' hl
    refine wpAny_stack_any fun st => wpAny_pure ?_
    split
    · rename_i c _ _ _ _ _
      cases (c == Value.type "enumerate")
      · wp_walk using wpAny_loadPart' hl, wpAny_pyIter_tuple hL
        exact ⟨_, rfl, h⟩
      · wp_walk using wpAny_loadPart' hl, wpAny_pyIter_tuple hL
        exact ⟨_, rfl, h⟩
    · wp_walk using wpAny_loadPart' hl, wpAny_pyIter_tuple hL
      exact ⟨_, rfl, h⟩
section
variable {prog : Program} {w : World} {A : Around} {E : Value → Shared → Prop} {s : Shared}
theorem my_enumerate_tuple {l : Addr} {items : Array Value} {Q : Value → Shared → Prop} (hL : s.heap.IsTuple l items)
    (h : ∀ h', IsEnum h' (s.heap.objs.size + 1) s.heap.objs.size 0 .none → h'.IsTupleIter s.heap.objs.size l 0 → h'.objs.size = s.heap.objs.size + 2 →
      (∀ b o, s.heap.get? b = some o → h'.get? b = some o) → Q (.ref (s.heap.objs.size + 1)) { s with heap := h' }) :
    wpAny (model prog w) A (call (.type "enumerate") [.ref l]) Q E s := by
  obtain ⟨⟨c, dct, dt, sl⟩, hl, hc, n, hd⟩ := hL
  replace hc : c = .type "tuple" := hc
  replace hd : dt = .seq items n := hd
  subst hc hd
  refine callType_new F.called_enumerate (by decide) (F.typeCall_enumerate_1 _) (F.newCall_enumerate_1 _) (fun obj => F.args_object_init_2 obj _) F.entry_enumerate_new
    (my_enumerate_newT l items n dct sl) ⟨hl, ?_⟩
  have hz : (s.heap.push { cls := .type "tuple_iterator", data := .fields #[.ref l, .int 0 0] }).objs.size = s.heap.objs.size + 1 := Heap.size_push ..
  show _ ∧ _
  rw [hz]
  have he : IsEnum ((s.heap.push { cls := .type "tuple_iterator", data := .fields #[.ref l, .int 0 0] }).push
      { cls := .type "enumerate", data := .fields #[.none, .bool false, .ref s.heap.objs.size, rawInt 0, .none, .none] }) (s.heap.objs.size + 1) s.heap.objs.size 0 .none := by
    have := Heap.get?_push_size (s.heap.push { cls := .type "tuple_iterator", data := .fields #[.ref l, .int 0 0] })
      (o := { cls := .type "enumerate", data := .fields #[.none, .bool false, .ref s.heap.objs.size, rawInt 0, .none, .none] }) rfl
    rw [hz] at this; exact this
  refine ⟨⟨_, he, rfl⟩, h _ he ⟨_, Heap.get?_push_of_some _ (Heap.get?_push_size _ rfl), rfl, rfl⟩ (by rw [Heap.size_push, hz]) fun b o x => Heap.get?_push_of_some _ (Heap.get?_push_of_some _ x)⟩
end
end PySem
namespace L2
open PySem PySem.Spec PyProof.Rows
def IteT (K : PySem.W.Frag) (a : Addr) : It :=
  ⟨fun i H => ∃ (xs : List V) (x : V), SqT K H a xs ∧ xs[i]? = some x, fun i H v H' => ∃ T x, v = .ref T ∧ H T = none ∧ H' = upd H T (.tup [.int (i : Nat), x]) ∧ ∀ xs, SqT K H a xs → xs[i]? = some x, fun i H => ∃ xs : List V, SqT K H a xs ∧ i = xs.length⟩
theorem turn_enumT {P : Program} {w : World} {K : PySem.W.Frag} {elts : List Expr} {kk : Nat} {tpos : Pos} (a e it : Addr) :
    Turn P w K (.Tuple elts kk tpos) (IteT K a) [e, it] e (fun i h => (∃ old, IsEnum h e it ((i : Nat) : Int) old) ∧ h.IsTupleIter it a i ∧ e ≠ it ∧ e ≠ a ∧ it ≠ a) where
  mem := by simp
  obj := fun i h st b hb => by
    obtain ⟨⟨old, he⟩, ⟨o, ho, hc, hd⟩, _⟩ := st
    have e' : b = e ∨ b = it := by simpa using hb
    rcases e' with z | z
    · rw [z]; exact ⟨_, he, fun v q => nomatch q⟩
    · rw [z]; exact ⟨o, ho, fun v q => by rw [hd] at q; cases q⟩
  keep := fun i h h' st k => let ⟨⟨old, he⟩, hi, hne⟩ := st; ⟨⟨old, k e (by simp) _ he⟩, hi.at fun o q => k it (by simp) o q, hne⟩
  item := by
    intro X hP hw hK hc i pins s σ H E I hf st hg
    subst hP hw hK
    obtain ⟨⟨old, he⟩, hit, hne, hea, hia⟩ := st
    obtain ⟨xs, x, hq, hx⟩ := hg
    obtain ⟨its, rv, p, hz⟩ := I.tuple hq
    have p' : s.heap.IsTuple a its.toArray := p
    obtain ⟨u, hu, ru⟩ := rv.get hx
    have hel : e < s.heap.objs.size := Heap.lt_size he
    have hil : it < s.heap.objs.size := by obtain ⟨_, q, _⟩ := hit; exact Heap.lt_size q
    have D := Draws.tuple (prog := X.prog) (w := X.w) (A := X.A.in1) (I.ok.hd hc) it a hia.symm its.toArray
    refine wpAny_pyNext_enum_itemD D he ⟨hit, p'⟩ (by have := (List.getElem?_eq_some_iff.mp hu).1; simpa using this) hne (by simp [hne, hea]) fun x' h' tk hx' ho hit' hT hsz hk => ?_
    have hxu : x' = u := by
      have e1 : its[i]? = some x' := by simpa using hx'
      rw [hu] at e1
      exact (Option.some.inj e1).symm
    subst hxu
    obtain ⟨hit', _⟩ := hit'
    refine ⟨_, rfl, wpAny_letOwnedTupleGo_enum (s := { s with heap := h', toks := tk + 1 }) ho fun h'' he' sb => ?_⟩
    have hT2 : h''.get? s.heap.objs.size = some { cls := .type "tuple", data := .seq #[.int i tk, x'] } := (sb.2 _ (Nat.ne_of_gt hel)).trans hT
    have new : ObjOk X.prog X.w (upd H s.heap.objs.size (.tup [.int (i : Nat), x])) h'' s.heap.objs.size (.tup [.int (i : Nat), x]) :=
      ⟨by show 2 ≤ sizeLine; decide, [.int i tk, x'], .cons ⟨_, rfl⟩ (.cons ru .nil), ⟨_, hT2, rfl, _, rfl⟩⟩
    have I1 : Inv X pins σ (upd H s.heap.objs.size (.tup [.int (i : Nat), x])) { s with heap := h'', toks := tk + 1 } :=
      I.turnedNew (ch := [e, it]) (fun b ob hb q => (sb.2 b (fun z => hb (by simp [z]))).trans (hk b ob (fun z => hb (by simp [z])) (fun z => hb (by simp [z])) q)) hf (Nat.le_refl _) new
    refine ⟨.ref s.heap.objs.size, _, I1, rfl, ⟨_, x, rfl, I.hok.fresh (Nat.le_refl _), rfl, fun ys hy => by rw [I.tuple_inj hy hq]; exact hx⟩, ⟨⟨x', ?_⟩, hit'.at fun o q => (sb.2 it (Ne.symm hne)).trans q, hne, hea, hia⟩, fun b hb => ?_⟩
    · have e1 : ((i + 1 : Nat) : Int) = (i : Int) + 1 := by omega
      rw [e1]; exact he'
    · have hb' : b < s.heap.objs.size := by
        have e' : b = e ∨ b = it := by simpa using hb
        rcases e' with z | z
        · rw [z]; exact hel
        · rw [z]; exact hil
      rw [upd_ne (Nat.ne_of_lt hb')]
      exact (hf b hb).1
  done := by
    intro X hP hw hK hc i pins s σ H E I hf st hg
    subst hP hw hK
    obtain ⟨⟨old, he⟩, hit, hne, hea, hia⟩ := st
    obtain ⟨xs, hq, hx⟩ := hg
    obtain ⟨its, rv, p, hz⟩ := I.tuple hq
    have p' : s.heap.IsTuple a its.toArray := p
    obtain ⟨f0, f1, f2, f3, f4, f5⟩ := hf it (by simp)
    have hl := rv.length
    have D := Draws.tuple (prog := X.prog) (w := X.w) (A := X.A.in1) (I.ok.hd hc) it a hia.symm its.toArray
    have hn : i = its.toArray.size := by rw [hx, hl]; simp
    refine wpAny_pyNext_enum_endD D he ⟨hn ▸ hit, p'⟩ fun h' eb => ⟨rfl, I.turned (t' := s.toks) (fun b o hb q => eb b o hb q) f0 f1 f3 f4 f5⟩
  self := fun A i s Q E st h => let ⟨⟨_, he⟩, _⟩ := st; wpAny_pyIter_enum he h
/-- enumerate(list | tuple) -/
def iEnumS (K : PySem.W.Frag) (ta : TA) : TI := fun σ H R => ta σ H fun vs H1 => ∃ a xs, vs = [.ref a] ∧ ((SqL K H1 a xs ∧ R (Ite K a) H1) ∨ (SqT K H1 a xs ∧ R (IteT K a) H1))
theorem pi_enumS {X : Cx} {e : Expr} {ta : TA} {p pos tpos : Pos} {elts : List Expr} {kk : Nat} (hg : Gl X "enumerate") (hm : X.mg "enumerate" = none) (ha : PA X [e] ta) (hs : starEach [e] X.env = [(false, eval e X.env)] := by rfl) :
    PI X (.Tuple elts kk tpos) (.Call (.Name "enumerate" p) [e] [] pos) (iEnumS X.K ta) := by
  refine ⟨fun pins s σ H R I h => ?_⟩
  refine Call_ (ld_blt I hg hm boot_enumerate (PyProof.Rows.callWith_type1 (thn (ha.run pos pins s σ H _ I h) fun us s1 ⟨vs, H1, I1, r1, q1⟩ => ?_) hs rfl))
  obtain ⟨a, xs, ex, q1⟩ := q1
  subst ex
  cases r1 with
  | cons r rr =>
    cases rr
    cases r
    have fpk : ∀ b ∈ [s1.heap.objs.size + 1, s1.heap.objs.size], FpOk X pins H1 b := fun b hb => by
      have e' : b = s1.heap.objs.size + 1 ∨ b = s1.heap.objs.size := by simpa using hb
      have hle : s1.heap.objs.size ≤ b := by
        rcases e' with z | z
        · rw [z]; exact Nat.le_add_right _ _
        · rw [z]; exact Nat.le_refl _
      exact I1.fpOk hle (I1.hok.fresh hle)
    rcases q1 with ⟨hq, q⟩ | ⟨hq, q⟩
    · obtain ⟨its, rv, p', hz⟩ := I1.list hq
      refine call_enumerate_list p'.isList fun h' he hit hsz hk => wpAny_pyIter_enum he ?_
      have I2 : Inv X pins σ H1 { s1 with heap := h' } := I1.kept (t' := s1.toks) hk
      exact ⟨s1.heap.objs.size + 1, [s1.heap.objs.size + 1, s1.heap.objs.size], _, _, H1, rfl, I2, turn_enum a (s1.heap.objs.size + 1) s1.heap.objs.size, ⟨⟨.none, he⟩, hit, Nat.succ_ne_self _⟩, fpk, q⟩
    · obtain ⟨its, rv, p', hz⟩ := I1.tuple hq
      have hla : a < s1.heap.objs.size := by obtain ⟨o, ho, _⟩ := p'; exact Heap.lt_size ho
      refine my_enumerate_tuple (show s1.heap.IsTuple a its.toArray from p') fun h' he hit hsz hk => wpAny_pyIter_enum he ?_
      have I2 : Inv X pins σ H1 { s1 with heap := h' } := I1.kept (t' := s1.toks) hk
      exact ⟨s1.heap.objs.size + 1, [s1.heap.objs.size + 1, s1.heap.objs.size], _, _, H1, rfl, I2, turn_enumT a (s1.heap.objs.size + 1) s1.heap.objs.size, ⟨⟨.none, he⟩, hit, Nat.succ_ne_self _, Nat.ne_of_gt (Nat.lt_succ_of_lt hla), Nat.ne_of_gt hla⟩, fpk, q⟩
theorem pi_enumSK {X : Cx} {K : PySem.W.Frag} {e : Expr} {ta : TA} {p pos tpos : Pos} {elts : List Expr} {kk : Nat} (h : X.K = K) (hg : Gl X "enumerate") (hm : X.mg "enumerate" = none) (ha : PA X [e] ta) (hs : starEach [e] X.env = [(false, eval e X.env)] := by rfl) :
    PI X (.Tuple elts kk tpos) (.Call (.Name "enumerate" p) [e] [] pos) (iEnumS K ta) := by subst h; exact pi_enumS hg hm ha hs
/-- a for over it: the pair's own tuple is new; Pv by the turn -/
theorem for_enumS {K : PySem.W.Frag} {a : Addr} {xs : List V} {g : TG} {tb : TS} {D : Ends} {σ : St} {H0 H : Hp} (hq : SqL K H0 a xs ∨ SqT K H0 a xs) (Pv : Nat → St → Hp → Prop) (h0 : Pv 0 σ H) (hm : ∀ i σ' H', Pv i σ' H' → ∀ b o, H0 b = some o → H' b = some o)
    (hs : ∀ i x σ H T, xs[i]? = some x → Pv i σ H → H T = none → g (.ref T) σ (upd H T (.tup [.int (i : Nat), x])) fun σ2 H2 => tb { D with nx := Pv (i + 1), ct := Pv (i + 1), bk := D.nx } σ2 H2) (hd : ∀ σ H, Pv xs.length σ H → D.nx σ H) :
    ((SqL K H a xs ∧ ∃ W : Nat → Nat → St → Hp → Prop, (∃ m, W 0 m σ H) ∧ ∀ i m σ H, W i m σ H →
      ((Ite K a).stop i H ∧ D.nx σ H) ∨ ((Ite K a).go i H ∧ ∃ N : St → Hp → Prop, (∀ σ' H', N σ' H' → ∃ m', m' < m ∧ W (i + 1) m' σ' H') ∧ ∀ x H', (Ite K a).yld i H x H' → g x σ H' fun σ2 H2 => tb { D with nx := N, ct := N, bk := D.nx } σ2 H2)) ∨
     (SqT K H a xs ∧ ∃ W : Nat → Nat → St → Hp → Prop, (∃ m, W 0 m σ H) ∧ ∀ i m σ H, W i m σ H →
      ((IteT K a).stop i H ∧ D.nx σ H) ∨ ((IteT K a).go i H ∧ ∃ N : St → Hp → Prop, (∀ σ' H', N σ' H' → ∃ m', m' < m ∧ W (i + 1) m' σ' H') ∧ ∀ x H', (IteT K a).yld i H x H' → g x σ H' fun σ2 H2 => tb { D with nx := N, ct := N, bk := D.nx } σ2 H2))) := by
  have mL : ∀ {i σ' H'}, SqL K H0 a xs → Pv i σ' H' → SqL K H' a xs := fun {i σ' H'} h p => by
    have k := hm i σ' H' p
    rcases h with (h | ⟨o, h⟩) | h
    · exact .inl (.inl (k _ _ h))
    · exact .inl (.inr ⟨o, k _ _ h⟩)
    · exact .inr h
  have mT : ∀ {i σ' H'}, SqT K H0 a xs → Pv i σ' H' → SqT K H' a xs := fun {i σ' H'} h p => by
    have k := hm i σ' H' p
    rcases h with (h | ⟨o, h⟩) | h
    · exact .inl (.inl (k _ _ h))
    · exact .inl (.inr ⟨o, k _ _ h⟩)
    · exact .inr h
  rcases hq with h | h
  · refine .inl ⟨mL h h0, fun i m σ H => m = xs.length - i ∧ i ≤ xs.length ∧ Pv i σ H, ⟨xs.length, by simp, Nat.zero_le _, h0⟩, ?_⟩
    rintro i m σ H ⟨rfl, hi, p⟩
    have q := mL h p
    by_cases hlt : i < xs.length
    · refine .inr ⟨⟨xs, xs[i], q, by simp [hlt]⟩, Pv (i + 1), fun σ' H' p' => ⟨xs.length - (i + 1), by omega, rfl, hlt, p'⟩, fun x H' y => ?_⟩
      obtain ⟨T, z, rfl, nT, rfl, hz⟩ := y
      exact hs i z σ H T (hz xs q) p nT
    · have e : i = xs.length := by omega
      subst e
      exact .inl ⟨⟨xs, q, Nat.le_refl _⟩, hd σ H p⟩
  · refine .inr ⟨mT h h0, fun i m σ H => m = xs.length - i ∧ i ≤ xs.length ∧ Pv i σ H, ⟨xs.length, by simp, Nat.zero_le _, h0⟩, ?_⟩
    rintro i m σ H ⟨rfl, hi, p⟩
    have q := mT h p
    by_cases hlt : i < xs.length
    · refine .inr ⟨⟨xs, xs[i], q, by simp [hlt]⟩, Pv (i + 1), fun σ' H' p' => ⟨xs.length - (i + 1), by omega, rfl, hlt, p'⟩, fun x H' y => ?_⟩
      obtain ⟨T, z, rfl, nT, rfl, hz⟩ := y
      exact hs i z σ H T (hz xs q) p nT
    · have e : i = xs.length := by omega
      subst e
      exact .inl ⟨⟨xs, q, rfl⟩, hd σ H p⟩
end L2


set_option Elab.async false
set_option linter.all false
set_option maxRecDepth 100000
set_option maxHeartbeats 4000000
namespace K1
open PySem PySem.Spec PyProof.Rows L2 RZ
/-! ### values as data: what stands at a place, found in the call's own objects -/
mutual
inductive Dv (H : Hp) : V → PyData → Prop
  | non : Dv H .non .none
  | bl (b : Bool) : Dv H (.bl b) (.bool b)
  | int (i : Int) : Dv H (.int i) (.int i)
  | str (x : Str) : Dv H (.str x) (.str x)
  | lst {a : Addr} {xs : List V} {ds : List PyData} : H a = some (.lst xs) → DvA H xs ds → Dv H (.ref a) (.list ds)
  | tup {a : Addr} {xs : List V} {ds : List PyData} : H a = some (.tup xs) → DvA H xs ds → Dv H (.ref a) (.tuple ds)
  | dic {a : Addr} : H a = some (.dK []) → Dv H (.ref a) (.dict [])
inductive DvA (H : Hp) : List V → List PyData → Prop
  | nil : DvA H [] []
  | cons {v : V} {vs : List V} {d : PyData} {ds : List PyData} : Dv H v d → DvA H vs ds → DvA H (v :: vs) (d :: ds)
end
mutual
theorem Dv.ext {H H' : Hp} (e : LamX.ExtN H H') : ∀ {v : V} {d : PyData}, Dv H v d → Dv H' v d
  | _, _, .non => .non
  | _, _, .bl b => .bl b
  | _, _, .int i => .int i
  | _, _, .str x => .str x
  | _, _, .lst h a => .lst (e _ _ h fun _ z => by cases z) (DvA.ext e a)
  | _, _, .tup h a => .tup (e _ _ h fun _ z => by cases z) (DvA.ext e a)
  | _, _, .dic h => .dic (e _ _ h fun _ z => by cases z)
theorem DvA.ext {H H' : Hp} (e : LamX.ExtN H H') : ∀ {vs : List V} {ds : List PyData}, DvA H vs ds → DvA H' vs ds
  | _, _, .nil => .nil
  | _, _, .cons h r => .cons (Dv.ext e h) (DvA.ext e r)
end
theorem Dv.same {H H' : Hp} {v : V} {d : PyData} (h : Dv H v d) (s : Same H H') : Dv H' v d := h.ext (LamX.ExtN.of s)
theorem DvA.same {H H' : Hp} {v : List V} {d : List PyData} (h : DvA H v d) (s : Same H H') : DvA H' v d := h.ext (LamX.ExtN.of s)
mutual
def noDic : PyData → Bool
  | .list xs => noDicA xs
  | .tuple xs => noDicA xs
  | .dict _ => false
  | _ => true
def noDicA : List PyData → Bool
  | [] => true
  | x :: r => noDic x && noDicA r
end
mutual
theorem Dv.dp {K : PySem.W.Frag} {H : Hp} : ∀ {v : V} {d : PyData}, Dv H v d → noDic d = true → Dp K H v d
  | _, _, .non, _ => .non
  | _, _, .bl b, _ => .bl b
  | _, _, .int i, _ => .int i
  | _, _, .str x, _ => .str x
  | _, _, .lst h a, n => .lst (sq h) (DvA.dp a n)
  | _, _, .tup h a, n => .tup (st h) (DvA.dp a n)
  | _, _, .dic h, n => by cases n
theorem DvA.dp {K : PySem.W.Frag} {H : Hp} : ∀ {vs : List V} {ds : List PyData}, DvA H vs ds → noDicA ds = true → DpAll K H vs ds
  | _, _, .nil, _ => .nil
  | _, _, .cons h r, n => .cons (Dv.dp h ((Bool.and_eq_true _ _).mp n).1) (DvA.dp r ((Bool.and_eq_true _ _).mp n).2)
end
theorem DvA.len {H : Hp} : ∀ {vs : List V} {ds : List PyData}, DvA H vs ds → vs.length = ds.length
  | _, _, .nil => rfl
  | _, _, .cons _ r => congrArg (· + 1) (DvA.len r)
theorem DvA.get {H : Hp} : ∀ {vs : List V} {ds : List PyData}, DvA H vs ds → ∀ {i : Nat} {v : V}, vs[i]? = some v → ∃ d, ds[i]? = some d ∧ Dv H v d
  | _, _, .nil, i, v, h => by simp at h
  | _, _, .cons hd r, 0, v, h => ⟨_, rfl, by simp at h; exact h ▸ hd⟩
  | _, _, .cons hd r, i + 1, v, h => by simpa using DvA.get r (i := i) (v := v) (by simpa using h)
theorem DvA.app {H : Hp} : ∀ {vs : List V} {ds : List PyData} {us : List V} {es : List PyData}, DvA H vs ds → DvA H us es → DvA H (vs ++ us) (ds ++ es)
  | _, _, _, _, .nil, h => h
  | _, _, _, _, .cons hd r, h => .cons hd (DvA.app r h)
def tyN : PyData → String
  | .none => "NoneType"
  | .bool _ => "bool"
  | .int _ => "int"
  | .str _ => "str"
  | .list _ => "list"
  | .tuple _ => "tuple"
  | .dict _ => "dict"
theorem Dv.ty {K : PySem.W.Frag} {H : Hp} {v : V} {d : PyData} (h : Dv H v d) : TyX K H v (.type (tyN d)) := by
  cases h with
  | non => exact .base .non
  | bl b => exact .base (.bl b)
  | int i => exact .base (.int i)
  | str x => exact .base (.str x)
  | lst e _ => exact .base (.lst e)
  | tup e _ => exact .base (.tup e)
  | dic e => exact .base (.dK e)
/-! ### what the checks say of data -/
def isInt : PyData → Bool | .int _ => true | _ => false
def isNum : PyData → Bool | .int n => decide (1 ≤ n) | _ => false
def isStr : PyData → Bool | .str _ => true | _ => false
def isTup : PyData → Bool | .tuple _ => true | _ => false
def isSeq : PyData → Bool | .tuple _ => true | .list _ => true | _ => false
def itemsD : PyData → List PyData | .list xs => xs | .tuple xs => xs | _ => []
def dI : PyData → Int | .int n => n | _ => 0
def isNums (d : PyData) : Bool := isSeq d && (itemsD d).all isNum
def ascB (ns : List Int) : Bool := ((ns.zip (ns.drop 1)).map fun p => decide (p.1 < p.2)).all id
theorem kit_int (d : PyData) : ∃ b1 b2, kitB (tyN d) "int" = some b1 ∧ kitB (tyN d) "bool" = some b2 ∧ (b1 && !b2) = isInt d := by
  cases d with
  | none => exact ⟨false, false, (show kitB "NoneType" "int" = some false by decide +kernel), (show kitB "NoneType" "bool" = some false by decide +kernel), rfl⟩
  | bool b => exact ⟨true, true, (show kitB "bool" "int" = some true by decide +kernel), (show kitB "bool" "bool" = some true by decide +kernel), rfl⟩
  | int b => exact ⟨true, false, (show kitB "int" "int" = some true by decide +kernel), (show kitB "int" "bool" = some false by decide +kernel), rfl⟩
  | str b => exact ⟨false, false, (show kitB "str" "int" = some false by decide +kernel), (show kitB "str" "bool" = some false by decide +kernel), rfl⟩
  | list b => exact ⟨false, false, (show kitB "list" "int" = some false by decide +kernel), (show kitB "list" "bool" = some false by decide +kernel), rfl⟩
  | tuple b => exact ⟨false, false, (show kitB "tuple" "int" = some false by decide +kernel), (show kitB "tuple" "bool" = some false by decide +kernel), rfl⟩
  | dict b => exact ⟨false, false, (show kitB "dict" "int" = some false by decide +kernel), (show kitB "dict" "bool" = some false by decide +kernel), rfl⟩
theorem kit_str (d : PyData) : kitB (tyN d) "str" = some (isStr d) := by
  cases d with
  | none => exact (show kitB "NoneType" "str" = some false by decide +kernel)
  | bool b => exact (show kitB "bool" "str" = some false by decide +kernel)
  | int b => exact (show kitB "int" "str" = some false by decide +kernel)
  | str b => exact (show kitB "str" "str" = some true by decide +kernel)
  | list b => exact (show kitB "list" "str" = some false by decide +kernel)
  | tuple b => exact (show kitB "tuple" "str" = some false by decide +kernel)
  | dict b => exact (show kitB "dict" "str" = some false by decide +kernel)
theorem kit_tup (d : PyData) : kitB (tyN d) "tuple" = some (isTup d) := by
  cases d with
  | none => exact (show kitB "NoneType" "tuple" = some false by decide +kernel)
  | bool b => exact (show kitB "bool" "tuple" = some false by decide +kernel)
  | int b => exact (show kitB "int" "tuple" = some false by decide +kernel)
  | str b => exact (show kitB "str" "tuple" = some false by decide +kernel)
  | list b => exact (show kitB "list" "tuple" = some false by decide +kernel)
  | tuple b => exact (show kitB "tuple" "tuple" = some true by decide +kernel)
  | dict b => exact (show kitB "dict" "tuple" = some false by decide +kernel)
theorem kit_seq {K : PySem.W.Frag} (d : PyData) : PySem.W.kitAny K (.type (tyN d)) [.type "list", .type "tuple"] = some (isSeq d) := by
  have kt : ∀ {t : String} {b1 b2 : Bool}, kitB t "list" = some b1 → kitB t "tuple" = some b2 → PySem.W.kitAny K (.type t) [.type "list", .type "tuple"] = some (b1 || b2) := fun {t b1 b2} h1 h2 =>
    kitAny_cons (b := b1) (kit_ty h1) (fun e => by subst e; exact kitAny_cons (b := b2) (kit_ty h2) (fun e => by subst e; exact kitAny_nil) fun e => by subst e; rfl) fun e => by subst e; rfl
  cases d with
  | none => exact kt (t := "NoneType") (b1 := false) (b2 := false) (by decide +kernel) (by decide +kernel)
  | bool b => exact kt (t := "bool") (b1 := false) (b2 := false) (by decide +kernel) (by decide +kernel)
  | int b => exact kt (t := "int") (b1 := false) (b2 := false) (by decide +kernel) (by decide +kernel)
  | str b => exact kt (t := "str") (b1 := false) (b2 := false) (by decide +kernel) (by decide +kernel)
  | list b => exact kt (t := "list") (b1 := true) (b2 := false) (by decide +kernel) (by decide +kernel)
  | tuple b => exact kt (t := "tuple") (b1 := false) (b2 := true) (by decide +kernel) (by decide +kernel)
  | dict b => exact kt (t := "dict") (b1 := false) (b2 := false) (by decide +kernel) (by decide +kernel)
/-- a list or a tuple of the call's own -/
def SeqH (H : Hp) (a : Addr) (xs : List V) : Prop := H a = some (.lst xs) ∨ H a = some (.tup xs)
theorem SeqH.same {H H' : Hp} {a : Addr} {xs : List V} (h : SeqH H a xs) (s : Same H H') : SeqH H' a xs := h.imp (s _ _) (s _ _)
theorem SeqH.len {K : PySem.W.Frag} {H : Hp} {a : Addr} {xs : List V} (h : SeqH H a xs) : SqL K H a xs ∨ SqT K H a xs := h.imp sq st
theorem Dv.seq {H : Hp} {v : V} {d : PyData} (h : Dv H v d) (hs : isSeq d = true) : ∃ a xs, v = .ref a ∧ SeqH H a xs ∧ DvA H xs (itemsD d) := by
  cases h with
  | lst e r => exact ⟨_, _, rfl, .inl e, r⟩
  | tup e r => exact ⟨_, _, rfl, .inr e, r⟩
  | _ => cases hs
theorem Dv.tupD {H : Hp} {v : V} {d : PyData} (h : Dv H v d) (hs : isTup d = true) : ∃ a xs, v = .ref a ∧ H a = some (.tup xs) ∧ DvA H xs (itemsD d) ∧ d = .tuple (itemsD d) := by
  cases h with
  | tup e r => exact ⟨_, _, rfl, e, r, rfl⟩
  | _ => cases hs
/-- what a walk over a list or a tuple asks -/
def SeqR (K : PySem.W.Frag) (a : Addr) (H : Hp) (R : It → Hp → Prop) : Prop := ((∃ xs, SqL K H a xs) ∧ R (Itl K a) H) ∨ ((∃ xs, SqT K H a xs) ∧ R (Itt K a) H)
def ZipR (K : PySem.W.Frag) (a b : Addr) (xs ys : List V) (H : Hp) (R : It → Hp → Prop) : Prop := (SqL K H a xs ∧ SqL K H b ys ∧ R (Itz K a b) H) ∨ (SqT K H a xs ∧ SqT K H b ys ∧ R (ItzT K a b) H)
/-- a walk of a list or a tuple of the call's own -/
theorem seq_walk {K : PySem.W.Frag} {H : Hp} {a : Addr} {xs : List V} {R : It → Hp → Prop} (h : SeqH H a xs)
    (k : ∀ (J : It) (Gd : Hp → Prop), Walk J xs.length Gd (YAt xs) → (∀ H', Same H H' → Gd H') → R J H) : SeqR K a H R := by
  rcases h with h | h
  · exact .inl ⟨⟨xs, sq h⟩, k _ _ walk_list fun H' s => sq (s _ _ h)⟩
  · exact .inr ⟨⟨xs, st h⟩, k _ _ walk_tup fun H' s => st (s _ _ h)⟩
theorem walk_zipT {K : PySem.W.Frag} {a b : Addr} {xs ys : List V} {n : Nat} (hn : n = min xs.length ys.length) : Walk (ItzT K a b) n (fun H => SqT K H a xs ∧ SqT K H b ys) (YPair (fun i => xs[i]?) (fun i => ys[i]?)) := by
  subst hn
  refine ⟨fun i _ hi q => ?_, fun _ q => ⟨xs, ys, q.1, q.2, by omega⟩, fun i H v H' _ q y => ?_⟩
  · have h1 : i < xs.length := by omega
    have h2 : i < ys.length := by omega
    exact ⟨xs, ys, xs[i], ys[i], q.1, q.2, by simp [h1], by simp [h2]⟩
  · obtain ⟨T, x, z, h1, h2, h3, h4, h5⟩ := y
    exact ⟨T, x, z, h1, h2, h3, h4 xs q.1, h5 ys q.2⟩
theorem zip_walkL {K : PySem.W.Frag} {H : Hp} {a b : Addr} {xs ys : List V} {R : It → Hp → Prop} (h1 : H a = some (.lst xs)) (h2 : H b = some (.lst ys))
    (k : ∀ (J : It) (Gd : Hp → Prop), Walk J (min xs.length ys.length) Gd (YPair (fun i => xs[i]?) (fun i => ys[i]?)) → (∀ H', Same H H' → Gd H') → R J H) : ZipR K a b xs ys H R :=
  .inl ⟨sq h1, sq h2, k _ _ (walk_zip rfl) fun H' s => ⟨sq (s _ _ h1), sq (s _ _ h2)⟩⟩
theorem zip_walkT {K : PySem.W.Frag} {H : Hp} {a b : Addr} {xs ys : List V} {R : It → Hp → Prop} (h1 : H a = some (.tup xs)) (h2 : H b = some (.tup ys))
    (k : ∀ (J : It) (Gd : Hp → Prop), Walk J (min xs.length ys.length) Gd (YPair (fun i => xs[i]?) (fun i => ys[i]?)) → (∀ H', Same H H' → Gd H') → R J H) : ZipR K a b xs ys H R :=
  .inr ⟨st h1, st h2, k _ _ (walk_zipT rfl) fun H' s => ⟨st (s _ _ h1), st (s _ _ h2)⟩⟩
structure Bj (mg : Str → Option Value) : Prop extends Bi mg where
  all : mg "all" = none
  zip : mg "zip" = none
section
variable {X : Cx} {K : PySem.W.Frag}
theorem sl_seqK (h : X.K = K) : SlR X (fun x lo hi H Q => rSlL K x lo hi H Q ∨ rSlA K x lo hi H Q) := by subst h; exact SlR.or sl_list sl_tupA
theorem call_isiK1 (h : X.K = K) : CallR X (.builtin "isinstance") (rIsi K) := by subst h; exact call_isi
theorem call_isiTK (h : X.K = K) : CallR X (.builtin "isinstance") (rIsiT K) := by subst h; exact call_isiT
theorem cr_allK (h : X.K = K) (hc : X.calm = true) : CallR X (.builtin "all") (rAll K) := by subst h; exact cr_all hc
theorem ix_seqK (h : X.K = K) : IxR X (rIx K) := by subst h; exact ix_seq
theorem pe_const {x : Str} {pos : Pos} {n : Int} (hm : ∃ t, X.mg x = some (.int n t)) (hg : Gl X x) (hd : (x == ("__debug__" : Str)) = false := by decide) : PE X (.Name x pos) (tC (.int n)) := by
  obtain ⟨t, hm⟩ := hm
  exact pe_glob hg hm ⟨t, rfl⟩ hd
/-- a walk over a list or a tuple -/
def iSeq (K : PySem.W.Frag) (tl : TE) : TI := fun σ H R => tl σ H fun x H1 => ∃ a, x = .ref a ∧ SeqR K a H1 R
theorem pi_seqK {tg l : Expr} {tl : TE} (h : X.K = K) (hl : PE X l tl) : PI X tg l (iSeq K tl) := by
  subst h
  refine ⟨fun pins s σ H R I h => ?_⟩
  refine thn (hl.run pins s σ H _ I h) fun v s1 ⟨x, H1, I1, r1, q1⟩ => ?_
  obtain ⟨a, e, q1⟩ := q1
  subst e
  cases r1
  have fr : ∀ b ∈ [s1.heap.objs.size], FpOk X pins H1 b := fun b hb => by
    have e : b = s1.heap.objs.size := by simpa using hb
    subst e
    exact I1.fpOk (Nat.le_refl _) (I1.hok.fresh (Nat.le_refl _))
  rcases q1 with ⟨⟨xs, hq⟩, q⟩ | ⟨⟨xs, hq⟩, q⟩
  · obtain ⟨its, rv, p, hz⟩ := I1.list hq
    refine wpAny_pyIter_list p.isList ?_
    exact ⟨s1.heap.objs.size, [s1.heap.objs.size], _, _, H1, rfl, I1.kept (t' := s1.toks) fun b o e => Heap.get?_push_of_some _ e, turn_list a _, ⟨_, Heap.get?_push_size _ rfl, rfl, rfl⟩, fr, q⟩
  · obtain ⟨its, rv, p, hz⟩ := I1.tuple hq
    refine wpAny_pyIter_tuple (show s1.heap.IsTuple a its.toArray from p) ?_
    exact ⟨s1.heap.objs.size, [s1.heap.objs.size], _, _, H1, rfl, I1.kept (t' := s1.toks) fun b o e => Heap.get?_push_of_some _ e, turn_tuple a _, ⟨_, Heap.get?_push_size _ rfl, rfl, rfl⟩, fr, q⟩
def iZipS (K : PySem.W.Frag) (ta : TA) : TI := fun σ H R => ta σ H fun vs H1 => ∃ a b xs ys, vs = [.ref a, .ref b] ∧ ZipR K a b xs ys H1 R
theorem pi_zipSK {e e2 : Expr} {ta : TA} {p pos tpos : Pos} {elts : List Expr} {kk : Nat} (h : X.K = K) (hg : Gl X "zip") (hm : X.mg "zip" = none) (ha : PA X [e, e2] ta)
    (hs : starEach [e, e2] X.env = (false, eval e X.env) :: starEach [e2] X.env := by rfl) (hpl : (backTo pos (starEach [e2] X.env)).any (·.1) = false := by rfl) :
    PI X (.Tuple elts kk tpos) (.Call (.Name "zip" p) [e, e2] [] pos) (iZipS K ta) := by subst h; exact pi_zipA hg hm ha hs hpl
end
end K1


set_option Elab.async false
set_option linter.all false
set_option maxRecDepth 100000
set_option maxHeartbeats 400000
/-! a lambda with one parameter handed to a def or a method that calls it -/
namespace LamY
open PySem PySem.Spec PyProof.Rows L2 LamX
/-- one parameter xp, no other name of its own: captured ones and globals -/
structure LamS1 (sc scope : Scope) (xp : Str) : Prop where
  kind : scope.kind = .function
  co : scope.isCoroutine = false
  gen : scope.isGenerator = false
  own : ∀ y ∈ scope.names, y.2 ≠ .cell ∧ (y.2 = .local → y.1 = xp)
  par : scope.names.lookup xp = some .local
  free : ∀ y ∈ scope.names, y.2 = .free → sc.names.lookup y.1 = some .cell ∨ sc.names.lookup y.1 = some .free
def lamSB1 (sc scope : Scope) (xp : Str) : Bool :=
  decide (scope.kind = .function) && !scope.isCoroutine && !scope.isGenerator && decide (scope.names.lookup xp = some .local) && scope.names.all fun y => !decide (y.2 = .cell) && (!decide (y.2 = .local) || decide (y.1 = xp)) && (!decide (y.2 = .free) || decide (sc.names.lookup y.1 = some .cell) || decide (sc.names.lookup y.1 = some .free))
theorem lamS1_by {sc scope : Scope} {xp : Str} (h : lamSB1 sc scope xp = true) : LamS1 sc scope xp := by
  unfold lamSB1 at h
  simp only [Bool.and_eq_true, Bool.or_eq_true, Bool.not_eq_true', decide_eq_true_eq, decide_eq_false_iff_not, List.all_eq_true] at h
  obtain ⟨⟨⟨⟨h1, h2⟩, h3⟩, h5⟩, h4⟩ := h
  refine ⟨h1, h2, h3, fun y hy => ⟨(h4 y hy).1.1, fun e => (h4 y hy).1.2.elim (fun z => absurd e z) id⟩, h5, fun y hy e => ?_⟩
  rcases (h4 y hy).2 with (z | z) | z
  · exact absurd e z
  · exact .inl z
  · exact .inr z
theorem LamS1.has {X : Cx} {scope : Scope} {xp : Str} (L : LamS1 X.env.scope scope xp) (ok : X.Ok) : ∀ y ∈ scope.names, y.2 = .free → ∃ c, X.env.cells.lookup y.1 = some c := fun y hy e => by
  rcases L.free y hy e with k | k
  · exact ok.has _ (.inl k)
  · exact ok.has _ (.inr k)
/-- the context of the lambda's body, entered at s from the frames outer; its parameter is the last slot -/
def lamCx1 (X : Cx) (A : Around) (outer : List Env) (s : Shared) (H : Hp) (E : XK) (scope : Scope) (xp : Str) (f c' : Addr) : Cx := { lamCx X A outer s H E scope f c' with N := X.N ++ [xp] }
section
variable {X : Cx} {pins : List (Addr × Obj)} {σ : L2.St} {H HZ : Hp} {s s1 : Shared}
theorem lam_start1 {A : Around} {outer : List Env} {E : XK} {scope : Scope} {xp : Str} {f c' : Addr} {h₁ : Heap} {tk : Nat} {v : V} {u : Value} (I : Inv X pins σ H s) (L : LamS1 X.env.scope scope xp) (hxn : xp ∉ X.N) (rv : RelV v u) (e0 : Env0 X.prog X.w X.K X.mg X.base A outer s1 HZ) (hd : A.handled = none)
    (un : Un (frs X.stack) [] H HZ s.heap s1.heap) (hns : h₁.Ns s1.heap.objs.size fun y => ([(xp, u)] : List (Str × Value)).reverse.lookup y) (kp : ∀ b o, s1.heap.get? b = some o → h₁.get? b = some o) :
    Inv (lamCx1 X A outer s1 HZ E scope xp f c') [] (σ ++ [some v]) HZ { s1 with heap := h₁, toks := tk } := by
  have hfree := L.has I.ok
  have cm : ∀ {y c}, (cloFrom X.env.cells scope.names []).lookup y = some c → X.env.cells.lookup y = some c := fun {y c} e => by
    rcases cloFrom_mem (PySem.mem_of_lookup e) with hm | ⟨h1, h2⟩
    · cases hm
    · obtain ⟨c1, hc⟩ := hfree _ h1 rfl
      have hc : X.env.cells.lookup y = some c1 := hc
      have e2 : c = c1 := by
        rw [h2, hc] <;> rfl
      rw [e2]
      exact hc
  have look : ∀ {y}, scope.names.lookup y = some .free → ∃ c, (cloFrom X.env.cells scope.names []).lookup y = some c := fun {y} hl => by
    have hy : (y, NameKind.free) ∈ scope.names := PySem.mem_of_lookup hl
    exact mem_lookup (cloFrom_has (cells := X.env.cells) (acc := []) hy)
  have cellK : ∀ {c : Addr} {v : Option Value}, H c = none → s.heap.IsCell c v → h₁.IsCell c v := fun {c v} n ⟨o, ho, hd⟩ => by
    obtain ⟨sl, q⟩ := un.any ho n (by simp)
    exact ⟨_, kp _ _ q, hd⟩
  have noA : ∀ b : Addr, b ∉ (lamCx1 X A outer s1 HZ E scope xp f c').ex := fun b z => absurd (show b ∈ ([] : List Addr) from z) (by simp)
  refine ⟨⟨e0.mod, L.kind, rfl, rfl, Nat.le_refl _, fun y z c e1 e2 => I.ok.inj y z c (cm e1) (cm e2), fun y hy => ?_, fun y c z _ => ?_, fun _ => hd, Around.frames_deeper e0.frames, .inr ⟨rfl, rfl⟩, fun b z => absurd z (noA b), e0.bs, e0.bsz, fun b _ _ => noA b,
      fun b z => absurd z (noA b), e0.funs, e0.frf⟩,
    rfl, e0.bare, Un.kept kp, ⟨_, hns, fun i y v' e1 e2 e3 => ?_⟩, fun y c e => ?_, e0.hok.fresh (Nat.le_refl _), fun y c e => ?_, fun q hq => absurd (show q ∈ ([] : List (Addr × Obj)) ++ [] from hq) (by simp), e0.hok.kept kp, ?_⟩
  · have hy : scope.names.lookup y = some .cell ∨ scope.names.lookup y = some .free := hy
    rcases hy with hy | hy
    · exact absurd rfl (L.own _ (PySem.mem_of_lookup hy)).1
    · exact look hy
  · have z : false = true := z
    cases z
  · have e3 : Vis scope y := e3
    have e1 : (X.N ++ [xp])[i]? = some y := e1
    have hlen := I.len
    by_cases hi : i < X.N.length
    · have e1' : X.N[i]? = some y := by rw [List.getElem?_append_left hi] at e1; exact e1
      have e2' : σ[i]? = some (some v') := by rw [List.getElem?_append_left (by omega)] at e2; exact e2
      have hyN : y ∈ X.N := List.mem_of_getElem? e1'
      rcases e3 with k | k | k
      · exact absurd ((L.own _ (PySem.mem_of_lookup k)).2 rfl ▸ hyN) hxn
      · exact absurd rfl (L.own _ (PySem.mem_of_lookup k)).1
      · obtain ⟨m, hn, hl⟩ := I.loc
        have hvis : Vis X.env.scope y := (L.free _ (PySem.mem_of_lookup k) rfl).elim (fun k => .inr (.inl k)) (fun k => .inr (.inr k))
        obtain ⟨w', r, q⟩ := hl i y v' e1' e2' hvis
        obtain ⟨c2, h2⟩ := look k
        refine ⟨w', r, .inr ⟨.inr k, c2, h2, ?_⟩⟩
        have c1 := cm h2
        rcases q with ⟨k', _⟩ | ⟨_, c3, e', z⟩
        · have k' : X.env.scope.names.lookup y = some .local := k'
          rcases L.free _ (PySem.mem_of_lookup k) rfl with k2 | k2 <;> rw [show X.env.scope.names.lookup y = _ from k2] at k' <;> cases k'
        · rw [c1] at e'
          cases e'
          exact cellK (I.freeC y _ c1) z
    · have ei : i = X.N.length := by
        have := (List.getElem?_eq_some_iff.mp e1).1
        rw [List.length_append] at this
        have h1 : i < X.N.length + 1 := this
        omega
      subst ei
      have ey : xp = y := by
        rw [List.getElem?_append_right (Nat.le_refl _), Nat.sub_self] at e1
        exact Option.some.inj e1
      have ev : v = v' := by
        rw [List.getElem?_append_right (by omega), hlen, Nat.sub_self] at e2
        exact Option.some.inj (Option.some.inj e2)
      subst ey ev
      refine ⟨u, rv, .inl ⟨L.par, ?_⟩⟩
      show ([(xp, u)] : List (Str × Value)).reverse.lookup xp = some u
      simp [List.lookup]
  · obtain ⟨w', z⟩ := I.cell y c (cm e)
    exact ⟨w', cellK (I.freeC y c (cm e)) z⟩
  · obtain ⟨v, o, ho, hd⟩ := I.cell y c (cm e)
    exact un.free c o ho (I.freeC y c (cm e)) (by simp)
  · show (σ ++ [some v]).length = (X.N ++ [xp]).length
    rw [List.length_append, List.length_append, I.len]; rfl
/-- x(e), in the def that got the lambda, entered at s -/
theorem pe_act1 {Ng : List Str} {qg : Str} {sg : Scope} {g f c' : Addr} {cdg pm ctv : Value} {params : Arguments} {body : Expr} {scope : Scope} {xp : Str} {k i : Nat} {a : Str} {tb te : TE} {p1 p2 : Pos} {e : Expr}
    (I : Inv X pins σ H s) (L : LamS1 X.env.scope scope xp) (hxn : xp ∉ X.N) (hf : s.heap.get? f = some (PySem.W.kla_obj "<lambda>" (X.env.qual ++ "<lambda>") params body scope (cloFrom X.env.cells scope.names []) pm c' ctv)) (hfn : H f = none) (hfr : f ∉ frs X.stack)
    (hbind : ∀ u, bindArgs (PySem.W.kla_fn "<lambda>" (X.env.qual ++ "<lambda>") params body scope (cloFrom X.env.cells scope.names []) pm (.ref c') ctv) ⟨[u], []⟩ = pure [(xp, u)])
    (hr : Room (k + 1) (X.A.deeper (envOfC qg sg s.heap.objs.size g cdg)))
    (hbody : ∀ (A : Around) (outer : List Env) (s : Shared) (H : Hp), Room k (A.deeper (lamEnv X scope s.heap.objs.size f c')) → PE (lamCx1 X A outer s H C8.E0 scope xp f c') body tb)
    (hN : Ng[i]? = some a) (hv : Vis sg a) (he : PE (cxOf C8.CX0 X.prog X.w X.K X.mg X.base Ng qg sg g cdg X.A X.stack s H C8.E0).nox e te)
    (hd : (a == ("__debug__" : Str)) = false := by decide) (hcd : (a == ("__classdict__" : Str)) = false := by decide)
    (hst : starEach [e] (envOfC qg sg s.heap.objs.size g cdg) = [(false, eval e (envOfC qg sg s.heap.objs.size g cdg))] := by rfl) :
    PE (cxOf C8.CX0 X.prog X.w X.K X.mg X.base Ng qg sg g cdg X.A X.stack s H C8.E0).nox (.Call (.Name a p1) [e] [] p2)
      (fun σZ HZ Q => σZ[i]? = some (some (.ref f)) ∧ te σZ HZ fun v H2 => H2 c' = some (CodeO c' (X.env.qual ++ "<lambda>")) ∧ tb (σ ++ [some v]) H2 Q) := by
  refine ⟨fun pinsZ sZ σZ HZ Q IZ h => ?_⟩
  obtain ⟨hs, ht⟩ := h
  refine wpAny_Call_Name_kw (thn ((pe_var (pos := p1) (i := i) hN hv hd hcd).run pinsZ sZ σZ HZ (fun v H1 => v = .ref f ∧ H1 = HZ) IZ ⟨.ref f, hs, rfl, rfl⟩) fun u s1 ⟨v, H1, I1, r1, q1⟩ => ?_)
  obtain ⟨ev, eH⟩ := q1
  subst ev
  rw [eH] at I1
  obtain rfl : u = Value.ref f := r1
  have there : ∀ {H2 : Hp} {s2 : Shared}, Inv (cxOf C8.CX0 X.prog X.w X.K X.mg X.base Ng qg sg g cdg X.A X.stack s H C8.E0).nox pinsZ σZ H2 s2 → s2.heap.get? f = some (PySem.W.kla_obj "<lambda>" (X.env.qual ++ "<lambda>") params body scope (cloFrom X.env.cells scope.names []) pm c' ctv) := fun I2 => I2.base.keep f _ hf hfn hfr (fun z => nomatch (show f ∈ ([] : List Addr) from z))
  have ht' : tCons te tNil σZ HZ (fun vs H2 => match vs with | [v] => H2 c' = some (CodeO c' (X.env.qual ++ "<lambda>")) ∧ tb (σ ++ [some v]) H2 Q | _ => False) := ht
  refine PySem.W.callWith_F (e := e) (rest := []) ⟨_, _, _, _, there I1⟩ (thn ((pa_cons he pa_nil (hs := hst)).run p2 pinsZ s1 σZ HZ _ I1 ht') fun us s2 ⟨vs, H2, I2, r2, q2⟩ => ⟨⟨_, _, _, _, there I2⟩, ?_⟩) hst (by rfl)
  cases r2 with
  | nil => exact False.elim q2
  | cons rv rn =>
  cases rn with
  | cons _ _ => exact False.elim q2
  | nil =>
    rename_i v u2 hAP
    obtain ⟨hc, ht2⟩ := q2
    have of1 := there I2
    have un : Un (frs X.stack) [] H H2 s.heap s2.heap := I2.base
    obtain ⟨⟨oc, vs', t, hoc, hdc, hvc⟩, _, _⟩ := I2.hok c' _ hc
    have rc : codeAny (model X.prog X.w) (X.A.deeper (envOfC qg sg s.heap.objs.size g cdg)) (.call (.ref f) ⟨[u2], []⟩) (CR (L2.CX X.prog X.w) (envOfC qg sg s.heap.objs.size g cdg :: X.stack) X.prog X.w H2 s2 Q C8.E0) s2 := by
      refine PySem.W.kla_callFunE hr.depth of1 rfl L.co L.gen rfl ⟨c', oc, vs', t, rfl, hoc, hdc, hvc⟩ ?_
      rw [hbind]
      refine wpAny_pure (wpAny_newFunctionEnv (fun y hy => (L.own y hy).1) (fun y hy => ?_) (fun h₁ hns hsb => ⟨I2.nolimit.fresh _ hsb, ?_⟩) L.kind)
      · rw [List.mem_singleton.mp hy]; exact L.par
      show codeAny _ _ (.expr body (lamEnv X scope s2.heap.objs.size f c')) _ _
      have kp : ∀ b o, s2.heap.get? b = some o → h₁.get? b = some o := fun b o e => hsb.extBut b o (Nat.ne_of_lt (Heap.lt_size e)) (Heap.get?_push_of_some _ e)
      have J : L2.Inv (lamCx1 X (X.A.deeper (envOfC qg sg s.heap.objs.size g cdg)) (envOfC qg sg s.heap.objs.size g cdg :: X.stack) s2 H2 C8.E0 scope xp f c') [] (σ ++ [some v]) H2 { s2 with heap := h₁, toks := s2.toks + ([(xp, u2)] : List (Str × Value)).length } :=
        lam_start1 I L hxn rv I2.env0 hr.hd un hns kp
      refine PySem.W.kla_codeExpr (wpAny_mono ((hbody _ _ s2 H2 (hr.deeper _)).run [] _ _ H2 Q J ht2) (fun v s' hq => ?_) fun e s' hq => hq)
      obtain ⟨w', H', J', rv, q⟩ := hq
      exact ⟨w', H', J'.os, J'.bare, J'.base, J'.hok, rv, q⟩
    refine wpAny_call (codeAny_mono rc fun r s' hq => ?_)
    cases r with
    | error e =>
      obtain ⟨_, _, _, _, _, _, _, _, _, _, _, _, z⟩ := hq
      exact z.elim
    | ok fl =>
      cases fl with
      | ret u => exact I2.after hq
      | next => exact False.elim hq
      | brk => exact False.elim hq
      | cont => exact False.elim hq
end
/-- the method that calls what it got as its last argument: TT, what it makes of the lambda's reading -/
def GivesM (kk : Nat) (X : Cx) (Ng : List Str) (qg : Str) (sg : Scope) (g : Addr) (cdg : Value) (bg : List Stmt) (i : Nat) (a : Str) (q : Str) (TT : V → V → (V → Hp → VK → Prop) → Hp → VK → Prop) : Prop :=
  ∀ (f c' : Addr) (s : Shared) (H : Hp) (Q : VK) (x y : V) (tl : V → Hp → VK → Prop), Room kk (X.A.deeper (envOfC qg sg s.heap.objs.size g cdg)) →
    (∀ (e : Expr) (te : TE) (p1 p2 : Pos), PE (cxOf C8.CX0 X.prog X.w X.K X.mg X.base Ng qg sg g cdg X.A X.stack s H C8.E0).nox e te → starEach [e] (envOfC qg sg s.heap.objs.size g cdg) = [(false, eval e (envOfC qg sg s.heap.objs.size g cdg))] →
      PE (cxOf C8.CX0 X.prog X.w X.K X.mg X.base Ng qg sg g cdg X.A X.stack s H C8.E0).nox (.Call (.Name a p1) [e] [] p2) (fun σZ HZ Q => σZ[i]? = some (some (.ref f)) ∧ te σZ HZ fun v H2 => H2 c' = some (CodeO c' q) ∧ tl v H2 Q)) →
    H c' = some (CodeO c' q) → TT x y tl H Q →
    ∃ t, PSs (cxOf C8.CX0 X.prog X.w X.K X.mg X.base Ng qg sg g cdg X.A X.stack s H C8.E0).nox bg t ∧ t { nx := fun _ H' => Q .non H', rt := Q } (L2.start Ng [x, y, .ref f]) H
def tMethLam (T : List (Addr × Str)) (C : Addr) (m : Str) (TT : V → V → (V → Hp → VK → Prop) → Hp → VK → Prop) (ta te tb : TE) : TE := fun σ H Q => ta σ H fun x H1 => ∃ a dx fs, x = .ref a ∧ H1 a = some (.ins C dx fs) ∧ fs.lookup m = none ∧
  te σ H1 fun y H2 => Tabs T H2 ∧ ∀ H3, ExtN H2 H3 → Tabs T H3 → TT x y (fun v H' Q' => tb (σ ++ [some v]) H' Q') H3 Q
section
variable {X : Cx}
/-- o.m(e, lambda xp: body) -/
theorem pe_methlam {T : List (Addr × Str)} {TT : V → V → (V → Hp → VK → Prop) → Hp → VK → Prop} {C g c P : Addr} {m xp a1 a2 a : Str} {k : Nat} {qg : Str} {pg : Arguments} {bg : List Stmt} {sg : Scope} {dV kV doc pm cdv ct oc : Value} {an od : Option Addr} {osl : Array (Option Value)} {Ng : List Str}
    {o e : Expr} {params : Arguments} {body : Expr} {scope : Scope} {ta te tb : TE} {apos lpos pos : Pos} {pl : Sem Bool} (ho : PE X o ta) (cC : Cls X.K C) (hm : Meth X.K C m g) (he : PE X e te)
    (lk : X.K.lookup g = some ⟨oc, od, .func (PySem.W.fnOf m qg pg bg sg dV kV doc pm an cdv ct), osl⟩) (hcg : PySem.W.codeIn X.K cdv qg = true) (hb : L2.Binds X.K (PySem.W.fnOf m qg pg bg sg dV kV doc pm an cdv ct) [a1, a2, a] []) (Sg : FnScope Ng [a1, a2, a] sg) (hNg : Ng[2]? = some a) (hva : Vis sg a)
    (hG : GivesM (k + 1) X Ng qg sg g cdv bg 2 a (X.env.qual ++ "<lambda>") TT)
    (TB : TabB X.base X.mg c P) (hcode : X.env.code = .ref c) (hmT : (P, X.env.qual ++ "<lambda>") ∈ T) (hu : ∀ p ∈ T, p.1 = P → p.2 = X.env.qual ++ "<lambda>") (hr : Room (k + 2) X.A) (L : LamS1 X.env.scope scope xp) (hxn : xp ∉ X.N) (hdef : defaultsOf params X.env = ([], []))
    (hbind : ∀ (q : Str) (cl : List (Str × Addr)) (pm cv ctv u : Value), bindArgs (PySem.W.kla_fn "<lambda>" q params body scope cl pm cv ctv) ⟨[u], []⟩ = pure [(xp, u)])
    (hbody : ∀ (A : Around) (outer : List Env) (s : Shared) (H : Hp) (f c' : Addr), Room k (A.deeper (lamEnv X scope s.heap.objs.size f c')) → PE (lamCx1 X A outer s H C8.E0 scope xp f c') body tb)
    (hd : (a == ("__debug__" : Str)) = false := by decide) (hcd : (a == ("__classdict__" : Str)) = false := by decide)
    (hst : starEach [e, .Lambda params body scope lpos] X.env = (false, eval e X.env) :: starEach [.Lambda params body scope lpos] X.env := by rfl) (hpl : (backTo pos (starEach [.Lambda params body scope lpos] X.env)).any (·.1) = false := by rfl)
    (ht : eval (.Call (.Attribute o m apos) [e, .Lambda params body scope lpos] [] pos) X.env = (do
      let ov ← eval o X.env
      standAt apos.atName
      let (f, first) ← holding [ov] (getMethod ov m pl)
      callWith pos f first (backTo pos (starEach [e, .Lambda params body scope lpos] X.env)) (backToKw pos (keywordEach [] X.env))) := by rfl) :
    PE X (.Call (.Attribute o m apos) [e, .Lambda params body scope lpos] [] pos) (tMethLam T C m TT ta te tb) := by
  refine ⟨fun pins s σ H Q I h => ?_⟩
  refine PySem.W.methodCall_KW (pl := pl) (thn (ho.run pins s σ H _ I h) fun u s1 ⟨x, H1, I1, rx, a0, dx, fs, ex, ea, l, q⟩ => ?_) ht
  subst ex
  obtain rfl : u = Value.ref a0 := rx
  refine getmeth_ok I1 ea cC hm l ?_
  refine PySem.W.callWith_K (first := [.ref a0]) (h₀ := X.base) I.ok.mod.kin hm.kp ?_ hst hpl
  rw [hst]
  refine Calls.spliced_cons (thn (he.run pins s1 σ H1 _ I1 q) fun u2 s2 ⟨y, H2, I2, ry, hT, q2⟩ => ?_)
  show wpAny _ _ (spliced ((false, eval (.Lambda params body scope lpos) X.env) :: backTo pos (starEach [] X.env))) _ _ s2
  refine Calls.spliced_cons (lam_make2 I2 TB hcode hmT hu hT hdef (L.has I.ok) fun f c' pm' ctv H3 s' I3 eN T1 hf hfn hfr hco => ?_)
  refine Calls.spliced_nil ⟨I3.kIn, ?_⟩
  have rc : codeAny (model X.prog X.w) X.A (.call (.ref g) ⟨[.ref a0, u2, .ref f], []⟩) (CR C8.CX0 X.stack X.prog X.w H3 s' Q C8.E0) s' := by
    refine run_ofS (N := Ng) (ps := [a1, a2, a]) (us := [.ref a0, u2, .ref f]) (vs := [.ref a0, y, .ref f]) lk hcg Sg hr I3.env0 (hb s' [.ref a0, u2, .ref f] I3.kIn rfl) (.cons rfl (.cons ry (.cons rfl .nil))) rfl fun hr' => ?_
    obtain ⟨t', ht', hq'⟩ := hG f c' s' H3 Q (.ref a0) y (fun v H' Q' => tb (σ ++ [some v]) H' Q') hr' (fun e te p1 p2 he' hst' => pe_act1 (i := 2) I3 L hxn hf hfn hfr (fun u => hbind _ _ _ _ _ u) hr' (fun A outer s H hr2 => hbody A outer s H f c' hr2) hNg hva he' hd hcd hst') hco (q2 H3 eN T1)
    exact ⟨t', ht'.nox, hq'⟩
  refine wpAny_call (codeAny_mono rc fun r s2 hq => ?_)
  cases r with
  | error e => exact (show False from hq).elim
  | ok fl =>
    cases fl with
    | ret u => exact I3.after hq
    | next => exact False.elim hq
    | brk => exact False.elim hq
    | cont => exact False.elim hq
end
end LamY


set_option Elab.async false
set_option linter.all false
set_option maxRecDepth 100000
set_option maxHeartbeats 2000000
namespace K1
open PySem PySem.Spec PyProof.Rows L2 RZ
/-- what is never reached -/
theorem pss_any {X : Cx} {b : List Stmt} : PSs X b (fun _ _ _ => False) := ⟨fun _ _ _ _ _ _ h => h.elim⟩
structure Bk (mg : Str → Option Value) : Prop extends Bj mg where
  set : mg "set" = none
  dict : mg "dict" = none
structure Cs (mg : Str → Option Value) : Prop where
  MOST_SIGNS : ∃ t, mg "MOST_SIGNS" = some (.int 6 t)
  LONGEST_SIGN : ∃ t, mg "LONGEST_SIGN" = some (.int 8 t)
abbrev sIsInt : Stmt := st_is_integer
abbrev sIsNum : Stmt := st_is_number
abbrev sIsBody : Stmt := st_is_body
abbrev sIsSign : Stmt := st_is_sign
abbrev sIsSigns : Stmt := st_is_signs
abbrev sIsNums : Stmt := st_is_numbers
abbrev nV : List Str := ["value"]
abbrev pV : List Str := ["value"]
theorem scIsInt : FnScope nV pV (defScope sIsInt) := ⟨rfl, rfl, rfl, by decide +kernel, rfl, by decide +kernel, by decide +kernel⟩
theorem scIsNum : FnScope nV pV (defScope sIsNum) := ⟨rfl, rfl, rfl, by decide +kernel, rfl, by decide +kernel, by decide +kernel⟩
theorem scIsBody : FnScope nV pV (defScope sIsBody) := ⟨rfl, rfl, rfl, by decide +kernel, rfl, by decide +kernel, by decide +kernel⟩
abbrev nIsSign : List Str := ["value", "letter"]
theorem scIsSign : FnScope nIsSign pV (defScope sIsSign) := ⟨rfl, rfl, rfl, by decide +kernel, rfl, by decide +kernel, by decide +kernel⟩
abbrev nIsSigns : List Str := ["value", "ahead", "sign"]
theorem scIsSigns : FnScope nIsSigns pV (defScope sIsSigns) := ⟨rfl, rfl, rfl, by decide +kernel, rfl, by decide +kernel, by decide +kernel⟩
abbrev nIsNums : List Str := ["value", "number"]
theorem scIsNums : FnScope nIsNums pV (defScope sIsNums) := ⟨rfl, rfl, rfl, by decide +kernel, rfl, by decide +kernel, by decide +kernel⟩
/-! ### signs -/
def inAZ (c : Nat) : Bool := (!decide ([c] < ("a" : Str).cps.toList)) && !decide (("z" : Str).cps.toList < [c])
def okS (s : Str) : Bool := decide (1 ≤ s.length) && decide (s.length ≤ 8) && s.cps.toList.all inAZ
def goSs : Str → List Str → Bool
  | _, [] => true
  | a, s :: r => okS s && decide (a.cps.toList < s.cps.toList) && goSs s r
def okSs (ss : List Str) : Bool := decide (ss.length ≤ 6) && goSs "" ss
def spInt : Sp := fun vs H Q _ => ∃ n : Int, vs = [.int n] ∧ Q (.bl true) H
def spNum : Sp := fun vs H Q _ => ∃ n : Int, vs = [.int n] ∧ 1 ≤ n ∧ Q (.bl true) H
def spBody : Sp := fun vs H Q _ => ∃ n : Int, vs = [.int n] ∧ 0 ≤ n ∧ Q (.bl true) H
def spSign : Sp := fun vs H Q _ => ∃ s : Str, vs = [.str s] ∧ okS s = true ∧ ∀ H', Same H H' → Q (.bl true) H'
def spSigns : Sp := fun vs H Q _ => ∃ (a : Addr) (ss : List Str), vs = [.ref a] ∧ H a = some (.tup (ss.map V.str)) ∧ okSs ss = true ∧ ∀ H', Same H H' → Q (.bl true) H'
def spNums : Sp := fun vs H Q _ => ∃ (a : Addr) (ns : List Int), vs = [.ref a] ∧ SeqH H a (ns.map V.int) ∧ (∀ n ∈ ns, 1 ≤ n) ∧ ns.length ≤ 1000 ∧ ∀ H', Same H H' → Q (.bl true) H'
section
variable {P : Program} {w : World} {K : PySem.W.Frag} {mg : Str → Option Value} {base : Heap}
theorem ok_isInt {f : Addr} {fd : FuncData} (T : Bk mg) (F : Fun K "is_integer" "is_integer" sIsInt f fd) : FnOk P w K mg base CX0 1 f fd pV spInt := by
  refine F.ok scIsInt (fun vs H Q E h => ?_) (fun cdv A outer s H vs Q E hr h => ?_)
  · obtain ⟨n, rfl, _⟩ := h
    rfl
  · obtain ⟨n, rfl, q⟩ := h
    refine ⟨_, (pss_one (ps_ret (pe_and (pe_callB (call_isiK1 (K := K) rfl) (by rfl) T.isinstance PyProof.Rows.boot_isinstance (pa_cons (pv 0) (pa_cons (pe_bltn (v := .ty "int") rfl T.int PyProof.Rows.boot_int rfl) pa_nil))) (pe_one (pe_not (pe_callB (call_isiK1 (K := K) rfl) (by rfl) T.isinstance PyProof.Rows.boot_isinstance (pa_cons (pv 0) (pa_cons (pe_bltn (v := .ty "bool") rfl T.bool PyProof.Rows.boot_bool rfl) pa_nil)))))))), ?_⟩
    exact ⟨_, rfl, .int n, .ty "int", .type "int", .type "int", true, rfl, .ty _, .base (.int n), kit_ty (by decide +kernel), _, rfl, itbT rfl ⟨_, rfl, .int n, .ty "bool", .type "int", .type "bool", false, rfl, .ty _, .base (.int n), kit_ty (by decide +kernel), _, rfl, q⟩⟩
theorem ok_isNum {f : Addr} {fd : FuncData} (D_is_integer : Def P w K mg base CX0 1 "is_integer" pV spInt) (F : Fun K "is_number" "is_number" sIsNum f fd) : FnOk P w K mg base CX0 2 f fd pV spNum := by
  refine F.ok scIsNum (fun vs H Q E h => ?_) (fun cdv A outer s H vs Q E hr h => ?_)
  · obtain ⟨n, rfl, _⟩ := h
    rfl
  · obtain ⟨n, rfl, h1, q⟩ := h
    refine ⟨_, (pss_one (ps_ret (pe_and (pe_def D_is_integer (hr.mono (by decide)) rfl pass0 (pa_cons (pv 0) pa_nil)) (pe_one (pe_cmpR op_ge (pv 0) pe_int (nomark _)))))), ?_⟩
    refine ⟨_, rfl, n, rfl, _, rfl, itbT rfl ⟨_, rfl, _, _, rfl, rfl, ?_⟩⟩
    show Q (.bl (decide (1 ≤ n))) H
    rw [decide_eq_true h1]; exact q
theorem ok_isBody {f : Addr} {fd : FuncData} (D_is_integer : Def P w K mg base CX0 1 "is_integer" pV spInt) (F : Fun K "is_body" "is_body" sIsBody f fd) : FnOk P w K mg base CX0 2 f fd pV spBody := by
  refine F.ok scIsBody (fun vs H Q E h => ?_) (fun cdv A outer s H vs Q E hr h => ?_)
  · obtain ⟨n, rfl, _⟩ := h
    rfl
  · obtain ⟨n, rfl, h1, q⟩ := h
    refine ⟨_, (pss_one (ps_ret (pe_and (pe_def D_is_integer (hr.mono (by decide)) rfl pass0 (pa_cons (pv 0) pa_nil)) (pe_one (pe_cmpR op_ge (pv 0) pe_int (nomark _)))))), ?_⟩
    refine ⟨_, rfl, n, rfl, _, rfl, itbT rfl ⟨_, rfl, _, _, rfl, rfl, ?_⟩⟩
    show Q (.bl (decide (0 ≤ n))) H
    rw [decide_eq_true h1]; exact q
theorem ok_isSign {f : Addr} {fd : FuncData} (T : Bk mg) (C : Cs mg) (F : Fun K "is_sign" "is_sign" sIsSign f fd) : FnOk P w K mg base CX0 1 f fd pV spSign := by
  have nd := scIsSign.nd
  refine F.ok scIsSign (fun vs H Q E h => ?_) (fun cdv A outer s H vs Q E hr h => ?_)
  · obtain ⟨z, rfl, _⟩ := h
    rfl
  · obtain ⟨z, rfl, hz, q⟩ := h
    refine ⟨_, (pss_cons (ps_if (PW.pt (pw_or (pt_not (pt_val (pe_callB (call_isiK1 (K := K) rfl) (by rfl) T.isinstance PyProof.Rows.boot_isinstance (pa_cons (pv 0) (pa_cons (pe_bltn (v := .ty "str") rfl T.str PyProof.Rows.boot_str rfl) pa_nil))))) (pw_or1 (pt_not (pt_chain op_le op_le pe_int (pe_callB call_len_str (by rfl) T.len PySem.boot_len (pa_cons (pv 0) pa_nil)) (pe_const C.LONGEST_SIGN rfl))))))
  (pss_one (ps_ret pe_bl))
  pss_nil)
 (pss_one (ps_ret (pe_callB (cr_allK (K := K) rfl rfl) (by rfl) T.all PyProof.Rows.boot_all (pa_cons (pe_lc (own := [("letter", 1)]) (g := gName 1) (tt := tYes) rfl nd (pi_str (pv 0)) (blkOk_by (own := [("letter", 1)]) (N := nIsSign) (sc := defScope sIsSign) (by decide +kernel)) (fun _ _ _ _ _ => pg_name (i := 1) nd rfl (Or.inl rfl)) (fun _ _ _ _ _ => pts_nil) (fun _ _ _ _ _ => (pe_chain op_le_str op_le_str pe_str (pv 1) pe_str))) pa_nil))))), ?_⟩
    unfold okS at hz
    rw [Bool.and_eq_true, Bool.and_eq_true] at hz
    obtain ⟨⟨z1, z2⟩, z3⟩ := hz
    have z1 := of_decide_eq_true z1
    have z2 := of_decide_eq_true z2
    refine ⟨_, rfl, .str z, .ty "str", .type "str", .type "str", true, rfl, .ty _, .base (.str z), kit_ty (by decide +kernel), _, rfl, itbF rfl ?_⟩
    refine ⟨_, rfl, z, rfl, lt1 _ (by omega), _, _, rfl, rfl, _, rfl, itbT (decide_eq_true (show (1 : Int) ≤ z.length by omega)) ⟨_, _, rfl, rfl, _, rfl, itbF (by rw [decide_eq_true (show (z.length : Int) ≤ 8 by omega)]; rfl) ?_⟩⟩
    refine ⟨_, rfl, z, rfl, fun D hD => ?_⟩
    refine lc_it walk_str (fun i H2 => Same H H2 ∧ H2 D = some (.lst ((List.replicate i true).map V.bl))) ⟨same_new hD, upd_same⟩ (fun _ _ _ _ => True.intro) ?_ ?_
    · rintro i x H2 H3 hi ⟨s2, h2⟩ ⟨rfl, c, hc, rfl⟩
      have hcm : c ∈ z.cps.toList := Array.mem_toList_iff.mpr (Array.mem_of_getElem? hc)
      have haz := List.all_eq_true.mp z3 c hcm
      unfold inAZ at haz
      rw [Bool.and_eq_true] at haz
      have hi8 : i < z.length := hi
      have fin : ∃ acc, H3 D = some (.lst acc) ∧ acc.length < sizeLine ∧ (Same H (upd H3 D (.lst (acc ++ [V.bl true]))) ∧ (upd H3 D (.lst (acc ++ [V.bl true]))) D = some (.lst ((List.replicate (i + 1) true).map V.bl))) :=
        ⟨_, h2, lt2 _ (by rw [List.length_map, List.length_replicate]; omega), s2.mut hD, by rw [upd_same, List.replicate_succ', List.map_append]; rfl⟩
      refine ⟨rfl, tyes ⟨_, rfl, _, _, rfl, rfl, _, rfl, ?_⟩⟩
      refine itbT haz.1 ⟨_, _, rfl, rfl, ?_⟩
      rw [haz.2]
      exact fin
    · rintro H2 ⟨s2, h2⟩
      exact ⟨D, _, rfl, sq h2, by show Q (.bl ((List.replicate z.cps.size true).all id)) H2; rw [show (List.replicate z.cps.size true).all id = true by simp]; exact q _ s2⟩
theorem ok_isSigns {f : Addr} {fd : FuncData} (T : Bk mg) (C : Cs mg) (D_is_sign : Def P w K mg base CX0 1 "is_sign" pV spSign) (F : Fun K "is_signs" "is_signs" sIsSigns f fd) : FnOk P w K mg base CX0 2 f fd pV spSigns := by
  have nd := scIsSigns.nd
  refine F.ok scIsSigns (fun vs H Q E h => ?_) (fun cdv A outer s H vs Q E hr h => ?_)
  · obtain ⟨a, ss, rfl, _⟩ := h
    rfl
  · obtain ⟨a, ss, rfl, ha, ho, q⟩ := h
    refine ⟨_, (pss_cons (ps_if (PW.pt (pw_or (pt_not (pt_val (pe_callB (call_isiK1 (K := K) rfl) (by rfl) T.isinstance PyProof.Rows.boot_isinstance (pa_cons (pv 0) (pa_cons (pe_bltn (v := .ty "tuple") rfl T.tuple PyProof.Rows.boot_tuple rfl) pa_nil))))) (pw_or1 (pt_cmpR op_gt (pe_callB (call_lenK (K := K) rfl) (by rfl) T.len PySem.boot_len (pa_cons (pv 0) pa_nil)) (pe_const C.MOST_SIGNS rfl) (nomark _)))))
  (pss_one (ps_ret pe_bl))
  pss_nil)
 (pss_cons (ps_set (i := 1) nd rfl (Or.inl rfl) pe_str)
 (pss_cons (ps_for PassesOwn.never rfl (pi_tupK (K := K) rfl (pv 0)) (pg_name (i := 2) nd rfl (Or.inl rfl))
  (pss_cons (ps_if (PW.pt (pw_or (pt_not (pt_val (pe_def D_is_sign (hr.mono (by decide)) rfl pass0 (pa_cons (pv 2) pa_nil)))) (pw_or1 (pt_cmpR op_le_str (pv 2) (pv 1) (nomark _)))))
  (pss_one (ps_ret pe_bl))
  pss_nil)
 (pss_one (ps_set (i := 1) nd rfl (Or.inl rfl) (pv 2)))))
 (pss_one (ps_ret pe_bl))))), ?_⟩
    unfold okSs at ho
    rw [Bool.and_eq_true] at ho
    have h6 := of_decide_eq_true ho.1
    refine ⟨_, rfl, .ref a, .ty "tuple", .type "tuple", .type "tuple", true, rfl, .ty _, .base (.tup ha), kit_ty (by decide +kernel), _, rfl, itbF rfl ?_⟩
    refine ⟨_, rfl, a, _, rfl, .inr (st ha), _, _, rfl, rfl, _, rfl, itbF (decide_eq_false (by rw [List.length_map]; omega)) ?_⟩
    refine ⟨_, rfl, a, rfl, ⟨_, st ha⟩, for_tup (K := K) (a := a) (xs := ss.map V.str) (fun i σ H1 => ∃ ah v2, σ = [some (.ref a), some (.str ah), v2] ∧ Same H H1 ∧ goSs ah (ss.drop i) = true) ?_ ?_ ?_ ?_⟩
    · exact ⟨"", none, rfl, fun _ _ h => h, ho.2⟩
    · rintro i σ H1 _ ⟨ah, v2, rfl, s1, _⟩
      exact st (s1 _ _ ha)
    · rintro i y σ H1 hy ⟨ah, v2, rfl, s1, hg⟩
      rw [List.getElem?_map] at hy
      cases he : ss[i]? with
      | none => rw [he] at hy; cases hy
      | some z =>
        rw [he] at hy
        obtain rfl := (Option.some.inj hy).symm
        have hi := lt_of_get he
        have e1 : ss.drop i = z :: ss.drop (i + 1) := by
          rw [List.drop_eq_getElem_cons hi]
          congr 1
          rw [List.getElem?_eq_getElem hi] at he
          exact Option.some.inj he
        rw [e1] at hg
        have hg' : (okS z && decide (ah.cps.toList < z.cps.toList) && goSs z (ss.drop (i + 1))) = true := hg
        rw [Bool.and_eq_true, Bool.and_eq_true] at hg'
        refine ⟨_, rfl, z, rfl, hg'.1.1, fun H2 s2 => ⟨_, rfl, itbF rfl ⟨_, rfl, _, rfl, _, _, rfl, rfl, _, rfl, itbF ?_ ⟨_, rfl, z, _, rfl, s1.trans s2, hg'.2⟩⟩⟩⟩
        rw [hg'.1.2]; rfl
    · rintro σ H1 ⟨ah, v2, rfl, s1, _⟩
      exact q _ s1
theorem ok_isNums {f : Addr} {fd : FuncData} (T : Bk mg) (D_is_number : Def P w K mg base CX0 2 "is_number" pV spNum) (F : Fun K "is_numbers" "is_numbers" sIsNums f fd) : FnOk P w K mg base CX0 3 f fd pV spNums := by
  have nd := scIsNums.nd
  refine F.ok scIsNums (fun vs H Q E h => ?_) (fun cdv A outer s H vs Q E hr h => ?_)
  · obtain ⟨a, ns, rfl, _⟩ := h
    rfl
  · obtain ⟨a, ns, rfl, ha, h1, hl, q⟩ := h
    refine ⟨_, (pss_one (ps_ret (pe_and (pe_callB (call_isiTK (K := K) rfl) (by rfl) T.isinstance PyProof.Rows.boot_isinstance (pa_cons (pv 0) (pa_cons (pe_tup (pa_cons (pe_bltn (v := .ty "list") rfl T.list PyProof.Rows.boot_list rfl) (pa_cons (pe_bltn (v := .ty "tuple") rfl T.tuple PyProof.Rows.boot_tuple rfl) pa_nil))) pa_nil))) (pe_one (pe_callB (cr_allK (K := K) rfl rfl) (by rfl) T.all PyProof.Rows.boot_all (pa_cons (pe_lc (own := [("number", 1)]) (g := gName 1) (tt := tYes) rfl nd (pi_seqK (K := K) rfl (pv 0)) (blkOk_by (own := [("number", 1)]) (N := nIsNums) (sc := defScope sIsNums) (by decide +kernel)) (fun _ _ _ _ _ => pg_name (i := 1) nd rfl (Or.inl rfl)) (fun _ _ _ _ _ => pts_nil) (fun _ _ _ _ _ => (pe_def D_is_number (hr.mono (by decide)) rfl pass0 (pa_cons (pv 1) pa_nil)))) pa_nil)))))), ?_⟩
    refine ⟨_, rfl, (by show 2 ≤ sizeLine; decide), fun tp ntp => ?_⟩
    have s1 := same_new (o := .tup [.ty "list", .ty "tuple"]) ntp
    obtain ⟨tn, ty, kt⟩ : ∃ tn : String, TyX K (upd H tp (.tup [.ty "list", .ty "tuple"])) (.ref a) (.type tn) ∧ PySem.W.kitAny K (.type tn) [.type "list", .type "tuple"] = some true := by
      rcases ha.same s1 with h | h
      · exact ⟨"list", .base (.lst h), kit_seq (.list [])⟩
      · exact ⟨"tuple", .base (.tup h), kit_seq (.tuple [])⟩
    refine ⟨.ref a, tp, [.ty "list", .ty "tuple"], .type tn, [.type "list", .type "tuple"], true, rfl, upd_same, .cons (.ty _) (.cons (.ty _) .nil), ty, kt, _, rfl, itbT rfl ?_⟩
    refine ⟨_, rfl, a, rfl, seq_walk (ha.same s1) fun J Gd wk hG D hD => ?_⟩
    generalize upd H tp (.tup [.ty "list", .ty "tuple"]) = H1 at s1 hD hG
    refine lc_it wk (fun i H2 => Same H1 H2 ∧ H2 D = some (.lst ((List.replicate i true).map V.bl)) ∧ i ≤ ns.length) ⟨same_new hD, upd_same, Nat.zero_le _⟩ (fun i H2 _ h => hG _ h.1) ?_ ?_
    · rintro i y H2 H3 hi ⟨s2, h2, hi2⟩ ⟨rfl, hy⟩
      obtain ⟨n, hn, rfl⟩ := getD_map hy
      exact ⟨rfl, tyes ⟨_, rfl, n, rfl, h1 n (List.mem_of_getElem? hn), _, h2, lt2 _ (by rw [List.length_map, List.length_replicate]; omega), s2.mut hD, by rw [upd_same, List.replicate_succ', List.map_append]; rfl, lt_of_get hn⟩⟩
    · rintro H2 ⟨s2, h2, _⟩
      exact ⟨D, _, rfl, sq h2, by show Q (.bl ((List.replicate (ns.map V.int).length true).all id)) H2; rw [show (List.replicate (ns.map V.int).length true).all id = true by simp]; exact q _ (s1.trans s2)⟩
end
end K1


set_option Elab.async false
set_option linter.all false
set_option maxRecDepth 100000
set_option maxHeartbeats 2000000
namespace K1
open PySem PySem.Spec PyProof.Rows L2 RZ StX
theorem eqv_str (a b : Str) : PyData.eqv (.str a) (.str b) = (a == b) := by simp [PyData.eqv]
def nS (ss : List Str) (s : Str) : List Str := ss.filter fun x => !decide (x = s)
/-! ### signs -/
def ltS (a b : Str) : Prop := a.cps.toList < b.cps.toList
theorem ltS_trans {a b c : Str} (h : ltS a b) (k : ltS b c) : ltS a c := List.lt_trans (α := Nat) h k
theorem ltS_asymm {a b : Str} (h : ltS a b) : ¬ ltS b a := List.lt_asymm (α := Nat) h
theorem str_ext {a b : Str} (h : a.cps.toList = b.cps.toList) : a = b := by
  cases a with | mk x =>
  cases b with | mk y =>
  congr 1
  exact Array.toList_inj.mp h
theorem ltS_total {a b : Str} (h : ¬ ltS a b) (k : ¬ ltS b a) : a = b := str_ext (List.le_antisymm (List.not_lt.mp k) (List.not_lt.mp h))
theorem leS_trans {a b c : Str} (h : ¬ ltS b a) (k : ¬ ltS c b) : ¬ ltS c a := by
  unfold ltS at *
  rw [List.not_lt] at *
  exact List.le_trans h k
instance (a b : Str) : Decidable (ltS a b) := inferInstanceAs (Decidable (a.cps.toList < b.cps.toList))
def Asc (ss : List Str) : Prop := ss.Pairwise ltS
def insS (s : Str) : List Str → List Str
  | [] => [s]
  | x :: r => if ltS s x then s :: x :: r else x :: insS s r
theorem insS_perm (s : Str) : ∀ ss : List Str, (insS s ss).Perm (s :: ss)
  | [] => .refl _
  | x :: r => by
    unfold insS
    split
    · exact .refl _
    · exact ((insS_perm s r).cons x).trans (.swap s x r)
theorem insS_asc {s : Str} : ∀ {ss : List Str}, Asc ss → s ∉ ss → Asc (insS s ss)
  | [], _, _ => List.pairwise_singleton _ _
  | x :: r, h, hn => by
    unfold insS
    have h' := List.pairwise_cons.mp h
    split
    · rename_i c
      refine List.pairwise_cons.mpr ⟨fun y hy => ?_, h⟩
      rcases List.mem_cons.mp hy with rfl | hy
      · exact c
      · exact ltS_trans c (h'.1 y hy)
    · rename_i c
      refine List.pairwise_cons.mpr ⟨fun y hy => ?_, insS_asc h'.2 fun z => hn (List.mem_cons_of_mem _ z)⟩
      rcases List.mem_cons.mp ((insS_perm s r).mem_iff.mp hy) with rfl | hy
      · by_cases k : ltS x y
        · exact k
        · exact absurd (ltS_total k c) fun e => hn (by rw [e]; exact List.mem_cons_self)
      · exact h'.1 y hy
theorem rising_pw : ∀ (r : List Str) (x : Str), risingS x r = true → (x :: r).Pairwise fun a b => ¬ ltS b a
  | [], x, _ => List.pairwise_singleton _ _
  | y :: r, x, h => by
    have h : (!ltCps y.cps.toList x.cps.toList && risingS y r) = true := h
    rw [ltCps_eq, Bool.and_eq_true, Bool.not_eq_true', decide_eq_false_iff_not] at h
    have ih := rising_pw r y h.2
    refine List.pairwise_cons.mpr ⟨fun z hz => ?_, ih⟩
    rcases List.mem_cons.mp hz with rfl | hz
    · exact h.1
    · exact leS_trans h.1 ((List.pairwise_cons.mp ih).1 z hz)
theorem sorted_pw {ys : List Str} (h : sortedS ys = true) : ys.Pairwise fun a b => ¬ ltS b a := by
  cases ys with
  | nil => exact .nil
  | cons x r => exact rising_pw r x h
/-- what sorted tells of signs and a new one -/
theorem sorted_ins {ss ys : List Str} {s : Str} (ha : Asc ss) (hn : s ∉ ss) (hp : ys.Perm (ss ++ [s])) (h : sortedS ys = true) : ys = insS s ss := by
  have p2 : ys.Perm (insS s ss) := (hp.trans List.perm_append_comm).trans (insS_perm s ss).symm
  refine List.Perm.eq_of_pairwise (le := fun a b => decide (¬ ltS b a)) (fun a b _ _ x y => ?_) ?_ ?_ p2
  · exact ltS_total (of_decide_eq_true y) (of_decide_eq_true x)
  · exact (sorted_pw h).imp fun k => decide_eq_true k
  · exact (insS_asc ha hn).imp fun k => decide_eq_true (ltS_asymm k)
/-! what okSs says -/
theorem goSs_mem : ∀ {a : Str} {ss : List Str}, goSs a ss = true → (∀ s ∈ ss, okS s = true ∧ ltS a s) ∧ Asc ss
  | a, [], _ => ⟨fun s hs => (by cases hs), List.Pairwise.nil⟩
  | a, s :: r, h => by
    have h : (okS s && decide (ltS a s) && goSs s r) = true := h
    rw [Bool.and_eq_true, Bool.and_eq_true] at h
    obtain ⟨h1, h2⟩ := goSs_mem h.2
    have lt := of_decide_eq_true h.1.2
    refine ⟨fun x hx => ?_, List.pairwise_cons.mpr ⟨fun x hx => (h1 x hx).2, h2⟩⟩
    rcases List.mem_cons.mp hx with rfl | hx
    · exact ⟨h.1.1, lt⟩
    · exact ⟨(h1 x hx).1, ltS_trans lt (h1 x hx).2⟩
theorem goSs_of : ∀ {a : Str} {ss : List Str}, (∀ s ∈ ss, okS s = true ∧ ltS a s) → Asc ss → goSs a ss = true
  | a, [], _, _ => rfl
  | a, s :: r, h, k => by
    have h0 := h s List.mem_cons_self
    have k' := List.pairwise_cons.mp k
    show (okS s && decide (ltS a s) && goSs s r) = true
    rw [h0.1, decide_eq_true h0.2, goSs_of (fun x hx => ⟨(h x (List.mem_cons_of_mem _ hx)).1, k'.1 x hx⟩) k'.2]
    rfl
theorem okS_pos {s : Str} (h : okS s = true) : ltS "" s := by
  unfold okS at h
  rw [Bool.and_eq_true, Bool.and_eq_true] at h
  have h1 := of_decide_eq_true h.1.1
  show ([] : List Nat) < s.cps.toList
  cases e : s.cps.toList with
  | nil =>
    exfalso
    have : s.length = 0 := by
      show s.cps.size = 0
      rw [← Array.length_toList, e]; rfl
    omega
  | cons c r => exact List.nil_lt_cons c r
structure OkSs (ss : List Str) : Prop where
  len : ss.length ≤ 6
  ok : ∀ s ∈ ss, okS s = true
  asc : Asc ss
theorem okSs_iff {ss : List Str} : okSs ss = true ↔ OkSs ss := by
  unfold okSs
  rw [Bool.and_eq_true]
  constructor
  · rintro ⟨h1, h2⟩
    obtain ⟨a, b⟩ := goSs_mem h2
    exact ⟨of_decide_eq_true h1, fun s hs => (a s hs).1, b⟩
  · rintro ⟨h1, h2, h3⟩
    exact ⟨decide_eq_true h1, goSs_of (fun s hs => ⟨h2 s hs, okS_pos (h2 s hs)⟩) h3⟩
def wG (ss : List Str) (s : Str) : List Str := if s ∈ ss ∨ ss.length = 6 then ss else insS s ss
theorem wG_ok {ss : List Str} {s : Str} (h : OkSs ss) (hs : okS s = true) : OkSs (wG ss s) := by
  unfold wG
  split
  · exact h
  · rename_i c
    have c1 : s ∉ ss := fun z => c (.inl z)
    have c2 : ss.length ≠ 6 := fun z => c (.inr z)
    have p := insS_perm s ss
    refine ⟨by rw [p.length_eq]; have := h.len; simp only [List.length_cons]; omega, fun x hx => ?_, insS_asc h.asc c1⟩
    rcases List.mem_cons.mp (p.mem_iff.mp hx) with rfl | hx
    · exact hs
    · exact h.ok x hx
theorem nS_ok {ss : List Str} {s : Str} (h : OkSs ss) : OkSs (nS ss s) :=
  ⟨Nat.le_trans (List.length_filter_le _ _) h.len, fun x hx => h.ok x (List.mem_filter.mp hx).1, List.Pairwise.filter _ h.asc⟩
theorem strOk_of {s : Str} (h : okS s = true) : PyData.strOk s = true := by
  unfold okS at h
  rw [Bool.and_eq_true] at h
  show s.cps.all (fun c => decide (c < 1114112)) = true
  rw [← Array.all_toList, List.all_eq_true]
  intro c hc
  have := List.all_eq_true.mp h.2 c hc
  unfold inAZ at this
  rw [Bool.and_eq_true, Bool.not_eq_true', Bool.not_eq_true', decide_eq_false_iff_not, decide_eq_false_iff_not] at this
  refine decide_eq_true ?_
  have h2 : ¬ (122 < c) := fun z => this.2 (show ([122] : List Nat) < [c] from List.cons_lt_cons_iff.mpr (.inl z))
  omega
theorem g_lay : ∀ {ss : List Str}, (∀ s ∈ ss, okS s = true) → PyData.canLayAll0 (ss.map PyData.str) = true ∧ PyData.depthAll (ss.map PyData.str) = 0
  | [], _ => ⟨rfl, rfl⟩
  | s :: r, h => by
    obtain ⟨h1, h2⟩ := g_lay fun x hx => h x (List.mem_cons_of_mem _ hx)
    constructor
    · show (PyData.strOk s && PyData.canLayAll0 (r.map PyData.str)) = true
      rw [h1, strOk_of (h s List.mem_cons_self)]; rfl
    · show max 0 (PyData.depthAll (r.map PyData.str)) = 0
      rw [h2]; rfl
theorem g_shape {ss : List Str} (h : ∀ s ∈ ss, okS s = true) : SeqAt.shaped (.tuple (ss.map PyData.str)) = true := by
  obtain ⟨h1, h2⟩ := g_lay h
  unfold SeqAt.shaped
  have e1 : PyData.canLay0 (.tuple (ss.map PyData.str)) = true := h1
  have e2 : PyData.depth (.tuple (ss.map PyData.str)) ≤ 64 := by
    show PyData.depthAll (ss.map PyData.str) + 1 ≤ 64
    rw [h2]; omega
  rw [e1, decide_eq_true e2]; rfl
theorem g_eqv : ∀ xs ys : List Str, PyData.eqv (.tuple (xs.map PyData.str)) (.tuple (ys.map PyData.str)) = decide (xs = ys) := by
  have h : ∀ xs ys : List Str, PyData.eqvAll (xs.map PyData.str) (ys.map PyData.str) = decide (xs = ys) := by
    intro xs
    induction xs with
    | nil => intro ys; cases ys <;> simp [PyData.eqvAll]
    | cons x r ih =>
      intro ys
      cases ys with
      | nil => simp [PyData.eqvAll]
      | cons y t =>
        show (PyData.eqv (.str x) (.str y) && PyData.eqvAll (r.map PyData.str) (t.map PyData.str)) = decide (x :: r = y :: t)
        rw [ih, eqv_str]
        by_cases e : x = y
        · subst e; by_cases e2 : r = t <;> simp [e2]
        · rw [beq_eq_false_iff_ne.mpr e]; simp [e]
  intro xs ys
  exact h xs ys
end K1


set_option Elab.async false
set_option linter.all false
set_option maxRecDepth 100000
set_option maxHeartbeats 2000000
/-! Sets of ints made of a list or a tuple; x in a tuple of data; max with a default. -/
namespace K1
open PySem PySem.Spec PyProof.Rows L2 RZ StX
abbrev sCkNums : Stmt := st__check_numbers
abbrev nCkNums : List Str := ["numbers"]
theorem scCkNums : FnScope nCkNums nCkNums (defScope sCkNums) := ⟨rfl, rfl, rfl, by decide +kernel, rfl, by decide +kernel, by decide +kernel⟩
/-- a set of ints, however it was made -/
def SetI (P : Program) (w : World) (a : Addr) (S : Int → Bool) (n : Nat) : HO := .ext fun h => h.SetOf (intKind P w) a S n
theorem setI_new {P : Program} {w : World} {H : Hp} {h : Heap} {a : Addr} {S : Int → Bool} {n : Nat} (R : h.SetOf (intKind P w) a S n) : ObjOk P w H h a (SetI P w a S n) := by
  have ⟨o, es, ep, t, ho, r⟩ := R
  refine ⟨R, ⟨o, ho⟩, fun h1 h2 p k => ?_⟩
  have ⟨o', es', ep', t', ho', r'⟩ := p
  exact ⟨o', es', ep', t', k o' ho', r'⟩
theorem setI_get {X : Cx} {pins : List (Addr × Obj)} {σ : L2.St} {H : Hp} {s : Shared} {a : Addr} {S : Int → Bool} {n : Nat} (I : Inv X pins σ H s) (ha : H a = some (SetI X.prog X.w a S n)) : s.heap.SetOf (intKind X.prog X.w) a S n := (I.hok a _ ha).1
theorem range_getD (ns : List Int) : (List.range ns.length).map (fun i => ns.getD i 0) = ns := by
  refine List.ext_getElem (by rw [List.length_map, List.length_range]) fun i h1 h2 => ?_
  rw [List.getElem_map, List.getElem_range, List.getD_eq_getElem?_getD, List.getElem?_eq_getElem h2]; rfl
def rSetI (P : Program) (w : World) (neg : Bool) : R2 := fun x y H Q => ∃ k a S n, x = V.int k ∧ y = V.ref a ∧ H a = some (SetI P w a S n) ∧ Q (.bl (if neg then !S k else S k)) H
section
variable {X : Cx} {K : PySem.W.Frag} {P : Program} {w : World}
theorem or_sinI (hP : X.prog = P) (hw : X.w = w) : OpR X (compareOp .In) (rSetI P w false) := by
  subst hP hw
  intro pins s σ H x y v u Q I rx ry h
  obtain ⟨k, a, S, n, rfl, rfl, ha, q⟩ := h
  obtain rfl : u = Value.ref a := ry
  obtain ⟨t, rfl⟩ := rx
  exact wpAny_inSet_of (intKind_is _ _ _ _) rfl (setI_get I ha) ⟨.bl (S k), H, I.tok _, rfl, q⟩
theorem cr_setI (hP : X.prog = P) (hw : X.w = w) (hK : X.K = K) (hc : X.calm = true) : CallR X (.type "set") (fun xs H Q => ∃ (l : Addr) (ns : List Int), xs = [.ref l] ∧ SeqH H l (ns.map V.int) ∧ ns.length ≤ 1000 ∧ ∀ p n, H p = none → Q (.ref p) (upd H p (SetI P w p (fun j => decide (j ∈ ns)) n))) := by
  subst hP hw hK
  intro pins s σ H xs us Q I r h
  obtain ⟨l, ns, rfl, hq, hl, q⟩ := h
  cases r with
  | cons r rr =>
    cases rr
    cases r
    rcases hq with hq | hq
    · obtain ⟨its, rv, pt, hz⟩ := I.list (sq hq)
      have hi : IntsAre its.toArray.toList ns := ints_of_vals rv
      have hsz : its.toArray.size = ns.length := by
        have := IntsAre.length hi
        rw [Array.length_toList] at this
        exact this
      refine call_set_list (I.ok.hd hc) pt.isList hi (by unfold scanBound; omega) fun h' tk R1 k => ?_
      have R2 : h'.SetOf (intKind X.prog X.w) s.heap.objs.size (fun j => decide (j ∈ ns)) (PyProof.Rows.firstMet (fun i => ns.getD i 0) its.toArray.size).length := by
        refine PyProof.Rows.SetOf_congr R1 (fun j => ?_) rfl
        rw [PyProof.Rows.firstMet_any, hsz, range_getD]
        by_cases hj : j ∈ ns
        · rw [decide_eq_true hj]; exact List.any_eq_true.mpr ⟨j, hj, beq_self_eq_true j⟩
        · rw [decide_eq_false hj]; exact List.any_eq_false.mpr fun x hx e => hj (eq_of_beq e ▸ hx)
      exact ⟨.ref _, upd H s.heap.objs.size (SetI X.prog X.w s.heap.objs.size (fun j => decide (j ∈ ns)) _), I.laid (t' := tk) (fun b o e => k b o (Heap.lt_size e) e) (Nat.le_refl _) (setI_new R2), rfl, q _ _ (I.hok.fresh (Nat.le_refl _))⟩
    · obtain ⟨its, rv, pt, hz⟩ := I.tuple (st hq)
      have hi : IntsAre its.toArray.toList ns := ints_of_vals rv
      refine call_set_tupI ns (I.ok.hd hc) (show s.heap.IsTuple l its.toArray from pt) hi (by unfold scanBound; omega) fun h' tk c R1 hcn k => ?_
      exact ⟨.ref _, upd H s.heap.objs.size (SetI X.prog X.w s.heap.objs.size (fun j => decide (j ∈ ns)) c), I.laid (t' := tk) k (Nat.le_refl _) (setI_new R1.setOf), rfl, q _ _ (I.hok.fresh (Nat.le_refl _))⟩
/-- x not in a tuple of data -/
def rNotInT (K : PySem.W.Frag) : R2 := fun x y H Q => ∃ d ds, Dp K H x d ∧ Dp K H y (.tuple ds) ∧ SeqAt.shaped d = true ∧ SeqAt.shaped (.tuple ds) = true ∧ Q (.bl (!ds.any fun z => PyData.eqv z d)) H
theorem op_notInT (hK : X.K = K) (hu : X.A.units + 65 < cLine) : OpR X (compareOp .NotIn) (rNotInT K) := by
  subst hK
  intro pins s σ H x y v u Q I rx ry h
  obtain ⟨d, ds, hd, he, sd, se, q⟩ := h
  obtain ⟨as, r1⟩ := Dp.reads I d x v hd rx
  obtain ⟨bs, r2⟩ := Dp.reads I (.tuple ds) y u he ry
  exact SeqAt.notIn_tuple_reads r2 r1 (SeqAt.canLay_of_shaped se) (SeqAt.canLay_of_shaped sd) (room_in_shaped sd hu) ⟨.bl _, H, I, rfl, q⟩
theorem reads_ints {h : Heap} : ∀ {ns : List Int} {us : List Value}, Vals (ns.map V.int) us → ReadsAll h us (ns.map PyData.int) []
  | [], _, .nil => .nil
  | n :: ns, _, .cons r rs => by
    obtain ⟨t, rfl⟩ := r
    exact .cons (.int n t) (reads_ints rs)
theorem foldl_max : ∀ (ns : List Int) (n : Int), ns.foldl max n ∈ n :: ns ∧ ∀ y ∈ n :: ns, y ≤ ns.foldl max n
  | [], n => ⟨List.mem_cons_self, fun y hy => by rw [List.mem_singleton.mp hy]; exact Int.le_refl _⟩
  | k :: ns, n => by
    obtain ⟨h1, h2⟩ := foldl_max ns (max n k)
    show ns.foldl max (max n k) ∈ _ ∧ ∀ y ∈ _, y ≤ ns.foldl max (max n k)
    have h3 := h2 _ List.mem_cons_self
    refine ⟨?_, fun y hy => ?_⟩
    · rcases List.mem_cons.mp h1 with e | e
      · rw [e]
        rcases (by omega : max n k = n ∨ max n k = k) with z | z
        · rw [z]; exact List.mem_cons_self
        · rw [z]; exact List.mem_cons_of_mem _ List.mem_cons_self
      · exact List.mem_cons_of_mem _ (List.mem_cons_of_mem _ e)
    · rcases List.mem_cons.mp hy with rfl | hy
      · omega
      · rcases List.mem_cons.mp hy with rfl | hy
        · omega
        · exact h2 y (List.mem_cons_of_mem _ hy)
def rMaxD (K : PySem.W.Frag) : List V → List V → Hp → VK → Prop := fun xs zs H Q => ∃ (a : Addr) (ns : List Int) (d : V), xs = [.ref a] ∧ zs = [d] ∧ SqL K H a (ns.map V.int) ∧ (ns = [] → Q d H) ∧ ∀ m, m ∈ ns → (∀ y ∈ ns, y ≤ m) → Q (.int m) H
theorem cr_maxD (hK : X.K = K) (hc : X.calm = true) (hu : X.A.units + 64 < cLine) : CallRK X (.builtin "max") [(Str.ofString "default")] (rMaxD K) := by
  subst hK
  intro pins s σ H xs zs us ws Q I r rz h
  obtain ⟨a, ns, d, rfl, rfl, hs, h0, h1⟩ := h
  obtain ⟨its, rv, hl, _⟩ := I.list hs
  rw [Vals.ref1 r]
  obtain ⟨u, rfl, ru⟩ := vals1 rz
  have hd : PyData.depthAll (ns.map PyData.int) = 0 := depth_ints ns
  have ha : PySem.W.AlikeAll (ns.map PyData.int) := PySem.W.alikeAll_datum (α := Int) ns
  refine PySem.W.max_list_default (xs := ns.map PyData.int) (as := []) (I.ok.hd hc) hl.isList (reads_ints rv) ha (by rw [hd]; omega) (fun e h' tk hk => ?_) fun y ys i v h' tk bs e hi hr hk => ?_
  · exact ⟨d, H, I.kept hk, ru, h0 (List.map_eq_nil_iff.mp e)⟩
  · cases ns with
    | nil => cases e
    | cons n ns =>
      obtain ⟨e1, e2⟩ := List.cons.inj e
      subst e1 e2
      rw [PySem.W.maxD_ints] at hr
      cases hr with
      | int _ t => exact ⟨.int _, H, I.kept hk, ⟨_, rfl⟩, h1 _ (foldl_max ns n).1 (foldl_max ns n).2⟩
end
def spCkNums : Sp := fun vs H Q _ => ∃ (a : Addr) (ns : List Int), vs = [.ref a] ∧ SeqH H a (ns.map V.int) ∧ (∀ n ∈ ns, 1 ≤ n) ∧ ns.length ≤ 1000 ∧ ∀ H', Same H H' → Q .non H'
section
variable {P : Program} {w : World} {K : PySem.W.Frag} {mg : Str → Option Value} {base : Heap}
theorem ok_ckNums {f : Addr} {fd : FuncData} (D_is_numbers : Def P w K mg base CX0 3 "is_numbers" pV spNums) (F : Fun K "_check_numbers" "_check_numbers" sCkNums f fd) : FnOk P w K mg base CX0 4 f fd nCkNums spCkNums := by
  refine F.ok scCkNums (fun vs H Q E h => ?_) (fun cdv A outer s H vs Q E hr h => ?_)
  · obtain ⟨a, ns, rfl, _⟩ := h
    rfl
  · obtain ⟨a, ns, rfl, ha, h1, hl, q⟩ := h
    refine ⟨_, (pss_one (ps_if (pt_not (pt_val (pe_def D_is_numbers (hr.mono (by decide)) rfl pass0 (pa_cons (pv 0) pa_nil)))) pss_any pss_nil)), ?_⟩
    exact ⟨_, rfl, a, ns, rfl, ha, h1, hl, fun H' s' => ⟨_, rfl, itbF rfl (q H' s')⟩⟩
end
end K1


set_option Elab.async false
set_option linter.all false
set_option maxRecDepth 100000
set_option maxHeartbeats 2000000
namespace K1
open PySem PySem.Spec PyProof.Rows L2 RZ StX
/-! ### methods -/
structure MDef (P : Program) (w : World) (K : PySem.W.Frag) (mg : Str → Option Value) (base : Heap) (CX : CXT) (k : Nat) (C : Addr) (m : Str) (ps : List Str) (sp : Sp) : Prop where
  ex : ∃ (f : Addr) (fd : FuncData), Meth K C m f ∧ Binds K fd ps [] ∧ FnOk P w K mg base CX k f fd ps sp
section
variable {X : Cx} {CX : CXT} {k : Nat} {ps : List Str} {sp : Sp} {E : XK} {m : Str} {pos apos : Pos} {o e : Expr} {es : List Expr} {ta : TE} {t : TA} {C : Addr}
theorem pe_mdef {pl : Sem Bool} (D : MDef X.prog X.w X.K X.mg X.base CX k C m ps sp) (c : Cls X.K C) (hr : Room k X.A) (hx : Passes CX X E) (he : PE X o ta) (ha : PA X (e :: es) t)
    (hst : starEach (e :: es) X.env = (false, eval e X.env) :: starEach es X.env := by rfl) (hpl : (backTo pos (starEach es X.env)).any (·.1) = false := by rfl)
    (ht : eval (.Call (.Attribute o m apos) (e :: es) [] pos) X.env = (do
      let ov ← eval o X.env
      standAt apos.atName
      let (f, first) ← holding [ov] (getMethod ov m pl)
      callWith pos f first (backTo pos (starEach (e :: es) X.env)) (backToKw pos (keywordEach [] X.env))) := by rfl) :
    PE X (.Call (.Attribute o m apos) (e :: es) [] pos) (tMeth C m sp [] E ta t) := by
  obtain ⟨f, fd, hm, hb, F⟩ := D.ex
  exact pe_meth he c hm F hr hb .nil hx ha hst hpl ht
theorem pe_mdef0 {pl : Sem Bool} (D : MDef X.prog X.w X.K X.mg X.base CX k C m ps sp) (c : Cls X.K C) (hr : Room k X.A) (hx : Passes CX X E) (he : PE X o ta)
    (ht : eval (.Call (.Attribute o m apos) [] [] pos) X.env = (do
      let ov ← eval o X.env
      standAt apos.atName
      let (f, first) ← holding [ov] (getMethod ov m pl)
      callWith pos f first (backTo pos (starEach [] X.env)) (backToKw pos (keywordEach [] X.env))) := by rfl) :
    PE X (.Call (.Attribute o m apos) [] [] pos) (tMeth C m sp [] E ta tNil) := by
  obtain ⟨f, fd, hm, hb, F⟩ := D.ex
  exact pe_meth0 he c hm F hr hb .nil hx ht
end
/-! ### folders -/
def flds (a l n m g c : V) : List (Str × V) := [("_age", a), ("_letters", l), ("_next_number", n), ("_mark", m), ("_gone", g), ("_cut", c)]
section
variable {a l n m g c y : V}
theorem fl_age : (flds a l n m g c).lookup ("_age" : Str) = some a := by rfl
theorem fl_let : (flds a l n m g c).lookup ("_letters" : Str) = some l := by rfl
theorem fl_nx : (flds a l n m g c).lookup ("_next_number" : Str) = some n := by rfl
theorem fl_mk : (flds a l n m g c).lookup ("_mark" : Str) = some m := by rfl
theorem fl_gone : (flds a l n m g c).lookup ("_gone" : Str) = some g := by rfl
theorem fl_cut : (flds a l n m g c).lookup ("_cut" : Str) = some c := by rfl
theorem fl_no {x : Str} (h : (["_age", "_letters", "_next_number", "_mark", "_gone", "_cut"] : List Str).all (fun z => !(x == z)) = true) : (flds a l n m g c).lookup x = none := by
  simp only [List.all_cons, List.all_nil, Bool.and_eq_true, Bool.not_eq_true'] at h
  obtain ⟨h1, h2, h3, h4, h5, h6, _⟩ := h
  unfold flds
  simp only [List.lookup, h1, h2, h3, h4, h5, h6]
theorem pu_let : putF "_letters" y (flds a l n m g c) = flds a y n m g c := by rfl
theorem pu_nx : putF "_next_number" y (flds a l n m g c) = flds a l y m g c := by rfl
theorem pu_mk : putF "_mark" y (flds a l n m g c) = flds a l n y g c := by rfl
theorem pu_gone : putF "_gone" y (flds a l n m g c) = flds a l n m y c := by rfl
theorem pu_cut : putF "_cut" y (flds a l n m g c) = flds a l n m g y := by rfl
theorem pu_all : putF "_cut" c (putF "_gone" g (putF "_mark" m (putF "_next_number" n (putF "_letters" l (putF "_age" a []))))) = flds a l n m g c := by rfl
end
structure Lt where
  n : Int
  b : Int
  s : List Str
  m : Int
structure Fo where
  age : Int
  ls : List Lt
  nx : Int
  mr : Int
  go : List (Int × Int)
  ct : Int
def ltD (l : Lt) : PyData := .tuple [.int l.n, .int l.b, .tuple (l.s.map PyData.str), .int l.m]
def goD (g : Int × Int) : PyData := .tuple [.int g.1, .int g.2]
def lsD (ls : List Lt) : PyData := .tuple (ls.map ltD)
def gsD (go : List (Int × Int)) : PyData := .tuple (go.map goD)
def FoAt (C : Addr) (H : Hp) (p : Addr) (F : Fo) : Prop := ∃ dx tl tg, H p = some (.ins C dx (flds (.int F.age) (.ref tl) (.int F.nx) (.int F.mr) (.ref tg) (.int F.ct))) ∧ Dv H (.ref tl) (lsD F.ls) ∧ Dv H (.ref tg) (gsD F.go)
theorem FoAt.same {C p : Addr} {H H' : Hp} {F : Fo} (h : FoAt C H p F) (s : Same H H') : FoAt C H' p F := let ⟨dx, tl, tg, a, b, c⟩ := h; ⟨dx, tl, tg, s _ _ a, b.same s, c.same s⟩
/-- what the class must have -/
structure ClT (K : PySem.W.Frag) (mg : Str → Option Value) (C : Addr) : Prop where
  cl : Cls K C
  gC : mg "Folder" = some (.ref C)
  nA : NoAttr K C "_age"
  nL : NoAttr K C "_letters"
  nN : NoAttr K C "_next_number"
  nM : NoAttr K C "_mark"
  nG : NoAttr K C "_gone"
  nC : NoAttr K C "_cut"
def mS (i : Nat) : Stmt := inClass st_Folder i
abbrev sInit : Stmt := mS 0
abbrev sLetters : Stmt := mS 3
abbrev sNext : Stmt := mS 4
abbrev sMark : Stmt := mS 5
abbrev sGone : Stmt := mS 6
abbrev sApp : Stmt := mS 8
abbrev sCopied : Stmt := mS 14
abbrev nInit : List Str := ["self", "age"]
theorem scInit : FnScope nInit nInit (defScope sInit) := ⟨rfl, rfl, rfl, by decide +kernel, rfl, by decide +kernel, by decide +kernel⟩
abbrev nSelf : List Str := ["self"]
theorem scLetters : FnScope nSelf nSelf (defScope sLetters) := ⟨rfl, rfl, rfl, by decide +kernel, rfl, by decide +kernel, by decide +kernel⟩
theorem scNext : FnScope nSelf nSelf (defScope sNext) := ⟨rfl, rfl, rfl, by decide +kernel, rfl, by decide +kernel, by decide +kernel⟩
theorem scMark : FnScope nSelf nSelf (defScope sMark) := ⟨rfl, rfl, rfl, by decide +kernel, rfl, by decide +kernel, by decide +kernel⟩
theorem scGone : FnScope nSelf nSelf (defScope sGone) := ⟨rfl, rfl, rfl, by decide +kernel, rfl, by decide +kernel, by decide +kernel⟩
abbrev nApp : List Str := ["self", "body", "signs", "folder"]
abbrev pApp : List Str := ["self", "body", "signs"]
theorem scApp : FnScope nApp pApp (defScope sApp) := ⟨rfl, rfl, rfl, by decide +kernel, rfl, by decide +kernel, by decide +kernel⟩
abbrev nCopied : List Str := ["self", "folder"]
theorem scCopied : FnScope nCopied nSelf (defScope sCopied) := ⟨rfl, rfl, rfl, by decide +kernel, rfl, by decide +kernel, by decide +kernel⟩
def fNew (a : Int) : Fo := ⟨a, [], 1, 0, [], 0⟩
def spInit (C : Addr) : Sp := fun vs H Q _ => ∃ (p dx : Addr) (a : Int), vs = [.ref p, .int a] ∧ H p = some (.ins C dx []) ∧ 1 ≤ a ∧
  ∀ H' tl tg, (∀ b o, b ≠ p → H b = some o → H' b = some o) → H' p = some (.ins C dx (flds (.int a) (.ref tl) (.int 1) (.int 0) (.ref tg) (.int 0))) → H' tl = some (.tup []) → H' tg = some (.tup []) → Q .non H'
def spLetters (C : Addr) : Sp := fun vs H Q _ => ∃ (p : Addr) (F : Fo), vs = [.ref p] ∧ FoAt C H p F ∧ ∀ l H', Same H H' → H l = none → Dv H' (.ref l) (.list (F.ls.map ltD)) → Q (.ref l) H'
def spGone (C : Addr) : Sp := fun vs H Q _ => ∃ (p : Addr) (F : Fo), vs = [.ref p] ∧ FoAt C H p F ∧ ∀ l H', Same H H' → H l = none → Dv H' (.ref l) (.list (F.go.map goD)) → Q (.ref l) H'
def spNext (C : Addr) : Sp := fun vs H Q _ => ∃ (p : Addr) (F : Fo), vs = [.ref p] ∧ FoAt C H p F ∧ Q (.int F.nx) H
def spMark (C : Addr) : Sp := fun vs H Q _ => ∃ (p : Addr) (F : Fo), vs = [.ref p] ∧ FoAt C H p F ∧ Q (.int F.mr) H
def spCopied (C : Addr) : Sp := fun vs H Q _ => ∃ (p dx tl tg : Addr) (a n m c : Int), vs = [.ref p] ∧ H p = some (.ins C dx (flds (.int a) (.ref tl) (.int n) (.int m) (.ref tg) (.int c))) ∧ 1 ≤ a ∧
  ∀ q dq H', Same H H' → H q = none → H' q = some (.ins C dq (flds (.int a) (.ref tl) (.int n) (.int m) (.ref tg) (.int c))) → Q (.ref q) H'
def fApp (F : Fo) (b : Int) (s : List Str) : Fo := { F with ls := F.ls ++ [⟨F.nx, b, s, F.mr + 1⟩], nx := F.nx + 1, mr := F.mr + 1 }
def spApp (C : Addr) : Sp := fun vs H Q _ => ∃ (p sg : Addr) (F : Fo) (b : Int) (ss : List Str), vs = [.ref p, .int b, .ref sg] ∧ FoAt C H p F ∧ 1 ≤ F.age ∧ 0 ≤ b ∧ H sg = some (.tup (ss.map V.str)) ∧ OkSs ss ∧ F.ls.length ≤ 1000 ∧
  ∀ q H', Same H H' → H q = none → FoAt C H' q (fApp F b ss) → Q (.ref q) H'
theorem dv_strs {H : Hp} : ∀ ss : List Str, DvA H (ss.map V.str) (ss.map PyData.str)
  | [] => .nil
  | s :: r => .cons (.str s) (dv_strs r)
section
variable {P : Program} {w : World} {K : PySem.W.Frag} {mg : Str → Option Value} {base : Heap} {C : Addr}
theorem ok_init {f : Addr} {fd : FuncData} (t : ClT K mg C) (D_is_number : Def P w K mg base CX0 2 "is_number" pV spNum) (F : Fun K "__init__" "Folder.__init__" sInit f fd) : FnOk P w K mg base CX0 3 f fd nInit (spInit C) := by
  refine F.ok scInit (fun vs H Q E h => ?_) (fun cdv A outer s H vs Q E hr h => ?_)
  · obtain ⟨p, dx, a, rfl, _⟩ := h
    rfl
  · obtain ⟨p, dx, a, rfl, hp, ha, q⟩ := h
    refine ⟨_, pss_cons (ps_if (pt_not (pt_val (pe_def D_is_number (hr.mono (by decide)) rfl pass0 (pa_cons (pv 1) pa_nil)))) pss_any pss_nil)
 (pss_cons (ps_fld (pv 0) (pv 1) rfl)
 (pss_cons (ps_fld (pv 0) (pe_tup pa_nil) rfl)
 (pss_cons (ps_fld (pv 0) pe_int rfl)
 (pss_cons (ps_fld (pv 0) pe_int rfl)
 (pss_cons (ps_fld (pv 0) (pe_tup pa_nil) rfl)
 (pss_one (ps_fld (pv 0) pe_int rfl))))))), ?_⟩
    refine ⟨_, rfl, a, rfl, ha, _, rfl, itbF rfl ?_⟩
    refine ⟨_, rfl, _, rfl, p, C, dx, [], rfl, hp, t.cl, t.nA, by show 0 < 1000; decide, ?_⟩
    refine ⟨Nat.zero_le _, fun tl ntl => ?_⟩
    have n1 : p ≠ tl := ne_of_none (show (upd H p (.ins C dx (putF "_age" (.int a) []))) p = some _ from upd_same) ntl
    refine ⟨_, rfl, p, C, dx, _, rfl, (by rw [upd_ne n1]; exact upd_same), t.cl, t.nL, by show 1 < 1000; decide, ?_⟩
    refine ⟨_, rfl, p, C, dx, _, rfl, upd_same, t.cl, t.nN, by show 2 < 1000; decide, ?_⟩
    refine ⟨_, rfl, p, C, dx, _, rfl, upd_same, t.cl, t.nM, by show 3 < 1000; decide, ?_⟩
    refine ⟨Nat.zero_le _, fun tg ntg => ?_⟩
    have n2 : p ≠ tg := ne_of_none (by exact upd_same) ntg
    have n3 : tl ≠ tg := fun z => by
      subst z
      rw [upd_ne n1.symm, upd_ne n1.symm, upd_ne n1.symm, upd_same] at ntg
      cases ntg
    refine ⟨_, rfl, p, C, dx, _, rfl, (by rw [upd_ne n2]; exact upd_same), t.cl, t.nG, by show 4 < 1000; decide, ?_⟩
    refine ⟨_, rfl, p, C, dx, _, rfl, upd_same, t.cl, t.nC, by show 5 < 1000; decide, ?_⟩
    refine q _ tl tg (fun b o nb hb => ?_) upd_same ?_ ?_
    · have hb0 : (upd H p (.ins C dx (putF "_age" (.int a) []))) b = some o := by rw [upd_ne nb]; exact hb
      rw [upd_ne nb, upd_ne nb, upd_ne (fun z => by
        subst z
        rw [upd_ne nb, upd_ne nb, upd_ne nb, upd_ne (ne_of_none hb0 ntl), upd_ne nb] at ntg
        rw [hb] at ntg; cases ntg), upd_ne nb, upd_ne nb, upd_ne nb, upd_ne (ne_of_none hb0 ntl)]
      exact hb0
    · rw [upd_ne n1.symm, upd_ne n1.symm, upd_ne n3, upd_ne n1.symm, upd_ne n1.symm, upd_ne n1.symm, upd_same]
    · rw [upd_ne n2.symm, upd_ne n2.symm, upd_same]
theorem ok_letters {f : Addr} {fd : FuncData} (T : Bk mg) (t : ClT K mg C) (F : Fun K "letters" "Folder.letters" sLetters f fd) : FnOk P w K mg base CX0 1 f fd nSelf (spLetters C) := by
  refine F.ok scLetters (fun vs H Q E h => ?_) (fun cdv A outer s H vs Q E hr h => ?_)
  · obtain ⟨p, F, rfl, _⟩ := h
    rfl
  · obtain ⟨p, F, rfl, ⟨dx, tl, tg, hp, h1, h2⟩, q⟩ := h
    refine ⟨_, pss_one (ps_ret (pe_callTy (call_list_ofK (K := K) rfl) (by rfl) T.list PyProof.Rows.boot_list (pa_cons (pe_fld (pv 0) rfl) pa_nil))), ?_⟩
    cases h1 with
    | tup e r => exact ⟨_, rfl, p, C, dx, _, _, rfl, hp, t.cl, t.nL, fl_let, tl, _, rfl, .inr (st e), fun l nl => q l _ (same_new nl) nl (.lst upd_same (r.same (same_new nl)))⟩
theorem ok_gone {f : Addr} {fd : FuncData} (T : Bk mg) (t : ClT K mg C) (F : Fun K "gone" "Folder.gone" sGone f fd) : FnOk P w K mg base CX0 1 f fd nSelf (spGone C) := by
  refine F.ok scGone (fun vs H Q E h => ?_) (fun cdv A outer s H vs Q E hr h => ?_)
  · obtain ⟨p, F, rfl, _⟩ := h
    rfl
  · obtain ⟨p, F, rfl, ⟨dx, tl, tg, hp, h1, h2⟩, q⟩ := h
    refine ⟨_, pss_one (ps_ret (pe_callTy (call_list_ofK (K := K) rfl) (by rfl) T.list PyProof.Rows.boot_list (pa_cons (pe_fld (pv 0) rfl) pa_nil))), ?_⟩
    cases h2 with
    | tup e r => exact ⟨_, rfl, p, C, dx, _, _, rfl, hp, t.cl, t.nG, fl_gone, tg, _, rfl, .inr (st e), fun l nl => q l _ (same_new nl) nl (.lst upd_same (r.same (same_new nl)))⟩
theorem ok_mark {f : Addr} {fd : FuncData} (t : ClT K mg C) (F : Fun K "mark" "Folder.mark" sMark f fd) : FnOk P w K mg base CX0 1 f fd nSelf (spMark C) := by
  refine F.ok scMark (fun vs H Q E h => ?_) (fun cdv A outer s H vs Q E hr h => ?_)
  · obtain ⟨p, F, rfl, _⟩ := h
    rfl
  · obtain ⟨p, F, rfl, ⟨dx, tl, tg, hp, h1, h2⟩, q⟩ := h
    exact ⟨_, pss_one (ps_ret (pe_fld (pv 0) rfl)), ⟨_, rfl, p, C, dx, _, _, rfl, hp, t.cl, t.nM, fl_mk, q⟩⟩
end
end K1


set_option Elab.async false
set_option linter.all false
set_option maxRecDepth 100000
set_option maxHeartbeats 2000000
namespace K1
open PySem PySem.Spec PyProof.Rows L2 RZ StX
/-- the making of a folder -/
structure MkD (P : Program) (w : World) (K : PySem.W.Frag) (mg : Str → Option Value) (base : Heap) (C : Addr) : Prop where
  ex : ∃ (f : Addr) (fd : FuncData), Mk K C f ∧ Binds K fd nInit [] ∧ FnOk P w K mg base CX0 3 f fd nInit (spInit C)
theorem pe_new {X : Cx} {C : Addr} {e : Expr} {t : TA} {p pos : Pos} (D : MkD X.prog X.w X.K X.mg X.base C) (gC : X.mg "Folder" = some (.ref C)) (hr : Room 4 X.A) (hg : Gl X "Folder") (ha : PA X [e] t)
    (he : starEach [e] X.env = (false, eval e X.env) :: starEach [] X.env := by rfl) : PE X (.Call (.Name "Folder" p) [e] [] pos) (tMake C (spInit C) [] E0 t) := by
  obtain ⟨f, fd, hm, hb, F⟩ := D.ex
  exact pe_make hm F hr hg gC hb .nil pass0 ha (he := he)
theorem Dv.tups {H : Hp} {a : Addr} {ds : List PyData} (h : Dv H (.ref a) (.tuple ds)) : ∃ xs, H a = some (.tup xs) ∧ DvA H xs ds := by
  cases h with
  | tup e r => exact ⟨_, e, r⟩
/-- a heap behind which one new object may be changed -/
theorem same_but {H H' : Hp} {q : Addr} {o : HO} (s : Same H H') (n : H q = none) : Same H (upd H' q o) := s.mut n
section
variable {P : Program} {w : World} {K : PySem.W.Frag} {mg : Str → Option Value} {base : Heap} {C : Addr}
theorem ok_copied {f : Addr} {fd : FuncData} (t : ClT K mg C) (D_new : MkD P w K mg base C) (F : Fun K "_copied" "Folder._copied" sCopied f fd) : FnOk P w K mg base CX0 5 f fd nSelf (spCopied C) := by
  have nd := scCopied.nd
  refine F.ok scCopied (fun vs H Q E h => ?_) (fun cdv A outer s H vs Q E hr h => ?_)
  · obtain ⟨p, dx, tl, tg, a, n, m, c, rfl, _⟩ := h
    rfl
  · obtain ⟨p, dx, tl, tg, a, n, m, c, rfl, hp, ha, q⟩ := h
    refine ⟨_, pss_cons (ps_set (i := 1) nd rfl (Or.inl rfl) (pe_new D_new t.gC (hr.mono (by decide)) rfl (pa_cons (pe_fld (pv 0) rfl) pa_nil)))
 (pss_cons (ps_fld (pv 1) (pe_fld (pv 0) rfl) rfl)
 (pss_cons (ps_fld (pv 1) (pe_fld (pv 0) rfl) rfl)
 (pss_cons (ps_fld (pv 1) (pe_fld (pv 0) rfl) rfl)
 (pss_cons (ps_fld (pv 1) (pe_fld (pv 0) rfl) rfl)
 (pss_cons (ps_fld (pv 1) (pe_fld (pv 0) rfl) rfl)
 (pss_one (ps_ret (pv 1)))))))), ?_⟩
    refine ⟨_, rfl, p, C, dx, _, _, rfl, hp, t.cl, t.nA, fl_age, fun x dq nx ndq hne => ⟨x, dq, a, rfl, upd_same, ha, fun H' tl' tg' keep hx _ _ => ⟨rfl, ?_⟩⟩⟩
    have s1 : Same H H' := fun b o hb => keep b o (ne_of_none hb nx) (by rw [upd_ne (ne_of_none hb nx), upd_ne (ne_of_none hb ndq)]; exact hb)
    have npx : p ≠ x := ne_of_none hp nx
    have hp1 := s1 _ _ hp
    have step : ∀ (H1 : Hp), H1 p = some (.ins C dx (flds (.int a) (.ref tl) (.int n) (.int m) (.ref tg) (.int c))) → ∀ o, (upd H1 x o) p = some (.ins C dx (flds (.int a) (.ref tl) (.int n) (.int m) (.ref tg) (.int c))) := fun H1 h o => by rw [upd_ne npx]; exact h
    refine ⟨_, rfl, p, C, dx, _, _, rfl, hp1, t.cl, t.nL, fl_let, _, rfl, x, C, dq, _, rfl, hx, t.cl, t.nL, by show 6 < 1000; decide, ?_⟩
    rw [pu_let]
    refine ⟨_, rfl, p, C, dx, _, _, rfl, step _ hp1 _, t.cl, t.nN, fl_nx, _, rfl, x, C, dq, _, rfl, upd_same, t.cl, t.nN, by show 6 < 1000; decide, ?_⟩
    rw [pu_nx]
    refine ⟨_, rfl, p, C, dx, _, _, rfl, step _ (step _ hp1 _) _, t.cl, t.nM, fl_mk, _, rfl, x, C, dq, _, rfl, upd_same, t.cl, t.nM, by show 6 < 1000; decide, ?_⟩
    rw [pu_mk]
    refine ⟨_, rfl, p, C, dx, _, _, rfl, step _ (step _ (step _ hp1 _) _) _, t.cl, t.nG, fl_gone, _, rfl, x, C, dq, _, rfl, upd_same, t.cl, t.nG, by show 6 < 1000; decide, ?_⟩
    rw [pu_gone]
    refine ⟨_, rfl, p, C, dx, _, _, rfl, step _ (step _ (step _ (step _ hp1 _) _) _) _, t.cl, t.nC, fl_cut, _, rfl, x, C, dq, _, rfl, upd_same, t.cl, t.nC, by show 6 < 1000; decide, ?_⟩
    rw [pu_cut]
    exact ⟨_, rfl, q x dq _ (((((s1.mut nx).mut nx).mut nx).mut nx).mut nx) nx upd_same⟩
theorem ok_app {f : Addr} {fd : FuncData} (t : ClT K mg C) (D_is_body : Def P w K mg base CX0 2 "is_body" pV spBody) (D_is_signs : Def P w K mg base CX0 2 "is_signs" pV spSigns) (M_copied : MDef P w K mg base CX0 5 C "_copied" nSelf (spCopied C))
    (F : Fun K "appended" "Folder.appended" sApp f fd) : FnOk P w K mg base CX0 6 f fd pApp (spApp C) := by
  have nd := scApp.nd
  refine F.ok scApp (fun vs H Q E h => ?_) (fun cdv A outer s H vs Q E hr h => ?_)
  · obtain ⟨p, sg, F, b, ss, rfl, _⟩ := h
    rfl
  · obtain ⟨p, sg, F, b, ss, rfl, ⟨dx, tl, tg, hp, h1, h2⟩, ha, hb, hs, hu, hl, q⟩ := h
    refine ⟨_, pss_cons (ps_if (pt_not (pt_val (pe_def D_is_body (hr.mono (by decide)) rfl pass0 (pa_cons (pv 1) pa_nil)))) pss_any pss_nil)
 (pss_cons (ps_if (pt_not (pt_val (pe_def D_is_signs (hr.mono (by decide)) rfl pass0 (pa_cons (pv 2) pa_nil)))) pss_any pss_nil)
 (pss_cons (ps_set (i := 3) nd rfl (Or.inl rfl) (pe_mdef0 M_copied t.cl (hr.mono (by decide)) pass0 (pv 0)))
 (pss_cons (ps_fldaug (pv 3) pe_int in_add)
 (pss_cons (ps_fld (pv 3) (pe_tup (pa_star (pe_fld (pv 0) rfl) (pa_cons (pe_tup (pa_cons (pe_fld (pv 0) rfl) (pa_cons (pv 1) (pa_cons (pv 2) (pa_cons (pe_fld (pv 3) rfl) pa_nil))))) pa_nil))) rfl)
 (pss_cons (ps_fldaug (pv 3) pe_int in_add)
 (pss_one (ps_ret (pv 3)))))))), ?_⟩
    refine ⟨_, rfl, b, rfl, hb, _, rfl, itbF rfl ?_⟩
    refine ⟨_, rfl, sg, ss, rfl, hs, okSs_iff.mpr hu, fun H1 s1 => ⟨_, rfl, itbF rfl ?_⟩⟩
    refine ⟨_, rfl, p, dx, _, rfl, s1 _ _ hp, fl_no (by decide +kernel), p, dx, tl, tg, F.age, F.nx, F.mr, F.ct, rfl, s1 _ _ hp, ha, fun x dq H2 s2 nx hx => ?_⟩
    have s12 := s1.trans s2
    have nxH : H x = none := s1.free nx
    have npx : p ≠ x := ne_of_none (s1 _ _ hp) nx
    refine ⟨_, rfl, x, C, dq, _, _, rfl, hx, t.cl, t.nM, fl_mk, _, _, rfl, rfl, dq, _, hx, by show 6 < 1000; decide, ?_⟩
    rw [pu_mk]
    have sA : Same H (upd H2 x (.ins C dq (flds (.int F.age) (.ref tl) (.int F.nx) (.int (F.mr + 1)) (.ref tg) (.int F.ct)))) := s12.mut nxH
    have hxA : (upd H2 x (.ins C dq (flds (.int F.age) (.ref tl) (.int F.nx) (.int (F.mr + 1)) (.ref tg) (.int F.ct)))) x = _ := upd_same
    generalize upd H2 x (.ins C dq (flds (.int F.age) (.ref tl) (.int F.nx) (.int (F.mr + 1)) (.ref tg) (.int F.ct))) = HA at sA hxA
    obtain ⟨xs, e0, r0⟩ := Dv.tups h1
    refine ⟨_, rfl, p, C, dx, _, _, rfl, sA _ _ hp, t.cl, t.nL, fl_let, tl, xs, rfl, .inl (st (sA _ _ e0)), ?_⟩
    refine ⟨_, rfl, p, C, dx, _, _, rfl, sA _ _ hp, t.cl, t.nN, fl_nx, _, rfl, _, rfl, _, rfl, x, C, dq, _, _, rfl, hxA, t.cl, t.nM, fl_mk, by show 4 ≤ sizeLine; decide, fun lt nlt => ⟨?_, fun tn ntn => ?_⟩⟩
    · have hlen := r0.len
      rw [List.length_map] at hlen
      exact lt1 _ (by rw [List.length_append, hlen]; show F.ls.length + 1 ≤ 100000; omega)
    · have sB := (sA.new nlt (o := .tup [.int F.nx, .int b, .ref sg, .int (F.mr + 1)])).new ntn (o := .tup (xs ++ [.ref lt]))
      have nxl : x ≠ lt := ne_of_none hxA nlt
      have nxt : x ≠ tn := ne_of_none (by rw [upd_ne nxl]; exact hxA) ntn
      have hlt : (upd (upd HA lt (.tup [.int F.nx, .int b, .ref sg, .int (F.mr + 1)])) tn (.tup (xs ++ [.ref lt]))) lt = some (.tup [.int F.nx, .int b, .ref sg, .int (F.mr + 1)]) := same_new ntn _ _ upd_same
      refine ⟨_, rfl, x, C, dq, _, rfl, (by rw [upd_ne nxt, upd_ne nxl]; exact hxA), t.cl, t.nL, by show 6 < 1000; decide, ?_⟩
      rw [pu_let]
      refine ⟨_, rfl, x, C, dq, _, _, rfl, upd_same, t.cl, t.nN, fl_nx, _, _, rfl, rfl, dq, _, upd_same, by show 6 < 1000; decide, ?_⟩
      rw [pu_nx]
      have sC := (sB.mut nxH (o := .ins C dq (flds (.int F.age) (.ref tn) (.int F.nx) (.int (F.mr + 1)) (.ref tg) (.int F.ct)))).mut nxH (o := .ins C dq (flds (.int F.age) (.ref tn) (.int (F.nx + 1)) (.int (F.mr + 1)) (.ref tg) (.int F.ct)))
      refine ⟨_, rfl, q x _ sC nxH ⟨dq, tn, tg, upd_same, ?_, h2.same sC⟩⟩
      have rl := r0.same sC
      refine .tup (xs := xs ++ [.ref lt]) (by rw [upd_ne nxt.symm, upd_ne nxt.symm, upd_same]) ?_
      have em : (fApp F b ss).ls.map ltD = F.ls.map ltD ++ [ltD ⟨F.nx, b, ss, F.mr + 1⟩] := by unfold fApp; rw [List.map_append]; rfl
      rw [em]
      refine rl.app (.cons (.tup (by rw [upd_ne nxl.symm, upd_ne nxl.symm]; exact hlt) (.cons (.int _) (.cons (.int _) (.cons (.tup (sC _ _ hs) (dv_strs ss)) (.cons (.int _) .nil))))) .nil)
end
end K1


set_option Elab.async false
set_option linter.all false
set_option maxRecDepth 100000
set_option maxHeartbeats 2000000
namespace K1
open PySem PySem.Spec PyProof.Rows L2 RZ StX
/-! ### data of tuples alone -/
mutual
def tO : PyData → Bool
  | .list _ => false
  | .tuple xs => tOA xs
  | .dict _ => false
  | _ => true
def tOA : List PyData → Bool
  | [] => true
  | x :: r => tO x && tOA r
end
mutual
theorem Dv.mut {H : Hp} {a : Addr} {o o' : HO} (ha : H a = some o) (no : ∀ xs, o ≠ .tup xs) : ∀ {v : V} {d : PyData}, Dv H v d → tO d = true → Dv (upd H a o') v d
  | _, _, .non, _ => .non
  | _, _, .bl b, _ => .bl b
  | _, _, .int i, _ => .int i
  | _, _, .str x, _ => .str x
  | _, _, .lst h r, n => by cases n
  | _, _, .tup h r, n => .tup (by rw [upd_ne (fun z => by subst z; rw [h] at ha; cases ha; exact no _ rfl)]; exact h) (DvA.mut ha no r n)
  | _, _, .dic h, n => by cases n
theorem DvA.mut {H : Hp} {a : Addr} {o o' : HO} (ha : H a = some o) (no : ∀ xs, o ≠ .tup xs) : ∀ {vs : List V} {ds : List PyData}, DvA H vs ds → tOA ds = true → DvA (upd H a o') vs ds
  | _, _, .nil, _ => .nil
  | _, _, .cons h r, n => .cons (Dv.mut ha no h ((Bool.and_eq_true _ _).mp n).1) (DvA.mut ha no r ((Bool.and_eq_true _ _).mp n).2)
end
theorem tO_strs : ∀ ss : List Str, tOA (ss.map PyData.str) = true
  | [] => rfl
  | s :: r => by
    show (true && tOA (r.map PyData.str)) = true
    rw [tO_strs r]; rfl
theorem tO_lt (l : Lt) : tO (ltD l) = true := by
  show (true && (true && (tOA (l.s.map PyData.str) && (true && true)))) = true
  rw [tO_strs]; rfl
theorem tO_lts : ∀ ls : List Lt, tOA (ls.map ltD) = true
  | [] => rfl
  | l :: r => by
    show (tO (ltD l) && tOA (r.map ltD)) = true
    rw [tO_lt, tO_lts r]; rfl
theorem tO_gos : ∀ gs : List (Int × Int), tOA (gs.map goD) = true
  | [] => rfl
  | l :: r => by
    show (true && tOA (r.map goD)) = true
    rw [tO_gos r]; rfl
/-! ### what the deeds make -/
def remL (ns : List Int) : List Lt → Int → List Lt × List (Int × Int) × Int
  | [], m => ([], [], m)
  | l :: r, m => if l.n ∈ ns then ((remL ns r (m + 1)).1, (m + 1, l.n) :: (remL ns r (m + 1)).2.1, (remL ns r (m + 1)).2.2) else (l :: (remL ns r m).1, (remL ns r m).2.1, (remL ns r m).2.2)
def fRem (F : Fo) (ns : List Int) : Fo := { F with ls := (remL ns F.ls F.mr).1, go := F.go ++ (remL ns F.ls F.mr).2.1, mr := (remL ns F.ls F.mr).2.2 }
def newS (ns : List Int) (g : List Str → List Str) (l : Lt) : List Str := if l.n ∈ ns then g l.s else l.s
def sigL (ns : List Int) (g : List Str → List Str) : List Lt → Int → List Lt × Int
  | [], m => ([], m)
  | l :: r, m => if newS ns g l = l.s then (l :: (sigL ns g r m).1, (sigL ns g r m).2) else (⟨l.n, l.b, newS ns g l, m + 1⟩ :: (sigL ns g r (m + 1)).1, (sigL ns g r (m + 1)).2)
def fSig (F : Fo) (ns : List Int) (g : List Str → List Str) : Fo := { F with ls := (sigL ns g F.ls F.mr).1, mr := (sigL ns g F.ls F.mr).2 }
abbrev sRem : Stmt := mS 12
abbrev nRem : List Str := ["self", "numbers", "chosen", "folder", "letters", "gone", "letter"]
abbrev pRem : List Str := ["self", "numbers"]
theorem scRem : FnScope nRem pRem (defScope sRem) := ⟨rfl, rfl, rfl, by decide +kernel, rfl, by decide +kernel, by decide +kernel⟩
/-- what a deed on numbers wants -/
structure NumsAt (H : Hp) (a : Addr) (ns : List Int) : Prop where
  at_ : SeqH H a (ns.map V.int)
  one : ∀ n ∈ ns, 1 ≤ n
  len : ns.length ≤ 1000
def spRem (C : Addr) : Sp := fun vs H Q _ => ∃ (p na : Addr) (F : Fo) (ns : List Int), vs = [.ref p, .ref na] ∧ FoAt C H p F ∧ 1 ≤ F.age ∧ NumsAt H na ns ∧ F.ls.length ≤ 1000 ∧ F.go.length ≤ 1000 ∧ ∀ q H', Same H H' → H q = none → FoAt C H' q (fRem F ns) → Q (.ref q) H'
theorem drop_cons {α : Type} {l : List α} {i : Nat} {x : α} (h : l[i]? = some x) : l.drop i = x :: l.drop (i + 1) := by
  have hi := lt_of_get h
  rw [List.drop_eq_getElem_cons hi]
  congr 1
  rw [List.getElem?_eq_getElem hi] at h
  exact Option.some.inj h
section
variable {P : Program} {w : World} {K : PySem.W.Frag} {mg : Str → Option Value} {base : Heap} {C : Addr}
theorem ok_rem {f : Addr} {fd : FuncData} (T : Bk mg) (t : ClT K mg C) (D_check_numbers : Def P w K mg base CX0 4 "_check_numbers" nCkNums spCkNums) (M_copied : MDef P w K mg base CX0 5 C "_copied" nSelf (spCopied C))
    (F : Fun K "removed" "Folder.removed" sRem f fd) : FnOk P w K mg base CX0 6 f fd pRem (spRem C) := by
  have nd := scRem.nd
  refine F.ok scRem (fun vs H Q E h => ?_) (fun cdv A outer s H vs Q E hr h => ?_)
  · obtain ⟨p, na, F, ns, rfl, _⟩ := h
    rfl
  · obtain ⟨p, na, F, ns, rfl, ⟨dx, tl, tg, hp, h1, h2⟩, ha, hn, hl, hgl, q⟩ := h
    refine ⟨_, pss_cons (ps_expr (pe_def D_check_numbers (hr.mono (by decide)) rfl pass0 (pa_cons (pv 1) pa_nil)))
 (pss_cons (ps_set (i := 2) nd rfl (Or.inl rfl) (pe_callTy (cr_setI (P := P) (w := w) (K := K) rfl rfl rfl rfl) (by rfl) T.set PyProof.Rows.boot_set (pa_cons (pv 1) pa_nil)))
 (pss_cons (ps_set (i := 3) nd rfl (Or.inl rfl) (pe_mdef0 M_copied t.cl (hr.mono (by decide)) pass0 (pv 0)))
 (pss_cons (ps_set (i := 4) nd rfl (Or.inl rfl) (pe_lst pa_nil))
 (pss_cons (ps_set (i := 5) nd rfl (Or.inl rfl) (pe_lst pa_nil))
 (C8.pss_cut (ps_for PassesOwn.never rfl (pi_tupK (K := K) rfl (pe_fld (pv 0) rfl)) (pg_name (i := 6) nd rfl (Or.inl rfl))
   (pss_one (ps_if (pt_cmpR (or_sinI (P := P) (w := w) rfl rfl) (pe_ix (ix_tupK (K := K) rfl) (pv 6) pe_int (fun _ _ => rfl)) (pv 2) (by rfl))
     (pss_cons (ps_fldaug (pv 3) pe_int in_add) (pss_one (ps_expr (pe_bm PySem.F.plainAttrs_list PySem.F.slot_list_append PySem.F.type_list_append mt_append (pv 5) (pa_cons (pe_tup (pa_cons (pe_fld (pv 3) rfl) (pa_cons (pe_ix (ix_tupK (K := K) rfl) (pv 6) pe_int (fun _ _ => rfl)) pa_nil))) pa_nil)))))
     (pss_one (ps_expr (pe_bm PySem.F.plainAttrs_list PySem.F.slot_list_append PySem.F.type_list_append mt_append (pv 4) (pa_cons (pv 6) pa_nil)))))))
 (pss_cons (ps_fld (pv 3) (pe_callTy (call_tuple_ofK (K := K) rfl) (by rfl) T.tuple PyProof.Rows.boot_tuple (pa_cons (pv 4) pa_nil)) rfl)
 (pss_cons (ps_fld (pv 3) (pe_tup (pa_star (pe_fld (pv 0) rfl) (pa_star (pv 5) pa_nil))) rfl)
 (pss_one (ps_ret (pv 3)))))))))), ?_⟩
    obtain ⟨xs, e0, r0⟩ := Dv.tups h1
    obtain ⟨gs, g0, gr0⟩ := Dv.tups h2
    refine ⟨_, rfl, na, ns, rfl, hn.at_, hn.one, hn.len, fun H1 s1 => ?_⟩
    refine ⟨_, rfl, na, ns, rfl, hn.at_.same s1, hn.len, fun cs nn ncs => ?_⟩
    have s2 := s1.new ncs (o := SetI P w cs (fun j => decide (j ∈ ns)) nn)
    have hcs2 : (upd H1 cs (SetI P w cs (fun j => decide (j ∈ ns)) nn)) cs = _ := upd_same
    generalize upd H1 cs (SetI P w cs (fun j => decide (j ∈ ns)) nn) = H2 at s2 hcs2
    refine ⟨_, rfl, p, dx, _, rfl, s2 _ _ hp, fl_no (by decide +kernel), p, dx, tl, tg, F.age, F.nx, F.mr, F.ct, rfl, s2 _ _ hp, ha, fun x dq H3 s3 nx hx => ?_⟩
    have s23 := s2.trans s3
    have nxH : H x = none := s2.free nx
    have hcs3 := s3 _ _ hcs2
    refine ⟨Nat.zero_le _, fun lk nlk => ⟨Nat.zero_le _, fun lg nlg => ?_⟩⟩
    have s4 := (s23.new nlk (o := .lst [])).new nlg (o := .lst [])
    have nlkH : H lk = none := s23.free nlk
    have nlgH : H lg = none := (s23.new nlk (o := .lst [])).free nlg
    have xlk : x ≠ lk := ne_of_none hx nlk
    have xlg : x ≠ lg := ne_of_none (by rw [upd_ne xlk]; exact hx) nlg
    have lkg : lk ≠ lg := ne_of_none (show (upd H3 lk (.lst [])) lk = some (.lst []) from upd_same) nlg
    have csk : cs ≠ lk := ne_of_none hcs3 nlk
    have csg : cs ≠ lg := ne_of_none (by rw [upd_ne csk]; exact hcs3) nlg
    have csx : cs ≠ x := fun z => by rw [z] at hcs3; rw [hx] at hcs3; simp [SetI] at hcs3
    refine ⟨fun σ G => ∃ v6 ks kept gg gone m, σ = [some (.ref p), some (.ref na), some (.ref cs), some (.ref x), some (.ref lk), some (.ref lg), v6] ∧ Same H G ∧ G x = some (.ins C dq (flds (.int F.age) (.ref tl) (.int F.nx) (.int m) (.ref tg) (.int F.ct))) ∧ G lk = some (.lst ks) ∧ DvA G ks (kept.map ltD) ∧ G lg = some (.lst gg) ∧ DvA G gg (gone.map goD) ∧
      remL ns F.ls F.mr = (kept, gone, m) ∧ kept.length ≤ 1000 ∧ gone.length ≤ 1000, ?_, ?_⟩
    · refine ⟨_, rfl, p, C, dx, _, _, rfl, s4 _ _ hp, t.cl, t.nL, fl_let, tl, rfl, ⟨_, st (s4 _ _ e0)⟩, for_tup (K := K) (a := tl) (xs := xs) (fun i σ G => ∃ v6 ks kept gg gone m, σ = [some (.ref p), some (.ref na), some (.ref cs), some (.ref x), some (.ref lk), some (.ref lg), v6] ∧ Same H G ∧ G cs = some (SetI P w cs (fun j => decide (j ∈ ns)) nn) ∧ G x = some (.ins C dq (flds (.int F.age) (.ref tl) (.int F.nx) (.int m) (.ref tg) (.int F.ct))) ∧ G lk = some (.lst ks) ∧ DvA G ks (kept.map ltD) ∧ G lg = some (.lst gg) ∧ DvA G gg (gone.map goD) ∧
          remL ns F.ls F.mr = (kept ++ (remL ns (F.ls.drop i) m).1, gone ++ (remL ns (F.ls.drop i) m).2.1, (remL ns (F.ls.drop i) m).2.2) ∧ kept.length ≤ i ∧ gone.length ≤ i) ?_ ?_ ?_ ?_⟩
      · exact ⟨none, [], [], [], [], F.mr, rfl, s4, (by rw [upd_ne csg, upd_ne csk]; exact hcs3), (by rw [upd_ne xlg, upd_ne xlk]; exact hx), (by rw [upd_ne lkg]; exact upd_same), .nil, upd_same, .nil, rfl, Nat.le_refl _, Nat.le_refl _⟩
      · rintro i σ G _ ⟨v6, ks, kept, gg, gone, m, rfl, sG, _⟩
        exact st (sG _ _ e0)
      · rintro i y σ G hy ⟨v6, ks, kept, gg, gone, m, rfl, sG, hcs, hx, hk, dk, hg, dg, er, l1, l2⟩
        have hi := lt_of_get hy
        have hlen := r0.len
        rw [List.length_map] at hlen
        obtain ⟨e, he, hde⟩ := (r0.same sG).get hy
        rw [List.getElem?_map] at he
        cases hF : F.ls[i]? with
        | none => rw [hF] at he; cases he
        | some l =>
          rw [hF] at he
          obtain rfl := (Option.some.inj he).symm
          rw [drop_cons hF] at er
          obtain ⟨ta, us, rfl, hta, hus⟩ : ∃ ta us, y = .ref ta ∧ G ta = some (.tup us) ∧ DvA G us [.int l.n, .int l.b, .tuple (l.s.map PyData.str), .int l.m] := by
            cases hde with
            | tup h r => exact ⟨_, _, rfl, h, r⟩
          obtain ⟨u0, ur, rfl⟩ : ∃ u0 ur, us = u0 :: ur := by
            cases hus with
            | cons h r => exact ⟨_, _, rfl⟩
          have hu0 : u0 = .int l.n := by
            cases hus with
            | cons h r => cases h; rfl
          subst hu0
          refine ⟨_, rfl, ta, _, 0, .int l.n, rfl, rfl, st hta, atI_nat (j := 0) rfl, _, rfl, l.n, cs, _, nn, rfl, rfl, hcs, _, rfl, ?_⟩
          by_cases c : l.n ∈ ns
          · refine itbT (decide_eq_true c) ?_
            have er' : remL ns F.ls F.mr = ((kept ++ (remL ns (F.ls.drop (i + 1)) (m + 1)).1, (gone ++ [(m + 1, l.n)]) ++ (remL ns (F.ls.drop (i + 1)) (m + 1)).2.1, (remL ns (F.ls.drop (i + 1)) (m + 1)).2.2) : List Lt × List (Int × Int) × Int) := by
              rw [er]
              show (kept ++ (if l.n ∈ ns then _ else _ : List Lt × List (Int × Int) × Int).1, _, _) = _
              simp only [remL, if_pos c, List.append_assoc, List.singleton_append]
            refine ⟨_, rfl, x, C, dq, _, _, rfl, hx, t.cl, t.nM, fl_mk, _, _, rfl, rfl, dq, _, hx, by show 6 < 1000; decide, ?_⟩
            rw [pu_mk]
            have xk : x ≠ lk := fun z => by rw [z, hk] at hx; cases hx
            have xg : x ≠ lg := fun z => by rw [z, hg] at hx; cases hx
            have kg : lk ≠ lg := lkg
            have sA := sG.mut nxH (o := .ins C dq (flds (.int F.age) (.ref tl) (.int F.nx) (.int (m + 1)) (.ref tg) (.int F.ct)))
            have dkA := dk.mut (o' := .ins C dq (flds (.int F.age) (.ref tl) (.int F.nx) (.int (m + 1)) (.ref tg) (.int F.ct))) hx (fun _ z => by cases z) (tO_lts _)
            have dgA := dg.mut (o' := .ins C dq (flds (.int F.age) (.ref tl) (.int F.nx) (.int (m + 1)) (.ref tg) (.int F.ct))) hx (fun _ z => by cases z) (tO_gos _)
            have hxA : (upd G x (.ins C dq (flds (.int F.age) (.ref tl) (.int F.nx) (.int (m + 1)) (.ref tg) (.int F.ct)))) x = _ := upd_same
            have hkA : (upd G x (.ins C dq (flds (.int F.age) (.ref tl) (.int F.nx) (.int (m + 1)) (.ref tg) (.int F.ct)))) lk = some (.lst ks) := by rw [upd_ne xk.symm]; exact hk
            have hgA : (upd G x (.ins C dq (flds (.int F.age) (.ref tl) (.int F.nx) (.int (m + 1)) (.ref tg) (.int F.ct)))) lg = some (.lst gg) := by rw [upd_ne xg.symm]; exact hg
            have hcA : (upd G x (.ins C dq (flds (.int F.age) (.ref tl) (.int F.nx) (.int (m + 1)) (.ref tg) (.int F.ct)))) cs = some (SetI P w cs (fun j => decide (j ∈ ns)) nn) := by rw [upd_ne csx]; exact hcs
            have htA : (upd G x (.ins C dq (flds (.int F.age) (.ref tl) (.int F.nx) (.int (m + 1)) (.ref tg) (.int F.ct)))) ta = some (.tup (.int l.n :: ur)) := by rw [upd_ne (fun z => by rw [z, hx] at hta; cases hta)]; exact hta
            generalize upd G x (.ins C dq (flds (.int F.age) (.ref tl) (.int F.nx) (.int (m + 1)) (.ref tg) (.int F.ct))) = GA at sA dkA dgA hxA hkA hgA hcA htA
            refine ⟨_, rfl, .inl ⟨rfl, _, sq hgA⟩, _, rfl, x, C, dq, _, _, rfl, hxA, t.cl, t.nM, fl_mk, _, rfl, ta, _, 0, .int l.n, rfl, rfl, st htA, atI_nat (j := 0) rfl, by show 2 ≤ sizeLine; decide, fun gn ngn => ?_⟩
            have sB := same_new (o := .tup [.int (m + 1), .int l.n]) ngn
            refine ⟨lg, _, _, rfl, rfl, sB _ _ hgA, lt2 _ (by rw [dgA.len, List.length_map]; omega), ?_⟩
            have hgB := sB _ _ hgA
            refine ⟨some (.ref ta), ks, kept, gg ++ [.ref gn], gone ++ [(m + 1, l.n)], m + 1, rfl, (sA.trans sB).mut nlgH, (by rw [upd_ne csg]; exact sB _ _ hcA), (by rw [upd_ne xg]; exact sB _ _ hxA), (by rw [upd_ne kg]; exact sB _ _ hkA), (dkA.same sB).mut hgB (fun _ z => by cases z) (tO_lts _), upd_same, ?_, er', by omega, by rw [List.length_append]; show gone.length + 1 ≤ i + 1; omega⟩
            rw [List.map_append]
            exact ((dgA.same sB).app (.cons (.tup upd_same (.cons (.int _) (.cons (.int _) .nil))) .nil)).mut hgB (fun _ z => by cases z) (by rw [show gone.map goD ++ [PyData.tuple [.int (m + 1), .int l.n]] = (gone ++ [(m + 1, l.n)]).map goD by rw [List.map_append]; rfl]; exact tO_gos _)
          · refine itbF (decide_eq_false c) ?_
            have er' : remL ns F.ls F.mr = ((kept ++ [l]) ++ (remL ns (F.ls.drop (i + 1)) m).1, gone ++ (remL ns (F.ls.drop (i + 1)) m).2.1, (remL ns (F.ls.drop (i + 1)) m).2.2) := by
              rw [er]
              simp only [remL, if_neg c, List.append_assoc, List.singleton_append]
            refine ⟨_, rfl, .inl ⟨rfl, _, sq hk⟩, _, rfl, lk, _, _, rfl, rfl, hk, lt2 _ (by rw [dk.len, List.length_map]; omega), ?_⟩
            have xk : x ≠ lk := fun z => by rw [z, hk] at hx; cases hx
            refine ⟨some (.ref ta), ks ++ [.ref ta], kept ++ [l], gg, gone, m, rfl, sG.mut nlkH, (by rw [upd_ne csk]; exact hcs), (by rw [upd_ne xk]; exact hx), upd_same, ?_, (by rw [upd_ne lkg.symm]; exact hg), dg.mut hk (fun _ z => by cases z) (tO_gos _), er', by rw [List.length_append]; show kept.length + 1 ≤ i + 1; omega, by omega⟩
            rw [List.map_append]
            exact (dk.app (.cons (.tup hta hus) .nil)).mut hk (fun _ z => by cases z) (by rw [show kept.map ltD ++ [PyData.tuple [.int l.n, .int l.b, .tuple (l.s.map PyData.str), .int l.m]] = (kept ++ [l]).map ltD by rw [List.map_append]; rfl]; exact tO_lts _)
      · rintro σ G ⟨v6, ks, kept, gg, gone, m, rfl, sG, hcs, hx, hk, dk, hg, dg, er, l1, l2⟩
        have hlen := r0.len
        rw [List.length_map] at hlen
        rw [hlen, List.drop_length] at er
        refine ⟨v6, ks, kept, gg, gone, m, rfl, sG, hx, hk, dk, hg, dg, ?_, by omega, by omega⟩
        rw [er]
        simp [remL]
    · rintro σ G ⟨v6, ks, kept, gg, gone, m, rfl, sG, hx, hk, dk, hg, dg, er, l1, l2⟩
      refine ⟨_, rfl, lk, ks, rfl, .inl ⟨sq hk, fun tk ntk => ?_⟩⟩
      have sA := same_new (o := .tup ks) ntk
      refine ⟨_, rfl, x, C, dq, _, rfl, sA _ _ hx, t.cl, t.nL, by show 6 < 1000; decide, ?_⟩
      rw [pu_let]
      have nxt : x ≠ tk := ne_of_none hx ntk
      have sB := ((sG.trans sA).mut nxH (o := .ins C dq (flds (.int F.age) (.ref tk) (.int F.nx) (.int m) (.ref tg) (.int F.ct))))
      have hkB : (upd (upd G tk (.tup ks)) x (.ins C dq (flds (.int F.age) (.ref tk) (.int F.nx) (.int m) (.ref tg) (.int F.ct)))) tk = some (.tup ks) := by rw [upd_ne nxt.symm]; exact upd_same
      have hxB : (upd (upd G tk (.tup ks)) x (.ins C dq (flds (.int F.age) (.ref tk) (.int F.nx) (.int m) (.ref tg) (.int F.ct)))) x = _ := upd_same
      have xg : x ≠ lg := fun z => by rw [z, hg] at hx; cases hx
      have hgB : (upd (upd G tk (.tup ks)) x (.ins C dq (flds (.int F.age) (.ref tk) (.int F.nx) (.int m) (.ref tg) (.int F.ct)))) lg = some (.lst gg) := by rw [upd_ne xg.symm]; exact sA _ _ hg
      have dkB := (dk.same sA).mut (o' := .ins C dq (flds (.int F.age) (.ref tk) (.int F.nx) (.int m) (.ref tg) (.int F.ct))) (sA _ _ hx) (fun _ z => by cases z) (tO_lts _)
      have dgB := (dg.same sA).mut (o' := .ins C dq (flds (.int F.age) (.ref tk) (.int F.nx) (.int m) (.ref tg) (.int F.ct))) (sA _ _ hx) (fun _ z => by cases z) (tO_gos _)
      generalize upd (upd G tk (.tup ks)) x (.ins C dq (flds (.int F.age) (.ref tk) (.int F.nx) (.int m) (.ref tg) (.int F.ct))) = GB at sB hkB hxB hgB dkB dgB
      refine ⟨_, rfl, p, C, dx, _, _, rfl, sB _ _ hp, t.cl, t.nG, fl_gone, tg, gs, rfl, .inl (st (sB _ _ g0)), _, rfl, lg, gg, rfl, .inr (sq hgB), ?_, fun tn ntn => ?_⟩
      · rw [List.append_nil, List.length_append, gr0.len, dgB.len, List.length_map, List.length_map]
        exact lt1 _ (by omega)
      · rw [List.append_nil]
        have sC := same_new (o := .tup (gs ++ gg)) ntn
        have nxn : x ≠ tn := ne_of_none hxB ntn
        refine ⟨_, rfl, x, C, dq, _, rfl, sC _ _ hxB, t.cl, t.nG, by show 6 < 1000; decide, ?_⟩
        rw [pu_gone]
        have sD := (sB.trans sC).mut nxH (o := .ins C dq (flds (.int F.age) (.ref tk) (.int F.nx) (.int m) (.ref tn) (.int F.ct)))
        have hxC := sC _ _ hxB
        refine ⟨_, rfl, q x _ sD nxH ?_⟩
        have ef : fRem F ns = { F with ls := kept, go := F.go ++ gone, mr := m } := by unfold fRem; rw [er]
        rw [ef]
        refine ⟨dq, tk, tn, upd_same, .tup (by rw [upd_ne nxt.symm]; exact sC _ _ hkB) ((dkB.same sC).mut hxC (fun _ z => by cases z) (tO_lts _)), .tup (by rw [upd_ne nxn.symm]; exact upd_same) ?_⟩
        show DvA _ (gs ++ gg) ((F.go ++ gone).map goD)
        rw [List.map_append]
        exact (gr0.same sD).app ((dgB.same sC).mut hxC (fun _ z => by cases z) (tO_gos _))
end
end K1


set_option Elab.async false
set_option linter.all false
set_option maxRecDepth 100000
set_option maxHeartbeats 2000000
namespace K1
open PySem PySem.Spec PyProof.Rows L2 RZ StX
theorem nd_strs : ∀ ss : List Str, noDicA (ss.map PyData.str) = true
  | [] => rfl
  | s :: r => by
    show (true && noDicA (r.map PyData.str)) = true
    rw [nd_strs r]; rfl
theorem dva_strs {H : Hp} : ∀ {xs : List V} {ss : List Str}, DvA H xs (ss.map PyData.str) → xs = ss.map V.str
  | _, [], .nil => rfl
  | _, _ :: _, .cons (.str _) r => by rw [dva_strs r]; rfl
theorem dv_lt {H : Hp} {y : V} {l : Lt} (h : Dv H y (ltD l)) : ∃ ta sa, y = .ref ta ∧ H ta = some (.tup [.int l.n, .int l.b, .ref sa, .int l.m]) ∧ H sa = some (.tup (l.s.map V.str)) := by
  cases h with
  | tup h r =>
  cases r with
  | cons h1 r =>
  cases r with
  | cons h2 r =>
  cases r with
  | cons h3 r =>
  cases r with
  | cons h4 r =>
  cases r
  cases h1
  cases h2
  cases h4
  cases h3 with
  | tup e q => exact ⟨_, _, rfl, h, by rw [e, dva_strs q]⟩
theorem dv_lt_of {H : Hp} {l : Lt} {ta sa : Addr} (h : H ta = some (.tup [.int l.n, .int l.b, .ref sa, .int l.m])) (h2 : H sa = some (.tup (l.s.map V.str))) : Dv H (.ref ta) (ltD l) :=
  .tup h (.cons (.int _) (.cons (.int _) (.cons (.tup h2 (dv_strs _)) (.cons (.int _) .nil))))
abbrev sSig : Stmt := mS 15
abbrev nSig : List Str := ["self", "numbers", "renewed", "chosen", "folder", "letters", "number", "body", "signs", "mark", "wanted"]
abbrev pSig : List Str := ["self", "numbers", "renewed"]
theorem scSig : FnScope nSig pSig (defScope sSig) := ⟨rfl, rfl, rfl, by decide +kernel, rfl, by decide +kernel, by decide +kernel⟩
/-- what _signed makes of a lambda that makes g of the signs -/
def TSig (C : Addr) (g : List Str → List Str) : V → V → (V → Hp → VK → Prop) → Hp → VK → Prop := fun x y tl H Q => ∃ p na F ns, x = .ref p ∧ y = .ref na ∧ FoAt C H p F ∧ 1 ≤ F.age ∧ NumsAt H na ns ∧ F.ls.length ≤ 1000 ∧ (∀ l ∈ F.ls, OkSs l.s) ∧ (∀ ss, OkSs ss → OkSs (g ss)) ∧
  (∀ a ss H' Q', Same H H' → OkSs ss → H' a = some (.tup (ss.map V.str)) → (∀ b H'', Same H' H'' → H'' b = some (.tup ((g ss).map V.str)) → Q' (.ref b) H'') → tl (.ref a) H' Q') ∧
  ∀ q H', Same H H' → H q = none → FoAt C H' q (fSig F ns g) → Q (.ref q) H'
theorem newS_u {ns : List Int} {g : List Str → List Str} {l : Lt} (hl : OkSs l.s) (hg : ∀ ss, OkSs ss → OkSs (g ss)) : OkSs (newS ns g l) := by
  unfold newS
  by_cases c : l.n ∈ ns
  · rw [if_pos c]; exact hg _ hl
  · rw [if_neg c]; exact hl
theorem signed_gives {X : Cx} {C c0 : Addr} {cdg : Value} {q : Str} {g : List Str → List Str} (T : Bk X.mg) (t : ClT X.K X.mg C) (M_copied : MDef X.prog X.w X.K X.mg X.base CX0 5 C "_copied" nSelf (spCopied C)) :
    LamY.GivesM 6 X nSig "Folder._signed" (defScope sSig) c0 cdg (defBody sSig) 2 "renewed" q (TSig C g) := by
  intro f c' s H Q x0 y0 tl hr hcall hc h
  have nd := scSig.nd
  obtain ⟨p, na, F, ns, rfl, rfl, ⟨dx, tl', tg, hp, h1, h2⟩, ha, hn, hl, hu, hg, hlam, q⟩ := h
  refine ⟨_, pss_cons (ps_set (i := 3) nd rfl (Or.inl rfl) (pe_callTy (cr_setI (P := X.prog) (w := X.w) (K := X.K) rfl rfl rfl rfl) (by rfl) T.set PyProof.Rows.boot_set (pa_cons (pv 1) pa_nil)))
 (pss_cons (ps_set (i := 4) nd rfl (Or.inl rfl) (pe_mdef0 M_copied t.cl (hr.mono (by decide)) pass0 (pv 0)))
 (pss_cons (ps_set (i := 5) nd rfl (Or.inl rfl) (pe_lst pa_nil))
 (C8.pss_cut (ps_for PassesOwn.never rfl (pi_tupK (K := X.K) rfl (pe_fld (pv 0) rfl)) (pg_tup rfl (pgs_cons (pg_name (i := 6) nd rfl (Or.inl rfl)) (pgs_cons (pg_name (i := 7) nd rfl (Or.inl rfl)) (pgs_cons (pg_name (i := 8) nd rfl (Or.inl rfl)) (pgs_cons (pg_name (i := 9) nd rfl (Or.inl rfl)) pgs_nil)))))
   (C8.pss_cut (ps_set (i := 10) nd rfl (Or.inl rfl) (pe_ifExp (pt_cmpR (or_sinI (P := X.prog) (w := X.w) rfl rfl) (pv 6) (pv 3) (by rfl)) (hcall _ _ _ _ (pv 8) rfl) (pv 8)))
   (pss_cons (ps_if (pt_cmpR (op_neDK (K := X.K) rfl hr.units) (pv 10) (pv 8) (nomark _))
     (pss_cons (ps_fldaug (pv 4) pe_int in_add) (pss_one (ps_set (i := 9) nd rfl (Or.inl rfl) (pe_fld (pv 4) rfl))))
     pss_nil)
   (pss_one (ps_expr (pe_bm PySem.F.plainAttrs_list PySem.F.slot_list_append PySem.F.type_list_append mt_append (pv 5) (pa_cons (pe_tup (pa_cons (pv 6) (pa_cons (pv 7) (pa_cons (pv 10) (pa_cons (pv 9) pa_nil))))) pa_nil)))))))
 (pss_cons (ps_fld (pv 4) (pe_callTy (call_tuple_ofK (K := X.K) rfl) (by rfl) T.tuple PyProof.Rows.boot_tuple (pa_cons (pv 5) pa_nil)) rfl)
 (pss_one (ps_ret (pv 4))))))), ?_⟩
  obtain ⟨xs, e0, r0⟩ := Dv.tups h1
  refine ⟨_, rfl, na, ns, rfl, hn.at_, hn.len, fun cs nn ncs => ?_⟩
  have s2 := same_new (H := H) ncs (o := SetI X.prog X.w cs (fun j => decide (j ∈ ns)) nn)
  have hcs2 : (upd H cs (SetI X.prog X.w cs (fun j => decide (j ∈ ns)) nn)) cs = some (SetI X.prog X.w cs (fun j => decide (j ∈ ns)) nn) := upd_same
  generalize upd H cs (SetI X.prog X.w cs (fun j => decide (j ∈ ns)) nn) = H2 at s2 hcs2
  refine ⟨_, rfl, p, dx, _, rfl, s2 _ _ hp, fl_no (by decide +kernel), p, dx, tl', tg, F.age, F.nx, F.mr, F.ct, rfl, s2 _ _ hp, ha, fun x dq H3 s3 nx hx => ?_⟩
  have s23 := s2.trans s3
  have nxH : H x = none := s2.free nx
  have hcs3 := s3 _ _ hcs2
  refine ⟨Nat.zero_le _, fun lk nlk => ?_⟩
  have s4 := s23.new nlk (o := .lst [])
  have nlkH : H lk = none := s23.free nlk
  have xlk : x ≠ lk := ne_of_none hx nlk
  have csk : cs ≠ lk := ne_of_none hcs3 nlk
  have csx : cs ≠ x := fun z => by rw [z] at hcs3; rw [hx] at hcs3; simp [SetI] at hcs3
  refine ⟨fun σ G => ∃ v6 v7 v8 v9 v10 ks kept m, σ = [some (.ref p), some (.ref na), some (.ref f), some (.ref cs), some (.ref x), some (.ref lk), v6, v7, v8, v9, v10] ∧ Same H G ∧ G x = some (.ins C dq (flds (.int F.age) (.ref tl') (.int F.nx) (.int m) (.ref tg) (.int F.ct))) ∧ G lk = some (.lst ks) ∧ DvA G ks (kept.map ltD) ∧
      sigL ns g F.ls F.mr = (kept, m) ∧ kept.length ≤ 1000, ?_, ?_⟩
  · refine ⟨_, rfl, p, C, dx, _, _, rfl, s4 _ _ hp, t.cl, t.nL, fl_let, tl', rfl, ⟨_, st (s4 _ _ e0)⟩, for_tup (K := X.K) (a := tl') (xs := xs) (fun i σ G => ∃ v6 v7 v8 v9 v10 ks kept m, σ = [some (.ref p), some (.ref na), some (.ref f), some (.ref cs), some (.ref x), some (.ref lk), v6, v7, v8, v9, v10] ∧ Same H G ∧ G cs = some (SetI X.prog X.w cs (fun j => decide (j ∈ ns)) nn) ∧ G x = some (.ins C dq (flds (.int F.age) (.ref tl') (.int F.nx) (.int m) (.ref tg) (.int F.ct))) ∧ G lk = some (.lst ks) ∧ DvA G ks (kept.map ltD) ∧
          sigL ns g F.ls F.mr = (kept ++ (sigL ns g (F.ls.drop i) m).1, (sigL ns g (F.ls.drop i) m).2) ∧ kept.length ≤ i) ?_ ?_ ?_ ?_⟩
    · exact ⟨none, none, none, none, none, [], [], F.mr, rfl, s4, (by rw [upd_ne csk]; exact hcs3), (by rw [upd_ne xlk]; exact hx), upd_same, .nil, rfl, Nat.le_refl _⟩
    · rintro i σ G _ ⟨v6, v7, v8, v9, v10, ks, kept, m, rfl, sG, _⟩
      exact st (sG _ _ e0)
    · rintro i y σ G hy ⟨v6, v7, v8, v9, v10, ks, kept, m, rfl, sG, hcs, hx, hk, dk, er, l1⟩
      have hi := lt_of_get hy
      have hlen := r0.len
      rw [List.length_map] at hlen
      obtain ⟨e, he, hde⟩ := (r0.same sG).get hy
      rw [List.getElem?_map] at he
      cases hF : F.ls[i]? with
      | none => rw [hF] at he; cases he
      | some l =>
        rw [hF] at he
        obtain rfl := (Option.some.inj he).symm
        rw [drop_cons hF] at er
        have hlU : OkSs l.s := hu l (List.mem_of_getElem? hF)
        have hnU : OkSs (newS ns g l) := newS_u hlU hg
        obtain ⟨ta, sa, rfl, hta, hsa⟩ := dv_lt hde
        refine ⟨ta, _, rfl, st hta, rfl, _, _, rfl, _, _, rfl, _, _, rfl, _, _, rfl, rfl, ?_⟩
        refine ⟨fun σ2 G2 => ∃ b, σ2 = [some (.ref p), some (.ref na), some (.ref f), some (.ref cs), some (.ref x), some (.ref lk), some (.int l.n), some (.int l.b), some (.ref sa), some (.int l.m), some (.ref b)] ∧ Same G G2 ∧ G2 b = some (.tup ((newS ns g l).map V.str)), ?_, ?_⟩
        · refine ⟨_, rfl, _, rfl, l.n, cs, _, nn, rfl, rfl, hcs, _, rfl, ?_⟩
          by_cases c : l.n ∈ ns
          · refine itbT (decide_eq_true c) ⟨rfl, _, rfl, sG _ _ hc, hlam sa l.s G _ sG hlU hsa fun b G2 s2 hb => ?_⟩
            exact ⟨b, rfl, s2, by unfold newS; rw [if_pos c]; exact hb⟩
          · refine itbF (decide_eq_false c) ⟨_, rfl, ?_⟩
            exact ⟨sa, rfl, fun _ _ h => h, by unfold newS; rw [if_neg c]; exact hsa⟩
        · rintro σ2 G2 ⟨b, rfl, s2, hb⟩
          have sG2 := sG.trans s2
          have hsa2 := s2 _ _ hsa
          have hx2 := s2 _ _ hx
          have hk2 := s2 _ _ hk
          have hcs2 := s2 _ _ hcs
          have dk2 := dk.same s2
          refine ⟨_, rfl, _, rfl, .tuple ((newS ns g l).map PyData.str), .tuple (l.s.map PyData.str), (Dv.tup hb (dv_strs _)).dp (nd_strs _), (Dv.tup hsa2 (dv_strs _)).dp (nd_strs _), g_shape hnU.ok, g_shape hlU.ok, _, rfl, ?_⟩
          rw [g_eqv]
          have xk : x ≠ lk := fun z => by rw [z, hk] at hx; cases hx
          by_cases c : newS ns g l = l.s
          · refine itbF (by rw [decide_eq_true c]; rfl) ?_
            refine ⟨_, rfl, .inl ⟨rfl, _, sq hk2⟩, _, rfl, _, rfl, _, rfl, _, rfl, by show 4 ≤ sizeLine; decide, fun nt nnt => ?_⟩
            have sB := same_new (o := .tup [.int l.n, .int l.b, .ref b, .int l.m]) nnt
            have hkB := sB _ _ hk2
            refine ⟨lk, _, _, rfl, rfl, hkB, lt2 _ (by rw [dk2.len, List.length_map]; omega), ?_⟩
            have er' : sigL ns g F.ls F.mr = ((kept ++ [l]) ++ (sigL ns g (F.ls.drop (i + 1)) m).1, (sigL ns g (F.ls.drop (i + 1)) m).2) := by
              rw [er]
              simp only [sigL, if_pos c, List.append_assoc, List.singleton_append]
            refine ⟨_, _, _, _, _, ks ++ [.ref nt], kept ++ [l], m, rfl, (sG2.trans sB).mut nlkH, (by rw [upd_ne csk]; exact sB _ _ hcs2), (by rw [upd_ne xk]; exact sB _ _ hx2), upd_same, ?_, er', by rw [List.length_append]; show kept.length + 1 ≤ i + 1; omega⟩
            rw [List.map_append]
            refine ((dk2.same sB).app (.cons (dv_lt_of upd_same (sB _ _ ?_)) .nil)).mut hkB (fun _ z => by cases z) (by rw [show kept.map ltD ++ [ltD l] = (kept ++ [l]).map ltD by rw [List.map_append]; rfl]; exact tO_lts _)
            rw [← c]; exact hb
          · refine itbT (by rw [decide_eq_false c]; rfl) ?_
            refine ⟨_, rfl, x, C, dq, _, _, rfl, hx2, t.cl, t.nM, fl_mk, _, _, rfl, rfl, dq, _, hx2, by show 6 < 1000; decide, ?_⟩
            rw [pu_mk]
            have sA := sG2.mut nxH (o := .ins C dq (flds (.int F.age) (.ref tl') (.int F.nx) (.int (m + 1)) (.ref tg) (.int F.ct)))
            have dkA := dk2.mut (o' := .ins C dq (flds (.int F.age) (.ref tl') (.int F.nx) (.int (m + 1)) (.ref tg) (.int F.ct))) hx2 (fun _ z => by cases z) (tO_lts _)
            have hxA : (upd G2 x (.ins C dq (flds (.int F.age) (.ref tl') (.int F.nx) (.int (m + 1)) (.ref tg) (.int F.ct)))) x = some (.ins C dq (flds (.int F.age) (.ref tl') (.int F.nx) (.int (m + 1)) (.ref tg) (.int F.ct))) := upd_same
            have hkA : (upd G2 x (.ins C dq (flds (.int F.age) (.ref tl') (.int F.nx) (.int (m + 1)) (.ref tg) (.int F.ct)))) lk = some (.lst ks) := by rw [upd_ne xk.symm]; exact hk2
            have hcA : (upd G2 x (.ins C dq (flds (.int F.age) (.ref tl') (.int F.nx) (.int (m + 1)) (.ref tg) (.int F.ct)))) cs = some (SetI X.prog X.w cs (fun j => decide (j ∈ ns)) nn) := by rw [upd_ne csx]; exact hcs2
            have hbA : (upd G2 x (.ins C dq (flds (.int F.age) (.ref tl') (.int F.nx) (.int (m + 1)) (.ref tg) (.int F.ct)))) b = some (.tup ((newS ns g l).map V.str)) := by rw [upd_ne (fun z => by rw [z, hx2] at hb; cases hb)]; exact hb
            generalize upd G2 x (.ins C dq (flds (.int F.age) (.ref tl') (.int F.nx) (.int (m + 1)) (.ref tg) (.int F.ct))) = GA at sA dkA hxA hkA hcA hbA
            refine ⟨_, rfl, x, C, dq, _, _, rfl, hxA, t.cl, t.nM, fl_mk, ?_⟩
            refine ⟨_, rfl, .inl ⟨rfl, _, sq hkA⟩, _, rfl, _, rfl, _, rfl, _, rfl, by show 4 ≤ sizeLine; decide, fun nt nnt => ?_⟩
            have sB := same_new (o := .tup [.int l.n, .int l.b, .ref b, .int (m + 1)]) nnt
            have hkB := sB _ _ hkA
            refine ⟨lk, _, _, rfl, rfl, hkB, lt2 _ (by rw [dkA.len, List.length_map]; omega), ?_⟩
            have er' : sigL ns g F.ls F.mr = ((kept ++ [⟨l.n, l.b, newS ns g l, m + 1⟩]) ++ (sigL ns g (F.ls.drop (i + 1)) (m + 1)).1, (sigL ns g (F.ls.drop (i + 1)) (m + 1)).2) := by
              rw [er]
              simp only [sigL, if_neg c, List.append_assoc, List.singleton_append]
            refine ⟨_, _, _, _, _, ks ++ [.ref nt], kept ++ [⟨l.n, l.b, newS ns g l, m + 1⟩], m + 1, rfl, (sA.trans sB).mut nlkH, (by rw [upd_ne csk]; exact sB _ _ hcA), (by rw [upd_ne xk]; exact sB _ _ hxA), upd_same, ?_, er', by rw [List.length_append]; show kept.length + 1 ≤ i + 1; omega⟩
            rw [List.map_append]
            exact ((dkA.same sB).app (.cons (dv_lt_of (l := ⟨l.n, l.b, newS ns g l, m + 1⟩) upd_same (sB _ _ hbA)) .nil)).mut hkB (fun _ z => by cases z) (by rw [show kept.map ltD ++ [ltD (⟨l.n, l.b, newS ns g l, m + 1⟩ : Lt)] = (kept ++ [(⟨l.n, l.b, newS ns g l, m + 1⟩ : Lt)]).map ltD by rw [List.map_append]; rfl]; exact tO_lts _)
    · rintro σ G ⟨v6, v7, v8, v9, v10, ks, kept, m, rfl, sG, hcs, hx, hk, dk, er, l1⟩
      have hlen := r0.len
      rw [List.length_map] at hlen
      rw [hlen, List.drop_length] at er
      refine ⟨v6, v7, v8, v9, v10, ks, kept, m, rfl, sG, hx, hk, dk, ?_, by omega⟩
      rw [er]
      simp [sigL]
  · rintro σ G ⟨v6, v7, v8, v9, v10, ks, kept, m, rfl, sG, hx, hk, dk, er, l1⟩
    refine ⟨_, rfl, lk, ks, rfl, .inl ⟨sq hk, fun tk ntk => ?_⟩⟩
    have sA := same_new (o := .tup ks) ntk
    refine ⟨_, rfl, x, C, dq, _, rfl, sA _ _ hx, t.cl, t.nL, by show 6 < 1000; decide, ?_⟩
    rw [pu_let]
    have nxt : x ≠ tk := ne_of_none hx ntk
    have sB := ((sG.trans sA).mut nxH (o := .ins C dq (flds (.int F.age) (.ref tk) (.int F.nx) (.int m) (.ref tg) (.int F.ct))))
    refine ⟨_, rfl, q x _ sB nxH ?_⟩
    have ef : fSig F ns g = { F with ls := kept, mr := m } := by unfold fSig; rw [er]
    rw [ef]
    refine ⟨dq, tk, tg, upd_same, .tup (by rw [upd_ne nxt.symm]; exact upd_same) ((dk.same sA).mut (sA _ _ hx) (fun _ z => by cases z) (tO_lts _)), h2.same sB⟩
end K1


set_option Elab.async false
set_option linter.all false
set_option maxRecDepth 100000
set_option maxHeartbeats 2000000
namespace K1
open PySem PySem.Spec PyProof.Rows L2 RZ StX
abbrev sWith : Stmt := st__with_sign
abbrev sWout : Stmt := st__without_sign
abbrev nWith : List Str := ["signs", "sign"]
theorem scWith : FnScope nWith nWith (defScope sWith) := ⟨rfl, rfl, rfl, by decide +kernel, rfl, by decide +kernel, by decide +kernel⟩
abbrev nWout : List Str := ["signs", "sign", "old"]
theorem scWout : FnScope nWout nWith (defScope sWout) := ⟨rfl, rfl, rfl, by decide +kernel, rfl, by decide +kernel, by decide +kernel⟩
theorem inV_strs (s : Str) : ∀ ss : List Str, inV (.str s) (ss.map V.str) = decide (s ∈ ss)
  | [] => by simp [inV]
  | m :: r => by
    have ih := inV_strs s r
    unfold inV at ih ⊢
    rw [List.map_cons, List.any_cons, ih]
    show ((m == s) || _) = _
    by_cases e : m = s
    · subst e; simp
    · have e' : ¬ s = m := fun h => e h.symm
      rw [beq_eq_false_iff_ne.mpr e]; simp [e']
theorem flat_strs : ∀ ss : List Str, (ss.map V.str).all flatV = true
  | [] => rfl
  | m :: r => by rw [List.map_cons, List.all_cons, flat_strs r]; rfl
section
variable {X : Cx} {K : PySem.W.Frag}
theorem cr_sortedSK (h : X.K = K) : CallR X (.builtin "sorted") (rSortedS K) := by subst h; exact cr_sortedS
end
def spWith : Sp := fun vs H Q _ => ∃ (a : Addr) (ss : List Str) (s : Str), vs = [.ref a, .str s] ∧ H a = some (.tup (ss.map V.str)) ∧ OkSs ss ∧ okS s = true ∧ ∀ b H', Same H H' → H' b = some (.tup ((wG ss s).map V.str)) → Q (.ref b) H'
def spWout : Sp := fun vs H Q _ => ∃ (a : Addr) (ss : List Str) (s : Str), vs = [.ref a, .str s] ∧ H a = some (.tup (ss.map V.str)) ∧ OkSs ss ∧ okS s = true ∧ ∀ b H', Same H H' → H' b = some (.tup ((nS ss s).map V.str)) → Q (.ref b) H'
section
variable {P : Program} {w : World} {K : PySem.W.Frag} {mg : Str → Option Value} {base : Heap}
theorem ok_with {f : Addr} {fd : FuncData} (T : Bk mg) (C : Cs mg) (F : Fun K "_with_sign" "_with_sign" sWith f fd) : FnOk P w K mg base CX0 1 f fd nWith spWith := by
  have nd := scWith.nd
  refine F.ok scWith (fun vs H Q E h => ?_) (fun cdv A outer s H vs Q E hr h => ?_)
  · obtain ⟨a, ss, z, rfl, _⟩ := h
    rfl
  · obtain ⟨a, ss, z, rfl, ha, hu, hz, q⟩ := h
    have hl := hu.len
    refine ⟨_, (pss_cons (ps_if (PW.pt (pw_or (pt_cmpR (op_in_seqK (K := K) rfl) (pv 1) (pv 0) (by rfl)) (pw_or1 (pt_cmpR op_eq (pe_callB (call_lenK (K := K) rfl) (by rfl) T.len PySem.boot_len (pa_cons (pv 0) pa_nil)) (pe_const C.MOST_SIGNS rfl) (nomark _)))))
  (pss_one (ps_ret (pv 0)))
  pss_nil)
 (pss_one (ps_ret (pe_callTy (call_tuple_ofK (K := K) rfl) (by rfl) T.tuple PyProof.Rows.boot_tuple (pa_cons (pe_callB (cr_sortedSK (K := K) rfl) (by rfl) T.sorted PyProof.Rows.boot_sorted (pa_cons (pe_lst (pa_star (pv 0) (pa_cons (pv 1) pa_nil))) pa_nil)) pa_nil))))), ?_⟩
    refine ⟨_, rfl, _, rfl, a, _, rfl, .inr (st ha), rfl, flat_strs _, _, rfl, ?_⟩
    show (if inV (.str z) (ss.map V.str) = true then _ else _)
    rw [inV_strs]
    by_cases hm : z ∈ ss
    · refine itbT (decide_eq_true hm) (itbT rfl ⟨_, rfl, q a H (fun _ _ h => h) ?_⟩)
      rw [ha]
      unfold wG
      rw [if_pos (.inl hm)]
    · refine itbF (decide_eq_false hm) ⟨_, rfl, a, _, rfl, .inr (st ha), rfl, _, rfl, ?_⟩
      by_cases h6 : ss.length = 6
      · refine itbT (decide_eq_true (by rw [List.length_map, h6]; rfl)) ⟨_, rfl, q a H (fun _ _ h => h) ?_⟩
        rw [ha]
        unfold wG
        rw [if_pos (.inr h6)]
      refine itbF (decide_eq_false fun h => ?_) ?_
      · have := V.int.inj h
        rw [List.length_map] at this
        omega
      · refine ⟨_, rfl, a, _, rfl, .inl (st ha), .str z, rfl, lt1 _ (by rw [List.length_append, List.length_map]; show ss.length + 1 ≤ 100000; omega), fun l nl => ?_⟩
        have e : ss.map V.str ++ [V.str z] = (ss ++ [z]).map V.str := by rw [List.map_append]; rfl
        have s1 := same_new (o := .lst (ss.map V.str ++ [V.str z])) nl
        refine ⟨l, ss ++ [z], rfl, sq (by rw [upd_same, e]), by rw [List.length_append]; show ss.length + 1 < 64; omega, fun ys p hp hs np => ?_⟩
        have hy : ys = wG ss z := by
          unfold wG
          rw [if_neg (fun h => h.elim hm h6)]
          exact sorted_ins hu.asc hm hp hs
        refine ⟨p, _, rfl, .inl ⟨sq upd_same, fun b nb => ?_⟩⟩
        exact q b _ ((s1.new np).new nb) (by rw [upd_same, hy])
theorem ok_wout {f : Addr} {fd : FuncData} (T : Bk mg) (F : Fun K "_without_sign" "_without_sign" sWout f fd) : FnOk P w K mg base CX0 1 f fd nWith spWout := by
  have nd := scWout.nd
  refine F.ok scWout (fun vs H Q E h => ?_) (fun cdv A outer s H vs Q E hr h => ?_)
  · obtain ⟨a, ss, z, rfl, _⟩ := h
    rfl
  · obtain ⟨a, ss, z, rfl, ha, hu, hz, q⟩ := h
    have hl := hu.len
    refine ⟨_, (pss_one (ps_ret (pe_callTy (call_tuple_ofK (K := K) rfl) (by rfl) T.tuple PyProof.Rows.boot_tuple (pa_cons (pe_lc (own := [("old", 2)]) (g := gName 2) rfl nd (pi_tupK (K := K) rfl (pv 0)) (blkOk_by (own := [("old", 2)]) (N := nWout) (sc := defScope sWout) (by decide +kernel)) (fun _ _ _ _ _ => pg_name (i := 2) nd rfl (Or.inl rfl)) (fun _ _ _ _ _ => pts_one (pt_cmpR op_ne (pv 2) (pv 1) (nomark _))) (fun _ _ _ _ _ => (pv 2))) pa_nil)))), ?_⟩
    refine ⟨_, rfl, a, rfl, ⟨_, st ha⟩, fun D hD => ?_⟩
    refine lc_tup (K := K) (a := a) (xs := ss.map V.str) (fun i H2 => Same H H2 ∧ H2 D = some (.lst ((nS (ss.take i) z).map V.str))) ⟨same_new hD, upd_same⟩ (fun i H2 _ h => st (h.1 _ _ ha)) ?_ ?_
    · rintro i y H2 hy ⟨s2, h2⟩
      rw [List.getElem?_map] at hy
      cases he : ss[i]? with
      | none => rw [he] at hy; cases hy
      | some x =>
        rw [he] at hy
        obtain rfl := (Option.some.inj hy).symm
        refine ⟨rfl, _, rfl, _, rfl, rfl, _, rfl, ?_⟩
        have hlen : (nS (ss.take i) z).length ≤ 6 := Nat.le_trans (List.length_filter_le _ _) (by rw [List.length_take]; omega)
        have e1 : nS (ss.take (i + 1)) z = nS (ss.take i) z ++ (if x = z then [] else [x]) := by
          unfold nS
          rw [take_more he, List.filter_append]
          by_cases c : x = z <;> simp [c]
        by_cases c : x = z
        · refine itbF (by rw [c]; simp) ?_
          rw [if_pos c, List.append_nil] at e1
          exact ⟨s2, by rw [e1]; exact h2⟩
        · refine itbT (by rw [decide_eq_false (fun h => c (V.str.inj h))]; rfl) ⟨_, rfl, _, h2, lt2 _ (by rw [List.length_map]; omega), s2.mut hD, ?_⟩
          rw [upd_same, e1, if_neg c, List.map_append]; rfl
    · rintro H2 ⟨s2, h2⟩
      rw [List.length_map, List.take_length] at h2
      exact ⟨D, _, rfl, .inl ⟨sq h2, fun b nb => q b _ (s2.new nb) upd_same⟩⟩
end
end K1


set_option Elab.async false
set_option linter.all false
set_option maxRecDepth 100000
set_option maxHeartbeats 2000000
namespace K1
open PySem PySem.Spec PyProof.Rows L2 RZ StX
theorem Fo_ext {C p : Addr} {H H' : Hp} {F : Fo} (h : FoAt C H p F) (s : LamX.ExtN H H') : FoAt C H' p F := let ⟨dx, tl, tg, a, b, c⟩ := h; ⟨dx, tl, tg, s _ _ a fun _ z => (by cases z), b.ext s, c.ext s⟩
theorem NumsAt.ext {H H' : Hp} {a : Addr} {ns : List Int} (h : NumsAt H a ns) (s : LamX.ExtN H H') : NumsAt H' a ns := ⟨h.at_.imp (fun e => s _ _ e fun _ z => (by cases z)) (fun e => s _ _ e fun _ z => (by cases z)), h.one, h.len⟩
theorem tup_ext {H H' : Hp} {a : Addr} {xs : List V} (h : H a = some (.tup xs)) (s : LamX.ExtN H H') : H' a = some (.tup xs) := s _ _ h fun _ z => (by cases z)
/-- the method that gets the lambdas -/
structure SgD (K : PySem.W.Frag) (C : Addr) : Prop where
  ex : ∃ (f : Addr) (fd : FuncData), Meth K C "_signed" f ∧ Fun K "_signed" "Folder._signed" sSig f fd
theorem pe_signed {X : Cx} {C c P : Addr} {T : List (Addr × Str)} {xp : Str} {g : List Str → List Str} {o e : Expr} {params : Arguments} {body : Expr} {scope : Scope} {ta te tb : TE} {apos lpos pos : Pos} {pl : Sem Bool} (D : SgD X.K C) (Tb : Bk X.mg) (tC : ClT X.K X.mg C) (Mc : MDef X.prog X.w X.K X.mg X.base CX0 5 C "_copied" nSelf (spCopied C))
    (ho : PE X o ta) (he : PE X e te)
    (TB : LamX.TabB X.base X.mg c P) (hcode : X.env.code = .ref c) (hmT : (P, X.env.qual ++ "<lambda>") ∈ T) (hu : ∀ p ∈ T, p.1 = P → p.2 = X.env.qual ++ "<lambda>") (hr : Room 7 X.A) (L : LamY.LamS1 X.env.scope scope xp) (hxn : xp ∉ X.N) (hdef : defaultsOf params X.env = ([], []))
    (hbind : ∀ (q : Str) (cl : List (Str × Addr)) (pm cv ctv u : Value), bindArgs (PySem.W.kla_fn "<lambda>" q params body scope cl pm cv ctv) ⟨[u], []⟩ = pure [(xp, u)])
    (hbody : ∀ (A : Around) (outer : List Env) (s : Shared) (H : Hp) (f c' : Addr), Room 5 (A.deeper (LamX.lamEnv X scope s.heap.objs.size f c')) → PE (LamY.lamCx1 X A outer s H C8.E0 scope xp f c') body tb)
    (hst : starEach [e, .Lambda params body scope lpos] X.env = (false, eval e X.env) :: starEach [.Lambda params body scope lpos] X.env := by rfl) (hpl : (backTo pos (starEach [.Lambda params body scope lpos] X.env)).any (·.1) = false := by rfl)
    (ht : eval (.Call (.Attribute o "_signed" apos) [e, .Lambda params body scope lpos] [] pos) X.env = (do
      let ov ← eval o X.env
      standAt apos.atName
      let (f, first) ← holding [ov] (getMethod ov "_signed" pl)
      callWith pos f first (backTo pos (starEach [e, .Lambda params body scope lpos] X.env)) (backToKw pos (keywordEach [] X.env))) := by rfl) :
    PE X (.Call (.Attribute o "_signed" apos) [e, .Lambda params body scope lpos] [] pos) (LamY.tMethLam T C "_signed" (TSig C g) ta te tb) := by
  obtain ⟨f, fd, hm, F⟩ := D.ex
  obtain ⟨oc, od, kV, doc, pm, an, cdv, ct, osl, rfl, lk, hcd⟩ := F.ex
  exact LamY.pe_methlam (k := 5) (a := "renewed") ho tC.cl hm he lk hcd (F.binds (ps := pSig) fun _ _ _ _ _ _ us hl => match us, hl with | [_, _, _], _ => rfl) scSig rfl (.inl rfl) (signed_gives Tb tC Mc) TB hcode hmT hu hr L hxn hdef hbind hbody (hst := hst) (hpl := hpl) (ht := ht)
abbrev lamA : Str := "Folder.added" ++ ".<locals>." ++ "<lambda>"
abbrev lamT : Str := "Folder.taken" ++ ".<locals>." ++ "<lambda>"
abbrev lamS : Str := "Folder.set_to" ++ ".<locals>." ++ "<lambda>"
/-- the table of least_row's code -/
def PM : Addr := 510
abbrev lamM : Str := "least_row" ++ ".<locals>." ++ "<lambda>"
def T3 (PA PT PS : Addr) : List (Addr × Str) := [(PA, lamA), (PT, lamT), (PS, lamS), (PM, lamM)]
structure Ap (PA PT PS : Addr) : Prop where
  af : PA ≠ PT
  al : PA ≠ PS
  fl : PT ≠ PS
  am : PA ≠ PM
  tm : PT ≠ PM
  sm : PS ≠ PM
theorem Ap.a {PA PF PL : Addr} (h : Ap PA PF PL) : ∀ p ∈ T3 PA PF PL, p.1 = PA → p.2 = lamA := by
  intro p hp e
  simp only [T3, List.mem_cons, List.not_mem_nil, or_false] at hp
  rcases hp with rfl | rfl | rfl | rfl
  · rfl
  · exact absurd e.symm h.af
  · exact absurd e.symm h.al
  · exact absurd e.symm h.am
theorem Ap.t {PA PF PL : Addr} (h : Ap PA PF PL) : ∀ p ∈ T3 PA PF PL, p.1 = PF → p.2 = lamT := by
  intro p hp e
  simp only [T3, List.mem_cons, List.not_mem_nil, or_false] at hp
  rcases hp with rfl | rfl | rfl | rfl
  · exact absurd e h.af
  · rfl
  · exact absurd e.symm h.fl
  · exact absurd e.symm h.tm
theorem Ap.s {PA PF PL : Addr} (h : Ap PA PF PL) : ∀ p ∈ T3 PA PF PL, p.1 = PL → p.2 = lamS := by
  intro p hp e
  simp only [T3, List.mem_cons, List.not_mem_nil, or_false] at hp
  rcases hp with rfl | rfl | rfl | rfl
  · exact absurd e h.al
  · exact absurd e h.fl
  · rfl
  · exact absurd e.symm h.sm
theorem Ap.m {PA PF PL : Addr} (h : Ap PA PF PL) : ∀ p ∈ T3 PA PF PL, p.1 = PM → p.2 = lamM := by
  intro p hp e
  simp only [T3, List.mem_cons, List.not_mem_nil, or_false] at hp
  rcases hp with rfl | rfl | rfl | rfl
  · exact absurd e h.am
  · exact absurd e h.tm
  · exact absurd e h.sm
  · rfl
theorem mem_a {PA PF PL : Addr} : (PA, lamA) ∈ T3 PA PF PL := List.mem_cons_self
theorem mem_m {PA PF PL : Addr} : (PM, lamM) ∈ T3 PA PF PL := List.mem_cons_of_mem _ (List.mem_cons_of_mem _ (List.mem_cons_of_mem _ List.mem_cons_self))
theorem mem_t {PA PF PL : Addr} : (PF, lamT) ∈ T3 PA PF PL := List.mem_cons_of_mem _ List.mem_cons_self
theorem mem_s {PA PF PL : Addr} : (PL, lamS) ∈ T3 PA PF PL := List.mem_cons_of_mem _ (List.mem_cons_of_mem _ List.mem_cons_self)
abbrev sAdd : Stmt := mS 9
abbrev sTake : Stmt := mS 10
abbrev sSet : Stmt := mS 11
abbrev nAdd : List Str := ["self", "numbers", "sign"]
theorem scAdd : FnScope nAdd nAdd (defScope sAdd) := ⟨rfl, rfl, rfl, by decide +kernel, rfl, by decide +kernel, by decide +kernel⟩
theorem scTake : FnScope nAdd nAdd (defScope sTake) := ⟨rfl, rfl, rfl, by decide +kernel, rfl, by decide +kernel, by decide +kernel⟩
abbrev nSet : List Str := ["self", "numbers", "signs"]
theorem scSet : FnScope nSet nSet (defScope sSet) := ⟨rfl, rfl, rfl, by decide +kernel, rfl, by decide +kernel, by decide +kernel⟩
/-- a deed that renews signs -/
def spSgn (C PA PT PS : Addr) (G : Str → List Str → List Str) : Sp := fun vs H Q _ => ∃ (p na : Addr) (F : Fo) (ns : List Int) (z : Str), vs = [.ref p, .ref na, .str z] ∧ FoAt C H p F ∧ 1 ≤ F.age ∧ NumsAt H na ns ∧ F.ls.length ≤ 1000 ∧ (∀ l ∈ F.ls, OkSs l.s) ∧ okS z = true ∧ LamX.Tabs (T3 PA PT PS) H ∧
  ∀ q H', LamX.ExtN H H' → LamX.Tabs (T3 PA PT PS) H' → FoAt C H' q (fSig F ns (G z)) → Q (.ref q) H'
def spSet (C PA PT PS : Addr) : Sp := fun vs H Q _ => ∃ (p na sa : Addr) (F : Fo) (ns : List Int) (zs : List Str), vs = [.ref p, .ref na, .ref sa] ∧ FoAt C H p F ∧ 1 ≤ F.age ∧ NumsAt H na ns ∧ F.ls.length ≤ 1000 ∧ (∀ l ∈ F.ls, OkSs l.s) ∧ OkSs zs ∧ H sa = some (.tup (zs.map V.str)) ∧ LamX.Tabs (T3 PA PT PS) H ∧
  ∀ q H', LamX.ExtN H H' → LamX.Tabs (T3 PA PT PS) H' → FoAt C H' q (fSig F ns (fun _ => zs)) → Q (.ref q) H'
section
variable {P : Program} {w : World} {K : PySem.W.Frag} {mg : Str → Option Value} {base : Heap} {C PA PT PS c : Addr}
theorem ok_add {f : Addr} {oc : Value} {od : Option Addr} {kV doc pm : Value} {an : Option Addr} {ct : Value} {osl : Array (Option Value)} (T : Bk mg) (t : ClT K mg C) (ap : Ap PA PT PS) (DS : SgD K C) (TB : LamX.TabB base mg c PA)
    (D_check_numbers : Def P w K mg base CX0 4 "_check_numbers" nCkNums spCkNums) (D_is_sign : Def P w K mg base CX0 1 "is_sign" pV spSign) (D_with : Def P w K mg base CX0 1 "_with_sign" nWith spWith) (M_copied : MDef P w K mg base CX0 5 C "_copied" nSelf (spCopied C))
    (lk : K.lookup f = some ⟨oc, od, .func (PySem.W.fnOf "added" "Folder.added" (defArgs sAdd) (defBody sAdd) (defScope sAdd) .none kV doc pm an (.ref c) ct), osl⟩) (hcd : PySem.W.codeIn K (.ref c) "Folder.added" = true) :
    FnOk P w K mg base CX0 8 f (PySem.W.fnOf "added" "Folder.added" (defArgs sAdd) (defBody sAdd) (defScope sAdd) .none kV doc pm an (.ref c) ct) nAdd (spSgn C PA PT PS (fun z ss => wG ss z)) := by
  have nd := scAdd.nd
  have hu1 := ap.a
  refine fn_of lk hcd scAdd (fun vs H Q E h => ?_) (fun A outer s H vs Q E hr h => ?_)
  · obtain ⟨p, na, F, ns, z, rfl, _⟩ := h
    rfl
  · obtain ⟨p, na, F, ns, z, rfl, hF, ha, hn, hl, hu, hz, hT, q⟩ := h
    refine ⟨_, PSs.nox (pss_cons (ps_expr (pe_def D_check_numbers (hr.mono (by decide)) rfl pass0 (pa_cons (pv 1) pa_nil)))
 (pss_cons (ps_if (pt_not (pt_val (pe_def D_is_sign (hr.mono (by decide)) rfl pass0 (pa_cons (pv 2) pa_nil)))) pss_any pss_nil)
 (pss_one (ps_ret (pe_signed (T := T3 PA PT PS) (g := fun ss => wG ss z) DS T t M_copied (pv 0) (pv 1) TB rfl mem_a hu1 hr (LamY.lamS1_by (by rfl)) (show ("signs" : Str) ∉ nAdd by decide +kernel) rfl (fun _ _ _ _ _ _ => rfl) (fun _ _ _ _ _ _ hr2 => pe_def D_with (hr2.mono (by decide)) rfl pass0 (pa_cons (pv 3) (pa_cons (pv 2) pa_nil)))))))), ?_⟩
    refine ⟨_, rfl, na, ns, rfl, hn.at_, hn.one, hn.len, fun H1 s1 => ?_⟩
    refine ⟨_, rfl, z, rfl, hz, fun H2 s2 => ⟨_, rfl, itbF rfl ?_⟩⟩
    have s12 := s1.trans s2
    obtain ⟨dx, tl, tg, hp, h1, h2⟩ := hF.same s12
    refine ⟨_, rfl, p, dx, _, rfl, hp, fl_no (by decide +kernel), _, rfl, hT.ext s12, fun H3 e3 t3 => ?_⟩
    refine ⟨p, na, F, ns, rfl, rfl, Fo_ext (hF.same s12) e3, ha, (hn.ext (LamX.ExtN.of s12)).ext e3, hl, hu, fun ss hs => wG_ok hs hz, fun a ss H' Q' s3 hs has k => ?_, fun q' H' s3 _ hF' => q q' H' (((LamX.ExtN.of s12).trans e3).trans (LamX.ExtN.of s3)) (t3.ext s3) hF'⟩
    exact ⟨_, rfl, _, rfl, a, ss, z, rfl, has, hs, hz, k⟩
theorem ok_take {f : Addr} {oc : Value} {od : Option Addr} {kV doc pm : Value} {an : Option Addr} {ct : Value} {osl : Array (Option Value)} (T : Bk mg) (t : ClT K mg C) (ap : Ap PA PT PS) (DS : SgD K C) (TB : LamX.TabB base mg c PT)
    (D_check_numbers : Def P w K mg base CX0 4 "_check_numbers" nCkNums spCkNums) (D_is_sign : Def P w K mg base CX0 1 "is_sign" pV spSign) (D_wout : Def P w K mg base CX0 1 "_without_sign" nWith spWout) (M_copied : MDef P w K mg base CX0 5 C "_copied" nSelf (spCopied C))
    (lk : K.lookup f = some ⟨oc, od, .func (PySem.W.fnOf "taken" "Folder.taken" (defArgs sTake) (defBody sTake) (defScope sTake) .none kV doc pm an (.ref c) ct), osl⟩) (hcd : PySem.W.codeIn K (.ref c) "Folder.taken" = true) :
    FnOk P w K mg base CX0 8 f (PySem.W.fnOf "taken" "Folder.taken" (defArgs sTake) (defBody sTake) (defScope sTake) .none kV doc pm an (.ref c) ct) nAdd (spSgn C PA PT PS (fun z ss => nS ss z)) := by
  have nd := scTake.nd
  have hu1 := ap.t
  refine fn_of lk hcd scTake (fun vs H Q E h => ?_) (fun A outer s H vs Q E hr h => ?_)
  · obtain ⟨p, na, F, ns, z, rfl, _⟩ := h
    rfl
  · obtain ⟨p, na, F, ns, z, rfl, hF, ha, hn, hl, hu, hz, hT, q⟩ := h
    refine ⟨_, PSs.nox (pss_cons (ps_expr (pe_def D_check_numbers (hr.mono (by decide)) rfl pass0 (pa_cons (pv 1) pa_nil)))
 (pss_cons (ps_if (pt_not (pt_val (pe_def D_is_sign (hr.mono (by decide)) rfl pass0 (pa_cons (pv 2) pa_nil)))) pss_any pss_nil)
 (pss_one (ps_ret (pe_signed (T := T3 PA PT PS) (g := fun ss => nS ss z) DS T t M_copied (pv 0) (pv 1) TB rfl mem_t hu1 hr (LamY.lamS1_by (by rfl)) (show ("signs" : Str) ∉ nAdd by decide +kernel) rfl (fun _ _ _ _ _ _ => rfl) (fun _ _ _ _ _ _ hr2 => pe_def D_wout (hr2.mono (by decide)) rfl pass0 (pa_cons (pv 3) (pa_cons (pv 2) pa_nil)))))))), ?_⟩
    refine ⟨_, rfl, na, ns, rfl, hn.at_, hn.one, hn.len, fun H1 s1 => ?_⟩
    refine ⟨_, rfl, z, rfl, hz, fun H2 s2 => ⟨_, rfl, itbF rfl ?_⟩⟩
    have s12 := s1.trans s2
    obtain ⟨dx, tl, tg, hp, h1, h2⟩ := hF.same s12
    refine ⟨_, rfl, p, dx, _, rfl, hp, fl_no (by decide +kernel), _, rfl, hT.ext s12, fun H3 e3 t3 => ?_⟩
    refine ⟨p, na, F, ns, rfl, rfl, Fo_ext (hF.same s12) e3, ha, (hn.ext (LamX.ExtN.of s12)).ext e3, hl, hu, fun ss hs => nS_ok hs, fun a ss H' Q' s3 hs has k => ?_, fun q' H' s3 _ hF' => q q' H' (((LamX.ExtN.of s12).trans e3).trans (LamX.ExtN.of s3)) (t3.ext s3) hF'⟩
    exact ⟨_, rfl, _, rfl, a, ss, z, rfl, has, hs, hz, k⟩
theorem ok_set {f : Addr} {oc : Value} {od : Option Addr} {kV doc pm : Value} {an : Option Addr} {ct : Value} {osl : Array (Option Value)} (T : Bk mg) (t : ClT K mg C) (ap : Ap PA PT PS) (DS : SgD K C) (TB : LamX.TabB base mg c PS)
    (D_check_numbers : Def P w K mg base CX0 4 "_check_numbers" nCkNums spCkNums) (D_is_signs : Def P w K mg base CX0 2 "is_signs" pV spSigns) (M_copied : MDef P w K mg base CX0 5 C "_copied" nSelf (spCopied C))
    (lk : K.lookup f = some ⟨oc, od, .func (PySem.W.fnOf "set_to" "Folder.set_to" (defArgs sSet) (defBody sSet) (defScope sSet) .none kV doc pm an (.ref c) ct), osl⟩) (hcd : PySem.W.codeIn K (.ref c) "Folder.set_to" = true) :
    FnOk P w K mg base CX0 8 f (PySem.W.fnOf "set_to" "Folder.set_to" (defArgs sSet) (defBody sSet) (defScope sSet) .none kV doc pm an (.ref c) ct) nSet (spSet C PA PT PS) := by
  have nd := scSet.nd
  have hu1 := ap.s
  refine fn_of lk hcd scSet (fun vs H Q E h => ?_) (fun A outer s H vs Q E hr h => ?_)
  · obtain ⟨p, na, sa, F, ns, z, rfl, _⟩ := h
    rfl
  · obtain ⟨p, na, sa, F, ns, zs, rfl, hF, ha, hn, hl, hu, hz, hsa, hT, q⟩ := h
    refine ⟨_, PSs.nox (pss_cons (ps_expr (pe_def D_check_numbers (hr.mono (by decide)) rfl pass0 (pa_cons (pv 1) pa_nil)))
 (pss_cons (ps_if (pt_not (pt_val (pe_def D_is_signs (hr.mono (by decide)) rfl pass0 (pa_cons (pv 2) pa_nil)))) pss_any pss_nil)
 (pss_one (ps_ret (pe_signed (T := T3 PA PT PS) (g := fun ss => zs) DS T t M_copied (pv 0) (pv 1) TB rfl mem_s hu1 hr (LamY.lamS1_by (by rfl)) (show ("old" : Str) ∉ nSet by decide +kernel) rfl (fun _ _ _ _ _ _ => rfl) (fun _ _ _ _ _ _ hr2 => pv 2)))))), ?_⟩
    refine ⟨_, rfl, na, ns, rfl, hn.at_, hn.one, hn.len, fun H1 s1 => ?_⟩
    refine ⟨_, rfl, sa, zs, rfl, s1 _ _ hsa, okSs_iff.mpr hz, fun H2 s2 => ⟨_, rfl, itbF rfl ?_⟩⟩
    have s12 := s1.trans s2
    obtain ⟨dx, tl, tg, hp, h1, h2⟩ := hF.same s12
    refine ⟨_, rfl, p, dx, _, rfl, hp, fl_no (by decide +kernel), _, rfl, hT.ext s12, fun H3 e3 t3 => ?_⟩
    refine ⟨p, na, F, ns, rfl, rfl, Fo_ext (hF.same s12) e3, ha, (hn.ext (LamX.ExtN.of s12)).ext e3, hl, hu, fun ss hs => hz, fun a ss H' Q' s3 hs has k => ?_, fun q' H' s3 _ hF' => q q' H' (((LamX.ExtN.of s12).trans e3).trans (LamX.ExtN.of s3)) (t3.ext s3) hF'⟩
    exact ⟨_, rfl, k sa H' (fun _ _ h => h) (s3 _ _ (tup_ext (s12 _ _ hsa) e3))⟩
end
end K1


set_option Elab.async false
set_option linter.all false
set_option maxRecDepth 100000
set_option maxHeartbeats 2000000
namespace K1
open PySem PySem.Spec PyProof.Rows L2 RZ StX
/-! is_mark and trimmed -/
theorem dv_go {H : Hp} {y : V} {g : Int × Int} (h : Dv H y (goD g)) : ∃ ta, y = .ref ta ∧ H ta = some (.tup [.int g.1, .int g.2]) := by
  cases h with
  | tup h r =>
  cases r with
  | cons h1 r =>
  cases r with
  | cons h2 r =>
  cases r
  cases h1
  cases h2
  exact ⟨_, rfl, h⟩
abbrev sIsMark : Stmt := st_is_mark
theorem scIsMark : FnScope nV pV (defScope sIsMark) := ⟨rfl, rfl, rfl, by decide +kernel, rfl, by decide +kernel, by decide +kernel⟩
abbrev sTrim : Stmt := mS 13
abbrev nTrim : List Str := ["self", "mark", "folder", "cut", "row"]
abbrev pTrim : List Str := ["self", "mark"]
theorem scTrim : FnScope nTrim pTrim (defScope sTrim) := ⟨rfl, rfl, rfl, by decide +kernel, rfl, by decide +kernel, by decide +kernel⟩
def mxI (i j : Int) : Int := if j > i then j else i
def fTrim (F : Fo) (m : Int) : Fo := { F with ct := mxI F.ct m, go := F.go.filter fun g => decide (mxI F.ct m < g.1) }
def spTrim (C : Addr) : Sp := fun vs H Q _ => ∃ (p : Addr) (F : Fo) (m : Int), vs = [.ref p, .int m] ∧ FoAt C H p F ∧ 1 ≤ F.age ∧ 0 ≤ m ∧ m ≤ F.mr ∧ F.go.length ≤ 1000 ∧ ∀ q H', Same H H' → H q = none → FoAt C H' q (fTrim F m) → Q (.ref q) H'
section
variable {P : Program} {w : World} {K : PySem.W.Frag} {mg : Str → Option Value} {base : Heap} {C : Addr}
theorem ok_isMark {f : Addr} {fd : FuncData} (D_is_integer : Def P w K mg base CX0 1 "is_integer" pV spInt) (F : Fun K "is_mark" "is_mark" sIsMark f fd) : FnOk P w K mg base CX0 2 f fd pV spBody := by
  refine F.ok scIsMark (fun vs H Q E h => ?_) (fun cdv A outer s H vs Q E hr h => ?_)
  · obtain ⟨n, rfl, _⟩ := h
    rfl
  · obtain ⟨n, rfl, h1, q⟩ := h
    refine ⟨_, (pss_one (ps_ret (pe_and (pe_def D_is_integer (hr.mono (by decide)) rfl pass0 (pa_cons (pv 0) pa_nil)) (pe_one (pe_cmpR op_ge (pv 0) pe_int (nomark _)))))), ?_⟩
    refine ⟨_, rfl, n, rfl, _, rfl, itbT rfl ⟨_, rfl, _, _, rfl, rfl, ?_⟩⟩
    show Q (.bl (decide (0 ≤ n))) H
    rw [decide_eq_true h1]; exact q
theorem ok_trim {f : Addr} {fd : FuncData} (T : Bk mg) (t : ClT K mg C) (D_is_mark : Def P w K mg base CX0 2 "is_mark" pV spBody) (M_copied : MDef P w K mg base CX0 5 C "_copied" nSelf (spCopied C))
    (F : Fun K "trimmed" "Folder.trimmed" sTrim f fd) : FnOk P w K mg base CX0 6 f fd pTrim (spTrim C) := by
  have nd := scTrim.nd
  refine F.ok scTrim (fun vs H Q E h => ?_) (fun cdv A outer s H vs Q E hr h => ?_)
  · obtain ⟨p, F, m, rfl, _⟩ := h
    rfl
  · obtain ⟨p, F, m, rfl, hF, ha, m0, m1, gl, q⟩ := h
    refine ⟨_, pss_cons (ps_if (PW.pt (pw_or (pt_not (pt_val (pe_def D_is_mark (hr.mono (by decide)) rfl pass0 (pa_cons (pv 1) pa_nil)))) (pw_or1 (pt_cmpR op_gt (pv 1) (pe_fld (pv 0) rfl) (nomark _)))))
  pss_any
  pss_nil)
 (pss_cons (ps_set (i := 2) nd rfl (Or.inl rfl) (pe_mdef0 M_copied t.cl (hr.mono (by decide)) pass0 (pv 0)))
 (pss_cons (ps_set (i := 3) nd rfl (Or.inr rfl) (pe_callB (call_max2 rfl) (by rfl) T.max PyProof.Rows.boot_max (pa_cons (pe_fld (pv 0) rfl) (pa_cons (pv 1) pa_nil))))
 (pss_cons (ps_fld (pv 2) (pv 3) rfl)
 (pss_cons (ps_fld (pv 2) (pe_callTy (call_tuple_ofK (K := K) rfl) (by rfl) T.tuple PyProof.Rows.boot_tuple (pa_cons (pe_lc (own := [("row", 4)]) (g := gName 4) rfl nd (pi_tupK (K := K) rfl (pe_fld (pv 0) rfl)) (blkOk_by (own := [("row", 4)]) (N := nTrim) (sc := defScope sTrim) (by decide +kernel)) (fun _ _ _ _ _ => pg_name (i := 4) nd rfl (Or.inl rfl)) (fun _ _ _ _ _ => pts_one (pt_cmpR op_gt (pe_ix (ix_tupK (K := K) rfl) (pv 4) pe_int (fun _ _ => rfl)) (pv 3) (nomark _))) (fun _ _ _ _ _ => (pv 4))) pa_nil)) rfl)
 (pss_one (ps_ret (pv 2))))))), ?_⟩
    obtain ⟨dx, tl, tg, hp, h1, h2⟩ := hF
    obtain ⟨gs, g0, gr0⟩ := Dv.tups h2
    refine ⟨_, rfl, m, rfl, m0, _, rfl, itbF rfl ?_⟩
    refine ⟨_, rfl, _, rfl, p, C, dx, _, _, rfl, hp, t.cl, t.nM, fl_mk, _, _, rfl, rfl, _, rfl, itbF (decide_eq_false (by omega)) ?_⟩
    refine ⟨_, rfl, p, dx, _, rfl, hp, fl_no (by decide +kernel), p, dx, tl, tg, F.age, F.nx, F.mr, F.ct, rfl, hp, ha, fun x dq H3 s3 nx hx => ?_⟩
    refine ⟨_, rfl, p, C, dx, _, _, rfl, s3 _ _ hp, t.cl, t.nC, fl_cut, _, rfl, _, _, rfl, ?_⟩
    refine ⟨_, rfl, _, rfl, x, C, dq, _, rfl, hx, t.cl, t.nC, by show 6 < 1000; decide, ?_⟩
    rw [pu_cut]
    generalize hc : (if m > F.ct then m else F.ct) = c
    have sA := s3.mut nx (o := .ins C dq (flds (.int F.age) (.ref tl) (.int F.nx) (.int F.mr) (.ref tg) (.int c)))
    have hxA : (upd H3 x (.ins C dq (flds (.int F.age) (.ref tl) (.int F.nx) (.int F.mr) (.ref tg) (.int c)))) x = some (.ins C dq (flds (.int F.age) (.ref tl) (.int F.nx) (.int F.mr) (.ref tg) (.int c))) := upd_same
    generalize upd H3 x (.ins C dq (flds (.int F.age) (.ref tl) (.int F.nx) (.int F.mr) (.ref tg) (.int c))) = HA at sA hxA
    have gr := gr0.same sA
    have hgl := gr.len
    rw [List.length_map] at hgl
    refine ⟨_, rfl, p, C, dx, _, _, rfl, sA _ _ hp, t.cl, t.nG, fl_gone, tg, rfl, ⟨_, st (sA _ _ g0)⟩, fun D hD => ?_⟩
    refine lc_tup (K := K) (a := tg) (xs := gs) (fun i H2 => Same HA H2 ∧ ∃ ks, H2 D = some (.lst ks) ∧ DvA H2 ks (((F.go.take i).filter fun g => decide (c < g.1)).map goD)) ⟨same_new hD, [], upd_same, .nil⟩ (fun i H2 _ h => st (h.1 _ _ (sA _ _ g0))) ?_ ?_
    · rintro i y H2 hy ⟨s2, ks, h2, hk⟩
      obtain ⟨e, he, hde⟩ := (gr.same s2).get hy
      rw [List.getElem?_map] at he
      cases hFi : F.go[i]? with
      | none => rw [hFi] at he; cases he
      | some g =>
        rw [hFi] at he
        obtain rfl := (Option.some.inj he).symm
        obtain ⟨ta, rfl, hta⟩ := dv_go hde
        have hlen := hk.len
        have hfl := List.length_filter_le (fun g : Int × Int => decide (c < g.1)) (F.go.take i)
        rw [List.length_map] at hlen
        rw [List.length_take] at hfl
        refine ⟨rfl, _, rfl, ta, _, 0, .int g.1, rfl, rfl, st hta, atI_nat (j := 0) rfl, _, rfl, _, _, rfl, rfl, _, rfl, ?_⟩
        rw [take_more hFi, List.filter_append, List.map_append]
        by_cases cc : c < g.1
        · refine itbT (decide_eq_true cc) ⟨_, rfl, _, h2, lt2 _ (by omega), s2.mut hD, ks ++ [.ref ta], upd_same, ?_⟩
          rw [show [g].filter (fun g => decide (c < g.1)) = [g] by simp [cc]]
          exact (hk.app (.cons hde .nil)).mut h2 (fun _ z => by cases z) (show tOA (((F.go.take i).filter fun g => decide (c < g.1)).map goD ++ [g].map goD) = true by rw [← List.map_append]; exact tO_gos _)
        · refine itbF (decide_eq_false cc) ?_
          rw [show [g].filter (fun g => decide (c < g.1)) = [] by simp [cc], List.map_nil, List.append_nil]
          exact ⟨s2, ks, h2, hk⟩
    · rintro H2 ⟨s2, ks, h2, hk⟩
      rw [hgl, List.take_length] at hk
      refine ⟨D, ks, rfl, .inl ⟨sq h2, fun tn ntn => ?_⟩⟩
      have s5 := same_new (o := .tup ks) ntn
      have hx5 := s5 _ _ (s2 _ _ hxA)
      have nxt : x ≠ tn := ne_of_none (s2 _ _ hxA) ntn
      refine ⟨_, rfl, x, C, dq, _, rfl, hx5, t.cl, t.nG, by show 6 < 1000; decide, ?_⟩
      rw [pu_gone]
      have sZ := ((sA.trans s2).trans s5).mut nx (o := .ins C dq (flds (.int F.age) (.ref tl) (.int F.nx) (.int F.mr) (.ref tn) (.int c)))
      refine ⟨_, rfl, q x _ sZ nx ?_⟩
      have ef : fTrim F m = { F with ct := c, go := F.go.filter fun g => decide (c < g.1) } := by unfold fTrim mxI; rw [hc]
      rw [ef]
      exact ⟨dq, tl, tn, upd_same, h1.same sZ, .tup (by rw [upd_ne nxt.symm]; exact upd_same) ((hk.same s5).mut hx5 (fun _ z => by cases z) (tO_gos _))⟩
end
end K1


set_option Elab.async false
set_option linter.all false
set_option maxRecDepth 100000
set_option maxHeartbeats 2000000
namespace K1
open PySem PySem.Spec PyProof.Rows L2 RZ StX
theorem pe_any {X : Cx} {e : Expr} : PE X e (fun _ _ _ => False) := ⟨fun _ _ _ _ _ _ h => h.elim⟩
/-! ### deeds -/
inductive Dd where
  | app (b : Int) (ss : List Str)
  | add (ns : List Int) (z : Str)
  | take (ns : List Int) (z : Str)
  | set (ns : List Int) (zs : List Str)
  | rem (ns : List Int)
  | trim (m : Int)
def DdAt (H : Hp) (a : Addr) : Dd → Prop
  | .app b ss => ∃ sa, H a = some (.tup [.str "append", .int b, .ref sa]) ∧ H sa = some (.tup (ss.map V.str)) ∧ 0 ≤ b ∧ OkSs ss
  | .add ns z => ∃ na, H a = some (.tup [.str "add", .ref na, .str z]) ∧ NumsAt H na ns ∧ okS z = true
  | .take ns z => ∃ na, H a = some (.tup [.str "take", .ref na, .str z]) ∧ NumsAt H na ns ∧ okS z = true
  | .set ns zs => ∃ na sa, H a = some (.tup [.str "set", .ref na, .ref sa]) ∧ NumsAt H na ns ∧ H sa = some (.tup (zs.map V.str)) ∧ OkSs zs
  | .rem ns => ∃ na, H a = some (.tup [.str "remove", .ref na]) ∧ NumsAt H na ns
  | .trim m => H a = some (.tup [.str "trim", .int m]) ∧ 0 ≤ m
def does : Dd → Fo → Fo
  | .app b ss, F => fApp F b ss
  | .add ns z, F => fSig F ns (fun ss => wG ss z)
  | .take ns z, F => fSig F ns (fun ss => nS ss z)
  | .set ns zs, F => fSig F ns (fun _ => zs)
  | .rem ns, F => fRem F ns
  | .trim m, F => fTrim F m
def wordD : Dd → Str
  | .app _ _ => "append"
  | .add _ _ => "add"
  | .take _ _ => "take"
  | .set _ _ => "set"
  | .rem _ => "remove"
  | .trim _ => "trim"
theorem DdAt.ext {H H' : Hp} {a : Addr} (s : LamX.ExtN H H') : ∀ {d : Dd}, DdAt H a d → DdAt H' a d
  | .app b ss, ⟨sa, h, h2, h3, h4⟩ => ⟨sa, tup_ext h s, tup_ext h2 s, h3, h4⟩
  | .add ns z, ⟨na, h, h2, h3⟩ => ⟨na, tup_ext h s, h2.ext s, h3⟩
  | .take ns z, ⟨na, h, h2, h3⟩ => ⟨na, tup_ext h s, h2.ext s, h3⟩
  | .set ns zs, ⟨na, sa, h, h2, h3, h4⟩ => ⟨na, sa, tup_ext h s, h2.ext s, tup_ext h3 s, h4⟩
  | .rem ns, ⟨na, h, h2⟩ => ⟨na, tup_ext h s, h2.ext s⟩
  | .trim m, ⟨h, h2⟩ => ⟨tup_ext h s, h2⟩
theorem DdAt.same {H H' : Hp} {a : Addr} {d : Dd} (h : DdAt H a d) (s : Same H H') : DdAt H' a d := h.ext (LamX.ExtN.of s)
theorem DdAt.word {H : Hp} {a : Addr} : ∀ {d : Dd}, DdAt H a d → ∃ u rest, H a = some (.tup (.str (wordD d) :: u :: rest)) ∧ rest.length ≤ 1
  | .app b ss, ⟨sa, h, _⟩ => ⟨_, _, h, Nat.le_refl _⟩
  | .add ns z, ⟨na, h, _⟩ => ⟨_, _, h, Nat.le_refl _⟩
  | .take ns z, ⟨na, h, _⟩ => ⟨_, _, h, Nat.le_refl _⟩
  | .set ns zs, ⟨na, sa, h, _⟩ => ⟨_, _, h, Nat.le_refl _⟩
  | .rem ns, ⟨na, h, _⟩ => ⟨_, _, h, Nat.zero_le _⟩
  | .trim m, ⟨h, _⟩ => ⟨_, _, h, Nat.zero_le _⟩
abbrev sIsDeed : Stmt := st_is_deed
abbrev sCan : Stmt := st_can_be_done
abbrev sDone : Stmt := st_done
abbrev sPlayed : Stmt := st_played
abbrev nIsDeed : List Str := ["value", "word", "first"]
theorem scIsDeed : FnScope nIsDeed pV (defScope sIsDeed) := ⟨rfl, rfl, rfl, by decide +kernel, rfl, by decide +kernel, by decide +kernel⟩
abbrev nCan : List Str := ["folder", "value"]
theorem scCan : FnScope nCan nCan (defScope sCan) := ⟨rfl, rfl, rfl, by decide +kernel, rfl, by decide +kernel, by decide +kernel⟩
abbrev nDone : List Str := ["folder", "deed", "word", "first"]
abbrev pDone : List Str := ["folder", "deed"]
theorem scDone : FnScope nDone pDone (defScope sDone) := ⟨rfl, rfl, rfl, by decide +kernel, rfl, by decide +kernel, by decide +kernel⟩
abbrev nPlayed : List Str := ["folder", "history", "at", "deed"]
abbrev pPlayed : List Str := ["folder", "history"]
theorem scPlayed : FnScope nPlayed pPlayed (defScope sPlayed) := ⟨rfl, rfl, rfl, by decide +kernel, rfl, by decide +kernel, by decide +kernel⟩
def spIsDeed : Sp := fun vs H Q _ => ∃ (a : Addr) (d : Dd), vs = [.ref a] ∧ DdAt H a d ∧ ∀ H', Same H H' → Q (.bl true) H'
def CanD (F : Fo) : Dd → Prop
  | .trim m => m ≤ F.mr
  | _ => True
def spCan (C : Addr) : Sp := fun vs H Q _ => ∃ (p a : Addr) (F : Fo) (d : Dd), vs = [.ref p, .ref a] ∧ FoAt C H p F ∧ CanD F d ∧ DdAt H a d ∧ ∀ H', Same H H' → Q (.bl true) H'
theorem shaped_str {s : Str} (h : PyData.strOk s = true) : SeqAt.shaped (.str s) = true := by
  unfold SeqAt.shaped
  simp [PyData.canLay0, PyData.depth, h]
theorem eq_str {K : PySem.W.Frag} {H : Hp} {a b : Str} {Q : VK} (c : Bool) (ha : PyData.strOk a = true) (e : (a == b) = c) (q : Q (.bl c) H) (hb : PyData.strOk b = true := by decide +kernel) : rEqD K (.str a) (.str b) H Q :=
  ⟨.str a, .str b, .str _, .str _, shaped_str ha, shaped_str hb, by rw [eqv_str, e]; exact q⟩
theorem ne_str {K : PySem.W.Frag} {H : Hp} {a b : Str} {Q : VK} (c : Bool) (ha : PyData.strOk a = true) (e : (a == b) = c) (q : Q (.bl !c) H) (hb : PyData.strOk b = true := by decide +kernel) : rNeD K (.str a) (.str b) H Q :=
  ⟨.str a, .str b, .str _, .str _, shaped_str ha, shaped_str hb, by rw [eqv_str, e]; exact q⟩
theorem word_ok : ∀ d : Dd, PyData.strOk (wordD d) = true
  | .app _ _ => (show PyData.strOk "append" = true by decide +kernel)
  | .add _ _ => (show PyData.strOk "add" = true by decide +kernel)
  | .take _ _ => (show PyData.strOk "take" = true by decide +kernel)
  | .set _ _ => (show PyData.strOk "set" = true by decide +kernel)
  | .rem _ => (show PyData.strOk "remove" = true by decide +kernel)
  | .trim _ => (show PyData.strOk "trim" = true by decide +kernel)
section
variable {P : Program} {w : World} {K : PySem.W.Frag} {mg : Str → Option Value} {base : Heap} {C : Addr}
theorem ok_isDeed {f : Addr} {fd : FuncData} (T : Bk mg) (D_is_body : Def P w K mg base CX0 2 "is_body" pV spBody) (D_is_sign : Def P w K mg base CX0 1 "is_sign" pV spSign) (D_is_signs : Def P w K mg base CX0 2 "is_signs" pV spSigns) (D_is_numbers : Def P w K mg base CX0 3 "is_numbers" pV spNums) (D_is_mark : Def P w K mg base CX0 2 "is_mark" pV spBody)
    (F : Fun K "is_deed" "is_deed" sIsDeed f fd) : FnOk P w K mg base CX0 4 f fd pV spIsDeed := by
  have nd := scIsDeed.nd
  refine F.ok scIsDeed (fun vs H Q E h => ?_) (fun cdv A outer s H vs Q E hr h => ?_)
  · obtain ⟨a, d, rfl, _⟩ := h
    rfl
  · obtain ⟨a, d, rfl, hd, q⟩ := h
    refine ⟨_, pss_cons (ps_if (PW.pt (pw_or (pt_not (pt_val (pe_callB (call_isiK1 (K := K) rfl) (by rfl) T.isinstance PyProof.Rows.boot_isinstance (pa_cons (pv 0) (pa_cons (pe_bltn (v := .ty "tuple") rfl T.tuple PyProof.Rows.boot_tuple rfl) pa_nil))))) (pw_or (pt_cmpR (op_notIn_seqK (K := K) rfl) (pe_callB (call_lenK (K := K) rfl) (by rfl) T.len PySem.boot_len (pa_cons (pv 0) pa_nil)) (pe_tup (pa_cons pe_int (pa_cons pe_int pa_nil))) (by rfl)) (pw_or1 (pt_not (pt_val (pe_callB (call_isiK1 (K := K) rfl) (by rfl) T.isinstance PyProof.Rows.boot_isinstance (pa_cons (pe_ix (ix_tupK (K := K) rfl) (pv 0) pe_int (fun _ _ => rfl)) (pa_cons (pe_bltn (v := .ty "str") rfl T.str PyProof.Rows.boot_str rfl) pa_nil)))))))))
  pss_any
  pss_nil)
 (pss_cons (ps_par (i := 1) (j := 2) (by rfl) nd rfl rfl (by decide) rfl rfl (pa_cons (pe_ix (ix_tupK (K := K) rfl) (pv 0) pe_int (fun _ _ => rfl)) (pa_cons (pe_ix (ix_tupK (K := K) rfl) (pv 0) pe_int (fun _ _ => rfl)) pa_nil)) (by rfl))
 (pss_cons (ps_if (pt_cmpR op_eq (pe_callB (call_lenK (K := K) rfl) (by rfl) T.len PySem.boot_len (pa_cons (pv 0) pa_nil)) pe_int (nomark _))
  (pss_one (ps_ret (pe_or (pe_and (pe_cmpR (op_eqDK (K := K) rfl hr.units) (pv 1) pe_str (nomark _)) (pe_one (pe_def D_is_numbers (hr.mono (by decide)) rfl pass0 (pa_cons (pv 2) pa_nil)))) (pe_one (pe_and (pe_cmpR (op_eqDK (K := K) rfl hr.units) (pv 1) pe_str (nomark _)) (pe_one (pe_def D_is_mark (hr.mono (by decide)) rfl pass0 (pa_cons (pv 2) pa_nil))))))))
  pss_nil)
 (pss_cons (ps_if (pt_cmpR (op_eqDK (K := K) rfl hr.units) (pv 1) pe_str (nomark _))
  (pss_one (ps_ret (pe_and (pe_def D_is_body (hr.mono (by decide)) rfl pass0 (pa_cons (pv 2) pa_nil)) (pe_one (pe_def D_is_signs (hr.mono (by decide)) rfl pass0 (pa_cons (pe_ix (ix_tupK (K := K) rfl) (pv 0) pe_int (fun _ _ => rfl)) pa_nil))))))
  pss_nil)
 (pss_cons (ps_if (pt_cmpR (op_in_seqK (K := K) rfl) (pv 1) (pe_tup (pa_cons pe_str (pa_cons pe_str pa_nil))) (by rfl))
  (pss_one (ps_ret (pe_and (pe_def D_is_numbers (hr.mono (by decide)) rfl pass0 (pa_cons (pv 2) pa_nil)) (pe_one (pe_def D_is_sign (hr.mono (by decide)) rfl pass0 (pa_cons (pe_ix (ix_tupK (K := K) rfl) (pv 0) pe_int (fun _ _ => rfl)) pa_nil))))))
  pss_nil)
 (pss_one (ps_ret (pe_and (pe_cmpR (op_eqDK (K := K) rfl hr.units) (pv 1) pe_str (nomark _)) (pe_and (pe_def D_is_numbers (hr.mono (by decide)) rfl pass0 (pa_cons (pv 2) pa_nil)) (pe_one (pe_def D_is_signs (hr.mono (by decide)) rfl pass0 (pa_cons (pe_ix (ix_tupK (K := K) rfl) (pv 0) pe_int (fun _ _ => rfl)) pa_nil))))))))))), ?_⟩
    obtain ⟨u, rest, ha, hl⟩ := hd.word
    refine ⟨_, rfl, .ref a, .ty "tuple", .type "tuple", .type "tuple", true, rfl, .ty _, .base (.tup ha), kit_ty (by decide +kernel), _, rfl, itbF rfl ?_⟩
    refine ⟨_, rfl, a, _, rfl, .inr (st ha), by show 2 ≤ sizeLine; decide, fun tp ntp => ?_⟩
    have s1 := same_new (o := .tup [.int 2, .int 3]) ntp
    refine ⟨tp, _, rfl, .inr (st upd_same), rfl, rfl, _, rfl, itbF ?_ ?_⟩
    · match rest, hl with
      | [], _ => rfl
      | [_], _ => rfl
      | _ :: _ :: _, hl => simp at hl
    have ha1 := s1 _ _ ha
    have hd1 := hd.same s1
    generalize upd H tp (.tup [.int 2, .int 3]) = H1 at s1 ha1 hd1
    refine ⟨_, rfl, a, _, 0, .str (wordD d), rfl, rfl, st ha1, atI_nat (j := 0) rfl, .str (wordD d), .ty "str", .type "str", .type "str", true, rfl, .ty _, .base (.str _), kit_ty (by decide +kernel), _, rfl, itbF rfl ?_⟩
    cases d with
    | app b ss =>
      obtain ⟨sa, h, hs, hb, hu⟩ := hd1
      refine ⟨_, rfl, a, _, 0, .str "append", rfl, rfl, st h, atI_nat (j := 0) rfl, _, rfl, a, _, 1, .int b, rfl, rfl, st h, atI_nat (j := 1) rfl, _, _, rfl, ?_⟩
      refine ⟨_, rfl, a, _, rfl, .inr (st h), rfl, _, rfl, itbF (decide_eq_false (fun z => absurd (V.int.inj z) (by simp))) ?_⟩
      refine ⟨_, rfl, ?_⟩
      delta tC; dsimp only
      refine eq_str true (by decide +kernel) (by decide +kernel) ⟨_, rfl, itbT rfl ?_⟩
      refine ⟨_, rfl, b, rfl, hb, _, rfl, itbT rfl ?_⟩
      exact ⟨_, rfl, a, _, 2, .ref sa, rfl, rfl, st h, atI_nat (j := 2) rfl, sa, ss, rfl, hs, okSs_iff.mpr hu, fun H2 s2 => q H2 (s1.trans s2)⟩
    | add ns z =>
      obtain ⟨na, h, hn, hz⟩ := hd1
      refine ⟨_, rfl, a, _, 0, .str "add", rfl, rfl, st h, atI_nat (j := 0) rfl, _, rfl, a, _, 1, .ref na, rfl, rfl, st h, atI_nat (j := 1) rfl, _, _, rfl, ?_⟩
      refine ⟨_, rfl, a, _, rfl, .inr (st h), rfl, _, rfl, itbF (decide_eq_false (fun z => absurd (V.int.inj z) (by simp))) ?_⟩
      refine ⟨_, rfl, ?_⟩
      delta tC; dsimp only
      refine eq_str false (by decide +kernel) (by decide +kernel) ⟨_, rfl, itbF rfl ?_⟩
      refine ⟨_, rfl, by show 2 ≤ sizeLine; decide, fun t2 n2 => ?_⟩
      have s2 := same_new (o := .tup [.str "add", .str "take"]) n2
      refine ⟨t2, _, rfl, .inr (st upd_same), rfl, rfl, _, rfl, itbT (by decide +kernel) ?_⟩
      refine ⟨_, rfl, na, ns, rfl, hn.at_.same s2, hn.one, hn.len, fun H3 s3 => ⟨_, rfl, itbT rfl ?_⟩⟩
      exact ⟨_, rfl, a, _, 2, .str z, rfl, rfl, st (s3 _ _ (s2 _ _ h)), atI_nat (j := 2) rfl, z, rfl, hz, fun H4 s4 => q H4 (((s1.trans s2).trans s3).trans s4)⟩
    | take ns z =>
      obtain ⟨na, h, hn, hz⟩ := hd1
      refine ⟨_, rfl, a, _, 0, .str "take", rfl, rfl, st h, atI_nat (j := 0) rfl, _, rfl, a, _, 1, .ref na, rfl, rfl, st h, atI_nat (j := 1) rfl, _, _, rfl, ?_⟩
      refine ⟨_, rfl, a, _, rfl, .inr (st h), rfl, _, rfl, itbF (decide_eq_false (fun z => absurd (V.int.inj z) (by simp))) ?_⟩
      refine ⟨_, rfl, ?_⟩
      delta tC; dsimp only
      refine eq_str false (by decide +kernel) (by decide +kernel) ⟨_, rfl, itbF rfl ?_⟩
      refine ⟨_, rfl, by show 2 ≤ sizeLine; decide, fun t2 n2 => ?_⟩
      have s2 := same_new (o := .tup [.str "add", .str "take"]) n2
      refine ⟨t2, _, rfl, .inr (st upd_same), rfl, rfl, _, rfl, itbT (by decide +kernel) ?_⟩
      refine ⟨_, rfl, na, ns, rfl, hn.at_.same s2, hn.one, hn.len, fun H3 s3 => ⟨_, rfl, itbT rfl ?_⟩⟩
      exact ⟨_, rfl, a, _, 2, .str z, rfl, rfl, st (s3 _ _ (s2 _ _ h)), atI_nat (j := 2) rfl, z, rfl, hz, fun H4 s4 => q H4 (((s1.trans s2).trans s3).trans s4)⟩
    | set ns zs =>
      obtain ⟨na, sa, h, hn, hs, hz⟩ := hd1
      refine ⟨_, rfl, a, _, 0, .str "set", rfl, rfl, st h, atI_nat (j := 0) rfl, _, rfl, a, _, 1, .ref na, rfl, rfl, st h, atI_nat (j := 1) rfl, _, _, rfl, ?_⟩
      refine ⟨_, rfl, a, _, rfl, .inr (st h), rfl, _, rfl, itbF (decide_eq_false (fun z => absurd (V.int.inj z) (by simp))) ?_⟩
      refine ⟨_, rfl, ?_⟩
      delta tC; dsimp only
      refine eq_str false (by decide +kernel) (by decide +kernel) ⟨_, rfl, itbF rfl ?_⟩
      refine ⟨_, rfl, by show 2 ≤ sizeLine; decide, fun t2 n2 => ?_⟩
      have s2 := same_new (o := .tup [.str "add", .str "take"]) n2
      refine ⟨t2, _, rfl, .inr (st upd_same), rfl, rfl, _, rfl, itbF (by decide +kernel) ?_⟩
      refine ⟨_, rfl, ?_⟩
      dsimp only
      refine eq_str true (by decide +kernel) (by decide +kernel) ⟨_, rfl, itbT rfl ?_⟩
      refine ⟨_, rfl, na, ns, rfl, hn.at_.same s2, hn.one, hn.len, fun H3 s3 => ⟨_, rfl, itbT rfl ?_⟩⟩
      exact ⟨_, rfl, a, _, 2, .ref sa, rfl, rfl, st (s3 _ _ (s2 _ _ h)), atI_nat (j := 2) rfl, sa, zs, rfl, s3 _ _ (s2 _ _ hs), okSs_iff.mpr hz, fun H4 s4 => q H4 (((s1.trans s2).trans s3).trans s4)⟩
    | rem ns =>
      obtain ⟨na, h, hn⟩ := hd1
      refine ⟨_, rfl, a, _, 0, .str "remove", rfl, rfl, st h, atI_nat (j := 0) rfl, _, rfl, a, _, 1, .ref na, rfl, rfl, st h, atI_nat (j := 1) rfl, _, _, rfl, ?_⟩
      refine ⟨_, rfl, a, _, rfl, .inr (st h), rfl, _, rfl, itbT (decide_eq_true rfl) ?_⟩
      refine ⟨_, rfl, ?_⟩
      delta tC; dsimp only
      refine eq_str true (by decide +kernel) (by decide +kernel) ⟨_, rfl, itbT rfl ?_⟩
      exact ⟨_, rfl, na, ns, rfl, hn.at_, hn.one, hn.len, fun H3 s3 => ⟨_, rfl, itbT rfl (q H3 (s1.trans s3))⟩⟩
    | trim m =>
      obtain ⟨h, h0⟩ := hd1
      refine ⟨_, rfl, a, _, 0, .str "trim", rfl, rfl, st h, atI_nat (j := 0) rfl, _, rfl, a, _, 1, .int m, rfl, rfl, st h, atI_nat (j := 1) rfl, _, _, rfl, ?_⟩
      refine ⟨_, rfl, a, _, rfl, .inr (st h), rfl, _, rfl, itbT (decide_eq_true rfl) ?_⟩
      refine ⟨_, rfl, ?_⟩
      delta tC; dsimp only
      refine eq_str false (by decide +kernel) (by decide +kernel) ⟨_, rfl, itbF rfl ⟨_, rfl, itbF rfl ⟨_, rfl, ?_⟩⟩⟩
      dsimp only
      refine eq_str true (by decide +kernel) (by decide +kernel) ⟨_, rfl, itbT rfl ?_⟩
      exact ⟨_, rfl, m, rfl, h0, q H1 s1⟩
theorem ok_can {f : Addr} {fd : FuncData} (t : ClT K mg C) (M_mark : MDef P w K mg base CX0 1 C "mark" nSelf (spMark C)) (D_is_deed : Def P w K mg base CX0 4 "is_deed" pV spIsDeed)
    (F : Fun K "can_be_done" "can_be_done" sCan f fd) : FnOk P w K mg base CX0 5 f fd nCan (spCan C) := by
  have nd := scCan.nd
  refine F.ok scCan (fun vs H Q E h => ?_) (fun cdv A outer s H vs Q E hr h => ?_)
  · obtain ⟨p, a, F, d, rfl, _⟩ := h
    rfl
  · obtain ⟨p, a, F, d, rfl, hF, hc, hd, q⟩ := h
    refine ⟨_, pss_cons (ps_if (pt_not (pt_val (pe_def D_is_deed (hr.mono (by decide)) rfl pass0 (pa_cons (pv 1) pa_nil)))) pss_any pss_nil)
 (pss_one (ps_ret (pe_or (pe_cmpR (op_neDK (K := K) rfl hr.units) (pe_ix (ix_tupK (K := K) rfl) (pv 1) pe_int (fun _ _ => rfl)) pe_str (nomark _)) (pe_one (pe_cmpR op_le (pe_ix (ix_tupK (K := K) rfl) (pv 1) pe_int (fun _ _ => rfl)) (pe_mdef0 M_mark t.cl (hr.mono (by decide)) pass0 (pv 0)) (nomark _)))))), ?_⟩
    refine ⟨_, rfl, a, d, rfl, hd, fun H1 s1 => ⟨_, rfl, itbF rfl ?_⟩⟩
    have hd1 := hd.same s1
    by_cases ht : ∃ m, d = .trim m
    · obtain ⟨m, rfl⟩ := ht
      obtain ⟨ha, h0⟩ := hd1
      have hF1 := hF.same s1
      obtain ⟨dx, tl, tg, hp, _⟩ := id hF1
      refine ⟨_, rfl, a, _, 0, .str "trim", rfl, rfl, st ha, atI_nat (j := 0) rfl, ?_⟩
      delta tC; dsimp only
      refine ne_str true (by decide +kernel) (by decide +kernel) ⟨_, rfl, itbF rfl ?_⟩
      refine ⟨_, rfl, a, _, 1, .int m, rfl, rfl, st ha, atI_nat (j := 1) rfl, _, rfl, p, dx, _, rfl, hp, fl_no (by decide +kernel), p, F, rfl, hF1, _, _, rfl, rfl, ?_⟩
      show Q (.bl (decide (m ≤ F.mr))) H1
      rw [decide_eq_true (show m ≤ F.mr from hc)]
      exact q H1 s1
    obtain ⟨u, rest, ha, hl⟩ := hd1.word
    refine ⟨_, rfl, a, _, 0, .str (wordD d), rfl, rfl, st ha, atI_nat (j := 0) rfl, ?_⟩
    delta tC; dsimp only
    refine ne_str false (word_ok d) ?_ ⟨_, rfl, itbT rfl (q H1 s1)⟩
    cases d with
    | app b ss => exact (show (("append" : Str) == "trim") = false by decide +kernel)
    | add b ss => exact (show (("add" : Str) == "trim") = false by decide +kernel)
    | take b ss => exact (show (("take" : Str) == "trim") = false by decide +kernel)
    | set b ss => exact (show (("set" : Str) == "trim") = false by decide +kernel)
    | rem b => exact (show (("remove" : Str) == "trim") = false by decide +kernel)
    | trim m => exact absurd ⟨m, rfl⟩ ht
end
end K1


set_option Elab.async false
set_option linter.all false
set_option maxRecDepth 100000
set_option maxHeartbeats 2000000
namespace K1
open PySem PySem.Spec PyProof.Rows L2 RZ StX
/-! ### what folders keep -/
structure Wf (n : Nat) (F : Fo) : Prop where
  age : 1 ≤ F.age
  len : F.ls.length + F.go.length ≤ n
  sg : ∀ l ∈ F.ls, OkSs l.s
def OkD : Dd → Prop
  | .app b ss => 0 ≤ b ∧ OkSs ss
  | .add _ z => okS z = true
  | .take _ z => okS z = true
  | .set _ zs => OkSs zs
  | .rem _ => True
  | .trim m => 0 ≤ m
theorem DdAt.ok {H : Hp} {a : Addr} : ∀ {d : Dd}, DdAt H a d → OkD d
  | .app b ss, ⟨sa, _, _, h3, h4⟩ => ⟨h3, h4⟩
  | .add ns z, ⟨na, _, _, h3⟩ => h3
  | .take ns z, ⟨na, _, _, h3⟩ => h3
  | .set ns zs, ⟨na, sa, _, _, _, h4⟩ => h4
  | .rem ns, ⟨na, _, _⟩ => trivial
  | .trim m, ⟨_, h⟩ => h
theorem sigL_len (ns : List Int) (g : List Str → List Str) : ∀ (ls : List Lt) (m : Int), (sigL ns g ls m).1.length = ls.length
  | [], m => rfl
  | l :: r, m => by
    unfold sigL
    split
    · show (sigL ns g r m).1.length + 1 = _
      rw [sigL_len ns g r m]; rfl
    · show (sigL ns g r (m + 1)).1.length + 1 = _
      rw [sigL_len ns g r (m + 1)]; rfl
theorem remL_len (ns : List Int) : ∀ (ls : List Lt) (m : Int), (remL ns ls m).1.length + (remL ns ls m).2.1.length = ls.length
  | [], m => rfl
  | l :: r, m => by
    unfold remL
    split
    · have := remL_len ns r (m + 1)
      simp only [List.length_cons]; omega
    · have := remL_len ns r m
      simp only [List.length_cons]; omega
theorem sigL_sg (ns : List Int) {g : List Str → List Str} (hg : ∀ ss, OkSs ss → OkSs (g ss)) : ∀ (ls : List Lt) (m : Int), (∀ l ∈ ls, OkSs l.s) → ∀ l ∈ (sigL ns g ls m).1, OkSs l.s
  | [], m, _, l, hl => by cases hl
  | x :: r, m, h, l, hl => by
    unfold sigL at hl
    split at hl
    · rcases List.mem_cons.mp hl with rfl | hl
      · exact h _ List.mem_cons_self
      · exact sigL_sg ns hg r m (fun y hy => h y (List.mem_cons_of_mem _ hy)) l hl
    · rcases List.mem_cons.mp hl with rfl | hl
      · exact newS_u (h _ List.mem_cons_self) hg
      · exact sigL_sg ns hg r (m + 1) (fun y hy => h y (List.mem_cons_of_mem _ hy)) l hl
theorem remL_mem (ns : List Int) : ∀ (ls : List Lt) (m : Int), ∀ l ∈ (remL ns ls m).1, l ∈ ls
  | [], m, l, hl => by cases hl
  | x :: r, m, l, hl => by
    unfold remL at hl
    split at hl
    · exact List.mem_cons_of_mem _ (remL_mem ns r (m + 1) l hl)
    · rcases List.mem_cons.mp hl with rfl | hl
      · exact List.mem_cons_self
      · exact List.mem_cons_of_mem _ (remL_mem ns r m l hl)
theorem wf_sig {n : Nat} {F : Fo} {ns : List Int} {g : List Str → List Str} (h : Wf n F) (hg : ∀ ss, OkSs ss → OkSs (g ss)) : Wf n (fSig F ns g) :=
  ⟨h.age, by show (sigL ns g F.ls F.mr).1.length + F.go.length ≤ n; rw [sigL_len]; exact h.len, sigL_sg ns hg _ _ h.sg⟩
theorem Wf.mono {n m : Nat} {F : Fo} (h : Wf n F) (k : n ≤ m) : Wf m F := ⟨h.age, Nat.le_trans h.len k, h.sg⟩
theorem wf_does {n : Nat} {F : Fo} : ∀ {d : Dd}, OkD d → Wf n F → Wf (n + 1) (does d F)
  | .app b ss, h, w => ⟨w.age, by have := w.len; show (F.ls ++ _).length + F.go.length ≤ n + 1; rw [List.length_append]; show F.ls.length + 1 + F.go.length ≤ n + 1; omega, fun l hl => by
      rcases List.mem_append.mp (show l ∈ F.ls ++ _ from hl) with hl | hl
      · exact w.sg l hl
      · rw [List.mem_singleton.mp hl]; exact h.2⟩
  | .add ns z, h, w => (wf_sig w fun ss hs => wG_ok hs h).mono (Nat.le_succ _)
  | .take ns z, h, w => (wf_sig w fun ss hs => nS_ok hs).mono (Nat.le_succ _)
  | .set ns zs, h, w => (wf_sig w fun ss hs => h).mono (Nat.le_succ _)
  | .rem ns, h, w => ⟨w.age, by have := w.len; have := remL_len ns F.ls F.mr; show (remL ns F.ls F.mr).1.length + (F.go ++ (remL ns F.ls F.mr).2.1).length ≤ n + 1; rw [List.length_append]; omega, fun l hl => w.sg l (remL_mem ns _ _ l hl)⟩
  | .trim m, h, w => ⟨w.age, by have := w.len; have := List.length_filter_le (fun g : Int × Int => decide (mxI F.ct m < g.1)) F.go; show F.ls.length + (F.go.filter fun g => decide (mxI F.ct m < g.1)).length ≤ n + 1; omega, w.sg⟩
def spDone (C PA PT PS : Addr) : Sp := fun vs H Q _ => ∃ (p a : Addr) (F : Fo) (d : Dd), vs = [.ref p, .ref a] ∧ FoAt C H p F ∧ Wf 1000 F ∧ DdAt H a d ∧ CanD F d ∧ LamX.Tabs (T3 PA PT PS) H ∧
  ∀ q H', LamX.ExtN H H' → LamX.Tabs (T3 PA PT PS) H' → FoAt C H' q (does d F) → Q (.ref q) H'
/-- the folder behind deeds -/
def doesL : List Dd → Fo → Fo
  | [], F => F
  | d :: r, F => doesL r (does d F)
inductive DdsAt (H : Hp) : List V → List Dd → Prop
  | nil : DdsAt H [] []
  | cons {a : Addr} {d : Dd} {xs : List V} {ds : List Dd} : DdAt H a d → DdsAt H xs ds → DdsAt H (.ref a :: xs) (d :: ds)
theorem DdsAt.get {H : Hp} : ∀ {xs : List V} {ds : List Dd}, DdsAt H xs ds → ∀ {i : Nat} {v : V}, xs[i]? = some v → ∃ a d, v = .ref a ∧ ds[i]? = some d ∧ DdAt H a d
  | _, _, .nil, i, v, h => by simp at h
  | _, _, .cons hd r, 0, v, h => ⟨_, _, by simpa using h.symm, rfl, hd⟩
  | _, _, .cons hd r, i + 1, v, h => by simpa using DdsAt.get r (i := i) (v := v) (by simpa using h)
theorem DdsAt.len {H : Hp} : ∀ {xs : List V} {ds : List Dd}, DdsAt H xs ds → xs.length = ds.length
  | _, _, .nil => rfl
  | _, _, .cons _ r => congrArg (· + 1) r.len
section
variable {P : Program} {w : World} {K : PySem.W.Frag} {mg : Str → Option Value} {base : Heap} {C PA PT PS : Addr}
theorem ok_done {f : Addr} {fd : FuncData} (t : ClT K mg C) (M_app : MDef P w K mg base CX0 6 C "appended" pApp (spApp C)) (M_add : MDef P w K mg base CX0 8 C "added" nAdd (spSgn C PA PT PS (fun z ss => wG ss z))) (M_take : MDef P w K mg base CX0 8 C "taken" nAdd (spSgn C PA PT PS (fun z ss => nS ss z)))
    (M_set : MDef P w K mg base CX0 8 C "set_to" nSet (spSet C PA PT PS)) (M_rem : MDef P w K mg base CX0 6 C "removed" pRem (spRem C)) (M_trim : MDef P w K mg base CX0 6 C "trimmed" pTrim (spTrim C)) (F : Fun K "done" "done" sDone f fd) : FnOk P w K mg base CX0 9 f fd pDone (spDone C PA PT PS) := by
  have nd := scDone.nd
  refine F.ok scDone (fun vs H Q E h => ?_) (fun cdv A outer s H vs Q E hr h => ?_)
  · obtain ⟨p, a, F, d, rfl, _⟩ := h
    rfl
  · obtain ⟨p, a, F, d, rfl, hF, hw, hd, hcan, hT, q⟩ := h
    refine ⟨_, pss_cons (ps_par (i := 2) (j := 3) (by rfl) nd rfl rfl (by decide) rfl rfl (pa_cons (pe_ix (ix_tupK (K := K) rfl) (pv 1) pe_int (fun _ _ => rfl)) (pa_cons (pe_ix (ix_tupK (K := K) rfl) (pv 1) pe_int (fun _ _ => rfl)) pa_nil)) (by rfl))
 (pss_cons (ps_if (pt_cmpR (op_eqDK (K := K) rfl hr.units) (pv 2) pe_str (nomark _))
  (pss_one (ps_ret (pe_mdef M_app t.cl (hr.mono (by decide)) pass0 (pv 0) (pa_cons (pv 3) (pa_cons (pe_ix (ix_tupK (K := K) rfl) (pv 1) pe_int (fun _ _ => rfl)) pa_nil)))))
  pss_nil)
 (pss_cons (ps_if (pt_cmpR (op_eqDK (K := K) rfl hr.units) (pv 2) pe_str (nomark _))
  (pss_one (ps_ret (pe_mdef M_add t.cl (hr.mono (by decide)) pass0 (pv 0) (pa_cons (pv 3) (pa_cons (pe_ix (ix_tupK (K := K) rfl) (pv 1) pe_int (fun _ _ => rfl)) pa_nil)))))
  pss_nil)
 (pss_cons (ps_if (pt_cmpR (op_eqDK (K := K) rfl hr.units) (pv 2) pe_str (nomark _))
  (pss_one (ps_ret (pe_mdef M_take t.cl (hr.mono (by decide)) pass0 (pv 0) (pa_cons (pv 3) (pa_cons (pe_ix (ix_tupK (K := K) rfl) (pv 1) pe_int (fun _ _ => rfl)) pa_nil)))))
  pss_nil)
 (pss_cons (ps_if (pt_cmpR (op_eqDK (K := K) rfl hr.units) (pv 2) pe_str (nomark _))
  (pss_one (ps_ret (pe_mdef M_set t.cl (hr.mono (by decide)) pass0 (pv 0) (pa_cons (pv 3) (pa_cons (pe_ix (ix_tupK (K := K) rfl) (pv 1) pe_int (fun _ _ => rfl)) pa_nil)))))
  pss_nil)
 (pss_cons (ps_if (pt_cmpR (op_eqDK (K := K) rfl hr.units) (pv 2) pe_str (nomark _))
  (pss_one (ps_ret (pe_mdef M_rem t.cl (hr.mono (by decide)) pass0 (pv 0) (pa_cons (pv 3) pa_nil))))
  pss_nil)
 (pss_one (ps_ret (pe_mdef M_trim t.cl (hr.mono (by decide)) pass0 (pv 0) (pa_cons (pv 3) pa_nil))))))))), ?_⟩
    have hwl := hw.len
    obtain ⟨dx, tl, tg, hp, h1, h2⟩ := hF
    have hF : FoAt C H p F := ⟨dx, tl, tg, hp, h1, h2⟩
    cases d with
    | app b ss =>
      obtain ⟨sa, h, hs, hb, hu⟩ := hd
      refine ⟨_, rfl, a, _, 0, .str "append", rfl, rfl, st h, atI_nat (j := 0) rfl, _, rfl, a, _, 1, .int b, rfl, rfl, st h, atI_nat (j := 1) rfl, _, _, rfl, ?_⟩
      refine ⟨_, rfl, ?_⟩
      delta tC; dsimp only
      refine eq_str true (by decide +kernel) (by decide +kernel) ⟨_, rfl, itbT rfl ?_⟩
      exact ⟨_, rfl, p, dx, _, rfl, hp, fl_no (by decide +kernel), _, rfl, _, rfl, a, _, 2, .ref sa, rfl, rfl, st h, atI_nat (j := 2) rfl, p, sa, F, b, ss, rfl, hF, hw.age, hb, hs, hu, by omega, fun q' H' s' _ hF' => q q' H' (LamX.ExtN.of s') (hT.ext s') hF'⟩
    | add ns z =>
      obtain ⟨na, h, hn, hz⟩ := hd
      refine ⟨_, rfl, a, _, 0, .str "add", rfl, rfl, st h, atI_nat (j := 0) rfl, _, rfl, a, _, 1, .ref na, rfl, rfl, st h, atI_nat (j := 1) rfl, _, _, rfl, ?_⟩
      refine ⟨_, rfl, ?_⟩
      delta tC; dsimp only
      refine eq_str false (by decide +kernel) (by decide +kernel) ⟨_, rfl, itbF rfl ⟨_, rfl, ?_⟩⟩
      dsimp only
      refine eq_str true (by decide +kernel) (by decide +kernel) ⟨_, rfl, itbT rfl ?_⟩
      exact ⟨_, rfl, p, dx, _, rfl, hp, fl_no (by decide +kernel), _, rfl, _, rfl, a, _, 2, .str z, rfl, rfl, st h, atI_nat (j := 2) rfl, p, na, F, ns, z, rfl, hF, hw.age, hn, by omega, hw.sg, hz, hT, q⟩
    | take ns z =>
      obtain ⟨na, h, hn, hz⟩ := hd
      refine ⟨_, rfl, a, _, 0, .str "take", rfl, rfl, st h, atI_nat (j := 0) rfl, _, rfl, a, _, 1, .ref na, rfl, rfl, st h, atI_nat (j := 1) rfl, _, _, rfl, ?_⟩
      refine ⟨_, rfl, ?_⟩
      delta tC; dsimp only
      refine eq_str false (by decide +kernel) (by decide +kernel) ⟨_, rfl, itbF rfl ⟨_, rfl, ?_⟩⟩
      dsimp only
      refine eq_str false (by decide +kernel) (by decide +kernel) ⟨_, rfl, itbF rfl ⟨_, rfl, ?_⟩⟩
      dsimp only
      refine eq_str true (by decide +kernel) (by decide +kernel) ⟨_, rfl, itbT rfl ?_⟩
      exact ⟨_, rfl, p, dx, _, rfl, hp, fl_no (by decide +kernel), _, rfl, _, rfl, a, _, 2, .str z, rfl, rfl, st h, atI_nat (j := 2) rfl, p, na, F, ns, z, rfl, hF, hw.age, hn, by omega, hw.sg, hz, hT, q⟩
    | set ns zs =>
      obtain ⟨na, sa, h, hn, hs, hz⟩ := hd
      refine ⟨_, rfl, a, _, 0, .str "set", rfl, rfl, st h, atI_nat (j := 0) rfl, _, rfl, a, _, 1, .ref na, rfl, rfl, st h, atI_nat (j := 1) rfl, _, _, rfl, ?_⟩
      refine ⟨_, rfl, ?_⟩
      delta tC; dsimp only
      refine eq_str false (by decide +kernel) (by decide +kernel) ⟨_, rfl, itbF rfl ⟨_, rfl, ?_⟩⟩
      dsimp only
      refine eq_str false (by decide +kernel) (by decide +kernel) ⟨_, rfl, itbF rfl ⟨_, rfl, ?_⟩⟩
      dsimp only
      refine eq_str false (by decide +kernel) (by decide +kernel) ⟨_, rfl, itbF rfl ⟨_, rfl, ?_⟩⟩
      dsimp only
      refine eq_str true (by decide +kernel) (by decide +kernel) ⟨_, rfl, itbT rfl ?_⟩
      exact ⟨_, rfl, p, dx, _, rfl, hp, fl_no (by decide +kernel), _, rfl, _, rfl, a, _, 2, .ref sa, rfl, rfl, st h, atI_nat (j := 2) rfl, p, na, sa, F, ns, zs, rfl, hF, hw.age, hn, by omega, hw.sg, hz, hs, hT, q⟩
    | rem ns =>
      obtain ⟨na, h, hn⟩ := hd
      refine ⟨_, rfl, a, _, 0, .str "remove", rfl, rfl, st h, atI_nat (j := 0) rfl, _, rfl, a, _, 1, .ref na, rfl, rfl, st h, atI_nat (j := 1) rfl, _, _, rfl, ?_⟩
      refine ⟨_, rfl, ?_⟩
      delta tC; dsimp only
      refine eq_str false (by decide +kernel) (by decide +kernel) ⟨_, rfl, itbF rfl ⟨_, rfl, ?_⟩⟩
      dsimp only
      refine eq_str false (by decide +kernel) (by decide +kernel) ⟨_, rfl, itbF rfl ⟨_, rfl, ?_⟩⟩
      dsimp only
      refine eq_str false (by decide +kernel) (by decide +kernel) ⟨_, rfl, itbF rfl ⟨_, rfl, ?_⟩⟩
      dsimp only
      refine eq_str false (by decide +kernel) (by decide +kernel) ⟨_, rfl, itbF rfl ⟨_, rfl, ?_⟩⟩
      dsimp only
      refine eq_str true (by decide +kernel) (by decide +kernel) ⟨_, rfl, itbT rfl ?_⟩
      exact ⟨_, rfl, p, dx, _, rfl, hp, fl_no (by decide +kernel), _, rfl, p, na, F, ns, rfl, hF, hw.age, hn, by omega, by omega, fun q' H' s' _ hF' => q q' H' (LamX.ExtN.of s') (hT.ext s') hF'⟩
    | trim m =>
      obtain ⟨h, h0⟩ := hd
      refine ⟨_, rfl, a, _, 0, .str "trim", rfl, rfl, st h, atI_nat (j := 0) rfl, _, rfl, a, _, 1, .int m, rfl, rfl, st h, atI_nat (j := 1) rfl, _, _, rfl, ?_⟩
      refine ⟨_, rfl, ?_⟩
      delta tC; dsimp only
      refine eq_str false (by decide +kernel) (by decide +kernel) ⟨_, rfl, itbF rfl ⟨_, rfl, ?_⟩⟩
      dsimp only
      refine eq_str false (by decide +kernel) (by decide +kernel) ⟨_, rfl, itbF rfl ⟨_, rfl, ?_⟩⟩
      dsimp only
      refine eq_str false (by decide +kernel) (by decide +kernel) ⟨_, rfl, itbF rfl ⟨_, rfl, ?_⟩⟩
      dsimp only
      refine eq_str false (by decide +kernel) (by decide +kernel) ⟨_, rfl, itbF rfl ⟨_, rfl, ?_⟩⟩
      dsimp only
      refine eq_str false (by decide +kernel) (by decide +kernel) ⟨_, rfl, itbF rfl ?_⟩
      exact ⟨_, rfl, p, dx, _, rfl, hp, fl_no (by decide +kernel), _, rfl, p, F, m, rfl, hF, hw.age, h0, hcan, by omega, fun q' H' s' _ hF' => q q' H' (LamX.ExtN.of s') (hT.ext s') hF'⟩
end
end K1


set_option Elab.async false
set_option linter.all false
set_option maxRecDepth 100000
set_option maxHeartbeats 1000000
/-! Good folders; what copying and moving make, letter by letter. -/
namespace K1
open PySem PySem.Spec PyProof.Rows L2 RZ
structure Gd (k : Nat) (F : Fo) : Prop where
  wf : Wf k F
  nd : (F.ls.map (·.n)).Nodup
  it : ∀ l ∈ F.ls, 1 ≤ l.n ∧ l.n < F.nx ∧ 0 ≤ l.b
  nx : 1 ≤ F.nx ∧ F.nx ≤ k + 1
  mr : 0 ≤ F.mr ∧ F.mr ≤ 1000 * k
theorem Gd.mono {k m : Nat} {F : Fo} (h : Gd k F) (e : k ≤ m) : Gd m F := ⟨h.wf.mono e, h.nd, h.it, ⟨h.nx.1, by have := h.nx.2; omega⟩, ⟨h.mr.1, by have := h.mr.2; omega⟩⟩
theorem sigL_it (ns : List Int) (g : List Str → List Str) : ∀ (ls : List Lt) (m : Int), (sigL ns g ls m).1.map (fun l => (l.n, l.b)) = ls.map (fun l => (l.n, l.b))
  | [], m => rfl
  | l :: r, m => by
    unfold sigL
    split
    · rw [List.map_cons, List.map_cons, sigL_it ns g r m]
    · rw [List.map_cons, List.map_cons, sigL_it ns g r (m + 1)]
theorem sigL_mr (ns : List Int) (g : List Str → List Str) : ∀ (ls : List Lt) (m : Int), m ≤ (sigL ns g ls m).2 ∧ (sigL ns g ls m).2 ≤ m + ls.length
  | [], m => ⟨Int.le_refl _, by show m ≤ m + 0; omega⟩
  | l :: r, m => by
    unfold sigL
    split
    · have := sigL_mr ns g r m
      rw [List.length_cons]
      exact ⟨this.1, by have := this.2; show _ ≤ m + ((r.length + 1 : Nat) : Int); dsimp only; omega⟩
    · have := sigL_mr ns g r (m + 1)
      rw [List.length_cons]
      exact ⟨by have := this.1; dsimp only; omega, by have := this.2; show _ ≤ m + ((r.length + 1 : Nat) : Int); dsimp only; omega⟩
theorem remL_sub (ns : List Int) : ∀ (ls : List Lt) (m : Int), (remL ns ls m).1.Sublist ls
  | [], m => .slnil
  | l :: r, m => by
    unfold remL
    split
    · exact (remL_sub ns r (m + 1)).cons l
    · exact (remL_sub ns r m).cons₂ l
theorem remL_mr (ns : List Int) : ∀ (ls : List Lt) (m : Int), m ≤ (remL ns ls m).2.2 ∧ (remL ns ls m).2.2 ≤ m + ls.length
  | [], m => ⟨Int.le_refl _, by show m ≤ m + 0; omega⟩
  | l :: r, m => by
    unfold remL
    split
    · have := remL_mr ns r (m + 1)
      rw [List.length_cons]
      exact ⟨by have := this.1; dsimp only; omega, by have := this.2; show _ ≤ m + ((r.length + 1 : Nat) : Int); dsimp only; omega⟩
    · have := remL_mr ns r m
      rw [List.length_cons]
      exact ⟨this.1, by have := this.2; show _ ≤ m + ((r.length + 1 : Nat) : Int); dsimp only; omega⟩
theorem it_of {xs ys : List Lt} (e : xs.map (fun l => (l.n, l.b)) = ys.map (fun l => (l.n, l.b))) {l : Lt} (h : l ∈ xs) : ∃ y ∈ ys, y.n = l.n ∧ y.b = l.b := by
  have : (l.n, l.b) ∈ ys.map (fun l => (l.n, l.b)) := by rw [← e]; exact List.mem_map.mpr ⟨l, h, rfl⟩
  obtain ⟨y, hy, ey⟩ := List.mem_map.mp this
  exact ⟨y, hy, congrArg Prod.fst ey, congrArg Prod.snd ey⟩
theorem nd_of {xs ys : List Lt} (e : xs.map (fun l => (l.n, l.b)) = ys.map (fun l => (l.n, l.b))) (h : (ys.map (·.n)).Nodup) : (xs.map (·.n)).Nodup := by
  have e1 := congrArg (List.map Prod.fst) e
  rw [List.map_map, List.map_map] at e1
  have e2 : xs.map (·.n) = ys.map (·.n) := e1
  rw [e2]; exact h
theorem gd_sig {k : Nat} {F : Fo} {ns : List Int} {g : List Str → List Str} (hk : k ≤ 1000) (h : Gd k F) (w : Wf (k + 1) (fSig F ns g)) : Gd (k + 1) (fSig F ns g) := by
  have e := sigL_it ns g F.ls F.mr
  have m := sigL_mr ns g F.ls F.mr
  have hl := h.wf.len
  refine ⟨w, nd_of e h.nd, fun l hl => ?_, ⟨h.nx.1, by have := h.nx.2; show F.nx ≤ _; omega⟩, ⟨by have := h.mr.1; show 0 ≤ (sigL ns g F.ls F.mr).2; omega, by have := h.mr.2; show (sigL ns g F.ls F.mr).2 ≤ _; omega⟩⟩
  obtain ⟨y, hy, e1, e2⟩ := it_of e hl
  have := h.it y hy
  rw [e1, e2] at this
  exact this
theorem gd_does {k : Nat} {F : Fo} (hk : k ≤ 1000) (h : Gd k F) : ∀ {d : Dd}, OkD d → Gd (k + 1) (does d F)
  | .app b ss, o => by
    have hx := h.nx
    have hm := h.mr
    refine ⟨wf_does (d := .app b ss) o h.wf, ?_, fun l hl => ?_, ⟨by show 1 ≤ F.nx + 1; omega, by show F.nx + 1 ≤ _; omega⟩, ⟨by show 0 ≤ F.mr + 1; omega, by show F.mr + 1 ≤ _; omega⟩⟩
    · show ((F.ls ++ [(⟨F.nx, b, ss, F.mr + 1⟩ : Lt)]).map (·.n)).Nodup
      rw [List.map_append]
      refine List.nodup_append.mpr ⟨h.nd, by simp, fun a ha b' hb e => ?_⟩
      obtain ⟨l, hl, rfl⟩ := List.mem_map.mp ha
      have h1 : b' = F.nx := by simpa using hb
      have := (h.it l hl).2.1
      omega
    · rcases List.mem_append.mp (show l ∈ F.ls ++ _ from hl) with z | z
      · have := h.it l z
        exact ⟨this.1, by show l.n < F.nx + 1; omega, this.2.2⟩
      · rw [List.mem_singleton.mp z]
        exact ⟨hx.1, by show F.nx < F.nx + 1; omega, o.1⟩
  | .add ns z, o => gd_sig hk h (wf_does (d := .add ns z) o h.wf)
  | .take ns z, o => gd_sig hk h (wf_does (d := .take ns z) o h.wf)
  | .set ns zs, o => gd_sig hk h (wf_does (d := .set ns zs) o h.wf)
  | .rem ns, o => by
    have s := remL_sub ns F.ls F.mr
    have m := remL_mr ns F.ls F.mr
    have hl := h.wf.len
    refine ⟨wf_does (d := .rem ns) o h.wf, List.Nodup.sublist (s.map _) h.nd, fun l hl => h.it l (s.subset hl), ⟨h.nx.1, by have := h.nx.2; show F.nx ≤ _; omega⟩, ⟨by have := h.mr.1; show 0 ≤ (remL ns F.ls F.mr).2.2; omega, by have := h.mr.2; show (remL ns F.ls F.mr).2.2 ≤ _; omega⟩⟩
  | .trim m, o => ⟨wf_does (d := .trim m) o h.wf, h.nd, h.it, ⟨h.nx.1, by have := h.nx.2; show F.nx ≤ _; omega⟩, ⟨h.mr.1, by have := h.mr.2; show F.mr ≤ _; omega⟩⟩
theorem gd_new {a : Int} (h : 1 ≤ a) : Gd 0 (fNew a) := ⟨⟨h, Nat.le_refl _, fun l hl => by cases hl⟩, List.nodup_nil, fun l hl => (by cases hl), ⟨by show (1 : Int) ≤ 1; decide, by show (1 : Int) ≤ _; decide⟩, ⟨by show (0 : Int) ≤ 0; decide, by show (0 : Int) ≤ _; decide⟩⟩
/-- how many of the letters are of these numbers -/
def cnt (ns : List Int) (ls : List Lt) : Nat := (ls.filter fun l => decide (l.n ∈ ns)).length
theorem sub_lenI {α : Type} [DecidableEq α] : ∀ (b l : List α), l.Nodup → (∀ x ∈ l, x ∈ b) → l.length ≤ b.length
  | [], [], _, _ => Nat.le_refl _
  | [], x :: l, _, h => by have := h x List.mem_cons_self; cases this
  | y :: b, l, d, h => by
    have ih := sub_lenI b (l.erase y) (d.erase _) fun x hx => by
      have m := (List.Nodup.mem_erase_iff d).mp hx
      rcases List.mem_cons.mp (h x m.2) with e | e
      · exact absurd e m.1
      · exact e
    rw [List.length_erase] at ih
    rw [List.length_cons]
    split at ih <;> omega
theorem cnt_le {ns : List Int} {ls : List Lt} (h : (ls.map (·.n)).Nodup) : cnt ns ls ≤ ns.length := by
  have := sub_lenI ns ((ls.filter fun l => decide (l.n ∈ ns)).map (·.n)) (List.Nodup.sublist ((List.filter_sublist).map _) h) fun x hx => by
    obtain ⟨l, hl, rfl⟩ := List.mem_map.mp hx
    simpa using (List.mem_filter.mp hl).2
  rwa [List.length_map] at this
theorem cnt_take (ns : List Int) {ls : List Lt} {i : Nat} {l : Lt} (h : ls[i]? = some l) : cnt ns (ls.take (i + 1)) = cnt ns (ls.take i) + (if l.n ∈ ns then 1 else 0) := by
  unfold cnt
  rw [List.take_add_one, h, List.filter_append, List.length_append]
  congr 1
  by_cases c : l.n ∈ ns <;> simp [c]
theorem cnt_tk (ns : List Int) (ls : List Lt) (i : Nat) : cnt ns (ls.take i) ≤ cnt ns ls := ((List.take_sublist i ls).filter _).length_le
structure St9 where
  f : Fo
  o : Option Fo
  ps : List (Int × Int)
def rmv (lv : Bool) (f : Fo) (n : Int) : Fo := if lv = true then fRem f [n] else f
def tgt (s : St9) : Fo := match s.o with | none => s.f | some g => g
def car1 (lv : Bool) (ns : List Int) (s : St9) (l : Lt) : St9 :=
  if l.n ∈ ns then
    match s.o with
    | none => ⟨rmv lv (fApp s.f l.b l.s) l.n, none, s.ps ++ [(l.n, s.f.nx)]⟩
    | some g => ⟨rmv lv s.f l.n, some (fApp g l.b l.s), s.ps ++ [(l.n, g.nx)]⟩
  else s
def carL (lv : Bool) (ns : List Int) (s : St9) (ls : List Lt) : St9 := ls.foldl (car1 lv ns) s
theorem carL_take (lv : Bool) (ns : List Int) (s : St9) {ls : List Lt} {i : Nat} {l : Lt} (h : ls[i]? = some l) : carL lv ns s (ls.take (i + 1)) = car1 lv ns (carL lv ns s (ls.take i)) l := by
  unfold carL; rw [List.take_add_one, h, List.foldl_append]; rfl
def Gd9 (k : Nat) (s : St9) : Prop := Gd k s.f ∧ ∀ g, s.o = some g → Gd k g
theorem Gd9.mono {k m : Nat} {s : St9} (h : Gd9 k s) (e : k ≤ m) : Gd9 m s := ⟨h.1.mono e, fun g hg => (h.2 g hg).mono e⟩
theorem gd_rmv {k : Nat} {f : Fo} (lv : Bool) (n : Int) (hk : k ≤ 1000) (h : Gd k f) : Gd (k + 1) (rmv lv f n) := by
  unfold rmv
  split
  · exact gd_does hk h (d := .rem [n]) trivial
  · exact h.mono (by omega)
theorem gd_car1 {k : Nat} {s : St9} (lv : Bool) (ns : List Int) {l : Lt} (hk : k ≤ 900) (h : Gd9 k s) (hb : 0 ≤ l.b) (hs : OkSs l.s) : Gd9 (k + (if l.n ∈ ns then 2 else 0)) (car1 lv ns s l) := by
  unfold car1
  by_cases c : l.n ∈ ns
  · rw [if_pos c, if_pos c]
    obtain ⟨f, o, ps⟩ := s
    cases o with
    | none =>
      refine ⟨gd_rmv lv _ (by omega) (gd_does (by omega) h.1 (d := .app l.b l.s) ⟨hb, hs⟩), fun g hg => (by cases hg)⟩
    | some g =>
      refine ⟨(gd_rmv lv _ (by omega) h.1).mono (by omega), fun g' hg => ?_⟩
      rw [← Option.some.inj hg]
      exact (gd_does (by omega) (h.2 g rfl) (d := .app l.b l.s) ⟨hb, hs⟩).mono (by omega)
  · rw [if_neg c, if_neg c]
    exact h.mono (by omega)
theorem gd_carT {k : Nat} {s : St9} (lv : Bool) (ns : List Int) {ls : List Lt} (hk : k + 2 * cnt ns ls ≤ 900) (h : Gd9 k s) (hl : ∀ l ∈ ls, 0 ≤ l.b ∧ OkSs l.s) : ∀ i, Gd9 (k + 2 * cnt ns (ls.take i)) (carL lv ns s (ls.take i))
  | 0 => h.mono (by omega)
  | i + 1 => by
    have ih := gd_carT lv ns hk h hl i
    cases e : ls[i]? with
    | none =>
      have : ls.take (i + 1) = ls.take i := by rw [List.take_add_one, e]; simp
      rw [this]; exact ih
    | some l =>
      rw [carL_take lv ns s e, cnt_take ns e]
      have h1 := cnt_tk ns ls i
      have hm := hl l (List.mem_of_getElem? e)
      refine (gd_car1 lv ns (l := l) (by omega) ih hm.1 hm.2).mono ?_
      split <;> omega
theorem or_snotI {X : Cx} {P : Program} {w : World} (hP : X.prog = P) (hw : X.w = w) : OpR X (compareOp .NotIn) (rSetI P w true) := by
  subst hP hw
  intro pins s σ H x y v u Q I rx ry h
  obtain ⟨k, a, S, n, rfl, rfl, ha, q⟩ := h
  obtain rfl : u = Value.ref a := ry
  obtain ⟨t, rfl⟩ := rx
  exact wpAny_notInSet_of (intKind_is _ _ _ _) rfl (setI_get I ha) ⟨.bl (!S k), H, I.tok _, rfl, q⟩
end K1


set_option Elab.async false
set_option linter.all false
set_option maxRecDepth 100000
set_option maxHeartbeats 1000000
/-! Letters ascend; marks are at most the folder's. -/
namespace K1
open PySem PySem.Spec PyProof.Rows L2 RZ
structure Asc2 (F : Fo) : Prop where
  up : (F.ls.map (·.n)).Pairwise (· < ·)
  mb : ∀ l ∈ F.ls, 0 ≤ l.m ∧ l.m ≤ F.mr
theorem sigL_mk (ns : List Int) (g : List Str → List Str) : ∀ (ls : List Lt) (m : Int), 0 ≤ m → (∀ l ∈ ls, 0 ≤ l.m ∧ l.m ≤ m) → ∀ l ∈ (sigL ns g ls m).1, 0 ≤ l.m ∧ l.m ≤ (sigL ns g ls m).2
  | [], m, _, _, l, hl => by cases hl
  | x :: r, m, m0, h, l, hl => by
    have hx := h x List.mem_cons_self
    unfold sigL at hl ⊢
    split at hl <;> rename_i c
    · rw [if_pos c]
      have k := sigL_mr ns g r m
      rcases List.mem_cons.mp hl with rfl | hl
      · exact ⟨hx.1, Int.le_trans hx.2 k.1⟩
      · exact sigL_mk ns g r m m0 (fun y hy => h y (List.mem_cons_of_mem _ hy)) l hl
    · rw [if_neg c]
      have k := sigL_mr ns g r (m + 1)
      rcases List.mem_cons.mp hl with rfl | hl
      · exact ⟨by show 0 ≤ m + 1; omega, k.1⟩
      · exact sigL_mk ns g r (m + 1) (by omega) (fun y hy => by have := h y (List.mem_cons_of_mem _ hy); exact ⟨this.1, by omega⟩) l hl
theorem nums_of {xs ys : List Lt} (e : xs.map (fun l => (l.n, l.b)) = ys.map (fun l => (l.n, l.b))) : xs.map (·.n) = ys.map (·.n) := by
  have e1 := congrArg (List.map Prod.fst) e
  rw [List.map_map, List.map_map] at e1
  exact e1
theorem asc_sig {k : Nat} {F : Fo} {ns : List Int} {g : List Str → List Str} (gd : Gd k F) (h : Asc2 F) : Asc2 (fSig F ns g) :=
  ⟨by show ((sigL ns g F.ls F.mr).1.map (·.n)).Pairwise _; rw [nums_of (sigL_it ns g F.ls F.mr)]; exact h.up, sigL_mk ns g F.ls F.mr gd.mr.1 h.mb⟩
theorem asc_does {k : Nat} {F : Fo} (gd : Gd k F) (h : Asc2 F) : ∀ d : Dd, Asc2 (does d F)
  | .app b ss => by
    refine ⟨?_, fun l hl => ?_⟩
    · show ((F.ls ++ [(⟨F.nx, b, ss, F.mr + 1⟩ : Lt)]).map (·.n)).Pairwise _
      rw [List.map_append]
      refine List.pairwise_append.mpr ⟨h.up, by simp, fun a ha b' hb => ?_⟩
      obtain ⟨l, hl, rfl⟩ := List.mem_map.mp ha
      have h1 : b' = F.nx := by simpa using hb
      rw [h1]
      exact (gd.it l hl).2.1
    · have m0 := gd.mr.1
      rcases List.mem_append.mp (show l ∈ F.ls ++ _ from hl) with z | z
      · have := h.mb l z
        exact ⟨this.1, by show l.m ≤ F.mr + 1; omega⟩
      · rw [List.mem_singleton.mp z]
        exact ⟨by show 0 ≤ F.mr + 1; omega, Int.le_refl _⟩
  | .add ns z => asc_sig gd h
  | .take ns z => asc_sig gd h
  | .set ns zs => asc_sig gd h
  | .rem ns => by
    have s := remL_sub ns F.ls F.mr
    have m := remL_mr ns F.ls F.mr
    exact ⟨List.Pairwise.sublist (s.map _) h.up, fun l hl => by have := h.mb l (s.subset hl); exact ⟨this.1, Int.le_trans this.2 m.1⟩⟩
  | .trim m => ⟨h.up, h.mb⟩
theorem asc_new (a : Int) : Asc2 (fNew a) := ⟨List.Pairwise.nil, fun l hl => by cases hl⟩
def w4 : List Str := ["a", "b", "done", "seen"]
def w6 : List Str := ["a", "b", "c", "d", "done", "seen"]
theorem w46 {x : Str} (h : x ∈ w4) : x ∈ w6 := (show ∀ y ∈ w4, y ∈ w6 by decide +kernel) x h
def W4 (ss : List Str) : Prop := ∀ x ∈ ss, x ∈ w6
def W4D : Dd → Prop
  | .app _ ss => W4 ss
  | .add _ z => z ∈ w6
  | .take _ _ => True
  | .set _ zs => W4 zs
  | .rem _ => True
  | .trim _ => True
theorem sigL_P {Pr : List Str → Prop} (ns : List Int) {g : List Str → List Str} (hg : ∀ ss, Pr ss → Pr (g ss)) : ∀ (ls : List Lt) (m : Int), (∀ l ∈ ls, Pr l.s) → ∀ l ∈ (sigL ns g ls m).1, Pr l.s
  | [], m, _, l, hl => by cases hl
  | x :: r, m, h, l, hl => by
    unfold sigL at hl
    split at hl
    · rcases List.mem_cons.mp hl with rfl | hl
      · exact h _ List.mem_cons_self
      · exact sigL_P ns hg r m (fun y hy => h y (List.mem_cons_of_mem _ hy)) l hl
    · rcases List.mem_cons.mp hl with rfl | hl
      · show Pr (newS ns g x)
        unfold newS
        split
        · exact hg _ (h _ List.mem_cons_self)
        · exact h _ List.mem_cons_self
      · exact sigL_P ns hg r (m + 1) (fun y hy => h y (List.mem_cons_of_mem _ hy)) l hl
theorem w4_wG {ss : List Str} {z : Str} (h : W4 ss) (hz : z ∈ w6) : W4 (wG ss z) := by
  unfold wG
  split
  · exact h
  · intro x hx
    rcases List.mem_cons.mp ((insS_perm z ss).subset hx) with rfl | hx
    · exact hz
    · exact h x hx
theorem w4_does {F : Fo} (h : ∀ l ∈ F.ls, W4 l.s) : ∀ {d : Dd}, W4D d → ∀ l ∈ (does d F).ls, W4 l.s
  | .app b ss, hd, l, hl => (List.mem_append.mp (show l ∈ F.ls ++ _ from hl)).elim (h l) fun z => by rw [List.mem_singleton.mp z]; exact hd
  | .add ns z, hd, l, hl => sigL_P ns (fun ss hs => w4_wG hs hd) F.ls F.mr h l hl
  | .take ns z, hd, l, hl => sigL_P ns (fun ss hs x hx => hs x (List.mem_filter.mp hx).1) F.ls F.mr h l hl
  | .set ns zs, hd, l, hl => sigL_P ns (fun ss hs => hd) F.ls F.mr h l hl
  | .rem ns, hd, l, hl => h l (remL_mem ns F.ls F.mr l hl)
  | .trim m, hd, l, hl => h l hl
/-- good and ascending -/
structure GA (k : Nat) (F : Fo) : Prop where
  g : Gd k F
  a : Asc2 F
  z : ∀ l ∈ F.ls, W4 l.s
theorem GA.mono {k m : Nat} {F : Fo} (h : GA k F) (e : k ≤ m) : GA m F := ⟨h.g.mono e, h.a, h.z⟩
theorem ga_does {k : Nat} {F : Fo} {d : Dd} (hk : k ≤ 1000) (h : GA k F) (o : OkD d) (z : W4D d) : GA (k + 1) (does d F) := ⟨gd_does hk h.g o, asc_does h.g h.a d, w4_does h.z z⟩
theorem ga_doesL : ∀ {ds : List Dd} {k : Nat} {F : Fo}, k + ds.length ≤ 1000 → GA k F → (∀ d ∈ ds, OkD d ∧ W4D d) → GA (k + ds.length) (doesL ds F)
  | [], k, F, _, h, _ => h
  | d :: r, k, F, hk, h, o => by
    rw [List.length_cons] at hk
    have o1 := o d List.mem_cons_self
    have := ga_doesL (ds := r) (k := k + 1) (by omega) (ga_does (by omega) h o1.1 o1.2) fun x hx => o x (List.mem_cons_of_mem _ hx)
    rw [List.length_cons]
    have e : k + (r.length + 1) = k + 1 + r.length := by omega
    rw [e]; exact this
theorem ga_new {a : Int} (h : 1 ≤ a) : GA 0 (fNew a) := ⟨gd_new h, asc_new a, fun l hl => by cases hl⟩
end K1


set_option Elab.async false
set_option linter.all false
set_option maxRecDepth 100000
set_option maxHeartbeats 4000000
/-! draws of k38, k40 and their kind: _law_cell_at, _law_mixed, _law_source, _law_next, _law_one -/
namespace K1
open PySem PySem.Spec PyProof.Rows L2 RZ StX
abbrev sCat : Stmt := st__law_cell_at
abbrev sMix : Stmt := st__law_mixed
abbrev sSrc : Stmt := st__law_source
abbrev sNx : Stmt := st__law_next
abbrev sOne : Stmt := st__law_one
abbrev nCat : List Str := ["_law_script", "_law_k"]
abbrev nMix : List Str := ["_law_cell", "_law_k", "_law_low"]
abbrev pMix : List Str := ["_law_cell", "_law_k"]
abbrev nSrc : List Str := ["_law_script", "_law_k", "_law_cell"]
abbrev nNx : List Str := ["_law_source_here", "_law_many", "_law_found"]
abbrev pNx : List Str := ["_law_source_here", "_law_many"]
abbrev nOne : List Str := ["_law_source_here", "_law_things"]
theorem scCat : FnScope nCat nCat (defScope sCat) := ⟨rfl, rfl, rfl, by decide +kernel, rfl, by decide +kernel, by decide +kernel⟩
theorem scMix : FnScope nMix pMix (defScope sMix) := ⟨rfl, rfl, rfl, by decide +kernel, rfl, by decide +kernel, by decide +kernel⟩
theorem scSrc : FnScope nSrc nCat (defScope sSrc) := ⟨rfl, rfl, rfl, by decide +kernel, rfl, by decide +kernel, by decide +kernel⟩
theorem scNx : FnScope nNx pNx (defScope sNx) := ⟨rfl, rfl, rfl, by decide +kernel, rfl, by decide +kernel, by decide +kernel⟩
theorem scOne : FnScope nOne nOne (defScope sOne) := ⟨rfl, rfl, rfl, by decide +kernel, rfl, by decide +kernel, by decide +kernel⟩
def spCat (K : PySem.W.Frag) : Sp := fun vs H Q _ => ∃ (a : Addr) (ns : List Int) (k : Int), vs = [.ref a, .int k] ∧ SqL K H a (ns.map V.int) ∧ ns.length ≤ 63 ∧ 0 ≤ k ∧ k < 1000 ∧ ∀ c : Int, Q (.int c) H
def spMix : Sp := fun vs H Q _ => ∃ c k : Int, vs = [.int c, .int k] ∧ ∀ n : Int, 0 ≤ n → n < 2147483563 → Q (.int n) H
def spSrc (K : PySem.W.Frag) : Sp := fun vs H Q _ => ∃ (a : Addr) (ns : List Int) (k : Int), vs = [.ref a, .int k] ∧ SqL K H a (ns.map V.int) ∧ ns.length ≤ 63 ∧ 0 ≤ k ∧ k < 1000 ∧
  ∀ (p : Addr) (H' : Hp), H p = none → Same H H' → WellAt H' p → Q (.ref p) H'
def spNx : Sp := fun vs H Q _ => ∃ (p : Addr) (b : Int), vs = [.ref p, .int b] ∧ WellAt H p ∧ 0 < b ∧ b < 1073741824 ∧
  ∀ (d : Int) (H' : Hp), 0 ≤ d → d < b → Ext p H H' → WellAt H' p → Q (.int d) H'
/-- one of a tuple -/
def spOne : Sp := fun vs H Q _ => ∃ (p a : Addr) (xs : List V), vs = [.ref p, .ref a] ∧ WellAt H p ∧ H a = some (.tup xs) ∧ 0 < xs.length ∧ xs.length < 1073741824 ∧
  ∀ (i : Nat) (x : V) (H' : Hp), xs[i]? = some x → Ext p H H' → WellAt H' p → Q x H'
theorem wt_ne {H : Hp} {p a : Addr} {xs : List V} (w : WellAt H p) (h : H a = some (.tup xs)) : a ≠ p := fun z => by
  obtain ⟨c, m, t, e⟩ := w
  rw [z, e] at h; cases h
section
variable {P : Program} {w : World} {K : PySem.W.Frag} {mg : Str → Option Value} {base : Heap}
theorem ok_cat {f : Addr} {fd : FuncData} (T : Bi mg) (F : Fun K "_law_cell_at" "_law_cell_at" sCat f fd) : FnOk P w K mg base CX0 1 f fd nCat (spCat K) := by
  refine F.ok scCat (fun vs H Q E h => ?_) (fun cdv A outer s H vs Q E hr h => ?_)
  · obtain ⟨a, ns, k, rfl, _⟩ := h
    rfl
  · obtain ⟨a, ns, k, rfl, hS, hl, k0, k1, q⟩ := h
    refine ⟨_, (pss_one (ps_ret (pe_ifExp (pt_cmpR op_lt (pv 1) (pe_callB (call_lenK (K := K) rfl) (by rfl) T.len PySem.boot_len (pa_cons (pv 0) pa_nil)) (nomark _)) (pe_ix (ix_listK (K := K) rfl) (pv 0) (pv 1) (fun _ _ => rfl)) pe_int))), ?_⟩
    refine ⟨_, rfl, _, rfl, a, _, rfl, .inl hS, _, _, rfl, rfl, _, rfl, ite2 (fun c => ?_) (fun c => q 0)⟩
    have c' : k < ns.length := by simpa using c
    have hi : k.toNat < ns.length := by omega
    exact ⟨_, rfl, _, rfl, a, _, k, .int ns[k.toNat], rfl, rfl, hS, at_of (j := k.toNat) (by omega) (by simp [hi]), q _⟩
theorem ok_mix {f : Addr} {fd : FuncData} (T : Bi mg) (F : Fun K "_law_mixed" "_law_mixed" sMix f fd) : FnOk P w K mg base CX0 1 f fd pMix spMix := by
  have nd := scMix.nd
  refine F.ok scMix (fun vs H Q E h => ?_) (fun cdv A outer s H vs Q E hr h => ?_)
  · obtain ⟨c, k, rfl, _⟩ := h
    rfl
  · obtain ⟨c, k, rfl, q⟩ := h
    refine ⟨_, (pss_cons (ps_set (i := 2) nd rfl (Or.inl rfl) (pe_op op_add (pe_op op_mod (pe_callTy call_int1 (by rfl) T.int PyProof.Rows.boot_int (pa_cons (pv 0) pa_nil)) pe_int) (pe_op op_mul (pe_op op_fdivW (pv 0) pe_int) pe_int)))
 (pss_cons (ps_set (i := 2) nd rfl (Or.inl rfl) (pe_op op_mod (pe_callTy call_int1 (by rfl) T.int PyProof.Rows.boot_int (pa_cons (pe_op op_mul (pe_op op_add (pe_op op_add (pv 2) (pe_op op_mul pe_int (pv 1))) pe_int) pe_int) pa_nil)) pe_int))
 (pss_cons (ps_set (i := 2) nd rfl (Or.inl rfl) (pe_op op_mod (pe_callTy call_int1 (by rfl) T.int PyProof.Rows.boot_int (pa_cons (pe_op op_mul (pv 2) (pe_op op_add (pe_op op_add (pe_op op_fdiv (pv 2) pe_int) pe_int) (pv 1))) pa_nil)) pe_int))
 (pss_one (ps_ret (pe_op op_mod (pe_callTy call_int1 (by rfl) T.int PyProof.Rows.boot_int (pa_cons (pe_op op_mul (pv 2) (pe_op op_add (pe_op op_fdiv (pv 2) pe_int) pe_int)) pa_nil)) pe_int)))))), ?_⟩
    refine ⟨_, rfl, .inl ⟨_, rfl, _, _, rfl, rfl, (by show (0 : Int) < _; decide), _, rfl, _, _, rfl, rfl, ⟨by decide, by decide⟩, _, _, rfl, rfl, .inr ⟨by decide, by decide⟩, _, _, rfl, rfl, ?_⟩⟩
    refine ⟨_, rfl, _, rfl, _, _, rfl, rfl, .inl ⟨by decide, by decide⟩, _, _, rfl, rfl, _, _, rfl, rfl, _, _, rfl, rfl, .inr ⟨by decide, by decide⟩, .inl ⟨_, rfl, _, _, rfl, rfl, (by show (0 : Int) < _; decide), ?_⟩⟩
    dsimp only
    generalize hg : (c % 2147483629 + c / 2147483629 * 30011 + 69621 * k + 1) * 48271 % 2147483629 = g
    have g0 : 0 ≤ g ∧ g < 2147483629 := by rw [← hg]; exact ⟨Int.emod_nonneg _ (by decide), Int.emod_lt_of_pos _ (by decide)⟩
    refine ⟨_, rfl, _, rfl, _, _, rfl, rfl, ⟨by decide, by decide⟩, _, _, rfl, rfl, _, rfl, _, _, rfl, rfl, _, _, rfl, rfl, .inl ⟨by omega, by omega⟩, .inl ⟨_, rfl, _, _, rfl, rfl, (by show (0 : Int) < _; decide), ?_⟩⟩
    dsimp only
    generalize he : g * (g / 907 + 16831 + k) % 2147483587 = e
    have e0 : 0 ≤ e ∧ e < 2147483587 := by rw [← he]; exact ⟨Int.emod_nonneg _ (by decide), Int.emod_lt_of_pos _ (by decide)⟩
    refine ⟨_, rfl, _, rfl, _, _, rfl, rfl, ⟨by decide, by decide⟩, _, _, rfl, rfl, _, _, rfl, rfl, .inl ⟨by omega, by omega⟩, .inl ⟨_, rfl, _, _, rfl, rfl, (by show (0 : Int) < _; decide), ?_⟩⟩
    exact q _ (Int.emod_nonneg _ (by decide)) (Int.emod_lt_of_pos _ (by decide))
theorem ok_src {f : Addr} {fd : FuncData} (T : Bi mg) (D_cell_at : Def P w K mg base CX0 1 "_law_cell_at" nCat (spCat K)) (D_mixed : Def P w K mg base CX0 1 "_law_mixed" pMix spMix) (F : Fun K "_law_source" "_law_source" sSrc f fd) : FnOk P w K mg base CX0 2 f fd nCat (spSrc K) := by
  have nd := scSrc.nd
  refine F.ok scSrc (fun vs H Q E h => ?_) (fun cdv A outer s H vs Q E hr h => ?_)
  · obtain ⟨a, ns, k, rfl, _⟩ := h
    rfl
  · obtain ⟨a, ns, k, rfl, hS, hl, k0, k1, q⟩ := h
    refine ⟨_, (pss_cons (ps_if (pt_cmpR op_lt (pv 1) (pe_callB (call_lenK (K := K) rfl) (by rfl) T.len PySem.boot_len (pa_cons (pv 0) pa_nil)) (nomark _))
  (pss_one (ps_ret (pe_lst (pa_cons (pe_ix (ix_listK (K := K) rfl) (pv 0) (pv 1) (fun _ _ => rfl)) (pa_cons (pe_ix (ix_listK (K := K) rfl) (pv 0) (pv 1) (fun _ _ => rfl)) (pa_cons pe_int pa_nil))))))
  pss_nil)
 (pss_cons (ps_set (i := 2) nd rfl (Or.inl rfl) (pe_def D_mixed (hr.mono (by decide)) rfl pass0 (pa_cons (pe_def D_cell_at (hr.mono (by decide)) rfl pass0 (pa_cons (pv 0) (pa_cons pe_int pa_nil))) (pa_cons (pe_op op_add pe_int (pv 1)) pa_nil))))
 (pss_one (ps_ret (pe_lst (pa_cons (pv 2) (pa_cons (pv 2) (pa_cons pe_int pa_nil)))))))), ?_⟩
    refine ⟨_, rfl, _, rfl, a, _, rfl, .inl hS, _, _, rfl, rfl, _, rfl, ite2 (fun c => ?_) (fun c => ?_)⟩
    · have c' : k < ns.length := by simpa using c
      have hi : k.toNat < ns.length := by omega
      have hg : atI (ns.map V.int) k = some (.int ns[k.toNat]) := at_of (j := k.toNat) (by omega) (by simp [hi])
      refine ⟨_, rfl, _, rfl, a, _, k, _, rfl, rfl, hS, hg, _, rfl, _, rfl, a, _, k, _, rfl, rfl, hS, hg, (by show 3 ≤ sizeLine; decide), fun p np => ?_⟩
      exact q p _ np (same_new np) ⟨_, _, _, upd_same⟩
    · refine ⟨_, rfl, a, ns, 0, rfl, hS, hl, by decide, by decide, fun c1 => ⟨_, rfl, _, _, rfl, rfl, c1, _, rfl, fun n n0 n1 => ?_⟩⟩
      refine ⟨_, rfl, _, rfl, (by show 3 ≤ sizeLine; decide), fun p np => ?_⟩
      exact q p _ np (same_new np) ⟨_, _, _, upd_same⟩
theorem ok_nx {f : Addr} {fd : FuncData} (T : Bi mg) (D_mixed : Def P w K mg base CX0 1 "_law_mixed" pMix spMix) (F : Fun K "_law_next" "_law_next" sNx f fd) : FnOk P w K mg base CX0 2 f fd pNx spNx := by
  have nd := scNx.nd
  refine F.ok scNx (fun vs H Q E h => ?_) (fun cdv A outer s H vs Q E hr h => ?_)
  · obtain ⟨p, b, rfl, _⟩ := h
    rfl
  · obtain ⟨p, b, rfl, ⟨c, m, t, hp⟩, hb0, hb1, q'⟩ := h
    have q : ∀ (d c m t : Int), 0 ≤ d → d < b → Q (.int d) (upd H p (.lst [.int c, .int m, .int t])) := fun d c m t h1 h2 => q' d _ h1 h2 (Ext.refl H).self ⟨c, m, t, upd_same⟩
    refine ⟨_, (pss_cons (ps_if (pt_cmpR op_ge (pe_ix (ix_listK (K := K) rfl) (pv 0) pe_int (fun _ _ => rfl)) (pe_op op_pow pe_int pe_int) (nomark _))
  (pss_cons (ps_set (i := 2) nd rfl (Or.inl rfl) (pe_op op_mod (pe_callTy call_int1 (by rfl) T.int PyProof.Rows.boot_int (pa_cons (pe_ix (ix_listK (K := K) rfl) (pv 0) pe_int (fun _ _ => rfl)) pa_nil)) (pv 1)))
 (pss_cons (ps_asg (pe_op op_fdiv (pe_ix (ix_listK (K := K) rfl) (pv 0) pe_int (fun _ _ => rfl)) (pv 1)) (pg_sub (pv 0) pe_int set_list))
 (pss_one (ps_ret (pv 2)))))
  pss_nil)
 (pss_cons (ps_asg (pe_op op_add (pe_ix (ix_listK (K := K) rfl) (pv 0) pe_int (fun _ _ => rfl)) pe_int) (pg_sub (pv 0) pe_int set_list))
 (pss_one (ps_ret (pe_op op_mod (pe_callTy call_int1 (by rfl) T.int PyProof.Rows.boot_int (pa_cons (pe_def D_mixed (hr.mono (by decide)) rfl pass0 (pa_cons (pe_ix (ix_listK (K := K) rfl) (pv 0) pe_int (fun _ _ => rfl)) (pa_cons (pe_ix (ix_listK (K := K) rfl) (pv 0) pe_int (fun _ _ => rfl)) pa_nil))) pa_nil)) (pv 1)))))), ?_⟩
    have r0 : ∀ x y z : Int, SqL K (upd H p (.lst [.int x, .int y, .int z])) p [.int x, .int y, .int z] := fun x y z => .inl (.inl upd_same)
    have hS : SqL K H p [.int c, .int m, .int t] := .inl (.inl hp)
    have rg : ∀ z : Int, 0 ≤ z % b ∧ z % b < b := fun z => ⟨Int.emod_nonneg _ (by omega), Int.emod_lt_of_pos _ hb0⟩
    refine ⟨.ref p, rfl, p, _, 0, .int c, rfl, rfl, hS, atI_nat (j := 0) rfl, _, _, rfl, rfl, ⟨by decide, by decide, by decide⟩, _, _, rfl, rfl, _, rfl, ?_⟩
    refine ite2 (fun _ => ?_) (fun _ => ?_)
    · refine ⟨.ref p, rfl, p, _, 0, .int c, rfl, rfl, hS, atI_nat (j := 0) rfl, .inl ⟨c, rfl, _, rfl, c, b, rfl, rfl, hb0, ?_⟩⟩
      refine ⟨.ref p, rfl, p, _, 0, .int c, rfl, rfl, hS, atI_nat (j := 0) rfl, _, rfl, c, b, rfl, rfl, ⟨hb0, hb1⟩, ?_⟩
      refine ⟨.ref p, rfl, p, _, 0, 0, rfl, rfl, hp, rfl, ?_⟩
      exact ⟨_, rfl, q (c % b) (c / b) m t (rg c).1 (rg c).2⟩
    · refine ⟨.ref p, rfl, p, _, 2, .int t, rfl, rfl, hS, atI_nat (j := 2) rfl, _, _, rfl, rfl, ?_⟩
      refine ⟨.ref p, rfl, p, _, 2, 2, rfl, rfl, hp, rfl, ?_⟩
      refine ⟨.ref p, rfl, p, _, 1, .int m, rfl, rfl, r0 c m (t + 1), atI_nat (j := 1) rfl, ?_⟩
      refine ⟨.ref p, rfl, p, _, 2, .int (t + 1), rfl, rfl, r0 c m (t + 1), atI_nat (j := 2) rfl, m, t + 1, rfl, fun n n0 n1 => ?_⟩
      exact .inl ⟨n, rfl, _, rfl, _, _, rfl, rfl, hb0, q _ c m (t + 1) (rg _).1 (rg _).2⟩
theorem ok_one {f : Addr} {fd : FuncData} (T : Bi mg) (D_next : Def P w K mg base CX0 2 "_law_next" pNx spNx) (F : Fun K "_law_one" "_law_one" sOne f fd) : FnOk P w K mg base CX0 3 f fd nOne spOne := by
  refine F.ok scOne (fun vs H Q E h => ?_) (fun cdv A outer s H vs Q E hr h => ?_)
  · obtain ⟨p, a, xs, rfl, _⟩ := h
    rfl
  · obtain ⟨p, a, xs, rfl, hw, ha, h0, h1, q⟩ := h
    refine ⟨_, (pss_one (ps_ret (pe_ix (ix_tupK (K := K) rfl) (pv 1) (pe_def D_next (hr.mono (by decide)) rfl pass0 (pa_cons (pv 0) (pa_cons (pe_callB (call_lenK (K := K) rfl) (by rfl) T.len PySem.boot_len (pa_cons (pv 1) pa_nil)) pa_nil))) (fun _ _ => rfl)))), ?_⟩
    refine ⟨_, rfl, _, rfl, _, rfl, a, xs, rfl, .inr (st ha), ?_⟩
    refine ⟨p, xs.length, rfl, hw, by omega, by omega, fun d H' d0 d1 hx hw' => ?_⟩
    have hi : d.toNat < xs.length := by omega
    have hg : xs[d.toNat]? = some xs[d.toNat] := List.getElem?_eq_getElem hi
    exact ⟨a, xs, d, _, rfl, rfl, st (hx _ _ (wt_ne hw ha) ha), at_of (j := d.toNat) (by omega) hg, q _ _ _ hg hx hw'⟩
end
end K1


set_option Elab.async false
set_option linter.all false
set_option maxRecDepth 100000
set_option maxHeartbeats 2000000
namespace K1
open PySem PySem.Spec PyProof.Rows L2 RZ StX
theorem DdsAt.ext {H H' : Hp} (s : LamX.ExtN H H') : ∀ {xs : List V} {ds : List Dd}, DdsAt H xs ds → DdsAt H' xs ds
  | _, _, .nil => .nil
  | _, _, .cons h r => .cons (h.ext s) (r.ext s)
def CanL : List Dd → Fo → Prop
  | [], _ => True
  | d :: r, F => CanD F d ∧ CanL r (does d F)
theorem canL_take {ds : List Dd} {i : Nat} {d : Dd} {F : Fo} (h : ds[i]? = some d) (c : CanL (ds.drop i) F) : CanD F d ∧ CanL (ds.drop (i + 1)) (does d F) := by rw [drop_cons h] at c; exact c
theorem doesL_take {ds : List Dd} {i : Nat} {d : Dd} (F : Fo) (h : ds[i]? = some d) : doesL (ds.drop i) F = doesL (ds.drop (i + 1)) (does d F) := by rw [drop_cons h]; rfl
theorem SeqH.tyK {K : PySem.W.Frag} {H : Hp} {a : Addr} {xs : List V} (h : SeqH H a xs) : ∃ tn : String, TyX K H (.ref a) (.type tn) ∧ PySem.W.kitAny K (.type tn) [.type "list", .type "tuple"] = some true := by
  rcases h with h | h
  · exact ⟨"list", .base (.lst h), kit_seq (.list [])⟩
  · exact ⟨"tuple", .base (.tup h), kit_seq (.tuple [])⟩
def spPlayed (C PA PT PS : Addr) : Sp := fun vs H Q _ => ∃ (p h : Addr) (F : Fo) (xs : List V) (ds : List Dd) (n : Nat), vs = [.ref p, .ref h] ∧ FoAt C H p F ∧ Wf n F ∧ n + ds.length ≤ 1000 ∧ SeqH H h xs ∧ DdsAt H xs ds ∧ CanL ds F ∧ LamX.Tabs (T3 PA PT PS) H ∧
  ∀ q H', LamX.ExtN H H' → LamX.Tabs (T3 PA PT PS) H' → FoAt C H' q (doesL ds F) → Q (.ref q) H'
section
variable {P : Program} {w : World} {K : PySem.W.Frag} {mg : Str → Option Value} {base : Heap} {C PA PT PS : Addr}
theorem ok_played {f : Addr} {fd : FuncData} (T : Bk mg) (t : ClT K mg C) (iC : C8.InsC K C) (D_can : Def P w K mg base CX0 5 "can_be_done" nCan (spCan C)) (D_done : Def P w K mg base CX0 9 "done" pDone (spDone C PA PT PS)) (F : Fun K "played" "played" sPlayed f fd) : FnOk P w K mg base CX0 10 f fd pPlayed (spPlayed C PA PT PS) := by
  have nd := scPlayed.nd
  refine F.ok scPlayed (fun vs H Q E h => ?_) (fun cdv A outer s H vs Q E hr h => ?_)
  · obtain ⟨p, hh, F, xs, ds, n, rfl, _⟩ := h
    rfl
  · obtain ⟨p, hh, F, xs, ds, n, rfl, hF, hw, hn, hh1, hds, hcl, hT, q⟩ := h
    refine ⟨_, pss_cons (ps_if (pt_not (pt_val (pe_callB (C8.call_isC iC) (by rfl) T.isinstance PyProof.Rows.boot_isinstance (pa_cons (pv 0) (pa_cons (pe_glob (v := .ref C) rfl t.gC rfl) pa_nil)))))
  pss_any
  pss_nil)
 (pss_cons (ps_if (pt_not (pt_val (pe_callB (call_isiTK (K := K) rfl) (by rfl) T.isinstance PyProof.Rows.boot_isinstance (pa_cons (pv 1) (pa_cons (pe_tup (pa_cons (pe_bltn (v := .ty "list") rfl T.list PyProof.Rows.boot_list rfl) (pa_cons (pe_bltn (v := .ty "tuple") rfl T.tuple PyProof.Rows.boot_tuple rfl) pa_nil))) pa_nil)))))
  pss_any
  pss_nil)
 (C8.pss_cut (ps_for PassesOwn.never rfl (pi_enumSK (K := K) rfl (by rfl) T.enumerate (pa_cons (pv 1) pa_nil)) (pg_tup rfl (pgs_cons (pg_name (i := 2) nd rfl (Or.inl rfl)) (pgs_cons (pg_name (i := 3) nd rfl (Or.inl rfl)) pgs_nil)))
  (pss_cons (ps_if (pt_not (pt_val (pe_def D_can (hr.mono (by decide)) rfl pass0 (pa_cons (pv 0) (pa_cons (pv 3) pa_nil)))))
  pss_any
  pss_nil)
 (pss_one (ps_set (i := 0) nd rfl (Or.inl rfl) (pe_def D_done (hr.mono (by decide)) rfl pass0 (pa_cons (pv 0) (pa_cons (pv 3) pa_nil)))))))
 (pss_one (ps_ret (pv 0))))), ?_⟩
    obtain ⟨dx, tl, tg, hp, h1, h2⟩ := id hF
    refine ⟨_, rfl, p, dx, _, rfl, hp, _, rfl, itbF rfl ?_⟩
    refine ⟨_, rfl, (by show 2 ≤ sizeLine; decide), fun tp ntp => ?_⟩
    have s1 := same_new (o := .tup [.ty "list", .ty "tuple"]) ntp
    obtain ⟨tn, ty, kit⟩ := SeqH.tyK (K := K) (hh1.same s1)
    refine ⟨.ref hh, tp, [.ty "list", .ty "tuple"], .type tn, [.type "list", .type "tuple"], true, rfl, upd_same, .cons (.ty _) (.cons (.ty _) .nil), ty, kit, _, rfl, itbF rfl ?_⟩
    refine ⟨fun σ G => ∃ q' v2 v3, σ = [some (.ref q'), some (.ref hh), v2, v3] ∧ LamX.ExtN H G ∧ LamX.Tabs (T3 PA PT PS) G ∧ FoAt C G q' (doesL ds F), ?_, ?_⟩
    · refine ⟨_, rfl, hh, xs, rfl, for_enumS (K := K) (H0 := fun b => if b = hh then H b else none) (a := hh) (xs := xs) (SeqH.len (hh1.imp (fun e => by show (if hh = hh then H hh else none) = _; rw [if_pos rfl]; exact e) (fun e => by show (if hh = hh then H hh else none) = _; rw [if_pos rfl]; exact e))) (fun i σ G => ∃ q' v2 v3 F', σ = [some (.ref q'), some (.ref hh), v2, v3] ∧ LamX.ExtN H G ∧ LamX.Tabs (T3 PA PT PS) G ∧ FoAt C G q' F' ∧ Wf (n + i) F' ∧ CanL (ds.drop i) F' ∧ doesL ds F = doesL (ds.drop i) F') ?_ ?_ ?_ ?_⟩
      · exact ⟨p, none, none, F, rfl, LamX.ExtN.of s1, hT.ext s1, hF.same s1, hw, hcl, rfl⟩
      · rintro i σ G ⟨q', v2, v3, F', rfl, eG, _⟩ b o hb
        by_cases c : b = hh
        · subst c
          have hb : (if b = b then H b else none) = some o := hb
          rw [if_pos rfl] at hb
          rcases hh1 with e | e <;> (rw [e] at hb; cases hb; exact eG _ _ e fun _ z => by cases z)
        · have hb : (if b = hh then H b else none) = some o := hb
          rw [if_neg c] at hb
          cases hb
      · rintro i y σ G Tt hy ⟨q', v2, v3, F', rfl, eG, tG, hF', hw', hcF, er⟩ nT
        obtain ⟨a, d, rfl, he, hd⟩ := hds.get hy
        have hi := lt_of_get he
        obtain ⟨hcd, hcn⟩ := canL_take he hcF
        have sT := same_new (H := G) nT (o := .tup [.int (i : Nat), .ref a])
        refine ⟨Tt, [.int (i : Nat), .ref a], rfl, st upd_same, rfl, .int (i : Nat), [.ref a], rfl, .ref a, [], rfl, rfl, ?_⟩
        have hd1 := (hd.ext eG).same sT
        refine ⟨_, rfl, _, rfl, q', a, F', d, rfl, hF'.same sT, hcd, hd1, fun H4 s4 => ⟨_, rfl, itbF rfl ?_⟩⟩
        refine ⟨_, rfl, _, rfl, q', a, F', d, rfl, (hF'.same sT).same s4, hw'.mono (by omega), hd1.same s4, hcd, (tG.ext sT).ext s4, fun q2 H5 e5 t5 hF5 => ?_⟩
        exact ⟨q2, _, _, does d F', rfl, ((eG.trans (LamX.ExtN.of sT)).trans (LamX.ExtN.of s4)).trans e5, t5, hF5, wf_does hd1.ok hw', hcn, by rw [er, doesL_take F' he]⟩
      · rintro σ G ⟨q', v2, v3, F', rfl, eG, tG, hF', hw', hcF, er⟩
        rw [hds.len, List.drop_length] at er
        exact ⟨q', v2, v3, rfl, eG, tG, by rw [er]; exact hF'⟩
    · rintro σ G ⟨q', v2, v3, rfl, eG, tG, hF'⟩
      exact ⟨_, rfl, q q' G eG tG hF'⟩
end
end K1


set_option Elab.async false
set_option linter.all false
set_option maxRecDepth 100000
set_option maxHeartbeats 2000000
namespace K1
open PySem PySem.Spec PyProof.Rows L2 RZ StX
/-! ### what is neither a list nor a table stays -/
def TK (H H' : Hp) : Prop := ∀ b o, H b = some o → (∀ xs, o ≠ .lst xs) → (∀ ps, o ≠ .tbl ps) → H' b = some o
theorem TK.of {H H' : Hp} (s : Same H H') : TK H H' := fun b o h _ _ => s b o h
theorem TK.lam {H H' : Hp} (s : LamX.ExtN H H') : TK H H' := fun b o h _ t => s b o h t
theorem TK.ext {H H' : Hp} {p : Addr} (w : WellAt H p) (s : Ext p H H') : TK H H' := fun b o h n _ => s b o (fun z => by
  obtain ⟨c, m, t, e⟩ := w
  rw [z, e] at h
  exact n _ (Option.some.inj h).symm) h
theorem TK.trans {H H1 H2 : Hp} (a : TK H H1) (b : TK H1 H2) : TK H H2 := fun c o h n t => b c o (a c o h n t) n t
theorem TK.tup {H H' : Hp} (s : TK H H') {a : Addr} {xs : List V} (h : H a = some (.tup xs)) : H' a = some (.tup xs) := s _ _ h (fun _ z => by cases z) fun _ z => by cases z
mutual
theorem Dv.tk {H H' : Hp} (s : TK H H') : ∀ {v : V} {d : PyData}, Dv H v d → tO d = true → Dv H' v d
  | _, _, .non, _ => .non
  | _, _, .bl b, _ => .bl b
  | _, _, .int i, _ => .int i
  | _, _, .str x, _ => .str x
  | _, _, .lst h r, n => by cases n
  | _, _, .tup h r, n => .tup (s.tup h) (DvA.tk s r n)
  | _, _, .dic h, n => by cases n
theorem DvA.tk {H H' : Hp} (s : TK H H') : ∀ {vs : List V} {ds : List PyData}, DvA H vs ds → tOA ds = true → DvA H' vs ds
  | _, _, .nil, _ => .nil
  | _, _, .cons h r, n => .cons (Dv.tk s h ((Bool.and_eq_true _ _).mp n).1) (DvA.tk s r ((Bool.and_eq_true _ _).mp n).2)
end
theorem FoAt.tk {C p : Addr} {H H' : Hp} {F : Fo} (h : FoAt C H p F) (s : TK H H') : FoAt C H' p F := let ⟨dx, tl, tg, a, b, c⟩ := h; ⟨dx, tl, tg, s _ _ a (fun _ z => by cases z) (fun _ z => by cases z), b.tk s (tO_lts _), c.tk s (tO_gos _)⟩
end K1


set_option Elab.async false
set_option linter.all false
set_option maxRecDepth 100000
set_option maxHeartbeats 2000000
namespace K1
open PySem PySem.Spec PyProof.Rows L2 RZ StX
theorem Dv.lsts {H : Hp} {a : Addr} {ds : List PyData} (h : Dv H (.ref a) (.list ds)) : ∃ xs, H a = some (.lst xs) ∧ DvA H xs ds := by
  cases h with
  | lst e r => exact ⟨_, e, r⟩
theorem dva_ints {H : Hp} : ∀ ns : List Int, DvA H (ns.map V.int) (ns.map PyData.int)
  | [] => .nil
  | n :: r => .cons (.int n) (dva_ints r)
end K1


set_option Elab.async false
set_option linter.all false
set_option maxRecDepth 100000
set_option maxHeartbeats 2000000
/-! Letters as a tuple of tuples; a comprehension that picks of what is there. -/
namespace K1
open PySem PySem.Spec PyProof.Rows L2 RZ StX
inductive A2 {β : Type} (R : V → β → Prop) : List V → List β → Prop where
  | nil : A2 R [] []
  | cons {x : V} {b : β} {xs : List V} {bs : List β} : R x b → A2 R xs bs → A2 R (x :: xs) (b :: bs)
section
variable {β : Type} {R R' : V → β → Prop}
theorem A2.len : ∀ {xs : List V} {bs : List β}, A2 R xs bs → xs.length = bs.length
  | _, _, .nil => rfl
  | _, _, .cons _ r => congrArg (· + 1) r.len
theorem A2.get : ∀ {xs : List V} {bs : List β}, A2 R xs bs → ∀ {i : Nat} {x : V}, xs[i]? = some x → ∃ b, bs[i]? = some b ∧ R x b
  | _, _, .cons h _, 0, _, e => ⟨_, rfl, by rw [← Option.some.inj e]; exact h⟩
  | _, _, .cons _ r, i + 1, _, e => r.get (i := i) e
  | _, _, .nil, i, _, e => by simp at e
theorem A2.imp (h : ∀ x b, R x b → R' x b) : ∀ {xs : List V} {bs : List β}, A2 R xs bs → A2 R' xs bs
  | _, _, .nil => .nil
  | _, _, .cons a r => .cons (h _ _ a) (r.imp h)
theorem A2.app : ∀ {xs : List V} {bs : List β} {ys : List V} {cs : List β}, A2 R xs bs → A2 R ys cs → A2 R (xs ++ ys) (bs ++ cs)
  | _, _, _, _, .nil, k => k
  | _, _, _, _, .cons a r, k => .cons a (r.app k)
theorem A2.vals {β : Type} {f : β → V} : ∀ {xs : List V} {ns : List β}, A2 (fun x n => x = f n) xs ns → xs = ns.map f
  | _, _, .nil => rfl
  | _, _, .cons rfl r => by rw [r.vals]; rfl
end
theorem take_fm {α β : Type} {ls : List α} {i : Nat} {a : α} (φ : α → Option β) (h : ls[i]? = some a) : (ls.take (i + 1)).filterMap φ = (ls.take i).filterMap φ ++ (φ a).toList := by
  rw [List.take_add_one, h, List.filterMap_append]
  cases e : φ a <;> simp [e]
theorem lc_sel {J : It} {xs : List V} {Gd : Hp → Prop} (wk : Walk J xs.length Gd (YAt xs)) {α β : Type} {R : V → α → Prop} {out : V → β → Prop} {ls : List α} (hA : A2 R xs ls) {H1 : Hp} {D : Addr} (hD : H1 D = none) (hG : ∀ G, Same H1 G → Gd G) (hl : xs.length ≤ 1000) (φ : α → Option β)
    {g : TG} {tt : TT} {te : TE} {vs : List Nat} {σ : L2.St} {Qd : Hp → Prop}
    (hs : ∀ x a G (T : V → Hp → Prop) (S : Hp → Prop), R x a → a ∈ ls → Same H1 G → (∀ y b G', Same G G' → φ a = some b → out y b → T y G') → (∀ G', Same G G' → φ a = none → S G') → g x (wipe σ vs) G fun σ2 H2 => wipe σ2 vs = wipe σ vs ∧ tt σ2 H2 fun b H3 => if b = true then te σ2 H3 T else S H3)
    (hd : ∀ G acc, Same H1 G → G D = some (.lst acc) → A2 out acc (ls.filterMap φ) → Qd G) :
    ∃ W : Nat → Nat → Hp → Prop, (∃ m, W 0 m (upd H1 D (.lst []))) ∧ ∀ i m H, W i m H →
      (J.stop i H ∧ Qd H) ∨ (J.go i H ∧ ∃ Nx : Hp → Prop, (∀ H', Nx H' → ∃ m', m' < m ∧ W (i + 1) m' H') ∧ ∀ x H', J.yld i H x H' → g x (wipe σ vs) H' fun σ2 H2 => wipe σ2 vs = wipe σ vs ∧ tt σ2 H2 fun b H3 =>
        if b = true then te σ2 H3 fun y H4 => ∃ acc, H4 D = some (.lst acc) ∧ acc.length < sizeLine ∧ Nx (upd H4 D (.lst (acc ++ [y]))) else Nx H3) := by
  refine lc_it wk (fun i G => Same H1 G ∧ ∃ acc, G D = some (.lst acc) ∧ acc.length ≤ i ∧ A2 out acc ((ls.take i).filterMap φ)) ⟨same_new hD, [], upd_same, Nat.zero_le _, .nil⟩ (fun i G _ h => hG _ h.1) ?_ ?_
  · rintro i x G G' hi ⟨s1, acc, hacc, hla, ha⟩ ⟨rfl, hx⟩
    obtain ⟨a, hai, hR⟩ := hA.get hx
    refine hs x a G' _ _ hR (List.mem_of_getElem? hai) s1 (fun y b G2 s2 e o => ?_) fun G2 s2 e => ?_
    · refine ⟨acc, s2 _ _ hacc, lt1 _ (by omega), (s1.trans s2).mut hD, _, upd_same, by rw [List.length_append]; show acc.length + 1 ≤ _; omega, ?_⟩
      rw [take_fm φ hai, e]
      exact ha.app (.cons o .nil)
    · refine ⟨s1.trans s2, acc, s2 _ _ hacc, by omega, ?_⟩
      rw [take_fm φ hai, e]
      show A2 out acc (_ ++ [])
      rw [List.append_nil]; exact ha
  · rintro G ⟨s1, acc, hacc, _, ha⟩
    refine hd G acc s1 hacc ?_
    rw [hA.len, List.take_length] at ha
    exact ha
end K1


set_option Elab.async false
set_option linter.all false
set_option maxRecDepth 100000
set_option maxHeartbeats 4000000
/-! Draws of k33 to k38: signs, deeds, a folder with a history. -/
namespace K1
open PySem PySem.Spec PyProof.Rows L2 RZ StX
def ENL (p : Addr) (H H' : Hp) : Prop := ∀ b o, b ≠ p → (∀ ps, o ≠ .tbl ps) → H b = some o → H' b = some o
theorem ENL.refl (p : Addr) (H : Hp) : ENL p H H := fun _ _ _ _ h => h
theorem ENL.same {p : Addr} {H H1 H2 : Hp} (a : ENL p H H1) (s : Same H1 H2) : ENL p H H2 := fun b o n t h => s b o (a b o n t h)
theorem ENL.ext {p : Addr} {H H1 H2 : Hp} (a : ENL p H H1) (s : LamX.ExtN H1 H2) : ENL p H H2 := fun b o n t h => s b o (a b o n t h) t
theorem ENL.of {p : Addr} {H H' : Hp} (e : Ext p H H') : ENL p H H' := fun b o n _ h => e b o n h
theorem ENL.trans {p : Addr} {H H1 H2 : Hp} (a : ENL p H H1) (b : ENL p H1 H2) : ENL p H H2 := fun c o n t h => b c o n t (a c o n t h)
theorem ENL.mutf {p D : Addr} {H H1 : Hp} {o : HO} (a : ENL p H H1) (n : H D = none) : ENL p H (upd H1 D o) := fun b u nb t h => by
  rw [upd_ne (fun z => by rw [z, n] at h; cases h)]; exact a b u nb t h
theorem tabs_mutL {T : List (Addr × Str)} {D : Addr} {H : Hp} {xs : List V} {o : HO} (hD : H D = some (.lst xs)) (hT : LamX.Tabs T H) : LamX.Tabs T (upd H D o) := fun x hx => by
  obtain ⟨ps, h1, h2, h3⟩ := hT x hx
  refine ⟨ps, by rw [upd_ne (fun z => by rw [z, hD] at h1; cases h1)]; exact h1, h2, fun pos cv hc => ?_⟩
  obtain ⟨c', g1, g2⟩ := h3 pos cv hc
  exact ⟨c', g1, by rw [upd_ne (fun z => by rw [z, hD] at g2; cases g2)]; exact g2⟩
theorem tabs_w {T : List (Addr × Str)} {p : Addr} {H H' : Hp} (w : WellAt H p) (e : Ext p H H') (h : LamX.Tabs T H) : LamX.Tabs T H' := fun x hx => by
  obtain ⟨ps, h1, h2, h3⟩ := h x hx
  obtain ⟨c, m, t, hp⟩ := w
  refine ⟨ps, e _ _ (fun z => by rw [z, hp] at h1; cases h1) h1, h2, fun pos cv hc => ?_⟩
  obtain ⟨c', g1, g2⟩ := h3 pos cv hc
  exact ⟨c', g1, e _ _ (fun z => by rw [z, hp] at g2; cases g2) g2⟩
theorem WellAt.sm {H H' : Hp} {p : Addr} (w : WellAt H p) (s : Same H H') : WellAt H' p := let ⟨c, m, t, e⟩ := w; ⟨c, m, t, s _ _ e⟩
theorem WellAt.en {H H' : Hp} {p : Addr} (w : WellAt H p) (e : LamX.ExtN H H') : WellAt H' p := let ⟨c, m, t, h⟩ := w; ⟨c, m, t, e _ _ h fun _ z => by cases z⟩
theorem foat_w {C p x : Addr} {H H' : Hp} {F : Fo} (h : FoAt C H x F) (w : WellAt H p) (e : Ext p H H') : FoAt C H' x F := h.tk (TK.ext w e)
theorem par_go' {i j : Nat} {ta : TA} {tb : TS} {D : Ends} {σ : L2.St} {H : Hp} (h : ta σ H fun vs H1 => ∃ v w, vs = [v, w] ∧ tb D ((σ.set i (some v)).set j (some w)) H1) : tSeq (tPar i j ta) tb D σ H := h
theorem name_go' {i : Nat} {v : V} {σ : L2.St} {H : Hp} {Q : L2.St → Hp → Prop} (h : Q (σ.set i (some v)) H) : gName i v σ H Q := h
theorem sl_tupAK {X : Cx} {K : PySem.W.Frag} (h : X.K = K) : SlR X (rSlA K) := by subst h; exact sl_tupA
theorem slA_go {K : PySem.W.Frag} {a : Addr} {xs : List V} {lo hi : Option Int} {H : Hp} {Q : VK} (h : H a = some (.tup xs)) (q : ∀ b H', Same H H' → H' b = some (.tup (cutV xs lo hi)) → Q (.ref b) H') : rSlA K (.ref a) lo hi H Q := by
  refine ⟨a, xs, rfl, st h, fun z => ?_, fun _ D nD => q D _ (same_new nD) upd_same⟩
  refine q a H (fun _ _ h => h) ?_
  unfold cutV
  rw [z.1, z.2, List.drop_zero, Nat.sub_zero, List.take_length]; exact h
theorem cut_take (xs : List V) (n : Nat) : cutV xs none (some (n : Int)) = xs.take n := by
  unfold cutV
  have c1 : HT.sIx xs.length 0 none = 0 := rfl
  rw [c1, HT.sIx_nat, List.drop_zero, Nat.sub_zero]
  by_cases h : n ≤ xs.length
  · rw [Nat.min_eq_left h]
  · rw [Nat.min_eq_right (by omega), List.take_length, List.take_of_length_le (by omega)]
theorem cut_drop (xs : List V) (n : Nat) : cutV xs (some (n : Int)) none = xs.drop n := by
  unfold cutV
  have c2 : HT.sIx xs.length xs.length none = xs.length := rfl
  rw [HT.sIx_nat, c2]
  by_cases h : n ≤ xs.length
  · rw [Nat.min_eq_left h, List.take_of_length_le (by rw [List.length_drop]; omega)]
  · rw [Nat.min_eq_right (by omega), List.drop_length, List.drop_of_length_le (by omega)]; simp
theorem seq_ixI {K : PySem.W.Frag} {H : Hp} {wa : Addr} {xs : List V} {j : Int} {i : Nat} {x : V} {Q : VK} (h : SeqH H wa xs) (e : j = i) (hx : xs[i]? = some x) (q : Q x H) : rIx K (.ref wa) (.int j) H Q := by
  subst e
  rcases h with h | h
  · exact .inl ⟨wa, xs, (i : Int), x, rfl, rfl, sq h, atI_nat hx, q⟩
  · exact .inr (.inl ⟨wa, xs, (i : Int), x, rfl, rfl, st h, atI_nat hx, q⟩)
/-- all tuples stay -/
def TU (H G : Hp) : Prop := ∀ b xs, H b = some (.tup xs) → G b = some (.tup xs)
theorem TU.trans {H G J : Hp} (a : TU H G) (b : TU G J) : TU H J := fun x xs h => b x xs (a x xs h)
theorem TU.same {H G : Hp} (s : Same H G) : TU H G := fun x xs h => s _ _ h
theorem TU.ext {H G : Hp} (s : LamX.ExtN H G) : TU H G := fun x xs h => s _ _ h fun _ z => by cases z
theorem TU.w {p : Addr} {H G : Hp} (w : WellAt H p) (e : Ext p H G) : TU H G := fun x xs h => e _ _ (wt_ne w h) h
theorem TU.mut {H : Hp} {D : Addr} {o u : HO} (hD : H D = some o) (ho : ∀ xs, o ≠ .tup xs) : TU H (upd H D u) := fun x xs h => by
  rw [upd_ne (fun z => by rw [z, hD] at h; exact ho xs (Option.some.inj h))]; exact h
mutual
theorem Dv.tu {H H' : Hp} (s : TU H H') : ∀ {v : V} {d : PyData}, Dv H v d → tO d = true → Dv H' v d
  | _, _, .non, _ => .non
  | _, _, .bl b, _ => .bl b
  | _, _, .int i, _ => .int i
  | _, _, .str x, _ => .str x
  | _, _, .lst h r, n => by cases n
  | _, _, .tup h r, n => .tup (s _ _ h) (DvA.tu s r n)
  | _, _, .dic h, n => by cases n
theorem DvA.tu {H H' : Hp} (s : TU H H') : ∀ {vs : List V} {ds : List PyData}, DvA H vs ds → tOA ds = true → DvA H' vs ds
  | _, _, .nil, _ => .nil
  | _, _, .cons h r, n => .cons (Dv.tu s h ((Bool.and_eq_true _ _).mp n).1) (DvA.tu s r ((Bool.and_eq_true _ _).mp n).2)
end
/-- a deed of tuples alone, that is no trim -/
def DdW (H : Hp) (a : Addr) (d : Dd) : Prop := (∀ G, TU H G → DdAt G a d) ∧ (∀ F, CanD F d) ∧ W4D d
theorem DdW.tu {H G : Hp} {a : Addr} {d : Dd} (h : DdW H a d) (q : TU H G) : DdW G a d := ⟨fun J r => h.1 J (q.trans r), h.2⟩
theorem DdW.at_ {H : Hp} {a : Addr} {d : Dd} (h : DdW H a d) : DdAt H a d := h.1 H fun _ _ h => h
theorem w4_ok : (∀ z ∈ w4, okS z = true) ∧ Asc w4 := ⟨by decide +kernel, by unfold Asc ltS w4; decide +kernel⟩
theorem w4_sub {ss : List Str} (h : List.Sublist ss w4) : OkSs ss := ⟨by have := h.length_le; have : w4.length = 4 := rfl; omega, fun x hx => w4_ok.1 x (h.subset hx), List.Pairwise.sublist h w4_ok.2⟩
def spOneS : Sp := fun vs H Q _ => ∃ (p a : Addr) (xs : List V), vs = [.ref p, .ref a] ∧ WellAt H p ∧ SeqH H a xs ∧ a ≠ p ∧ 0 < xs.length ∧ xs.length < 1073741824 ∧
  ∀ (i : Nat) (x : V) (H' : Hp), xs[i]? = some x → Ext p H H' → WellAt H' p → Q x H'
abbrev sSg : Stmt := st__law_signs
abbrev sDe : Stmt := st__law_deed
abbrev sLf : Stmt := st__law_folder
abbrev nSg : List Str := ["_law_source_here", "_law_many", "_law_sign"]
abbrev pSg : List Str := ["_law_source_here", "_law_many"]
theorem scSg : FnScope nSg pSg (defScope sSg) := ⟨rfl, rfl, rfl, by decide +kernel, rfl, by decide +kernel, by decide +kernel⟩
abbrev nDe : List Str := ["_law_source_here", "_law_top", "_law_way", "_law_number", "_law_sign"]
abbrev pDe : List Str := ["_law_source_here", "_law_top"]
theorem scDe : FnScope nDe pDe (defScope sDe) := ⟨rfl, rfl, rfl, by decide +kernel, rfl, by decide +kernel, by decide +kernel⟩
abbrev nLf : List Str := ["_law_source_here", "_law_many", "_law_folder_here", "_law_turn"]
abbrev pLf : List Str := ["_law_source_here", "_law_many"]
theorem scLf : FnScope nLf pLf (defScope sLf) := ⟨rfl, rfl, rfl, by decide +kernel, rfl, by decide +kernel, by decide +kernel⟩
def spSg4 : Sp := fun vs H Q _ => ∃ p : Addr, vs = [.ref p, .int 4] ∧ WellAt H p ∧ ∀ a ss H', Ext p H H' → WellAt H' p → H' a = some (.tup (ss.map V.str)) → OkSs ss → W4 ss → Q (.ref a) H'
def spDe : Sp := fun vs H Q _ => ∃ (p : Addr) (top : Int), vs = [.ref p, .int top] ∧ WellAt H p ∧ 0 ≤ top ∧ top < 1000 ∧ ∀ a d H', Ext p H H' → WellAt H' p → DdW H' a d → Q (.ref a) H'
def spLf (C PA PT PS : Addr) : Sp := fun vs H Q _ => ∃ (p : Addr) (m : Int), vs = [.ref p, .int m] ∧ WellAt H p ∧ 0 ≤ m ∧ m ≤ 10 ∧ LamX.Tabs (T3 PA PT PS) H ∧ ∀ x F H', ENL p H H' → WellAt H' p → LamX.Tabs (T3 PA PT PS) H' → FoAt C H' x F → GA (m.toNat + 3) F → Q (.ref x) H'
section
variable {P : Program} {w : World} {K : PySem.W.Frag} {mg : Str → Option Value} {base : Heap} {C PA PT PS : Addr}
theorem ok_oneS {f : Addr} {fd : FuncData} (T : Bi mg) (D_next : Def P w K mg base CX0 2 "_law_next" pNx spNx) (F : Fun K "_law_one" "_law_one" sOne f fd) : FnOk P w K mg base CX0 3 f fd nOne spOneS := by
  have nd := scOne.nd
  refine F.ok scOne (fun vs H Q E h => ?_) (fun cdv A outer s H vs Q E hr h => ?_)
  · obtain ⟨p, a, xs, rfl, _⟩ := h
    rfl
  · obtain ⟨p, a, xs, rfl, hw, ha, nap, h0, h1, q⟩ := h
    refine ⟨_, (pss_one (ps_ret (pe_ix (ix_seqK (K := K) rfl) (pv 1) (pe_def D_next (hr.mono (by decide)) rfl pass0 (pa_cons (pv 0) (pa_cons (pe_callB (call_lenK (K := K) rfl) (by rfl) T.len PySem.boot_len (pa_cons (pv 1) pa_nil)) pa_nil))) (fun _ _ => rfl)))), ?_⟩
    refine ⟨_, rfl, _, rfl, _, rfl, a, xs, rfl, ha.len, p, _, rfl, hw, by omega, by omega, fun d H' d0 d1 e w' => ?_⟩
    have hd : d.toNat < xs.length := by omega
    exact seq_ixI (i := d.toNat) (xs := xs) (ha.imp (fun z => e _ _ nap z) (fun z => e _ _ nap z)) (by omega) (List.getElem?_eq_getElem hd) (q d.toNat _ H' (List.getElem?_eq_getElem hd) e w')
set_option maxHeartbeats 8000000 in
theorem ok_sg {f : Addr} {fd : FuncData} (T : Bk mg) (D_next : Def P w K mg base CX0 2 "_law_next" pNx spNx) (F : Fun K "_law_signs" "_law_signs" sSg f fd) : FnOk P w K mg base CX0 3 f fd pSg spSg4 := by
  have nd := scSg.nd
  refine F.ok scSg (fun vs H Q E h => ?_) (fun cdv A outer s H vs Q E hr h => ?_)
  · obtain ⟨p, rfl, _⟩ := h
    rfl
  · obtain ⟨p, rfl, hw, q⟩ := h
    refine ⟨_, (pss_one (ps_ret (pe_callTy (call_tuple_ofK (K := K) rfl) (by rfl) T.tuple PyProof.Rows.boot_tuple (pa_cons (pe_lc (own := [("_law_sign", 2)]) (g := gName 2) rfl nd (pi_tupK (K := K) rfl (pe_slice (sl_tupAK (K := K) rfl) (pe_tup (pa_cons pe_str (pa_cons pe_str (pa_cons pe_str (pa_cons pe_str pa_nil))))) po_none (po_some (pv 1)))) (blkOk_by (own := [("_law_sign", 2)]) (N := nSg) (sc := defScope sSg) (by decide +kernel)) (fun _ _ _ _ _ => pg_name (i := 2) nd rfl (Or.inl rfl)) (fun _ _ _ _ _ => pts_one (pt_cmpR op_eq (pe_def D_next (hr.mono (by decide)) rfl pass0 (pa_cons (pv 0) (pa_cons pe_int pa_nil))) pe_int (nomark _))) (fun _ _ _ _ _ => (pv 2))) pa_nil)))), ?_⟩
    refine ⟨by show 4 ≤ sizeLine; decide, fun T4 nT => ?_⟩
    have s1 := same_new nT (o := .tup [.str "a", .str "b", .str "done", .str "seen"])
    have hT : (upd H T4 (.tup [.str "a", .str "b", .str "done", .str "seen"])) T4 = some (.tup (w4.map V.str)) := upd_same
    have w1 := hw.sm s1
    generalize upd H T4 (.tup [.str "a", .str "b", .str "done", .str "seen"]) = G at s1 hT w1
    refine ⟨_, rfl, 4, rfl, ?_⟩
    refine slA_go hT fun b G1 s2 hb => ?_
    have eb : cutV (w4.map V.str) none (some 4) = w4.map V.str := cut_take _ 4
    rw [eb] at hb
    have w2 := w1.sm s2
    have Tp : b ≠ p := wt_ne w2 hb
    refine ⟨b, rfl, ⟨_, st hb⟩, fun D hD => ?_⟩
    have Dp : D ≠ p := w2.ne hD
    refine lc_it (walk_tup (K := K) (a := b) (xs := w4.map V.str)) (fun i G2 => Ext p G1 G2 ∧ WellAt G2 p ∧ ∃ ss : List Str, G2 D = some (.lst (ss.map V.str)) ∧ List.Sublist ss (w4.take i)) ⟨same_ext (same_new hD), w2.new hD, [], upd_same, by simp⟩ (fun i G2 _ h => st (h.1 _ _ Tp hb)) ?_ ?_
    · rintro i x G2 G3 hi ⟨e2, w3, ss, hD2, hs⟩ ⟨rfl, hx⟩
      rw [List.getElem?_map] at hx
      cases hz : w4[i]? with
      | none => rw [hz] at hx; cases hx
      | some z =>
        rw [hz] at hx
        obtain rfl := (Option.some.inj hx).symm
        have tk : w4.take (i + 1) = w4.take i ++ [z] := by rw [List.take_add_one, hz]; rfl
        refine ⟨rfl, _, rfl, p, 2, rfl, w3, by decide, by decide, fun d G4 d0 d2 e4 w4' => ⟨rfl, _, rfl, ?_⟩⟩
        have hD4 := e4 _ _ Dp hD2
        have ls : ss.length ≤ 4 := by
          have h1 := hs.length_le
          rw [List.length_take] at h1
          exact Nat.le_trans h1 (Nat.le_trans (Nat.min_le_right _ _) (by decide))
        by_cases c : d = 0
        · refine itbT (by simp [c]) ⟨_, rfl, _, hD4, lt2 _ (by rw [List.length_map]; omega), (e2.trans e4).mut hD, w4'.upd Dp, ss ++ [z], by rw [upd_same, List.map_append]; rfl, ?_⟩
          rw [tk]
          exact hs.append (List.Sublist.refl [z])
        · refine itbF (by simp [c]) ⟨e2.trans e4, w4', ss, hD4, ?_⟩
          rw [tk]
          exact hs.trans (List.sublist_append_left _ _)
    · rintro G2 ⟨e2, w3, ss, hD2, hs⟩
      rw [List.length_map, List.take_length] at hs
      refine ⟨D, _, rfl, .inl ⟨sq hD2, fun l nl => ?_⟩⟩
      have s3 := same_new (o := .tup (ss.map V.str)) nl
      exact q l ss _ (((same_ext (s1.trans s2)).trans e2).trans (same_ext s3)) (w3.new nl) upd_same (w4_sub hs) (fun x hx => w46 (hs.subset hx))
theorem nums_tu {H G : Hp} {a : Addr} {ns : List Int} (h : H a = some (.tup (ns.map V.int))) (q : TU H G) (o : ∀ n ∈ ns, 1 ≤ n) (l : ns.length ≤ 1000) : NumsAt G a ns := ⟨.inr (q _ _ h), o, l⟩
set_option maxHeartbeats 8000000 in
theorem ok_de {f : Addr} {fd : FuncData} (T : Bk mg) (D_next : Def P w K mg base CX0 2 "_law_next" pNx spNx) (D_one : Def P w K mg base CX0 3 "_law_one" nOne spOneS) (D_signs : Def P w K mg base CX0 3 "_law_signs" pSg spSg4) (F : Fun K "_law_deed" "_law_deed" sDe f fd) : FnOk P w K mg base CX0 4 f fd pDe spDe := by
  have nd := scDe.nd
  refine F.ok scDe (fun vs H Q E h => ?_) (fun cdv A outer s H vs Q E hr h => ?_)
  · obtain ⟨p, top, rfl, _⟩ := h
    rfl
  · obtain ⟨p, top, rfl, hw, t1, t2, q⟩ := h
    refine ⟨_, (C8.pss_cut (ps_par (i := 2) (j := 3) (by rfl) nd rfl rfl (by decide) rfl rfl (pa_cons (pe_def D_next (hr.mono (by decide)) rfl pass0 (pa_cons (pv 0) (pa_cons pe_int pa_nil))) (pa_cons (pe_op op_add pe_int (pe_def D_next (hr.mono (by decide)) rfl pass0 (pa_cons (pv 0) (pa_cons (pe_op op_add (pv 1) pe_int) pa_nil)))) pa_nil)) (by rfl))
 (C8.pss_cut (ps_set (i := 4) nd rfl (Or.inl rfl) (pe_def D_one (hr.mono (by decide)) rfl pass0 (pa_cons (pv 0) (pa_cons (pe_tup (pa_cons pe_str (pa_cons pe_str (pa_cons pe_str (pa_cons pe_str pa_nil))))) pa_nil))))
 (pss_cons (ps_if (pt_cmpR op_eq (pv 2) pe_int (nomark _))
  (pss_one (ps_ret (pe_tup (pa_cons pe_str (pa_cons (pe_def D_next (hr.mono (by decide)) rfl pass0 (pa_cons (pv 0) (pa_cons pe_int pa_nil))) (pa_cons (pe_def D_signs (hr.mono (by decide)) rfl pass0 (pa_cons (pv 0) (pa_cons pe_int pa_nil))) pa_nil))))))
  pss_nil)
 (pss_cons (ps_if (pt_cmpR op_eq (pv 2) pe_int (nomark _))
  (pss_one (ps_ret (pe_tup (pa_cons pe_str (pa_cons (pe_tup (pa_cons (pv 3) pa_nil)) pa_nil)))))
  pss_nil)
 (pss_cons (ps_if (pt_cmpR op_eq (pv 2) pe_int (nomark _))
  (pss_one (ps_ret (pe_tup (pa_cons pe_str (pa_cons (pe_tup (pa_cons (pv 3) pa_nil)) (pa_cons (pe_def D_signs (hr.mono (by decide)) rfl pass0 (pa_cons (pv 0) (pa_cons pe_int pa_nil))) pa_nil))))))
  pss_nil)
 (pss_one (ps_ret (pe_tup (pa_cons (pe_ifExp (pt_cmpR op_lt (pv 2) pe_int (nomark _)) pe_str pe_str) (pa_cons (pe_tup (pa_cons (pv 3) (pa_cons (pe_op op_add pe_int (pe_def D_next (hr.mono (by decide)) rfl pass0 (pa_cons (pv 0) (pa_cons (pe_op op_add (pv 1) pe_int) pa_nil)))) pa_nil))) (pa_cons (pv 4) pa_nil))))))))))), ?_⟩
    refine ⟨fun σ G => ∃ d n : Int, σ = [some (.ref p), some (.int top), some (.int d), some (.int n), none] ∧ 1 ≤ n ∧ Ext p H G ∧ WellAt G p, ?_, ?_⟩
    · refine ⟨_, rfl, p, 6, rfl, hw, by decide, by decide, fun d H1 d0 d9 e1 w1 => ?_⟩
      refine ⟨_, rfl, _, rfl, _, _, rfl, rfl, p, top + 1, rfl, w1, by omega, by omega, fun m H2 m0 m1 e2 w2 => ⟨_, _, rfl, rfl, ?_⟩⟩
      exact ⟨_, _, rfl, d, 1 + m, rfl, by omega, e1.trans e2, w2⟩
    rintro σ G ⟨d, n, rfl, n1, eG, wG'⟩
    refine ⟨fun σ G2 => ∃ z : Str, σ = [some (.ref p), some (.int top), some (.int d), some (.int n), some (.str z)] ∧ z ∈ w4 ∧ Ext p H G2 ∧ WellAt G2 p, ?_, ?_⟩
    · refine ⟨_, rfl, by show 4 ≤ sizeLine; decide, fun T4 nT => ?_⟩
      have s1 := same_new nT (o := .tup [.str "a", .str "b", .str "done", .str "seen"])
      have hT : (upd G T4 (.tup [.str "a", .str "b", .str "done", .str "seen"])) T4 = some (.tup (w4.map V.str)) := upd_same
      have w1 := wG'.sm s1
      generalize upd G T4 (.tup [.str "a", .str "b", .str "done", .str "seen"]) = G1 at s1 hT w1
      refine ⟨p, T4, _, rfl, w1, .inr hT, wt_ne w1 hT, by decide, by decide, fun i x G2 hx e2 w2 => ?_⟩
      rw [List.getElem?_map] at hx
      cases hz : w4[i]? with
      | none => rw [hz] at hx; cases hx
      | some z =>
        rw [hz] at hx
        obtain rfl := (Option.some.inj hx).symm
        exact ⟨z, rfl, List.mem_of_getElem? hz, (eG.trans (same_ext s1)).trans e2, w2⟩
    rintro σ G2 ⟨z, rfl, hzw, e2, w2⟩
    have hz := w4_ok.1 z hzw
    refine ⟨_, rfl, rfl, _, rfl, ?_⟩
    by_cases c0 : d = 0
    · refine itbT (by simp [c0]) ?_
      refine ⟨_, rfl, p, 4, rfl, w2, by decide, by decide, fun b G4 b0 b4 e4 w4 => ?_⟩
      refine ⟨_, rfl, p, rfl, w4, fun sa ss G5 e5 w5 hs ok hz4 => ⟨by show 3 ≤ sizeLine; decide, fun R nR => ?_⟩⟩
      have sR := same_new nR (o := .tup [.str "append", .int b, .ref sa])
      exact q R (.app b ss) _ (((e2.trans e4).trans e5).trans (same_ext sR)) (w5.sm sR) ⟨fun J t => ⟨sa, t _ _ upd_same, t _ _ (sR _ _ hs), b0, ok⟩, fun _ => trivial, hz4⟩
    refine itbF (by simp [c0]) ⟨_, rfl, rfl, _, rfl, ?_⟩
    by_cases c1 : d = 1
    · refine itbT (by simp [c1]) ?_
      refine ⟨_, rfl, by show 1 ≤ sizeLine; decide, fun N nN => ⟨by show 2 ≤ sizeLine; decide, fun R nR => ?_⟩⟩
      have sN := same_new nN (o := .tup [.int n])
      have sR := same_new nR (o := .tup [.str "remove", .ref N])
      have hN := sR N _ upd_same
      exact q R (.rem [n]) _ ((e2.trans (same_ext sN)).trans (same_ext sR)) ((w2.sm sN).sm sR) ⟨fun J t => ⟨N, t _ _ upd_same, nums_tu (ns := [n]) hN t (fun m hm => by rw [List.mem_singleton.mp hm]; exact n1) (by show 1 ≤ 1000; decide)⟩, fun _ => trivial, trivial⟩
    refine itbF (by simp [c1]) ⟨_, rfl, rfl, _, rfl, ?_⟩
    by_cases c2 : d = 2
    · refine itbT (by simp [c2]) ?_
      refine ⟨_, rfl, by show 1 ≤ sizeLine; decide, fun N nN => ?_⟩
      have sN := same_new nN (o := .tup [.int n])
      have hN : (upd G2 N (.tup [.int n])) N = some (.tup ([n].map V.int)) := upd_same
      have w3 := w2.sm sN
      generalize upd G2 N (.tup [.int n]) = G3 at sN hN w3
      refine ⟨_, rfl, p, rfl, w3, fun sa ss G5 e5 w5 hs ok hz4 => ⟨by show 3 ≤ sizeLine; decide, fun R nR => ?_⟩⟩
      have sR := same_new nR (o := .tup [.str "set", .ref N, .ref sa])
      have hN5 := sR N _ (e5 _ _ (wt_ne w3 hN) hN)
      exact q R (.set [n] ss) _ (((e2.trans (same_ext sN)).trans e5).trans (same_ext sR)) (w5.sm sR) ⟨fun J t => ⟨N, sa, t _ _ upd_same, nums_tu (ns := [n]) hN5 t (fun m hm => by rw [List.mem_singleton.mp hm]; exact n1) (by show 1 ≤ 1000; decide), t _ _ (sR _ _ hs), ok⟩, fun _ => trivial, hz4⟩
    refine itbF (by simp [c2]) ⟨_, rfl, _, _, rfl, rfl, _, rfl, ?_⟩
    have fin : ∀ (wd : Str) (dd : List Int → Dd) (G3 : Hp), G3 = G2 → (∀ J R N ns, J R = some (.tup [.str wd, .ref N, .str z]) → NumsAt J N ns → DdAt J R (dd ns)) → (∀ ns, (∀ F, CanD F (dd ns)) ∧ W4D (dd ns)) →
        tCons (tTup (tCons (tVar 3) (tCons (tOp rAdd (tC (.int 1)) (tCall spNx [] E0 (tCons (tVar 0) (tCons (tOp rAdd (tVar 1) (tC (.int 1))) tNil)))) tNil))) (tCons (tVar 4) tNil) [some (.ref p), some (.int top), some (.int d), some (.int n), some (.str z)] G3 (fun vs H => (V.str wd :: vs).length ≤ sizeLine ∧ ∀ R, H R = none → Q (.ref R) (upd H R (.tup (V.str wd :: vs)))) := fun wd dd G3 e h1 h2 => ?_
    · refine ite2 (fun c3 => ?_) (fun c3 => ?_)
      · exact fin "add" (fun ns => .add ns z) _ rfl (fun J R N ns h1 h2 => ⟨N, h1, h2, hz⟩) (fun _ => ⟨fun _ => trivial, w46 hzw⟩)
      · exact fin "take" (fun ns => .take ns z) _ rfl (fun J R N ns h1 h2 => ⟨N, h1, h2, hz⟩) (fun _ => ⟨fun _ => trivial, trivial⟩)
    subst e
    refine ⟨_, rfl, _, rfl, _, rfl, _, _, rfl, rfl, p, top + 1, rfl, w2, by omega, by omega, fun m G4 m0 m1 e4 w4 => ⟨_, _, rfl, rfl, by show 2 ≤ sizeLine; decide, fun N nN => ?_⟩⟩
    have sN := same_new nN (o := .tup [.int n, .int (1 + m)])
    have hN : (upd G4 N (.tup [.int n, .int (1 + m)])) N = some (.tup ([n, 1 + m].map V.int)) := upd_same
    have w5 := w4.sm sN
    generalize upd G4 N (.tup [.int n, .int (1 + m)]) = G5 at sN hN w5
    refine ⟨_, rfl, by show 3 ≤ sizeLine; decide, fun R nR => ?_⟩
    have sR := same_new nR (o := .tup [.str wd, .ref N, .str z])
    refine q R (dd [n, 1 + m]) _ (((e2.trans e4).trans (same_ext sN)).trans (same_ext sR)) (w5.sm sR) ⟨fun J t => h1 J R N _ (t _ _ upd_same) (nums_tu (sR _ _ hN) t (fun k hk => ?_) (by show 2 ≤ 1000; decide)), h2 _⟩
    rcases (show k = n ∨ k = 1 + m by simpa using hk) with rfl | rfl <;> omega
end
end K1


set_option Elab.async false
set_option linter.all false
set_option maxRecDepth 100000
set_option maxHeartbeats 4000000
namespace K1
open PySem PySem.Spec PyProof.Rows L2 RZ StX
def DdV (H : Hp) (x : V) (d : Dd) : Prop := ∃ a, x = V.ref a ∧ DdW H a d
theorem DdV.tu {H G : Hp} {x : V} {d : Dd} (h : DdV H x d) (q : TU H G) : DdV G x d := let ⟨a, e, k⟩ := h; ⟨a, e, k.tu q⟩
theorem dds_of {H : Hp} : ∀ {xs : List V} {ds : List Dd}, A2 (DdV H) xs ds → DdsAt H xs ds
  | _, _, .nil => .nil
  | _, _, .cons ⟨a, e, h⟩ r => by subst e; exact .cons h.at_ (dds_of r)
theorem dds_ok {H : Hp} : ∀ {xs : List V} {ds : List Dd}, A2 (DdV H) xs ds → ∀ d ∈ ds, OkD d ∧ W4D d
  | _, _, .nil, d, h => by cases h
  | _, _, .cons ⟨a, e, h⟩ r, d, hd => by
    rcases List.mem_cons.mp hd with rfl | hd
    · exact ⟨h.at_.ok, h.2.2⟩
    · exact dds_ok r d hd
theorem dds_can {H : Hp} : ∀ {xs : List V} {ds : List Dd}, A2 (DdV H) xs ds → ∀ F, CanL ds F
  | _, _, .nil, _ => trivial
  | _, _, .cons ⟨a, e, h⟩ r, F => ⟨h.2.1 F, dds_can r _⟩
section
variable {P : Program} {w : World} {K : PySem.W.Frag} {mg : Str → Option Value} {base : Heap} {C PA PT PS : Addr}
set_option maxHeartbeats 8000000 in
theorem ok_lf {f : Addr} {fd : FuncData} (T : Bk mg) (t : ClT K mg C) (D_new : MkD P w K mg base C) (D_next : Def P w K mg base CX0 2 "_law_next" pNx spNx) (D_signs : Def P w K mg base CX0 3 "_law_signs" pSg spSg4) (D_deed : Def P w K mg base CX0 4 "_law_deed" pDe spDe) (M_app : MDef P w K mg base CX0 6 C "appended" pApp (spApp C)) (D_played : Def P w K mg base CX0 10 "played" pPlayed (spPlayed C PA PT PS))
    (F : Fun K "_law_folder" "_law_folder" sLf f fd) : FnOk P w K mg base CX0 11 f fd pLf (spLf C PA PT PS) := by
  have nd := scLf.nd
  refine F.ok scLf (fun vs H Q E h => ?_) (fun cdv A outer s H vs Q E hr h => ?_)
  · obtain ⟨p, m, rfl, _⟩ := h
    rfl
  · obtain ⟨p, m, rfl, hw, m0, m10, hT, q⟩ := h
    refine ⟨_, (pss_cons (ps_set (i := 2) nd rfl (Or.inl rfl) (pe_new D_new t.gC (hr.mono (by decide)) rfl (pa_cons (pe_op op_add pe_int (pe_def D_next (hr.mono (by decide)) rfl pass0 (pa_cons (pv 0) (pa_cons pe_int pa_nil)))) pa_nil)))
 (pss_cons (ps_for PassesOwn.never rfl (pi_range1 rfl T.range (pa_cons (pv 1) pa_nil)) (pg_name (i := 3) nd rfl (Or.inl rfl))
  (pss_one (ps_set (i := 2) nd rfl (Or.inl rfl) (pe_mdef M_app t.cl (hr.mono (by decide)) pass0 (pv 2) (pa_cons (pe_def D_next (hr.mono (by decide)) rfl pass0 (pa_cons (pv 0) (pa_cons pe_int pa_nil))) (pa_cons (pe_def D_signs (hr.mono (by decide)) rfl pass0 (pa_cons (pv 0) (pa_cons pe_int pa_nil))) pa_nil))))))
 (pss_one (ps_ret (pe_def D_played (hr.mono (by decide)) rfl pass0 (pa_cons (pv 2) (pa_cons (pe_lc (own := [("_law_turn", 3)]) (g := gName 3) (tt := tYes) rfl nd (pi_range1 rfl T.range (pa_cons (pe_def D_next (hr.mono (by decide)) rfl pass0 (pa_cons (pv 0) (pa_cons pe_int pa_nil))) pa_nil)) (blkOk_by (own := [("_law_turn", 3)]) (N := nLf) (sc := defScope sLf) (by decide +kernel)) (fun _ _ _ _ _ => pg_name (i := 3) nd rfl (Or.inl rfl)) (fun _ _ _ _ _ => pts_nil) (fun _ _ _ _ _ => (pe_def D_deed (hr.mono (by decide)) rfl pass0 (pa_cons (pv 0) (pa_cons (pv 1) pa_nil))))) pa_nil))))))), ?_⟩
    refine ⟨_, rfl, p, 3, rfl, hw, by decide, by decide, fun a0 H1 a1 a2 e1 w1 => ⟨_, _, rfl, rfl, fun x dx nx ndx nxd => ?_⟩⟩
    refine ⟨x, dx, 1 + a0, rfl, upd_same, by omega, fun G tl tg k0 hx htl htg => ⟨rfl, ?_⟩⟩
    have sG : Same H1 G := fun b o hb => k0 b o (fun e => by rw [e, nx] at hb; cases hb) (by
      rw [upd_ne (fun e => by rw [e, nx] at hb; cases hb), upd_ne (fun e => by rw [e, ndx] at hb; cases hb)]; exact hb)
    have hF0 : FoAt C G x (fNew (1 + a0)) := ⟨dx, tl, tg, hx, .tup htl .nil, .tup htg .nil⟩
    have eG : ENL p H G := (ENL.of e1).same sG
    have tG := (tabs_w hw e1 hT).ext sG
    refine ⟨_, rfl, _, rfl, by omega, by omega, for_range (lo := 0) (n := m.toNat) (fun i σ G => ∃ (y : Addr) (v3 : Option V) (F' : Fo), σ = [some (.ref p), some (.int m), some (.ref y), v3] ∧ ENL p H G ∧ WellAt G p ∧ LamX.Tabs (T3 PA PT PS) G ∧ FoAt C G y F' ∧ GA i F') ?_ ?_ ?_⟩
    · exact ⟨x, none, _, rfl, eG, w1.sm sG, tG, hF0, ga_new (by omega)⟩
    · rintro i σ G3 hi ⟨y, v2, F', rfl, e3, w3, t3, f3, g3⟩
      obtain ⟨dy, tl', tg', hy, _⟩ := id f3
      refine ⟨_, rfl, y, dy, _, rfl, hy, fl_no (by decide +kernel), _, rfl, p, 4, rfl, w3, by decide, by decide, fun b G4 b0 b3 e4 w4 => ?_⟩
      have f4 := foat_w f3 w3 e4
      refine ⟨_, rfl, p, rfl, w4, fun sa ss G5 e5 w5 hs ok hz4 => ?_⟩
      have f5 := foat_w f4 w4 e5
      have wl := g3.g.wf.len
      refine ⟨y, sa, F', b, ss, rfl, f5, g3.g.wf.age, b0, hs, ok, by omega, fun z G6 s6 nz f6 => ?_⟩
      exact ⟨z, _, fApp F' b ss, rfl, (e3.trans ((ENL.of e4).trans (ENL.of e5))).same s6, w5.sm s6, (tabs_w w4 e5 (tabs_w w3 e4 t3)).ext s6, f6, ga_does (by omega) g3 (d := .app b ss) ⟨b0, ok⟩ hz4⟩
    · rintro σ G3 ⟨y, v2, F', rfl, e3, w3, t3, f3, g3⟩
      have hm : m.toNat ≤ 10 := by omega
      refine ⟨_, rfl, _, rfl, p, 4, rfl, w3, by decide, by decide, fun k G4 k0 k4 e4 w4 => ⟨_, rfl, by omega, by omega, fun D nD => ?_⟩⟩
      have Dp := w4.ne nD
      have f4 := foat_w f3 w3 e4
      refine lc_range (lo := 0) (n := k.toNat) (fun i G5 => ∃ (xs : List V) (ds : List Dd), Ext p G4 G5 ∧ WellAt G5 p ∧ G5 D = some (.lst xs) ∧ A2 (DdV G5) xs ds ∧ ds.length = i) ?_ ?_ ?_
      · exact ⟨[], [], same_ext (same_new nD), w4.new nD, upd_same, .nil, rfl⟩
      · rintro i G5 hi ⟨xs, ds, e5, w5, hD, hA, hl⟩
        refine ⟨rfl, tyes ⟨_, rfl, _, rfl, p, m, rfl, w5, m0, by omega, fun a d G6 e6 w6 hd => ?_⟩⟩
        have tu := TU.w w5 e6
        have hD6 := e6 _ _ Dp hD
        have lx := hA.len
        have tm : TU G6 (upd G6 D (.lst (xs ++ [.ref a]))) := TU.mut hD6 fun _ z => by cases z
        refine ⟨xs, hD6, lt2 _ (by omega), xs ++ [.ref a], ds ++ [d], (e5.trans e6).mut nD, w6.upd Dp, upd_same, (hA.imp fun _ _ h => (h.tu tu).tu tm).app (.cons ⟨a, rfl, hd.tu tm⟩ .nil), by rw [List.length_append, hl]; rfl⟩
      · rintro G5 ⟨xs, ds, e5, w5, hD, hA, hl⟩
        have e35 := e4.trans e5
        have hk : k.toNat ≤ 3 := by omega
        refine ⟨y, D, F', xs, ds, 10, rfl, foat_w f4 w4 e5, g3.g.wf.mono hm, by omega, .inl hD, dds_of hA, dds_can hA F', tabs_w w4 e5 (tabs_w w3 e4 t3), fun z G6 e6 t6 f6 => ?_⟩
        exact q z (doesL ds F') G6 ((e3.trans (ENL.of e35)).ext e6) (w5.en e6) t6 f6 ((ga_doesL (by omega) g3 (dds_ok hA)).mono (by omega))
end
end K1


set_option Elab.async false
set_option linter.all false
set_option maxRecDepth 100000
set_option maxHeartbeats 4000000
namespace K1
open PySem PySem.Spec PyProof.Rows L2 RZ StX
abbrev sIsAsc : Stmt := st_is_ascending
abbrev nIsAsc : List Str := ["numbers", "one", "other"]
abbrev pIsAsc : List Str := ["numbers"]
theorem scIsAsc : FnScope nIsAsc pIsAsc (defScope sIsAsc) := ⟨rfl, rfl, rfl, by decide +kernel, rfl, by decide +kernel, by decide +kernel⟩
def spIsAsc : Sp := fun vs H Q _ => ∃ (a : Addr) (ns : List Int), vs = [.ref a] ∧ SeqH H a (ns.map V.int) ∧ ns.length ≤ 1000 ∧ ∀ H', Same H H' → Q (.bl (ascB ns)) H'
section
variable {P : Program} {w : World} {K : PySem.W.Frag} {mg : Str → Option Value} {base : Heap}
theorem cut1 (xs : List V) : cutV xs (some 1) none = xs.drop 1 := by
  unfold cutV
  rw [show (1 : Int) = ((1 : Nat) : Int) from rfl, HT.sIx_nat, HT.sIx_none]
  cases xs with
  | nil => rfl
  | cons x r =>
    rw [show min 1 (x :: r).length = 1 by rw [List.length_cons]; omega]
    exact List.take_of_length_le (by simp)
theorem ok_isAsc {f : Addr} {fd : FuncData} (T : Bk mg) (F : Fun K "is_ascending" "is_ascending" sIsAsc f fd) : FnOk P w K mg base CX0 1 f fd pIsAsc spIsAsc := by
  have nd := scIsAsc.nd
  refine F.ok scIsAsc (fun vs H Q E h => ?_) (fun cdv A outer s H vs Q E hr h => ?_)
  · obtain ⟨a, ns, rfl, _⟩ := h
    rfl
  · obtain ⟨a, ns, rfl, hS, hl, q⟩ := h
    refine ⟨_, (pss_one (ps_ret (pe_callB (cr_allK (K := K) rfl rfl) (by rfl) T.all PyProof.Rows.boot_all (pa_cons (pe_lc (own := [("one", 1), ("other", 2)]) (g := gTup K 2 (gCons (gName 1) (gCons (gName 2) gNil))) (tt := tYes) rfl nd (pi_zipSK (K := K) rfl (by rfl) T.zip (pa_cons (pv 0) (pa_cons (pe_slice (sl_seqK (K := K) rfl) (pv 0) (po_some pe_int) po_none) pa_nil))) (blkOk_by (own := [("one", 1), ("other", 2)]) (N := nIsAsc) (sc := defScope sIsAsc) (by decide +kernel)) (fun _ _ _ _ _ => pg_tup rfl (pgs_cons (pg_name (i := 1) nd rfl (Or.inl rfl)) (pgs_cons (pg_name (i := 2) nd rfl (Or.inl rfl)) pgs_nil))) (fun _ _ _ _ _ => pts_nil) (fun _ _ _ _ _ => (pe_cmpR op_lt (pv 1) (pv 2) (nomark _)))) pa_nil)))), ?_⟩
    have hz : (ns.zip (ns.drop 1)).length = min (ns.map V.int).length ((ns.map V.int).drop 1).length := by simp
    have hget : ∀ i < (ns.zip (ns.drop 1)).length, ∃ x y, (ns.zip (ns.drop 1))[i]? = some (x, y) ∧ (ns.map V.int)[i]? = some (.int x) ∧ ((ns.map V.int).drop 1)[i]? = some (.int y) := fun i hi => by
      have h1 : i < ns.length := by rw [List.length_zip] at hi; omega
      have h2 : i < (ns.drop 1).length := by rw [List.length_zip] at hi; omega
      refine ⟨ns[i], (ns.drop 1)[i], ?_, ?_, ?_⟩
      · rw [List.getElem?_eq_getElem hi, List.getElem_zip]
      · simp [h1]
      · rw [← List.map_drop, List.getElem?_map, List.getElem?_eq_getElem h2]; rfl
    have e0 : ascB ns = ((ns.zip (ns.drop 1)).map fun p => decide (p.1 < p.2)).all id := rfl
    have P0 : ∀ {H1 : Hp} {J : It} {Gd : Hp → Prop} {D : Addr}, Same H H1 → Walk J (min (ns.map V.int).length ((ns.map V.int).drop 1).length) Gd (YPair (fun i => (ns.map V.int)[i]?) (fun i => ((ns.map V.int).drop 1)[i]?)) → (∀ H', Same H1 H' → Gd H') → H1 D = none →
        ∀ (i : Nat) (y : V) (H2 H3 : Hp), i < min (ns.map V.int).length ((ns.map V.int).drop 1).length → (Same H1 H2 ∧ H2 D = some (.lst ((((ns.zip (ns.drop 1)).take i).map fun p => decide (p.1 < p.2)).map V.bl))) →
        YPair (fun i => (ns.map V.int)[i]?) (fun i => ((ns.map V.int).drop 1)[i]?) i H2 y H3 → ∃ (T : Addr) (u v : Int), y = .ref T ∧ H3 T = some (.tup [.int u, .int v]) ∧ H3 D = some (.lst ((((ns.zip (ns.drop 1)).take i).map fun p => decide (p.1 < p.2)).map V.bl)) ∧
          (Same H1 (upd H3 D (.lst ((((ns.zip (ns.drop 1)).take i).map fun p => decide (p.1 < p.2)).map V.bl ++ [V.bl (decide (u < v))]))) ∧ (upd H3 D (.lst ((((ns.zip (ns.drop 1)).take i).map fun p => decide (p.1 < p.2)).map V.bl ++ [V.bl (decide (u < v))]))) D =
            some (.lst ((((ns.zip (ns.drop 1)).take (i + 1)).map fun p => decide (p.1 < p.2)).map V.bl))) := by
      intro H1 J Gd D s1 wk hG hD i y H2 H3 hi ⟨s2, h2⟩ ⟨T, x', y', e1, nT, e2, e3, e4⟩
      obtain ⟨u, v, g1, g2, g3⟩ := hget i (by rw [hz]; exact hi)
      obtain rfl := (Option.some.inj (g2.symm.trans e3)).symm
      obtain rfl := (Option.some.inj (g3.symm.trans e4)).symm
      subst e1 e2
      have nTD : T ≠ D := (ne_of_none h2 nT).symm
      refine ⟨T, u, v, rfl, upd_same, by rw [upd_ne nTD.symm]; exact h2, (s2.new nT).mut hD, ?_⟩
      rw [upd_same, take_more g1]
      simp
    have len2 : ns.length ≤ 1000 := hl
    rcases hS with hS | hS
    · refine ⟨.ref a, rfl, .ref a, rfl, 1, rfl, .inl ⟨a, _, rfl, sq hS, fun b nb => ?_⟩⟩
      rw [cut1]
      have s1 := same_new (o := .lst ((ns.map V.int).drop 1)) nb
      refine ⟨a, b, _, _, rfl, zip_walkL (s1 _ _ hS) upd_same fun J Gd wk hG D hD => lc_it wk (fun i H2 => Same (upd H b (.lst ((ns.map V.int).drop 1))) H2 ∧ H2 D = some (.lst ((((ns.zip (ns.drop 1)).take i).map fun p => decide (p.1 < p.2)).map V.bl))) ⟨same_new hD, upd_same⟩ (fun i H2 _ h => hG _ h.1) ?_ ?_⟩
      · rintro i y H2 H3 hi h2 hy
        obtain ⟨T, u, v, rfl, hT, h3, fin⟩ := P0 s1 wk hG hD i y H2 H3 hi h2 hy
        refine ⟨T, _, rfl, st hT, rfl, _, _, rfl, _, _, rfl, rfl, rfl, tyes ⟨_, rfl, _, rfl, _, _, rfl, rfl, _, h3, lt2 _ ?_, fin⟩⟩
        rw [List.length_map, List.length_map, List.length_take, List.length_zip]; omega
      · rintro H2 ⟨s2, h2⟩
        rw [← hz, List.take_length] at h2
        exact ⟨D, _, rfl, sq h2, q _ (s1.trans s2)⟩
    · refine ⟨.ref a, rfl, .ref a, rfl, 1, rfl, .inr ⟨a, _, rfl, st hS, fun hw => ?_, fun _ b nb => ?_⟩⟩
      · have en : ns = [] := by
          have h1 := hw.1
          rw [show (1 : Int) = ((1 : Nat) : Int) from rfl, HT.sIx_nat, List.length_map] at h1
          exact List.eq_nil_of_length_eq_zero (by omega)
        subst en
        refine ⟨a, a, _, _, rfl, zip_walkT hS hS fun J Gd wk hG D hD => lc_it wk (fun i H2 => Same H H2 ∧ H2 D = some (.lst [])) ⟨same_new hD, upd_same⟩ (fun i H2 _ h => hG _ h.1) ?_ ?_⟩
        · rintro i y H2 H3 hi
          simp at hi
        · rintro H2 ⟨s2, h2⟩
          exact ⟨D, [], rfl, sq h2, q _ s2⟩
      · rw [cut1]
        have s1 := same_new (o := .tup ((ns.map V.int).drop 1)) nb
        refine ⟨a, b, _, _, rfl, zip_walkT (s1 _ _ hS) upd_same fun J Gd wk hG D hD => lc_it wk (fun i H2 => Same (upd H b (.tup ((ns.map V.int).drop 1))) H2 ∧ H2 D = some (.lst ((((ns.zip (ns.drop 1)).take i).map fun p => decide (p.1 < p.2)).map V.bl))) ⟨same_new hD, upd_same⟩ (fun i H2 _ h => hG _ h.1) ?_ ?_⟩
        · rintro i y H2 H3 hi h2 hy
          obtain ⟨T, u, v, rfl, hT, h3, fin⟩ := P0 s1 wk hG hD i y H2 H3 hi h2 hy
          refine ⟨T, _, rfl, st hT, rfl, _, _, rfl, _, _, rfl, rfl, rfl, tyes ⟨_, rfl, _, rfl, _, _, rfl, rfl, _, h3, lt2 _ ?_, fin⟩⟩
          rw [List.length_map, List.length_map, List.length_take, List.length_zip]; omega
        · rintro H2 ⟨s2, h2⟩
          rw [← hz, List.take_length] at h2
          exact ⟨D, _, rfl, sq h2, q _ (s1.trans s2)⟩
end
theorem ascB_cons {x y : Int} {r : List Int} : ascB (x :: y :: r) = (decide (x < y) && ascB (y :: r)) := by
  unfold ascB
  rw [List.drop_one, List.tail_cons, List.zip_cons_cons, List.map_cons, List.all_cons, List.drop_one, List.tail_cons]
  rfl
theorem ascB_of : ∀ {ns : List Int}, ns.Pairwise (· < ·) → ascB ns = true
  | [], _ => rfl
  | [_], _ => rfl
  | x :: y :: r, h => by
    rw [ascB_cons, ascB_of (List.pairwise_cons.mp h).2, Bool.and_true]
    exact decide_eq_true ((List.pairwise_cons.mp h).1 y List.mem_cons_self)
end K1


set_option Elab.async false
set_option linter.all false
set_option maxRecDepth 100000
set_option maxHeartbeats 4000000
/-! Copies as data; _are_letters, _are_made. -/
namespace K1
open PySem PySem.Spec PyProof.Rows L2 RZ StX
/-- the empty tuple that stands as a default -/
def KEmp (K : PySem.W.Frag) (a : Addr) : Prop := ∃ (o : Obj) (n : Nat), K.lookup a = some o ∧ o.cls = .type "tuple" ∧ o.data = .seq #[] n
def SqK (K : PySem.W.Frag) (H : Hp) (a : Addr) (xs : List V) : Prop := SeqH H a xs ∨ (xs = [] ∧ KEmp K a)
theorem SqK.ext {K : PySem.W.Frag} {H H' : Hp} {a : Addr} {xs : List V} (h : SqK K H a xs) (s : LamX.ExtN H H') : SqK K H' a xs := h.imp (fun h => h.imp (fun e => s _ _ e fun _ z => by cases z) (fun e => s _ _ e fun _ z => by cases z)) id
theorem kemp_st {K : PySem.W.Frag} {H : Hp} {a : Addr} (h : KEmp K a) : SqT K H a [] := let ⟨o, n, h1, h2, h3⟩ := h; .inr ⟨o, #[], n, h1, h2, h3, Nat.zero_le _, .nil⟩
theorem SqK.len {K : PySem.W.Frag} {H : Hp} {a : Addr} {xs : List V} (h : SqK K H a xs) : SqL K H a xs ∨ SqT K H a xs := by
  rcases h with h | ⟨rfl, h⟩
  · exact SeqH.len h
  · exact .inr (kemp_st h)
theorem SqK.ty {K : PySem.W.Frag} {H : Hp} {a : Addr} {xs : List V} (h : SqK K H a xs) : ∃ tn : String, TyX K H (.ref a) (.type tn) ∧ PySem.W.kitAny K (.type tn) [.type "list", .type "tuple"] = some true := by
  rcases h with (h | h) | ⟨rfl, o, n, h1, h2, h3⟩
  · exact ⟨"list", .base (.lst h), kit_seq (.list [])⟩
  · exact ⟨"tuple", .base (.tup h), kit_seq (.tuple [])⟩
  · exact ⟨"tuple", .kTuple h1 h2, kit_seq (.tuple [])⟩
theorem seqK_walk {K : PySem.W.Frag} {H : Hp} {a : Addr} {xs : List V} {R : It → Hp → Prop} (h : SqK K H a xs)
    (k : ∀ (J : It) (Gd : Hp → Prop), Walk J xs.length Gd (YAt xs) → (∀ H', Same H H' → Gd H') → R J H) : SeqR K a H R := by
  rcases h with h | ⟨rfl, h⟩
  · exact seq_walk h k
  · exact .inr ⟨⟨[], kemp_st h⟩, k _ _ walk_tup fun H' _ => kemp_st h⟩
structure CL where
  n : Int
  b : Int
  s : List Str
  w : Option (List Str)
  deriving DecidableEq
structure Cp where
  age : Int
  mr : Int
  ls : List CL
  md : List (Int × List Str)
  deriving DecidableEq
def wD : Option (List Str) → PyData
  | none => .none
  | some ss => .tuple (ss.map PyData.str)
def clD (l : CL) : PyData := .tuple [.int l.n, .int l.b, .tuple (l.s.map PyData.str), wD l.w]
def mdD (m : Int × List Str) : PyData := .tuple [.int m.1, .tuple (m.2.map PyData.str)]
structure OkCL (l : CL) : Prop where
  n : 1 ≤ l.n
  b : 0 ≤ l.b
  s : OkSs l.s
  w : ∀ ss, l.w = some ss → OkSs ss
def OkMd (m : Int × List Str) : Prop := 0 ≤ m.1 ∧ OkSs m.2
structure OkLs (ls : List CL) : Prop where
  ok : ∀ l ∈ ls, OkCL l
  up : (ls.map (·.n)).Pairwise (· < ·)
  len : ls.length ≤ 900
structure OkMs (md : List (Int × List Str)) : Prop where
  ok : ∀ m ∈ md, OkMd m
  len : md.length ≤ 900
/-- a wanted value -/
def WV (H : Hp) (v : V) : Option (List Str) → Prop
  | none => v = .non
  | some ss => ∃ a, v = .ref a ∧ H a = some (.tup (ss.map V.str))
theorem strs_of : ∀ {H : Hp} {xs : List V} {ss : List Str}, DvA H xs (ss.map PyData.str) → xs = ss.map V.str
  | _, _, [], .nil => rfl
  | _, _, s :: r, .cons (.str _) t => by rw [strs_of t]; rfl
theorem dv_ss {H : Hp} {v : V} {ss : List Str} (h : Dv H v (.tuple (ss.map PyData.str))) : ∃ a, v = .ref a ∧ H a = some (.tup (ss.map V.str)) := by
  cases h with
  | tup e r => exact ⟨_, rfl, by rw [e, strs_of r]⟩
theorem dv_w {H : Hp} {v : V} : ∀ {w : Option (List Str)}, Dv H v (wD w) → WV H v w
  | none, .non => rfl
  | some ss, h => dv_ss h
theorem wv_dv {H : Hp} {v : V} : ∀ {w : Option (List Str)}, WV H v w → Dv H v (wD w)
  | none, h => by rw [show v = .non from h]; exact .non
  | some ss, ⟨a, e, h⟩ => by subst e; exact .tup h (dv_strs ss)
theorem WV.tu {H G : Hp} {v : V} (t : TU H G) : ∀ {w : Option (List Str)}, WV H v w → WV G v w
  | none, h => h
  | some ss, ⟨a, e, h⟩ => ⟨a, e, t _ _ h⟩
theorem dv_cl {H : Hp} {v : V} {l : CL} (h : Dv H v (clD l)) : ∃ ta sa wv, v = .ref ta ∧ H ta = some (.tup [.int l.n, .int l.b, .ref sa, wv]) ∧ H sa = some (.tup (l.s.map V.str)) ∧ WV H wv l.w := by
  cases h with
  | tup e r =>
  cases r with
  | cons h1 r =>
  cases r with
  | cons h2 r =>
  cases r with
  | cons h3 r =>
  cases r with
  | cons h4 r =>
  cases r
  cases h1
  cases h2
  obtain ⟨sa, rfl, hs⟩ := dv_ss h3
  exact ⟨_, sa, _, rfl, e, hs, dv_w h4⟩
theorem cl_dv {H : Hp} {ta sa : Addr} {wv : V} {l : CL} (h : H ta = some (.tup [.int l.n, .int l.b, .ref sa, wv])) (hs : H sa = some (.tup (l.s.map V.str))) (hw : WV H wv l.w) : Dv H (.ref ta) (clD l) :=
  .tup h (.cons (.int _) (.cons (.int _) (.cons (.tup hs (dv_strs _)) (.cons (wv_dv hw) .nil))))
theorem dv_md {H : Hp} {v : V} {m : Int × List Str} (h : Dv H v (mdD m)) : ∃ ta sa, v = .ref ta ∧ H ta = some (.tup [.int m.1, .ref sa]) ∧ H sa = some (.tup (m.2.map V.str)) := by
  cases h with
  | tup e r =>
  cases r with
  | cons h1 r =>
  cases r with
  | cons h2 r =>
  cases r
  cases h1
  obtain ⟨sa, rfl, hs⟩ := dv_ss h2
  exact ⟨_, sa, rfl, e, hs⟩
theorem md_dv {H : Hp} {ta sa : Addr} {m : Int × List Str} (h : H ta = some (.tup [.int m.1, .ref sa])) (hs : H sa = some (.tup (m.2.map V.str))) : Dv H (.ref ta) (mdD m) := .tup h (.cons (.int _) (.cons (.tup hs (dv_strs _)) .nil))
/-- values that tell data one by one -/
theorem DvA.getD' {H : Hp} {α : Type} {f : α → PyData} {xs : List V} {ls : List α} (h : DvA H xs (ls.map f)) {i : Nat} {x : V} (hx : xs[i]? = some x) : ∃ l, ls[i]? = some l ∧ Dv H x (f l) := by
  obtain ⟨d, hd, hv⟩ := h.get hx
  rw [List.getElem?_map] at hd
  cases hl : ls[i]? with
  | none => rw [hl] at hd; cases hd
  | some l => rw [hl] at hd; exact ⟨l, rfl, by rw [Option.some.inj hd]; exact hv⟩
theorem a2_of {H : Hp} {α : Type} {f : α → PyData} : ∀ {xs : List V} {ls : List α}, DvA H xs (ls.map f) → A2 (fun x l => Dv H x (f l)) xs ls
  | _, [], .nil => .nil
  | _, _ :: _, .cons h r => .cons h (a2_of r)
theorem of_a2 {H : Hp} {α : Type} {f : α → PyData} : ∀ {xs : List V} {ls : List α}, A2 (fun x l => Dv H x (f l)) xs ls → DvA H xs (ls.map f)
  | _, [], .nil => .nil
  | _, _ :: _, .cons h r => .cons h (of_a2 r)
abbrev sAl : Stmt := st__are_letters
abbrev sAm : Stmt := st__are_made
abbrev nAl : List Str := ["value", "row"]
theorem scAl : FnScope nAl pV (defScope sAl) := ⟨rfl, rfl, rfl, by decide +kernel, rfl, by decide +kernel, by decide +kernel⟩
theorem scAm : FnScope nAl pV (defScope sAm) := ⟨rfl, rfl, rfl, by decide +kernel, rfl, by decide +kernel, by decide +kernel⟩
def spAl (K : PySem.W.Frag) : Sp := fun vs H Q _ => ∃ (a : Addr) (xs : List V) (ls : List CL), vs = [.ref a] ∧ SqK K H a xs ∧ DvA H xs (ls.map clD) ∧ OkLs ls ∧ ∀ H', Same H H' → Q (.bl true) H'
def spAm (K : PySem.W.Frag) : Sp := fun vs H Q _ => ∃ (a : Addr) (xs : List V) (md : List (Int × List Str)), vs = [.ref a] ∧ SqK K H a xs ∧ DvA H xs (md.map mdD) ∧ OkMs md ∧ ∀ H', Same H H' → Q (.bl true) H'
section
variable {P : Program} {w : World} {K : PySem.W.Frag} {mg : Str → Option Value} {base : Heap}
theorem notN_non {H : Hp} {Q : VK} (q : Q (.bl false) H) : ∃ x y, x = V.non ∧ y = V.non ∧ Q (.bl (!decide (x = .non))) H := ⟨_, _, rfl, rfl, q⟩
theorem okss {ss : List Str} (h : OkSs ss) : okSs ss = true := okSs_iff.mpr h
set_option maxHeartbeats 8000000 in
theorem ok_al {f : Addr} {fd : FuncData} (T : Bk mg) (D_is_number : Def P w K mg base CX0 2 "is_number" pV spNum) (D_is_body : Def P w K mg base CX0 2 "is_body" pV spBody) (D_is_signs : Def P w K mg base CX0 2 "is_signs" pV spSigns) (D_is_ascending : Def P w K mg base CX0 1 "is_ascending" pIsAsc spIsAsc)
    (F : Fun K "_are_letters" "_are_letters" sAl f fd) : FnOk P w K mg base CX0 3 f fd pV (spAl K) := by
  have nd := scAl.nd
  refine F.ok scAl (fun vs H Q E h => ?_) (fun cdv A outer s H vs Q E hr h => ?_)
  · obtain ⟨a, xs, ls, rfl, _⟩ := h
    rfl
  · obtain ⟨a, xs, ls, rfl, hS, hA, ok, q⟩ := h
    refine ⟨_, (pss_cons (ps_if (pt_not (pt_val (pe_callB (call_isiTK (K := K) rfl) (by rfl) T.isinstance PyProof.Rows.boot_isinstance (pa_cons (pv 0) (pa_cons (pe_tup (pa_cons (pe_bltn (v := .ty "list") rfl T.list PyProof.Rows.boot_list rfl) (pa_cons (pe_bltn (v := .ty "tuple") rfl T.tuple PyProof.Rows.boot_tuple rfl) pa_nil))) pa_nil)))))
  pss_any
  pss_nil)
 (pss_cons (ps_for PassesOwn.never rfl (pi_seqK (K := K) rfl (pv 0)) (pg_name (i := 1) nd rfl (Or.inl rfl))
  (pss_cons (ps_if (PW.pt (pw_or (pt_not (pt_val (pe_callB (call_isiK1 (K := K) rfl) (by rfl) T.isinstance PyProof.Rows.boot_isinstance (pa_cons (pv 1) (pa_cons (pe_bltn (v := .ty "tuple") rfl T.tuple PyProof.Rows.boot_tuple rfl) pa_nil))))) (pw_or (pt_cmpR op_ne (pe_callB (call_lenK (K := K) rfl) (by rfl) T.len PySem.boot_len (pa_cons (pv 1) pa_nil)) pe_int (nomark _)) (pw_or (pt_not (pt_val (pe_def D_is_number (hr.mono (by decide)) rfl pass0 (pa_cons (pe_ix (ix_tupK (K := K) rfl) (pv 1) pe_int (fun _ _ => rfl)) pa_nil)))) (pw_or1 (pt_not (pt_val (pe_def D_is_body (hr.mono (by decide)) rfl pass0 (pa_cons (pe_ix (ix_tupK (K := K) rfl) (pv 1) pe_int (fun _ _ => rfl)) pa_nil)))))))))
  pss_any
  pss_nil)
 (pss_one (ps_if (PW.pt (pw_or (pt_not (pt_val (pe_def D_is_signs (hr.mono (by decide)) rfl pass0 (pa_cons (pe_ix (ix_tupK (K := K) rfl) (pv 1) pe_int (fun _ _ => rfl)) pa_nil)))) (pw_or1 (PW.pt (pw_and (pt_cmpR op_notN (pe_ix (ix_tupK (K := K) rfl) (pv 1) pe_int (fun _ _ => rfl)) pe_non (nomark _)) (pw_and1 (pt_not (pt_val (pe_def D_is_signs (hr.mono (by decide)) rfl pass0 (pa_cons (pe_ix (ix_tupK (K := K) rfl) (pv 1) pe_int (fun _ _ => rfl)) pa_nil))))))))))
  pss_any
  pss_nil))))
 (pss_one (ps_ret (pe_def D_is_ascending (hr.mono (by decide)) rfl pass0 (pa_cons (pe_lc (own := [("row", 1)]) (g := gName 1) (tt := tYes) rfl nd (pi_seqK (K := K) rfl (pv 0)) (blkOk_by (own := [("row", 1)]) (N := nAl) (sc := defScope sAl) (by decide +kernel)) (fun _ _ _ _ _ => pg_name (i := 1) nd rfl (Or.inl rfl)) (fun _ _ _ _ _ => pts_nil) (fun _ _ _ _ _ => (pe_ix (ix_tupK (K := K) rfl) (pv 1) pe_int (fun _ _ => rfl)))) pa_nil)))))), ?_⟩
    have lx := hA.len
    rw [List.length_map] at lx
    have lm := ok.len
    refine ⟨_, rfl, (by show 2 ≤ sizeLine; decide), fun tp ntp => ?_⟩
    have s1 := same_new (o := .tup [.ty "list", .ty "tuple"]) ntp
    have hS1 := hS.ext (LamX.ExtN.of s1)
    obtain ⟨tn, ty, kt⟩ := hS1.ty
    refine ⟨.ref a, tp, [.ty "list", .ty "tuple"], .type tn, [.type "list", .type "tuple"], true, rfl, upd_same, .cons (.ty _) (.cons (.ty _) .nil), ty, kt, _, rfl, itbF rfl ?_⟩
    generalize upd H tp (.tup [.ty "list", .ty "tuple"]) = H1 at s1 hS1
    refine ⟨_, rfl, a, rfl, seqK_walk hS1 fun J Gd wk hG => for_it wk (fun i σ G => ∃ v1, σ = [some (.ref a), v1] ∧ Same H1 G) ⟨none, rfl, fun _ _ h => h⟩ (fun i σ G _ ⟨_, _, h⟩ => hG _ h) ?_ ?_⟩
    · rintro i x σ G G' hi ⟨v1, rfl, s2⟩ ⟨rfl, hx⟩
      obtain ⟨l, hl, hv⟩ := hA.getD' hx
      obtain ⟨ta, sa, wv, rfl, hta, hsa, hw⟩ := dv_cl hv
      have okl := ok.ok l (List.mem_of_getElem? hl)
      have s12 := s1.trans s2
      have h1 := s12 _ _ hta
      refine ⟨_, rfl, .ref ta, .ty "tuple", .type "tuple", .type "tuple", true, rfl, .ty _, .base (.tup h1), kit_ty (by decide +kernel), _, rfl, itbF rfl ?_⟩
      refine ⟨_, rfl, ta, _, rfl, .inr (st h1), rfl, _, rfl, itbF rfl ?_⟩
      refine ⟨_, rfl, ta, _, 0, .int l.n, rfl, rfl, st h1, atI_nat (j := 0) rfl, l.n, rfl, okl.n, _, rfl, itbF rfl ?_⟩
      refine ⟨_, rfl, ta, _, 1, .int l.b, rfl, rfl, st h1, atI_nat (j := 1) rfl, l.b, rfl, okl.b, _, rfl, itbF rfl ?_⟩
      refine ⟨_, rfl, ta, _, 2, .ref sa, rfl, rfl, st h1, atI_nat (j := 2) rfl, sa, l.s, rfl, s12 _ _ hsa, okss okl.s, fun G2 s3 => ⟨_, rfl, itbF rfl ?_⟩⟩
      have h3 := s3 _ _ h1
      refine ⟨_, rfl, ta, _, 3, wv, rfl, rfl, st h3, atI_nat (j := 3) rfl, rfl, _, rfl, ?_⟩
      cases hw0 : l.w with
      | none =>
        rw [hw0] at hw
        obtain rfl : wv = .non := hw
        exact itbF rfl (itbF rfl ⟨_, rfl, s2.trans s3⟩)
      | some ws =>
        rw [hw0] at hw
        obtain ⟨wa, rfl, hwa⟩ := hw
        refine itbT rfl ?_
        exact ⟨_, rfl, ta, _, 3, .ref wa, rfl, rfl, st h3, atI_nat (j := 3) rfl, wa, ws, rfl, (s12.trans s3) _ _ hwa, okss (okl.w ws hw0), fun G3 s4 => ⟨_, rfl, itbF rfl ⟨_, rfl, (s2.trans s3).trans s4⟩⟩⟩
    · rintro σ G ⟨v1, rfl, s2⟩
      have s12 := s1.trans s2
      have hSG := hS.ext (LamX.ExtN.of s12)
      refine ⟨_, rfl, a, rfl, seqK_walk hSG fun J2 Gd2 wk2 hG2 D nD => ?_⟩
      refine lc_sel wk2 (R := fun x (l : CL) => Dv G x (clD l)) (ls := ls) (out := fun y (n : Int) => y = V.int n) ?_ nD hG2 (by omega) (fun l => some l.n) ?_ ?_
      · exact a2_of (hA.same s12)
      · rintro x l G2 T S hx hm s3 hT hS'
        obtain ⟨ta, sa, wv, rfl, hta, hsa, hw⟩ := dv_cl hx
        exact ⟨rfl, tyes ⟨_, rfl, ta, _, 0, .int l.n, rfl, rfl, st (s3 _ _ hta), atI_nat (j := 0) rfl, hT _ l.n G2 (fun _ _ h => h) rfl rfl⟩⟩
      · intro G2 acc s3 hacc h4
        rw [h4.vals] at hacc
        have ef : ls.filterMap (fun l => some l.n) = ls.map (·.n) := by rw [← List.filterMap_eq_map]; rfl
        rw [ef] at hacc
        refine ⟨D, _, rfl, .inl hacc, by rw [List.length_map]; omega, fun H' s4 => ?_⟩
        rw [ascB_of ok.up]
        exact q H' ((s12.trans s3).trans s4)
set_option maxHeartbeats 8000000 in
theorem ok_am {f : Addr} {fd : FuncData} (T : Bk mg) (D_is_body : Def P w K mg base CX0 2 "is_body" pV spBody) (D_is_signs : Def P w K mg base CX0 2 "is_signs" pV spSigns)
    (F : Fun K "_are_made" "_are_made" sAm f fd) : FnOk P w K mg base CX0 3 f fd pV (spAm K) := by
  have nd := scAm.nd
  refine F.ok scAm (fun vs H Q E h => ?_) (fun cdv A outer s H vs Q E hr h => ?_)
  · obtain ⟨a, xs, ls, rfl, _⟩ := h
    rfl
  · obtain ⟨a, xs, md, rfl, hS, hA, ok, q⟩ := h
    refine ⟨_, (pss_cons (ps_if (pt_not (pt_val (pe_callB (call_isiTK (K := K) rfl) (by rfl) T.isinstance PyProof.Rows.boot_isinstance (pa_cons (pv 0) (pa_cons (pe_tup (pa_cons (pe_bltn (v := .ty "list") rfl T.list PyProof.Rows.boot_list rfl) (pa_cons (pe_bltn (v := .ty "tuple") rfl T.tuple PyProof.Rows.boot_tuple rfl) pa_nil))) pa_nil)))))
  pss_any
  pss_nil)
 (pss_cons (ps_for PassesOwn.never rfl (pi_seqK (K := K) rfl (pv 0)) (pg_name (i := 1) nd rfl (Or.inl rfl))
  (pss_one (ps_if (PW.pt (pw_or (pt_not (pt_val (pe_callB (call_isiK1 (K := K) rfl) (by rfl) T.isinstance PyProof.Rows.boot_isinstance (pa_cons (pv 1) (pa_cons (pe_bltn (v := .ty "tuple") rfl T.tuple PyProof.Rows.boot_tuple rfl) pa_nil))))) (pw_or (pt_cmpR op_ne (pe_callB (call_lenK (K := K) rfl) (by rfl) T.len PySem.boot_len (pa_cons (pv 1) pa_nil)) pe_int (nomark _)) (pw_or (pt_not (pt_val (pe_def D_is_body (hr.mono (by decide)) rfl pass0 (pa_cons (pe_ix (ix_tupK (K := K) rfl) (pv 1) pe_int (fun _ _ => rfl)) pa_nil)))) (pw_or1 (pt_not (pt_val (pe_def D_is_signs (hr.mono (by decide)) rfl pass0 (pa_cons (pe_ix (ix_tupK (K := K) rfl) (pv 1) pe_int (fun _ _ => rfl)) pa_nil)))))))))
  pss_any
  pss_nil)))
 (pss_one (ps_ret pe_bl)))), ?_⟩
    refine ⟨_, rfl, (by show 2 ≤ sizeLine; decide), fun tp ntp => ?_⟩
    have s1 := same_new (o := .tup [.ty "list", .ty "tuple"]) ntp
    have hS1 := hS.ext (LamX.ExtN.of s1)
    obtain ⟨tn, ty, kt⟩ := hS1.ty
    refine ⟨.ref a, tp, [.ty "list", .ty "tuple"], .type tn, [.type "list", .type "tuple"], true, rfl, upd_same, .cons (.ty _) (.cons (.ty _) .nil), ty, kt, _, rfl, itbF rfl ?_⟩
    generalize upd H tp (.tup [.ty "list", .ty "tuple"]) = H1 at s1 hS1
    refine ⟨_, rfl, a, rfl, seqK_walk hS1 fun J Gd wk hG => for_it wk (fun i σ G => ∃ v1, σ = [some (.ref a), v1] ∧ Same H1 G) ⟨none, rfl, fun _ _ h => h⟩ (fun i σ G _ ⟨_, _, h⟩ => hG _ h) ?_ ?_⟩
    · rintro i x σ G G' hi ⟨v1, rfl, s2⟩ ⟨rfl, hx⟩
      obtain ⟨l, hl, hv⟩ := hA.getD' hx
      obtain ⟨ta, sa, rfl, hta, hsa⟩ := dv_md hv
      have okl := ok.ok l (List.mem_of_getElem? hl)
      have s12 := s1.trans s2
      have h1 := s12 _ _ hta
      refine ⟨_, rfl, .ref ta, .ty "tuple", .type "tuple", .type "tuple", true, rfl, .ty _, .base (.tup h1), kit_ty (by decide +kernel), _, rfl, itbF rfl ?_⟩
      refine ⟨_, rfl, ta, _, rfl, .inr (st h1), rfl, _, rfl, itbF rfl ?_⟩
      refine ⟨_, rfl, ta, _, 0, .int l.1, rfl, rfl, st h1, atI_nat (j := 0) rfl, l.1, rfl, okl.1, _, rfl, itbF rfl ?_⟩
      exact ⟨_, rfl, ta, _, 1, .ref sa, rfl, rfl, st h1, atI_nat (j := 1) rfl, sa, l.2, rfl, s12 _ _ hsa, okss okl.2, fun G2 s3 => ⟨_, rfl, itbF rfl ⟨_, rfl, s2.trans s3⟩⟩⟩
    · rintro σ G ⟨v1, rfl, s2⟩
      exact q G (s1.trans s2)
end
end K1


set_option Elab.async false
set_option linter.all false
set_option maxRecDepth 100000
/-! != of two lists whose items are equal by an own == : False. -/
namespace K1
open PySem PySem.SeqAt PySem.Spec PyProof.Rows L2
open AutoSeq1 (wpAny_loadPart')
open MeetsSeq MeetsSeq2 MeetsSeq3 SeqRoads2
section
variable {prog : Program} {w : World} {A : Around} {R : Result → Shared → Prop}
theorem neLoop {l b : Addr} {N : Nat} {J : Nat → Shared → Prop} (tn : GQ.ListI prog w A (fun e z => R (.error e) z) l b N J) (fin : ∀ z, J N z → R (.ok (.ret (.bool false))) z) : ∀ (left i : Nat), N - i = left → i ≤ N → ∀ z, J i z →
    wpAny (model prog w) A.in1 (Builtin.«list.__eq__.loop» ⟨[.ref l, .ref b, rawInt i, rawInt 3], []⟩) (GQ.FinOf prog w A R) (fun e y => R (.error e) y) z
  | 0, i, hk, hi, z, q => by
    obtain ⟨xs, ys, n, m, gl, gb, zx, zy, _⟩ := tn _ _ q
    have e : i = N := by omega
    have fR := fin z (e ▸ q)
    obtain ⟨z1, z2, z3, z4, z5⟩ := z
    wp_walk using wpAny_loadPart' gl, wpAny_loadPart' gb
    have nx : xs[((i : Nat) : Int).toNat]? = none := by simp; omega
    have ny : ys[((i : Nat) : Int).toNat]? = none := by simp; omega
    rw [nx, ny]
    wp_walk using wpAny_loadPart' gl, wpAny_loadPart' gb
    show R (.ok (.ret (.bool (xs.size != ys.size)))) _
    rw [zx, zy]
    simpa using fR
  | left + 1, i, hk, hi, z, q => by
    obtain ⟨xs, ys, n, m, gl, gb, zx, zy, one⟩ := tn _ _ q
    have lx : i < xs.size := by omega
    have ly : i < ys.size := by omega
    have step := one lx ly
    obtain ⟨z1, z2, z3, z4, z5⟩ := z
    wp_walk using wpAny_loadPart' gl, wpAny_loadPart' gb
    have nx : xs[((i : Nat) : Int).toNat]? = some xs[i] := by simp [lx]
    have ny : ys[((i : Nat) : Int).toNat]? = some ys[i] := by simp [ly]
    have c1 : ((i : Int) + 1) = ((i + 1 : Nat) : Int) := by omega
    rw [nx, ny]
    refine wpAny_bind (wpAny_mono step (fun r y q2 => ?_) fun _ _ x => x)
    obtain ⟨rfl, q2⟩ := q2
    have again := neLoop tn fin left (i + 1) (by omega) (by omega) y q2
    obtain ⟨y1, y2, y3, y4, y5⟩ := y
    wp_walk
    rw [c1]
    refine ⟨plainId_quiet plain_eq_loop _, codeAny_builtin entry_eq_loop ?_⟩
    rw [Around.under_plainId plain_eq_loop _]
    exact again
theorem neList {l b : Addr} {N : Nat} {J : Nat → Shared → Prop} (tn : GQ.ListI prog w A (fun e z => R (.error e) z) l b N J) (fin : ∀ z, J N z → R (.ok (.ret (.bool false))) z) {z : Shared} (q : J 0 z) :
    wpAny (model prog w) A.in1 (Builtin.«list.__ne__» ⟨[.ref l, .ref b], []⟩) (GQ.FinOf prog w A R) (fun e y => R (.error e) y) z := by
  obtain ⟨xs, ys, n, m, gl, gb, zx, zy, _⟩ := tn _ _ q
  have again := neLoop tn fin _ 0 rfl (Nat.zero_le _) z q
  obtain ⟨z1, z2, z3, z4, z5⟩ := z
  have f3 := AutoSeq1.sub_list_list
  have same : ¬ (xs.size != ys.size) = true := by simp [zx, zy]
  wp_walk using wpAny_loadPart' gl, wpAny_loadPart' gb
  refine ⟨plainId_quiet plain_eq_loop _, codeAny_builtin entry_eq_loop ?_⟩
  rw [Around.under_plainId plain_eq_loop _]
  exact again
end
theorem rcNe {prog : Program} {w : World} {A : Around} {E : Value → Shared → Prop} {z : Shared} {l b : Addr} {N : Nat} {Q : Value → Shared → Prop} (hu : A.units < cLine) (J : Nat → Shared → Prop) (tn : GQ.ListI prog w A E l b N J) (fin : ∀ z, J N z → Q (.bool false) z) (q : J 0 z) :
    wpAny (model prog w) A (richCompare .NotEq (.ref l) (.ref b)) Q E z := by
  obtain ⟨xs, ys, n, m, gl, gb, _, _, _⟩ := tn _ _ q
  refine wpAny_richCompare_same_room (op := .NotEq) ⟨_, gl, rfl⟩ ⟨_, gb, rfl⟩ F.slot_list_ne (GQ.call_here F.slot_list_ne ⟨_, gl, rfl⟩ F.entry_list_ne (F.args_list_ne_2 _ _) ?_) hu
  exact neList (R := wants (fun v y => v ≠ .notImplemented ∧ Q v y) E) tn (fun y h => ⟨(fun x => nomatch x), fin y h⟩) q
/-- x != y, as lists of equal items: False -/
def rNeG (D : Eqv) : R2 := fun x y H Q => DList D x y H ∧ ∀ H', L2.Ext H H' → Q (.bl false) H'
theorem op_neG {X : Cx} {n : Nat} {D : Eqv} (hD : Mon D) (h : EqG X n D) (hr : Room (n + 1) X.A) : OpR X (compareOp .NotEq) (rNeG D) := by
  intro pins s σ H x y v u Q I rx ry hq
  obtain ⟨⟨a, b, xs, ys, rfl, rfl, ha, hb, p⟩, q⟩ := hq
  cases rx
  cases ry
  show wpAny (model X.prog X.w) X.A (richCompare .NotEq (.ref a) (.ref b)) (EP X pins σ Q) X.xe s
  have sb : Sub X (n + 1) X.A := ⟨hr, rfl⟩
  refine rcNe (N := xs.length) sb.room.units0 (fun _ z => LoopI X pins σ H z) (fun i z k => ?_) (fun z k => ?_) ⟨H, I, L2.Ext.rfl'⟩
  · obtain ⟨H1, I1, e1⟩ := id k
    obtain ⟨z1, us, k1, r1, g1⟩ := I1.hok a _ (e1 _ _ ha)
    obtain ⟨z2, ws, k2, r2, g2⟩ := I1.hok b _ (e1 _ _ hb)
    exact ⟨us.toArray, ws.toArray, k1, k2, g1, g2, by rw [List.size_toArray, ← r1.length], by rw [List.size_toArray, ← r2.length, ← p.1], fun h1 h2 => turnG hD h sb p r1 r2 i h1 h2 z k⟩
  · obtain ⟨H1, I1, e1⟩ := k
    exact ⟨.bl false, H1, I1, rfl, q H1 e1⟩
end K1


set_option Elab.async false
set_option linter.all false
set_option maxRecDepth 100000
set_option maxHeartbeats 2000000
/-! == and != of instances by an own __eq__, whatever it tells. -/
namespace K1
open PySem PySem.W PySem.SeqAt PySem.Spec PyProof.Rows L2 Builtin
section
variable {prog : Program} {w : World} {A : Around} {E : Value → Shared → Prop} {s : Shared} {K : PySem.W.Frag} {x C L f : Addr} {h₀ : Heap} {m : Str → Option Value} {ox : Obj} {od : Option Obj} {name : Str} {b tb : Value}
theorem ifBoundB {M : Model} {id : String} {args : List Value} {Q : Option Value → Shared → Prop} (X : K.In s.heap) (I : InstAt s.heap x ox C od) (hs : findIn K (.ref C) name = some (some (.builtin id))) (hb : ∀ v, bindSpecial (.builtin id) v = pure (.builtin id, [v]))
    (h : wpAny M A (call (.builtin id) (.ref x :: args)) (fun v => Q (some v)) E s) : wpAny M A (callSpecialIfBound? (.ref x) name args) Q E s := by
  simp only [callSpecialIfBound?, bindSpecialIfBound?]
  refine wpAny_holding (wpAny_bind (wpAny_bind (wpAny_bind (I.type.here ((looks_findIn X hs).here ?_)))))
  refine wpAny_bind (wpAny_askSetting (wpAny_ite ?_))
  have fin : wpAny M A (call (.builtin id) ([.ref x] ++ args) >>= fun v => pure (some v)) Q E s := wpAny_bind (wpAny_mono h (fun v s' h' => wpAny_pure h') fun _ _ h' => h')
  split
  · rw [hb]
    exact wpAny_bind (wpAny_pure (wpAny_pure (by exact fin)))
  · rw [hb]
    exact wpAny_tryCatch (wpAny_bind (wpAny_pure (wpAny_pure (by exact fin))))
theorem objNe_K {hh : Heap} {g : Array GenState} {d : Drawn} {t : Nat} {os : OsState} {Q : Fin → Shared → Prop} (hu : A.units < cLine) (X : K.In hh) (I : InstAt hh x ox C od) (hs : findIn K (.ref C) "__eq__" = some (some (.ref f))) (hf : isFn K (.ref f) = true)
    (h : wpAny (model prog w) A (call (.ref f) [.ref x, b]) (fun v s' => ∃ r, v = .bool r ∧ Q (.done (.ret (.bool (!r)))) s') E ⟨hh, g, d, t, os⟩) :
    wpAny (model prog w) A (Builtin.«object.__ne__» ⟨[.ref x, b], []⟩) Q E ⟨hh, g, d, t, os⟩ := by
  unfold Builtin.«object.__ne__»
  repeat (first
    | with_reducible refine wpAny_cRoomFor hu ?_
    | (refine wpAny_bind (m := callSpecialIfBound? (.ref x) (Str.ofString "__eq__") [b]) (ifBound_K X I hs hf (wpAny_mono h (fun r s' hr => by
        obtain ⟨r, rfl, hq⟩ := hr
        repeat (first | exact hq | exact wpAny_pure hq | exact wpAny_truthy_bool hq | (refine wpAny_bind (m := truthy (.bool _)) (wpAny_truthy_bool ?_)) | wp_step)) fun _ _ e => e)))
    | wp_step)
theorem cmpNe_K {Q : Value → Shared → Prop} (hu : A.units + 1 < cLine) (F : Fr h₀ L s.heap m) (X₀ : K.In h₀) (I : InstAt s.heap x ox C od) (hb : Looks (model prog w) s.heap (typeOf b) tb) (hn : notFirst K C tb = true)
    (hne : findIn K (.ref C) "__ne__" = some (some (.builtin "object.__ne__"))) (ho : mroIn K C (.type "object") = some true) (hs : findIn K (.ref C) "__eq__" = some (some (.ref f))) (hf : isFn K (.ref f) = true)
    (h : wpAny (model prog w) A.in1 (call (.ref f) [.ref x, b]) (fun v s' => ∃ r, v = .bool r ∧ Q (.bool (!r)) s') E s) : wpAny (model prog w) A (richCompare .NotEq (.ref x) b) Q E s := by
  have X := X₀.keeps F.keep
  have ent : wpAny (model prog w) A.in1 (Builtin.«object.__ne__» ⟨[.ref x, b], []⟩) (GQ.FinOf prog w A (wants (fun v s' => (∃ r, v = .bool r) ∧ Q v s') E)) (fun e s' => wants (fun v s' => (∃ r, v = .bool r) ∧ Q v s') E (.error e) s') s := by
    obtain ⟨hh, g, d, t, os⟩ := s
    refine objNe_K hu X I hs hf (wpAny_mono h (fun v s' hv => ?_) fun _ _ e => e)
    obtain ⟨r, rfl, hq⟩ := hv
    exact ⟨r, rfl, ⟨_, rfl⟩, hq⟩
  have one : wpAny (model prog w) A (tryCompare (.ref x) "__ne__" b) (fun r s' => ∃ v, r = some v ∧ Q v s') E s := by
    unfold tryCompare
    refine wpAny_bind (ifBoundB X I hne (fun v => PySem.F.cmp_object.ne.bind v) (wpAny_mono (Q := fun v s' => (∃ r, v = .bool r) ∧ Q v s') (wpAny_call (codeAny_call_builtin PySem.F.cmp_object.ne.plain PySem.F.cmpEntry_ne
      (check_slot PySem.F.cmpKind_ne PySem.F.cmpSplit_ne (I.type.andThen (looks_mroIn X ho)) (PySem.F.cmpArgs_ne _ _) ent))) (fun v s' hv => ?_) fun _ _ e => e))
    obtain ⟨⟨r, rfl⟩, hq⟩ := hv
    exact wpAny_pure ⟨_, rfl, hq⟩
  unfold richCompare
  simp only [oneThing_ref]
  refine wpAny_holding (wpAny_bind (wpAny_cRoomFor (Nat.lt_of_succ_lt hu) ?_))
  refine wpAny_bind (I.type.here (wpAny_bind (hb.here ?_)))
  split
  · rename_i q
    have e : subIn K tb (.ref C) = some false := by
      rcases Bool.or_eq_true_iff.mp hn with e | e
      · rw [beq_iff_eq.mp e] at q; simp at q
      · exact beq_iff_eq.mp e
    refine wpAny_bind ((looks_subIn X e).here ?_)
    simp only [Bool.false_eq_true, if_false]
    refine wpAny_bind (wpAny_mono one (fun r s' z => ?_) fun _ _ e => e)
    obtain ⟨v, rfl, hq⟩ := z
    exact wpAny_pure hq
  · refine wpAny_bind (wpAny_pure ?_)
    simp only [Bool.false_eq_true, if_false]
    refine wpAny_bind (wpAny_mono one (fun r s' z => ?_) fun _ _ e => e)
    obtain ⟨v, rfl, hq⟩ := z
    exact wpAny_pure hq
end
/-- what an own == promises: R tells the answer -/
def spEqB (R : Addr → Addr → Bool → Hp → Prop) : Sp := fun vs H Q _ => ∃ a b r, vs = [.ref a, .ref b] ∧ R a b r H ∧ ∀ H', L2.Ext H H' → Q (.bl r) H'
/-- the own == of a class -/
structure EqM (P : Program) (w : World) (K : PySem.W.Frag) (mg : Str → Option Value) (base : Heap) (n : Nat) (C : Addr) (R : Addr → Addr → Bool → Hp → Prop) : Prop where
  ex : ∃ (f : Addr) (fd : FuncData) (ps : List Str), FnOk P w K mg base CX0 n f fd ps (spEqB R) ∧ PySem.W.findIn K (.ref C) "__eq__" = some (some (.ref f)) ∧ PySem.W.isFn K (.ref f) = true ∧ Binds K fd ps []
  ne : PySem.W.findIn K (.ref C) "__ne__" = some (some (.builtin "object.__ne__"))
  ob : PySem.W.mroIn K C (.type "object") = some true
/-- two instances of the class -/
def TwoI (C : Addr) (R : Addr → Addr → Bool → Hp → Prop) (x y : V) (r : Bool) (H : Hp) : Prop := ∃ a b dx dy fs gs, x = .ref a ∧ y = .ref b ∧ H a = some (.ins C dx fs) ∧ H b = some (.ins C dy gs) ∧ R a b r H
def rEqI (C : Addr) (R : Addr → Addr → Bool → Hp → Prop) : R2 := fun x y H Q => ∃ r, TwoI C R x y r H ∧ ∀ H', L2.Ext H H' → Q (.bl r) H'
def rNeI (C : Addr) (R : Addr → Addr → Bool → Hp → Prop) : R2 := fun x y H Q => ∃ r, TwoI C R x y r H ∧ ∀ H', L2.Ext H H' → Q (.bl !r) H'
section
variable {X : Cx} {n : Nat} {C : Addr} {R : Addr → Addr → Bool → Hp → Prop}
theorem eqI_call (M : EqM X.prog X.w X.K X.mg X.base n C R) {A : Around} (sb : Sub X n A) {pins : List (Addr × Obj)} {s : Shared} {σ : L2.St} {H : Hp} {a b : Addr} {r : Bool} (I : Inv X pins σ H s) (hr : R a b r H) :
    ∃ f, PySem.W.findIn X.K (.ref C) "__eq__" = some (some (.ref f)) ∧ PySem.W.isFn X.K (.ref f) = true ∧ wpAny (model X.prog X.w) A (call (.ref f) [.ref a, .ref b]) (fun v s' => v = .bool r ∧ ∃ H', Inv X pins σ H' s' ∧ L2.Ext H H') X.xe s := by
  obtain ⟨f, fd, ps, F, hs, hf, hb⟩ := M.ex
  refine ⟨f, hs, hf, ?_⟩
  have hsp : spEqB R [.ref a, .ref b] H (fun v H' => v = .bl r ∧ L2.Ext H H') E0 := ⟨a, b, r, rfl, hr, fun H' e => ⟨rfl, e⟩⟩
  have e0 : Env0 X.prog X.w X.K X.mg X.base A X.stack s H := by
    have e := I.env0
    exact ⟨by rw [sb.fr]; exact e.frames, e.mod, e.bs, e.bsz, e.funs, e.frf, e.hok, e.bare⟩
  have hl := F.len _ _ _ _ hsp
  have r2 : Vals [V.ref a, V.ref b] [Value.ref a, Value.ref b] := .cons rfl (.cons rfl .nil)
  refine wpAny_call (codeAny_mono (F.run A X.stack s H ⟨[.ref a, .ref b], []⟩ [.ref a, .ref b] [.ref a, .ref b] _ E0 sb.room e0 (by
    have := hb s [.ref a, .ref b] I.kIn (by simpa using hl)
    simpa using this) r2 hsp) fun q s' hq => ?_)
  cases q with
  | error e => exact (pass0 (X := X)) pins σ H s e s' I hq
  | ok fl =>
    cases fl with
    | ret w =>
      obtain ⟨z, H', I', rz, ez, ex⟩ := I.after hq
      subst ez
      cases rz
      exact ⟨rfl, H', I', ex⟩
    | next => exact False.elim hq
    | brk => exact False.elim hq
    | cont => exact False.elim hq
theorem op_eqI (M : EqM X.prog X.w X.K X.mg X.base n C R) (hr : Room n X.A) : OpR X (compareOp .Eq) (rEqI C R) := by
  intro pins s σ H x y v u Q I rx ry hq
  obtain ⟨r, ⟨a, b, dx, dy, fs, gs, rfl, rfl, ha, hb', hR⟩, q⟩ := hq
  cases rx
  cases ry
  obtain ⟨mA, J, _⟩ := ins_get I.hok ha
  obtain ⟨mB, J', _⟩ := ins_get I.hok hb'
  obtain ⟨od, J, _⟩ := J.look
  obtain ⟨od', J', _⟩ := J'.look
  obtain ⟨m, hF⟩ := I.fr
  have sb : Sub X n X.A := ⟨hr, rfl⟩
  obtain ⟨f, hs, hf, hc⟩ := eqI_call M sb I hR
  show wpAny (model X.prog X.w) X.A (richCompare .Eq (.ref a) (.ref b)) (EP X pins σ Q) X.xe s
  refine PySem.W.cmp_K (op := .Eq) (tb := .ref C) sb.room.units0 hF I.ok.mod.kin J J'.type (by simp [PySem.W.notFirst]) hs hf (wpAny_mono hc (fun v s' z => ?_) fun _ _ e => e)
  obtain ⟨rfl, H', I', e⟩ := z
  exact ⟨.bl r, H', I', rfl, q H' e⟩
theorem op_neI (M : EqM X.prog X.w X.K X.mg X.base n C R) (hr : Room (n + 1) X.A) : OpR X (compareOp .NotEq) (rNeI C R) := by
  intro pins s σ H x y v u Q I rx ry hq
  obtain ⟨r, ⟨a, b, dx, dy, fs, gs, rfl, rfl, ha, hb', hR⟩, q⟩ := hq
  cases rx
  cases ry
  obtain ⟨mA, J, _⟩ := ins_get I.hok ha
  obtain ⟨mB, J', _⟩ := ins_get I.hok hb'
  obtain ⟨od, J, _⟩ := J.look
  obtain ⟨od', J', _⟩ := J'.look
  obtain ⟨m, hF⟩ := I.fr
  have sb : Sub X (n + 1) X.A := ⟨hr, rfl⟩
  obtain ⟨f, hs, hf, hc⟩ := eqI_call M sb.in1 I hR
  show wpAny (model X.prog X.w) X.A (richCompare .NotEq (.ref a) (.ref b)) (EP X pins σ Q) X.xe s
  refine cmpNe_K (tb := .ref C) (by have := sb.in1.room.units0; exact this) hF I.ok.mod.kin J J'.type (by simp [PySem.W.notFirst]) M.ne M.ob hs hf (wpAny_mono hc (fun v s' z => ?_) fun _ _ e => e)
  obtain ⟨rfl, H', I', e⟩ := z
  exact ⟨r, rfl, .bl !r, H', I', rfl, q H' e⟩
end
end K1


set_option Elab.async false
set_option linter.all false
set_option maxRecDepth 100000
set_option maxHeartbeats 4000000
/-! Data that may be compared; copies and their equality. -/
namespace K1
open PySem PySem.Spec PyProof.Rows L2 RZ StX
structure LayD (k : Nat) (d : PyData) : Prop where
  lay : PyData.canLay0 d = true
  dep : PyData.depth d ≤ k
  nd : noDic d = true
structure LayA (k : Nat) (ds : List PyData) : Prop where
  lay : PyData.canLayAll0 ds = true
  dep : PyData.depthAll ds ≤ k
  nd : noDicA ds = true
theorem LayA.nil {k : Nat} : LayA k [] := ⟨rfl, Nat.zero_le _, rfl⟩
theorem LayA.cons {k : Nat} {d : PyData} {ds : List PyData} (h : LayD k d) (r : LayA k ds) : LayA k (d :: ds) :=
  ⟨by show (PyData.canLay0 d && PyData.canLayAll0 ds) = true; rw [h.lay, r.lay]; rfl, Nat.max_le.mpr ⟨h.dep, r.dep⟩, by show (noDic d && noDicA ds) = true; rw [h.nd, r.nd]; rfl⟩
theorem LayA.map {α : Type} {k : Nat} {f : α → PyData} : ∀ {xs : List α}, (∀ x ∈ xs, LayD k (f x)) → LayA k (xs.map f)
  | [], _ => .nil
  | x :: r, h => .cons (h x List.mem_cons_self) (LayA.map fun y hy => h y (List.mem_cons_of_mem _ hy))
theorem LayD.int {k : Nat} (i : Int) : LayD k (.int i) := ⟨rfl, Nat.zero_le _, rfl⟩
theorem LayD.non {k : Nat} : LayD k .none := ⟨rfl, Nat.zero_le _, rfl⟩
theorem LayD.bl {k : Nat} (b : Bool) : LayD k (.bool b) := ⟨rfl, Nat.zero_le _, rfl⟩
theorem LayD.str {k : Nat} {s : Str} (h : PyData.strOk s = true) : LayD k (.str s) := ⟨h, Nat.zero_le _, rfl⟩
theorem LayD.tup {k : Nat} {ds : List PyData} (h : LayA k ds) : LayD (k + 1) (.tuple ds) := ⟨h.lay, Nat.succ_le_succ h.dep, h.nd⟩
theorem LayD.lst {k : Nat} {ds : List PyData} (h : LayA k ds) : LayD (k + 1) (.list ds) := ⟨h.lay, Nat.succ_le_succ h.dep, h.nd⟩
theorem LayD.mono {k m : Nat} {d : PyData} (h : LayD k d) (e : k ≤ m) : LayD m d := ⟨h.lay, Nat.le_trans h.dep e, h.nd⟩
theorem LayD.sh {k : Nat} {d : PyData} (h : LayD k d) (e : k ≤ 64 := by decide) : SeqAt.shaped d = true := by
  unfold SeqAt.shaped
  rw [h.lay, decide_eq_true (Nat.le_trans h.dep e)]; rfl
theorem lay_ss {ss : List Str} (h : ∀ s ∈ ss, okS s = true) : LayD 1 (.tuple (ss.map PyData.str)) := .tup (LayA.map (k := 0) fun s hs => .str (strOk_of (h s hs)))
theorem lay_w {w : Option (List Str)} (h : ∀ ss, w = some ss → OkSs ss) : LayD 1 (wD w) := by
  cases w with
  | none => exact .non
  | some ss => exact lay_ss (h ss rfl).ok
theorem lay_cl {l : CL} (h : OkCL l) : LayD 2 (clD l) := .tup (.cons (.int _) (.cons (.int _) (.cons (lay_ss h.s.ok) (.cons (lay_w h.w) .nil))))
theorem lay_md {m : Int × List Str} (h : OkMd m) : LayD 2 (mdD m) := .tup (.cons (.int _) (.cons (lay_ss h.2.ok) .nil))
def clsD (ls : List CL) : PyData := .tuple (ls.map clD)
def mdsD (md : List (Int × List Str)) : PyData := .tuple (md.map mdD)
theorem lay_cls {ls : List CL} (h : ∀ l ∈ ls, OkCL l) : LayD 3 (clsD ls) := .tup (LayA.map fun l hl => lay_cl (h l hl))
theorem lay_mds {md : List (Int × List Str)} (h : ∀ m ∈ md, OkMd m) : LayD 3 (mdsD md) := .tup (LayA.map fun l hl => lay_md (h l hl))
theorem eqvAll_map {α : Type} [DecidableEq α] {f : α → PyData} (h : ∀ x y, PyData.eqv (f x) (f y) = decide (x = y)) : ∀ xs ys : List α, PyData.eqvAll (xs.map f) (ys.map f) = decide (xs = ys)
  | [], [] => by simp [PyData.eqvAll]
  | [], _ :: _ => by simp [PyData.eqvAll]
  | _ :: _, [] => by simp [PyData.eqvAll]
  | x :: xs, y :: ys => by
    show (PyData.eqv (f x) (f y) && PyData.eqvAll (xs.map f) (ys.map f)) = _
    rw [h, eqvAll_map h xs ys]
    by_cases e : x = y
    · subst e; by_cases e2 : xs = ys <;> simp [e2]
    · simp [e]
theorem eqv_ss (xs ys : List Str) : PyData.eqv (.tuple (xs.map PyData.str)) (.tuple (ys.map PyData.str)) = decide (xs = ys) := g_eqv xs ys
theorem eqv_w (x y : Option (List Str)) : PyData.eqv (wD x) (wD y) = decide (x = y) := by
  cases x with
  | none =>
    cases y with
    | none => simp [wD, PyData.eqv]
    | some ys => simp [wD, PyData.eqv]
  | some xs =>
    cases y with
    | none => simp [wD, PyData.eqv]
    | some ys => rw [show wD (some xs) = .tuple (xs.map PyData.str) from rfl, show wD (some ys) = .tuple (ys.map PyData.str) from rfl, eqv_ss]; simp
theorem eqv_int (i j : Int) : PyData.eqv (.int i) (.int j) = decide (i = j) := by
  show (i == j) = _
  by_cases e : i = j <;> simp [e]
theorem eqv_cl (x y : CL) : PyData.eqv (clD x) (clD y) = decide (x = y) := by
  show (PyData.eqv (.int x.n) (.int y.n) && (PyData.eqv (.int x.b) (.int y.b) && (PyData.eqv (.tuple (x.s.map PyData.str)) (.tuple (y.s.map PyData.str)) && (PyData.eqv (wD x.w) (wD y.w) && true)))) = _
  rw [eqv_int, eqv_int, eqv_ss, eqv_w, Bool.and_true]
  obtain ⟨n, b, s, w⟩ := x
  obtain ⟨n', b', s', w'⟩ := y
  by_cases e1 : n = n' <;> by_cases e2 : b = b' <;> by_cases e3 : s = s' <;> by_cases e4 : w = w' <;> simp [e1, e2, e3, e4]
theorem eqv_md (x y : Int × List Str) : PyData.eqv (mdD x) (mdD y) = decide (x = y) := by
  show (PyData.eqv (.int x.1) (.int y.1) && (PyData.eqv (.tuple (x.2.map PyData.str)) (.tuple (y.2.map PyData.str)) && true)) = _
  rw [eqv_int, eqv_ss, Bool.and_true]
  obtain ⟨b, s⟩ := x
  obtain ⟨b', s'⟩ := y
  by_cases e2 : b = b' <;> by_cases e3 : s = s' <;> simp [e2, e3]
theorem eqv_cls (xs ys : List CL) : PyData.eqv (clsD xs) (clsD ys) = decide (xs = ys) := eqvAll_map eqv_cl xs ys
theorem eqv_mds (xs ys : List (Int × List Str)) : PyData.eqv (mdsD xs) (mdsD ys) = decide (xs = ys) := eqvAll_map eqv_md xs ys
theorem eqvL_cls (xs ys : List CL) : PyData.eqv (.list (xs.map clD)) (.list (ys.map clD)) = decide (xs = ys) := eqvAll_map eqv_cl xs ys
theorem eqvL_mds (xs ys : List (Int × List Str)) : PyData.eqv (.list (xs.map mdD)) (.list (ys.map mdD)) = decide (xs = ys) := eqvAll_map eqv_md xs ys
theorem tO_w (w : Option (List Str)) : tO (wD w) = true := by
  cases w with
  | none => rfl
  | some ss => exact tO_strs ss
theorem tO_cls : ∀ ls : List CL, tOA (ls.map clD) = true
  | [] => rfl
  | l :: r => by
    show ((true && (true && (tOA (l.s.map PyData.str) && (tO (wD l.w) && true)))) && tOA (r.map clD)) = true
    rw [tO_strs, tO_w, tO_cls r]; rfl
theorem tO_mds : ∀ md : List (Int × List Str), tOA (md.map mdD) = true
  | [] => rfl
  | m :: r => by
    show ((true && (tOA (m.2.map PyData.str) && true)) && tOA (r.map mdD)) = true
    rw [tO_strs, tO_mds r]; rfl
/-! ### copies -/
def flC (a m l d : V) : List (Str × V) := [("_age", a), ("_mark", m), ("_letters", l), ("_made", d)]
/-- a tuple of the call's own, or the empty one of the text -/
def MT (K : PySem.W.Frag) (H : Hp) (t : Addr) (ys : List V) : Prop := H t = some (.tup ys) ∨ (ys = [] ∧ KEmp K t)
theorem MT.st {K : PySem.W.Frag} {H : Hp} {t : Addr} {ys : List V} (h : MT K H t ys) : SqT K H t ys := h.elim (fun h => K1.st h) fun ⟨e, k⟩ => by subst e; exact kemp_st k
theorem MT.tu {K : PySem.W.Frag} {H G : Hp} {t : Addr} {ys : List V} (h : MT K H t ys) (s : TU H G) : MT K G t ys := h.imp (s _ _) id
theorem MT.sq {K : PySem.W.Frag} {H : Hp} {t : Addr} {ys : List V} (h : MT K H t ys) : SqK K H t ys := h.imp .inr id
structure CpP (K : PySem.W.Frag) (CC : Addr) (H : Hp) (p : Addr) (c : Cp) (dx tl tm : Addr) (xs ys : List V) : Prop where
  at_ : H p = some (.ins CC dx (flC (.int c.age) (.int c.mr) (.ref tl) (.ref tm)))
  tl : MT K H tl xs
  xs : DvA H xs (c.ls.map clD)
  tm : MT K H tm ys
  ys : DvA H ys (c.md.map mdD)
def CpAt (K : PySem.W.Frag) (CC : Addr) (H : Hp) (p : Addr) (c : Cp) : Prop := ∃ dx tl tm xs ys, CpP K CC H p c dx tl tm xs ys
structure OkCp (c : Cp) : Prop where
  age : 1 ≤ c.age
  mr : 0 ≤ c.mr
  ls : OkLs c.ls
  md : OkMs c.md
/-- all but lists, dicts and tables stay: what copies want -/
theorem CpAt.same {K : PySem.W.Frag} {CC p : Addr} {H H' : Hp} {c : Cp} (h : CpAt K CC H p c) (s : Same H H') : CpAt K CC H' p c :=
  let ⟨dx, tl, tm, xs, ys, h⟩ := h; ⟨dx, tl, tm, xs, ys, s _ _ h.at_, h.tl.tu (TU.same s), h.xs.same s, h.tm.tu (TU.same s), h.ys.same s⟩
theorem CpAt.ext {K : PySem.W.Frag} {CC p : Addr} {H H' : Hp} {c : Cp} (h : CpAt K CC H p c) (s : LamX.ExtN H H') : CpAt K CC H' p c :=
  let ⟨dx, tl, tm, xs, ys, h⟩ := h; ⟨dx, tl, tm, xs, ys, s _ _ h.at_ (fun _ z => by cases z), h.tl.tu (TU.ext s), h.xs.ext s, h.tm.tu (TU.ext s), h.ys.ext s⟩
/-- instances and tuples stay -/
theorem CpAt.tk {K : PySem.W.Frag} {CC p : Addr} {H H' : Hp} {c : Cp} (h : CpAt K CC H p c) (s : TK H H') : CpAt K CC H' p c := by
  obtain ⟨dx, tl, tm, xs, ys, h⟩ := h
  have t : TU H H' := fun b xs hb => s.tup hb
  exact ⟨dx, tl, tm, xs, ys, s _ _ h.at_ (fun _ z => by cases z) (fun _ z => by cases z), h.tl.tu t, h.xs.tu t (tO_cls _), h.tm.tu t, h.ys.tu t (tO_mds _)⟩
theorem CpAt.w {K : PySem.W.Frag} {CC p q : Addr} {H H' : Hp} {c : Cp} (h : CpAt K CC H p c) (w : WellAt H q) (e : Ext q H H') : CpAt K CC H' p c := h.tk (TK.ext w e)
theorem CpAt.ins {K : PySem.W.Frag} {CC p : Addr} {H : Hp} {c : Cp} (h : CpAt K CC H p c) : ∃ dx fs, H p = some (.ins CC dx fs) := let ⟨dx, _, _, _, _, h⟩ := h; ⟨dx, _, h.at_⟩
structure CcT (K : PySem.W.Frag) (mg : Str → Option Value) (CC : Addr) : Prop where
  cl : Cls K CC
  gC : mg "Copy" = some (.ref CC)
  nA : NoAttr K CC "_age"
  nM : NoAttr K CC "_mark"
  nL : NoAttr K CC "_letters"
  nD : NoAttr K CC "_made"
end K1


set_option Elab.async false
set_option linter.all false
set_option maxRecDepth 100000
set_option maxHeartbeats 4000000
/-! The class Copy: made, compared, read. -/
namespace K1
open PySem PySem.Spec PyProof.Rows L2 RZ StX
def mC (i : Nat) : Stmt := inClass st_Copy i
abbrev sCI : Stmt := mC 0
abbrev sCE : Stmt := mC 1
abbrev sCAge : Stmt := mC 2
abbrev sCMark : Stmt := mC 3
abbrev sCLet : Stmt := mC 4
abbrev sCMade : Stmt := mC 5
abbrev nCI : List Str := ["self", "age", "mark", "letters", "made"]
theorem scCI : FnScope nCI nCI (defScope sCI) := ⟨rfl, rfl, rfl, by decide +kernel, rfl, by decide +kernel, by decide +kernel⟩
abbrev nCE : List Str := ["self", "other"]
theorem scCE : FnScope nCE nCE (defScope sCE) := ⟨rfl, rfl, rfl, by decide +kernel, rfl, by decide +kernel, by decide +kernel⟩
theorem scCAge : FnScope nSelf nSelf (defScope sCAge) := ⟨rfl, rfl, rfl, by decide +kernel, rfl, by decide +kernel, by decide +kernel⟩
theorem scCMark : FnScope nSelf nSelf (defScope sCMark) := ⟨rfl, rfl, rfl, by decide +kernel, rfl, by decide +kernel, by decide +kernel⟩
theorem scCLet : FnScope nSelf nSelf (defScope sCLet) := ⟨rfl, rfl, rfl, by decide +kernel, rfl, by decide +kernel, by decide +kernel⟩
theorem scCMade : FnScope nSelf nSelf (defScope sCMade) := ⟨rfl, rfl, rfl, by decide +kernel, rfl, by decide +kernel, by decide +kernel⟩
section
variable {a l m d x y : V}
theorem fc_age : (flC a m l d).lookup ("_age" : Str) = some a := by rfl
theorem fc_mark : (flC a m l d).lookup ("_mark" : Str) = some m := by rfl
theorem fc_let : (flC a m l d).lookup ("_letters" : Str) = some l := by rfl
theorem fc_made : (flC a m l d).lookup ("_made" : Str) = some d := by rfl
theorem fc_no {x : Str} (h : (["_age", "_mark", "_letters", "_made"] : List Str).all (fun z => !(x == z)) = true) : (flC a m l d).lookup x = none := by
  simp only [List.all_cons, List.all_nil, Bool.and_true, Bool.and_eq_true, Bool.not_eq_true', beq_eq_false_iff_ne, ne_eq] at h
  obtain ⟨h1, h2, h3, h4⟩ := h
  unfold flC
  have e : ∀ {u v : Str}, u ≠ v → (u == v) = false := fun h => beq_eq_false_iff_ne.mpr h
  simp only [List.lookup, e h1, e h2, e h3, e h4]
theorem pc_all : putF "_made" d (putF "_letters" l (putF "_mark" m (putF "_age" a []))) = flC a m l d := by rfl
end
def spCI (K : PySem.W.Frag) (CC : Addr) : Sp := fun vs H Q _ => ∃ (p dx la ma : Addr) (age mr : Int) (xs ys : List V) (ls : List CL) (md : List (Int × List Str)), vs = [.ref p, .int age, .int mr, .ref la, .ref ma] ∧ H p = some (.ins CC dx []) ∧ 1 ≤ age ∧ 0 ≤ mr ∧
  SqK K H la xs ∧ DvA H xs (ls.map clD) ∧ OkLs ls ∧ SqK K H ma ys ∧ DvA H ys (md.map mdD) ∧ OkMs md ∧ ∀ H' tl tm, Ext p H H' → CpP K CC H' p ⟨age, mr, ls, md⟩ dx tl tm xs ys → Q .non H'
/-- tuple(x) of a list or a tuple -/
def rTup (K : PySem.W.Frag) : List V → Hp → VK → Prop := fun vs H Q => ∃ (a : Addr) (xs : List V), vs = [.ref a] ∧ SqK K H a xs ∧ ∀ l H', Same H H' → MT K H' l xs → Q (.ref l) H'
theorem cr_tup {X : Cx} {K : PySem.W.Frag} (h : X.K = K) : CallR X (.type "tuple") (rTup K) := by
  intro pins s σ H vs us Q I r ⟨a, xs, e, hs, q⟩
  refine call_tuple_ofK h pins s σ H vs us Q I r ?_
  subst e
  rcases hs with (h | h) | ⟨rfl, h⟩
  · exact ⟨a, xs, rfl, .inl ⟨sq h, fun l nl => q l _ (same_new nl) (.inl upd_same)⟩⟩
  · exact ⟨a, xs, rfl, .inr ⟨st h, q a H (fun _ _ h => h) (.inl h)⟩⟩
  · exact ⟨a, [], rfl, .inr ⟨kemp_st h, q a H (fun _ _ h => h) (.inr ⟨rfl, h⟩)⟩⟩
theorem MT.own {K : PySem.W.Frag} {H : Hp} {t : Addr} {ys : List V} (h : MT K H t ys) (n : ¬ KEmp K t) : H t = some (.tup ys) := h.resolve_right fun ⟨_, k⟩ => n k
def spCAge (K : PySem.W.Frag) (CC : Addr) : Sp := fun vs H Q _ => ∃ (p : Addr) (c : Cp), vs = [.ref p] ∧ CpAt K CC H p c ∧ Q (.int c.age) H
def spCMark (K : PySem.W.Frag) (CC : Addr) : Sp := fun vs H Q _ => ∃ (p : Addr) (c : Cp), vs = [.ref p] ∧ CpAt K CC H p c ∧ Q (.int c.mr) H
def spCLet (K : PySem.W.Frag) (CC : Addr) : Sp := fun vs H Q _ => ∃ (p : Addr) (c : Cp), vs = [.ref p] ∧ CpAt K CC H p c ∧ ∀ l xs H', Same H H' → H l = none → H' l = some (.lst xs) → DvA H' xs (c.ls.map clD) → Q (.ref l) H'
def spCMade (K : PySem.W.Frag) (CC : Addr) : Sp := fun vs H Q _ => ∃ (p : Addr) (c : Cp), vs = [.ref p] ∧ CpAt K CC H p c ∧ ∀ l ys H', Same H H' → H l = none → H' l = some (.lst ys) → DvA H' ys (c.md.map mdD) → Q (.ref l) H'
/-- two copies, and whether they are alike -/
def CpEq (K : PySem.W.Frag) (CC : Addr) (a b : Addr) (r : Bool) (H : Hp) : Prop := ∃ c d, CpAt K CC H a c ∧ CpAt K CC H b d ∧ (∀ l ∈ c.ls, OkCL l) ∧ (∀ l ∈ d.ls, OkCL l) ∧ (∀ m ∈ c.md, OkMd m) ∧ (∀ m ∈ d.md, OkMd m) ∧ r = decide (c = d)
section
variable {P : Program} {w : World} {K : PySem.W.Frag} {mg : Str → Option Value} {base : Heap} {CC : Addr}
set_option maxHeartbeats 8000000 in
theorem ok_ci {f E0' : Addr} {fd : FuncData} (T : Bk mg) (t : CcT K mg CC) (D_is_number : Def P w K mg base CX0 2 "is_number" pV spNum) (D_is_mark : Def P w K mg base CX0 2 "is_mark" pV spBody) (D_al : Def P w K mg base CX0 3 "_are_letters" pV (spAl K)) (D_am : Def P w K mg base CX0 3 "_are_made" pV (spAm K))
    (F : FunD K "__init__" "Copy.__init__" (defArgs sCI) (defBody sCI) (defScope sCI) [.ref E0'] [] f fd) : FnOk P w K mg base CX0 4 f fd nCI (spCI K CC) := by
  have nd := scCI.nd
  refine F.ok scCI (fun vs H Q E h => ?_) (fun cdv A outer s H vs Q E hr h => ?_)
  · obtain ⟨p, dx, la, ma, age, mr, xs, ys, ls, md, rfl, _⟩ := h
    rfl
  · obtain ⟨p, dx, la, ma, age, mr, xs, ys, ls, md, rfl, hp, ha, hm, hS, hA, okl, hM, hB, okm, q⟩ := h
    refine ⟨_, (pss_cons (ps_if (pt_not (pt_val (pe_def D_is_number (hr.mono (by decide)) rfl pass0 (pa_cons (pv 1) pa_nil)))) pss_any pss_nil)
 (pss_cons (ps_if (pt_not (pt_val (pe_def D_is_mark (hr.mono (by decide)) rfl pass0 (pa_cons (pv 2) pa_nil)))) pss_any pss_nil)
 (pss_cons (ps_if (pt_not (pt_val (pe_def D_al (hr.mono (by decide)) rfl pass0 (pa_cons (pv 3) pa_nil)))) pss_any pss_nil)
 (pss_cons (ps_if (pt_not (pt_val (pe_def D_am (hr.mono (by decide)) rfl pass0 (pa_cons (pv 4) pa_nil)))) pss_any pss_nil)
 (pss_cons (ps_fld (pv 0) (pv 1) rfl)
 (pss_cons (ps_fld (pv 0) (pv 2) rfl)
 (pss_cons (ps_fld (pv 0) (pe_callTy (cr_tup (K := K) rfl) (by rfl) T.tuple PyProof.Rows.boot_tuple (pa_cons (pv 3) pa_nil)) rfl)
 (pss_one (ps_fld (pv 0) (pe_callTy (cr_tup (K := K) rfl) (by rfl) T.tuple PyProof.Rows.boot_tuple (pa_cons (pv 4) pa_nil)) rfl))))))))), ?_⟩
    refine ⟨_, rfl, age, rfl, ha, _, rfl, itbF rfl ?_⟩
    refine ⟨_, rfl, mr, rfl, hm, _, rfl, itbF rfl ?_⟩
    refine ⟨_, rfl, la, xs, ls, rfl, hS, hA, okl, fun H1 s1 => ⟨_, rfl, itbF rfl ?_⟩⟩
    refine ⟨_, rfl, ma, ys, md, rfl, hM.ext (LamX.ExtN.of s1), hB.same s1, okm, fun H2 s2 => ⟨_, rfl, itbF rfl ?_⟩⟩
    have s12 := s1.trans s2
    have hp2 := s12 _ _ hp
    have hS2 := hS.ext (LamX.ExtN.of s12)
    have hM2 := hM.ext (LamX.ExtN.of s12)
    have e0 : Ext p H H2 := same_ext s12
    refine ⟨_, rfl, _, rfl, p, CC, dx, [], rfl, hp2, t.cl, t.nA, by show 0 < 1000; decide, ?_⟩
    refine ⟨_, rfl, _, rfl, p, CC, dx, _, rfl, upd_same, t.cl, t.nM, by show 1 < 1000; decide, ?_⟩
    rw [upd_upd]
    have tu : TU H2 (upd H2 p (.ins CC dx (putF "_mark" (.int mr) (putF "_age" (.int age) [])))) := TU.mut hp2 fun _ z => by cases z
    have hp3 : (upd H2 p (.ins CC dx (putF "_mark" (.int mr) (putF "_age" (.int age) [])))) p = _ := upd_same
    have e3 : Ext p H (upd H2 p (.ins CC dx (putF "_mark" (.int mr) (putF "_age" (.int age) [])))) := e0.self
    have hS3 : SqK K (upd H2 p (.ins CC dx (putF "_mark" (.int mr) (putF "_age" (.int age) [])))) la xs := hS2.imp (fun h => h.imp (fun h => by rw [upd_ne (fun z => by rw [z, hp2] at h; cases h)]; exact h) (tu _ _)) id
    have hM3 : SqK K (upd H2 p (.ins CC dx (putF "_mark" (.int mr) (putF "_age" (.int age) [])))) ma ys := hM2.imp (fun h => h.imp (fun h => by rw [upd_ne (fun z => by rw [z, hp2] at h; cases h)]; exact h) (tu _ _)) id
    generalize upd H2 p (.ins CC dx (putF "_mark" (.int mr) (putF "_age" (.int age) []))) = H3 at tu hp3 e3 hS3 hM3
    refine ⟨_, rfl, la, xs, rfl, hS3, fun tl H4 s4 htl => ?_⟩
    have hp4 := s4 _ _ hp3
    refine ⟨_, rfl, p, CC, dx, _, rfl, hp4, t.cl, t.nL, by show 2 < 1000; decide, ?_⟩
    have tu4 : TU H4 (upd H4 p (.ins CC dx (putF "_letters" (.ref tl) (putF "_mark" (.int mr) (putF "_age" (.int age) []))))) := TU.mut hp4 fun _ z => by cases z
    have hp5 : (upd H4 p (.ins CC dx (putF "_letters" (.ref tl) (putF "_mark" (.int mr) (putF "_age" (.int age) []))))) p = _ := upd_same
    have e5 : Ext p H (upd H4 p (.ins CC dx (putF "_letters" (.ref tl) (putF "_mark" (.int mr) (putF "_age" (.int age) []))))) := (e3.trans (same_ext s4)).self
    have hM5 : SqK K (upd H4 p (.ins CC dx (putF "_letters" (.ref tl) (putF "_mark" (.int mr) (putF "_age" (.int age) []))))) ma ys := (hM3.ext (LamX.ExtN.of s4)).imp (fun h => h.imp (fun h => by rw [upd_ne (fun z => by rw [z, hp4] at h; cases h)]; exact h) (tu4 _ _)) id
    have htl5 := htl.tu tu4
    generalize upd H4 p (.ins CC dx (putF "_letters" (.ref tl) (putF "_mark" (.int mr) (putF "_age" (.int age) [])))) = H5 at tu4 hp5 e5 hM5 htl5
    refine ⟨_, rfl, ma, ys, rfl, hM5, fun tm H6 s6 htm => ?_⟩
    have hp6 := s6 _ _ hp5
    refine ⟨_, rfl, p, CC, dx, _, rfl, hp6, t.cl, t.nD, by show 3 < 1000; decide, ?_⟩
    rw [pc_all]
    have tu6 : TU H6 (upd H6 p (.ins CC dx (flC (.int age) (.int mr) (.ref tl) (.ref tm)))) := TU.mut hp6 fun _ z => by cases z
    have tuA : TU H (upd H6 p (.ins CC dx (flC (.int age) (.int mr) (.ref tl) (.ref tm)))) := ((((TU.same s12).trans tu).trans (TU.same s4)).trans tu4).trans ((TU.same s6).trans tu6)
    exact q _ tl tm (e5.trans (same_ext s6)).self ⟨upd_same, (htl5.tu (TU.same s6)).tu tu6, hA.tu tuA (tO_cls _), htm.tu tu6, hB.tu tuA (tO_mds _)⟩
theorem ok_cage {f : Addr} {fd : FuncData} (t : CcT K mg CC) (F : Fun K "age" "Copy.age" sCAge f fd) : FnOk P w K mg base CX0 1 f fd nSelf (spCAge K CC) := by
  refine F.ok scCAge (fun vs H Q E h => ?_) (fun cdv A outer s H vs Q E hr h => ?_)
  · obtain ⟨p, F, rfl, _⟩ := h
    rfl
  · obtain ⟨p, c, rfl, ⟨dx, tl, tm, xs, ys, h⟩, q⟩ := h
    exact ⟨_, pss_one (ps_ret (pe_fld (pv 0) rfl)), ⟨_, rfl, p, CC, dx, _, _, rfl, h.at_, t.cl, t.nA, fc_age, q⟩⟩
theorem ok_cmark {f : Addr} {fd : FuncData} (t : CcT K mg CC) (F : Fun K "mark" "Copy.mark" sCMark f fd) : FnOk P w K mg base CX0 1 f fd nSelf (spCMark K CC) := by
  refine F.ok scCMark (fun vs H Q E h => ?_) (fun cdv A outer s H vs Q E hr h => ?_)
  · obtain ⟨p, F, rfl, _⟩ := h
    rfl
  · obtain ⟨p, c, rfl, ⟨dx, tl, tm, xs, ys, h⟩, q⟩ := h
    exact ⟨_, pss_one (ps_ret (pe_fld (pv 0) rfl)), ⟨_, rfl, p, CC, dx, _, _, rfl, h.at_, t.cl, t.nM, fc_mark, q⟩⟩
theorem ok_clet {f : Addr} {fd : FuncData} (T : Bk mg) (t : CcT K mg CC) (F : Fun K "letters" "Copy.letters" sCLet f fd) : FnOk P w K mg base CX0 1 f fd nSelf (spCLet K CC) := by
  refine F.ok scCLet (fun vs H Q E h => ?_) (fun cdv A outer s H vs Q E hr h => ?_)
  · obtain ⟨p, F, rfl, _⟩ := h
    rfl
  · obtain ⟨p, c, rfl, ⟨dx, tl, tm, xs, ys, h⟩, q⟩ := h
    refine ⟨_, pss_one (ps_ret (pe_callTy (call_list_ofK (K := K) rfl) (by rfl) T.list PyProof.Rows.boot_list (pa_cons (pe_fld (pv 0) rfl) pa_nil))), ?_⟩
    exact ⟨_, rfl, p, CC, dx, _, _, rfl, h.at_, t.cl, t.nL, fc_let, tl, xs, rfl, .inr h.tl.st, fun l nl => q l xs _ (same_new nl) nl upd_same (h.xs.same (same_new nl))⟩
theorem ok_cmade {f : Addr} {fd : FuncData} (T : Bk mg) (t : CcT K mg CC) (F : Fun K "made" "Copy.made" sCMade f fd) : FnOk P w K mg base CX0 1 f fd nSelf (spCMade K CC) := by
  refine F.ok scCMade (fun vs H Q E h => ?_) (fun cdv A outer s H vs Q E hr h => ?_)
  · obtain ⟨p, F, rfl, _⟩ := h
    rfl
  · obtain ⟨p, c, rfl, ⟨dx, tl, tm, xs, ys, h⟩, q⟩ := h
    refine ⟨_, pss_one (ps_ret (pe_callTy (call_list_ofK (K := K) rfl) (by rfl) T.list PyProof.Rows.boot_list (pa_cons (pe_fld (pv 0) rfl) pa_nil))), ?_⟩
    exact ⟨_, rfl, p, CC, dx, _, _, rfl, h.at_, t.cl, t.nD, fc_made, tm, ys, rfl, .inr h.tm.st, fun l nl => q l ys _ (same_new nl) nl upd_same (h.ys.same (same_new nl))⟩
set_option maxHeartbeats 8000000 in
theorem ok_ce {f : Addr} {fd : FuncData} (T : Bk mg) (t : CcT K mg CC) (iC : C8.InsC K CC) (F : Fun K "__eq__" "Copy.__eq__" sCE f fd) : FnOk P w K mg base CX0 1 f fd nCE (spEqB (CpEq K CC)) := by
  have nd := scCE.nd
  refine F.ok scCE (fun vs H Q E h => ?_) (fun cdv A outer s H vs Q E hr h => ?_)
  · obtain ⟨a, b, r, rfl, _⟩ := h
    rfl
  · obtain ⟨a, b, r, rfl, ⟨c, d, ⟨dA, lA, gA, xA, yA, hA⟩, ⟨dB, lB, gB, xB, yB, hB⟩, oc, od, mc, md, rfl⟩, q⟩ := h
    refine ⟨_, (pss_one (ps_ret (pe_and (pe_callB (C8.call_isC iC) (by rfl) T.isinstance PyProof.Rows.boot_isinstance (pa_cons (pv 1) (pa_cons (pe_glob (v := .ref CC) rfl t.gC rfl) pa_nil)))
      (pe_and (pe_cmpR op_eq (pe_fld (pv 0) rfl) (pe_fld (pv 1) rfl) (nomark _)) (pe_and (pe_cmpR op_eq (pe_fld (pv 0) rfl) (pe_fld (pv 1) rfl) (nomark _)) (pe_and (pe_cmpR (op_eqDK (K := K) rfl hr.units) (pe_fld (pv 0) rfl) (pe_fld (pv 1) rfl) (nomark _))
       (pe_one (pe_cmpR (op_eqDK (K := K) rfl hr.units) (pe_fld (pv 0) rfl) (pe_fld (pv 1) rfl) (nomark _))))))))), ?_⟩
    have lc := lay_cls oc
    have ld := lay_cls od
    have mcl := lay_mds mc
    have mdl := lay_mds md
    have fin := q H (fun _ _ h => h)
    have exq : ∀ {e : Bool}, e = decide (c = d) → Q (.bl e) H := fun h => by rw [h]; exact fin
    refine ⟨_, rfl, b, dB, _, rfl, hB.at_, _, rfl, itbT rfl ?_⟩
    refine ⟨_, rfl, a, CC, dA, _, _, rfl, hA.at_, t.cl, t.nA, fc_age, _, rfl, b, CC, dB, _, _, rfl, hB.at_, t.cl, t.nA, fc_age, rfl, _, rfl, ?_⟩
    by_cases c1 : c.age = d.age
    · refine itbT (by rw [c1]; exact decide_eq_true rfl) ?_
      refine ⟨_, rfl, a, CC, dA, _, _, rfl, hA.at_, t.cl, t.nM, fc_mark, _, rfl, b, CC, dB, _, _, rfl, hB.at_, t.cl, t.nM, fc_mark, rfl, _, rfl, ?_⟩
      by_cases c2 : c.mr = d.mr
      · refine itbT (by rw [c2]; exact decide_eq_true rfl) ?_
        refine ⟨_, rfl, a, CC, dA, _, _, rfl, hA.at_, t.cl, t.nL, fc_let, _, rfl, b, CC, dB, _, _, rfl, hB.at_, t.cl, t.nL, fc_let, clsD c.ls, clsD d.ls, .tup hA.tl.st (hA.xs.dp (by have := lc.nd; exact this)), .tup hB.tl.st (hB.xs.dp (by have := ld.nd; exact this)), lc.sh, ld.sh, _, rfl, ?_⟩
        by_cases c3 : c.ls = d.ls
        · refine itbT (by rw [eqv_cls]; exact decide_eq_true c3) ?_
          refine ⟨_, rfl, a, CC, dA, _, _, rfl, hA.at_, t.cl, t.nD, fc_made, _, rfl, b, CC, dB, _, _, rfl, hB.at_, t.cl, t.nD, fc_made, mdsD c.md, mdsD d.md, .tup hA.tm.st (hA.ys.dp (by have := mcl.nd; exact this)), .tup hB.tm.st (hB.ys.dp (by have := mdl.nd; exact this)), mcl.sh, mdl.sh, ?_⟩
          refine exq ?_
          rw [eqv_mds]
          obtain ⟨a1, a2, a3, a4⟩ := c
          obtain ⟨b1, b2, b3, b4⟩ := d
          dsimp only at c1 c2 c3
          subst c1 c2 c3
          by_cases c4 : a4 = b4 <;> simp [c4]
        · refine itbF (by rw [eqv_cls]; exact decide_eq_false c3) (exq ?_)
          rw [decide_eq_false fun e => c3 (by rw [e])]
      · refine itbF (by exact decide_eq_false fun e => c2 (V.int.inj e)) (exq ?_)
        rw [decide_eq_false fun e => c2 (by rw [e])]
    · refine itbF (by exact decide_eq_false fun e => c1 (V.int.inj e)) (exq ?_)
      rw [decide_eq_false fun e => c1 (by rw [e])]
end
end K1


set_option Elab.async false
set_option linter.all false
set_option maxRecDepth 100000
set_option maxHeartbeats 4000000
/-! Copies that are changed; copy_of. -/
namespace K1
open PySem PySem.Spec PyProof.Rows L2 RZ StX
theorem tO_cl (l : CL) : tO (clD l) = true := by
  show (true && (true && (tOA (l.s.map PyData.str) && (tO (wD l.w) && true)))) = true
  rw [tO_strs, tO_w]; rfl
theorem tO_md (m : Int × List Str) : tO (mdD m) = true := by
  show (true && (tOA (m.2.map PyData.str) && true)) = true
  rw [tO_strs]; rfl
/-- x + y of two tuples -/
def rCatM (K : PySem.W.Frag) : R2 := fun x y H Q => ∃ a b xs ys, x = V.ref a ∧ y = V.ref b ∧ MT K H a xs ∧ MT K H b ys ∧ xs.length + ys.length ≤ 2000 ∧ ∀ l H', Same H H' → MT K H' l (xs ++ ys) → Q (.ref l) H'
theorem op_catM {X : Cx} {K : PySem.W.Frag} (h : X.K = K) : OpR X (binaryOp .Add) (rCatM K) := by
  intro pins s σ H x y v u Q I rx ry ⟨a, b, xs, ys, e1, e2, ha, hb, hl, q⟩
  subst h
  refine op_catA pins s σ H x y v u Q I rx ry ⟨a, b, xs, ys, e1, e2, ha.st, hb.st, by have : sizeLine = sizeLine := rfl; exact Nat.le_trans hl (by decide), fun e => ?_, fun _ e => ?_, fun _ _ p np => q p _ (same_new np) (.inl upd_same)⟩
  · subst e; exact q b H (fun _ _ h => h) hb
  · subst e; exact q a H (fun _ _ h => h) (by rw [List.append_nil]; exact ha)
/-- a comprehension that makes what stays with the tuples -/
theorem lc_tu {J : It} {xs : List V} {Gd : Hp → Prop} (wk : Walk J xs.length Gd (YAt xs)) {α β : Type} {R : V → α → Prop} {ls : List α} (hA : A2 R xs ls) {H1 : Hp} {D : Addr} (hD : H1 D = none) (hG : ∀ G, Same H1 G → Gd G) (hl : xs.length ≤ 1000) (φ : α → Option β)
    (Pd : Hp → V → β → Prop) (mono : ∀ H G x b, TU H G → Pd H x b → Pd G x b) {g : TG} {tt : TT} {te : TE} {vs : List Nat} {σ : L2.St} {Qd : Hp → Prop}
    (hs : ∀ x a G (T : V → Hp → Prop) (S : Hp → Prop), R x a → a ∈ ls → Same H1 G → (∀ y b G', Same G G' → φ a = some b → Pd G' y b → T y G') → (∀ G', Same G G' → φ a = none → S G') → g x (wipe σ vs) G fun σ2 H2 => wipe σ2 vs = wipe σ vs ∧ tt σ2 H2 fun b H3 => if b = true then te σ2 H3 T else S H3)
    (hd : ∀ G acc, Same H1 G → G D = some (.lst acc) → A2 (Pd G) acc (ls.filterMap φ) → Qd G) :
    ∃ W : Nat → Nat → Hp → Prop, (∃ m, W 0 m (upd H1 D (.lst []))) ∧ ∀ i m H, W i m H →
      (J.stop i H ∧ Qd H) ∨ (J.go i H ∧ ∃ Nx : Hp → Prop, (∀ H', Nx H' → ∃ m', m' < m ∧ W (i + 1) m' H') ∧ ∀ x H', J.yld i H x H' → g x (wipe σ vs) H' fun σ2 H2 => wipe σ2 vs = wipe σ vs ∧ tt σ2 H2 fun b H3 =>
        if b = true then te σ2 H3 fun y H4 => ∃ acc, H4 D = some (.lst acc) ∧ acc.length < sizeLine ∧ Nx (upd H4 D (.lst (acc ++ [y]))) else Nx H3) := by
  refine lc_it wk (fun i G => Same H1 G ∧ ∃ acc, G D = some (.lst acc) ∧ acc.length ≤ i ∧ A2 (Pd G) acc ((ls.take i).filterMap φ)) ⟨same_new hD, [], upd_same, Nat.zero_le _, .nil⟩ (fun i G _ h => hG _ h.1) ?_ ?_
  · rintro i x G G' hi ⟨s1, acc, hacc, hla, ha⟩ ⟨rfl, hx⟩
    obtain ⟨a, hai, hR⟩ := hA.get hx
    refine hs x a G' _ _ hR (List.mem_of_getElem? hai) s1 (fun y b G2 s2 e o => ?_) fun G2 s2 e => ?_
    · have hacc2 := s2 _ _ hacc
      have tm : TU G2 (upd G2 D (.lst (acc ++ [y]))) := TU.mut hacc2 fun _ z => by cases z
      refine ⟨acc, hacc2, lt1 _ (by omega), (s1.trans s2).mut hD, _, upd_same, by rw [List.length_append]; show acc.length + 1 ≤ _; omega, ?_⟩
      rw [take_fm φ hai, e]
      exact (ha.imp fun _ _ h => mono _ _ _ _ ((TU.same s2).trans tm) h).app (.cons (mono _ _ _ _ tm o) .nil)
    · refine ⟨s1.trans s2, acc, s2 _ _ hacc, by omega, ?_⟩
      rw [take_fm φ hai, e]
      show A2 _ acc (_ ++ [])
      rw [List.append_nil]; exact ha.imp fun _ _ h => mono _ _ _ _ (TU.same s2) h
  · rintro G ⟨s1, acc, hacc, _, ha⟩
    refine hd G acc s1 hacc ?_
    rw [hA.len, List.take_length] at ha
    exact ha
structure MkCc (P : Program) (w : World) (K : PySem.W.Frag) (mg : Str → Option Value) (base : Heap) (CC E0' : Addr) : Prop where
  ex : ∃ (f : Addr) (fd : FuncData) (ds : List Value), Mk K CC f ∧ Binds K fd nCI [] ∧ Binds K fd nCI ds ∧ Vals [.ref E0'] ds ∧ FnOk P w K mg base CX0 4 f fd nCI (spCI K CC)
  emp : KEmp K E0'
section
variable {X : Cx} {CC E0' : Addr} {e : Expr} {es : List Expr} {t : TA} {p pos : Pos}
theorem pe_newC4 (D : MkCc X.prog X.w X.K X.mg X.base CC E0') (gC : X.mg "Copy" = some (.ref CC)) (hr : Room 5 X.A) (hg : Gl X "Copy") (ha : PA X (e :: es) t)
    (he : starEach (e :: es) X.env = (false, eval e X.env) :: starEach es X.env := by rfl) (hpl : (backTo pos (starEach es X.env)).any (·.1) = false := by rfl) : PE X (.Call (.Name "Copy" p) (e :: es) [] pos) (tMake CC (spCI X.K CC) [] E0 t) := by
  obtain ⟨f, fd, ds, hm, hb, _, _, F⟩ := D.ex
  exact pe_make hm F hr hg gC hb .nil pass0 ha (he := he) (hpl := hpl)
theorem pe_newC3 (D : MkCc X.prog X.w X.K X.mg X.base CC E0') (gC : X.mg "Copy" = some (.ref CC)) (hr : Room 5 X.A) (hg : Gl X "Copy") (ha : PA X (e :: es) t)
    (he : starEach (e :: es) X.env = (false, eval e X.env) :: starEach es X.env := by rfl) (hpl : (backTo pos (starEach es X.env)).any (·.1) = false := by rfl) : PE X (.Call (.Name "Copy" p) (e :: es) [] pos) (tMake CC (spCI X.K CC) [.ref E0'] E0 t) := by
  obtain ⟨f, fd, ds, hm, _, hb, hv, F⟩ := D.ex
  exact pe_make hm F hr hg gC hb hv pass0 ha (he := he) (hpl := hpl)
end
/-- what the making of a copy asks -/
theorem newC {K : PySem.W.Frag} {CC la ma : Addr} {H : Hp} {age mr : Int} {xs ys : List V} {ls : List CL} {md : List (Int × List Str)} {Q : VK} {vs : List V} {dvs : List V} (e : vs ++ dvs = [.int age, .int mr, .ref la, .ref ma]) (ha : 1 ≤ age) (hm : 0 ≤ mr) (hS : SqK K H la xs) (hA : DvA H xs (ls.map clD)) (okl : OkLs ls) (hM : SqK K H ma ys) (hB : DvA H ys (md.map mdD)) (okm : OkMs md)
    (q : ∀ x H', Same H H' → H x = none → CpAt K CC H' x ⟨age, mr, ls, md⟩ → Q (.ref x) H') : ∀ x dx, H x = none → H dx = none → dx ≠ x → spCI K CC (.ref x :: (vs ++ dvs)) (upd (upd H dx (.own x)) x (.ins CC dx [])) (fun v H2 => v = .non ∧ Q (.ref x) H2) E0 := by
  intro x dx nx ndx hne
  have s1 : Same H (upd (upd H dx (.own x)) x (.ins CC dx [])) := fun b o hb => by
    rw [upd_ne (ne_of_none hb nx), upd_ne (ne_of_none hb ndx)]; exact hb
  refine ⟨x, dx, la, ma, age, mr, xs, ys, ls, md, by rw [e], upd_same, ha, hm, hS.ext (LamX.ExtN.of s1), hA.same s1, okl, hM.ext (LamX.ExtN.of s1), hB.same s1, okm, fun H' tl tm e' h => ⟨rfl, ?_⟩⟩
  exact q x H' (fun b o hb => e' _ _ (ne_of_none hb nx) (s1 _ _ hb)) nx ⟨dx, tl, tm, xs, ys, h⟩
theorem newC' {K : PySem.W.Frag} {CC la ma x dx : Addr} {H : Hp} {age mr : Int} {xs ys : List V} {ls : List CL} {md : List (Int × List Str)} {Qx : Hp → Prop} (nx : H x = none) (ndx : H dx = none) (hne : dx ≠ x) (ha : 1 ≤ age) (hm : 0 ≤ mr) (hS : SqK K H la xs) (hA : DvA H xs (ls.map clD)) (okl : OkLs ls) (hM : SqK K H ma ys) (hB : DvA H ys (md.map mdD)) (okm : OkMs md)
    (q : ∀ H', Same H H' → CpAt K CC H' x ⟨age, mr, ls, md⟩ → Qx H') : spCI K CC [.ref x, .int age, .int mr, .ref la, .ref ma] (upd (upd H dx (.own x)) x (.ins CC dx [])) (fun v H2 => v = .non ∧ Qx H2) E0 := by
  have s1 : Same H (upd (upd H dx (.own x)) x (.ins CC dx [])) := fun b o hb => by
    rw [upd_ne (ne_of_none hb nx), upd_ne (ne_of_none hb ndx)]; exact hb
  refine ⟨x, dx, la, ma, age, mr, xs, ys, ls, md, rfl, upd_same, ha, hm, hS.ext (LamX.ExtN.of s1), hA.same s1, okl, hM.ext (LamX.ExtN.of s1), hB.same s1, okm, fun H' tl tm e' h => ⟨rfl, ?_⟩⟩
  exact q H' (fun b o hb => e' _ _ (ne_of_none hb nx) (s1 _ _ hb)) ⟨dx, tl, tm, xs, ys, h⟩
def setW (n : Int) (w : Option (List Str)) (l : CL) : CL := if l.n = n then { l with w := w } else l
def cpW (c : Cp) (n : Int) (w : Option (List Str)) : Cp := { c with ls := c.ls.map (setW n w) }
def cpM (c : Cp) (b : Int) (ss : List Str) : Cp := { c with md := c.md ++ [(b, ss)] }
theorem setW_n (n : Int) (w : Option (List Str)) (l : CL) : (setW n w l).n = l.n := by unfold setW; split <;> rfl
theorem map_setW (n : Int) (w : Option (List Str)) (ls : List CL) : (ls.map (setW n w)).map (·.n) = ls.map (·.n) := by
  rw [List.map_map]; exact List.map_congr_left fun l _ => setW_n n w l
theorem okLs_W {ls : List CL} {n : Int} {w : Option (List Str)} (h : OkLs ls) (hw : ∀ ss, w = some ss → OkSs ss) : OkLs (ls.map (setW n w)) := by
  refine ⟨fun l hl => ?_, by rw [map_setW]; exact h.up, by rw [List.length_map]; exact h.len⟩
  obtain ⟨x, hx, rfl⟩ := List.mem_map.mp hl
  have o := h.ok x hx
  unfold setW
  split
  · exact ⟨o.n, o.b, o.s, hw⟩
  · exact o
theorem okCp_W {c : Cp} {n : Int} {w : Option (List Str)} (h : OkCp c) (hw : ∀ ss, w = some ss → OkSs ss) : OkCp (cpW c n w) := ⟨h.age, h.mr, okLs_W h.ls hw, h.md⟩
theorem okCp_M {c : Cp} {b : Int} {ss : List Str} (h : OkCp c) (hb : 0 ≤ b) (hs : OkSs ss) (hl : c.md.length < 900) : OkCp (cpM c b ss) :=
  ⟨h.age, h.mr, h.ls, fun m hm => (List.mem_append.mp hm).elim (h.md.ok m) fun z => by rw [List.mem_singleton.mp z]; exact ⟨hb, hs⟩, by show (c.md ++ _).length ≤ 900; rw [List.length_append]; show c.md.length + 1 ≤ 900; omega⟩
abbrev sCWt : Stmt := mC 6
abbrev sCDr : Stmt := mC 7
abbrev sCMk : Stmt := mC 8
abbrev sCCk : Stmt := mC 9
abbrev sCWW : Stmt := mC 10
abbrev sCo : Stmt := st_copy_of
abbrev sCf : Stmt := st__check_folder
abbrev nCWt : List Str := ["self", "number", "signs"]
theorem scCWt : FnScope nCWt nCWt (defScope sCWt) := ⟨rfl, rfl, rfl, by decide +kernel, rfl, by decide +kernel, by decide +kernel⟩
abbrev nCDr : List Str := ["self", "number"]
theorem scCDr : FnScope nCDr nCDr (defScope sCDr) := ⟨rfl, rfl, rfl, by decide +kernel, rfl, by decide +kernel, by decide +kernel⟩
abbrev nCMk : List Str := ["self", "body", "signs"]
theorem scCMk : FnScope nCMk nCMk (defScope sCMk) := ⟨rfl, rfl, rfl, by decide +kernel, rfl, by decide +kernel, by decide +kernel⟩
abbrev nCCk : List Str := ["self", "number", "letter"]
theorem scCCk : FnScope nCCk nCDr (defScope sCCk) := ⟨rfl, rfl, rfl, by decide +kernel, rfl, by decide +kernel, by decide +kernel⟩
abbrev nCWW : List Str := ["self", "number", "wanted", "rows", "row"]
abbrev pCWW : List Str := ["self", "number", "wanted"]
theorem scCWW : FnScope nCWW pCWW (defScope sCWW) := ⟨rfl, rfl, rfl, by decide +kernel, rfl, by decide +kernel, by decide +kernel⟩
abbrev nCo : List Str := ["folder", "rows", "number", "body", "signs", "_"]
abbrev pCo : List Str := ["folder"]
theorem scCo : FnScope nCo pCo (defScope sCo) := ⟨rfl, rfl, rfl, by decide +kernel, rfl, by decide +kernel, by decide +kernel⟩
theorem scCf : FnScope pCo pCo (defScope sCf) := ⟨rfl, rfl, rfl, by decide +kernel, rfl, by decide +kernel, by decide +kernel⟩
def spWW (K : PySem.W.Frag) (CC : Addr) : Sp := fun vs H Q _ => ∃ (p : Addr) (n : Int) (wv : V) (c : Cp) (wo : Option (List Str)), vs = [.ref p, .int n, wv] ∧ CpAt K CC H p c ∧ OkCp c ∧ WV H wv wo ∧ (∀ ss, wo = some ss → OkSs ss) ∧ ∀ q H', Same H H' → H q = none → CpAt K CC H' q (cpW c n wo) → Q (.ref q) H'
def spCk (K : PySem.W.Frag) (CC : Addr) : Sp := fun vs H Q _ => ∃ (p : Addr) (n : Int) (c : Cp), vs = [.ref p, .int n] ∧ CpAt K CC H p c ∧ OkCp c ∧ n ∈ c.ls.map (·.n) ∧ ∀ H', Same H H' → Q .non H'
def spWt (K : PySem.W.Frag) (CC : Addr) : Sp := fun vs H Q _ => ∃ (p : Addr) (n : Int) (sa : Addr) (c : Cp) (ss : List Str), vs = [.ref p, .int n, .ref sa] ∧ CpAt K CC H p c ∧ OkCp c ∧ n ∈ c.ls.map (·.n) ∧ H sa = some (.tup (ss.map V.str)) ∧ OkSs ss ∧ ∀ q H', Same H H' → H q = none → CpAt K CC H' q (cpW c n (some ss)) → Q (.ref q) H'
def spDr (K : PySem.W.Frag) (CC : Addr) : Sp := fun vs H Q _ => ∃ (p : Addr) (n : Int) (c : Cp), vs = [.ref p, .int n] ∧ CpAt K CC H p c ∧ OkCp c ∧ n ∈ c.ls.map (·.n) ∧ ∀ q H', Same H H' → H q = none → CpAt K CC H' q (cpW c n none) → Q (.ref q) H'
def spMkg (K : PySem.W.Frag) (CC : Addr) : Sp := fun vs H Q _ => ∃ (p : Addr) (b : Int) (sa : Addr) (c : Cp) (ss : List Str), vs = [.ref p, .int b, .ref sa] ∧ CpAt K CC H p c ∧ OkCp c ∧ 0 ≤ b ∧ H sa = some (.tup (ss.map V.str)) ∧ OkSs ss ∧ c.md.length < 900 ∧ ∀ q H', Same H H' → H q = none → CpAt K CC H' q (cpM c b ss) → Q (.ref q) H'
def spCf (C : Addr) : Sp := fun vs H Q _ => ∃ (p : Addr) (F : Fo), vs = [.ref p] ∧ FoAt C H p F ∧ Q .non H
def clF (l : Lt) : CL := ⟨l.n, l.b, l.s, some l.s⟩
def cpF (F : Fo) : Cp := ⟨F.age, F.mr, F.ls.map clF, []⟩
theorem okCp_F {k : Nat} {F : Fo} (hk : k ≤ 900) (h : GA k F) : OkCp (cpF F) := by
  refine ⟨h.g.wf.age, h.g.mr.1, ⟨fun l hl => ?_, ?_, ?_⟩, ⟨fun m hm => (by cases hm), Nat.zero_le _⟩⟩
  · obtain ⟨x, hx, rfl⟩ := List.mem_map.mp hl
    have i := h.g.it x hx
    have s := h.g.wf.sg x hx
    exact ⟨i.1, i.2.2, s, fun ss e => by rw [← Option.some.inj e]; exact s⟩
  · show ((F.ls.map clF).map (·.n)).Pairwise _
    rw [List.map_map]; exact h.a.up
  · have := h.g.wf.len
    show (F.ls.map clF).length ≤ 900
    rw [List.length_map]; omega
def spCo (K : PySem.W.Frag) (C CC : Addr) : Sp := fun vs H Q _ => ∃ (p : Addr) (F : Fo) (k : Nat), vs = [.ref p] ∧ FoAt C H p F ∧ GA k F ∧ k ≤ 900 ∧ ∀ q H', Same H H' → H q = none → CpAt K CC H' q (cpF F) → Q (.ref q) H'
section
variable {P : Program} {w : World} {K : PySem.W.Frag} {mg : Str → Option Value} {base : Heap} {C CC E0' : Addr}
set_option maxHeartbeats 8000000 in
theorem ok_ww {f : Addr} {fd : FuncData} (T : Bk mg) (t : CcT K mg CC) (D_new : MkCc P w K mg base CC E0') (F : Fun K "_with_wanted" "Copy._with_wanted" sCWW f fd) : FnOk P w K mg base CX0 6 f fd pCWW (spWW K CC) := by
  have nd := scCWW.nd
  refine F.ok scCWW (fun vs H Q E h => ?_) (fun cdv A outer s H vs Q E hr h => ?_)
  · obtain ⟨p, n, wv, c, wo, rfl, _⟩ := h
    rfl
  · obtain ⟨p, n, wv, c, wo, rfl, hc, ok, hw, ow, q⟩ := h
    refine ⟨_, (pss_cons (ps_setLc (i := 3) (own := [("row", 4)]) (g := gName 4) (tt := tYes) rfl nd rfl rfl (sw_true rfl rfl rfl (by decide +kernel)) (pi_tupK (K := K) rfl (pe_fld (pv 0) rfl)) (blkOk_by (own := [("row", 4)]) (N := nCWW) (sc := defScope sCWW) (by decide +kernel)) (fun _ _ _ _ _ => pg_name (i := 4) nd rfl (Or.inl rfl)) (fun _ _ _ _ _ => pts_nil) (fun _ _ _ _ _ => (pe_ifExp (pt_cmpR op_eq (pe_ix (ix_tupK (K := K) rfl) (pv 4) pe_int (fun _ _ => rfl)) (pv 1) (nomark _)) (pe_op (op_catM (K := K) rfl) (pe_slice (sl_tupAK (K := K) rfl) (pv 4) po_none (po_some pe_int)) (pe_tup (pa_cons (pv 2) pa_nil))) (pv 4))))
 (pss_one (ps_ret (pe_newC4 D_new t.gC (hr.mono (by decide)) rfl (pa_cons (pe_fld (pv 0) rfl) (pa_cons (pe_fld (pv 0) rfl) (pa_cons (pv 3) (pa_cons (pe_fld (pv 0) rfl) pa_nil)))))))), ?_⟩
    obtain ⟨dx, tl, tm, xs, ys, h⟩ := id hc
    have lx := h.xs.len
    rw [List.length_map] at lx
    have lm := ok.ls.len
    refine ⟨_, rfl, p, CC, dx, _, _, rfl, h.at_, t.cl, t.nL, fc_let, tl, rfl, ⟨_, h.tl.st⟩, fun D nD => ?_⟩
    refine lc_tu (walk_tup (K := K)) (a2_of h.xs) nD (fun G s => (h.tl.tu (TU.same s)).st) (by omega) (fun l => some (setW n wo l)) (fun G x l => Dv G x (clD l)) (fun H G x b t h => h.tu t (tO_cl b)) ?_ ?_
    · rintro x l G T' S' hx hm s1 hT hS
      obtain ⟨ta, sa, lv, rfl, hta, hsa, hlw⟩ := dv_cl (hx.same s1)
      refine ⟨rfl, tyes ⟨_, rfl, ta, _, 0, .int l.n, rfl, rfl, st hta, atI_nat (j := 0) rfl, _, rfl, rfl, _, rfl, ?_⟩⟩
      by_cases c1 : l.n = n
      · refine itbT (by rw [c1]; exact decide_eq_true rfl) ?_
        refine ⟨_, rfl, 3, rfl, slA_go hta fun b G2 s2 hb => ?_⟩
        have eb : cutV [V.int l.n, V.int l.b, V.ref sa, lv] none (some 3) = [.int l.n, .int l.b, .ref sa] := cut_take _ 3
        rw [eb] at hb
        refine ⟨_, rfl, by show 1 ≤ sizeLine; decide, fun U nU => ?_⟩
        have sU := same_new nU (o := .tup [wv])
        refine ⟨b, U, _, _, rfl, rfl, .inl (sU _ _ hb), .inl upd_same, by show 3 + 1 ≤ 2000; decide, fun r G3 s3 hr3 => ?_⟩
        have hr4 : G3 r = some (.tup [.int l.n, .int l.b, .ref sa, wv]) := hr3.elim id fun z => by cases z.1
        have s23 := (s2.trans sU).trans s3
        refine hT _ (setW n wo l) G3 s23 rfl ?_
        have e : setW n wo l = { l with w := wo } := if_pos c1
        rw [e]
        exact cl_dv (l := { l with w := wo }) hr4 (s23 _ _ hsa) (hw.tu ((TU.same s1).trans (TU.same s23)))
      · refine itbF (decide_eq_false fun e => c1 (V.int.inj e)) ?_
        refine ⟨_, rfl, hT _ (setW n wo l) G (fun _ _ h => h) rfl ?_⟩
        have e : setW n wo l = l := if_neg c1
        rw [e]; exact hx.same s1
    · intro G acc s1 hacc hA
      have ef : c.ls.filterMap (fun l => some (setW n wo l)) = c.ls.map (setW n wo) := by rw [← List.filterMap_eq_map]; rfl
      rw [ef] at hA
      have h' := s1 _ _ h.at_
      refine name_go' ?_
      refine ⟨_, rfl, p, CC, dx, _, _, rfl, h', t.cl, t.nA, fc_age, _, rfl, p, CC, dx, _, _, rfl, h', t.cl, t.nM, fc_mark, _, rfl, _, rfl, p, CC, dx, _, _, rfl, h', t.cl, t.nD, fc_made, ?_⟩
      exact newC rfl ok.age ok.mr (.inl (.inl hacc)) (of_a2 hA) (okLs_W ok.ls ow) (h.tm.tu (TU.same s1)).sq (h.ys.same s1) ok.md fun x H' s2 nx hx => q x H' (s1.trans s2) (s1.free nx) hx
theorem ok_ck {f : Addr} {fd : FuncData} (t : CcT K mg CC) (D_is_number : Def P w K mg base CX0 2 "is_number" pV spNum) (F : Fun K "_check_number" "Copy._check_number" sCCk f fd) : FnOk P w K mg base CX0 3 f fd nCDr (spCk K CC) := by
  have nd := scCCk.nd
  refine F.ok scCCk (fun vs H Q E h => ?_) (fun cdv A outer s H vs Q E hr h => ?_)
  · obtain ⟨p, n, c, rfl, _⟩ := h
    rfl
  · obtain ⟨p, n, c, rfl, hc, ok, hn, q⟩ := h
    refine ⟨_, (pss_one (ps_if (PW.pt (pw_or (pt_not (pt_val (pe_def D_is_number (hr.mono (by decide)) rfl pass0 (pa_cons (pv 1) pa_nil)))) (pw_or1 (pt_cmpR (op_notIn_seqK (K := K) rfl) (pv 1) (pe_lc (own := [("letter", 2)]) (g := gName 2) (tt := tYes) rfl nd (pi_tupK (K := K) rfl (pe_fld (pv 0) rfl)) (blkOk_by (own := [("letter", 2)]) (N := nCCk) (sc := defScope sCCk) (by decide +kernel)) (fun _ _ _ _ _ => pg_name (i := 2) nd rfl (Or.inl rfl)) (fun _ _ _ _ _ => pts_nil) (fun _ _ _ _ _ => (pe_ix (ix_tupK (K := K) rfl) (pv 2) pe_int (fun _ _ => rfl)))) (by rfl)))))
  pss_any
  pss_nil)), ?_⟩
    obtain ⟨dx, tl, tm, xs, ys, h⟩ := id hc
    have lx := h.xs.len
    rw [List.length_map] at lx
    have lm := ok.ls.len
    obtain ⟨l0, hl0, rfl⟩ := List.mem_map.mp hn
    refine ⟨_, rfl, l0.n, rfl, (ok.ls.ok l0 hl0).n, _, rfl, itbF rfl ?_⟩
    refine ⟨_, rfl, _, rfl, p, CC, dx, _, _, rfl, h.at_, t.cl, t.nL, fc_let, tl, rfl, ⟨_, h.tl.st⟩, fun D nD => ?_⟩
    refine lc_sel (walk_tup (K := K)) (R := fun x (l : CL) => Dv H x (clD l)) (ls := c.ls) (out := fun y (n : Int) => y = V.int n) (a2_of h.xs) nD (fun G s => (h.tl.tu (TU.same s)).st) (by omega) (fun l => some l.n) ?_ ?_
    · rintro x l G2 T S hx hm s3 hT hS'
      obtain ⟨ta, sa, wv, rfl, hta, hsa, hw⟩ := dv_cl hx
      exact ⟨rfl, tyes ⟨_, rfl, ta, _, 0, .int l.n, rfl, rfl, st (s3 _ _ hta), atI_nat (j := 0) rfl, hT _ l.n G2 (fun _ _ h => h) rfl rfl⟩⟩
    · intro G2 acc s3 hacc h4
      rw [h4.vals] at hacc
      have ef : c.ls.filterMap (fun l => some l.n) = c.ls.map (·.n) := by rw [← List.filterMap_eq_map]; rfl
      rw [ef] at hacc
      refine ⟨D, _, rfl, .inl (sq hacc), rfl, flat_ints _, _, rfl, itbF ?_ (q G2 s3)⟩
      show (!inV (V.int l0.n) ((c.ls.map (·.n)).map V.int)) = false
      rw [inV_ints, decide_eq_true hn]; rfl
theorem ok_wt {f : Addr} {fd : FuncData} (t : CcT K mg CC) (M_ck : MDef P w K mg base CX0 3 CC "_check_number" nCDr (spCk K CC)) (D_is_signs : Def P w K mg base CX0 2 "is_signs" pV spSigns) (M_ww : MDef P w K mg base CX0 6 CC "_with_wanted" pCWW (spWW K CC)) (F : Fun K "wanting" "Copy.wanting" sCWt f fd) : FnOk P w K mg base CX0 7 f fd nCWt (spWt K CC) := by
  refine F.ok scCWt (fun vs H Q E h => ?_) (fun cdv A outer s H vs Q E hr h => ?_)
  · obtain ⟨p, n, sa, c, ss, rfl, _⟩ := h
    rfl
  · obtain ⟨p, n, sa, c, ss, rfl, hc, ok, hn, hs, os, q⟩ := h
    refine ⟨_, (pss_cons (ps_expr (pe_mdef M_ck t.cl (hr.mono (by decide)) pass0 (pv 0) (pa_cons (pv 1) pa_nil)))
 (pss_cons (ps_if (pt_not (pt_val (pe_def D_is_signs (hr.mono (by decide)) rfl pass0 (pa_cons (pv 2) pa_nil)))) pss_any pss_nil)
 (pss_one (ps_ret (pe_mdef M_ww t.cl (hr.mono (by decide)) pass0 (pv 0) (pa_cons (pv 1) (pa_cons (pv 2) pa_nil))))))), ?_⟩
    obtain ⟨dx, tl, tm, xs, ys, h⟩ := id hc
    refine ⟨_, rfl, p, dx, _, rfl, h.at_, fc_no (by decide +kernel), _, rfl, p, n, c, rfl, hc, ok, hn, fun H1 s1 => ?_⟩
    refine ⟨_, rfl, sa, ss, rfl, s1 _ _ hs, okss os, fun H2 s2 => ⟨_, rfl, itbF rfl ?_⟩⟩
    have s12 := s1.trans s2
    exact ⟨_, rfl, p, dx, _, rfl, s12 _ _ h.at_, fc_no (by decide +kernel), _, rfl, _, rfl, p, n, .ref sa, c, some ss, rfl, hc.same s12, ok, ⟨sa, rfl, s12 _ _ hs⟩, fun z e => by rw [← Option.some.inj e]; exact os, fun r H3 s3 nr hr3 => q r H3 (s12.trans s3) (s12.free nr) hr3⟩
theorem ok_dr {f : Addr} {fd : FuncData} (t : CcT K mg CC) (M_ck : MDef P w K mg base CX0 3 CC "_check_number" nCDr (spCk K CC)) (M_ww : MDef P w K mg base CX0 6 CC "_with_wanted" pCWW (spWW K CC)) (F : Fun K "dropping" "Copy.dropping" sCDr f fd) : FnOk P w K mg base CX0 7 f fd nCDr (spDr K CC) := by
  refine F.ok scCDr (fun vs H Q E h => ?_) (fun cdv A outer s H vs Q E hr h => ?_)
  · obtain ⟨p, n, c, rfl, _⟩ := h
    rfl
  · obtain ⟨p, n, c, rfl, hc, ok, hn, q⟩ := h
    refine ⟨_, (pss_cons (ps_expr (pe_mdef M_ck t.cl (hr.mono (by decide)) pass0 (pv 0) (pa_cons (pv 1) pa_nil)))
 (pss_one (ps_ret (pe_mdef M_ww t.cl (hr.mono (by decide)) pass0 (pv 0) (pa_cons (pv 1) (pa_cons pe_non pa_nil)))))), ?_⟩
    obtain ⟨dx, tl, tm, xs, ys, h⟩ := id hc
    refine ⟨_, rfl, p, dx, _, rfl, h.at_, fc_no (by decide +kernel), _, rfl, p, n, c, rfl, hc, ok, hn, fun H1 s1 => ?_⟩
    exact ⟨_, rfl, p, dx, _, rfl, s1 _ _ h.at_, fc_no (by decide +kernel), _, rfl, p, n, .non, c, none, rfl, hc.same s1, ok, rfl, fun z e => (by cases e), fun r H3 s3 nr hr3 => q r H3 (s1.trans s3) (s1.free nr) hr3⟩
theorem ok_mkg {f : Addr} {fd : FuncData} (t : CcT K mg CC) (D_new : MkCc P w K mg base CC E0') (D_is_body : Def P w K mg base CX0 2 "is_body" pV spBody) (D_is_signs : Def P w K mg base CX0 2 "is_signs" pV spSigns) (F : Fun K "making" "Copy.making" sCMk f fd) : FnOk P w K mg base CX0 6 f fd nCMk (spMkg K CC) := by
  refine F.ok scCMk (fun vs H Q E h => ?_) (fun cdv A outer s H vs Q E hr h => ?_)
  · obtain ⟨p, b, sa, c, ss, rfl, _⟩ := h
    rfl
  · obtain ⟨p, b, sa, c, ss, rfl, hc, ok, hb, hs, os, hl, q⟩ := h
    refine ⟨_, (pss_cons (ps_if (pt_not (pt_val (pe_def D_is_body (hr.mono (by decide)) rfl pass0 (pa_cons (pv 1) pa_nil)))) pss_any pss_nil)
 (pss_cons (ps_if (pt_not (pt_val (pe_def D_is_signs (hr.mono (by decide)) rfl pass0 (pa_cons (pv 2) pa_nil)))) pss_any pss_nil)
 (pss_one (ps_ret (pe_newC4 D_new t.gC (hr.mono (by decide)) rfl (pa_cons (pe_fld (pv 0) rfl) (pa_cons (pe_fld (pv 0) rfl) (pa_cons (pe_fld (pv 0) rfl) (pa_cons (pe_op (op_catM (K := K) rfl) (pe_fld (pv 0) rfl) (pe_tup (pa_cons (pe_tup (pa_cons (pv 1) (pa_cons (pv 2) pa_nil))) pa_nil))) pa_nil))))))))), ?_⟩
    refine ⟨_, rfl, b, rfl, hb, _, rfl, itbF rfl ?_⟩
    refine ⟨_, rfl, sa, ss, rfl, hs, okss os, fun H1 s1 => ⟨_, rfl, itbF rfl ?_⟩⟩
    obtain ⟨dx, tl, tm, xs, ys, h⟩ := id hc
    have h1 := s1 _ _ h.at_
    have ly := h.ys.len
    rw [List.length_map] at ly
    refine ⟨_, rfl, p, CC, dx, _, _, rfl, h1, t.cl, t.nA, fc_age, _, rfl, p, CC, dx, _, _, rfl, h1, t.cl, t.nM, fc_mark, _, rfl, p, CC, dx, _, _, rfl, h1, t.cl, t.nL, fc_let, _, rfl, p, CC, dx, _, _, rfl, h1, t.cl, t.nD, fc_made, _, rfl, _, rfl, by show 2 ≤ sizeLine; decide, fun U nU => ⟨by show 1 ≤ sizeLine; decide, fun W nW => ?_⟩⟩
    have sU := same_new nU (o := .tup [.int b, .ref sa])
    have sW := same_new nW (o := .tup [.ref U])
    have s3 := (s1.trans sU).trans sW
    refine ⟨tm, W, ys, [.ref U], rfl, rfl, h.tm.tu (TU.same s3), .inl upd_same, by show ys.length + 1 ≤ 2000; omega, fun m H4 s4 hm => ?_⟩
    have s14 := s3.trans s4
    refine newC (K := K) rfl ok.age ok.mr (xs := xs) (ls := c.ls) (h.tl.tu (TU.same s14)).sq (h.xs.same s14) ok.ls (ys := ys ++ [.ref U]) (md := c.md ++ [(b, ss)]) hm.sq ?_ (okCp_M ok hb os hl).md fun x H' s5 nx hx => q x H' (s14.trans s5) (s14.free nx) hx
    · rw [List.map_append]
      exact (h.ys.same s14).app (.cons (md_dv (m := (b, ss)) (s4 _ _ (sW _ _ upd_same)) (s14 _ _ hs)) .nil)
theorem ok_cf {f : Addr} {fd : FuncData} (T : Bk mg) (t : ClT K mg C) (iC : C8.InsC K C) (F : Fun K "_check_folder" "_check_folder" sCf f fd) : FnOk P w K mg base CX0 1 f fd pCo (spCf C) := by
  refine F.ok scCf (fun vs H Q E h => ?_) (fun cdv A outer s H vs Q E hr h => ?_)
  · obtain ⟨p, F, rfl, _⟩ := h
    rfl
  · obtain ⟨p, F, rfl, ⟨dx, tl, tg, hp, _⟩, q⟩ := h
    refine ⟨_, (pss_one (ps_if (pt_not (pt_val (pe_callB (C8.call_isC iC) (by rfl) T.isinstance PyProof.Rows.boot_isinstance (pa_cons (pv 0) (pa_cons (pe_glob (v := .ref C) rfl t.gC rfl) pa_nil))))) pss_any pss_nil)), ?_⟩
    exact ⟨_, rfl, p, dx, _, rfl, hp, _, rfl, itbF rfl q⟩
end
end K1


set_option Elab.async false
set_option linter.all false
set_option maxRecDepth 100000
set_option maxHeartbeats 2000000
namespace K1
open PySem PySem.Spec PyProof.Rows L2 RZ StX
/-! the other readers -/
abbrev sAge : Stmt := mS 2
abbrev sCut : Stmt := mS 7
theorem scAge : FnScope nSelf nSelf (defScope sAge) := ⟨rfl, rfl, rfl, by decide +kernel, rfl, by decide +kernel, by decide +kernel⟩
theorem scCut : FnScope nSelf nSelf (defScope sCut) := ⟨rfl, rfl, rfl, by decide +kernel, rfl, by decide +kernel, by decide +kernel⟩
def spAge (C : Addr) : Sp := fun vs H Q _ => ∃ (p : Addr) (F : Fo), vs = [.ref p] ∧ FoAt C H p F ∧ Q (.int F.age) H
def spCut (C : Addr) : Sp := fun vs H Q _ => ∃ (p : Addr) (F : Fo), vs = [.ref p] ∧ FoAt C H p F ∧ Q (.int F.ct) H
section
variable {P : Program} {w : World} {K : PySem.W.Frag} {mg : Str → Option Value} {base : Heap} {C : Addr}
theorem ok_age {f : Addr} {fd : FuncData} (t : ClT K mg C) (F : Fun K "age" "Folder.age" sAge f fd) : FnOk P w K mg base CX0 1 f fd nSelf (spAge C) := by
  refine F.ok scAge (fun vs H Q E h => ?_) (fun cdv A outer s H vs Q E hr h => ?_)
  · obtain ⟨p, F, rfl, _⟩ := h
    rfl
  · obtain ⟨p, F, rfl, ⟨dx, tl, tg, hp, h1, h2⟩, q⟩ := h
    exact ⟨_, pss_one (ps_ret (pe_fld (pv 0) rfl)), ⟨_, rfl, p, C, dx, _, _, rfl, hp, t.cl, t.nA, fl_age, q⟩⟩
theorem ok_cut {f : Addr} {fd : FuncData} (t : ClT K mg C) (F : Fun K "cut" "Folder.cut" sCut f fd) : FnOk P w K mg base CX0 1 f fd nSelf (spCut C) := by
  refine F.ok scCut (fun vs H Q E h => ?_) (fun cdv A outer s H vs Q E hr h => ?_)
  · obtain ⟨p, F, rfl, _⟩ := h
    rfl
  · obtain ⟨p, F, rfl, ⟨dx, tl, tg, hp, h1, h2⟩, q⟩ := h
    exact ⟨_, pss_one (ps_ret (pe_fld (pv 0) rfl)), ⟨_, rfl, p, C, dx, _, _, rfl, hp, t.cl, t.nC, fl_cut, q⟩⟩
end
end K1


set_option Elab.async false
set_option linter.all false
set_option maxRecDepth 100000
set_option maxHeartbeats 4000000
namespace K1
open PySem PySem.Spec PyProof.Rows L2 RZ StX
section
variable {P : Program} {w : World} {K : PySem.W.Frag} {mg : Str → Option Value} {base : Heap} {C CC E0' : Addr}
set_option maxHeartbeats 8000000 in
theorem ok_co {f : Addr} {fd : FuncData} (T : Bk mg) (t : ClT K mg C) (tc : CcT K mg CC) (D_new : MkCc P w K mg base CC E0') (D_cf : Def P w K mg base CX0 1 "_check_folder" pCo (spCf C)) (M_letters : MDef P w K mg base CX0 1 C "letters" nSelf (spLetters C)) (M_age : MDef P w K mg base CX0 1 C "age" nSelf (spAge C)) (M_mark : MDef P w K mg base CX0 1 C "mark" nSelf (spMark C))
    (F : Fun K "copy_of" "copy_of" sCo f fd) : FnOk P w K mg base CX0 6 f fd pCo (spCo K C CC) := by
  have nd := scCo.nd
  refine F.ok scCo (fun vs H Q E h => ?_) (fun cdv A outer s H vs Q E hr h => ?_)
  · obtain ⟨p, F, k, rfl, _⟩ := h
    rfl
  · obtain ⟨p, F, k, rfl, hF, ga, hk, q⟩ := h
    refine ⟨_, (pss_cons (ps_expr (pe_def D_cf (hr.mono (by decide)) rfl pass0 (pa_cons (pv 0) pa_nil)))
 (pss_cons (ps_setLc (i := 1) (own := [("number", 2), ("body", 3), ("signs", 4), ("_", 5)]) (g := gTup K 4 (gCons (gName 2) (gCons (gName 3) (gCons (gName 4) (gCons (gName 5) gNil))))) (tt := tYes) rfl nd rfl rfl (sw_true rfl rfl rfl (by decide +kernel)) (pi_listK (K := K) rfl (pe_mdef0 M_letters t.cl (hr.mono (by decide)) pass0 (pv 0))) (blkOk_by (own := [("number", 2), ("body", 3), ("signs", 4), ("_", 5)]) (N := nCo) (sc := defScope sCo) (by decide +kernel)) (fun _ _ _ _ _ => pg_tup rfl (pgs_cons (pg_name (i := 2) nd rfl (Or.inl rfl)) (pgs_cons (pg_name (i := 3) nd rfl (Or.inl rfl)) (pgs_cons (pg_name (i := 4) nd rfl (Or.inl rfl)) (pgs_cons (pg_name (i := 5) nd rfl (Or.inl rfl)) pgs_nil))))) (fun _ _ _ _ _ => pts_nil) (fun _ _ _ _ _ => (pe_tup (pa_cons (pv 2) (pa_cons (pv 3) (pa_cons (pv 4) (pa_cons (pv 4) pa_nil)))))))
 (pss_one (ps_ret (pe_newC3 D_new tc.gC (hr.mono (by decide)) rfl (pa_cons (pe_mdef0 M_age t.cl (hr.mono (by decide)) pass0 (pv 0)) (pa_cons (pe_mdef0 M_mark t.cl (hr.mono (by decide)) pass0 (pv 0)) (pa_cons (pv 1) pa_nil)))))))), ?_⟩
    obtain ⟨dx, tl, tg, hp, _⟩ := id hF
    have wl := ga.g.wf.len
    refine ⟨_, rfl, p, F, rfl, hF, ?_⟩
    refine ⟨_, rfl, p, dx, _, rfl, hp, fl_no (by decide +kernel), p, F, rfl, hF, fun l0 G0 s0 nl0 hl => ?_⟩
    obtain ⟨ys, hl0, dys⟩ := Dv.lsts hl
    have ylen := dys.len
    rw [List.length_map] at ylen
    refine ⟨l0, rfl, ⟨_, sq hl0⟩, fun D nD => ?_⟩
    refine lc_tu (walk_list (K := K)) (a2_of dys) nD (fun G s => sq (s _ _ hl0)) (by omega) (fun l => some (clF l)) (fun G x l => Dv G x (clD l)) (fun H G x b t h => h.tu t (tO_cl b)) ?_ ?_
    · rintro x l G T' S' hx hm s1 hT hS
      obtain ⟨ta, sa, rfl, hta, hsa⟩ := dv_lt hx
      refine ⟨ta, _, rfl, st (s1 _ _ hta), rfl, _, _, rfl, _, _, rfl, _, _, rfl, _, _, rfl, rfl, rfl, tyes ⟨_, rfl, _, rfl, _, rfl, _, rfl, by show 4 ≤ sizeLine; decide, fun U nU => ?_⟩⟩
      have sU := same_new nU (o := .tup [.int l.n, .int l.b, .ref sa, .ref sa])
      have hs := (s1.trans sU) _ _ hsa
      exact hT _ (clF l) _ sU rfl (cl_dv (l := clF l) upd_same hs ⟨sa, rfl, hs⟩)
    · intro G acc s1 hacc hA
      have ef : F.ls.filterMap (fun l => some (clF l)) = F.ls.map clF := by rw [← List.filterMap_eq_map]; rfl
      rw [ef] at hA
      have s01 := s0.trans s1
      have hF1 := hF.same s01
      have ok := okCp_F hk ga
      refine name_go' ?_
      refine ⟨_, rfl, p, dx, _, rfl, s01 _ _ hp, fl_no (by decide +kernel), p, F, rfl, hF1, _, rfl, p, dx, _, rfl, s01 _ _ hp, fl_no (by decide +kernel), p, F, rfl, hF1, _, rfl, ?_⟩
      exact newC (K := K) (age := F.age) (mr := F.mr) (la := D) (ma := E0') (ys := []) (md := []) rfl ok.age ok.mr (.inl (.inl hacc)) (of_a2 hA) ok.ls (.inr ⟨rfl, D_new.emp⟩) .nil ok.md fun x H' s2 nx hx => q x H' (s01.trans s2) (s01.free nx) hx
end
end K1


set_option Elab.async false
set_option linter.all false
set_option maxRecDepth 100000
/-! != of two tuples whose items are equal, be it by an own == : False. -/
namespace K1
open PySem PySem.SeqAt PySem.Spec PyProof.Rows L2
open AutoSeq1 (wpAny_loadPart')
open MeetsSeq MeetsSeq2 MeetsSeq3 SeqRoads2
section
variable {prog : Program} {w : World} {A : Around} {R : Result → Shared → Prop}
theorem tuple_neG (l b : Addr) (items items2 : Array Value) (n n2 : Nat) (dd dd2 : Option Addr) (sl sl2 : Array (Option Value)) (hsz : items.size = items2.size) (I : Nat → Shared → Prop)
    (turn : ∀ i (h1 : i < items.size) (h2 : i < items2.size) s, I i s → wpAny (model prog w) A.in1 (eqBool items[i] items2[i]) (fun r s' => r = true ∧ I (i + 1) s') (fun e s' => R (.error e) s') s)
    (fin : ∀ s, I items.size s → R (.ok (.ret (.bool false))) s) {s : Shared} (hl1 : s.heap.get? l = some { cls := .type "tuple", dict := dd, data := .seq items n, slots := sl }) (hb1 : s.heap.get? b = some { cls := .type "tuple", dict := dd2, data := .seq items2 n2, slots := sl2 }) (h : I 0 s) :
    wpAny (model prog w) A.in1 (Builtin.«tuple.__ne__» ⟨[.ref l, .ref b], []⟩) (GQ.FinOf prog w A R) (fun e s' => R (.error e) s') s := by
  have f2 := AutoSeq1.sub_tuple_tuple
  have hZ : (items.toList.zip items2.toList).length = items.size := by simp [hsz]
  have h0 := h
  obtain ⟨hp, g, d, tk, os⟩ := s
  wp_walk using wpAny_loadPart' hl1, wpAny_loadPart' hb1, wpAny_forIn_list _ (fun rest b s' => b.1 = none ∧ ∃ i, rest = (items.toList.zip items2.toList).drop i ∧ i ≤ items.size ∧ I i s') _
  case turn =>
    rintro ⟨y, x⟩ rest b s' ⟨hb', i, hz, hi, hI⟩
    have hlt : i < (items.toList.zip items2.toList).length := by
      rcases Nat.lt_or_ge i (items.toList.zip items2.toList).length with h' | h'
      · exact h'
      · rw [List.drop_of_length_le h'] at hz; cases hz
    have h1 : i < items.size := hZ ▸ hlt
    have h2 : i < items2.size := hsz ▸ h1
    rw [List.drop_eq_getElem_cons hlt] at hz
    injection hz with hyx hrest
    have hy : y = items[i] := by have := congrArg Prod.fst hyx; simpa using this
    have hx : x = items2[i] := by have := congrArg Prod.snd hyx; simpa using this
    subst hy hx
    refine wpAny_bind (wpAny_mono (turn i h1 h2 s' hI) (fun r s2 q2 => ?_) fun _ _ x => x)
    obtain ⟨hr, q2⟩ := q2
    subst hr
    wp_walk
    exact ⟨rfl, i + 1, hrest, h1, q2⟩
  case fin =>
    rintro ⟨b1, b2⟩ s' ⟨hb', i, hz, hi, hI⟩
    simp only at hb'
    subst hb'
    have hge : items.size ≤ i := by
      rcases Nat.lt_or_ge i (items.toList.zip items2.toList).length with h' | h'
      · rw [List.drop_eq_getElem_cons h'] at hz; cases hz
      · exact hZ ▸ h'
    have hi' : i = items.size := by omega
    have hR : R (.ok (.ret (.bool false))) s' := fin s' (hi' ▸ hI)
    wp_walk
    simpa [Builtin.Tuple.tupleCompareSizes, hsz] using hR
  case h =>
    exact ⟨rfl, 0, rfl, Nat.zero_le _, h0⟩
end
section
variable {prog : Program} {w : World} {A : Around} {E : Value → Shared → Prop} {s : Shared}
theorem rc_tupNe {l b : Addr} {items items2 : Array Value} {Q : Value → Shared → Prop} (hsz : items.size = items2.size) (hu : A.units < cLine) (I : Nat → Shared → Prop)
    (hl : s.heap.IsTuple l items) (hb : s.heap.IsTuple b items2)
    (turn : ∀ i (h1 : i < items.size) (h2 : i < items2.size) s, I i s → wpAny (model prog w) A.in1 (eqBool items[i] items2[i]) (fun r s' => r = true ∧ I (i + 1) s') E s)
    (fin : ∀ s, I items.size s → Q (.bool false) s) (h : I 0 s) : wpAny (model prog w) A (richCompare .NotEq (.ref l) (.ref b)) Q E s := by
  obtain ⟨⟨cls, dd, data, sl⟩, ho, hc, n, hd⟩ := id hl
  obtain ⟨⟨cls2, dd2, data2, sl2⟩, ho2, hc2, n2, hd2⟩ := id hb
  simp only at hc hd hc2 hd2
  subst hc hd hc2 hd2
  refine wpAny_richCompare_same_room (op := .NotEq) ⟨_, ho, rfl⟩ ⟨_, ho2, rfl⟩ F.slot_tuple_ne (GQ.call_here F.slot_tuple_ne ⟨_, ho, rfl⟩ F.entry_tuple_ne (F.args_tuple_ne_2 _ _) ?_) hu
  exact tuple_neG (R := wants (fun v s' => v ≠ .notImplemented ∧ Q v s') E) l b items items2 n n2 dd dd2 sl sl2 hsz I turn (fun s' q => ⟨(fun x => nomatch x), fin s' q⟩) ho ho2 h
end
/-- x != y of tuples of equal items: False -/
def rNeT (K : PySem.W.Frag) (D : Eqv) : R2 := fun x y H Q => DTup K D x y H ∧ ∀ H', L2.Ext H H' → Q (.bl false) H'
theorem op_neT {X : Cx} {n : Nat} {D : Eqv} (hD : Mon D) (h : EqG X n D) (hr : Room (n + 1) X.A) : OpR X (compareOp .NotEq) (rNeT X.K D) := by
  intro pins s σ H x y v u Q I rx ry hq
  obtain ⟨⟨a, b, xs, ys, rfl, rfl, ha, hb, p⟩, q⟩ := hq
  cases rx
  cases ry
  show wpAny (model X.prog X.w) X.A (richCompare .NotEq (.ref a) (.ref b)) (EP X pins σ Q) X.xe s
  have sb : Sub X (n + 1) X.A := ⟨hr, rfl⟩
  obtain ⟨its, r, e, z⟩ := I.tuple ha
  obtain ⟨its2, r2, e2, z2⟩ := I.tuple hb
  have hsz : its.toArray.size = its2.toArray.size := by rw [List.size_toArray, List.size_toArray, ← r.length, ← r2.length]; exact p.1
  refine rc_tupNe hsz sb.room.units0 (fun _ s' => LoopI X pins σ H s') e e2 (fun i h1 h2 s' q => turnG hD h sb p r r2 i h1 h2 s' q) (fun s' q' => ?_) ⟨H, I, L2.Ext.rfl'⟩
  obtain ⟨H1, I1, e1⟩ := q'
  exact ⟨.bl false, H1, I1, rfl, q H1 e1⟩
end K1


set_option Elab.async false
set_option linter.all false
set_option maxRecDepth 100000
set_option maxHeartbeats 4000000
namespace K1
open PySem PySem.Spec PyProof.Rows L2 RZ StX
/-- name = {k: v for ..} on one line, the name a local, keys ints or strings -/
theorem ps_setDcK {X : Cx} {i : Nat} {y : Str} {py : Pos} {kx vx tg iter : Expr} {ifs : List Expr} {scope : Scope} {own : List (Str × Nat)} {pos spos : Pos} {wi : TI} {g : TG} {tt : TT} {tk tv : TE} (calm : X.calm = true) (hN : X.N.Nodup) (hy : X.N[i]? = some y) (hyl : X.env.scope.names.lookup y = some .local)
    (hsw : swapsWith (.DictComp kx vx [⟨tg, iter, ifs, 0⟩] scope pos) (some (.Name y py)) spos.line X.env = pure true) (hi : PI X tg iter wi) (ok : BlkOk X.N X.env.scope scope own)
    (hg : ∀ (s : Shared) (G : Hp) (C : Addr) (cl : List (Str × Addr)) (fp : List Addr), PG (X.blk s G scope (compEnvC scope cl C X.env) fp) tg g) (ht : ∀ (s : Shared) (G : Hp) (C : Addr) (cl : List (Str × Addr)) (fp : List Addr), PTs (X.blk s G scope (compEnvC scope cl C X.env) fp) ifs tt)
    (hk : ∀ (s : Shared) (G : Hp) (C : Addr) (cl : List (Str × Addr)) (fp : List Addr), PE (X.blk s G scope (compEnvC scope cl C X.env) fp) kx tk) (hv : ∀ (s : Shared) (G : Hp) (C : Addr) (cl : List (Str × Addr)) (fp : List Addr), PE (X.blk s G scope (compEnvC scope cl C X.env) fp) vx tv)
    (hs : ∀ x, foldedSetIterable iter X.env x = pure x := by intro _; rfl) : PS X (.Assign [.Name y py] (.DictComp kx vx [⟨tg, iter, ifs, 0⟩] scope pos) spos) (tAsg (tDc wi g tt tk tv (own.map (·.2))) (gName i)) := by
  refine ⟨fun pins s σ H D I h => ?_⟩
  rw [exec_Assign_Name_used _ _ _ _ hsw]
  refine wpAny_bind (wpAny_standAt (wpAny_bind ?_)); show wpAny _ X.A (do let _ ← comprehension (.DictComp kx vx [⟨tg, iter, ifs, 0⟩] scope pos) scope X.env (firstIterPos [⟨tg, iter, ifs, 0⟩] pos) newDict false (eval iter X.env) (some (assign (.Name y py) X.env))) _ _ s
  have h : tDc wi g tt tk tv (own.map (·.2)) σ H (fun x G => gName i x σ G D.nx) := h
  refine wpAny_bind (thn (dc_core (Qf := fun _ s' => SP X pins D .next s') calm hN I hi ok hg ht hk hv hs h fun L C s' m G I' q hn ⟨k0, k1, k2, k3, k4, k5⟩ => ?_) fun _ s' z => wpAny_pure (wpAny_pure z))
  show wpAny _ _ (assign (.Name y py) X.env (.ref L)) _ _ _; refine wpAny_assign_Name (store_ok2 (v := V.ref L) I' hN hy (.inl hyl) rfl (fun s2 I2 ⟨a, sb, ha⟩ => ?_) (.inr hyl))
  have apart : C ≠ a := ha.elim (fun z => by rw [z]; exact k1) fun z e => k4 y a z e.symm
  exact ⟨m, hn.sameBut sb apart, fun h3 sb3 => ⟨_, G, I2.turned (t' := s2.toks) (fun b o hb z => (sb3.2 b hb).trans z) k0 k1 k3 k4 k5, q⟩⟩
theorem sw_trueD {kx vx : Expr} {gs : List Comprehension} {scope : Scope} {pos py : Pos} {y : Str} {l : Nat} {env : Env} (hk : env.scope.kind = .function) (hy : env.scope.names.lookup y = some .local) (hl : (py.line == pos.line) = true)
    (ha : (scope.names.any fun (n, k) => n == y && (k == .local || k == .cell)) = false) : swapsWith (.DictComp kx vx gs scope pos) (some (.Name y py)) l env = pure true := by
  have e1 : env.kindOf y = some .local := hy
  have e2 : env.blockKind = .function := by unfold Env.blockKind; rw [hk]; rfl
  unfold swapsWith
  simp only [e2, e1, ha, Expr.pos, hl]; rfl
end K1


set_option Elab.async false
set_option linter.all false
set_option maxRecDepth 100000
set_option maxHeartbeats 4000000
/-! What k33's texts have for every law with copies. -/
namespace K1
open PySem PySem.Spec PyProof.Rows L2 RZ StX
/-- tuples and instances stay -/
structure TI (H G : Hp) : Prop where
  t : TU H G
  i : ∀ b C dx fs, H b = some (.ins C dx fs) → G b = some (.ins C dx fs)
theorem TI.same {H G : Hp} (s : Same H G) : TI H G := ⟨TU.same s, fun b C dx fs h => s _ _ h⟩
theorem TI.en {H G : Hp} (s : LamX.ExtN H G) : TI H G := ⟨TU.ext s, fun b C dx fs h => s _ _ h fun _ z => by cases z⟩
theorem TI.trans {H G J : Hp} (a : TI H G) (b : TI G J) : TI H J := ⟨a.t.trans b.t, fun c C dx fs h => b.i _ _ _ _ (a.i _ _ _ _ h)⟩
theorem TI.w {p : Addr} {H G : Hp} (w : WellAt H p) (e : Ext p H G) : TI H G := ⟨TU.w w e, fun b C dx fs h => e _ _ (fun z => by
  obtain ⟨c, m, t, k⟩ := w
  rw [z, k] at h; cases h) h⟩
theorem TI.mut {H : Hp} {D : Addr} {o u : HO} (hD : H D = some o) (h1 : ∀ xs, o ≠ .tup xs) (h2 : ∀ C dx fs, o ≠ .ins C dx fs) : TI H (upd H D u) :=
  ⟨TU.mut hD h1, fun b C dx fs h => by rw [upd_ne (fun z => by rw [z, hD] at h; exact h2 _ _ _ (Option.some.inj h))]; exact h⟩
theorem CpAt.ti {K : PySem.W.Frag} {CC p : Addr} {H H' : Hp} {c : Cp} (h : CpAt K CC H p c) (s : TI H H') : CpAt K CC H' p c := by
  obtain ⟨dx, tl, tm, xs, ys, h⟩ := h
  exact ⟨dx, tl, tm, xs, ys, s.i _ _ _ _ h.at_, h.tl.tu s.t, h.xs.tu s.t (tO_cls _), h.tm.tu s.t, h.ys.tu s.t (tO_mds _)⟩
theorem FoAt.ti {C p : Addr} {H H' : Hp} {F : Fo} (h : FoAt C H p F) (s : TI H H') : FoAt C H' p F := by
  obtain ⟨dx, tl, tg, a, b, c⟩ := h
  exact ⟨dx, tl, tg, s.i _ _ _ _ a, b.tu s.t (tO_lts _), c.tu s.t (tO_gos _)⟩
/-- all but three things stay -/
def EX3 (p D L : Addr) (H G : Hp) : Prop := ∀ b o, b ≠ p → b ≠ D → b ≠ L → H b = some o → G b = some o
theorem EX3.refl {p D L : Addr} {H : Hp} : EX3 p D L H H := fun _ _ _ _ _ h => h
theorem EX3.same {p D L : Addr} {H G J : Hp} (a : EX3 p D L H G) (s : Same G J) : EX3 p D L H J := fun b o n1 n2 n3 h => s _ _ (a b o n1 n2 n3 h)
theorem EX3.w {p D L : Addr} {H G J : Hp} (a : EX3 p D L H G) (s : Ext p G J) : EX3 p D L H J := fun b o n1 n2 n3 h => s _ _ n1 (a b o n1 n2 n3 h)
theorem EX3.mutD {p D L : Addr} {H G : Hp} {u : HO} (a : EX3 p D L H G) : EX3 p D L H (upd G D u) := fun b o n1 n2 n3 h => by rw [upd_ne n2]; exact a b o n1 n2 n3 h
theorem EX3.mutL {p D L : Addr} {H G : Hp} {u : HO} (a : EX3 p D L H G) : EX3 p D L H (upd G L u) := fun b o n1 n2 n3 h => by rw [upd_ne n3]; exact a b o n1 n2 n3 h
/-- the three things are a well, a dict and a list -/
structure Th3 (p D L : Addr) (H : Hp) : Prop where
  p : WellAt H p
  D : ∃ kvs, H D = some (.dK kvs)
  L : ∃ ys, H L = some (.lst ys)
theorem EX3.ti {p D L : Addr} {H G : Hp} (a : EX3 p D L H G) (t : Th3 p D L H) : TI H G := by
  obtain ⟨⟨c, m, tt, hp⟩, ⟨kvs, hD⟩, ⟨ys, hL⟩⟩ := t
  refine ⟨fun b xs h => a _ _ (fun z => ?_) (fun z => ?_) (fun z => ?_) h, fun b C dx fs h => a _ _ (fun z => ?_) (fun z => ?_) (fun z => ?_) h⟩
  · rw [z, hp] at h; cases h
  · rw [z, hD] at h; cases h
  · rw [z, hL] at h; cases h
  · rw [z, hp] at h; cases h
  · rw [z, hD] at h; cases h
  · rw [z, hL] at h; cases h
theorem EX3.tabs {p D L : Addr} {H G : Hp} {T : List (Addr × Str)} (a : EX3 p D L H G) (t : Th3 p D L H) (h : LamX.Tabs T H) : LamX.Tabs T G := fun x hx => by
  obtain ⟨⟨c, m, tt, hp⟩, ⟨kvs, hD⟩, ⟨ys, hL⟩⟩ := t
  obtain ⟨ps, h1, h2, h3⟩ := h x hx
  refine ⟨ps, a _ _ (fun z => by rw [z, hp] at h1; cases h1) (fun z => by rw [z, hD] at h1; cases h1) (fun z => by rw [z, hL] at h1; cases h1) h1, h2, fun pos cv hc => ?_⟩
  obtain ⟨c', g1, g2⟩ := h3 pos cv hc
  exact ⟨c', g1, a _ _ (fun z => by rw [z, hp] at g2; cases g2) (fun z => by rw [z, hD] at g2; cases g2) (fun z => by rw [z, hL] at g2; cases g2) g2⟩
/-! ### dicts whose keys are numbers -/
abbrev KVs := List (Int × V)
def dkv (m : KVs) : List (L2.Key × V) := m.map fun x => (Sum.inl x.1, x.2)
def lookN (m : KVs) (n : Int) : Option V := (m.find? fun x => decide (x.1 = n)).map (·.2)
theorem dkv_val (n : Int) : ∀ m : KVs, valV (dkv m) (Sum.inl n) = lookN m n
  | [] => rfl
  | x :: r => by
    have ih := dkv_val n r
    unfold lookN at ih ⊢
    show valV ((Sum.inl x.1, x.2) :: dkv r) (Sum.inl n) = _
    by_cases c : x.1 = n
    · rw [valV_pos (by rw [c]), List.find?_cons_of_pos (by exact decide_eq_true c)]; rfl
    · rw [valV_neg (fun z => c (Sum.inl.inj z)), List.find?_cons_of_neg (by simp [c])]; exact ih
def putN (m : KVs) (n : Int) (v : V) : KVs := m.map fun x => if x.1 = n then (x.1, v) else x
theorem dkv_put {m : KVs} {n : Int} (v : V) (h : n ∈ m.map (·.1)) : putK (dkv m) (Sum.inl n) v = dkv (putN m n v) := by
  have e : ((dkv m).any fun kv => decide (kv.1 = Sum.inl n)) = true := by
    obtain ⟨x, hx, rfl⟩ := List.mem_map.mp h
    exact List.any_eq_true.mpr ⟨(Sum.inl x.1, x.2), List.mem_map.mpr ⟨x, hx, rfl⟩, decide_eq_true rfl⟩
  unfold putK
  rw [if_pos e]
  unfold dkv putN
  rw [List.map_map, List.map_map]
  refine List.map_congr_left fun x _ => ?_
  by_cases c : x.1 = n
  · simp [c]
  · simp [c]
theorem mergeN : ∀ (ms acc : KVs), ((acc ++ ms).map (·.1)).Nodup → mergeK (dkv acc) (dkv ms) = dkv (acc ++ ms)
  | [], acc, _ => by rw [List.append_nil]; rfl
  | m :: r, acc, h => by
    show mergeK (putK (dkv acc) (Sum.inl m.1) m.2) (dkv r) = _
    have e : putK (dkv acc) (Sum.inl m.1) m.2 = dkv (acc ++ [m]) := by
      unfold putK
      rw [if_neg]
      · unfold dkv; rw [List.map_append]; rfl
      intro z
      obtain ⟨x, hx, hx2⟩ := List.any_eq_true.mp z
      obtain ⟨y, hy, rfl⟩ := List.mem_map.mp hx
      rw [List.map_append, List.nodup_append] at h
      exact h.2.2 y.1 (List.mem_map.mpr ⟨y, hy, rfl⟩) m.1 (by rw [List.map_cons]; exact List.mem_cons_self) (Sum.inl.inj (of_decide_eq_true hx2))
    rw [e, mergeN r (acc ++ [m]) (by rw [List.append_assoc]; exact h), List.append_assoc]; rfl
/-- a tuple of a number and a value -/
def KR (G : Hp) (x : V) (kv : Int × V) : Prop := ∃ t, x = V.ref t ∧ G t = some (.tup [.int kv.1, kv.2])
theorem KR.tu {G G' : Hp} {x : V} {kv : Int × V} (h : KR G x kv) (t : TU G G') : KR G' x kv := let ⟨a, e, k⟩ := h; ⟨a, e, t _ _ k⟩
def rDict : List V → Hp → VK → Prop := fun xs H Q => ∃ (a : Addr) (ys : List V) (ms : KVs), xs = [.ref a] ∧ H a = some (.lst ys) ∧ A2 (KR H) ys ms ∧ (ms.map (·.1)).Nodup ∧ ∀ p, H p = none → Q (.ref p) (upd H p (.dK (dkv ms)))
theorem kr_pair {K : PySem.W.Frag} {H : Hp} : ∀ {ys : List V} {ms : KVs}, A2 (KR H) ys ms → ∃ ps : List Addr, ys = ps.map V.ref ∧ Paired (fun p (kv : L2.Key × V) => SqT K H p [kV kv.1, kv.2]) ps (dkv ms)
  | _, _, .nil => ⟨[], rfl, .nil⟩
  | _, _, .cons ⟨t, e, h⟩ r => by
    obtain ⟨ps, e2, hp⟩ := kr_pair (K := K) r
    exact ⟨t :: ps, by rw [e, e2]; rfl, .cons (st h) hp⟩
theorem cr_dict {X : Cx} (hc : X.calm = true) : CallR X (.type "dict") rDict := by
  intro pins s σ H xs us Q I r ⟨a, ys, ms, e, ha, hA, hn, q⟩
  obtain ⟨ps, e2, hp⟩ := kr_pair (K := X.K) hA
  refine call_dictP hc pins s σ H xs us Q I r ⟨a, ps, dkv ms, e, by rw [← e2]; exact sq ha, hp, fun p np => ?_⟩
  have := mergeN ms [] hn
  rw [show mergeK [] (dkv ms) = dkv ms from this]
  exact q p np
theorem lookN_get {m : KVs} (hn : (m.map (·.1)).Nodup) {i : Nat} {n : Int} {v : V} (h : m[i]? = some (n, v)) : lookN m n = some v := by
  induction m generalizing i with
  | nil => simp at h
  | cons x r ih =>
    rw [List.map_cons, List.nodup_cons] at hn
    unfold lookN
    cases i with
    | zero =>
      rw [List.getElem?_cons_zero] at h
      rw [Option.some.inj h, List.find?_cons_of_pos (by simp)]; rfl
    | succ j =>
      rw [List.getElem?_cons_succ] at h
      have hm : n ∈ r.map (·.1) := List.mem_map.mpr ⟨(n, v), List.mem_of_getElem? h, rfl⟩
      rw [List.find?_cons_of_neg (by simp; exact fun e => hn.1 (e ▸ hm))]
      exact ih hn.2 h
theorem CpAt.ex {K : PySem.W.Frag} {CC p : Addr} {H H' : Hp} {c : Cp} (h : CpAt K CC H p c) (s : L2.Ext H H') : CpAt K CC H' p c := h.same fun b o hb => s b o hb
theorem two_eq {K : PySem.W.Frag} {CC a b : Addr} {c d : Cp} {H : Hp} (h1 : CpAt K CC H a c) (h2 : CpAt K CC H b d) (o1 : OkCp c) (o2 : OkCp d) : TwoI CC (CpEq K CC) (.ref a) (.ref b) (decide (c = d)) H := by
  obtain ⟨dx, fs, e1⟩ := h1.ins
  obtain ⟨dy, gs, e2⟩ := h2.ins
  exact ⟨a, b, dx, dy, fs, gs, rfl, rfl, e1, e2, c, d, h1, h2, o1.ls.ok, o2.ls.ok, o1.md.ok, o2.md.ok, rfl⟩
theorem eq_cp {K : PySem.W.Frag} {CC a b : Addr} {c d : Cp} {H : Hp} {Q : VK} (h1 : CpAt K CC H a c) (h2 : CpAt K CC H b d) (o1 : OkCp c) (o2 : OkCp d) (q : ∀ H', Same H H' → Q (.bl (decide (c = d))) H') : rEqI CC (CpEq K CC) (.ref a) (.ref b) H Q :=
  ⟨_, two_eq h1 h2 o1 o2, fun H' s => q H' fun b o hb => s b o hb⟩
theorem ne_cp {K : PySem.W.Frag} {CC a b : Addr} {c d : Cp} {H : Hp} {Q : VK} (h1 : CpAt K CC H a c) (h2 : CpAt K CC H b d) (o1 : OkCp c) (o2 : OkCp d) (q : ∀ H', Same H H' → Q (.bl !decide (c = d)) H') : rNeI CC (CpEq K CC) (.ref a) (.ref b) H Q :=
  ⟨_, two_eq h1 h2 o1 o2, fun H' s => q H' fun b o hb => s b o hb⟩
theorem eqv_same' {k : Nat} {d : PyData} (h : LayD k d) (e : k ≤ 64 := by decide) : PyData.eqv d d = true := SeqAt.eqv_refl _ (SeqAt.canLay_of_shaped (h.sh e))
theorem ne_same {K : PySem.W.Frag} {H : Hp} {x y : V} {d : PyData} {k : Nat} {Q : VK} (l : LayD k d) (h1 : Dv H x d) (h2 : Dv H y d) (q : Q (.bl false) H) (e : k ≤ 64 := by decide) : rNeD K x y H Q :=
  ⟨d, d, h1.dp l.nd, h2.dp l.nd, l.sh e, l.sh e, by rw [eqv_same' l e]; exact q⟩
def NT (H : Hp) (D : Addr) : Prop := ∀ o, H D = some o → ∃ ps, o = .tbl ps
theorem NT.of {p D : Addr} {H G : Hp} (e : ENL p H G) (n : G D = none) (w : WellAt G p) : NT H D := fun o h => by
  cases o with
  | tbl ps => exact ⟨ps, rfl⟩
  | _ => exact absurd (e D _ (fun z => by obtain ⟨c, m, t, k⟩ := w; rw [z, k] at n; cases n) (fun _ z => by cases z) h) (by rw [n]; exact fun z => by cases z)
theorem pt_weak {X : Cx} {e : Expr} {t t' : TT} (h : PT X e t) (k : ∀ σ H Q, t' σ H Q → t σ H Q) : PT X e t' := ⟨fun pins s σ H Q I q => h.run pins s σ H Q I (k σ H Q q)⟩
theorem fm_map {α β : Type} (f : α → β) (ls : List α) : ls.filterMap (fun l => some (f l)) = ls.map f := by rw [← List.filterMap_eq_map]; rfl
theorem CpAt.no {K : PySem.W.Frag} {CC p : Addr} {H : Hp} {c : Cp} (h : CpAt K CC H p c) : ∃ dx fs, H p = some (.ins CC dx fs) ∧ ∀ {z : Str}, (["_age", "_mark", "_letters", "_made"] : List Str).all (fun y => !(z == y)) = true → fs.lookup z = none := by
  obtain ⟨dx, tl, tm, xs, ys, k⟩ := h
  exact ⟨dx, _, k.at_, fc_no⟩
theorem sl_listK {X : Cx} {K : PySem.W.Frag} (h : X.K = K) : SlR X (rSlL K) := by subst h; exact sl_list
theorem cut_m1 (xs : List V) : cutV xs none (some (-1)) = xs.dropLast := by
  unfold cutV
  have c1 : HT.sIx xs.length 0 none = 0 := rfl
  have c2 : HT.sIx xs.length xs.length (some (-1)) = xs.length - 1 := by
    show (if (-1 : Int) < 0 then ((-1 : Int) + (xs.length : Int)).toNat else min (-1 : Int).toNat xs.length) = _
    rw [if_pos (by decide)]; omega
  rw [c1, c2, List.drop_zero, Nat.sub_zero, List.dropLast_eq_take]
theorem take_sub {α : Type} {xs : List α} {i : Nat} {x : α} (h : xs[i]? = some x) : xs = xs.take i ++ x :: xs.drop (i + 1) := by
  have hi := lt_of_get h
  have e : xs.drop i = x :: xs.drop (i + 1) := by
    rw [List.getElem?_eq_getElem hi] at h
    rw [← Option.some.inj h]
    exact List.drop_eq_getElem_cons hi
  rw [← e, List.take_append_drop]
theorem DvA.take {H : Hp} {α : Type} {f : α → PyData} : ∀ {xs : List V} {ls : List α} (n : Nat), DvA H xs (ls.map f) → DvA H (xs.take n) ((ls.take n).map f)
  | _, [], 0, .nil => .nil
  | _, _ :: _, 0, .cons _ _ => .nil
  | _, [], _ + 1, .nil => .nil
  | _, _ :: _, n + 1, .cons h r => .cons h (r.take n)
theorem DvA.drop {H : Hp} {α : Type} {f : α → PyData} : ∀ {xs : List V} {ls : List α} (n : Nat), DvA H xs (ls.map f) → DvA H (xs.drop n) ((ls.drop n).map f)
  | _, [], 0, .nil => .nil
  | _, _ :: _, 0, .cons h r => .cons h r
  | _, [], _ + 1, .nil => .nil
  | _, _ :: _, n + 1, .cons h r => r.drop n
theorem DvA.appM {H : Hp} {α : Type} {f : α → PyData} {xs ys : List V} {ls ms : List α} (h : DvA H xs (ls.map f)) (k : DvA H ys (ms.map f)) : DvA H (xs ++ ys) ((ls ++ ms).map f) := by rw [List.map_append]; exact h.app k
theorem dva_snoc {H : Hp} {α : Type} {f : α → PyData} {ys : List V} {ms : List α} {m : α} (h : DvA H ys ((ms ++ [m]).map f)) : ∃ ys0 y, ys = ys0 ++ [y] ∧ DvA H ys0 (ms.map f) ∧ Dv H y (f m) := by
  have t1 := DvA.take ms.length h
  have t2 := DvA.drop ms.length h
  rw [List.take_left' rfl] at t1
  rw [List.drop_left' rfl] at t2
  cases hz : ys.drop ms.length with
  | nil => rw [hz] at t2; cases t2
  | cons y r =>
    rw [hz] at t2
    cases t2 with
    | cons h r' =>
      cases r'
      exact ⟨ys.take ms.length, y, by rw [← hz, List.take_append_drop], t1, h⟩
theorem ne_of_none' {H : Hp} {a b : Addr} {o : HO} (h : H a = some o) (n : H b = none) : b ≠ a := fun e => by rw [e, h] at n; cases n
theorem dc_it {J : It} {n : Nat} {Gd : Hp → Prop} {Y : Nat → Hp → V → Hp → Prop} (w : Walk J n Gd Y) {g : TG} {tt : TT} {tk tv : TE} {vs : List Nat} {σ : L2.St} {H1 : Hp} {D : Addr} {Qd : Hp → Prop} (Pv : Nat → Hp → Prop) (h0 : Pv 0 (upd H1 D (.dK []))) (hG : ∀ i H, i ≤ n → Pv i H → Gd H)
    (hs : ∀ i x H H', i < n → Pv i H → Y i H x H' → g x (wipe σ vs) H' fun σ2 H2 => wipe σ2 vs = wipe σ vs ∧ tt σ2 H2 fun b H3 =>
      if b = true then tk σ2 H3 fun y H4 => tv σ2 H4 fun z H5 => ∃ kvs k, y = kV k ∧ H5 D = some (.dK kvs) ∧ kvs.length < sizeLine ∧ Pv (i + 1) (upd H5 D (.dK (putK kvs k z))) else Pv (i + 1) H3) (hd : ∀ H, Pv n H → Qd H) :
    ∃ W : Nat → Nat → Hp → Prop, (∃ m, W 0 m (upd H1 D (.dK []))) ∧ ∀ i m H, W i m H →
      (J.stop i H ∧ Qd H) ∨ (J.go i H ∧ ∃ Nx : Hp → Prop, (∀ H', Nx H' → ∃ m', m' < m ∧ W (i + 1) m' H') ∧ ∀ x H', J.yld i H x H' → g x (wipe σ vs) H' fun σ2 H2 => wipe σ2 vs = wipe σ vs ∧ tt σ2 H2 fun b H3 =>
        if b = true then tk σ2 H3 fun y H4 => tv σ2 H4 fun z H5 => ∃ kvs k, y = kV k ∧ H5 D = some (.dK kvs) ∧ kvs.length < sizeLine ∧ Nx (upd H5 D (.dK (putK kvs k z))) else Nx H3) := by
  refine ⟨fun i m H => m = n - i ∧ i ≤ n ∧ Pv i H, ⟨n, by simp, Nat.zero_le _, h0⟩, ?_⟩
  rintro i m H ⟨rfl, hi, p⟩
  have q := hG i H hi p
  by_cases hlt : i < n
  · exact .inr ⟨w.goes i H hlt q, Pv (i + 1), fun H' p' => ⟨n - (i + 1), by omega, rfl, hlt, p'⟩, fun x H' y => hs i x H H' hlt p (w.yields i H x H' hlt q y)⟩
  · have e : i = n := by omega
    subst e
    exact .inl ⟨w.stops H q, hd H p⟩
end K1


set_option Elab.async false
set_option linter.all false
set_option maxRecDepth 100000
set_option maxHeartbeats 1000000
/-! What a copy sends, and what its being sent does: the mathematics. -/
namespace K1
open PySem PySem.Spec PyProof.Rows L2 RZ StX
theorem nodup_len {α : Type} [DecidableEq α] : ∀ {l m : List α}, l.Nodup → (∀ x ∈ l, x ∈ m) → l.length ≤ m.length
  | [], m, _, _ => Nat.zero_le _
  | x :: r, m, h, s => by
    rw [List.nodup_cons] at h
    have hx := s x List.mem_cons_self
    have ih := nodup_len (l := r) (m := m.erase x) h.2 fun y hy => (List.mem_erase_of_ne (fun e : y = x => h.1 (by rw [← e]; exact hy))).mpr (s y (List.mem_cons_of_mem _ hy))
    rw [List.length_erase_of_mem hx] at ih
    have : 0 < m.length := List.length_pos_of_mem hx
    rw [List.length_cons]; omega
theorem asc_nodup {ss : List Str} (h : Asc ss) : ss.Nodup := h.imp fun {a b} k e => by subst e; exact ltS_asymm k k
theorem w4_len {ss : List Str} (h : OkSs ss) (z : W4 ss) : ss.length ≤ 6 := nodup_len (asc_nodup h.asc) z
theorem w4_len' {ss : List Str} {y : Str} (h : OkSs ss) (z : W4 ss) (hy : y ∈ w6) (n : y ∉ ss) : ss.length ≤ 5 := by
  have := nodup_len (l := y :: ss) (m := w6) (List.nodup_cons.mpr ⟨n, asc_nodup h.asc⟩) fun x hx => (List.mem_cons.mp hx).elim (fun e => by rw [e]; exact hy) (z x)
  rw [List.length_cons] at this
  have : w6.length = 6 := rfl
  omega
def sgN (F : Fo) (n : Int) : Option (List Str) := (F.ls.find? fun l => decide (l.n = n)).map (·.s)
def addZ (b t w : List Str) : List Str := w.filter fun z => !decide (z ∈ b) && !decide (z ∈ t)
def takeZ (b t w : List Str) : List Str := b.filter fun z => !decide (z ∈ w) && decide (z ∈ t)
def chgD (n : Int) (b t w : List Str) : List Dd := (addZ b t w).map (fun z => Dd.add [n] z) ++ (takeZ b t w).map (fun z => Dd.take [n] z)
def chg1 (F : Fo) (l : CL) : List Dd := match sgN F l.n, l.w with
  | some t, some w => chgD l.n l.s t w
  | _, _ => []
def rem1 (F : Fo) (l : CL) : List Dd := match sgN F l.n, l.w with
  | some _, none => [.rem [l.n]]
  | _, _ => []
def madeD (c : Cp) : List Dd := c.md.map fun m => Dd.app m.1 m.2
def sentM (c : Cp) (F : Fo) : List Dd := (if c.age = F.age then c.ls.flatMap (chg1 F) ++ c.ls.flatMap (rem1 F) else []) ++ madeD c
def lost1 (c : Cp) (F : Fo) (l : CL) : Bool := decide (l.w ≠ some l.s) && !(decide (c.age = F.age) && (sgN F l.n).isSome)
def lostM (c : Cp) (F : Fo) : List Int := (c.ls.filter (lost1 c F)).map (·.n)
def stepM (c : Cp) (F : Fo) : Fo := doesL (sentM c F) F
theorem sgN_some {F : Fo} {n : Int} {t : List Str} (h : sgN F n = some t) : ∃ l ∈ F.ls, l.n = n ∧ l.s = t := by
  unfold sgN at h
  cases e : F.ls.find? fun l => decide (l.n = n) with
  | none => rw [e] at h; cases h
  | some l =>
    rw [e] at h
    have := List.find?_some e
    exact ⟨l, List.mem_of_find?_eq_some e, of_decide_eq_true this, Option.some.inj h⟩
/-! ### marks -/
theorem sigL_le (ns : List Int) (g : List Str → List Str) : ∀ (ls : List Lt) (m : Int), m ≤ (sigL ns g ls m).2
  | [], m => Int.le_refl _
  | l :: r, m => by
    unfold sigL
    split
    · exact sigL_le ns g r m
    · have := sigL_le ns g r (m + 1); show m ≤ (sigL ns g r (m + 1)).2; omega
theorem sigL_lt (ns : List Int) (g : List Str → List Str) : ∀ (ls : List Lt) (m : Int), (∃ l ∈ ls, newS ns g l ≠ l.s) → m < (sigL ns g ls m).2
  | [], m, ⟨l, hl, _⟩ => by cases hl
  | l :: r, m, ⟨x, hx, h⟩ => by
    unfold sigL
    split
    · rename_i c
      refine sigL_lt ns g r m ⟨x, (List.mem_cons.mp hx).resolve_left fun e => h (by rw [e]; exact c), h⟩
    · have := sigL_le ns g r (m + 1); show m < (sigL ns g r (m + 1)).2; omega
theorem remL_le (ns : List Int) : ∀ (ls : List Lt) (m : Int), m ≤ (remL ns ls m).2.2
  | [], m => Int.le_refl _
  | l :: r, m => by
    unfold remL
    split
    · have := remL_le ns r (m + 1); show m ≤ (remL ns r (m + 1)).2.2; omega
    · exact remL_le ns r m
theorem remL_lt (ns : List Int) : ∀ (ls : List Lt) (m : Int), (∃ l ∈ ls, l.n ∈ ns) → m < (remL ns ls m).2.2
  | [], m, ⟨l, hl, _⟩ => by cases hl
  | l :: r, m, ⟨x, hx, h⟩ => by
    unfold remL
    split
    · have := remL_le ns r (m + 1); show m < (remL ns r (m + 1)).2.2; omega
    · rename_i c
      exact remL_lt ns r m ⟨x, (List.mem_cons.mp hx).resolve_left fun e => c (by rw [← e]; exact h), h⟩
theorem does_mr (F : Fo) : ∀ d : Dd, F.mr ≤ (does d F).mr
  | .app b ss => by show F.mr ≤ F.mr + 1; omega
  | .add ns z => sigL_le _ _ _ _
  | .take ns z => sigL_le _ _ _ _
  | .set ns zs => sigL_le _ _ _ _
  | .rem ns => remL_le _ _ _
  | .trim m => Int.le_refl _
theorem does_age (F : Fo) : ∀ d : Dd, (does d F).age = F.age
  | .app b ss => rfl
  | .add ns z => rfl
  | .take ns z => rfl
  | .set ns zs => rfl
  | .rem ns => rfl
  | .trim m => rfl
theorem doesL_mr : ∀ (ds : List Dd) (F : Fo), F.mr ≤ (doesL ds F).mr
  | [], F => Int.le_refl _
  | d :: r, F => Int.le_trans (does_mr F d) (doesL_mr r (does d F))
theorem doesL_age : ∀ (ds : List Dd) (F : Fo), (doesL ds F).age = F.age
  | [], F => rfl
  | d :: r, F => (doesL_age r (does d F)).trans (does_age F d)
theorem step_age (c : Cp) (F : Fo) : (stepM c F).age = F.age := doesL_age _ _
theorem step_mr (c : Cp) (F : Fo) : F.mr ≤ (stepM c F).mr := doesL_mr _ _
theorem insS_len (s : Str) (ss : List Str) : (insS s ss).length = ss.length + 1 := (insS_perm s ss).length_eq
structure CW4 (c : Cp) : Prop where
  s : ∀ l ∈ c.ls, W4 l.s
  w : ∀ l ∈ c.ls, ∀ ss, l.w = some ss → W4 ss
  m : ∀ m ∈ c.md, W4 m.2
theorem sent_eff {k : Nat} {c : Cp} {F : Fo} (g : GA k F) (cw : CW4 c) {d : Dd} (hd : d ∈ sentM c F) : F.mr < (does d F).mr := by
  unfold sentM at hd
  rcases List.mem_append.mp hd with hd | hd
  · split at hd
    · rcases List.mem_append.mp hd with hd | hd
      · obtain ⟨l, hl, hd⟩ := List.mem_flatMap.mp hd
        unfold chg1 at hd
        split at hd
        · rename_i t w e1 e2
          obtain ⟨x, hx, hn, hs⟩ := sgN_some e1
          rcases List.mem_append.mp hd with hd | hd
          · obtain ⟨z, hz, rfl⟩ := List.mem_map.mp hd
            have zw6 := cw.w l hl w e2 z (List.mem_filter.mp hz).1
            have hz := (List.mem_filter.mp hz).2
            refine sigL_lt _ _ _ _ ⟨x, hx, ?_⟩
            have zt : z ∉ t := by
              intro h; rw [decide_eq_true h] at hz; simp at hz
            unfold newS
            rw [if_pos (by rw [hn]; exact List.mem_singleton.mpr rfl), hs]
            have l4 := w4_len' (g.g.wf.sg x hx) (g.z x hx) zw6 (by rw [hs]; exact zt)
            rw [hs] at l4
            show wG t z ≠ t
            unfold wG
            rw [if_neg (by rintro (h | h); exact zt h; omega)]
            intro e
            have := congrArg List.length e
            rw [insS_len] at this
            omega
          · obtain ⟨z, hz, rfl⟩ := List.mem_map.mp hd
            have hz := (List.mem_filter.mp hz).2
            refine sigL_lt _ _ _ _ ⟨x, hx, ?_⟩
            have zt : z ∈ t := by
              by_cases h : z ∈ t
              · exact h
              · rw [decide_eq_false h] at hz; simp at hz
            unfold newS
            rw [if_pos (by rw [hn]; exact List.mem_singleton.mpr rfl), hs]
            intro e
            rw [← e] at zt
            have := (List.mem_filter.mp zt).2
            rw [decide_eq_true rfl] at this
            cases this
        · cases hd
      · obtain ⟨l, hl, hd⟩ := List.mem_flatMap.mp hd
        unfold rem1 at hd
        split at hd
        · rename_i t e1 e2
          obtain ⟨x, hx, hn, hs⟩ := sgN_some e1
          rw [List.mem_singleton.mp hd]
          exact remL_lt _ _ _ ⟨x, hx, by rw [hn]; exact List.mem_singleton.mpr rfl⟩
        · cases hd
    · cases hd
  · obtain ⟨m, hm, rfl⟩ := List.mem_map.mp hd
    show F.mr < F.mr + 1
    omega
theorem step_lt {k : Nat} {c : Cp} {F : Fo} (g : GA k F) (cw : CW4 c) (h : sentM c F ≠ []) : F.mr < (stepM c F).mr := by
  unfold stepM
  cases e : sentM c F with
  | nil => exact absurd e h
  | cons d r => exact Int.lt_of_lt_of_le (sent_eff g cw (by rw [e]; exact List.mem_cons_self)) (doesL_mr r (does d F))
theorem step_nil {c : Cp} {F : Fo} (h : sentM c F = []) : stepM c F = F := by unfold stepM; rw [h]; rfl
/-! ### plain copies send nothing -/
def Plain (c : Cp) : Prop := (∀ l ∈ c.ls, l.w = some l.s) ∧ c.md = []
theorem plain_cpF (F : Fo) : Plain (cpF F) := ⟨fun l hl => by obtain ⟨x, _, rfl⟩ := List.mem_map.mp hl; rfl, rfl⟩
theorem chgD_same (n : Int) (s t : List Str) : chgD n s t s = [] := by
  unfold chgD addZ takeZ
  rw [List.filter_eq_nil_iff.mpr (fun z hz => by simp [hz]), List.filter_eq_nil_iff.mpr (fun z hz => by simp [hz])]
  rfl
theorem sent_plain {c : Cp} (h : Plain c) (F : Fo) : sentM c F = [] := by
  unfold sentM madeD
  rw [h.2]
  split
  · rw [List.flatMap_eq_nil_iff.mpr fun l hl => ?_, List.flatMap_eq_nil_iff.mpr fun l hl => ?_]
    · rfl
    · unfold rem1; rw [h.1 l hl]; split
      · rename_i e; cases e
      · rfl
    · unfold chg1; rw [h.1 l hl]; split
      · rename_i e; rw [← Option.some.inj e]; exact chgD_same _ _ _
      · rfl
  · rfl
/-! ### good copies -/
structure Small (c : Cp) : Prop where
  ls : c.ls.length ≤ 10
  md : c.md.length ≤ 1
theorem chg1_len {F : Fo} {l : CL} (o : OkCL l) (z : W4 l.s) (zw : ∀ ss, l.w = some ss → W4 ss) : (chg1 F l).length ≤ 12 := by
  unfold chg1
  split
  · rename_i t w e1 e2
    unfold chgD addZ takeZ
    rw [List.length_append, List.length_map, List.length_map]
    have h1 := List.length_filter_le (fun z => !decide (z ∈ l.s) && !decide (z ∈ t)) w
    have h2 := List.length_filter_le (fun z => !decide (z ∈ w) && decide (z ∈ t)) l.s
    have h3 := w4_len o.s z
    have h4 := w4_len (o.w w e2) (zw w e2)
    omega
  · exact Nat.zero_le _
theorem rem1_len {F : Fo} {l : CL} : (rem1 F l).length ≤ 1 := by
  unfold rem1; split
  · exact Nat.le_refl _
  · exact Nat.zero_le _
theorem flat_len {α β : Type} {f : α → List β} {k : Nat} : ∀ {ls : List α}, (∀ l ∈ ls, (f l).length ≤ k) → (ls.flatMap f).length ≤ ls.length * k
  | [], _ => Nat.zero_le _
  | l :: r, h => by
    rw [List.flatMap_cons, List.length_append, List.length_cons, Nat.succ_mul]
    have := flat_len (f := f) (k := k) (ls := r) fun x hx => h x (List.mem_cons_of_mem _ hx)
    have := h l List.mem_cons_self
    omega
theorem sent_len {c : Cp} {F : Fo} (o : OkCp c) (z : CW4 c) (h : Plain c ∨ Small c) : (sentM c F).length ≤ 131 := by
  rcases h with h | h
  · rw [sent_plain h]; exact Nat.zero_le _
  · unfold sentM madeD
    rw [List.length_append, List.length_map]
    have h1 := flat_len (f := chg1 F) (k := 12) (ls := c.ls) fun l hl => chg1_len (o.ls.ok l hl) (z.s l hl) (z.w l hl)
    have h2 := flat_len (f := rem1 F) (k := 1) (ls := c.ls) fun l hl => rem1_len
    have := h.ls
    have := h.md
    split
    · rw [List.length_append]; omega
    · rw [List.length_nil]; omega
theorem okS_w4 : ∀ z ∈ w6, okS z = true := by decide +kernel
theorem sent_ok {c : Cp} {F : Fo} (o : OkCp c) (z : CW4 c) : ∀ d ∈ sentM c F, OkD d ∧ W4D d := by
  intro d hd
  unfold sentM at hd
  rcases List.mem_append.mp hd with hd | hd
  · split at hd
    · rcases List.mem_append.mp hd with hd | hd
      · obtain ⟨l, hl, hd⟩ := List.mem_flatMap.mp hd
        unfold chg1 at hd
        split at hd
        · rename_i t w e1 e2
          rcases List.mem_append.mp hd with hd | hd
          · obtain ⟨y, hy, rfl⟩ := List.mem_map.mp hd
            have hy := (List.mem_filter.mp hy).1
            exact ⟨((o.ls.ok l hl).w w e2).ok y hy, z.w l hl w e2 y hy⟩
          · obtain ⟨y, hy, rfl⟩ := List.mem_map.mp hd
            have hy := (List.mem_filter.mp hy).1
            exact ⟨(o.ls.ok l hl).s.ok y hy, trivial⟩
        · cases hd
      · obtain ⟨l, hl, hd⟩ := List.mem_flatMap.mp hd
        unfold rem1 at hd
        split at hd
        · rw [List.mem_singleton.mp hd]; exact ⟨trivial, trivial⟩
        · cases hd
    · cases hd
  · obtain ⟨m, hm, rfl⟩ := List.mem_map.mp hd
    have := o.md.ok m hm
    exact ⟨⟨this.1, this.2⟩, z.m m hm⟩
/-- none of what is sent trims -/
theorem sent_can {c : Cp} {F : Fo} : ∀ d ∈ sentM c F, ∀ G, CanD G d := by
  intro d hd G
  unfold sentM at hd
  rcases List.mem_append.mp hd with hd | hd
  · split at hd
    · rcases List.mem_append.mp hd with hd | hd
      · obtain ⟨l, hl, hd⟩ := List.mem_flatMap.mp hd
        unfold chg1 at hd
        split at hd
        · rcases List.mem_append.mp hd with hd | hd
          · obtain ⟨y, hy, rfl⟩ := List.mem_map.mp hd; trivial
          · obtain ⟨y, hy, rfl⟩ := List.mem_map.mp hd; trivial
        · cases hd
      · obtain ⟨l, hl, hd⟩ := List.mem_flatMap.mp hd
        unfold rem1 at hd
        split at hd
        · rw [List.mem_singleton.mp hd]; trivial
        · cases hd
    · cases hd
  · obtain ⟨m, hm, rfl⟩ := List.mem_map.mp hd; trivial
theorem canL_all : ∀ {ds : List Dd} (F : Fo), (∀ d ∈ ds, ∀ G, CanD G d) → CanL ds F
  | [], F, _ => trivial
  | d :: r, F, h => ⟨h d List.mem_cons_self F, canL_all _ fun x hx => h x (List.mem_cons_of_mem _ hx)⟩
theorem cw4_cpF {k : Nat} {F : Fo} (g : GA k F) : CW4 (cpF F) := ⟨fun l hl => by obtain ⟨x, hx, rfl⟩ := List.mem_map.mp hl; exact g.z x hx, fun l hl ss e => by
  obtain ⟨x, hx, rfl⟩ := List.mem_map.mp hl
  rw [← Option.some.inj e]; exact g.z x hx, fun m hm => by cases hm⟩
end K1


set_option Elab.async false
set_option linter.all false
set_option maxRecDepth 100000
set_option maxHeartbeats 4000000
/-! Deeds as data; the dict of a folder's signs; _sent. -/
namespace K1
open PySem PySem.Spec PyProof.Rows L2 RZ StX
def ddT : Dd → PyData
  | .app b ss => .tuple [.str "append", .int b, .tuple (ss.map PyData.str)]
  | .add ns z => .tuple [.str "add", .tuple (ns.map PyData.int), .str z]
  | .take ns z => .tuple [.str "take", .tuple (ns.map PyData.int), .str z]
  | .set ns zs => .tuple [.str "set", .tuple (ns.map PyData.int), .tuple (zs.map PyData.str)]
  | .rem ns => .tuple [.str "remove", .tuple (ns.map PyData.int)]
  | .trim m => .tuple [.str "trim", .int m]
theorem tO_ints : ∀ ns : List Int, tOA (ns.map PyData.int) = true
  | [] => rfl
  | n :: r => by show (true && tOA (r.map PyData.int)) = true; rw [tO_ints r]; rfl
theorem tO_dd : ∀ d : Dd, tO (ddT d) = true
  | .app b ss => by show (true && (true && (tOA (ss.map PyData.str) && true))) = true; rw [tO_strs]; rfl
  | .add ns z => by show (true && (tOA (ns.map PyData.int) && (true && true))) = true; rw [tO_ints]; rfl
  | .take ns z => by show (true && (tOA (ns.map PyData.int) && (true && true))) = true; rw [tO_ints]; rfl
  | .set ns zs => by show (true && (tOA (ns.map PyData.int) && (tOA (zs.map PyData.str) && true))) = true; rw [tO_ints, tO_strs]; rfl
  | .rem ns => by show (true && (tOA (ns.map PyData.int) && true)) = true; rw [tO_ints]; rfl
  | .trim m => rfl
theorem tO_dds : ∀ ds : List Dd, tOA (ds.map ddT) = true
  | [] => rfl
  | d :: r => by show (tO (ddT d) && tOA (r.map ddT)) = true; rw [tO_dd, tO_dds r]; rfl
theorem ints_of : ∀ {H : Hp} {xs : List V} {ns : List Int}, DvA H xs (ns.map PyData.int) → xs = ns.map V.int
  | _, _, [], .nil => rfl
  | _, _, n :: r, .cons (.int _) t => by rw [ints_of t]; rfl
theorem dv_tupI {H : Hp} {v : V} {ns : List Int} (h : Dv H v (.tuple (ns.map PyData.int))) : ∃ a, v = .ref a ∧ H a = some (.tup (ns.map V.int)) := by
  cases h with
  | tup e r => exact ⟨_, rfl, by rw [← ints_of r]; exact e⟩
theorem dv_tupS {H : Hp} {v : V} {ss : List Str} (h : Dv H v (.tuple (ss.map PyData.str))) : ∃ a, v = .ref a ∧ H a = some (.tup (ss.map V.str)) := by
  cases h with
  | tup e r => exact ⟨_, rfl, by rw [← strs_of r]; exact e⟩
/-- the numbers of a deed are numbers of letters -/
def NumD : Dd → Prop
  | .app _ _ => True
  | .add ns _ => (∀ n ∈ ns, 1 ≤ n) ∧ ns.length ≤ 1000
  | .take ns _ => (∀ n ∈ ns, 1 ≤ n) ∧ ns.length ≤ 1000
  | .set ns _ => (∀ n ∈ ns, 1 ≤ n) ∧ ns.length ≤ 1000
  | .rem ns => (∀ n ∈ ns, 1 ≤ n) ∧ ns.length ≤ 1000
  | .trim _ => True
theorem dd_at {H : Hp} {v : V} : ∀ {d : Dd}, Dv H v (ddT d) → OkD d → NumD d → ∃ a, v = .ref a ∧ DdAt H a d
  | .app b ss, h, o, _ => by
    cases h with
    | tup e r =>
    cases r with | cons h1 r =>
    cases r with | cons h2 r =>
    cases r with | cons h3 r =>
    cases r; cases h1; cases h2
    obtain ⟨sa, rfl, hs⟩ := dv_tupS h3
    exact ⟨_, rfl, sa, e, hs, o.1, o.2⟩
  | .add ns z, h, o, n => by
    cases h with
    | tup e r =>
    cases r with | cons h1 r =>
    cases r with | cons h2 r =>
    cases r with | cons h3 r =>
    cases r; cases h1; cases h3
    obtain ⟨na, rfl, hs⟩ := dv_tupI h2
    exact ⟨_, rfl, na, e, ⟨.inr hs, n.1, n.2⟩, o⟩
  | .take ns z, h, o, n => by
    cases h with
    | tup e r =>
    cases r with | cons h1 r =>
    cases r with | cons h2 r =>
    cases r with | cons h3 r =>
    cases r; cases h1; cases h3
    obtain ⟨na, rfl, hs⟩ := dv_tupI h2
    exact ⟨_, rfl, na, e, ⟨.inr hs, n.1, n.2⟩, o⟩
  | .set ns zs, h, o, n => by
    cases h with
    | tup e r =>
    cases r with | cons h1 r =>
    cases r with | cons h2 r =>
    cases r with | cons h3 r =>
    cases r; cases h1
    obtain ⟨na, rfl, hn⟩ := dv_tupI h2
    obtain ⟨sa, rfl, hs⟩ := dv_tupS h3
    exact ⟨_, rfl, na, sa, e, ⟨.inr hn, n.1, n.2⟩, hs, o⟩
  | .rem ns, h, o, n => by
    cases h with
    | tup e r =>
    cases r with | cons h1 r =>
    cases r with | cons h2 r =>
    cases r; cases h1
    obtain ⟨na, rfl, hs⟩ := dv_tupI h2
    exact ⟨_, rfl, na, e, ⟨.inr hs, n.1, n.2⟩⟩
  | .trim m, h, o, _ => by
    cases h with
    | tup e r =>
    cases r with | cons h1 r =>
    cases r with | cons h2 r =>
    cases r; cases h1; cases h2
    exact ⟨_, rfl, e, o⟩
theorem dds_at {H : Hp} : ∀ {xs : List V} {ds : List Dd}, DvA H xs (ds.map ddT) → (∀ d ∈ ds, OkD d ∧ NumD d) → DdsAt H xs ds
  | _, [], .nil, _ => .nil
  | _, d :: r, .cons h k, o => by
    obtain ⟨a, rfl, hd⟩ := dd_at h (o d List.mem_cons_self).1 (o d List.mem_cons_self).2
    exact .cons hd (dds_at k fun x hx => o x (List.mem_cons_of_mem _ hx))
/-- a list of deeds -/
def LD (G : Hp) (D : Addr) (ds : List Dd) : Prop := ∃ xs, G D = some (.lst xs) ∧ DvA G xs (ds.map ddT)
theorem LD.to {G G' : Hp} {D : Addr} {ds : List Dd} (h : LD G D ds) (t : TU G G') (e : ∀ o, G D = some o → G' D = some o) : LD G' D ds := let ⟨xs, h1, h2⟩ := h; ⟨xs, e _ h1, h2.tu t (tO_dds _)⟩
theorem LD.same {G G' : Hp} {D : Addr} {ds : List Dd} (h : LD G D ds) (s : Same G G') : LD G' D ds := h.to (TU.same s) fun o => s _ o
theorem LD.push {G : Hp} {D : Addr} {ds : List Dd} {xs : List V} {x : V} {d : Dd} (h : LD G D ds) (hD : G D = some (.lst xs)) (hx : Dv G x (ddT d)) : LD (upd G D (.lst (xs ++ [x]))) D (ds ++ [d]) := by
  obtain ⟨ys, h1, h2⟩ := h
  rw [hD] at h1
  injection h1 with h1
  injection h1 with h1
  subst h1
  have t : TU G (upd G D (.lst (xs ++ [x]))) := TU.mut hD fun _ z => by cases z
  exact ⟨_, upd_same, by rw [List.map_append]; exact (h2.tu t (tO_dds _)).app (.cons (hx.tu t (tO_dd _)) .nil)⟩
theorem LD.other {G : Hp} {D E : Addr} {ds : List Dd} {xs ys : List V} (h : LD G D ds) (ne : D ≠ E) (hE : G E = some (.lst xs)) : LD (upd G E (.lst ys)) D ds :=
  h.to (TU.mut hE fun _ z => by cases z) fun o e => by rw [upd_ne ne]; exact e
/-! ### the signs of a folder's letters, by number -/
def KS (G : Hp) (m : KVs) (ls : List Lt) : Prop := m.map (·.1) = ls.map (·.n) ∧ ∀ (i : Nat) l, ls[i]? = some l → ∃ a, m[i]? = some (l.n, .ref a) ∧ G a = some (.tup (l.s.map V.str))
theorem KS.tu {G G' : Hp} {m : KVs} {ls : List Lt} (h : KS G m ls) (t : TU G G') : KS G' m ls := ⟨h.1, fun i l hl => let ⟨a, h1, h2⟩ := h.2 i l hl; ⟨a, h1, t _ _ h2⟩⟩
theorem KS.nil {G : Hp} : KS G [] [] := ⟨rfl, fun i l h => by simp at h⟩
theorem KS.snoc {G : Hp} {m : KVs} {ls : List Lt} {l : Lt} {a : Addr} (h : KS G m ls) (ha : G a = some (.tup (l.s.map V.str))) : KS G (m ++ [(l.n, .ref a)]) (ls ++ [l]) := by
  have e : m.length = ls.length := by have := congrArg List.length h.1; simpa using this
  refine ⟨by rw [List.map_append, List.map_append, h.1]; rfl, fun i x hx => ?_⟩
  by_cases c : i < ls.length
  · rw [List.getElem?_append_left c] at hx
    obtain ⟨b, h1, h2⟩ := h.2 i x hx
    exact ⟨b, by rw [List.getElem?_append_left (by omega)]; exact h1, h2⟩
  · rw [List.getElem?_append_right (by omega)] at hx
    cases d : i - ls.length with
    | zero =>
      rw [d] at hx
      have := Option.some.inj hx
      subst this
      exact ⟨a, by rw [List.getElem?_append_right (by omega), e, d]; rfl, ha⟩
    | succ k => rw [d] at hx; simp at hx
theorem KS.look {G : Hp} {m : KVs} {F : Fo} (h : KS G m F.ls) (nd : (F.ls.map (·.n)).Nodup) (n : Int) : (sgN F n = none ∧ lookN m n = none) ∨ ∃ t a, sgN F n = some t ∧ lookN m n = some (.ref a) ∧ G a = some (.tup (t.map V.str)) := by
  cases e : sgN F n with
  | none =>
    refine .inl ⟨rfl, ?_⟩
    unfold lookN
    rw [List.find?_eq_none.mpr fun x hx => ?_]
    · rfl
    intro z
    have z := of_decide_eq_true z
    have : n ∈ F.ls.map (·.n) := by rw [← h.1]; exact List.mem_map.mpr ⟨x, hx, z⟩
    obtain ⟨l, hl, hn⟩ := List.mem_map.mp this
    unfold sgN at e
    cases k : F.ls.find? fun l => decide (l.n = n) with
    | some y => rw [k] at e; cases e
    | none => exact (List.find?_eq_none.mp k l hl) (decide_eq_true hn)
  | some t =>
    obtain ⟨l, hl, hn, hs⟩ := sgN_some e
    obtain ⟨i, hi⟩ := List.getElem?_of_mem hl
    obtain ⟨a, h1, h2⟩ := h.2 i l hi
    rw [hn] at h1
    exact .inr ⟨t, a, rfl, lookN_get (by rw [h.1]; exact nd) h1, by rw [← hs]; exact h2⟩
theorem dkv_snoc {m : KVs} {n : Int} {v : V} (h : n ∉ m.map (·.1)) : putK (dkv m) (Sum.inl n) v = dkv (m ++ [(n, v)]) := by
  unfold putK
  rw [if_neg]
  · unfold dkv; rw [List.map_append]; rfl
  intro z
  obtain ⟨x, hx, hx2⟩ := List.any_eq_true.mp z
  obtain ⟨y, hy, rfl⟩ := List.mem_map.mp hx
  exact h (List.mem_map.mpr ⟨y, hy, Sum.inl.inj (of_decide_eq_true hx2)⟩)
theorem dkv_len (m : KVs) : (dkv m).length = m.length := by unfold dkv; rw [List.length_map]
abbrev sSe : Stmt := st__sent
abbrev nSe : List Str := ["copy", "folder", "made", "there", "letter", "changes", "removes", "number", "_", "base", "wanted", "sign", "body", "signs"]
abbrev pSe : List Str := ["copy", "folder"]
theorem scSe : FnScope nSe pSe (defScope sSe) := ⟨rfl, rfl, rfl, by decide +kernel, rfl, by decide +kernel, by decide +kernel⟩
def spSe (K : PySem.W.Frag) (C CC : Addr) : Sp := fun vs H Q _ => ∃ (x p : Addr) (c : Cp) (F : Fo) (k : Nat), vs = [.ref x, .ref p] ∧ CpAt K CC H x c ∧ OkCp c ∧ FoAt C H p F ∧ GA k F ∧ k ≤ 900 ∧ ∀ l H', Same H H' → H l = none → LD H' l (sentM c F) → Q (.ref l) H'
end K1


set_option Elab.async false
set_option linter.all false
set_option maxRecDepth 100000
set_option maxHeartbeats 8000000
/-! _sent. -/
namespace K1
open PySem PySem.Spec PyProof.Rows L2 RZ StX
theorem flat_take {α β : Type} (f : α → List β) {ls : List α} {j : Nat} {l : α} (h : ls[j]? = some l) : (ls.take (j + 1)).flatMap f = (ls.take j).flatMap f ++ f l := by
  rw [List.take_add_one, h, List.flatMap_append]; simp
theorem filt_take {α : Type} (q : α → Bool) {ls : List α} {j : Nat} {l : α} (h : ls[j]? = some l) : (ls.take (j + 1)).filter q = (ls.take j).filter q ++ (if q l then [l] else []) := by
  rw [List.take_add_one, h, List.filter_append]
  congr 1
  show [l].filter q = _
  rw [List.filter_cons]; simp
theorem chg1_len12 {F : Fo} {l : CL} (o : OkCL l) : (chg1 F l).length ≤ 12 := by
  unfold chg1
  split
  · rename_i t w e1 e2
    unfold chgD addZ takeZ
    rw [List.length_append, List.length_map, List.length_map]
    have h1 := List.length_filter_le (fun z => !decide (z ∈ l.s) && !decide (z ∈ t)) w
    have h2 := List.length_filter_le (fun z => !decide (z ∈ w) && decide (z ∈ t)) l.s
    have h3 := o.s.len
    have h4 := (o.w w e2).len
    omega
  · exact Nat.zero_le _
theorem pre_len {F : Fo} {ls : List CL} (o : OkLs ls) (j : Nat) : ((ls.take j).flatMap (chg1 F)).length ≤ 10800 := by
  have h := flat_len (f := chg1 F) (k := 12) (ls := ls.take j) fun l hl => chg1_len12 (o.ok l (List.mem_of_mem_take hl))
  have := o.len
  rw [List.length_take] at h
  omega
theorem rem_len {F : Fo} {ls : List CL} (o : OkLs ls) (j : Nat) : ((ls.take j).flatMap (rem1 F)).length ≤ 900 := by
  have h := flat_len (f := rem1 F) (k := 1) (ls := ls.take j) fun l hl => rem1_len
  have := o.len
  rw [List.length_take] at h
  omega
/-- all but two lists stay -/
structure Two (C1 C2 : Addr) (H G : Hp) : Prop where
  k : ∀ b o, b ≠ C1 → b ≠ C2 → H b = some o → G b = some o
  l1 : ∃ xs, H C1 = some (.lst xs)
  l2 : ∃ xs, H C2 = some (.lst xs)
theorem Two.same {C1 C2 : Addr} {H G J : Hp} (a : Two C1 C2 H G) (s : Same G J) : Two C1 C2 H J := ⟨fun b o n1 n2 h => s _ _ (a.k b o n1 n2 h), a.l1, a.l2⟩
theorem Two.m1 {C1 C2 : Addr} {H G : Hp} {o : HO} (a : Two C1 C2 H G) : Two C1 C2 H (upd G C1 o) := ⟨fun b u n1 n2 h => by rw [upd_ne n1]; exact a.k b u n1 n2 h, a.l1, a.l2⟩
theorem Two.m2 {C1 C2 : Addr} {H G : Hp} {o : HO} (a : Two C1 C2 H G) : Two C1 C2 H (upd G C2 o) := ⟨fun b u n1 n2 h => by rw [upd_ne n2]; exact a.k b u n1 n2 h, a.l1, a.l2⟩
theorem Two.get {C1 C2 : Addr} {H G : Hp} {b : Addr} {o : HO} (a : Two C1 C2 H G) (h : H b = some o) (n : ∀ xs, o ≠ .lst xs) : G b = some o := by
  obtain ⟨xs, h1⟩ := a.l1
  obtain ⟨ys, h2⟩ := a.l2
  exact a.k b o (fun e => by rw [e, h1] at h; exact n _ (Option.some.inj h).symm) (fun e => by rw [e, h2] at h; exact n _ (Option.some.inj h).symm) h
theorem Two.tu {C1 C2 : Addr} {H G : Hp} (a : Two C1 C2 H G) : TU H G := fun b xs h => a.get h fun _ z => by cases z
theorem Two.refl {C1 C2 : Addr} {H : Hp} {ds es : List Dd} (h1 : LD H C1 ds) (h2 : LD H C2 es) : Two C1 C2 H H := ⟨fun _ _ _ _ h => h, let ⟨xs, a, _⟩ := h1; ⟨xs, a⟩, let ⟨xs, a, _⟩ := h2; ⟨xs, a⟩⟩
theorem Two.pre {C1 C2 : Addr} {H G J : Hp} (a : Two C1 C2 G J) (s : Same H G) (l1 : ∃ xs, H C1 = some (.lst xs)) (l2 : ∃ xs, H C2 = some (.lst xs)) : Two C1 C2 H J := ⟨fun b o n1 n2 h => a.k b o n1 n2 (s _ _ h), l1, l2⟩
theorem LD.len {G : Hp} {D : Addr} {ds : List Dd} (h : LD G D ds) : ∃ xs, G D = some (.lst xs) ∧ xs.length = ds.length := let ⟨xs, h1, h2⟩ := h; ⟨xs, h1, by rw [h2.len, List.length_map]⟩
section
variable {P : Program} {w : World} {K : PySem.W.Frag} {mg : Str → Option Value} {base : Heap} {C CC : Addr}
set_option maxHeartbeats 32000000 in
theorem ok_se {f : Addr} {fd : FuncData} (T : Bk mg) (t : ClT K mg C) (tc : CcT K mg CC) (M_age : MDef P w K mg base CX0 1 CC "age" nSelf (spCAge K CC)) (M_letters : MDef P w K mg base CX0 1 CC "letters" nSelf (spCLet K CC)) (M_made : MDef P w K mg base CX0 1 CC "made" nSelf (spCMade K CC))
    (N_age : MDef P w K mg base CX0 1 C "age" nSelf (spAge C)) (N_letters : MDef P w K mg base CX0 1 C "letters" nSelf (spLetters C)) (F : Fun K "_sent" "_sent" sSe f fd) : FnOk P w K mg base CX0 2 f fd pSe (spSe K C CC) := by
  have nd := scSe.nd
  refine F.ok scSe (fun vs H Q E h => ?_) (fun cdv A outer s H vs Q E hr h => ?_)
  · obtain ⟨x, p, c, F, k, rfl, _⟩ := h
    rfl
  · obtain ⟨x, p, c, F, k, rfl, hc, ok, hF, ga, k9, q⟩ := h
    refine ⟨_, (pss_cons (ps_setLc (i := 2) (own := [("body", 12), ("signs", 13)]) (g := gTup K 2 (gCons (gName 12) (gCons (gName 13) gNil))) (tt := tYes) rfl nd rfl rfl (sw_true rfl rfl rfl (by decide +kernel)) (pi_listK (K := K) rfl (pe_mdef0 M_made tc.cl (hr.mono (by decide)) pass0 (pv 0))) (blkOk_by (own := [("body", 12), ("signs", 13)]) (N := nSe) (sc := defScope sSe) (by decide +kernel)) (fun _ _ _ _ _ => pg_tup rfl (pgs_cons (pg_name (i := 12) nd rfl (Or.inl rfl)) (pgs_cons (pg_name (i := 13) nd rfl (Or.inl rfl)) pgs_nil))) (fun _ _ _ _ _ => pts_nil) (fun _ _ _ _ _ => (pe_tup (pa_cons pe_str (pa_cons (pv 12) (pa_cons (pv 13) pa_nil))))))
 (pss_cons (ps_if (pt_cmpR op_ne (pe_mdef0 M_age tc.cl (hr.mono (by decide)) pass0 (pv 0)) (pe_mdef0 N_age t.cl (hr.mono (by decide)) pass0 (pv 1)) (nomark _))
  (pss_one (ps_ret (pv 2)))
  pss_nil)
 (pss_cons (ps_setDcK (i := 3) (own := [("letter", 4)]) (g := gName 4) (tt := tYes) rfl nd rfl rfl (sw_trueD rfl rfl rfl (by decide +kernel)) (pi_listK (K := K) rfl (pe_mdef0 N_letters t.cl (hr.mono (by decide)) pass0 (pv 1))) (blkOk_by (own := [("letter", 4)]) (N := nSe) (sc := defScope sSe) (by decide +kernel)) (fun _ _ _ _ _ => pg_name (i := 4) nd rfl (Or.inl rfl)) (fun _ _ _ _ _ => pts_nil) (fun _ _ _ _ _ => pe_ix (ix_tupK (K := K) rfl) (pv 4) pe_int (fun _ _ => rfl)) (fun _ _ _ _ _ => pe_ix (ix_tupK (K := K) rfl) (pv 4) pe_int (fun _ _ => rfl)))
 (pss_cons (ps_par (i := 5) (j := 6) (by rfl) nd rfl rfl (by decide) rfl rfl (pa_cons (pe_lst pa_nil) (pa_cons (pe_lst pa_nil) pa_nil)) (by rfl))
 (C8.pss_cut (ps_for PassesOwn.never rfl (pi_listK (K := K) rfl (pe_mdef0 M_letters tc.cl (hr.mono (by decide)) pass0 (pv 0))) (pg_tup rfl (pgs_cons (pg_name (i := 7) nd rfl (Or.inl rfl)) (pgs_cons (pg_name (i := 8) nd rfl (Or.inl rfl)) (pgs_cons (pg_name (i := 9) nd rfl (Or.inl rfl)) (pgs_cons (pg_name (i := 10) nd rfl (Or.inl rfl)) pgs_nil)))))
  (pss_cons (ps_if (pt_cmp (pc_dnotin (hu_of hr) (pv 7) (pv 3)))
  (pss_one ps_continue)
  pss_nil)
 (pss_cons (ps_if (pt_cmpR op_isN (pv 10) pe_non (nomark _))
  (pss_cons (ps_expr (pe_bm PySem.F.plainAttrs_list PySem.F.slot_list_append PySem.F.type_list_append mt_append (pv 6) (pa_cons (pe_tup (pa_cons pe_str (pa_cons (pe_tup (pa_cons (pv 7) pa_nil)) pa_nil))) pa_nil)))
 (pss_one ps_continue))
  pss_nil)
 (C8.pss_cut (ps_for PassesOwn.never rfl (pi_tupK (K := K) rfl (pv 10)) (pg_name (i := 11) nd rfl (Or.inl rfl))
  (pss_one (ps_if (PW.pt (pw_and (pt_cmpR (op_notIn_seqK (K := K) rfl) (pv 11) (pv 9) (by rfl)) (pw_and1 (pt_cmpR (op_notIn_seqK (K := K) rfl) (pv 11) (pe_dget (hu_of hr) (pv 3) (pv 7) (fun _ _ => rfl)) (by rfl)))))
  (pss_one (ps_expr (pe_bm PySem.F.plainAttrs_list PySem.F.slot_list_append PySem.F.type_list_append mt_append (pv 5) (pa_cons (pe_tup (pa_cons pe_str (pa_cons (pe_tup (pa_cons (pv 7) pa_nil)) (pa_cons (pv 11) pa_nil)))) pa_nil))))
  pss_nil)))
 (pss_one (ps_for PassesOwn.never rfl (pi_tupK (K := K) rfl (pv 9)) (pg_name (i := 11) nd rfl (Or.inl rfl))
  (pss_one (ps_if (PW.pt (pw_and (pt_cmpR (op_notIn_seqK (K := K) rfl) (pv 11) (pv 10) (by rfl)) (pw_and1 (pt_cmpR (op_in_seqK (K := K) rfl) (pv 11) (pe_dget (hu_of hr) (pv 3) (pv 7) (fun _ _ => rfl)) (by rfl)))))
  (pss_one (ps_expr (pe_bm PySem.F.plainAttrs_list PySem.F.slot_list_append PySem.F.type_list_append mt_append (pv 5) (pa_cons (pe_tup (pa_cons pe_str (pa_cons (pe_tup (pa_cons (pv 7) pa_nil)) (pa_cons (pv 11) pa_nil)))) pa_nil))))
  pss_nil))))))))
 (pss_one (ps_ret (pe_op op_cat (pe_op op_cat (pv 5) (pv 6)) (pv 2))))))))), ?_⟩
    obtain ⟨dcx, fcs, hx, nox⟩ := hc.no
    obtain ⟨dx, tl, tg, hp, _⟩ := id hF
    have lF := ga.g.wf.len
    have lm := ok.md.len
    have lc := ok.ls.len
    refine ⟨_, rfl, x, dcx, _, rfl, hx, nox (by decide +kernel), x, c, rfl, hc, fun l0 ys H1 s1 nl0 hl0 dys => ?_⟩
    have lys := dys.len
    rw [List.length_map] at lys
    refine ⟨l0, rfl, ⟨_, sq hl0⟩, fun R nR => ?_⟩
    refine lc_tu (walk_list (K := K)) (a2_of dys) nR (fun G s => sq (s _ _ hl0)) (by omega) (fun m => some (Dd.app m.1 m.2)) (fun G y d => Dv G y (ddT d)) (fun H G y b t h => h.tu t (tO_dd b)) ?_ ?_
    · rintro y m G T' S' hy hm s2 hT' hS
      obtain ⟨ta, sa, rfl, hta, hsa⟩ := dv_md hy
      refine ⟨ta, _, rfl, st (s2 _ _ hta), rfl, _, _, rfl, _, _, rfl, rfl, rfl, tyes ⟨_, rfl, _, rfl, by show 3 ≤ sizeLine; decide, fun U nU => ?_⟩⟩
      have sU := same_new nU (o := .tup [.str "append", .int m.1, .ref sa])
      exact hT' _ _ _ sU rfl (.tup upd_same (.cons (.str _) (.cons (.int _) (.cons (.tup ((s2.trans sU) _ _ hsa) (dv_strs _)) .nil))))
    intro G xsR sG hR hA
    rw [show c.md.filterMap (fun m => some (Dd.app m.1 m.2)) = madeD c from fm_map _ _] at hA
    have dR := of_a2 hA
    have ldR : LD G R (madeD c) := ⟨_, hR, dR⟩
    have s01 := s1.trans sG
    clear hl0 dys nl0
    refine name_go' ?_
    dsimp only
    refine ⟨_, rfl, x, dcx, _, rfl, s01 _ _ hx, nox (by decide +kernel), x, c, rfl, hc.same s01, _, rfl, p, dx, _, rfl, s01 _ _ hp, fl_no (by decide +kernel), p, F, rfl, hF.same s01, rfl, _, rfl, ?_⟩
    by_cases ca : ¬ c.age = F.age
    · refine itbT (by rw [decide_eq_false (fun e => ca (V.int.inj e))]; rfl) ⟨_, rfl, q R G s01 (s1.free nR) ?_⟩
      unfold sentM
      rw [if_neg ca, List.nil_append]; exact ldR
    have ca := Decidable.not_not.mp ca
    refine itbF (by rw [decide_eq_true (by rw [ca])]; rfl) ?_
    refine ⟨_, rfl, p, dx, _, rfl, s01 _ _ hp, fl_no (by decide +kernel), p, F, rfl, hF.same s01, fun l1 G1 s2 nl1 hL => ?_⟩
    obtain ⟨zs, hl1, dzs⟩ := Dv.lsts hL
    have lzs := dzs.len
    rw [List.length_map] at lzs
    refine ⟨l1, rfl, ⟨_, sq hl1⟩, fun D nD => ?_⟩
    have Dl : l1 ≠ D := fun e => by rw [e, nD] at hl1; cases hl1
    refine dc_it (walk_list (K := K) (a := l1) (xs := zs)) (fun i G => (∀ b o, b ≠ D → G1 b = some o → G b = some o) ∧ ∃ m, G D = some (.dK (dkv m)) ∧ KS G m (F.ls.take i)) ⟨fun b o nb h => by rw [upd_ne nb]; exact h, [], upd_same, KS.nil⟩ (fun i G _ h => sq (h.1 _ _ Dl hl1)) ?_ ?_
    · rintro i y G2 G3 hi ⟨kp, m, hD, ks⟩ ⟨rfl, hy⟩
      obtain ⟨l, hl, hv⟩ := dzs.getD' hy
      obtain ⟨ta, sa, rfl, hta, hsa⟩ := dv_lt hv
      have nTD : ta ≠ D := fun e => by rw [e, nD] at hta; cases hta
      have nSD : sa ≠ D := fun e => by rw [e, nD] at hsa; cases hsa
      have hta2 := kp _ _ nTD hta
      have hsa2 := kp _ _ nSD hsa
      have lm2 : m.length = (F.ls.take i).length := by have := congrArg List.length ks.1; simpa using this
      have lmk : m.length ≤ 900 := by rw [lm2, List.length_take]; omega
      have nm : l.n ∉ m.map (·.1) := by
        rw [ks.1]
        intro z
        have pw := ga.a.up
        rw [take_sub hl, List.map_append, List.map_cons, List.pairwise_append] at pw
        have := pw.2.2 l.n z l.n List.mem_cons_self
        omega
      refine ⟨rfl, tyes ⟨_, rfl, ta, _, 0, .int l.n, rfl, rfl, st hta2, atI_nat (j := 0) rfl, _, rfl, ta, _, 2, .ref sa, rfl, rfl, st hta2, atI_nat (j := 2) rfl, _, Sum.inl l.n, rfl, hD, by rw [dkv_len]; exact lt1 _ (by omega), fun b o nb h => by rw [upd_ne nb]; exact kp b o nb h, m ++ [(l.n, .ref sa)], ?_, ?_⟩⟩
      · rw [upd_same, dkv_snoc nm]
      · rw [List.take_add_one, hl]
        have tm : TU G3 (upd G3 D (.dK (putK (dkv m) (Sum.inl l.n) (.ref sa)))) := TU.mut hD fun _ z => by cases z
        exact (ks.tu tm).snoc (tm _ _ hsa2)
    rintro G2 ⟨kp, m, hD, ks⟩
    rw [show zs.length = F.ls.length from lzs, List.take_length] at ks
    have ndF : (F.ls.map (·.n)).Nodup := ga.a.up.imp fun h e => by omega
    have s02 := s01.trans s2
    have nDH : H D = none := s02.free nD
    have s3 : Same H G2 := fun b o hb => kp b o (fun e => by rw [e, nDH] at hb; cases hb) (s02 _ _ hb)
    have RD : R ≠ D := fun e => by have := s2 _ _ hR; rw [e, nD] at this; cases this
    have tkp : TU G1 G2 := fun b xs h => kp b _ (fun e => by rw [e, nD] at h; cases h) h
    have ldR : LD G2 R (madeD c) := (ldR.same s2).to tkp fun o h => kp _ _ RD h
    clear hL hl1 Dl nl1 dzs lzs tkp kp hA dR hR nR nD
    refine name_go' ?_
    dsimp only
    refine par_go' ?_
    refine ⟨Nat.zero_le _, fun C1 n1 => ⟨Nat.zero_le _, fun C2 n2 => ⟨_, _, rfl, ?_⟩⟩⟩
    have s4 := s3.new n1 (o := .lst [])
    have k1 := same_new (H := G2) n1 (o := .lst [])
    have ld1 : LD (upd G2 C1 (.lst [])) C1 [] := ⟨[], upd_same, .nil⟩
    have hD := k1 _ _ hD
    have ks := ks.tu (TU.same k1)
    have ldRa := ldR
    have ldR := ldR.same k1
    have n1H := s3.free n1
    generalize upd G2 C1 (.lst []) = G3 at s4 ld1 hD ks ldR n2
    have ne12 : C1 ≠ C2 := fun e => by obtain ⟨_, h, _⟩ := ld1; rw [e, n2] at h; cases h
    have n2H := s4.free n2
    have s5 := s4.new n2 (o := .lst [])
    have k2 := same_new (H := G3) n2 (o := .lst [])
    have ld2 : LD (upd G3 C2 (.lst [])) C2 [] := ⟨[], upd_same, .nil⟩
    have ld1 := ld1.same k2
    have hD := k2 _ _ hD
    have ks := ks.tu (TU.same k2)
    have ldRb := ldR
    have ldR := ldR.same k2
    have nRC1 : R ≠ C1 := fun e => by obtain ⟨_, h, _⟩ := ldRa; rw [e, n1] at h; cases h
    have nRC2 : R ≠ C2 := fun e => by obtain ⟨_, h, _⟩ := ldRb; rw [e, n2] at h; cases h
    clear ldRa ldRb
    generalize upd G3 C2 (.lst []) = G4 at s5 ld1 ld2 hD ks ldR
    have nDC1 : D ≠ C1 := fun e => by obtain ⟨_, h, _⟩ := ld1; rw [← e, hD] at h; cases h
    have nDC2 : D ≠ C2 := fun e => by obtain ⟨_, h, _⟩ := ld2; rw [← e, hD] at h; cases h
    have w4 := Two.refl ld1 ld2
    clear k1 k2 s4 s3 s2 lys
    refine ⟨fun σ G => (∃ v4 v7 v8 v9 v10 v11 v12 v13, σ = [some (.ref x), some (.ref p), some (.ref R), some (.ref D), v4, some (.ref C1), some (.ref C2), v7, v8, v9, v10, v11, v12, v13]) ∧ Two C1 C2 G4 G ∧ LD G C1 (c.ls.flatMap (chg1 F)) ∧ LD G C2 (c.ls.flatMap (rem1 F)), ?_, ?_⟩
    · refine ⟨_, rfl, x, dcx, _, rfl, s5 _ _ hx, nox (by decide +kernel), x, c, rfl, hc.same s5, fun l2 xs2 G5 s6 nl2 hl2 dl2 => ⟨l2, rfl, ⟨_, sq hl2⟩, ?_⟩⟩
      have ld1' := ld1.same s6
      have ld2' := ld2.same s6
      have n21 : l2 ≠ C1 := fun e => by obtain ⟨_, h, _⟩ := ld1; rw [e, ] at nl2; rw [nl2] at h; cases h
      have n22 : l2 ≠ C2 := fun e => by obtain ⟨_, h, _⟩ := ld2; rw [e, ] at nl2; rw [nl2] at h; cases h
      have lx2 := dl2.len
      rw [List.length_map] at lx2
      refine for_list (K := K) (a := l2) (xs := xs2) (fun j σ G => (∃ v4 v7 v8 v9 v10 v11 v12 v13, σ = [some (.ref x), some (.ref p), some (.ref R), some (.ref D), v4, some (.ref C1), some (.ref C2), v7, v8, v9, v10, v11, v12, v13]) ∧ Two C1 C2 G5 G ∧ LD G C1 ((c.ls.take j).flatMap (chg1 F)) ∧ LD G C2 ((c.ls.take j).flatMap (rem1 F))) ?_ ?_ ?_ ?_
      · exact ⟨⟨_, _, _, _, _, _, _, _, rfl⟩, Two.refl ld1' ld2', ld1', ld2'⟩
      · rintro j σ G _ ⟨_, tw, _, _⟩
        exact sq (tw.k _ _ n21 n22 hl2)
      · rintro j y σ G hy ⟨⟨v4, v7, v8, v9, v10, v11, v12, v13, rfl⟩, tw, m1, m2⟩
        obtain ⟨l, hl, hv⟩ := dl2.getD' hy
        obtain ⟨ta, sa, wv, rfl, hta, hsa, hw⟩ := dv_cl (hv.tu tw.tu (tO_cl l))
        have okl := ok.ls.ok l (List.mem_of_getElem? hl)
        have hDG := tw.k _ _ nDC1 nDC2 (s6 _ _ hD)
        have ksG := ks.tu ((TU.same s6).trans tw.tu)
        rw [flat_take (chg1 F) hl, flat_take (rem1 F) hl]
        have gv : ∀ {J : Hp}, J D = some (.dK (dkv m)) → DGet J D (.int l.n) (lookN m l.n) := fun hJ => by
          have := DGet.k (k := Sum.inl l.n) hJ
          rw [dkv_val] at this
          exact this
        have lp := pre_len (F := F) ok.ls j
        have lr := rem_len (F := F) ok.ls j
        refine ⟨ta, _, rfl, st hta, rfl, _, _, rfl, _, _, rfl, _, _, rfl, _, _, rfl, rfl, ?_⟩
        refine ⟨_, rfl, _, rfl, D, _, rfl, gv hDG, ?_⟩
        rcases ksG.look ndF l.n with ⟨e1, e2⟩ | ⟨tt, a, e1, e2, ha⟩
        · rw [e2]
          have c1 : chg1 F l = [] := by unfold chg1; rw [e1]
          have c2 : rem1 F l = [] := by unfold rem1; rw [e1]
          rw [c1, c2, List.append_nil, List.append_nil]
          refine ⟨_, rfl, itbT rfl ⟨⟨_, _, _, _, _, _, _, _, rfl⟩, tw, m1, m2⟩⟩
        have gv : ∀ {J : Hp}, J D = some (.dK (dkv m)) → DGet J D (.int l.n) (some (.ref a)) := fun hJ => by rw [← e2]; exact gv hJ
        rw [e2]
        refine ⟨_, rfl, itbF rfl ⟨_, rfl, rfl, _, rfl, ?_⟩⟩
        have hx1 := Two.refl m1 m2
        cases hW : l.w with
        | none =>
          rw [hW] at hw
          obtain rfl : wv = .non := hw
          have c1 : chg1 F l = [] := by unfold chg1; rw [e1, hW]
          have c2 : rem1 F l = [.rem [l.n]] := by unfold rem1; rw [e1, hW]
          rw [c1, c2, List.append_nil]
          obtain ⟨y2, h2, d2⟩ := m2.len
          refine itbT rfl ?_
          refine ⟨_, rfl, .inl ⟨rfl, _, sq h2⟩, ?_⟩
          refine ⟨_, rfl, by show 1 ≤ sizeLine; decide, fun U nU => ⟨by show 2 ≤ sizeLine; decide, fun V' nV => ?_⟩⟩
          have t1 := same_new nU (o := .tup [.int l.n])
          have t2 := same_new nV (o := .tup [.str "remove", .ref U])
          have h2' := t2 _ _ (t1 _ _ h2)
          have t12 := t1.trans t2
          have hU := t2 U _ upd_same
          have hV : _ = some (HO.tup [.str "remove", .ref U]) := upd_same (H := upd G U (.tup [.int l.n])) (a := V')
          generalize upd (upd G U (.tup [.int l.n])) V' (.tup [.str "remove", .ref U]) = G6 at t12 h2' hU hV
          refine ⟨C2, y2, _, rfl, rfl, h2', lt1 _ (by omega), ?_⟩
          have dv : Dv G6 (.ref V') (ddT (.rem [l.n])) := .tup hV (.cons (.str _) (.cons (.tup hU (.cons (.int _) .nil)) .nil))
          exact ⟨⟨_, _, _, _, _, _, _, _, rfl⟩, (tw.same t12).m2, (m1.same t12).other ne12 h2', (m2.same t12).push h2' dv⟩
        | some ww =>
          rw [hW] at hw
          obtain ⟨wa, rfl, hwa⟩ := hw
          have c1 : chg1 F l = chgD l.n l.s tt ww := by unfold chg1; rw [e1, hW]
          have c2 : rem1 F l = [] := by unfold rem1; rw [e1, hW]
          rw [c1, c2, List.append_nil]
          have okw := (okl.w ww hW).len
          have oks := okl.s.len
          refine itbF rfl ?_
          generalize hp1 : (c.ls.take j).flatMap (chg1 F) = pre at m1 lp
          generalize hp2 : (c.ls.take j).flatMap (rem1 F) = prr at m2 lr
          have nwv : ∀ {b : Addr} {zs : List V} {J : Hp}, G b = some (.tup zs) → Two C1 C2 G J → J b = some (.tup zs) := fun h t => t.get h fun _ z => by cases z
          have nwd : ∀ {J : Hp}, Two C1 C2 G J → J D = some (.dK (dkv m)) := fun t => t.k _ _ nDC1 nDC2 hDG
          refine ⟨fun σ J => (∃ v11, σ = [some (.ref x), some (.ref p), some (.ref R), some (.ref D), v4, some (.ref C1), some (.ref C2), some (.int l.n), some (.int l.b), some (.ref sa), some (.ref wa), v11, v12, v13]) ∧ Two C1 C2 G J ∧ LD J C1 (pre ++ (addZ l.s tt ww).map (fun z => Dd.add [l.n] z)) ∧ LD J C2 prr, ?_, ?_⟩
          · refine ⟨_, rfl, wa, rfl, ⟨_, st hwa⟩, for_tup (K := K) (a := wa) (xs := ww.map V.str) (fun i σ J => (∃ v11, σ = [some (.ref x), some (.ref p), some (.ref R), some (.ref D), v4, some (.ref C1), some (.ref C2), some (.int l.n), some (.int l.b), some (.ref sa), some (.ref wa), v11, v12, v13]) ∧ Two C1 C2 G J ∧ LD J C1 (pre ++ (addZ l.s tt (ww.take i)).map (fun z => Dd.add [l.n] z)) ∧ LD J C2 prr) ?_ ?_ ?_ ?_⟩
            · exact ⟨⟨_, rfl⟩, hx1, by show LD G C1 (pre ++ []); rw [List.append_nil]; exact m1, m2⟩
            · rintro i σ J _ ⟨_, tj, _, _⟩
              exact st (nwv hwa tj)
            · rintro i y σ J hy ⟨⟨v11, rfl⟩, tj, j1, j2⟩
              rw [List.getElem?_map] at hy
              obtain ⟨z, hz, rfl⟩ := Option.map_eq_some_iff.mp hy
              have ez : addZ l.s tt (ww.take (i + 1)) = addZ l.s tt (ww.take i) ++ (if (!decide (z ∈ l.s) && !decide (z ∈ tt)) = true then [z] else []) := filt_take _ hz
              rw [ez]
              have la := List.length_filter_le (fun z => !decide (z ∈ l.s) && !decide (z ∈ tt)) (ww.take i)
              rw [List.length_take] at la
              refine ⟨_, rfl, _, rfl, sa, _, rfl, .inr (st (nwv hsa tj)), rfl, flat_strs _, _, rfl, ?_⟩
              show (if (!inV (.str z) (l.s.map V.str)) = true then _ else _)
              rw [inV_strs]
              by_cases z1 : z ∈ l.s
              · rw [decide_eq_true z1]
                refine itbF rfl (itbF rfl ⟨⟨_, rfl⟩, tj, by rw [if_neg (by simp), List.append_nil]; exact j1, j2⟩)
              rw [decide_eq_false z1]
              refine itbT rfl ⟨_, rfl, _, rfl, _, rfl, D, _, rfl, gv (nwd tj), a, _, rfl, .inr (st (nwv ha tj)), rfl, flat_strs _, _, rfl, ?_⟩
              show (if (!inV (.str z) (tt.map V.str)) = true then _ else _)
              rw [inV_strs]
              by_cases z2 : z ∈ tt
              · rw [decide_eq_true z2]
                refine itbF rfl ⟨⟨_, rfl⟩, tj, by rw [if_neg (by simp), List.append_nil]; exact j1, j2⟩
              rw [decide_eq_false z2]
              obtain ⟨y1, h1, d1⟩ := j1.len
              rw [List.length_append, List.length_map] at d1
              have d1' : y1.length ≤ 20000 := by rw [d1]; unfold addZ; omega
              refine itbT rfl ⟨_, rfl, .inl ⟨rfl, _, sq h1⟩, _, rfl, by show 1 ≤ sizeLine; decide, fun U nU => ⟨_, rfl, by show 3 ≤ sizeLine; decide, fun V' nV => ?_⟩⟩
              have t1 := same_new nU (o := .tup [.int l.n])
              have t2 := same_new nV (o := .tup [.str "add", .ref U, .str z])
              have h1' := t2 _ _ (t1 _ _ h1)
              have t12 := t1.trans t2
              have hU := t2 U _ upd_same
              have hV : _ = some (HO.tup [.str "add", .ref U, .str z]) := upd_same (H := upd J U (.tup [.int l.n])) (a := V')
              generalize upd (upd J U (.tup [.int l.n])) V' (.tup [.str "add", .ref U, .str z]) = G6 at t12 h1' hU hV
              refine ⟨C1, y1, _, rfl, rfl, h1', lt1 _ (by omega), ?_⟩
              have dv : Dv G6 (.ref V') (ddT (.add [l.n] z)) := .tup hV (.cons (.str _) (.cons (.tup hU (.cons (.int _) .nil)) (.cons (.str _) .nil)))
              refine ⟨⟨_, rfl⟩, (tj.same t12).m1, ?_, (j2.same t12).other ne12.symm h1'⟩
              have := (j1.same t12).push h1' dv
              rw [List.append_assoc] at this
              rw [if_pos (show (!false && !false) = true from rfl), List.map_append]; exact this
            · rintro σ J ⟨⟨v11, rfl⟩, tj, j1, j2⟩
              rw [List.length_map, List.take_length] at j1
              exact ⟨⟨_, rfl⟩, tj, j1, j2⟩
          rintro σ J0 ⟨⟨v11, rfl⟩, t0, j1, j2⟩
          have b1 := List.length_filter_le (fun z => !decide (z ∈ l.s) && !decide (z ∈ tt)) ww
          refine ⟨_, rfl, sa, rfl, ⟨_, st (nwv hsa t0)⟩, for_tup (K := K) (a := sa) (xs := l.s.map V.str) (fun i σ J => (∃ v11, σ = [some (.ref x), some (.ref p), some (.ref R), some (.ref D), v4, some (.ref C1), some (.ref C2), some (.int l.n), some (.int l.b), some (.ref sa), some (.ref wa), v11, v12, v13]) ∧ Two C1 C2 G J ∧ LD J C1 (pre ++ ((addZ l.s tt ww).map (fun z => Dd.add [l.n] z) ++ (takeZ (l.s.take i) tt ww).map (fun z => Dd.take [l.n] z))) ∧ LD J C2 prr) ?_ ?_ ?_ ?_⟩
          · refine ⟨⟨_, rfl⟩, t0, ?_, j2⟩
            show LD J0 C1 (pre ++ (_ ++ []))
            rw [List.append_nil]; exact j1
          · rintro i σ J _ ⟨_, tj, _, _⟩
            exact st (nwv hsa tj)
          · rintro i y σ J hy ⟨⟨v11, rfl⟩, tj, j1, j2⟩
            rw [List.getElem?_map] at hy
            obtain ⟨z, hz, rfl⟩ := Option.map_eq_some_iff.mp hy
            have ez : takeZ (l.s.take (i + 1)) tt ww = takeZ (l.s.take i) tt ww ++ (if (!decide (z ∈ ww) && decide (z ∈ tt)) = true then [z] else []) := filt_take _ hz
            rw [ez]
            have la := List.length_filter_le (fun z => !decide (z ∈ ww) && decide (z ∈ tt)) (l.s.take i)
            rw [List.length_take] at la
            refine ⟨_, rfl, _, rfl, wa, _, rfl, .inr (st (nwv hwa tj)), rfl, flat_strs _, _, rfl, ?_⟩
            show (if (!inV (.str z) (ww.map V.str)) = true then _ else _)
            rw [inV_strs]
            by_cases z1 : z ∈ ww
            · rw [decide_eq_true z1]
              refine itbF rfl (itbF rfl ⟨⟨_, rfl⟩, tj, by rw [if_neg (by simp), List.append_nil]; exact j1, j2⟩)
            rw [decide_eq_false z1]
            refine itbT rfl ⟨_, rfl, _, rfl, _, rfl, D, _, rfl, gv (nwd tj), a, _, rfl, .inr (st (nwv ha tj)), rfl, flat_strs _, _, rfl, ?_⟩
            show (if inV (.str z) (tt.map V.str) = true then _ else _)
            rw [inV_strs]
            by_cases z2 : ¬ z ∈ tt
            · rw [decide_eq_false z2]
              refine itbF rfl ⟨⟨_, rfl⟩, tj, by rw [if_neg (by simp), List.append_nil]; exact j1, j2⟩
            have z2 := Decidable.not_not.mp z2
            rw [decide_eq_true z2]
            obtain ⟨y1, h1, d1⟩ := j1.len
            rw [List.length_append, List.length_append, List.length_map, List.length_map] at d1
            have d1' : y1.length ≤ 20000 := by rw [d1]; unfold addZ takeZ; omega
            refine itbT rfl ⟨_, rfl, .inl ⟨rfl, _, sq h1⟩, _, rfl, by show 1 ≤ sizeLine; decide, fun U nU => ⟨_, rfl, by show 3 ≤ sizeLine; decide, fun V' nV => ?_⟩⟩
            have t1 := same_new nU (o := .tup [.int l.n])
            have t2 := same_new nV (o := .tup [.str "take", .ref U, .str z])
            have h1' := t2 _ _ (t1 _ _ h1)
            have t12 := t1.trans t2
            have hU := t2 U _ upd_same
            have hV : _ = some (HO.tup [.str "take", .ref U, .str z]) := upd_same (H := upd J U (.tup [.int l.n])) (a := V')
            generalize upd (upd J U (.tup [.int l.n])) V' (.tup [.str "take", .ref U, .str z]) = G6 at t12 h1' hU hV
            refine ⟨C1, y1, _, rfl, rfl, h1', lt1 _ (by omega), ?_⟩
            have dv : Dv G6 (.ref V') (ddT (.take [l.n] z)) := .tup hV (.cons (.str _) (.cons (.tup hU (.cons (.int _) .nil)) (.cons (.str _) .nil)))
            refine ⟨⟨_, rfl⟩, (tj.same t12).m1, ?_, (j2.same t12).other ne12.symm h1'⟩
            have := (j1.same t12).push h1' dv
            rw [List.append_assoc, List.append_assoc] at this
            rw [if_pos (show (!false && true) = true from rfl), List.map_append]; exact this
          · rintro σ J ⟨⟨v11, rfl⟩, tj, j1, j2⟩
            rw [List.length_map, List.take_length] at j1
            exact ⟨⟨_, _, _, _, _, _, _, _, rfl⟩, ⟨fun b o n1 n2 h => tj.k b o n1 n2 (tw.k b o n1 n2 h), tw.l1, tw.l2⟩, j1, j2⟩
      · rintro σ G ⟨hσ, tw, m1, m2⟩
        rw [lx2, List.take_length] at m1 m2
        exact ⟨hσ, tw.pre s6 w4.l1 w4.l2, m1, m2⟩
    rintro σ G ⟨⟨v4, v7, v8, v9, v10, v11, v12, v13, rfl⟩, tw, ⟨y1, h1, d1⟩, ⟨y2, h2, d2⟩⟩
    obtain ⟨y3, h3, d3⟩ := ldR.to tw.tu fun o h => tw.k _ _ nRC1 nRC2 h
    have l1 := d1.len
    have l2 := d2.len
    have l3 := d3.len
    rw [List.length_map] at l1 l2 l3
    have b1 := pre_len (F := F) ok.ls c.ls.length
    have b2 := rem_len (F := F) ok.ls c.ls.length
    rw [List.take_length] at b1 b2
    have b3 : (madeD c).length = c.md.length := List.length_map _
    refine ⟨_, rfl, _, rfl, C1, C2, y1, y2, rfl, rfl, h1, h2, Nat.le_of_lt (lt1 _ (by omega)), fun A1 nA => ⟨_, rfl, A1, R, _, y3, rfl, rfl, upd_same, same_new nA _ _ h3, Nat.le_of_lt (lt1 _ (by rw [List.length_append]; omega)), fun A2 nA2 => ?_⟩⟩
    have sH : Same H G := fun b o hb => tw.k b o (fun e => by rw [e, n1H] at hb; cases hb) (fun e => by rw [e, n2H] at hb; cases hb) (s5 _ _ hb)
    have t1 := same_new (H := G) nA (o := .lst (y1 ++ y2))
    have t2 := same_new nA2 (o := .lst ((y1 ++ y2) ++ y3))
    refine q A2 _ ((sH.trans t1).trans t2) ((sH.trans t1).free nA2) ⟨_, upd_same, ?_⟩
    unfold sentM
    rw [if_pos ca, List.map_append, List.map_append]
    exact ((d1.app d2).app d3).same (t1.trans t2)
end
end K1


set_option Elab.async false
set_option linter.all false
set_option maxRecDepth 100000
set_option maxHeartbeats 8000000
/-! _check_copy, _check_copies, stepped. -/
namespace K1
open PySem PySem.Spec PyProof.Rows L2 RZ StX
abbrev sKc : Stmt := st__check_copy
abbrev sKs : Stmt := st__check_copies
abbrev sStp : Stmt := st_stepped
abbrev pKc : List Str := ["copy"]
abbrev nKs : List Str := ["copies", "most", "copy"]
abbrev pKs : List Str := ["copies", "most"]
abbrev nStp : List Str := ["copy", "folder", "sent", "there", "letter", "is_same", "lost", "number", "_", "base", "wanted"]
abbrev pStp : List Str := ["copy", "folder"]
theorem scKc : FnScope pKc pKc (defScope sKc) := ⟨rfl, rfl, rfl, by decide +kernel, rfl, by decide +kernel, by decide +kernel⟩
theorem scKs : FnScope nKs pKs (defScope sKs) := ⟨rfl, rfl, rfl, by decide +kernel, rfl, by decide +kernel, by decide +kernel⟩
theorem scStp : FnScope nStp pStp (defScope sStp) := ⟨rfl, rfl, rfl, by decide +kernel, rfl, by decide +kernel, by decide +kernel⟩
def CpV (K : PySem.W.Frag) (CC : Addr) (G : Hp) (v : V) (c : Cp) : Prop := ∃ a, v = .ref a ∧ CpAt K CC G a c
theorem CpV.ti {K : PySem.W.Frag} {CC : Addr} {G J : Hp} {v : V} {c : Cp} (h : CpV K CC G v c) (t : TI G J) : CpV K CC J v c := let ⟨a, e, k⟩ := h; ⟨a, e, k.ti t⟩
def spKc (K : PySem.W.Frag) (CC : Addr) : Sp := fun vs H Q _ => ∃ (x : Addr) (c : Cp), vs = [.ref x] ∧ CpAt K CC H x c ∧ Q .non H
def spKs (K : PySem.W.Frag) (CC : Addr) : Sp := fun vs H Q _ => ∃ (a : Addr) (xs : List V) (cs : List Cp), vs = [.ref a, .int 4] ∧ SeqH H a xs ∧ A2 (CpV K CC H) xs cs ∧ cs.length ≤ 4 ∧ ∀ H', Same H H' → Q .non H'
/-- what stepped tells -/
structure StAt (K : PySem.W.Frag) (C CC : Addr) (G : Hp) (r : Addr) (c : Cp) (F : Fo) (y q sa la : Addr) : Prop where
  at_ : G r = some (.tup [.ref y, .ref q, .ref sa, .ref la])
  y : CpAt K CC G y (cpF (stepM c F))
  q : FoAt C G q (stepM c F)
  s : ∃ xs, G sa = some (.tup xs) ∧ DvA G xs ((sentM c F).map ddT)
  l : G la = some (.tup ((lostM c F).map V.int))
/-- a copy that may be sent -/
structure GC (c : Cp) (F : Fo) : Prop where
  ok : OkCp c
  z : CW4 c
  sz : Plain c ∨ Small c
  age : c.age = F.age
  mr : c.mr ≤ F.mr
def spStp (K : PySem.W.Frag) (C CC PA PT PS : Addr) : Sp := fun vs H Q _ => ∃ (x p : Addr) (c : Cp) (F : Fo) (k : Nat), vs = [.ref x, .ref p] ∧ CpAt K CC H x c ∧ OkCp c ∧ CW4 c ∧ (Plain c ∨ Small c) ∧ FoAt C H p F ∧ GA k F ∧ k + 131 ≤ 900 ∧ LamX.Tabs (T3 PA PT PS) H ∧
  ∀ r y q' sa la H', LamX.ExtN H H' → LamX.Tabs (T3 PA PT PS) H' → StAt K C CC H' r c F y q' sa la → Q (.ref r) H'
theorem sent_num {c : Cp} {F : Fo} (o : OkCp c) : ∀ d ∈ sentM c F, NumD d := by
  intro d hd
  have one : ∀ l ∈ c.ls, (∀ n ∈ [l.n], 1 ≤ n) ∧ ([l.n] : List Int).length ≤ 1000 := fun l hl => ⟨fun n hn => by rw [List.mem_singleton.mp hn]; exact (o.ls.ok l hl).n, Nat.le_of_ble_eq_true rfl⟩
  unfold sentM at hd
  rcases List.mem_append.mp hd with hd | hd
  · split at hd
    · rcases List.mem_append.mp hd with hd | hd
      · obtain ⟨l, hl, hd⟩ := List.mem_flatMap.mp hd
        unfold chg1 at hd
        split at hd
        · rcases List.mem_append.mp hd with hd | hd
          · obtain ⟨y, hy, rfl⟩ := List.mem_map.mp hd; exact one l hl
          · obtain ⟨y, hy, rfl⟩ := List.mem_map.mp hd; exact one l hl
        · cases hd
      · obtain ⟨l, hl, hd⟩ := List.mem_flatMap.mp hd
        unfold rem1 at hd
        split at hd
        · rw [List.mem_singleton.mp hd]; exact one l hl
        · cases hd
    · cases hd
  · obtain ⟨m, hm, rfl⟩ := List.mem_map.mp hd; trivial
/-- what is sent, told as deeds -/
theorem sent_dds {c : Cp} {F : Fo} {G : Hp} {xs : List V} (o : OkCp c) (z : CW4 c) (h : DvA G xs ((sentM c F).map ddT)) : DdsAt G xs (sentM c F) := dds_at h fun d hd => ⟨(sent_ok o z d hd).1, sent_num o d hd⟩
theorem ga_step {k : Nat} {c : Cp} {F : Fo} (g : GA k F) (o : OkCp c) (z : CW4 c) (sz : Plain c ∨ Small c) (hk : k + 131 ≤ 900) : GA (k + 131) (stepM c F) := by
  have l := sent_len (F := F) o z sz
  exact (ga_doesL (by omega) g (sent_ok o z)).mono (by omega)
/-- numbers that are there -/
def thereT (F : Fo) : KVs := F.ls.map fun l => (l.n, V.bl true)
theorem thereT_look (F : Fo) (n : Int) : (lookN (thereT F) n).isSome = (sgN F n).isSome := by
  unfold lookN sgN thereT
  induction F.ls with
  | nil => rfl
  | cons l r ih =>
    rw [List.map_cons]
    by_cases c : l.n = n
    · rw [List.find?_cons_of_pos (by exact decide_eq_true c), List.find?_cons_of_pos (by exact decide_eq_true c)]; rfl
    · rw [List.find?_cons_of_neg (by simp [c]), List.find?_cons_of_neg (by simp [c])]; exact ih
section
variable {P : Program} {w : World} {K : PySem.W.Frag} {mg : Str → Option Value} {base : Heap} {C CC PA PT PS : Addr}
theorem ok_kc {f : Addr} {fd : FuncData} (T : Bk mg) (tc : CcT K mg CC) (iC : C8.InsC K CC) (F : Fun K "_check_copy" "_check_copy" sKc f fd) : FnOk P w K mg base CX0 1 f fd pKc (spKc K CC) := by
  refine F.ok scKc (fun vs H Q E h => ?_) (fun cdv A outer s H vs Q E hr h => ?_)
  · obtain ⟨x, c, rfl, _⟩ := h
    rfl
  · obtain ⟨x, c, rfl, hc, q⟩ := h
    refine ⟨_, (pss_one (ps_if (pt_not (pt_val (pe_callB (C8.call_isC iC) (by rfl) T.isinstance PyProof.Rows.boot_isinstance (pa_cons (pv 0) (pa_cons (pe_glob (v := .ref CC) rfl tc.gC rfl) pa_nil))))) pss_any pss_nil)), ?_⟩
    obtain ⟨dx, fs, hx, _⟩ := hc.no
    exact ⟨_, rfl, x, dx, _, rfl, hx, _, rfl, itbF rfl q⟩
theorem ok_ks {f : Addr} {fd : FuncData} (T : Bk mg) (D_kc : Def P w K mg base CX0 1 "_check_copy" pKc (spKc K CC)) (F : Fun K "_check_copies" "_check_copies" sKs f fd) : FnOk P w K mg base CX0 2 f fd pKs (spKs K CC) := by
  have nd := scKs.nd
  refine F.ok scKs (fun vs H Q E h => ?_) (fun cdv A outer s H vs Q E hr h => ?_)
  · obtain ⟨a, xs, cs, rfl, _⟩ := h
    rfl
  · obtain ⟨a, xs, cs, rfl, ha, hA, l4, q⟩ := h
    have lx := hA.len
    refine ⟨_, (pss_cons (ps_if (PW.pt (pw_or (pt_not (pt_val (pe_callB (call_isiTK (K := K) rfl) (by rfl) T.isinstance PyProof.Rows.boot_isinstance (pa_cons (pv 0) (pa_cons (pe_tup (pa_cons (pe_bltn (v := .ty "list") rfl T.list PyProof.Rows.boot_list rfl) (pa_cons (pe_bltn (v := .ty "tuple") rfl T.tuple PyProof.Rows.boot_tuple rfl) pa_nil))) pa_nil))))) (pw_or1 (pt_cmpR op_gt (pe_callB (call_lenK (K := K) rfl) (by rfl) T.len PySem.boot_len (pa_cons (pv 0) pa_nil)) (pv 1) (nomark _)))))
  pss_any
  pss_nil)
 (pss_one (ps_for PassesOwn.never rfl (pi_seqK (K := K) rfl (pv 0)) (pg_name (i := 2) nd rfl (Or.inl rfl))
  (pss_one (ps_expr (pe_def D_kc (hr.mono (by decide)) rfl pass0 (pa_cons (pv 2) pa_nil))))))), ?_⟩
    refine ⟨_, rfl, (by show 2 ≤ sizeLine; decide), fun tp ntp => ?_⟩
    have s1 := same_new ntp (o := .tup [.ty "list", .ty "tuple"])
    obtain ⟨tn, ty, kit⟩ := SeqH.tyK (K := K) (ha.same s1)
    refine ⟨.ref a, tp, [.ty "list", .ty "tuple"], .type tn, [.type "list", .type "tuple"], true, rfl, upd_same, .cons (.ty _) (.cons (.ty _) .nil), ty, kit, _, rfl, itbF rfl ?_⟩
    have ha1 := ha.same s1
    generalize upd H tp (.tup [.ty "list", .ty "tuple"]) = H1 at s1 ha1
    refine ⟨_, rfl, a, xs, rfl, ha1.len, _, rfl, _, _, rfl, rfl, _, rfl, itbF (decide_eq_false (by omega)) ?_⟩
    refine ⟨_, rfl, a, rfl, seq_walk ha1 fun J Gd wk hG => for_it wk (fun i σ G => ∃ v2, σ = [some (.ref a), some (.int 4), v2] ∧ Same H1 G) ⟨none, rfl, fun _ _ h => h⟩ (fun i σ G _ ⟨_, _, h⟩ => hG _ h) ?_ ?_⟩
    · rintro i x σ G G' hi ⟨v2, rfl, s2⟩ ⟨rfl, hx⟩
      obtain ⟨c, hc, ax, rfl, hv⟩ := hA.get hx
      exact ⟨_, rfl, ax, c, rfl, hv.same (s1.trans s2), _, rfl, s2⟩
    · rintro σ G ⟨v2, rfl, s2⟩
      exact q G (s1.trans s2)
set_option maxHeartbeats 32000000 in
theorem ok_stp {f : Addr} {fd : FuncData} (T : Bk mg) (t : ClT K mg C) (tc : CcT K mg CC) (M_age : MDef P w K mg base CX0 1 CC "age" nSelf (spCAge K CC)) (M_letters : MDef P w K mg base CX0 1 CC "letters" nSelf (spCLet K CC))
    (N_age : MDef P w K mg base CX0 1 C "age" nSelf (spAge C)) (N_letters : MDef P w K mg base CX0 1 C "letters" nSelf (spLetters C))
    (D_kc : Def P w K mg base CX0 1 "_check_copy" pKc (spKc K CC)) (D_cf : Def P w K mg base CX0 1 "_check_folder" pCo (spCf C)) (D_sent : Def P w K mg base CX0 2 "_sent" pSe (spSe K C CC))
    (D_played : Def P w K mg base CX0 10 "played" pPlayed (spPlayed C PA PT PS)) (D_copy_of : Def P w K mg base CX0 6 "copy_of" pCo (spCo K C CC))
    (F : Fun K "stepped" "stepped" sStp f fd) : FnOk P w K mg base CX0 11 f fd pStp (spStp K C CC PA PT PS) := by
  have nd := scStp.nd
  refine F.ok scStp (fun vs H Q E h => ?_) (fun cdv A outer s H vs Q E hr h => ?_)
  · obtain ⟨x, p, c, F, k, rfl, _⟩ := h
    rfl
  · obtain ⟨x, p, c, F, k, rfl, hc, ok, zz, sz, hF, ga, k9, hT, q⟩ := h
    refine ⟨_, (pss_cons (ps_expr (pe_def D_kc (hr.mono (by decide)) rfl pass0 (pa_cons (pv 0) pa_nil)))
 (pss_cons (ps_expr (pe_def D_cf (hr.mono (by decide)) rfl pass0 (pa_cons (pv 1) pa_nil)))
 (pss_cons (ps_set (i := 2) nd rfl (Or.inl rfl) (pe_def D_sent (hr.mono (by decide)) rfl pass0 (pa_cons (pv 0) (pa_cons (pv 1) pa_nil))))
 (pss_cons (ps_setDcK (i := 3) (own := [("letter", 4)]) (g := gName 4) (tt := tYes) rfl nd rfl rfl (sw_trueD rfl rfl rfl (by decide +kernel)) (pi_listK (K := K) rfl (pe_mdef0 N_letters t.cl (hr.mono (by decide)) pass0 (pv 1))) (blkOk_by (own := [("letter", 4)]) (N := nStp) (sc := defScope sStp) (by decide +kernel)) (fun _ _ _ _ _ => pg_name (i := 4) nd rfl (Or.inl rfl)) (fun _ _ _ _ _ => pts_nil) (fun _ _ _ _ _ => pe_ix (ix_tupK (K := K) rfl) (pv 4) pe_int (fun _ _ => rfl)) (fun _ _ _ _ _ => pe_bl))
 (pss_cons (ps_set (i := 5) nd rfl (Or.inl rfl) (pe_cmpR op_eq (pe_mdef0 M_age tc.cl (hr.mono (by decide)) pass0 (pv 0)) (pe_mdef0 N_age t.cl (hr.mono (by decide)) pass0 (pv 1)) (nomark _)))
 (pss_cons (ps_set (i := 6) nd rfl (Or.inl rfl) (pe_lst pa_nil))
 (C8.pss_cut (ps_for PassesOwn.never rfl (pi_listK (K := K) rfl (pe_mdef0 M_letters tc.cl (hr.mono (by decide)) pass0 (pv 0))) (pg_tup rfl (pgs_cons (pg_name (i := 7) nd rfl (Or.inl rfl)) (pgs_cons (pg_name (i := 8) nd rfl (Or.inl rfl)) (pgs_cons (pg_name (i := 9) nd rfl (Or.inl rfl)) (pgs_cons (pg_name (i := 10) nd rfl (Or.inl rfl)) pgs_nil)))))
  (pss_one (ps_if (PW.pt (pw_and (pt_cmpR (op_neDK (K := K) rfl hr.units) (pv 10) (pv 9) (nomark _)) (pw_and1 (pt_not (PW.pt (pw_and (pt_val (pv 5)) (pw_and1 (pt_cmp (pc_din (hu_of hr) (pv 7) (pv 3))))))))))
  (pss_one (ps_expr (pe_bm PySem.F.plainAttrs_list PySem.F.slot_list_append PySem.F.type_list_append mt_append (pv 6) (pa_cons (pv 7) pa_nil))))
  pss_nil)))
 (pss_cons (ps_set (i := 1) nd rfl (Or.inl rfl) (pe_def D_played (hr.mono (by decide)) rfl pass0 (pa_cons (pv 1) (pa_cons (pv 2) pa_nil))))
 (pss_one (ps_ret (pe_tup (pa_cons (pe_def D_copy_of (hr.mono (by decide)) rfl pass0 (pa_cons (pv 1) pa_nil)) (pa_cons (pv 1) (pa_cons (pe_callTy (call_tuple_ofK (K := K) rfl) (by rfl) T.tuple PyProof.Rows.boot_tuple (pa_cons (pv 2) pa_nil)) (pa_cons (pe_callTy (call_tuple_ofK (K := K) rfl) (by rfl) T.tuple PyProof.Rows.boot_tuple (pa_cons (pv 6) pa_nil)) pa_nil))))))))))))))), ?_⟩
    obtain ⟨dcx, fcs, hx, nox⟩ := hc.no
    obtain ⟨dx, tl, tg, hp, _⟩ := id hF
    have lF := ga.g.wf.len
    have lc := ok.ls.len
    refine ⟨_, rfl, x, c, rfl, hc, _, rfl, p, F, rfl, hF, _, rfl, _, rfl, x, p, c, F, k, rfl, hc, ok, hF, ga, by omega, fun S H1 s1 _ ldS => ?_⟩
    refine ⟨_, rfl, p, dx, _, rfl, s1 _ _ hp, fl_no (by decide +kernel), p, F, rfl, hF.same s1, fun l1 G1 s2 nl1 hL => ?_⟩
    obtain ⟨zs, hl1, dzs⟩ := Dv.lsts hL
    have lzs := dzs.len
    rw [List.length_map] at lzs
    refine ⟨l1, rfl, ⟨_, sq hl1⟩, fun D nD => ?_⟩
    have Dl : l1 ≠ D := fun e => by rw [e, nD] at hl1; cases hl1
    refine dc_it (walk_list (K := K) (a := l1) (xs := zs)) (fun i G => (∀ b o, b ≠ D → G1 b = some o → G b = some o) ∧ G D = some (.dK (dkv ((F.ls.take i).map fun l => (l.n, V.bl true))))) ⟨fun b o nb h => by rw [upd_ne nb]; exact h, upd_same⟩ (fun i G _ h => sq (h.1 _ _ Dl hl1)) ?_ ?_
    · rintro i y G2 G3 hi ⟨kp, hD⟩ ⟨rfl, hy⟩
      obtain ⟨l, hl, hv⟩ := dzs.getD' hy
      obtain ⟨ta, sa, rfl, hta, hsa⟩ := dv_lt hv
      have nTD : ta ≠ D := fun e => by rw [e, nD] at hta; cases hta
      have hta2 := kp _ _ nTD hta
      have nm : l.n ∉ ((F.ls.take i).map fun l => (l.n, V.bl true)).map (·.1) := by
        rw [List.map_map]
        intro z
        have pw := ga.a.up
        rw [take_sub hl, List.map_append, List.map_cons, List.pairwise_append] at pw
        have := pw.2.2 l.n z l.n List.mem_cons_self
        omega
      refine ⟨rfl, tyes ⟨_, rfl, ta, _, 0, .int l.n, rfl, rfl, st hta2, atI_nat (j := 0) rfl, _, Sum.inl l.n, rfl, hD, by rw [dkv_len, List.length_map, List.length_take]; exact lt1 _ (by omega), fun b o nb h => by rw [upd_ne nb]; exact kp b o nb h, ?_⟩⟩
      rw [upd_same, dkv_snoc nm, List.take_add_one, hl, List.map_append]; rfl
    rintro G2 ⟨kp, hD⟩
    rw [show zs.length = F.ls.length from lzs, List.take_length] at hD
    change G2 D = some (.dK (dkv (thereT F))) at hD
    have s02 := s1.trans s2
    have nDH : H D = none := s02.free nD
    have s3 : Same H G2 := fun b o hb => kp b o (fun e => by rw [e, nDH] at hb; cases hb) (s02 _ _ hb)
    have SD : S ≠ D := fun e => by
      obtain ⟨_, h, _⟩ := ldS
      have := s2 _ _ h
      rw [e, nD] at this; cases this
    have tkp : TU G1 G2 := fun b xs h => kp b _ (fun e => by rw [e, nD] at h; cases h) h
    have ldS : LD G2 S (sentM c F) := (ldS.same s2).to tkp fun o h => kp _ _ SD h
    clear hL hl1 Dl nl1 dzs lzs tkp kp nD s02 s2 s1
    refine name_go' ?_
    dsimp only
    refine ⟨_, rfl, x, dcx, _, rfl, s3 _ _ hx, nox (by decide +kernel), x, c, rfl, hc.same s3, _, rfl, p, dx, _, rfl, s3 _ _ hp, fl_no (by decide +kernel), p, F, rfl, hF.same s3, rfl, ?_⟩
    refine ⟨Nat.zero_le _, fun L nL => ?_⟩
    have sL := same_new nL (o := .lst [])
    have s4 := s3.trans sL
    have hD := sL _ _ hD
    have LS : S ≠ L := fun e => by obtain ⟨_, h, _⟩ := ldS; rw [e, nL] at h; cases h
    have ldS := ldS.same sL
    have hL : upd G2 L (.lst []) L = some (HO.lst ((([] : List Int).map V.int))) := upd_same
    have nLH := s3.free nL
    generalize upd G2 L (.lst []) = G3 at s4 hD ldS hL
    have LD' : D ≠ L := fun e => by rw [e, hL] at hD; cases hD
    clear s3 sL nL
    obtain ⟨xsS, hS0, dS0⟩ := ldS
    refine ⟨fun σ G => (∃ v4 v7 v8 v9 v10, σ = [some (.ref x), some (.ref p), some (.ref S), some (.ref D), v4, some (.bl (decide (V.int c.age = V.int F.age))), some (.ref L), v7, v8, v9, v10]) ∧ (∀ b o, b ≠ L → G3 b = some o → G b = some o) ∧ G L = some (.lst ((lostM c F).map V.int)), ?_, ?_⟩
    · refine ⟨_, rfl, x, dcx, _, rfl, s4 _ _ hx, nox (by decide +kernel), x, c, rfl, hc.same s4, fun l2 xs2 G5 s6 nl2 hl2 dl2 => ⟨l2, rfl, ⟨_, sq hl2⟩, ?_⟩⟩
      have n2L : l2 ≠ L := fun e => by rw [e, hL] at nl2; cases nl2
      have lx2 := dl2.len
      rw [List.length_map] at lx2
      refine for_list (K := K) (a := l2) (xs := xs2) (fun j σ G => (∃ v4 v7 v8 v9 v10, σ = [some (.ref x), some (.ref p), some (.ref S), some (.ref D), v4, some (.bl (decide (V.int c.age = V.int F.age))), some (.ref L), v7, v8, v9, v10]) ∧ (∀ b o, b ≠ L → G5 b = some o → G b = some o) ∧ G L = some (.lst ((((c.ls.take j).filter (lost1 c F)).map (·.n)).map V.int))) ?_ ?_ ?_ ?_
      · exact ⟨⟨_, _, _, _, _, rfl⟩, fun _ _ _ h => h, s6 _ _ hL⟩
      · rintro j σ G _ ⟨_, kp, _⟩
        exact sq (kp _ _ n2L hl2)
      · rintro j y σ G hy ⟨⟨v4, v7, v8, v9, v10, rfl⟩, kp, hLG⟩
        obtain ⟨l, hl, hv⟩ := dl2.getD' hy
        have hL5 := s6 _ _ hL
        have tu : TU G5 G := fun b zs h => kp b _ (fun e => by rw [e, hL5] at h; cases h) h
        obtain ⟨ta, sa, wv, rfl, hta, hsa, hw⟩ := dv_cl (hv.tu tu (tO_cl l))
        have okl := ok.ls.ok l (List.mem_of_getElem? hl)
        have hDG := kp _ _ LD' (s6 _ _ hD)
        have gv : DGet G D (.int l.n) (lookN (thereT F) l.n) := by
          have := DGet.k (k := Sum.inl l.n) hDG
          rw [dkv_val] at this
          exact this
        have ll : (((((c.ls.take j).filter (lost1 c F)).map (·.n)).map V.int)).length ≤ 900 := by
          rw [List.length_map, List.length_map]
          have := List.length_filter_le (lost1 c F) (c.ls.take j)
          rw [List.length_take] at this
          omega
        rw [filt_take (lost1 c F) hl]
        refine ⟨ta, _, rfl, st hta, rfl, _, _, rfl, _, _, rfl, _, _, rfl, _, _, rfl, rfl, ?_⟩
        have lw := lay_w okl.w
        have lsD := lay_w (w := some l.s) (fun ss e => by rw [← Option.some.inj e]; exact okl.s)
        refine ⟨_, rfl, _, rfl, wD l.w, wD (some l.s), (wv_dv hw).dp lw.nd, (wv_dv (v := .ref sa) (w := some l.s) ⟨sa, rfl, hsa⟩).dp lsD.nd, lw.sh, lsD.sh, _, rfl, ?_⟩
        rw [eqv_w]
        by_cases e1 : l.w = some l.s
        · rw [decide_eq_true e1]
          have e0 : lost1 c F l = false := by unfold lost1; rw [decide_eq_false (by simpa using e1)]; rfl
          refine itbF rfl (itbF rfl ⟨⟨_, _, _, _, _, rfl⟩, kp, ?_⟩)
          rw [if_neg (by rw [e0]; simp), List.append_nil]; exact hLG
        rw [decide_eq_false e1]
        refine itbT rfl ⟨_, rfl, _, rfl, ?_⟩
        have yes : lost1 c F l = true → G L = some (.lst ((((c.ls.take j).filter (lost1 c F)).map (·.n)).map V.int)) → (upd G L (.lst (((((c.ls.take j).filter (lost1 c F)).map (·.n)).map V.int) ++ [.int l.n]))) L = some (.lst ((((c.ls.take j).filter (lost1 c F) ++ if lost1 c F l = true then [l] else []).map (·.n)).map V.int)) := fun e _ => by
          rw [upd_same, if_pos e, List.map_append, List.map_append]; rfl
        by_cases ea : c.age = F.age
        · rw [decide_eq_true (by rw [ea])]
          refine itbT rfl ⟨_, rfl, _, rfl, D, _, rfl, gv, _, rfl, ?_⟩
          rw [thereT_look]
          cases e3 : (sgN F l.n).isSome with
          | true =>
            have e0 : lost1 c F l = false := by unfold lost1; rw [e3, decide_eq_true ea]; simp
            refine itbF rfl ⟨⟨_, _, _, _, _, rfl⟩, kp, ?_⟩
            rw [if_neg (by rw [e0]; simp), List.append_nil]; exact hLG
          | false =>
            have e0 : lost1 c F l = true := by unfold lost1; rw [e3, decide_eq_true (by simpa using e1)]; simp
            refine itbT rfl ⟨_, rfl, .inl ⟨rfl, _, sq hLG⟩, _, rfl, L, _, _, rfl, rfl, hLG, lt1 _ (by omega), ⟨_, _, _, _, _, rfl⟩, fun b o nb h => by rw [upd_ne nb]; exact kp b o nb h, yes e0 hLG⟩
        · rw [decide_eq_false (fun e => ea (V.int.inj e))]
          have e0 : lost1 c F l = true := by unfold lost1; rw [decide_eq_false ea, decide_eq_true (by simpa using e1)]; rfl
          refine itbF rfl (itbT rfl ⟨_, rfl, .inl ⟨rfl, _, sq hLG⟩, _, rfl, L, _, _, rfl, rfl, hLG, lt1 _ (by omega), ⟨_, _, _, _, _, rfl⟩, fun b o nb h => by rw [upd_ne nb]; exact kp b o nb h, yes e0 hLG⟩)
      · rintro σ G ⟨hσ, kp, hLG⟩
        rw [lx2, List.take_length] at hLG
        exact ⟨hσ, fun b o nb h => kp b o nb (s6 _ _ h), hLG⟩
    rintro σ G ⟨⟨v4, v7, v8, v9, v10, rfl⟩, kp, hLG⟩
    have sH : Same H G := fun b o hb => kp b o (fun e => by rw [e, nLH] at hb; cases hb) (s4 _ _ hb)
    have tu : TU G3 G := fun b zs h => kp b _ (fun e => by rw [e, hL] at h; cases h) h
    have hSG := kp _ _ LS hS0
    have dSG := dS0.tu tu (tO_dds _)
    have ln := sent_len (F := F) ok zz sz
    refine ⟨_, rfl, _, rfl, p, S, F, xsS, sentM c F, k, rfl, hF.same sH, ga.g.wf, by omega, .inl hSG, sent_dds ok zz dSG, canL_all F sent_can, hT.ext sH, fun p' J e1 t1 hF1 => ?_⟩
    have ga1 := ga_step ga ok zz sz k9
    refine ⟨_, rfl, p', stepM c F, k + 131, rfl, hF1, ga1, k9, fun y J2 s7 ny hy => ?_⟩
    have hSJ := s7 _ _ (e1 _ _ hSG fun _ z => by cases z)
    have hLJ := s7 _ _ (e1 _ _ hLG fun _ z => by cases z)
    refine ⟨_, rfl, _, rfl, S, xsS, rfl, .inl ⟨sq hSJ, fun sa nsa => ?_⟩⟩
    have s8 := same_new nsa (o := .tup xsS)
    refine ⟨_, rfl, L, _, rfl, .inl ⟨sq (s8 _ _ hLJ), fun la nla => ?_⟩⟩
    have s9 := same_new nla (o := .tup ((lostM c F).map V.int))
    refine ⟨by show 4 ≤ sizeLine; decide, fun r nr => ?_⟩
    have s10 := same_new nr (o := .tup [.ref y, .ref p', .ref sa, .ref la])
    have s89 := s8.trans (s9.trans s10)
    have eJ : LamX.ExtN H J2 := ((LamX.ExtN.of sH).trans e1).trans (LamX.ExtN.of s7)
    have dJ := (dSG.tu (TU.ext e1) (tO_dds _)).same (s7.trans s89)
    refine q r y p' sa la _ (eJ.trans (LamX.ExtN.of s89)) ((t1.ext s7).ext s89) ⟨upd_same, hy.same s89, hF1.same (s7.trans s89), ⟨xsS, (s9.trans s10) _ _ upd_same, dJ⟩, s10 _ _ upd_same⟩
end
end K1


set_option Elab.async false
set_option linter.all false
set_option maxRecDepth 100000
set_option maxHeartbeats 8000000
/-! rows of steps: the mathematics, and run. -/
namespace K1
open PySem PySem.Spec PyProof.Rows L2 RZ StX
structure RS where
  now : List Cp
  f : Fo
  sends : List Nat
def rstep (s : RS) (i : Nat) : RS := match s.now[i]? with
  | none => s
  | some c => ⟨s.now.set i (cpF (stepM c s.f)), stepM c s.f, s.sends ++ [(sentM c s.f).length]⟩
def rowF (s : RS) (row : List Nat) : RS := row.foldl rstep s
theorem rowF_take {s : RS} {row : List Nat} {j i : Nat} (h : row[j]? = some i) : rowF s (row.take (j + 1)) = rstep (rowF s (row.take j)) i := by
  unfold rowF
  rw [List.take_add_one, h, List.foldl_append]; rfl
theorem rowF_sends : ∀ (row : List Nat) (s : RS), (rowF s row).sends.length ≤ s.sends.length + row.length
  | [], s => Nat.le_refl _
  | i :: r, s => by
    have h := rowF_sends r (rstep s i)
    have k : (rstep s i).sends.length ≤ s.sends.length + 1 := by
      unfold rstep; split
      · exact Nat.le_succ _
      · rw [List.length_append]; exact Nat.le_refl _
    show (rowF (rstep s i) r).sends.length ≤ _
    rw [List.length_cons]; omega
theorem a2_at {α : Type} {R : V → α → Prop} : ∀ {xs : List V} {as : List α}, A2 R xs as → ∀ {i : Nat} {a : α}, as[i]? = some a → ∃ x, xs[i]? = some x ∧ R x a
  | _, _, .cons h _, 0, _, e => ⟨_, rfl, by rw [← Option.some.inj e]; exact h⟩
  | _, _, .cons _ r, i + 1, _, e => a2_at r (i := i) e
  | _, _, .nil, i, _, e => by simp at e
structure RG (k : Nat) (s : RS) : Prop where
  ga : GA k s.f
  gc : ∀ c ∈ s.now, GC c s.f
theorem gc_cpF {k : Nat} {F : Fo} (hk : k ≤ 900) (g : GA k F) : GC (cpF F) F := ⟨okCp_F hk g, cw4_cpF g, .inl (plain_cpF F), rfl, Int.le_refl _⟩
theorem GC.step {c d : Cp} {F : Fo} (h : GC c F) : GC c (stepM d F) := ⟨h.ok, h.z, h.sz, h.age.trans (step_age d F).symm, Int.le_trans h.mr (step_mr d F)⟩
theorem rg_step {k : Nat} {s : RS} (h : RG k s) (hk : k + 131 ≤ 900) (i : Nat) : RG (k + 131) (rstep s i) := by
  unfold rstep
  cases e : s.now[i]? with
  | none => exact ⟨h.ga.mono (by omega), h.gc⟩
  | some c =>
    have g := h.gc c (List.mem_of_getElem? e)
    have ga := ga_step h.ga g.ok g.z g.sz hk
    refine ⟨ga, fun d hd => ?_⟩
    rcases List.mem_or_eq_of_mem_set hd with hd | rfl
    · exact (h.gc d hd).step
    · exact gc_cpF (by omega) ga
theorem rstep_len (s : RS) (i : Nat) : (rstep s i).now.length = s.now.length := by
  unfold rstep; split
  · rfl
  · exact List.length_set ..
theorem rowF_len (row : List Nat) : ∀ s : RS, (rowF s row).now.length = s.now.length := by
  induction row with
  | nil => intro s; rfl
  | cons i r ih => intro s; exact (ih (rstep s i)).trans (rstep_len s i)
theorem rg_row : ∀ (row : List Nat) {k : Nat} {s : RS}, RG k s → k + 131 * row.length ≤ 900 → RG (k + 131 * row.length) (rowF s row)
  | [], k, s, h, _ => h
  | i :: r, k, s, h, hk => by
    rw [List.length_cons] at hk
    have := rg_row r (rg_step h (by omega) i) (by omega)
    rw [List.length_cons]
    exact (show k + 131 + 131 * r.length = k + 131 * (r.length + 1) by omega) ▸ this
abbrev natI (i : Nat) : V := .int (i : Int)
/-- what run tells -/
structure RunAt (K : PySem.W.Frag) (C CC : Addr) (G : Hp) (r : Addr) (s : RS) (ta q sa : Addr) (ys : List V) : Prop where
  at_ : G r = some (.tup [.ref ta, .ref q, .ref sa])
  t : G ta = some (.tup ys)
  ys : A2 (CpV K CC G) ys s.now
  q : FoAt C G q s.f
  s : G sa = some (.tup (s.sends.map natI))
theorem a2_set {α : Type} {R : V → α → Prop} : ∀ {xs : List V} {as : List α} {i : Nat} {x : V} {a : α}, A2 R xs as → R x a → A2 R (xs.set i x) (as.set i a)
  | _, _, _, _, _, .nil, _ => .nil
  | _, _, 0, _, _, .cons _ t, h => .cons h t
  | _, _, i + 1, _, _, .cons k t, h => .cons k (a2_set t h)
abbrev sRun : Stmt := st_run
abbrev nRun : List Str := ["copies", "folder", "row", "at", "index", "rows", "sends", "sent", "_"]
abbrev pRun : List Str := ["copies", "folder", "row"]
theorem scRun : FnScope nRun pRun (defScope sRun) := ⟨rfl, rfl, rfl, by decide +kernel, rfl, by decide +kernel, by decide +kernel⟩
structure Cs4' (mg : Str → Option Value) : Prop where
  MOST_COPIES : ∃ t, mg "MOST_COPIES" = some (.int 4 t)
def spRun (K : PySem.W.Frag) (C CC PA PT PS : Addr) : Sp := fun vs H Q _ => ∃ (ca p ra : Addr) (xs : List V) (cs : List Cp) (F : Fo) (row : List Nat) (k : Nat), vs = [.ref ca, .ref p, .ref ra] ∧ SeqH H ca xs ∧ A2 (CpV K CC H) xs cs ∧ cs.length ≤ 4 ∧ FoAt C H p F ∧ RG k ⟨cs, F, []⟩ ∧
  H ra = some (.tup (row.map natI)) ∧ (∀ i ∈ row, i < cs.length) ∧ k + 131 * row.length ≤ 900 ∧ LamX.Tabs (T3 PA PT PS) H ∧ ∀ r ta q sa ys H', LamX.ExtN H H' → LamX.Tabs (T3 PA PT PS) H' → RunAt K C CC H' r (rowF ⟨cs, F, []⟩ row) ta q sa ys → Q (.ref r) H'
/-- all but two lists and the tables stay -/
structure TwoN (C1 C2 : Addr) (H G : Hp) : Prop where
  k : ∀ b o, b ≠ C1 → b ≠ C2 → (∀ ps, o ≠ .tbl ps) → H b = some o → G b = some o
  l1 : ∃ xs, H C1 = some (.lst xs)
  l2 : ∃ xs, H C2 = some (.lst xs)
theorem TwoN.ext {C1 C2 : Addr} {H G J : Hp} (a : TwoN C1 C2 H G) (s : LamX.ExtN G J) : TwoN C1 C2 H J := ⟨fun b o n1 n2 t h => s _ _ (a.k b o n1 n2 t h) t, a.l1, a.l2⟩
theorem TwoN.m1 {C1 C2 : Addr} {H G : Hp} {o : HO} (a : TwoN C1 C2 H G) : TwoN C1 C2 H (upd G C1 o) := ⟨fun b u n1 n2 t h => by rw [upd_ne n1]; exact a.k b u n1 n2 t h, a.l1, a.l2⟩
theorem TwoN.m2 {C1 C2 : Addr} {H G : Hp} {o : HO} (a : TwoN C1 C2 H G) : TwoN C1 C2 H (upd G C2 o) := ⟨fun b u n1 n2 t h => by rw [upd_ne n2]; exact a.k b u n1 n2 t h, a.l1, a.l2⟩
theorem TwoN.get {C1 C2 : Addr} {H G : Hp} {b : Addr} {o : HO} (a : TwoN C1 C2 H G) (h : H b = some o) (n : ∀ xs, o ≠ .lst xs) (t : ∀ ps, o ≠ .tbl ps) : G b = some o := by
  obtain ⟨xs, h1⟩ := a.l1
  obtain ⟨ys, h2⟩ := a.l2
  exact a.k b o (fun e => by rw [e, h1] at h; exact n _ (Option.some.inj h).symm) (fun e => by rw [e, h2] at h; exact n _ (Option.some.inj h).symm) t h
theorem TwoN.ti {C1 C2 : Addr} {H G : Hp} (a : TwoN C1 C2 H G) : TI H G := ⟨fun b xs h => a.get h (fun _ z => by cases z) fun _ z => (by cases z), fun b C dx fs h => a.get h (fun _ z => by cases z) fun _ z => (by cases z)⟩
section
variable {P : Program} {w : World} {K : PySem.W.Frag} {mg : Str → Option Value} {base : Heap} {C CC PA PT PS : Addr}
set_option maxHeartbeats 32000000 in
theorem ok_run {f : Addr} {fd : FuncData} (T : Bk mg) (Co : Cs4' mg)
    (D_ks : Def P w K mg base CX0 2 "_check_copies" pKs (spKs K CC)) (D_cf : Def P w K mg base CX0 1 "_check_folder" pCo (spCf C)) (D_is_integer : Def P w K mg base CX0 1 "is_integer" pV spInt)
    (D_stepped : Def P w K mg base CX0 11 "stepped" pStp (spStp K C CC PA PT PS))
    (F : Fun K "run" "run" sRun f fd) : FnOk P w K mg base CX0 12 f fd pRun (spRun K C CC PA PT PS) := by
  have nd := scRun.nd
  refine F.ok scRun (fun vs H Q E h => ?_) (fun cdv A outer s H vs Q E hr h => ?_)
  · obtain ⟨ca, p, ra, xs, cs, F, row, k, rfl, _⟩ := h
    rfl
  · obtain ⟨ca, p, ra, xs, cs, F, row, k, rfl, hca, hA, l4, hF, rg, hra, hrow, hk, hT, q⟩ := h
    refine ⟨_, (pss_cons (ps_expr (pe_def D_ks (hr.mono (by decide)) rfl pass0 (pa_cons (pv 0) (pa_cons (pe_const Co.MOST_COPIES rfl) pa_nil))))
 (pss_cons (ps_expr (pe_def D_cf (hr.mono (by decide)) rfl pass0 (pa_cons (pv 1) pa_nil)))
 (pss_cons (ps_if (pt_not (pt_val (pe_callB (call_isiK1 (K := K) rfl) (by rfl) T.isinstance PyProof.Rows.boot_isinstance (pa_cons (pv 2) (pa_cons (pe_bltn (v := .ty "tuple") rfl T.tuple PyProof.Rows.boot_tuple rfl) pa_nil)))))
  pss_any
  pss_nil)
 (C8.pss_cut (ps_for PassesOwn.never rfl (pi_enumSK (K := K) rfl (by rfl) T.enumerate (pa_cons (pv 2) pa_nil)) (pg_tup rfl (pgs_cons (pg_name (i := 3) nd rfl (Or.inl rfl)) (pgs_cons (pg_name (i := 4) nd rfl (Or.inl rfl)) pgs_nil)))
  (pss_one (ps_if (PW.pt (pw_or (pt_not (pt_val (pe_def D_is_integer (hr.mono (by decide)) rfl pass0 (pa_cons (pv 4) pa_nil)))) (pw_or1 (pt_not (pt_chain op_le op_lt pe_int (pv 4) (pe_callB (call_lenK (K := K) rfl) (by rfl) T.len PySem.boot_len (pa_cons (pv 0) pa_nil)))))))
  pss_any
  pss_nil)))
 (pss_cons (ps_set (i := 5) nd rfl (Or.inl rfl) (pe_callTy (call_list_ofK (K := K) rfl) (by rfl) T.list PyProof.Rows.boot_list (pa_cons (pv 0) pa_nil)))
 (pss_cons (ps_set (i := 6) nd rfl (Or.inl rfl) (pe_lst pa_nil))
 (C8.pss_cut (ps_for PassesOwn.never rfl (pi_tupK (K := K) rfl (pv 2)) (pg_name (i := 4) nd rfl (Or.inl rfl))
  (pss_cons (ps_asg (pe_def D_stepped (hr.mono (by decide)) rfl pass0 (pa_cons (pe_ix (ix_listK (K := K) rfl) (pv 5) (pv 4) (fun _ _ => rfl)) (pa_cons (pv 1) pa_nil))) (pg_tup rfl (pgs_cons (pg_sub (pv 5) (pv 4) set_list) (pgs_cons (pg_name (i := 1) nd rfl (Or.inl rfl)) (pgs_cons (pg_name (i := 7) nd rfl (Or.inl rfl)) (pgs_cons (pg_name (i := 8) nd rfl (Or.inl rfl)) pgs_nil))))))
 (pss_one (ps_expr (pe_bm PySem.F.plainAttrs_list PySem.F.slot_list_append PySem.F.type_list_append mt_append (pv 6) (pa_cons (pe_callB (call_lenK (K := K) rfl) (by rfl) T.len PySem.boot_len (pa_cons (pv 7) pa_nil)) pa_nil))))))
 (pss_one (ps_ret (pe_tup (pa_cons (pe_callTy (call_tuple_ofK (K := K) rfl) (by rfl) T.tuple PyProof.Rows.boot_tuple (pa_cons (pv 5) pa_nil)) (pa_cons (pv 1) (pa_cons (pe_callTy (call_tuple_ofK (K := K) rfl) (by rfl) T.tuple PyProof.Rows.boot_tuple (pa_cons (pv 6) pa_nil)) pa_nil))))))))))))), ?_⟩
    have lx := hA.len
    refine ⟨_, rfl, ca, xs, cs, rfl, hca, hA, l4, fun H1 s1 => ?_⟩
    refine ⟨_, rfl, p, F, rfl, hF.same s1, ?_⟩
    have hra1 := s1 _ _ hra
    refine ⟨_, rfl, .ref ra, .ty "tuple", .type "tuple", .type "tuple", true, rfl, .ty _, .base (.tup hra1), kit_ty (by decide +kernel), _, rfl, itbF rfl ?_⟩
    refine ⟨fun σ G => (∃ v3 v4, σ = [some (.ref ca), some (.ref p), some (.ref ra), v3, v4, none, none, none, none]) ∧ Same H1 G, ?_, ?_⟩
    · refine ⟨_, rfl, ra, row.map natI, rfl, for_enumS (K := K) (H0 := H1) (a := ra) (xs := row.map natI) (.inr (st hra1)) (fun i σ G => (∃ v3 v4, σ = [some (.ref ca), some (.ref p), some (.ref ra), v3, v4, none, none, none, none]) ∧ Same H1 G) ?_ ?_ ?_ ?_⟩
      · exact ⟨⟨_, _, rfl⟩, fun _ _ h => h⟩
      · rintro i σ G ⟨_, s2⟩
        exact s2
      · rintro i y σ G Tt hy ⟨⟨v3, v4, rfl⟩, s2⟩ nT
        rw [List.getElem?_map] at hy
        obtain ⟨z, hz, rfl⟩ := Option.map_eq_some_iff.mp hy
        have zl := hrow z (List.mem_of_getElem? hz)
        have sT := same_new (H := G) nT (o := .tup [.int (i : Nat), natI z])
        refine ⟨Tt, [.int (i : Nat), natI z], rfl, st upd_same, rfl, _, _, rfl, _, _, rfl, rfl, ?_⟩
        refine ⟨_, rfl, (z : Int), rfl, _, rfl, itbF rfl ?_⟩
        refine ⟨_, rfl, _, _, rfl, rfl, _, rfl, itbT (decide_eq_true (Int.natCast_nonneg z)) ⟨_, rfl, ca, xs, rfl, ((hca.same s1).same (s2.trans sT)).len, _, _, rfl, rfl, _, rfl, itbF (by rw [decide_eq_true (by rw [lx]; exact Int.ofNat_lt.mpr zl)]; rfl) ⟨⟨_, _, rfl⟩, s2.trans sT⟩⟩⟩
      · rintro σ G ⟨hσ, s2⟩
        exact ⟨hσ, s2⟩
    rintro σ G ⟨⟨v3, v4, rfl⟩, s2⟩
    have s3 := s1.trans s2
    have hca3 := hca.same s3
    have newl : ∀ R, G R = none → ∃ v5, v5 = V.ref R := fun R _ => ⟨_, rfl⟩
    refine ⟨_, rfl, ca, xs, rfl, hca3.len, fun R nR => ?_⟩
    have s4 := s3.new nR (o := .lst xs)
    have k1 := same_new nR (o := .lst xs)
    have hR : upd G R (.lst xs) R = some (.lst xs) := upd_same
    have nRH := s3.free nR
    generalize upd G R (.lst xs) = G1 at s4 hR k1
    refine ⟨Nat.zero_le _, fun N nN => ?_⟩
    have s5 := s4.new nN (o := .lst [])
    have RN : R ≠ N := fun e => by rw [e, nN] at hR; cases hR
    have hR := same_new nN (o := .lst []) _ _ hR
    have hN : upd G1 N (.lst []) N = some (.lst (([] : List Nat).map natI)) := upd_same
    have nNH := s4.free nN
    generalize upd G1 N (.lst []) = G2 at s5 hR hN
    have hra5 := s5 _ _ hra
    have two0 : TwoN R N G2 G2 := ⟨fun _ _ _ _ _ h => h, ⟨_, hR⟩, ⟨_, hN⟩⟩
    refine ⟨fun σ J => ∃ (p' : Addr) (v3 v4 v7 v8 : Option V) (ys : List V), σ = [some (.ref ca), some (.ref p'), some (.ref ra), v3, v4, some (.ref R), some (.ref N), v7, v8] ∧ TwoN R N G2 J ∧ LamX.Tabs (T3 PA PT PS) J ∧ J R = some (.lst ys) ∧ A2 (CpV K CC J) ys (rowF ⟨cs, F, []⟩ row).now ∧ FoAt C J p' (rowF ⟨cs, F, []⟩ row).f ∧ J N = some (.lst ((rowF ⟨cs, F, []⟩ row).sends.map natI)), ?_, ?_⟩
    · refine ⟨_, rfl, ra, rfl, ⟨_, st hra5⟩, for_tup (K := K) (a := ra) (xs := row.map natI) (fun j σ J => ∃ (p' : Addr) (v3 v4 v7 v8 : Option V) (ys : List V), σ = [some (.ref ca), some (.ref p'), some (.ref ra), v3, v4, some (.ref R), some (.ref N), v7, v8] ∧ TwoN R N G2 J ∧ LamX.Tabs (T3 PA PT PS) J ∧ J R = some (.lst ys) ∧ A2 (CpV K CC J) ys (rowF ⟨cs, F, []⟩ (row.take j)).now ∧ FoAt C J p' (rowF ⟨cs, F, []⟩ (row.take j)).f ∧ J N = some (.lst ((rowF ⟨cs, F, []⟩ (row.take j)).sends.map natI))) ?_ ?_ ?_ ?_⟩
      · exact ⟨p, _, _, _, _, xs, rfl, two0, hT.ext s5, hR, hA.imp fun _ _ h => h.ti (TI.same s5), hF.same s5, hN⟩
      · rintro j σ J _ ⟨p', v3, v4, v7, v8, ys, rfl, tw, _⟩
        exact st (tw.get hra5 (fun _ z => by cases z) fun _ z => by cases z)
      · rintro j y σ J hy ⟨p', v3, v4, v7, v8, ys, rfl, tw, tJ, hRJ, aJ, fJ, hNJ⟩
        rw [List.getElem?_map] at hy
        obtain ⟨z, hz, rfl⟩ := Option.map_eq_some_iff.mp hy
        have zl := hrow z (List.mem_of_getElem? hz)
        have jl : j < row.length := lt_of_get hz
        have rgj := rg_row (row.take j) rg (by rw [List.length_take]; omega)
        have lnow : (rowF ⟨cs, F, []⟩ (row.take j)).now.length = cs.length := rowF_len _ _
        have lse := rowF_sends (row.take j) ⟨cs, F, []⟩
        rw [List.length_take] at lse
        have lse : (rowF ⟨cs, F, []⟩ (row.take j)).sends.length ≤ 9 := by
          have : ([] : List Nat).length = 0 := rfl
          have e0 : (⟨cs, F, []⟩ : RS).sends.length = 0 := rfl
          omega
        rw [rowF_take hz]
        generalize rowF ⟨cs, F, []⟩ (row.take j) = S at aJ fJ hNJ rgj lnow lse
        obtain ⟨c, hc⟩ : ∃ c, S.now[z]? = some c := ⟨S.now[z], List.getElem?_eq_getElem (by omega)⟩
        have ly := aJ.len
        have er : rstep S z = ⟨S.now.set z (cpF (stepM c S.f)), stepM c S.f, S.sends ++ [(sentM c S.f).length]⟩ := by unfold rstep; rw [hc]
        rw [er]
        have gc := rgj.gc c (List.mem_of_getElem? hc)
        obtain ⟨v, hv, a, rfl, hcx⟩ := a2_at aJ hc
        have kj : k + 131 * (row.take j).length + 131 ≤ 900 := by rw [List.length_take]; omega
        refine ⟨_, rfl, _, rfl, R, ys, (z : Int), .ref a, rfl, rfl, sq hRJ, atI_nat hv, _, rfl, a, p', c, S.f, _, rfl, hcx, gc.ok, gc.z, gc.sz, fJ, rgj.ga, kj, tJ, fun r y q' sa la J' e' t' stt => ?_⟩
        have hRJ' := e' _ _ hRJ fun _ z => by cases z
        have hNJ' := e' _ _ hNJ fun _ z => by cases z
        obtain ⟨xsS, hsa, dsa⟩ := stt.s
        have lS := dsa.len
        rw [List.length_map] at lS
        refine ⟨r, _, rfl, st stt.at_, rfl, _, _, rfl, _, rfl, _, rfl, R, ys, (z : Int), z, rfl, rfl, hRJ', Evl.ixN_nat (by omega), _, _, rfl, _, _, rfl, _, _, rfl, rfl, ?_⟩
        have hN2 : upd J' R (.lst (ys.set z (.ref y))) N = some (.lst (S.sends.map natI)) := by rw [upd_ne RN.symm]; exact hNJ'
        have hR2 : upd J' R (.lst (ys.set z (.ref y))) R = some (.lst (ys.set z (.ref y))) := upd_same
        have ti : TI J' (upd J' R (.lst (ys.set z (.ref y)))) := TI.mut hRJ' (fun _ z => by cases z) fun _ _ _ z => by cases z
        have tb := tabs_mutL (o := .lst (ys.set z (.ref y))) hRJ' t'
        have tw2 := (tw.ext e').m1 (o := .lst (ys.set z (.ref y)))
        have tiA : TI J (upd J' R (.lst (ys.set z (.ref y)))) := (TI.en e').trans ti
        have aN : A2 (CpV K CC (upd J' R (.lst (ys.set z (.ref y))))) (ys.set z (.ref y)) (S.now.set z (cpF (stepM c S.f))) := a2_set (aJ.imp fun _ _ h => h.ti tiA) ⟨y, rfl, stt.y.ti ti⟩
        have fN := stt.q.ti ti
        have hsa2 := ti.t _ _ hsa
        generalize upd J' R (.lst (ys.set z (.ref y))) = J2 at hN2 hR2 tb tw2 aN fN hsa2
        refine ⟨_, rfl, .inl ⟨rfl, _, sq hN2⟩, _, rfl, sa, xsS, rfl, .inr (st hsa2), N, _, _, rfl, rfl, hN2, lt1 _ (by rw [List.length_map]; omega), ?_⟩
        have ti2 : TI J2 (upd J2 N (.lst (S.sends.map natI ++ [.int xsS.length]))) := TI.mut hN2 (fun _ z => by cases z) fun _ _ _ z => by cases z
        refine ⟨q', _, _, _, _, ys.set z (.ref y), rfl, tw2.m2, tabs_mutL hN2 tb, by rw [upd_ne RN]; exact hR2, aN.imp fun _ _ h => h.ti ti2, fN.ti ti2, ?_⟩
        rw [upd_same, List.map_append, lS]; rfl
      · rintro σ J ⟨p', v3, v4, v7, v8, ys, rfl, tw, tJ, hRJ, aJ, fJ, hNJ⟩
        rw [List.length_map, List.take_length] at aJ fJ hNJ
        exact ⟨p', v3, v4, v7, v8, ys, rfl, tw, tJ, hRJ, aJ, fJ, hNJ⟩
    rintro σ J ⟨p', v3, v4, v7, v8, ys, rfl, tw, tJ, hRJ, aJ, fJ, hNJ⟩
    have eJ : LamX.ExtN H J := fun b o hb t => tw.k b o (fun e => by rw [e, nRH] at hb; cases hb) (fun e => by rw [e, nNH] at hb; cases hb) t (s5 _ _ hb)
    refine ⟨_, rfl, R, ys, rfl, .inl ⟨sq hRJ, fun ta nta => ?_⟩⟩
    have t1 := same_new nta (o := .tup ys)
    refine ⟨_, rfl, _, rfl, N, _, rfl, .inl ⟨sq (t1 _ _ hNJ), fun sa nsa => ?_⟩⟩
    have t2 := same_new nsa (o := .tup ((rowF ⟨cs, F, []⟩ row).sends.map natI))
    refine ⟨by show 3 ≤ sizeLine; decide, fun r nr => ?_⟩
    have t3 := same_new nr (o := .tup [.ref ta, .ref p', .ref sa])
    have t13 := t1.trans (t2.trans t3)
    exact q r ta p' sa ys _ (eJ.trans (LamX.ExtN.of t13)) (tJ.ext t13) ⟨upd_same, (t2.trans t3) _ _ upd_same, aJ.imp fun _ _ h => h.ti (TI.same t13), fJ.same t13, t3 _ _ upd_same⟩
end
end K1


set_option Elab.async false
set_option linter.all false
set_option maxRecDepth 100000
set_option maxHeartbeats 8000000
/-! _law_offline, _law_copies. -/
namespace K1
open PySem PySem.Spec PyProof.Rows L2 RZ StX
abbrev sOff : Stmt := st__law_offline
abbrev nOff : List Str := ["_law_source_here", "_law_copy", "_law_deeds", "_law_numbers", "_law_turn", "_law_number", "_law_letter"]
abbrev pOff : List Str := ["_law_source_here", "_law_copy", "_law_deeds"]
theorem scOff : FnScope nOff pOff (defScope sOff) := ⟨rfl, rfl, rfl, by decide +kernel, rfl, by decide +kernel, by decide +kernel⟩
/-- a copy that was changed offline -/
structure Off (c d : Cp) : Prop where
  ok : OkCp d
  z : CW4 d
  age : d.age = c.age
  mr : d.mr = c.mr
  md : d.md = c.md
  ns : d.ls.map (·.n) = c.ls.map (·.n)
theorem Off.len {c d : Cp} (h : Off c d) : d.ls.length = c.ls.length := by have := congrArg List.length h.ns; simpa using this
theorem cw4_W {c : Cp} {n : Int} {w : Option (List Str)} (h : CW4 c) (hw : ∀ ss, w = some ss → W4 ss) : CW4 (cpW c n w) := by
  refine ⟨fun l hl => ?_, fun l hl ss e => ?_, h.m⟩
  · obtain ⟨x, hx, rfl⟩ := List.mem_map.mp hl
    unfold setW; split
    · exact h.s x hx
    · exact h.s x hx
  · obtain ⟨x, hx, rfl⟩ := List.mem_map.mp hl
    unfold setW at e
    split at e
    · exact hw ss e
    · exact h.w x hx ss e
theorem Off.W {c d : Cp} (h : Off c d) {n : Int} {w : Option (List Str)} (hw : ∀ ss, w = some ss → OkSs ss ∧ W4 ss) : Off c (cpW d n w) :=
  ⟨okCp_W h.ok fun ss e => (hw ss e).1, cw4_W h.z fun ss e => (hw ss e).2, h.age, h.mr, h.md, (map_setW n w d.ls).trans h.ns⟩
theorem Ext.trans' {p : Addr} {H G J : Hp} (a : Ext p H G) (b : Ext p G J) : Ext p H J := fun x o n h => b x o n (a x o n h)
theorem ints_lay {ns : List Int} : LayD 2 (.list (ns.map PyData.int)) := .lst (LayA.map (k := 1) fun n _ => .int n)
def spOff (K : PySem.W.Frag) (CC : Addr) : Sp := fun vs H Q _ => ∃ (p x : Addr) (d : Int) (c : Cp), vs = [.ref p, .ref x, .int d] ∧ WellAt H p ∧ CpAt K CC H x c ∧ OkCp c ∧ CW4 c ∧ 0 ≤ d ∧ d ≤ 20 ∧ ∀ y c' H', Ext p H H' → WellAt H' p → CpAt K CC H' y c' → Off c c' → Q (.ref y) H'
abbrev sCps : Stmt := st__law_copies
abbrev nCps : List Str := ["_law_source_here", "_law_folder_here", "_law_many", "_law_found", "_law_turn"]
abbrev pCps : List Str := ["_law_source_here", "_law_folder_here", "_law_many"]
theorem scCps : FnScope nCps pCps (defScope sCps) := ⟨rfl, rfl, rfl, by decide +kernel, rfl, by decide +kernel, by decide +kernel⟩
/-- what _law_copies tells -/
structure CpsAt (K : PySem.W.Frag) (C CC : Addr) (G : Hp) (r ta q : Addr) (xs : List V) (cs : List Cp) (F : Fo) : Prop where
  at_ : G r = some (.tup [.ref ta, .ref q])
  t : G ta = some (.tup xs)
  xs : A2 (CpV K CC G) xs cs
  q : FoAt C G q F
/-- copies that were drawn -/
structure Drw (k : Nat) (cs : List Cp) (F : Fo) : Prop where
  ga : GA k F
  gc : ∀ c ∈ cs, GC c F ∧ c.md = [] ∧ c.ls.length ≤ 10
def spCps (K : PySem.W.Frag) (C CC PA PT PS : Addr) : Sp := fun vs H Q _ => ∃ (p f : Addr) (F : Fo) (m : Nat), vs = [.ref p, .ref f, .int (m : Int)] ∧ WellAt H p ∧ m ≤ 4 ∧ FoAt C H f F ∧ GA 7 F ∧ LamX.Tabs (T3 PA PT PS) H ∧
  ∀ r ta q xs cs F' H', ENL p H H' → WellAt H' p → LamX.Tabs (T3 PA PT PS) H' → CpsAt K C CC H' r ta q xs cs F' → Drw 11 cs F' → cs.length = m → Q (.ref r) H'
theorem Drw.does {k : Nat} {cs : List Cp} {F : Fo} (h : Drw k cs F) (hk : k ≤ 900) {d : Dd} (o : OkD d) (z : W4D d) : Drw (k + 1) cs (does d F) :=
  ⟨ga_does (by omega) h.ga o z, fun c hc => let ⟨g, m, l⟩ := h.gc c hc; ⟨⟨g.ok, g.z, g.sz, g.age.trans (does_age F d).symm, Int.le_trans g.mr (does_mr F d)⟩, m, l⟩⟩
section
variable {P : Program} {w : World} {K : PySem.W.Frag} {mg : Str → Option Value} {base : Heap} {C CC PA PT PS : Addr}
set_option maxHeartbeats 16000000 in
theorem ok_off {f : Addr} {fd : FuncData} (T : Bk mg) (tc : CcT K mg CC) (M_letters : MDef P w K mg base CX0 1 CC "letters" nSelf (spCLet K CC)) (M_wanting : MDef P w K mg base CX0 7 CC "wanting" nCWt (spWt K CC)) (M_dropping : MDef P w K mg base CX0 7 CC "dropping" nCDr (spDr K CC))
    (D_next : Def P w K mg base CX0 2 "_law_next" pNx spNx) (D_one : Def P w K mg base CX0 3 "_law_one" nOne spOneS) (D_signs : Def P w K mg base CX0 3 "_law_signs" pSg spSg4)
    (F : Fun K "_law_offline" "_law_offline" sOff f fd) : FnOk P w K mg base CX0 8 f fd pOff (spOff K CC) := by
  have nd := scOff.nd
  refine F.ok scOff (fun vs H Q E h => ?_) (fun cdv A outer s H vs Q E hr h => ?_)
  · obtain ⟨p, x, d, c, rfl, _⟩ := h
    rfl
  · obtain ⟨p, x, d, c, rfl, wp, hc, ok, z4, d0, d20, q⟩ := h
    refine ⟨_, (pss_cons (ps_setLc (i := 3) (own := [("_law_letter", 6)]) (g := gName 6) (tt := tYes) rfl nd rfl rfl (sw_true rfl rfl rfl (by decide +kernel)) (pi_listK (K := K) rfl (pe_mdef0 M_letters tc.cl (hr.mono (by decide)) pass0 (pv 1))) (blkOk_by (own := [("_law_letter", 6)]) (N := nOff) (sc := defScope sOff) (by decide +kernel)) (fun _ _ _ _ _ => pg_name (i := 6) nd rfl (Or.inl rfl)) (fun _ _ _ _ _ => pts_nil) (fun _ _ _ _ _ => (pe_ix (ix_tupK (K := K) rfl) (pv 6) pe_int (fun _ _ => rfl))))
 (C8.pss_cut (ps_for PassesOwn.never rfl (pi_range1 rfl T.range (pa_cons (pe_op op_mul (pv 2) (pe_callTy call_int1 (by rfl) T.int PyProof.Rows.boot_int (pa_cons (pe_cmpR (op_neDK (K := K) rfl hr.units) (pv 3) (pe_lst pa_nil) (nomark _)) pa_nil))) pa_nil)) (pg_name (i := 4) nd rfl (Or.inl rfl))
  (pss_cons (ps_set (i := 5) nd rfl (Or.inl rfl) (pe_def D_one (hr.mono (by decide)) rfl pass0 (pa_cons (pv 0) (pa_cons (pv 3) pa_nil))))
 (pss_one (ps_if (pt_cmpR op_eq (pe_def D_next (hr.mono (by decide)) rfl pass0 (pa_cons (pv 0) (pa_cons pe_int pa_nil))) pe_int (nomark _))
  (pss_one (ps_set (i := 1) nd rfl (Or.inl rfl) (pe_mdef M_dropping tc.cl (hr.mono (by decide)) pass0 (pv 1) (pa_cons (pv 5) pa_nil))))
  (pss_one (ps_set (i := 1) nd rfl (Or.inl rfl) (pe_mdef M_wanting tc.cl (hr.mono (by decide)) pass0 (pv 1) (pa_cons (pv 5) (pa_cons (pe_def D_signs (hr.mono (by decide)) rfl pass0 (pa_cons (pv 0) (pa_cons pe_int pa_nil))) pa_nil)))))))))
 (pss_one (ps_ret (pv 1))))), ?_⟩
    obtain ⟨dx, fs, hx, nox⟩ := hc.no
    have lc := ok.ls.len
    refine ⟨_, rfl, x, dx, _, rfl, hx, nox (by decide +kernel), x, c, rfl, hc, fun l0 ys H1 s1 nl0 hl0 dys => ?_⟩
    have lys := dys.len
    rw [List.length_map] at lys
    refine ⟨l0, rfl, ⟨_, sq hl0⟩, fun L nL => ?_⟩
    refine lc_sel (walk_list (K := K)) (a2_of dys) nL (fun G s => sq (s _ _ hl0)) (by omega) (fun l => some l.n) (out := fun y n => y = .int n) ?_ ?_
    · rintro y l G T' S' hy hm s2 hT' hS
      obtain ⟨ta, sa, wv, rfl, hta, _, _⟩ := dv_cl hy
      exact ⟨rfl, tyes ⟨_, rfl, ta, _, 0, .int l.n, rfl, rfl, st (s2 _ _ hta), atI_nat (j := 0) rfl, hT' _ _ _ (fun _ _ h => h) rfl rfl⟩⟩
    intro G acc sG hL hA
    rw [fm_map] at hA
    obtain rfl : acc = (c.ls.map (·.n)).map V.int := by
      have : ∀ {xs : List V} {ns : List Int}, A2 (fun y n => y = V.int n) xs ns → xs = ns.map V.int := by
        intro xs ns h
        induction h with
        | nil => rfl
        | cons e _ ih => rw [e, ih]; rfl
      exact this hA
    have s01 := s1.trans sG
    have w1 := wp.sm s01
    have Lp : L ≠ p := fun e => by
      obtain ⟨a, b, c', h⟩ := wp
      have := s1 _ _ h
      rw [← e, nL] at this; cases this
    clear hl0 dys nl0
    refine name_go' ?_
    dsimp only
    refine ⟨fun σ J => ∃ (y : Addr) (v4 v5 : Option V) (c' : Cp), σ = [some (.ref p), some (.ref y), some (.int d), some (.ref L), v4, v5, none] ∧ Ext p H J ∧ WellAt J p ∧ CpAt K CC J y c' ∧ Off c c', ?_, ?_⟩
    · refine ⟨_, rfl, _, rfl, Nat.zero_le _, fun N nN => ?_⟩
      have s2 := same_new nN (o := .lst [])
      have hL2 := s2 _ _ hL
      have ly := ints_lay (ns := c.ls.map (·.n))
      refine ⟨.list ((c.ls.map (·.n)).map PyData.int), .list [], (Dv.lst hL2 (dva_ints _)).dp ly.nd, (Dv.lst upd_same .nil).dp rfl, ly.sh, rfl, .inr ⟨_, rfl, ?_⟩⟩
      have ev : PyData.eqv (.list ((c.ls.map (·.n)).map PyData.int)) (.list []) = decide ((c.ls.map (·.n)) = []) := eqv_ints _ []
      rw [ev]
      have s02 := s01.trans s2
      have wp2 := w1.sm s2
      generalize upd G N (.lst []) = G2 at s02 wp2 hL2
      generalize hb : (if (!decide ((c.ls.map (·.n)) = [])) = true then (1 : Int) else 0) = b
      have hb2 : (b = 0 ∨ b = 1) ∧ (b = 1 → (c.ls.map (·.n)) ≠ []) := by
        by_cases e : (c.ls.map (·.n)) = []
        · rw [decide_eq_true e] at hb; rw [← hb]; exact ⟨.inl rfl, fun k => by simp at k⟩
        · rw [decide_eq_false e] at hb; rw [← hb]; exact ⟨.inr rfl, fun _ => e⟩
      refine ⟨_, _, rfl, rfl, .inl ⟨by omega, by omega⟩, _, rfl, ?_⟩
      have hdb : 0 ≤ d * b ∧ d * b ≤ 20 := by rcases hb2.1 with e | e <;> (rw [e]; omega)
      refine ⟨by omega, by omega, for_range (lo := 0) (n := (d * b).toNat) (fun j σ J => ∃ (y : Addr) (v4 v5 : Option V) (c' : Cp), σ = [some (.ref p), some (.ref y), some (.int d), some (.ref L), v4, v5, none] ∧ Ext p H J ∧ WellAt J p ∧ CpAt K CC J y c' ∧ Off c c' ∧ J L = some (.lst ((c.ls.map (·.n)).map V.int))) ?_ ?_ ?_⟩
      · exact ⟨x, _, _, c, rfl, same_ext s02, wp2, hc.same s02, ⟨ok, z4, rfl, rfl, rfl, rfl⟩, hL2⟩
      · rintro j σ J hj ⟨y, v4, v5, c', rfl, eJ, wJ, cJ, oJ, hLJ⟩
        have b1 : b = 1 := by rcases hb2.1 with e | e; (rw [e] at hj; simp at hj); exact e
        have ne := hb2.2 b1
        have lp : 0 < (c.ls.map (·.n)).length := by
          cases h : c.ls.map (·.n) with
          | nil => exact absurd h ne
          | cons _ _ => exact Nat.succ_pos _
        have lq : (c.ls.map (·.n)).length ≤ 900 := by rw [List.length_map]; exact lc
        refine ⟨_, rfl, _, rfl, p, L, (c.ls.map (·.n)).map V.int, rfl, wJ, .inl hLJ, Lp, by rw [List.length_map]; exact lp, by rw [List.length_map]; omega, fun i v G3 hi e3 w3 => ?_⟩
        rw [List.getElem?_map] at hi
        obtain ⟨n, hn, rfl⟩ := Option.map_eq_some_iff.mp hi
        have nm : n ∈ c'.ls.map (·.n) := by rw [oJ.ns]; exact List.mem_of_getElem? hn
        have ti3 := TI.w wJ e3
        have hL3 := e3 _ _ Lp hLJ
        refine ⟨_, rfl, p, 6, rfl, w3, by decide, by decide, fun r G4 r0 r6 e4 w4 => ⟨rfl, _, rfl, ?_⟩⟩
        have c4 := (cJ.ti ti3).ti (TI.w w3 e4)
        have hL4 := e4 _ _ Lp hL3
        have eHJ := (eJ.trans e3).trans e4
        obtain ⟨dy, gs, hy, noy⟩ := c4.no
        by_cases r00 : r = 0
        · refine itbT (decide_eq_true (by rw [r00])) ⟨_, rfl, y, dy, _, rfl, hy, noy (by decide +kernel), _, rfl, y, n, c', rfl, c4, oJ.ok, nm, fun z G5 s5 nz hz => ?_⟩
          exact ⟨z, _, _, cpW c' n none, rfl, eHJ.trans (same_ext s5), w4.sm s5, hz, oJ.W fun ss e => (by cases e), s5 _ _ hL4⟩
        · refine itbF (decide_eq_false fun e => r00 (V.int.inj e)) ⟨_, rfl, y, dy, _, rfl, hy, noy (by decide +kernel), _, rfl, _, rfl, p, rfl, w4, fun sa ss G5 e5 w5 hsa oss zss => ?_⟩
          refine ⟨y, n, sa, c', ss, rfl, c4.ti (TI.w w4 e5), oJ.ok, nm, hsa, oss, fun z G6 s6 nz hz => ?_⟩
          exact ⟨z, _, _, cpW c' n (some ss), rfl, (eHJ.trans e5).trans (same_ext s6), w5.sm s6, hz, oJ.W fun s e => (by rw [← Option.some.inj e]; exact ⟨oss, zss⟩), s6 _ _ (e5 _ _ Lp hL4)⟩
      · rintro σ J ⟨y, v4, v5, c', rfl, eJ, wJ, cJ, oJ, _⟩
        exact ⟨y, _, _, c', rfl, eJ, wJ, cJ, oJ⟩
    rintro σ J ⟨y, v4, v5, c', rfl, eJ, wJ, cJ, oJ⟩
    exact ⟨_, rfl, q y c' J eJ wJ cJ oJ⟩
set_option maxHeartbeats 16000000 in
theorem ok_cps {f : Addr} {fd : FuncData} (T : Bk mg) (D_next : Def P w K mg base CX0 2 "_law_next" pNx spNx) (D_offline : Def P w K mg base CX0 8 "_law_offline" pOff (spOff K CC)) (D_copy_of : Def P w K mg base CX0 6 "copy_of" pCo (spCo K C CC))
    (D_deed : Def P w K mg base CX0 4 "_law_deed" pDe spDe) (D_played : Def P w K mg base CX0 10 "played" pPlayed (spPlayed C PA PT PS))
    (F : Fun K "_law_copies" "_law_copies" sCps f fd) : FnOk P w K mg base CX0 11 f fd pCps (spCps K C CC PA PT PS) := by
  have nd := scCps.nd
  refine F.ok scCps (fun vs H Q E h => ?_) (fun cdv A outer s H vs Q E hr h => ?_)
  · obtain ⟨p, f, F, m, rfl, _⟩ := h
    rfl
  · obtain ⟨p, f, F, m, rfl, wp, m4, hF, ga, hT, q⟩ := h
    refine ⟨_, (pss_cons (ps_set (i := 3) nd rfl (Or.inl rfl) (pe_lst pa_nil))
 (C8.pss_cut (ps_for PassesOwn.never rfl (pi_range1 rfl T.range (pa_cons (pv 2) pa_nil)) (pg_name (i := 4) nd rfl (Or.inl rfl))
  (pss_cons (ps_expr (pe_bm PySem.F.plainAttrs_list PySem.F.slot_list_append PySem.F.type_list_append mt_append (pv 3) (pa_cons (pe_def D_offline (hr.mono (by decide)) rfl pass0 (pa_cons (pv 0) (pa_cons (pe_def D_copy_of (hr.mono (by decide)) rfl pass0 (pa_cons (pv 1) pa_nil)) (pa_cons (pe_def D_next (hr.mono (by decide)) rfl pass0 (pa_cons (pv 0) (pa_cons pe_int pa_nil))) pa_nil)))) pa_nil)))
 (pss_one (ps_if (pt_cmpR op_eq (pe_def D_next (hr.mono (by decide)) rfl pass0 (pa_cons (pv 0) (pa_cons pe_int pa_nil))) pe_int (nomark _))
  (pss_one (ps_set (i := 1) nd rfl (Or.inl rfl) (pe_def D_played (hr.mono (by decide)) rfl pass0 (pa_cons (pv 1) (pa_cons (pe_lst (pa_cons (pe_def D_deed (hr.mono (by decide)) rfl pass0 (pa_cons (pv 0) (pa_cons pe_int pa_nil))) pa_nil)) pa_nil)))))
  pss_nil))))
 (pss_one (ps_ret (pe_tup (pa_cons (pe_callTy (call_tuple_ofK (K := K) rfl) (by rfl) T.tuple PyProof.Rows.boot_tuple (pa_cons (pv 3) pa_nil)) (pa_cons (pv 1) pa_nil))))))), ?_⟩
    refine ⟨Nat.zero_le _, fun L nL => ?_⟩
    have s1 := same_new nL (o := .lst [])
    have hL : upd H L (.lst []) L = some (.lst []) := upd_same
    have wp1 := wp.sm s1
    have Lp : L ≠ p := fun e => by
      obtain ⟨a, b, c', h⟩ := wp
      rw [← e, nL] at h; cases h
    generalize upd H L (.lst []) = H1 at s1 hL wp1
    have ex : ∀ {G J : Hp}, (∀ b o, b ≠ L → b ≠ p → (∀ ps, o ≠ .tbl ps) → H1 b = some o → G b = some o) → ENL p G J → (∀ b o, b ≠ L → b ≠ p → (∀ ps, o ≠ .tbl ps) → H1 b = some o → J b = some o) := fun a e b o n1 n2 t h => e b o n2 t (a b o n1 n2 t h)
    refine ⟨fun σ J => ∃ (q' : Addr) (v4 : Option V) (xs : List V) (cs : List Cp) (F' : Fo), σ = [some (.ref p), some (.ref q'), some (.int (m : Int)), some (.ref L), v4] ∧ (∀ b o, b ≠ L → b ≠ p → (∀ ps, o ≠ .tbl ps) → H1 b = some o → J b = some o) ∧ WellAt J p ∧ LamX.Tabs (T3 PA PT PS) J ∧ J L = some (.lst xs) ∧ A2 (CpV K CC J) xs cs ∧ FoAt C J q' F' ∧ Drw 11 cs F' ∧ cs.length = m, ?_, ?_⟩
    · refine ⟨_, rfl, _, rfl, by omega, by omega, for_range (lo := 0) (n := m) (fun j σ J => ∃ (q' : Addr) (v4 : Option V) (xs : List V) (cs : List Cp) (F' : Fo), σ = [some (.ref p), some (.ref q'), some (.int (m : Int)), some (.ref L), v4] ∧ (∀ b o, b ≠ L → b ≠ p → (∀ ps, o ≠ .tbl ps) → H1 b = some o → J b = some o) ∧ WellAt J p ∧ LamX.Tabs (T3 PA PT PS) J ∧ J L = some (.lst xs) ∧ A2 (CpV K CC J) xs cs ∧ FoAt C J q' F' ∧ Drw (7 + j) cs F' ∧ cs.length = j) ?_ ?_ ?_⟩
      · exact ⟨f, _, [], [], F, rfl, fun _ _ _ _ _ h => h, wp1, hT.ext s1, hL, .nil, hF.same s1, ⟨ga, fun c hc => by cases hc⟩, rfl⟩
      · rintro j σ J hj ⟨q', v4, xs, cs, F', rfl, eJ, wJ, tJ, hLJ, aJ, fJ, dr, lj⟩
        have hLp := hLJ
        refine ⟨_, rfl, .inl ⟨rfl, _, sq hLJ⟩, _, rfl, _, rfl, q', F', 7 + j, rfl, fJ, dr.ga, by omega, fun y G1 t1 ny hy => ?_⟩
        refine ⟨_, rfl, p, 5, rfl, wJ.sm t1, by decide, by decide, fun d G2 d0 d5 e2 w2 => ?_⟩
        have okF := okCp_F (by omega) dr.ga
        have zF := cw4_cpF dr.ga
        refine ⟨p, y, d, cpF F', rfl, w2, hy.ti (TI.w (wJ.sm t1) e2), okF, zF, d0, by omega, fun z c' G3 e3 w3 hz off => ?_⟩
        have ti3 : TI J G3 := ((TI.same t1).trans (TI.w (wJ.sm t1) e2)).trans (TI.w w2 e3)
        have hL3 := e3 _ _ Lp (e2 _ _ Lp (t1 _ _ hLJ))
        have e03 : ENL p J G3 := ((ENL.refl p J).same t1).trans ((ENL.of e2).trans (ENL.of e3))
        have t3 := tabs_w w2 e3 (tabs_w (wJ.sm t1) e2 (tJ.ext t1))
        have lxs := aJ.len
        refine ⟨L, xs, .ref z, rfl, rfl, hL3, lt1 _ (by omega), ?_⟩
        have ti4 : TI G3 (upd G3 L (.lst (xs ++ [.ref z]))) := TI.mut hL3 (fun _ z => by cases z) fun _ _ _ z => by cases z
        have a4 : A2 (CpV K CC (upd G3 L (.lst (xs ++ [.ref z])))) (xs ++ [.ref z]) (cs ++ [c']) := (aJ.imp fun _ _ h => h.ti (ti3.trans ti4)).app (.cons ⟨z, rfl, hz.ti ti4⟩ .nil)
        have f4 := fJ.ti (ti3.trans ti4)
        have w4 : WellAt (upd G3 L (.lst (xs ++ [.ref z]))) p := w3.upd Lp
        have t4 := tabs_mutL (o := .lst (xs ++ [.ref z])) hL3 t3
        have e4 : ∀ b o, b ≠ L → b ≠ p → (∀ ps, o ≠ .tbl ps) → H1 b = some o → (upd G3 L (.lst (xs ++ [.ref z]))) b = some o := fun b o n1 n2 t h => by rw [upd_ne n1]; exact ex eJ e03 b o n1 n2 t h
        have hL4 : (upd G3 L (.lst (xs ++ [.ref z]))) L = some (.lst (xs ++ [.ref z])) := upd_same
        generalize upd G3 L (.lst (xs ++ [.ref z])) = G4 at ti4 a4 f4 w4 t4 e4 hL4
        have dr4 : Drw (7 + j) (cs ++ [c']) F' := ⟨dr.ga, fun c hc => by
          rcases List.mem_append.mp hc with hc | hc
          · exact dr.gc c hc
          · rw [List.mem_singleton.mp hc]
            have wl := dr.ga.g.wf.len
            have ll : c'.ls.length ≤ 10 := by
              rw [off.len]
              show (F'.ls.map clF).length ≤ 10
              rw [List.length_map]; omega
            have md : c'.md = [] := off.md
            exact ⟨⟨off.ok, off.z, .inr ⟨ll, by rw [md]; exact Nat.zero_le _⟩, off.age, by rw [off.mr]; exact Int.le_refl _⟩, md, ll⟩⟩
        have lcs : (cs ++ [c']).length = j + 1 := by rw [List.length_append, lj]; rfl
        refine ⟨_, rfl, p, 3, rfl, w4, by decide, by decide, fun r G5 r0 r3 e5 w5 => ⟨rfl, _, rfl, ?_⟩⟩
        have ti5 := TI.w w4 e5
        have a5 := a4.imp fun _ _ h => h.ti ti5
        have f5 := f4.ti ti5
        have t5 := tabs_w w4 e5 t4
        have hL5 := e5 _ _ Lp hL4
        have k5 := ex e4 (ENL.of e5)
        by_cases r00 : r = 0
        · refine itbT (decide_eq_true (by rw [r00])) ⟨_, rfl, _, rfl, p, 4, rfl, w5, by decide, by decide, fun a d' G6 e6 w6 hd => ⟨by show 1 ≤ sizeLine; decide, fun D nD => ?_⟩⟩
          have s6 := same_new nD (o := .lst [.ref a])
          have ti6 : TI G5 (upd G6 D (.lst [.ref a])) := (TI.w w5 e6).trans (TI.same s6)
          have hd6 := hd.tu (TU.same s6)
          refine ⟨q', D, F', [.ref a], [d'], 7 + j, rfl, f5.ti ti6, dr.ga.g.wf, by show 7 + j + 1 ≤ 1000; omega, .inl upd_same, .cons hd6.at_ .nil, ⟨hd.2.1 F', trivial⟩, (tabs_w w5 e6 t5).ext s6, fun z2 G8 e8 t8 f8 => ?_⟩
          have ti8 := ti6.trans (TI.en e8)
          have hL8 := e8 _ _ (s6 _ _ (e6 _ _ Lp hL5)) fun _ z => by cases z
          exact ⟨z2, _, _, cs ++ [c'], does d' F', rfl, ex (ex k5 (ENL.of e6)) (((ENL.refl p G6).same s6).ext e8), (w6.sm s6).en e8, t8, hL8, a5.imp fun _ _ h => h.ti ti8, f8, dr4.does (by omega) hd.at_.ok hd.2.2, lcs⟩
        · refine itbF (decide_eq_false fun e => r00 (V.int.inj e)) ⟨q', _, _, cs ++ [c'], F', rfl, k5, w5, t5, hL5, a5, f5, ⟨dr4.ga.mono (by omega), dr4.gc⟩, lcs⟩
      · rintro σ J ⟨q', v4, xs, cs, F', rfl, eJ, wJ, tJ, hLJ, aJ, fJ, dr, lj⟩
        exact ⟨q', _, xs, cs, F', rfl, eJ, wJ, tJ, hLJ, aJ, fJ, ⟨dr.ga.mono (by omega), dr.gc⟩, lj⟩
    rintro σ J ⟨q', v4, xs, cs, F', rfl, eJ, wJ, tJ, hLJ, aJ, fJ, dr, lj⟩
    refine ⟨_, rfl, L, xs, rfl, .inl ⟨sq hLJ, fun ta nta => ⟨_, rfl, by show 2 ≤ sizeLine; decide, fun r nr => ?_⟩⟩⟩
    have t1 := same_new nta (o := .tup xs)
    have t2 := same_new nr (o := .tup [.ref ta, .ref q'])
    have t12 := t1.trans t2
    refine q r ta q' xs cs F' _ (fun b o nb t h => t12 _ _ (eJ b o (fun e => by rw [e, nL] at h; cases h) nb t (s1 _ _ h))) (wJ.sm t12) (tJ.ext t12) ⟨upd_same, t2 _ _ upd_same, aJ.imp fun _ _ h => h.ti (TI.same t12), fJ.same t12⟩ dr lj
end
end K1


set_option Elab.async false
set_option linter.all false
set_option maxRecDepth 100000
set_option maxHeartbeats 2000000
/-! Folder.__eq__ and what lists that hold folders are equal by. -/
namespace K1
open PySem PySem.Spec PyProof.Rows L2 RZ
abbrev sEq : Stmt := mS 1
abbrev nEq : List Str := ["self", "other"]
theorem scEq : FnScope nEq nEq (defScope sEq) := ⟨rfl, rfl, rfl, by decide +kernel, rfl, by decide +kernel, by decide +kernel⟩
theorem FoAt.ex {C p : Addr} {H H' : Hp} {F : Fo} (h : FoAt C H p F) (s : L2.Ext H H') : FoAt C H' p F := h.same fun b o hb => s b o hb
/-- the two are folders with the same in them -/
def FoEq (C : Addr) (a b : Addr) (H : Hp) : Prop := ∃ F, FoAt C H a F ∧ FoAt C H b F ∧ ∀ l ∈ F.ls, OkSs l.s
theorem FoEq.mon {C : Addr} : ∀ a b H H', L2.Ext H H' → FoEq C a b H → FoEq C a b H' := fun a b H H' e ⟨F, h1, h2, h3⟩ => ⟨F, h1.ex e, h2.ex e, h3⟩
theorem lt_lay {l : Lt} (h : OkSs l.s) : PyData.canLay0 (ltD l) = true ∧ PyData.depth (ltD l) ≤ 2 := by
  obtain ⟨h1, h2⟩ := g_lay h.ok
  refine ⟨?_, ?_⟩
  · show (true && (true && (PyData.canLayAll0 (l.s.map PyData.str) && (true && true)))) = true
    rw [h1]; rfl
  · show max 0 (max 0 (max (PyData.depthAll (l.s.map PyData.str) + 1) (max 0 0))) + 1 ≤ 2
    omega
theorem lts_lay : ∀ {ls : List Lt}, (∀ l ∈ ls, OkSs l.s) → PyData.canLayAll0 (ls.map ltD) = true ∧ PyData.depthAll (ls.map ltD) ≤ 2
  | [], _ => ⟨rfl, Nat.zero_le _⟩
  | l :: r, h => by
    obtain ⟨h1, h2⟩ := lts_lay fun x hx => h x (List.mem_cons_of_mem _ hx)
    obtain ⟨g1, g2⟩ := lt_lay (h l List.mem_cons_self)
    refine ⟨?_, ?_⟩
    · show (PyData.canLay0 (ltD l) && PyData.canLayAll0 (r.map ltD)) = true
      rw [g1, h1]; rfl
    · show max (PyData.depth (ltD l)) (PyData.depthAll (r.map ltD)) ≤ 2
      omega
theorem lts_shT {ls : List Lt} (h : ∀ l ∈ ls, OkSs l.s) : SeqAt.shaped (lsD ls) = true := by
  obtain ⟨h1, h2⟩ := lts_lay h
  unfold SeqAt.shaped
  have e1 : PyData.canLay0 (lsD ls) = true := h1
  have e2 : PyData.depth (lsD ls) ≤ 64 := by show PyData.depthAll (ls.map ltD) + 1 ≤ 64; omega
  rw [e1, decide_eq_true e2]; rfl
theorem lts_shL {ls : List Lt} (h : ∀ l ∈ ls, OkSs l.s) : SeqAt.shaped (.list (ls.map ltD)) = true := by
  obtain ⟨h1, h2⟩ := lts_lay h
  unfold SeqAt.shaped
  have e1 : PyData.canLay0 (.list (ls.map ltD)) = true := h1
  have e2 : PyData.depth (.list (ls.map ltD)) ≤ 64 := by show PyData.depthAll (ls.map ltD) + 1 ≤ 64; omega
  rw [e1, decide_eq_true e2]; rfl
theorem gos_lay : ∀ (go : List (Int × Int)), PyData.canLayAll0 (go.map goD) = true ∧ PyData.depthAll (go.map goD) ≤ 1
  | [] => ⟨rfl, Nat.zero_le _⟩
  | g :: r => by
    obtain ⟨h1, h2⟩ := gos_lay r
    refine ⟨?_, ?_⟩
    · show ((true && (true && true)) && PyData.canLayAll0 (r.map goD)) = true
      rw [h1]; rfl
    · show max (max 0 (max 0 0) + 1) (PyData.depthAll (r.map goD)) ≤ 1
      omega
theorem gos_sh (go : List (Int × Int)) : SeqAt.shaped (gsD go) = true := by
  obtain ⟨h1, h2⟩ := gos_lay go
  unfold SeqAt.shaped
  have e1 : PyData.canLay0 (gsD go) = true := h1
  have e2 : PyData.depth (gsD go) ≤ 64 := by show PyData.depthAll (go.map goD) + 1 ≤ 64; omega
  rw [e1, decide_eq_true e2]; rfl
theorem lts_nd : ∀ ls : List Lt, noDicA (ls.map ltD) = true
  | [] => rfl
  | l :: r => by
    show ((true && (true && (noDicA (l.s.map PyData.str) && (true && true)))) && noDicA (r.map ltD)) = true
    rw [nd_strs, lts_nd r]; rfl
theorem gos_nd : ∀ go : List (Int × Int), noDicA (go.map goD) = true
  | [] => rfl
  | g :: r => by
    show ((true && (true && true)) && noDicA (r.map goD)) = true
    rw [gos_nd r]; rfl
theorem eqv_same {d : PyData} (h : SeqAt.shaped d = true) : PyData.eqv d d = true := SeqAt.eqv_refl _ (SeqAt.canLay_of_shaped h)
section
variable {P : Program} {w : World} {K : PySem.W.Frag} {mg : Str → Option Value} {base : Heap} {C : Addr}
set_option maxHeartbeats 8000000 in
theorem ok_eq {f : Addr} {fd : FuncData} (T : Bk mg) (t : ClT K mg C) (iC : C8.InsC K C) (F : Fun K "__eq__" "Folder.__eq__" sEq f fd) : FnOk P w K mg base CX0 1 f fd nEq (spEq (FoEq C)) := by
  have nd := scEq.nd
  refine F.ok scEq (fun vs H Q E h => ?_) (fun cdv A outer s H vs Q E hr h => ?_)
  · obtain ⟨a, b, rfl, _⟩ := h
    rfl
  · obtain ⟨a, b, rfl, ⟨F, hA, hB, hs⟩, q⟩ := h
    refine ⟨_, (pss_one (ps_ret (pe_and (pe_callB (C8.call_isC iC) (by rfl) T.isinstance PyProof.Rows.boot_isinstance (pa_cons (pv 1) (pa_cons (pe_glob (v := .ref C) rfl t.gC rfl) pa_nil)))
      (pe_and (pe_cmpR op_eq (pe_fld (pv 0) rfl) (pe_fld (pv 1) rfl) (nomark _)) (pe_and (pe_cmpR (op_eqDK (K := K) rfl hr.units) (pe_fld (pv 0) rfl) (pe_fld (pv 1) rfl) (nomark _)) (pe_and (pe_cmpR op_eq (pe_fld (pv 0) rfl) (pe_fld (pv 1) rfl) (nomark _)) (pe_and (pe_cmpR op_eq (pe_fld (pv 0) rfl) (pe_fld (pv 1) rfl) (nomark _))
       (pe_and (pe_cmpR (op_eqDK (K := K) rfl hr.units) (pe_fld (pv 0) rfl) (pe_fld (pv 1) rfl) (nomark _)) (pe_one (pe_cmpR op_eq (pe_fld (pv 0) rfl) (pe_fld (pv 1) rfl) (nomark _))))))))))), ?_⟩
    obtain ⟨dA, lA, gA, pA, a1, a2⟩ := hA
    obtain ⟨dB, lB, gB, pB, b1, b2⟩ := hB
    have shL := lts_shT hs
    have shG := gos_sh F.go
    refine ⟨_, rfl, b, dB, _, rfl, pB, _, rfl, itbT rfl ?_⟩
    refine ⟨_, rfl, a, C, dA, _, _, rfl, pA, t.cl, t.nA, fl_age, _, rfl, b, C, dB, _, _, rfl, pB, t.cl, t.nA, fl_age, rfl, _, rfl, itbT (decide_eq_true rfl) ?_⟩
    refine ⟨_, rfl, a, C, dA, _, _, rfl, pA, t.cl, t.nL, fl_let, _, rfl, b, C, dB, _, _, rfl, pB, t.cl, t.nL, fl_let, _, _, a1.dp (lts_nd F.ls), b1.dp (lts_nd F.ls), shL, shL, _, rfl, itbT (eqv_same shL) ?_⟩
    refine ⟨_, rfl, a, C, dA, _, _, rfl, pA, t.cl, t.nN, fl_nx, _, rfl, b, C, dB, _, _, rfl, pB, t.cl, t.nN, fl_nx, rfl, _, rfl, itbT (decide_eq_true rfl) ?_⟩
    refine ⟨_, rfl, a, C, dA, _, _, rfl, pA, t.cl, t.nM, fl_mk, _, rfl, b, C, dB, _, _, rfl, pB, t.cl, t.nM, fl_mk, rfl, _, rfl, itbT (decide_eq_true rfl) ?_⟩
    refine ⟨_, rfl, a, C, dA, _, _, rfl, pA, t.cl, t.nG, fl_gone, _, rfl, b, C, dB, _, _, rfl, pB, t.cl, t.nG, fl_gone, _, _, a2.dp (gos_nd F.go), b2.dp (gos_nd F.go), shG, shG, _, rfl, itbT (eqv_same shG) ?_⟩
    refine ⟨_, rfl, a, C, dA, _, _, rfl, pA, t.cl, t.nC, fl_cut, _, rfl, b, C, dB, _, _, rfl, pB, t.cl, t.nC, fl_cut, rfl, ?_⟩
    have fin := q H (fun _ _ h => h)
    rw [show (true : Bool) = decide (V.int F.ct = V.int F.ct) by simp] at fin
    exact fin
end
end K1


set_option Elab.async false
set_option linter.all false
set_option maxRecDepth 100000
set_option maxHeartbeats 4000000
/-! Which copies are ready after a row: the mathematics; != and == of what run tells. -/
namespace K1
open PySem PySem.Spec PyProof.Rows L2 RZ StX
/-- where something was sent last, ahead of t; -1: nowhere -/
def lastS (s0 : RS) (row : List Nat) : Nat → Int
  | 0 => -1
  | t + 1 => match row[t]? with
    | none => lastS s0 row t
    | some i => match (rowF s0 (row.take t)).now[i]? with
      | none => lastS s0 row t
      | some c => if sentM c (rowF s0 (row.take t)).f = [] then lastS s0 row t else (t : Int)
/-- which are ready at t -/
def RdyI (s0 : RS) (row : List Nat) (t : Nat) : Prop :=
  (lastS s0 row t = -1 ∧ (rowF s0 (row.take t)).f = s0.f ∧ ∀ i, i < s0.now.length → ((rowF s0 (row.take t)).now[i]? = some (cpF (rowF s0 (row.take t)).f) ↔ (i ∈ row.take t ∨ s0.now[i]? = some (cpF s0.f)))) ∨
  ∃ L : Nat, lastS s0 row t = (L : Int) ∧ L < t ∧ ∀ i, i < s0.now.length → ((rowF s0 (row.take t)).now[i]? = some (cpF (rowF s0 (row.take t)).f) ↔ i ∈ (row.take t).drop L)
theorem rdy {k : Nat} {s0 : RS} {row : List Nat} (rg : RG k s0) (hk : k + 131 * row.length ≤ 900) (hr : ∀ i ∈ row, i < s0.now.length) : ∀ t, t ≤ row.length → RdyI s0 row t
  | 0, _ => by
    refine .inl ⟨rfl, rfl, fun i hi => ?_⟩
    show s0.now[i]? = some (cpF s0.f) ↔ _
    exact ⟨.inr, fun h => h.elim (fun z => by simp at z) id⟩
  | t + 1, ht => by
    have ih := rdy rg hk hr t (by omega)
    obtain ⟨j, hj⟩ : ∃ j, row[t]? = some j := ⟨row[t], List.getElem?_eq_getElem (by omega)⟩
    have jl := hr j (List.mem_of_getElem? hj)
    have rgt := rg_row (row.take t) rg (by rw [List.length_take]; omega)
    have lnow : (rowF s0 (row.take t)).now.length = s0.now.length := rowF_len _ _
    obtain ⟨c, hc⟩ : ∃ c, (rowF s0 (row.take t)).now[j]? = some c := ⟨_, List.getElem?_eq_getElem (by omega)⟩
    have el : lastS s0 row (t + 1) = if sentM c (rowF s0 (row.take t)).f = [] then lastS s0 row t else (t : Int) := by
      show (match row[t]? with | none => _ | some i => _) = _
      rw [hj]
      show (match (rowF s0 (row.take t)).now[j]? with | none => _ | some c => _) = _
      rw [hc]
    have es : rowF s0 (row.take (t + 1)) = ⟨(rowF s0 (row.take t)).now.set j (cpF (stepM c (rowF s0 (row.take t)).f)), stepM c (rowF s0 (row.take t)).f, (rowF s0 (row.take t)).sends ++ [(sentM c (rowF s0 (row.take t)).f).length]⟩ := by
      rw [rowF_take hj]; unfold rstep; rw [hc]
    have et : row.take (t + 1) = row.take t ++ [j] := by rw [List.take_add_one, hj]; rfl
    unfold RdyI at ih ⊢
    rw [el, es, et]
    generalize hS : rowF s0 (row.take t) = S at ih rgt lnow hc
    have lt' : (row.take t).length = t := by rw [List.length_take]; omega
    by_cases e : sentM c S.f = []
    · have ef := step_nil e
      rw [if_pos e, ef]
      have setj : ∀ i, i < s0.now.length → ((S.now.set j (cpF S.f))[i]? = some (cpF S.f) ↔ (i = j ∨ S.now[i]? = some (cpF S.f))) := fun i hi => by
        by_cases c : j = i
        · subst c
          rw [List.getElem?_set_self (by omega)]
          exact ⟨fun _ => .inl rfl, fun _ => rfl⟩
        · rw [List.getElem?_set_ne c]
          exact ⟨.inr, fun h => h.resolve_left fun z => c z.symm⟩
      rcases ih with ⟨h1, h2, h3⟩ | ⟨L, h1, h2, h3⟩
      · refine .inl ⟨h1, h2, fun i hi => ?_⟩
        show (S.now.set j (cpF S.f))[i]? = some (cpF S.f) ↔ _
        rw [setj i hi, h3 i hi, List.mem_append, List.mem_singleton]
        exact ⟨fun h => h.elim (fun z => .inl (.inr z)) fun h => h.elim (fun z => .inl (.inl z)) .inr, fun h => h.elim (fun h => h.elim (fun z => .inr (.inl z)) .inl) fun z => .inr (.inr z)⟩
      · refine .inr ⟨L, h1, by omega, fun i hi => ?_⟩
        show (S.now.set j (cpF S.f))[i]? = some (cpF S.f) ↔ _
        rw [setj i hi, h3 i hi, List.drop_append_of_le_length (by omega), List.mem_append, List.mem_singleton]
        exact ⟨fun h => h.elim .inr .inl, fun h => h.elim .inr .inl⟩
    · rw [if_neg e]
      refine .inr ⟨t, rfl, by omega, fun i hi => ?_⟩
      show (S.now.set j (cpF (stepM c S.f)))[i]? = some (cpF (stepM c S.f)) ↔ _
      rw [List.drop_append_of_le_length (by omega), List.drop_of_length_le (by omega), List.nil_append, List.mem_singleton]
      by_cases c' : j = i
      · subst c'
        rw [List.getElem?_set_self (by omega)]
        exact ⟨fun _ => rfl, fun _ => rfl⟩
      · rw [List.getElem?_set_ne c']
        refine ⟨fun h => ?_, fun z => absurd z.symm c'⟩
        have g := (rgt.gc _ (List.mem_of_getElem? h)).mr
        have lt := step_lt rgt.ga (rgt.gc c (List.mem_of_getElem? hc)).z e
        have : (cpF (stepM c S.f)).mr = (stepM c S.f).mr := rfl
        omega
/-- after each copy was sent once, those sent again send nothing, and all are ready -/
theorem plain_row : ∀ (row : List Nat) (s : RS), (∀ c ∈ s.now, Plain c) → (rowF s row).f = s.f ∧ ∀ i, (i ∈ row ∧ i < s.now.length ∨ s.now[i]? = some (cpF s.f)) → (rowF s row).now[i]? = some (cpF s.f)
  | [], s, _ => ⟨rfl, fun i h => h.elim (fun z => by cases z.1) id⟩
  | j :: r, s, h => by
    show (rowF (rstep s j) r).f = s.f ∧ ∀ i, _ → (rowF (rstep s j) r).now[i]? = some (cpF s.f)
    cases e : s.now[j]? with
    | none =>
      have er : rstep s j = s := by unfold rstep; rw [e]
      rw [er]
      have ih := plain_row r s h
      refine ⟨ih.1, fun i hi => ih.2 i (hi.elim (fun z => ?_) .inr)⟩
      rcases List.mem_cons.mp z.1 with z1 | z1
      · rw [z1] at z
        rw [List.getElem?_eq_none_iff] at e
        omega
      · exact .inl ⟨z1, z.2⟩
    | some c =>
      have pc := h c (List.mem_of_getElem? e)
      have en := sent_plain pc s.f
      have er : rstep s j = ⟨s.now.set j (cpF s.f), s.f, s.sends ++ [0]⟩ := by unfold rstep; rw [e]; show RS.mk _ _ _ = _; rw [step_nil en, en]; rfl
      rw [er]
      have ih := plain_row r ⟨s.now.set j (cpF s.f), s.f, s.sends ++ [0]⟩ (fun d hd => (List.mem_or_eq_of_mem_set hd).elim (h d) fun z => by rw [z]; exact plain_cpF _)
      refine ⟨ih.1, fun i hi => ih.2 i ?_⟩
      have jl : j < s.now.length := by
        rcases Nat.lt_or_ge j s.now.length with z | z
        · exact z
        · rw [List.getElem?_eq_none_iff.mpr z] at e; cases e
      by_cases c1 : j = i
      · subst c1
        exact .inr (List.getElem?_set_self jl)
      · rcases hi with ⟨z1, z2⟩ | z
        · exact .inl ⟨(List.mem_cons.mp z1).resolve_left fun z => c1 z.symm, by show i < (s.now.set j _).length; rw [List.length_set]; exact z2⟩
        · exact .inr (by show (s.now.set j _)[i]? = _; rw [List.getElem?_set_ne c1]; exact z)
theorem row_plain : ∀ (row : List Nat) (s : RS) (i : Nat) (c : Cp), i ∈ row → (rowF s row).now[i]? = some c → Plain c := by
  have keep : ∀ (row : List Nat) (s : RS) (i : Nat), (∀ c, s.now[i]? = some c → Plain c) → ∀ c, (rowF s row).now[i]? = some c → Plain c := by
    intro row
    induction row with
    | nil => intro s i h; exact h
    | cons j r ih =>
      intro s i h
      refine ih (rstep s j) i fun c hc => ?_
      unfold rstep at hc
      cases e : s.now[j]? with
      | none => rw [e] at hc; exact h c hc
      | some d =>
        rw [e] at hc
        by_cases c1 : j = i
        · subst c1
          have jl : j < s.now.length := by
            rcases Nat.lt_or_ge j s.now.length with z | z
            · exact z
            · rw [List.getElem?_eq_none_iff.mpr z] at e; cases e
          have hc : (s.now.set j (cpF (stepM d s.f)))[j]? = some c := hc
          rw [List.getElem?_set_self jl] at hc
          rw [← Option.some.inj hc]; exact plain_cpF _
        · have hc : (s.now.set j (cpF (stepM d s.f)))[i]? = some c := hc
          rw [List.getElem?_set_ne c1] at hc
          exact h c hc
  intro row
  induction row with
  | nil => intro s i c hi; cases hi
  | cons j r ih =>
    intro s i c hi hc
    rcases List.mem_cons.mp hi with rfl | hi
    · refine keep r (rstep s i) i (fun d hd => ?_) c hc
      unfold rstep at hd
      cases e : s.now[i]? with
      | none => rw [e] at hd; rw [hd] at e; cases e
      | some x =>
        rw [e] at hd
        have jl : i < s.now.length := by
          rcases Nat.lt_or_ge i s.now.length with z | z
          · exact z
          · rw [List.getElem?_eq_none_iff.mpr z] at e; cases e
        have hd : (s.now.set i (cpF (stepM x s.f)))[i]? = some d := hd
        rw [List.getElem?_set_self jl] at hd
        rw [← Option.some.inj hd]; exact plain_cpF _
    · exact ih (rstep s j) i c hi hc
theorem rowF_app (s : RS) (a b : List Nat) : rowF s (a ++ b) = rowF (rowF s a) b := List.foldl_append ..
theorem rowF_end (s : RS) (a : List Nat) {j : Nat} (hj : j < s.now.length) : (rowF s (a ++ [j])).now[j]? = some (cpF (rowF s (a ++ [j])).f) := by
  rw [rowF_app]
  have ll : (rowF s a).now.length = s.now.length := rowF_len _ _
  show (rstep (rowF s a) j).now[j]? = some (cpF (rstep (rowF s a) j).f)
  have e : (rowF s a).now[j]? = some ((rowF s a).now[j]'(by omega)) := List.getElem?_eq_getElem _
  unfold rstep
  rw [e]
  exact List.getElem?_set_self (by omega)
/-- an order of all, then all but its last again: every copy is ready -/
theorem order_ready {s : RS} {ord : List Nat} (h1 : ∀ i, i < s.now.length → i ∈ ord) (h2 : ∀ i ∈ ord, i < s.now.length) (ne : ord ≠ []) :
    ∀ c ∈ (rowF s (ord ++ ord.dropLast)).now, c = cpF (rowF s (ord ++ ord.dropLast)).f := by
  rw [rowF_app]
  have lnow : (rowF s ord).now.length = s.now.length := rowF_len _ _
  have pl : ∀ c ∈ (rowF s ord).now, Plain c := fun c hc => by
    obtain ⟨i, hi⟩ := List.getElem?_of_mem hc
    have il : i < (rowF s ord).now.length := by
      rcases Nat.lt_or_ge i (rowF s ord).now.length with z | z
      · exact z
      · rw [List.getElem?_eq_none_iff.mpr z] at hi; cases hi
    exact row_plain ord s i c (h1 i (by omega)) hi
  obtain ⟨e1, e2⟩ := plain_row ord.dropLast (rowF s ord) pl
  intro c hc
  obtain ⟨i, hi⟩ := List.getElem?_of_mem hc
  have ll : (rowF (rowF s ord) ord.dropLast).now.length = s.now.length := (rowF_len _ _).trans lnow
  have il : i < s.now.length := by
    rcases Nat.lt_or_ge i s.now.length with z | z
    · exact z
    · rw [List.getElem?_eq_none_iff.mpr (by omega)] at hi; cases hi
  have key : (rowF (rowF s ord) ord.dropLast).now[i]? = some (cpF (rowF s ord).f) := by
    refine e2 i ?_
    have hm := h1 i il
    rw [← List.dropLast_concat_getLast ne] at hm
    rcases List.mem_append.mp hm with hm | hm
    · exact .inl ⟨hm, by omega⟩
    · refine .inr ?_
      have := rowF_end s ord.dropLast (j := ord.getLast ne) (h2 _ (List.getLast_mem ne))
      rw [List.dropLast_concat_getLast ne] at this
      rw [List.mem_singleton.mp hm]; exact this
  rw [key] at hi
  rw [← Option.some.inj hi, e1]
end K1


set_option Elab.async false
set_option linter.all false
set_option maxRecDepth 100000
set_option maxHeartbeats 4000000
/-! Least rows: the mathematics. -/
namespace K1
open PySem PySem.Spec PyProof.Rows L2 RZ StX
theorem snocInd {α : Type} {P : List α → Prop} (h0 : P []) (h1 : ∀ l a, P l → P (l ++ [a])) (l : List α) : P l := by
  have key : ∀ r : List α, P r.reverse := fun r => by
    induction r with
    | nil => exact h0
    | cons a r ih => rw [List.reverse_cons]; exact h1 _ _ ih
  have := key l.reverse
  rwa [List.reverse_reverse] at this
def stpC (cs : List Cp) (G : Fo) (i : Nat) : Fo := match cs[i]? with
  | none => G
  | some c => stepM c G
def sntC (cs : List Cp) (G : Fo) (i : Nat) : List Dd := match cs[i]? with
  | none => []
  | some c => sentM c G
def folF (cs : List Cp) (F : Fo) (f : List Nat) : Fo := f.foldl (stpC cs) F
/-- the copy that was sent something last is in step -/
def insF (cs : List Cp) (F : Fo) (f : List Nat) : List Nat := match f.getLast? with
  | none => []
  | some a => if (sntC cs (folF cs F f.dropLast) a).isEmpty then [] else [a]
def othF (n : Nat) (f : List Nat) : List Nat := (List.range n).filter fun i => !decide (i ∈ f)
def idlB (cs : List Cp) (G : Fo) (i : Nat) : Bool := match cs[i]? with
  | none => false
  | some c => decide (c = cpF G)
def idlF (cs : List Cp) (F : Fo) (f : List Nat) : List Nat := (othF cs.length f).filter (idlB cs (folF cs F f))
def candB (cs : List Cp) (F : Fo) (f : List Nat) : Bool := (othF cs.length f).all fun i => idlB cs (folF cs F f) i || (sntC cs (folF cs F f) i).isEmpty
def tailF (cs : List Cp) (F : Fo) (f : List Nat) : List Nat := (List.range cs.length).filter fun i => !decide (i ∈ insF cs F f ++ idlF cs F f)
def candR (cs : List Cp) (F : Fo) (f : List Nat) : List Nat := f ++ tailF cs F f
structure SqN (n : Nat) (f : List Nat) : Prop where
  nd : f.Nodup
  lt : ∀ i ∈ f, i < n
def GoodR (s : RS) (r : List Nat) : Prop := ∀ c ∈ (rowF s r).now, c = cpF (rowF s r).f
theorem rstep_some {s : RS} {j : Nat} {c : Cp} (h : s.now[j]? = some c) : rstep s j = ⟨s.now.set j (cpF (stepM c s.f)), stepM c s.f, s.sends ++ [(sentM c s.f).length]⟩ := by unfold rstep; rw [h]
theorem rstep_none {s : RS} {j : Nat} (h : s.now[j]? = none) : rstep s j = s := by unfold rstep; rw [h]
theorem rstep_ne {s : RS} {j i : Nat} (h : j ≠ i) : (rstep s j).now[i]? = s.now[i]? := by
  cases e : s.now[j]? with
  | none => rw [rstep_none e]
  | some c => rw [rstep_some e]; exact List.getElem?_set_ne h
theorem row_keep : ∀ (row : List Nat) (s : RS) {i : Nat}, i ∉ row → (rowF s row).now[i]? = s.now[i]?
  | [], s, i, _ => rfl
  | j :: r, s, i, h => (row_keep r (rstep s j) fun z => h (List.mem_cons_of_mem _ z)).trans (rstep_ne fun e => h (by rw [e]; exact List.mem_cons_self))
theorem fol_row (cs : List Cp) : ∀ (f : List Nat) (s : RS), f.Nodup → (∀ i ∈ f, s.now[i]? = cs[i]?) → (rowF s f).f = folF cs s.f f
  | [], s, _, _ => rfl
  | a :: r, s, nd, h => by
    rw [List.nodup_cons] at nd
    have ih := fol_row cs r (rstep s a) nd.2 fun i hi => (rstep_ne fun e => nd.1 (by rw [e]; exact hi)).trans (h i (List.mem_cons_of_mem _ hi))
    have e1 : (rstep s a).f = stpC cs s.f a := by
      have ha := h a List.mem_cons_self
      unfold stpC
      cases e : s.now[a]? with
      | none => rw [rstep_none e, ← ha, e]
      | some c => rw [rstep_some e, ← ha, e]
    exact ih.trans (by rw [e1]; rfl)
theorem lt_some {α : Type} {l : List α} {i : Nat} {c : α} (h : l[i]? = some c) : i < l.length := by
  rcases Nat.lt_or_ge i l.length with z | z
  · exact z
  · rw [List.getElem?_eq_none_iff.mpr z] at h; cases h
/-- those that send nothing -/
theorem quiet_row : ∀ (row : List Nat) (s : RS), (∀ i ∈ row, ∀ c, s.now[i]? = some c → sentM c s.f = []) → (rowF s row).f = s.f ∧ ∀ i, (i ∈ row ∧ i < s.now.length ∨ s.now[i]? = some (cpF s.f)) → (rowF s row).now[i]? = some (cpF s.f)
  | [], s, _ => ⟨rfl, fun i h => h.elim (fun z => by cases z.1) id⟩
  | j :: r, s, h => by
    show (rowF (rstep s j) r).f = s.f ∧ ∀ i, _ → (rowF (rstep s j) r).now[i]? = some (cpF s.f)
    cases e : s.now[j]? with
    | none =>
      rw [rstep_none e]
      have ih := quiet_row r s fun i hi => h i (List.mem_cons_of_mem _ hi)
      refine ⟨ih.1, fun i hi => ih.2 i (hi.elim (fun z => ?_) .inr)⟩
      rcases List.mem_cons.mp z.1 with z1 | z1
      · rw [z1] at z
        rw [List.getElem?_eq_none_iff] at e
        omega
      · exact .inl ⟨z1, z.2⟩
    | some c =>
      have en := h j List.mem_cons_self c e
      have er : rstep s j = ⟨s.now.set j (cpF s.f), s.f, s.sends ++ [(sentM c s.f).length]⟩ := by rw [rstep_some e, step_nil en]
      rw [er]
      have jl := lt_some e
      have ih := quiet_row r ⟨s.now.set j (cpF s.f), s.f, s.sends ++ [(sentM c s.f).length]⟩ (fun i hi d hd => by
        have hd : (s.now.set j (cpF s.f))[i]? = some d := hd
        by_cases c1 : j = i
        · subst c1
          rw [List.getElem?_set_self jl] at hd
          rw [← Option.some.inj hd]; exact sent_plain (plain_cpF _) _
        · rw [List.getElem?_set_ne c1] at hd
          exact h i (List.mem_cons_of_mem _ hi) d hd)
      refine ⟨ih.1, fun i hi => ih.2 i ?_⟩
      by_cases c1 : j = i
      · subst c1
        exact .inr (List.getElem?_set_self jl)
      · rcases hi with ⟨z1, z2⟩ | z
        · exact .inl ⟨(List.mem_cons.mp z1).resolve_left fun z => c1 z.symm, by show i < (s.now.set j _).length; rw [List.length_set]; exact z2⟩
        · exact .inr (by show (s.now.set j _)[i]? = _; rw [List.getElem?_set_ne c1]; exact z)
theorem mem_oth {n i : Nat} {f : List Nat} : i ∈ othF n f ↔ i < n ∧ i ∉ f := by
  unfold othF
  rw [List.mem_filter, List.mem_range]
  by_cases h : i ∈ f <;> simp [h]
theorem mem_tail {cs : List Cp} {F : Fo} {f : List Nat} {i : Nat} : i ∈ tailF cs F f ↔ i < cs.length ∧ i ∉ insF cs F f ∧ i ∉ idlF cs F f := by
  unfold tailF
  rw [List.mem_filter, List.mem_range, Bool.not_eq_true', decide_eq_false_iff_not, List.mem_append, not_or]
theorem ins_snoc (cs : List Cp) (F : Fo) (g : List Nat) (a : Nat) : insF cs F (g ++ [a]) = if (sntC cs (folF cs F g) a).isEmpty then [] else [a] := by
  unfold insF
  rw [List.getLast?_concat]
  show (if (sntC cs (folF cs F (g ++ [a]).dropLast) a).isEmpty then _ else _) = _
  rw [List.dropLast_concat]
theorem fol_snoc (cs : List Cp) (F : Fo) (g : List Nat) (a : Nat) : folF cs F (g ++ [a]) = stpC cs (folF cs F g) a := List.foldl_append ..
section
variable {cs : List Cp} {F : Fo} {f : List Nat}
theorem row_sq (h : SqN cs.length f) : (rowF ⟨cs, F, []⟩ f).f = folF cs F f := fol_row cs f ⟨cs, F, []⟩ h.nd fun _ _ => rfl
/-- a candidate is good -/
theorem cand_good (h : SqN cs.length f) (c : candB cs F f = true) : GoodR ⟨cs, F, []⟩ (candR cs F f) := by
  have ef := row_sq (F := F) h
  have q := quiet_row (tailF cs F f) (rowF ⟨cs, F, []⟩ f) (fun i hi d hd => by
    by_cases hf : i ∈ f
    · exact sent_plain (row_plain f ⟨cs, F, []⟩ i d hf hd) _
    · rw [row_keep f _ hf] at hd
      have hd : cs[i]? = some d := hd
      have ht := mem_tail.mp hi
      have ho : i ∈ othF cs.length f := mem_oth.mpr ⟨ht.1, hf⟩
      have := List.all_eq_true.mp c i ho
      rcases Bool.or_eq_true _ _ ▸ this with z | z
      · exact absurd (List.mem_filter.mpr ⟨ho, z⟩) ht.2.2
      · rw [ef]
        unfold sntC at z
        rw [hd] at z
        exact List.isEmpty_iff.mp z)
  intro d hd
  unfold candR at hd ⊢
  rw [rowF_app] at hd ⊢
  rw [q.1]
  obtain ⟨i, hi⟩ := List.getElem?_of_mem hd
  have il := lt_some hi
  have l1 : (rowF (rowF ⟨cs, F, []⟩ f) (tailF cs F f)).now.length = cs.length := (rowF_len _ _).trans (rowF_len _ _)
  have l2 : (rowF ⟨cs, F, []⟩ f).now.length = cs.length := rowF_len _ _
  have key : (rowF (rowF ⟨cs, F, []⟩ f) (tailF cs F f)).now[i]? = some (cpF (rowF ⟨cs, F, []⟩ f).f) := by
    refine q.2 i ?_
    by_cases ht : i ∈ tailF cs F f
    · exact .inl ⟨ht, by omega⟩
    · refine .inr ?_
      by_cases h1 : i ∈ insF cs F f
      · rcases List.eq_nil_or_concat f with rfl | ⟨g, a, rfl⟩
        · cases h1
        · rw [List.concat_eq_append] at h1 ⊢
          rw [List.concat_eq_append] at h
          rw [ins_snoc] at h1
          split at h1
          · cases h1
          · rw [List.mem_singleton.mp h1]
            exact rowF_end ⟨cs, F, []⟩ g (h.lt a (List.mem_append_right _ List.mem_cons_self))
      · by_cases h2 : i ∈ idlF cs F f
        · have h3 := List.mem_filter.mp h2
          have h4 := mem_oth.mp h3.1
          rw [row_keep f _ h4.2, ef]
          have h5 := h3.2
          unfold idlB at h5
          show cs[i]? = _
          cases e : cs[i]? with
          | none => rw [e] at h5; cases h5
          | some d => rw [e] at h5; rw [of_decide_eq_true h5]
        · exact absurd (mem_tail.mpr ⟨by omega, h1, h2⟩) ht
  rw [key] at hi
  exact (Option.some.inj hi).symm
/-- the first steps of a row -/
theorem first_of (p : List Nat) : (∀ i ∈ p, i < cs.length) → ∃ f, f.Nodup ∧ (∀ i, i ∈ f ↔ i ∈ p) ∧ (rowF ⟨cs, F, []⟩ f).f = (rowF ⟨cs, F, []⟩ p).f ∧ f.length ≤ p.length ∧ (f.length = p.length → f = p) := by
  refine snocInd (P := fun p => (∀ i ∈ p, i < cs.length) → ∃ f, f.Nodup ∧ (∀ i, i ∈ f ↔ i ∈ p) ∧ (rowF ⟨cs, F, []⟩ f).f = (rowF ⟨cs, F, []⟩ p).f ∧ f.length ≤ p.length ∧ (f.length = p.length → f = p)) ?_ ?_ p
  · exact fun _ => ⟨[], List.nodup_nil, fun i => Iff.rfl, rfl, Nat.le_refl _, fun _ => rfl⟩
  · intro p a ih h
    obtain ⟨f, nd, mem, ef, le, eq⟩ := ih fun i hi => h i (List.mem_append_left _ hi)
    have al := h a (List.mem_append_right _ List.mem_cons_self)
    have lp : (rowF ⟨cs, F, []⟩ p).now.length = cs.length := rowF_len _ _
    by_cases ha : a ∈ p
    · refine ⟨f, nd, fun i => ?_, ?_, by rw [List.length_append]; omega, fun e => by rw [List.length_append, List.length_singleton] at e; omega⟩
      · rw [mem i, List.mem_append, List.mem_singleton]
        exact ⟨.inl, fun z => z.elim id fun e => by rw [e]; exact ha⟩
      · rw [ef, rowF_app]
        obtain ⟨c, hc⟩ : ∃ c, (rowF ⟨cs, F, []⟩ p).now[a]? = some c := ⟨_, List.getElem?_eq_getElem (by omega)⟩
        show _ = (rstep _ a).f
        rw [rstep_some hc]
        exact (step_nil (sent_plain (row_plain p _ a c ha hc) _)).symm
    · refine ⟨f ++ [a], ?_, fun i => ?_, ?_, by simp [le], fun e => ?_⟩
      · refine List.nodup_append.mpr ⟨nd, by simp, fun x hx y hy e => ha ((mem a).mp ?_)⟩
        rw [← List.mem_singleton.mp hy, ← e]; exact hx
      · rw [List.mem_append, List.mem_append, mem i]
      · rw [rowF_app, rowF_app]
        show (rstep (rowF ⟨cs, F, []⟩ f) a).f = (rstep (rowF ⟨cs, F, []⟩ p) a).f
        have e1 : (rowF ⟨cs, F, []⟩ f).now[a]? = cs[a]? := row_keep f _ fun z => ha ((mem a).mp z)
        have e2 : (rowF ⟨cs, F, []⟩ p).now[a]? = cs[a]? := row_keep p _ ha
        obtain ⟨c, hc⟩ : ∃ c, cs[a]? = some c := ⟨_, List.getElem?_eq_getElem al⟩
        rw [rstep_some (e1.trans hc), rstep_some (e2.trans hc), ef]
      · rw [eq (by simpa using e)]
/-- up to the last step that sends something -/
structure Cut (s : RS) (r p t : List Nat) : Prop where
  e : r = p ++ t
  q : ∀ t1 a t2, t = t1 ++ a :: t2 → ∀ c, (rowF s (p ++ t1)).now[a]? = some c → sentM c (rowF s (p ++ t1)).f = []
  s : p = [] ∨ ∃ p' a c, p = p' ++ [a] ∧ (rowF s p').now[a]? = some c ∧ sentM c (rowF s p').f ≠ []
theorem cut_of (s : RS) (r : List Nat) : ∃ p t, Cut s r p t := by
  refine snocInd (P := fun r => ∃ p t, Cut s r p t) ⟨[], [], rfl, fun t1 a t2 e => by simp at e, .inl rfl⟩ ?_ r
  rintro r a ⟨p, t, h⟩
  by_cases c : ∃ c, (rowF s r).now[a]? = some c ∧ sentM c (rowF s r).f ≠ []
  · obtain ⟨c, h1, h2⟩ := c
    exact ⟨r ++ [a], [], (List.append_nil _).symm, fun t1 a t2 e => by simp at e, .inr ⟨r, a, c, rfl, h1, h2⟩⟩
  · refine ⟨p, t ++ [a], by rw [h.e, List.append_assoc], fun t1 b t2 e d hd => ?_, h.s⟩
    rcases List.eq_nil_or_concat t2 with rfl | ⟨t3, x, e9⟩
    · have := List.append_inj' e rfl
      obtain ⟨e1, e2⟩ := this
      have e3 : a = b := by simpa using e2
      subst e1 e3
      rw [← h.e] at hd ⊢
      by_cases z : sentM d (rowF s r).f = []
      · exact z
      · exact absurd ⟨d, hd, z⟩ c
    · rw [List.concat_eq_append] at e9
      subst e9
      have e' : t ++ [a] = (t1 ++ b :: t3) ++ [x] := by rw [e]; simp
      have := List.append_inj' e' rfl
      exact h.q t1 b t3 this.1 d hd
theorem Cut.fo {s : RS} {r p t : List Nat} (h : Cut s r p t) : ∀ t1 t2, t = t1 ++ t2 → (rowF s (p ++ t1)).f = (rowF s p).f := by
  intro t1
  refine snocInd (P := fun t1 => ∀ t2, t = t1 ++ t2 → (rowF s (p ++ t1)).f = (rowF s p).f) (fun t2 _ => by rw [List.append_nil]) ?_ t1
  intro t1 a ih t2 e
  have e1 : t = t1 ++ a :: t2 := by rw [e]; simp
  have k := ih _ e1
  rw [← List.append_assoc, rowF_app]
  show (rstep (rowF s (p ++ t1)) a).f = _
  cases hc : (rowF s (p ++ t1)).now[a]? with
  | none => rw [rstep_none hc]; exact k
  | some c => rw [rstep_some hc]; exact (step_nil (h.q t1 a t2 e1 c hc)).trans k
theorem first_split {α : Type} [DecidableEq α] {a : α} : ∀ {t : List α}, a ∈ t → ∃ t1 t2, t = t1 ++ a :: t2 ∧ a ∉ t1
  | x :: r, h => by
    by_cases c : x = a
    · exact ⟨[], r, by rw [c]; rfl, by simp⟩
    · obtain ⟨t1, t2, e, n⟩ := first_split ((List.mem_cons.mp h).resolve_left fun z => c z.symm)
      exact ⟨x :: t1, t2, by rw [e]; rfl, fun z => (List.mem_cons.mp z).elim (fun z => c z.symm) n⟩
theorem asc_le_perm : ∀ {a b : List Nat}, a.Pairwise (· < ·) → a.Perm b → ¬ b < a
  | [], b, _, p => by rw [List.nil_perm.mp p]; exact List.lt_irrefl _
  | x :: xs, [], _, p => by have := p.length_eq; simp at this
  | x :: xs, y :: ys, h, p => by
    rw [List.pairwise_cons] at h
    intro c
    have hy : y ∈ x :: xs := p.mem_iff.mpr List.mem_cons_self
    have xy : x ≤ y := (List.mem_cons.mp hy).elim (fun e => by omega) fun z => Nat.le_of_lt (h.1 y z)
    rcases List.cons_lt_cons_iff.mp c with z | ⟨z1, z2⟩
    · omega
    · subst z1
      exact asc_le_perm h.2 p.cons_inv z2
/-- the order of rows -/
def ltR (a b : List Nat) : Prop := a.length < b.length ∨ a.length = b.length ∧ a < b
theorem app_le {p a b : List Nat} (h : ¬ b < a) : ¬ p ++ b < p ++ a := by
  induction p with
  | nil => exact h
  | cons x p ih =>
    intro c
    rcases List.cons_lt_cons_iff.mp c with z | z
    · omega
    · exact ih z.2
theorem tail_asc (cs : List Cp) (F : Fo) (f : List Nat) : (tailF cs F f).Pairwise (· < ·) := List.Pairwise.sublist List.filter_sublist List.pairwise_lt_range
theorem perm_of_sub {α : Type} [DecidableEq α] : ∀ {a b : List α}, a.Nodup → (∀ x ∈ a, x ∈ b) → b.length ≤ a.length → a.Perm b
  | [], b, _, _, l => by rw [List.length_eq_zero_iff.mp (Nat.le_zero.mp l)]
  | x :: a, b, nd, h, l => by
    rw [List.nodup_cons] at nd
    have hx := h x List.mem_cons_self
    have ih := perm_of_sub (a := a) (b := b.erase x) nd.2 (fun y hy => (List.mem_erase_of_ne (fun e : y = x => nd.1 (by rw [← e]; exact hy))).mpr (h y (List.mem_cons_of_mem _ hy))) (by
      rw [List.length_erase_of_mem hx]; rw [List.length_cons] at l; omega)
    exact (ih.cons x).trans (List.perm_cons_erase hx).symm
/-- to each good row a candidate that is no greater -/
theorem good_cand {k : Nat} {r : List Nat} (rg : RG k ⟨cs, F, []⟩) (hk : k + 131 * r.length ≤ 900) (hr : ∀ i ∈ r, i < cs.length) (g : GoodR ⟨cs, F, []⟩ r) :
    ∃ f, SqN cs.length f ∧ candB cs F f = true ∧ ¬ ltR r (candR cs F f) := by
  obtain ⟨p, t, h⟩ := cut_of ⟨cs, F, []⟩ r
  have hp : ∀ i ∈ p, i < cs.length := fun i hi => hr i (by rw [h.e]; exact List.mem_append_left _ hi)
  obtain ⟨f, nd, mem, ef, le, eq, hs⟩ : ∃ f, f.Nodup ∧ (∀ i, i ∈ f ↔ i ∈ p) ∧ (rowF ⟨cs, F, []⟩ f).f = (rowF ⟨cs, F, []⟩ p).f ∧ f.length ≤ p.length ∧ (f.length = p.length → f = p) ∧
      (p = [] ∨ ∃ p' a c, p = p' ++ [a] ∧ (rowF ⟨cs, F, []⟩ p').now[a]? = some c ∧ sentM c (rowF ⟨cs, F, []⟩ p').f ≠ [] ∧ insF cs F f = [a]) := by
    rcases h.s with rfl | ⟨p', a, c, rfl, hc, hs⟩
    · exact ⟨[], List.nodup_nil, fun i => Iff.rfl, rfl, Nat.le_refl _, fun _ => rfl, .inl rfl⟩
    · obtain ⟨f, nd, mem, ef, le, eq⟩ := first_of (F := F) p' fun i hi => hp i (List.mem_append_left _ hi)
      have ap : a ∉ p' := fun z => hs (sent_plain (row_plain p' _ a c z hc) _)
      have af : a ∉ f := fun z => ap ((mem a).mp z)
      have ca : cs[a]? = some c := by rw [← hc, row_keep p' _ ap]
      have e1 : (rowF ⟨cs, F, []⟩ f).now[a]? = some c := (row_keep f _ af).trans ca
      have eF : folF cs F f = (rowF ⟨cs, F, []⟩ p').f := (row_sq ⟨nd, fun i hi => hp i (List.mem_append_left _ ((mem i).mp hi))⟩).symm.trans ef
      refine ⟨f ++ [a], ?_, fun i => by rw [List.mem_append, List.mem_append, mem i], ?_, by simp [le], fun e => by rw [eq (by simpa using e)], .inr ⟨p', a, c, rfl, hc, hs, ?_⟩⟩
      · refine List.nodup_append.mpr ⟨nd, by simp, fun x hx y hy e => af ?_⟩
        rw [← List.mem_singleton.mp hy, ← e]; exact hx
      · rw [rowF_app, rowF_app]
        show (rstep (rowF ⟨cs, F, []⟩ f) a).f = (rstep (rowF ⟨cs, F, []⟩ p') a).f
        rw [rstep_some e1, rstep_some hc, ef]
      · rw [ins_snoc]
        unfold sntC
        rw [ca, eF]
        rw [if_neg (fun z => hs (List.isEmpty_iff.mp z))]
  have sq : SqN cs.length f := ⟨nd, fun i hi => hp i ((mem i).mp hi)⟩
  have eF : folF cs F f = (rowF ⟨cs, F, []⟩ p).f := (row_sq sq).symm.trans ef
  have eE : (rowF ⟨cs, F, []⟩ r).f = (rowF ⟨cs, F, []⟩ p).f := by rw [h.e]; exact h.fo t [] (List.append_nil _).symm
  have lE : (rowF ⟨cs, F, []⟩ r).now.length = cs.length := rowF_len _ _
  -- what is not in the tail is as it was behind the first part
  have fin : ∀ i, i < cs.length → i ∉ t → (rowF ⟨cs, F, []⟩ p).now[i]? = some (cpF (rowF ⟨cs, F, []⟩ p).f) := fun i il ht => by
    obtain ⟨c, hc⟩ : ∃ c, (rowF ⟨cs, F, []⟩ r).now[i]? = some c := ⟨_, List.getElem?_eq_getElem (by omega)⟩
    have := g c (List.mem_of_getElem? hc)
    rw [eE] at this
    rw [this] at hc
    have e1 : (rowF ⟨cs, F, []⟩ r).now[i]? = (rowF ⟨cs, F, []⟩ p).now[i]? := by rw [h.e, rowF_app]; exact row_keep t _ ht
    exact e1.symm.trans hc
  have oth : ∀ i, i < cs.length → i ∉ f → i ∉ idlF cs F f → i ∈ t := fun i il hf hi => by
    by_cases ht : i ∈ t
    · exact ht
    · exfalso
      have := fin i il ht
      rw [row_keep p _ fun z => hf ((mem i).mpr z)] at this
      have this : cs[i]? = some (cpF (rowF ⟨cs, F, []⟩ p).f) := this
      refine hi (List.mem_filter.mpr ⟨mem_oth.mpr ⟨il, hf⟩, ?_⟩)
      unfold idlB
      rw [this, eF]
      exact decide_eq_true rfl
  have cb : candB cs F f = true := by
    refine List.all_eq_true.mpr fun i hi => ?_
    have h1 := mem_oth.mp hi
    cases e : idlB cs (folF cs F f) i with
    | true => rfl
    | false =>
      have ht := oth i h1.1 h1.2 fun z => by rw [(List.mem_filter.mp z).2] at e; cases e
      obtain ⟨t1, t2, e2, n1⟩ := first_split ht
      obtain ⟨c, hc⟩ : ∃ c, cs[i]? = some c := ⟨_, List.getElem?_eq_getElem h1.1⟩
      have q := h.q t1 i t2 e2 c (by
        rw [row_keep (p ++ t1) _ fun z => (List.mem_append.mp z).elim (fun z => h1.2 ((mem i).mpr z)) n1]; exact hc)
      rw [h.fo t1 _ e2] at q
      show (false || (sntC cs (folF cs F f) i).isEmpty) = true
      rw [show sntC cs (folF cs F f) i = [] by unfold sntC; rw [hc, eF]; exact q]; rfl
  have sub : ∀ i ∈ tailF cs F f, i ∈ t := fun i hi => by
    have h1 := mem_tail.mp hi
    by_cases hf : i ∈ f
    · by_cases ht : i ∈ t
      · exact ht
      · exfalso
        have k1 := fin i h1.1 ht
        rcases hs with rfl | ⟨p', a, c, rfl, hc, hs, hin⟩
        · exact absurd ((mem i).mp hf) (by simp)
        · have rp : RG (k + 131 * p'.length) (rowF ⟨cs, F, []⟩ p') := rg_row p' rg (by
            rw [h.e] at hk; simp only [List.length_append, List.length_singleton] at hk; omega)
          have eP : rowF ⟨cs, F, []⟩ (p' ++ [a]) = rstep (rowF ⟨cs, F, []⟩ p') a := rowF_app _ _ _
          have nia : i ≠ a := fun e => h1.2.1 (by rw [hin, e]; exact List.mem_cons_self)
          have lt := step_lt rp.ga (rp.gc c (List.mem_of_getElem? hc)).z hs
          rw [eP, rstep_some hc] at k1
          have k1 : ((rowF ⟨cs, F, []⟩ p').now.set a (cpF (stepM c (rowF ⟨cs, F, []⟩ p').f)))[i]? = some (cpF (stepM c (rowF ⟨cs, F, []⟩ p').f)) := k1
          rw [List.getElem?_set_ne (fun e => nia e.symm)] at k1
          have := (rp.gc _ (List.mem_of_getElem? k1)).mr
          have e3 : (cpF (stepM c (rowF ⟨cs, F, []⟩ p').f)).mr = (stepM c (rowF ⟨cs, F, []⟩ p').f).mr := rfl
          omega
    · exact oth i h1.1 hf h1.2.2
  have nT : (tailF cs F f).Nodup := (tail_asc cs F f).imp fun h => Nat.ne_of_lt h
  have lT := nodup_len nT sub
  have lr : r.length = p.length + t.length := by rw [h.e, List.length_append]
  have lc : (candR cs F f).length = f.length + (tailF cs F f).length := List.length_append
  refine ⟨f, sq, cb, fun z => ?_⟩
  rcases z with z | ⟨z1, z2⟩
  · omega
  · have ep := eq (by omega)
    subst ep
    have pm := perm_of_sub nT sub (by omega)
    rw [h.e] at z2
    exact app_le (asc_le_perm (tail_asc cs F f) pm) z2
end
end K1


set_option Elab.async false
set_option linter.all false
set_option maxRecDepth 100000
set_option maxHeartbeats 4000000
/-! The search for a least row: the mathematics. -/
namespace K1
open PySem PySem.Spec PyProof.Rows L2 RZ StX
def wtN : Nat → Nat
  | 0 => 1
  | m + 1 => 1 + (m + 1) * wtN m
def wtF (n : Nat) (f : List Nat) : Nat := wtN (n - f.length)
theorem wtN_pos : ∀ m, 1 ≤ wtN m
  | 0 => Nat.le_refl _
  | m + 1 => Nat.le_add_right _ _
structure LM (cs : List Cp) (F : Fo) (fs rows : List (List Nat)) (m : Nat) : Prop where
  sq : ∀ f ∈ fs, SqN cs.length f
  cov : ∀ f, SqN cs.length f → (∃ g ∈ fs, g <+: f) ∨ (candB cs F f = true → candR cs F f ∈ rows)
  snd : ∀ r ∈ rows, ∃ f, SqN cs.length f ∧ candB cs F f = true ∧ r = candR cs F f
  em : m = (fs.map (wtF cs.length)).sum
  le : rows.length + m ≤ 65
def IsLeast (cs : List Cp) (F : Fo) (row : List Nat) : Prop := (∃ f, SqN cs.length f ∧ candB cs F f = true ∧ row = candR cs F f) ∧ ∀ f, SqN cs.length f → candB cs F f = true → ¬ ltR (candR cs F f) row
theorem filt_split {α : Type} (p : α → Bool) : ∀ l : List α, l.length = (l.filter p).length + (l.filter fun a => !p a).length
  | [] => rfl
  | x :: r => by
    have := filt_split p r
    rw [List.filter_cons, List.filter_cons]
    cases p x <;> simp <;> omega
theorem oth_len {n : Nat} {f : List Nat} (h : SqN n f) : (othF n f).length + f.length = n := by
  have e1 : ((List.range n).filter fun i => decide (i ∈ f)).length = f.length := by
    refine Nat.le_antisymm (nodup_len (List.Pairwise.sublist List.filter_sublist List.nodup_range) fun x hx => of_decide_eq_true (List.mem_filter.mp hx).2) (nodup_len h.nd fun x hx => List.mem_filter.mpr ⟨List.mem_range.mpr (h.lt x hx), decide_eq_true hx⟩)
  have e2 := filt_split (fun i => decide (i ∈ f)) (List.range n)
  rw [List.length_range] at e2
  unfold othF
  omega
theorem lm_start (cs : List Cp) (F : Fo) (h : cs.length ≤ 4) : LM cs F [[]] [] (wtN cs.length) :=
  ⟨fun f hf => by rw [List.mem_singleton.mp hf]; exact ⟨List.nodup_nil, fun i hi => by cases hi⟩, fun f _ => .inl ⟨[], List.mem_singleton.mpr rfl, List.nil_prefix⟩, fun r hr => (by cases hr), (by simp [wtF]), by
    have : ∀ n : Fin 5, wtN n.val ≤ 65 := by decide
    have := this ⟨cs.length, by omega⟩
    simpa using this⟩
theorem sq_snoc {n : Nat} {f : List Nat} (h : SqN n f) {a : Nat} (ha : a ∈ othF n f) : SqN n (f ++ [a]) := by
  have := mem_oth.mp ha
  refine ⟨List.nodup_append.mpr ⟨h.nd, by simp, fun x hx y hy e => this.2 ?_⟩, fun i hi => (List.mem_append.mp hi).elim (h.lt i) fun z => by rw [List.mem_singleton.mp z]; exact this.1⟩
  rw [← List.mem_singleton.mp hy, ← e]; exact hx
theorem lm_step {cs : List Cp} {F : Fo} {fs rows : List (List Nat)} {m : Nat} {f : List Nat} (h : LM cs F (fs ++ [f]) rows m) :
    ∃ m', m' < m ∧ LM cs F (fs ++ (othF cs.length f).map fun a => f ++ [a]) (if candB cs F f = true then rows ++ [candR cs F f] else rows) m' := by
  have sf := h.sq f (List.mem_append_right _ List.mem_cons_self)
  have ol := oth_len sf
  have em := h.em
  rw [List.map_append, List.sum_append] at em
  have ws : (([f].map (wtF cs.length)).sum) = wtN (cs.length - f.length) := by simp [wtF]
  have wc : ((((othF cs.length f).map fun a => f ++ [a]).map (wtF cs.length)).sum) + 1 = wtN (cs.length - f.length) := by
    have e1 : (((othF cs.length f).map fun a => f ++ [a]).map (wtF cs.length)) = List.replicate (othF cs.length f).length (wtN (cs.length - (f.length + 1))) := by
      rw [List.map_map]
      refine List.eq_replicate_iff.mpr ⟨by simp, fun b hb => ?_⟩
      obtain ⟨a, _, rfl⟩ := List.mem_map.mp hb
      show wtN (cs.length - (f ++ [a]).length) = _
      simp
    rw [e1, List.sum_replicate_nat]
    cases e : cs.length - f.length with
    | zero =>
      have : (othF cs.length f).length = 0 := by omega
      rw [this]; simp [wtN]
    | succ k =>
      have h1 : (othF cs.length f).length = k + 1 := by omega
      have h2 : cs.length - (f.length + 1) = k := by omega
      rw [h1, h2]
      show _ = 1 + (k + 1) * wtN k
      omega
  have le := h.le
  refine ⟨(fs.map (wtF cs.length)).sum + ((((othF cs.length f).map fun a => f ++ [a]).map (wtF cs.length)).sum), by omega, fun g hg => ?_, fun g hg => ?_, fun r hr => ?_, by rw [List.map_append, List.sum_append], ?_⟩
  · rcases List.mem_append.mp hg with z | z
    · exact h.sq g (List.mem_append_left _ z)
    · obtain ⟨a, ha, rfl⟩ := List.mem_map.mp z
      exact sq_snoc sf ha
  · have up : ∀ {r : List Nat}, r ∈ rows → r ∈ (if candB cs F f = true then rows ++ [candR cs F f] else rows) := fun {r} hr => by
      split
      · exact List.mem_append_left _ hr
      · exact hr
    rcases h.cov g hg with ⟨x, hx, px⟩ | c
    · rcases List.mem_append.mp hx with z | z
      · exact .inl ⟨x, List.mem_append_left _ z, px⟩
      · rw [List.mem_singleton.mp z] at px
        obtain ⟨t, rfl⟩ := px
        cases t with
        | nil =>
          rw [List.append_nil] at hg ⊢
          refine .inr fun c => ?_
          rw [if_pos c]
          exact List.mem_append_right _ List.mem_cons_self
        | cons a t =>
          refine .inl ⟨f ++ [a], List.mem_append_right _ (List.mem_map.mpr ⟨a, mem_oth.mpr ⟨hg.lt a (by simp), fun z => ?_⟩, rfl⟩), ⟨t, by simp⟩⟩
          have nd := hg.nd
          rw [List.nodup_append] at nd
          exact nd.2.2 a z a List.mem_cons_self rfl
    · exact .inr fun z => up (c z)
  · split at hr
    · rename_i c
      rcases List.mem_append.mp hr with z | z
      · exact h.snd r z
      · exact ⟨f, sf, c, List.mem_singleton.mp z⟩
    · exact h.snd r hr
  · split
    · rw [List.length_append, List.length_singleton]; omega
    · omega
theorem lm_end {cs : List Cp} {F : Fo} {rows : List (List Nat)} {m : Nat} (h : LM cs F [] rows m) {row : List Nat} (hm : row ∈ rows) (hl : ∀ r ∈ rows, ¬ ltR r row) : IsLeast cs F row :=
  ⟨h.snd row hm, fun f sf c => hl _ (((h.cov f sf).resolve_left fun ⟨g, hg, _⟩ => by cases hg) c)⟩
theorem lm_some {cs : List Cp} {F : Fo} {rows : List (List Nat)} {m : Nat} (h : LM cs F [] rows m) : rows ≠ [] := by
  -- the order of all is a candidate
  have sq : SqN cs.length (List.range cs.length) := ⟨List.nodup_range, fun i hi => List.mem_range.mp hi⟩
  have c : candB cs F (List.range cs.length) = true := List.all_eq_true.mpr fun i hi => by
    have := mem_oth.mp hi
    exact absurd (List.mem_range.mpr this.1) this.2
  have := ((h.cov _ sq).resolve_left fun ⟨g, hg, _⟩ => by cases hg) c
  intro e
  rw [e] at this; cases this
end K1


set_option Elab.async false
set_option linter.all false
set_option maxRecDepth 100000
set_option maxHeartbeats 4000000
/-! min(rows, key=lambda row: (len(row), row)) over rows of ints. -/
namespace K1
open PySem PySem.Spec PyProof.Rows L2 LamX LamY PySem.SeqAt
open PySem.W (dataLt alike alikeAll alike_ints dataLt_tuple dataLt_ints dataLt_pair dataLt_int toks_eqv rcLt_alike keyToks)
def ltLen (a b : List Int) : Bool := decide (a.length < b.length ∨ a.length = b.length ∧ a < b)
def keyD (ns : List Int) : PyData := .tuple [.int ns.length, .tuple (ns.map .int)]
theorem alike_key (a b : List Int) : alike (keyD a) (keyD b) = true := by
  have h := alike_ints a b
  unfold keyD
  have h2 : alike (.tuple (a.map .int)) (.tuple (b.map .int)) = true := by rw [alike]; exact h
  simp [alike, alikeAll, h2, h]
theorem dataLt_tups (xs ys : List Int) : dataLt (.tuple (xs.map .int)) (.tuple (ys.map .int)) = decide (xs < ys) := (dataLt_tuple _ _).trans (dataLt_ints xs ys)
theorem dataLt_key (a b : List Int) : dataLt (keyD a) (keyD b) = ltLen a b := by
  unfold keyD
  rw [dataLt_pair (by simp [alike]) (by rw [alike]; exact alike_ints a b), dataLt_int, dataLt_tups]
  have ei : PyData.eqv (.int a.length) (.int b.length) = decide (a.length = b.length) := by
    simp [PyData.eqv]
    by_cases c : a.length = b.length
    · simp [c]
    · simp [c]; omega
  rw [ei]
  unfold ltLen
  by_cases c : a.length = b.length
  · rw [decide_eq_true c, if_pos rfl]
    have e1 : decide (a.length < b.length ∨ a.length = b.length ∧ a < b) = decide (a < b) := by
      rw [decide_eq_decide]
      exact ⟨fun h => h.elim (fun z => by omega) (·.2), fun h => .inr ⟨c, h⟩⟩
    rw [e1]
    split
    · rename_i h
      have ht := (toks_eqv (.tuple (a.map .int)) (.tuple (b.map .int)) (by rw [alike]; exact alike_ints a b)).1 h
      rw [← dataLt_tups]
      unfold dataLt
      rw [ht]
      exact (lex_irrefl _).symm
    · rfl
  · rw [decide_eq_false c, if_neg (by simp)]
    rw [decide_eq_decide]
    exact ⟨fun h => .inl (by omega), fun h => h.elim (fun z => by omega) fun z => absurd z.1 c⟩
theorem ltLen_irr (a : List Int) : ltLen a a = false := by
  unfold ltLen
  refine decide_eq_false fun h => h.elim (fun z => by omega) fun z => List.lt_irrefl a z.2
theorem ltLen_tr {a b c : List Int} (h1 : ltLen a b = true) (h2 : ltLen b c = true) : ltLen a c = true := by
  unfold ltLen at *
  have h1 := of_decide_eq_true h1
  have h2 := of_decide_eq_true h2
  refine decide_eq_true ?_
  rcases h1 with h1 | ⟨h1, k1⟩ <;> rcases h2 with h2 | ⟨h2, k2⟩
  · exact .inl (by omega)
  · exact .inl (by omega)
  · exact .inl (by omega)
  · exact .inr ⟨by omega, List.lt_trans k1 k2⟩
theorem argBest_key (num : Nat → List Int) : ∀ k, argBest (fun i j => ltLen (num i) (num j)) k ≤ k ∧ ∀ j, j ≤ k → ltLen (num j) (num (argBest (fun i j => ltLen (num i) (num j)) k)) = false
  | 0 => ⟨Nat.le_refl _, fun j hj => by rw [Nat.le_zero.mp hj]; exact ltLen_irr _⟩
  | k + 1 => by
    obtain ⟨h1, h2⟩ := argBest_key num k
    show (if ltLen (num (k + 1)) (num (argBest (fun i j => ltLen (num i) (num j)) k)) then k + 1 else _) ≤ _ ∧ ∀ j, _ → ltLen _ (num (if ltLen (num (k + 1)) (num (argBest (fun i j => ltLen (num i) (num j)) k)) then k + 1 else _)) = false
    by_cases c : ltLen (num (k + 1)) (num (argBest (fun i j => ltLen (num i) (num j)) k)) = true
    · rw [if_pos c]
      refine ⟨Nat.le_refl _, fun j hj => ?_⟩
      by_cases e : j = k + 1
      · rw [e]; exact ltLen_irr _
      · cases z : ltLen (num j) (num (k + 1)) with
        | false => rfl
        | true =>
          have := ltLen_tr z c
          rw [h2 j (by omega)] at this; cases this
    · rw [if_neg c]
      refine ⟨by omega, fun j hj => ?_⟩
      by_cases e : j = k + 1
      · rw [e]; simpa using c
      · exact h2 j (by omega)
theorem un_but {fs ch : List Addr} {H : Hp} {h h' : Heap} (k : ∀ b u, b ∉ ch → h.get? b = some u → h'.get? b = some u) : Un fs ch H H h h' :=
  ⟨fun b o q _ _ hx => k b o hx q, fun b o q _ _ hx => ⟨o.slots, k b o hx q⟩, fun _ _ _ n _ => n, fun b o q hx => ⟨o, k b o hx q⟩, fun _ _ e => e, fun _ _ _ e => e, fun b ps e => ⟨#[], by rw [e]; simp⟩⟩
section
variable {X : Cx} {pins : List (Addr × Obj)} {σ : L2.St} {H : Hp} {s : Shared}
/-- what stays while min asks: JM -/
structure JM (X : Cx) (pins : List (Addr × Obj)) (σ : L2.St) (H : Hp) (f : Addr) (fo : Obj) (S it : Addr) (H' : Hp) (s : Shared) : Prop where
  I : Inv X pins σ H' s
  sm : ∀ b o, H b = some o → H' b = some o
  tp : ∀ b o, H' b = some o → H b = none → ∃ xs, o = .tup xs
  ff : s.heap.get? f = some fo
  fn : H' f = none
  S : H' S = none
  it : H' it = none
structure KVM (X : Cx) (H : Hp) (S it : Addr) (rs : List (Addr × List Int)) (i : Nat) (k : Value) (s : Shared) : Prop where
  ex : ∃ (t : Addr) (tk : Tok) (r : Addr × List Int), k = .ref t ∧ rs[i]? = some r ∧ H t = none ∧ t ∉ frs X.stack ∧ t ≠ S ∧ t ≠ it ∧ IsTup s.heap t #[.int r.2.length tk, .ref r.1]
theorem refs_its : ∀ {rs : List (Addr × List Int)} {its : List Value}, Vals (rs.map fun r => V.ref r.1) its → its = rs.map fun r => Value.ref r.1
  | [], _, .nil => rfl
  | r :: t, _, .cons r1 r2 => by rw [List.map_cons, ← refs_its r2]; rw [show _ = Value.ref r.1 from r1]
theorem two_its {n : Int} {r : Addr} : ∀ {its : List Value}, Vals [V.int n, V.ref r] its → ∃ tk, its.toArray = #[.int n tk, .ref r]
  | _, .cons ⟨tk, h1⟩ (.cons h2 .nil) => ⟨tk, by subst h1; rw [show _ = Value.ref r from h2]⟩
theorem relV_int {x : V} {n : Int} {tk : Tok} (h : L2.RelV x (.int n tk)) : x = .int n := by
  cases x with
  | int i => obtain ⟨t, e⟩ := h; cases e; rfl
  | non => cases (show Value.int n tk = .none from h)
  | bl b => cases (show Value.int n tk = .bool b from h)
  | str b => obtain ⟨t, e⟩ := h; cases e
  | byt b => obtain ⟨t, e⟩ := h; cases e
  | flt b => obtain ⟨t, e⟩ := h; cases e
  | ref a => cases (show Value.int n tk = .ref a from h)
  | ty a => cases (show Value.int n tk = .type a from h)
theorem relV_ref {x : V} {r : Addr} (h : L2.RelV x (.ref r)) : x = .ref r := by
  cases x with
  | int i => obtain ⟨t, e⟩ := h; cases e
  | non => cases (show Value.ref r = .none from h)
  | bl b => cases (show Value.ref r = .bool b from h)
  | str b => obtain ⟨t, e⟩ := h; cases e
  | byt b => obtain ⟨t, e⟩ := h; cases e
  | flt b => obtain ⟨t, e⟩ := h; cases e
  | ref a => cases (show Value.ref r = .ref a from h); rfl
  | ty a => cases (show Value.ref r = .type a from h)
theorem two_vals {n : Int} {tk : Tok} {r : Addr} : ∀ {xs : List V} , Vals xs [.int n tk, .ref r] → xs = [V.int n, V.ref r]
  | _, .cons (a := x) h1 (.cons (a := y) h2 .nil) => by
    have e1 : x = V.int n := relV_int h1
    have e2 : y = V.ref r := relV_ref h2
    rw [e1, e2]
theorem tup_same {h : Heap} {t : Addr} {vs : Array Value} {its : List Value} (a : IsTup h t vs) (b : IsTup h t its.toArray) : its = vs.toList := by
  obtain ⟨o, h1, _, n, h2⟩ := a
  obtain ⟨o', k1, _, n', k2⟩ := b
  rw [h1] at k1; cases k1
  rw [h2] at k2
  cases k2; rfl
theorem ints_reads {h : Heap} : ∀ {ns : List Int} {its : List Value}, Vals (ns.map V.int) its → ∃ as, ReadsAll h its (ns.map .int) as
  | [], _, .nil => ⟨_, .nil⟩
  | n :: r, _, .cons ⟨tk, h1⟩ t => by
    obtain ⟨as, ra⟩ := ints_reads (h := h) t
    subst h1
    exact ⟨_, .cons (.int n tk) ra⟩
theorem min_lam {xp : Str} {k : Nat} {f c' : Addr} {pm ctv : Value} {params : Arguments} {body : Expr} {scope : Scope} {tb : TE} {a : Addr} {rs : List (Addr × List Int)} {Q : VK}
    (I : Inv X pins σ H s) (hr : Room (k + 3) X.A) (L : LamS1 X.env.scope scope xp) (hxn : xp ∉ X.N)
    (hf : s.heap.get? f = some (PySem.W.kla_obj "<lambda>" (X.env.qual ++ "<lambda>") params body scope (cloFrom X.env.cells scope.names []) pm c' ctv)) (hfn : H f = none) (hfr : f ∉ frs X.stack) (hco : H c' = some (CodeO c' (X.env.qual ++ "<lambda>")))
    (hbind : ∀ u, bindArgs (PySem.W.kla_fn "<lambda>" (X.env.qual ++ "<lambda>") params body scope (cloFrom X.env.cells scope.names []) pm (.ref c') ctv) ⟨[u], []⟩ = pure [(xp, u)])
    (hbody : ∀ (A : Around) (outer : List Env) (s : Shared) (H : Hp), Room k (A.deeper (lamEnv X scope s.heap.objs.size f c')) → PE (lamCx1 X A outer s H C8.E0 scope xp f c') body tb)
    (htb : ∀ (r : Addr) (ns : List Int) (H' : Hp) (Q : VK), SqT X.K H' r (ns.map V.int) → (∀ t, H' t = none → Q (.ref t) (upd H' t (.tup [.int ns.length, .ref r]))) → tb (σ ++ [some (.ref r)]) H' Q)
    (ha : H a = some (.lst (rs.map fun r => V.ref r.1))) (hrs : ∀ r ∈ rs, SqT X.K H r.1 (r.2.map V.int)) (h0 : rs ≠ [])
    (q : ∀ r ∈ rs, (∀ r' ∈ rs, ltLen r'.2 r.2 = false) → ∀ H', Same H H' → Q (.ref r.1) H') :
    wpAny (model X.prog X.w) X.A (call (.builtin "min") [.ref a] [(Str.ofString "key", .ref f)]) (EP X pins σ Q) X.xe s := by
  obtain ⟨its, rel, pl, _⟩ := I.list (.inl (.inl ha))
  have hits := refs_its rel
  obtain ⟨oL, nL, hoL, hcL, hdL, hsL⟩ := id pl
  have hL : s.heap.IsList a its.toArray := ⟨oL, hoL, hcL, _, hsL⟩
  have lt_a : a < s.heap.objs.size := Heap.lt_size hoL
  have lits : its.length = rs.length := by rw [hits, List.length_map]
  have get_its : ∀ {i : Nat} {v : Value}, its.toArray[i]? = some v → ∃ r, rs[i]? = some r ∧ v = .ref r.1 := fun {i v} h => by
    rw [List.getElem?_toArray, hits, List.getElem?_map] at h
    obtain ⟨r, h1, h2⟩ := Option.map_eq_some_iff.mp h
    exact ⟨r, h1, h2.symm⟩
  have lf : f < s.heap.objs.size := Heap.lt_size hf
  have lX := I.sz
  have nloc := I.lt
  refine call_min_walkK (wpAny_pyIter_list hL ?_)
  have hS : (s.heap.push { cls := .type "list_iterator", data := .fields #[.ref a, .int 0 0] }).objs.size = s.heap.objs.size + 1 := Heap.size_push _ _
  generalize hS2 : (s.heap.push { cls := .type "list_iterator", data := .fields #[.ref a, .int 0 0] }) = h2 at hS
  have kp2 : ∀ b o, s.heap.get? b = some o → h2.get? b = some o := fun b o e => by rw [← hS2]; exact Heap.get?_push_of_some _ e
  have hit2 : h2.IsListIter s.heap.objs.size a 0 := by rw [← hS2]; exact ⟨_, Heap.get?_push_size _ rfl, rfl, rfl⟩
  generalize hit : s.heap.objs.size = it at *
  generalize hSS : h2.objs.size = S at *
  have nit : H it = none := I.hok.fresh (Nat.le_of_eq hit)
  have itS : it < S := by rw [hS]; exact Nat.lt_succ_self _
  have nS : H S = none := I.hok.fresh (Nat.le_trans (Nat.le_of_eq hit) (Nat.le_of_lt itS))
  have far : ∀ b ∈ [S, it], it ≤ b := fun b hb => by
    rcases List.mem_cons.mp hb with e | e
    · rw [e]; exact Nat.le_of_lt itS
    · rw [List.mem_singleton.mp e]; exact Nat.le_refl _
  have low : ∀ b, b < it → b ∉ [S, it] := fun b hb z => absurd (Nat.lt_of_lt_of_le hb (far b z)) (Nat.lt_irrefl _)
  have hch : ∀ {H' : Hp} {s' : Shared}, Inv X pins σ H' s' → True := fun _ => trivial
  have chk : ∀ b ∈ [S, it], (b ∈ X.ex ∨ X.s_0.heap.objs.size ≤ b) ∧ b ≠ X.env.locals ∧ (∀ x c, X.env.cells.lookup x = some c → c ≠ b) ∧ ∀ p ∈ X.pn ++ pins, p.1 ≠ b := fun b hb => by
    have hb := far b hb
    refine ⟨.inr (Nat.le_trans lX hb), Nat.ne_of_gt (Nat.lt_of_lt_of_le nloc hb), fun x c e => ?_, fun p hp => ?_⟩
    · obtain ⟨v, o, ho, _⟩ := I.cell x c e
      exact Nat.ne_of_lt (Nat.lt_of_lt_of_le (by rw [← hit]; exact Heap.lt_size ho) hb)
    · exact Nat.ne_of_lt (Nat.lt_of_lt_of_le (by rw [← hit]; exact Heap.lt_size (I.pin p hp).1) hb)
  have keepJ : ∀ {H' : Hp} {s1 s' : Shared} {fo : Obj}, JM X pins σ H f fo S it H' s1 → Moved [S, it] (fun a b => b = a) s1 s' → JM X pins σ H f fo S it H' s' := fun {H' s1 s' fo} J m => by
    have hok : HOk X.prog X.w H' s'.heap := fun b u e => (J.I.hok b u e).stay (fun c v hc q => m.heap c v (fun z => by
      have nb : ∀ d, H' d ≠ none → d ∉ [S, it] := fun d hd z => by
        rcases List.mem_cons.mp z with z | z
        · rw [z] at hd; exact hd J.S
        · rw [List.mem_singleton.mp z] at hd; exact hd J.it
      rcases hc with rfl | hc
      · exact nb c (by rw [e]; simp) z
      · exact nb c (by rw [hc]; simp) z) q) (fun _ q => q) fun _ _ q => q
    refine ⟨J.I.call' m.os (un_but fun b u hb e => m.heap b u hb e) hok (by rw [m.gens]; exact J.I.bare) chk, J.sm, J.tp, m.heap f _ (low f lf) J.ff, J.fn, J.S, J.it⟩
  refine ⟨it, _, _, _, _, _, _, fun s' => ∃ H', JM X pins σ H f (PySem.W.kla_obj "<lambda>" (X.env.qual ++ "<lambda>") params body scope (cloFrom X.env.cells scope.names []) pm c' ctv) S it H' s', KVM X H S it rs, fun i j => ltLen ((rs.getD i (0, [])).2) ((rs.getD j (0, [])).2), rfl, (Walks.list (A := X.A.in1) hr.hd it a (Nat.ne_of_lt lt_a) its.toArray).toS, ⟨hit2, hL.at fun o e => kp2 a o e⟩, ?_, ?_, ?_, ⟨H, ?_⟩, ?_⟩
  · intro b hb
    show b < S
    rcases List.mem_cons.mp hb with e | e
    · rw [e]; exact itS
    · rw [List.mem_singleton.mp e]; exact Nat.lt_trans lt_a itS
  · show 0 < its.toArray.size
    rw [List.size_toArray, lits]
    exact List.length_pos_iff.mpr h0
  · refine ⟨fun s1 s2 ⟨H', J⟩ m => ⟨H', keepJ J m⟩, fun i k s1 s2 v m => ?_, ?_, ?_⟩
    · obtain ⟨t, tk, r, e1, e2, e3, e4, e5, e6, o, ho, hc, n, hd⟩ := v.ex
      exact ⟨t, tk, r, e1, e2, e3, e4, e5, e6, o, m.heap t o (fun z => by
        rcases List.mem_cons.mp z with z | z
        · exact e5 z
        · exact e6 (List.mem_singleton.mp z)) ho, hc, n, hd⟩
    · rintro i v s1 o Q1 E1 hi hP ⟨H', J⟩ hst hSo hQ
      obtain ⟨r, hr1, rfl⟩ := get_its hP
      have I1 := J.I
      have hrow : SqT X.K H' r.1 (r.2.map V.int) := by
        rcases hrs r (List.mem_of_getElem? hr1) with (z | ⟨u, z⟩) | z
        · exact .inl (.inl (J.sm _ _ z))
        · exact .inl (.inr ⟨u, J.sm _ _ z⟩)
        · exact .inr z
      obtain ⟨⟨oc, vs', t0, hoc, hdc, hvc⟩, _, _⟩ := I1.hok c' _ (J.sm _ _ hco)
      have hrA : Room (k + 1) X.A.in1 := (hr.mono (by omega : k + 2 ≤ k + 3)).in1
      have rc : codeAny (model X.prog X.w) X.A.in1 (.call (.ref f) ⟨[.ref r.1], []⟩) (CR (L2.CX X.prog X.w) X.stack X.prog X.w H' s1 (fun v H2 => ∃ t, v = .ref t ∧ H' t = none ∧ H2 = upd H' t (.tup [.int r.2.length, .ref r.1])) C8.E0) s1 := by
        refine PySem.W.kla_callFunE hrA.depth J.ff rfl L.co L.gen rfl ⟨c', oc, vs', t0, rfl, hoc, hdc, hvc⟩ ?_
        rw [hbind]
        refine wpAny_pure (wpAny_newFunctionEnv (fun y hy => (L.own y hy).1) (fun y hy => ?_) (fun h₁ hns hsb => ⟨I1.nolimit.fresh _ hsb, ?_⟩) L.kind)
        · rw [List.mem_singleton.mp hy]; exact L.par
        show codeAny _ _ (.expr body (lamEnv X scope s1.heap.objs.size f c')) _ _
        have kp : ∀ b o, s1.heap.get? b = some o → h₁.get? b = some o := fun b o e => hsb.extBut b o (Nat.ne_of_lt (Heap.lt_size e)) (Heap.get?_push_of_some _ e)
        have J1 : L2.Inv (lamCx1 X X.A.in1 X.stack s1 H' C8.E0 scope xp f c') [] (σ ++ [some (.ref r.1)]) H' { s1 with heap := h₁, toks := s1.toks + ([(xp, Value.ref r.1)] : List (Str × Value)).length } :=
          lam_start1 I1 L hxn rfl (Env0.in1 I1.env0) hrA.hd Un.refl hns kp
        refine PySem.W.kla_codeExpr (wpAny_mono ((hbody X.A.in1 X.stack s1 H' (hrA.deeper _)).run [] _ _ H' _ J1 (htb r.1 r.2 H' (fun v H2 => ∃ t, v = .ref t ∧ H' t = none ∧ H2 = upd H' t (.tup [.int r.2.length, .ref r.1])) hrow fun t nt => ⟨t, rfl, nt, rfl⟩)) (fun v s' hq => ?_) fun e s' hq => hq)
        obtain ⟨w', H2, J', rv, q⟩ := hq
        exact ⟨w', H2, J'.os, J'.bare, J'.base, J'.hok, rv, q⟩
      refine wpAny_call (codeAny_mono rc fun rr s2 hq => ?_)
      cases rr with
      | error e =>
        obtain ⟨_, _, _, _, _, _, _, _, _, _, _, _, z⟩ := hq
        exact z.elim
      | ok fl =>
        cases fl with
        | ret u =>
          obtain ⟨v2, H2, eos, ebare, un, hok2, rv, t, rfl, nt, rfl⟩ := hq
          obtain rfl : u = Value.ref t := rv
          have I2 : Inv X pins σ (upd H' t (.tup [.int r.2.length, .ref r.1])) s2 := I1.call' eos un hok2 ebare (fun b hb => by cases hb)
          have keepU : ∀ b o, s1.heap.get? b = some o → H' b = none → b ∉ frs X.stack → s2.heap.get? b = some o := fun b o e n hb => un.keep b o e n hb (by simp)
          have nofr : ∀ b, it ≤ b → b ∉ frs X.stack := fun b hb z => by
            rcases List.mem_cons.mp (I.stkSub _ z) with e | e
            · rw [← e] at nloc; exact Nat.lt_irrefl _ (Nat.lt_of_lt_of_le nloc hb)
            · exact I.nofs (by rw [hit]; exact hb) e
          have hSo2 := keepU S o hSo J.S (nofr S (Nat.le_of_lt itS))
          obtain ⟨⟨oi, hoi, hci⟩, hLi⟩ := id hst
          have fS : (upd H' t (.tup [.int r.2.length, .ref r.1])) S = none := un.free S o hSo J.S (by simp)
          have fI : (upd H' t (.tup [.int r.2.length, .ref r.1])) it = none := un.free it oi hoi J.it (by simp)
          have fF : (upd H' t (.tup [.int r.2.length, .ref r.1])) f = none := un.free f _ J.ff J.fn (by simp)
          have tS : t ≠ S := fun e => by rw [← e, upd_same] at fS; cases fS
          have tI : t ≠ it := fun e => by rw [← e, upd_same] at fI; cases fI
          have sm2 : ∀ b o, H b = some o → (upd H' t (.tup [.int r.2.length, .ref r.1])) b = some o := fun b o e => by
            rw [upd_ne (ne_of_none (J.sm b o e) nt)]; exact J.sm b o e
          have Ht : H t = none := by
            cases e : H t with
            | none => rfl
            | some u => rw [J.sm t u e] at nt; cases nt
          have hst2 : s2.heap.IsListIter it a (i + 1) ∧ s2.heap.IsList a its.toArray := by
            refine ⟨⟨oi, keepU it oi hoi J.it (nofr it (Nat.le_refl _)), hci⟩, ?_⟩
            obtain ⟨its2, rel2, ⟨oL2, nL2, h1, h2, _, h4⟩, _⟩ := I2.list (.inl (.inl (sm2 _ _ ha)))
            have e2 := refs_its rel2
            rw [hits, ← e2]
            exact ⟨oL2, h1, h2, _, h4⟩
          refine hQ (.ref t) s2 ⟨_, I2, sm2, fun b o e n => ?_, keepU f _ J.ff J.fn hfr, fF, fS, fI⟩ hst2 hSo2 ⟨?_⟩ fun j k' v => ?_
          · by_cases c : b = t
            · rw [c, upd_same] at e
              exact ⟨_, (Option.some.inj e).symm⟩
            · rw [upd_ne c] at e
              exact J.tp b o e n
          · obtain ⟨its3, rel3, tup3, _⟩ := I2.tuple (xs := [.int r.2.length, .ref r.1]) (.inl (.inl upd_same))
            obtain ⟨tk, e3⟩ := two_its rel3
            rw [e3] at tup3
            refine ⟨t, tk, r, rfl, hr1, Ht, fun z => (by have := I2.stkFree t z; rw [upd_same] at this; cases this), tS, tI, tup3⟩
          · obtain ⟨t', tk, r', e1, e2, e3, e4, e5, e6, tp'⟩ := v.ex
            cases e : H' t' with
            | none =>
              obtain ⟨o', ho', hc', n', hd'⟩ := tp'
              exact ⟨t', tk, r', e1, e2, e3, e4, e5, e6, o', keepU t' o' ho' e e4, hc', n', hd'⟩
            | some u =>
              obtain ⟨xs, rfl⟩ := J.tp t' u e e3
              obtain ⟨its4, rel4, tup4, _⟩ := I1.tuple (xs := xs) (.inl (.inl e))
              obtain rfl := tup_same tp' tup4
              have ex := two_vals rel4
              subst ex
              obtain ⟨its5, rel5, tup5, _⟩ := I2.tuple (xs := [.int r'.2.length, .ref r'.1]) (.inl (.inl (by rw [upd_ne (ne_of_none e nt)]; exact e)))
              obtain ⟨tk5, e7⟩ := two_its rel5
              rw [e7] at tup5
              exact ⟨t', tk5, r', e1, e2, e3, e4, e5, e6, tup5⟩
        | next => exact False.elim hq
        | brk => exact False.elim hq
        | cont => exact False.elim hq
    · rintro i j ki kj s1 Q1 E1 ⟨H', J⟩ vi vj hQ
      obtain ⟨t1, tk1, r1, rfl, g1, n1, _, _, _, o1, ho1, hc1, m1, hd1⟩ := vi.ex
      obtain ⟨t2, tk2, r2, rfl, g2, n2, _, _, _, o2, ho2, hc2, m2, hd2⟩ := vj.ex
      have rd : ∀ r ∈ rs, ∃ as, Reads s1.heap (.ref r.1) (.tuple (r.2.map .int)) as := fun r hr1 => by
        have hrow : SqT X.K H' r.1 (r.2.map V.int) := by
          rcases hrs r hr1 with (z | ⟨u, z⟩) | z
          · exact .inl (.inl (J.sm _ _ z))
          · exact .inl (.inr ⟨u, J.sm _ _ z⟩)
          · exact .inr z
        obtain ⟨its6, rel6, ⟨o6, ho6, hc6, n6, hd6⟩, _⟩ := J.I.tuple hrow
        obtain ⟨as, ra⟩ := ints_reads (h := s1.heap) rel6
        exact ⟨as, .tuple ho6 hc6 hd6 ra⟩
      obtain ⟨as1, rd1⟩ := rd r1 (List.mem_of_getElem? g1)
      obtain ⟨as2, rd2⟩ := rd r2 (List.mem_of_getElem? g2)
      have k1 : Reads s1.heap (.ref t1) (keyD r1.2) _ := .tuple ho1 hc1 hd1 (.cons (.int _ _) (.cons rd1 .nil))
      have k2 : Reads s1.heap (.ref t2) (keyD r2.2) _ := .tuple ho2 hc2 hd2 (.cons (.int _ _) (.cons rd2 .nil))
      have dep : ∀ ns : List Int, (keyD ns).depth ≤ 2 := fun ns => by
        unfold keyD
        simp [PyData.depth, PyData.depthAll, PySem.W.depth_ints]
      refine rcLt_alike _ _ _ _ _ _ _ _ k1 k2 (alike_key _ _) (by unfold keyD; simp) (by
        have := hr.un
        have := dep r1.2
        show X.A.units + 1 + _ < _
        have := Nat.min_le_left (keyD r1.2).depth (keyD r2.2).depth
        omega) _ _ _ _ ?_
      rw [dataLt_key]
      have b1 : (rs.getD i (0, [])).2 = r1.2 := by rw [List.getD_eq_getElem?_getD, g1]; rfl
      have b2 : (rs.getD j (0, [])).2 = r2.2 := by rw [List.getD_eq_getElem?_getD, g2]; rfl
      rw [b1, b2] at hQ
      exact hQ
  · exact ⟨I.kept (t' := s.toks) kp2, fun _ _ e => e, fun b o e n => (by rw [e] at n; cases n), kp2 _ _ hf, hfn, nS, nit⟩
  · rintro v s' hP ⟨H', J⟩
    obtain ⟨r, hr1, rfl⟩ := get_its hP
    obtain ⟨h1, h2⟩ := argBest_key (fun i => (rs.getD i (0, [])).2) (its.toArray.size - 1)
    refine ⟨.ref r.1, H', J.I, rfl, q r (List.mem_of_getElem? hr1) (fun r' hr' => ?_) H' J.sm⟩
    obtain ⟨j, hj⟩ := List.getElem?_of_mem hr'
    have jl : j < rs.length := by
      rcases Nat.lt_or_ge j rs.length with z | z
      · exact z
      · rw [List.getElem?_eq_none_iff.mpr z] at hj; cases hj
    have := h2 j (by rw [List.size_toArray, lits]; omega)
    have b1 : (rs.getD j (0, [])).2 = r'.2 := by rw [List.getD_eq_getElem?_getD, hj]; rfl
    have b2 : (rs.getD (argBest (fun i j => ltLen ((rs.getD i (0, [])).2) ((rs.getD j (0, [])).2)) (its.toArray.size - 1)) (0, [])).2 = r.2 := by rw [List.getD_eq_getElem?_getD, hr1]; rfl
    rw [b1, b2] at this
    exact this
theorem sqt_extN {K : PySem.W.Frag} {H H' : Hp} {a : Addr} {xs : List V} (h : SqT K H a xs) (s : LamX.ExtN H H') : SqT K H' a xs := by
  rcases h with (h | ⟨o, h⟩) | h
  · exact .inl (.inl (s _ _ h fun _ z => by cases z))
  · exact .inl (.inr ⟨o, s _ _ h fun _ z => by cases z⟩)
  · exact .inr h
def tMinLam (K : PySem.W.Frag) (T : List (Addr × Str)) (ta : TA) : TE := fun σ H Q => ta σ H fun vs H1 => ∃ (a : Addr) (rs : List (Addr × List Int)), vs = [.ref a] ∧ H1 a = some (.lst (rs.map fun r => V.ref r.1)) ∧ (∀ r ∈ rs, SqT K H1 r.1 (r.2.map V.int)) ∧ rs ≠ [] ∧ Tabs T H1 ∧
  ∀ r ∈ rs, (∀ r' ∈ rs, ltLen r'.2 r.2 = false) → ∀ H', ExtN H1 H' → Tabs T H' → Q (.ref r.1) H'
theorem pe_minLam {T : List (Addr × Str)} {c P : Addr} {xp : Str} {k : Nat} {e : Expr} {params : Arguments} {body : Expr} {scope : Scope} {ta : TA} {tb : TE} {p lpos kpos pos : Pos} (ha0 : PA X [e] ta) (hm : X.mg "min" = none) (hg : Gl X "min") (hv : bootBuiltins "min" = some (.builtin "min"))
    (TB : TabB X.base X.mg c P) (hcode : X.env.code = .ref c) (hmT : (P, X.env.qual ++ "<lambda>") ∈ T) (hu : ∀ p ∈ T, p.1 = P → p.2 = X.env.qual ++ "<lambda>") (hr : Room (k + 3) X.A) (L : LamS1 X.env.scope scope xp) (hxn : xp ∉ X.N) (hdef : defaultsOf params X.env = ([], []))
    (hbind : ∀ (q : Str) (cl : List (Str × Addr)) (pm cv ctv u : Value), bindArgs (PySem.W.kla_fn "<lambda>" q params body scope cl pm cv ctv) ⟨[u], []⟩ = pure [(xp, u)])
    (hbody : ∀ (A : Around) (outer : List Env) (s : Shared) (H : Hp) (f c' : Addr), Room k (A.deeper (lamEnv X scope s.heap.objs.size f c')) → PE (lamCx1 X A outer s H C8.E0 scope xp f c') body tb)
    (htb : ∀ (σ : L2.St) (r : Addr) (ns : List Int) (H' : Hp) (Q : VK), σ.length = X.N.length → SqT X.K H' r (ns.map V.int) → (∀ t, H' t = none → Q (.ref t) (upd H' t (.tup [.int ns.length, .ref r]))) → tb (σ ++ [some (.ref r)]) H' Q)
    (hst : backTo pos (starEach [e] X.env) = (false, eval e X.env) :: backTo pos (starEach [] X.env) := by rfl) (hpl : (backTo pos (starEach [e] X.env)).any (·.1) = false := by rfl)
    (hall : (backToKw pos (keywordEach [⟨some "key", .Lambda params body scope lpos, kpos⟩] X.env)).all (·.1.isSome) = true := by rfl) (hnone : (backToKw pos (keywordEach [⟨some "key", .Lambda params body scope lpos, kpos⟩] X.env)).any (·.1.isNone) = false := by rfl) :
    PE X (.Call (.Name "min" p) [e] [⟨some "key", .Lambda params body scope lpos, kpos⟩] pos) (tMinLam X.K T ta) := by
  refine ⟨fun pins s σ H Q I h => ?_⟩
  refine wpAny_Call_Name_kw (ld_blt I hg hm hv ?_ (by decide) (by decide))
  refine PyProof.Rows.callWith_kw (thn (ha0.run pos pins s σ H _ I h) fun us s1 ⟨vs, H1, I1, r1, a, rs, e1, ha, hrs, h0, hT, q⟩ => ?_) hst hpl hall hnone
  subst e1
  obtain rfl := Vals.ref1 r1
  show wpAny _ _ (evalAll [do let v ← eval (.Lambda params body scope lpos) X.env; standAt pos; pure v]) _ _ s1
  refine wpAny_evalAll_cons (wpAny_bind (lam_make2 I1 TB hcode hmT hu hT hdef (L.has I1.ok) fun f c' pm' ctv H3 s' I3 eN T1 hf hfn hfr hco => wpAny_bind (wpAny_standAt (wpAny_pure ?_))))
  refine wpAny_evalAll_nil ?_
  show wpAny _ _ (call (.builtin "min") [.ref a] [(Str.ofString "key", .ref f)]) _ _ _
  refine min_lam I3 hr L hxn hf hfn hfr hco (fun u => hbind _ _ _ _ _ u) (fun A outer s H hr2 => hbody A outer s H f c' hr2) (fun r ns H' Q => htb σ r ns H' Q I3.len) (eN _ _ ha fun _ z => by cases z) (fun r hr => sqt_extN (hrs r hr) eN) h0 fun r hr hb H' s => q r hr hb H' (eN.trans (ExtN.of s)) (T1.ext s)
end
end K1


set_option Elab.async false
set_option linter.all false
set_option maxRecDepth 100000
set_option maxHeartbeats 4000000
/-! any(a list of lists). -/
namespace K1
open PySem PySem.Spec PyProof.Rows L2
section
variable {X : Cx}
def rAnyL : List V → Hp → VK → Prop := fun vs H Q => ∃ (a : Addr) (ls : List (Addr × List V)), vs = [.ref a] ∧ H a = some (.lst (ls.map fun l => V.ref l.1)) ∧ (∀ l ∈ ls, H l.1 = some (.lst l.2)) ∧ Q (.bl (ls.any fun l => !l.2.isEmpty)) H
theorem refs_itsL : ∀ {rs : List (Addr × List V)} {its : List Value}, Vals (rs.map fun r => V.ref r.1) its → its = rs.map fun r => Value.ref r.1
  | [], _, .nil => rfl
  | r :: t, _, .cons r1 r2 => by rw [List.map_cons, ← refs_itsL r2]; rw [show _ = Value.ref r.1 from r1]
theorem cr_anyL (hc : X.calm = true) : CallR X (.builtin "any") rAnyL := by
  intro pins s σ H vs us Q I r h
  obtain ⟨a, ls, rfl, ha, hl, q⟩ := h
  obtain ⟨its, rv, pl, _⟩ := I.list (.inl (.inl ha))
  rw [Vals.ref1 r]
  have hits := refs_itsL rv
  have lits : its.length = ls.length := by rw [hits, List.length_map]
  refine call_any_walkH (PySem.W.iter_listW (A := X.A.in1) (I.ok.hd hc) pl.isList fun s₂ e W st hfp hw hk => ?_)
  refine ⟨_, _, _, _, _, _, _, s.heap, fun i => !(ls.getD i (0, [])).2.isEmpty, rfl, W, st, hw, hk, fun i v s' Q1 E1 hk1 hi hq => ?_, fun s' m => ?_⟩
  · have hi : its.toArray[i]? = some v := hi
    rw [List.getElem?_toArray, hits, List.getElem?_map] at hi
    obtain ⟨l, h1, rfl⟩ := Option.map_eq_some_iff.mp hi
    obtain ⟨its2, rv2, pl2, l2⟩ := I.list (.inl (.inl (hl l (List.mem_of_getElem? h1))))
    have len2 := rv2.length
    refine wpAny_truthy_list (pl2.isList.at fun o e => hk1 _ o e) (by rw [List.size_toArray, ← len2]; have : (sizeLine : Int) < 2 ^ 63 := by decide
                                                                      omega) ?_
    have := hq (s'.toks + 1 + 1) (by omega)
    have e1 : (ls.getD i (0, [])).2 = l.2 := by rw [List.getD_eq_getElem?_getD, h1]; rfl
    have e2 : its2.toArray.isEmpty = l.2.isEmpty := by
      cases h3 : l.2 with
      | nil => rw [h3] at len2; rw [List.length_eq_zero_iff.mp len2.symm]; rfl
      | cons x t =>
        rw [h3] at len2
        cases its2 with
        | nil => cases len2
        | cons y u => rfl
    rw [e2]
    have this : Q1 (!(ls.getD i (0, [])).2.isEmpty) _ := this
    rw [e1] at this
    exact this
  · obtain ⟨h', tk, rfl, hk'⟩ := PySem.W.moved_old e rfl m
    refine ⟨.bl _, H, I.kept hk', rfl, ?_⟩
    rw [List.size_toArray, lits, PySem.W.range_any (fun l : Addr × List V => !l.2.isEmpty) (0, []) ls]
    exact q
end
end K1


set_option Elab.async false
set_option linter.all false
set_option maxRecDepth 100000
set_option maxHeartbeats 8000000
namespace K1
open PySem PySem.Spec PyProof.Rows L2 RZ StX
/-- a comprehension over range(n) that keeps those q picks -/
theorem lc_pick {n : Nat} {g : TG} {tt : TT} {te : TE} {vs : List Nat} {σ : L2.St} {H1 : Hp} {D : Addr} {Qd : Hp → Prop} (nD : H1 D = none) (hn : n ≤ 4) (q : Nat → Bool)
    (hs : ∀ i H (T : V → Hp → Prop) (S : Hp → Prop), i < n → Same H1 H → (∀ H', Same H H' → q i = true → T (natI i) H') → (∀ H', Same H H' → q i = false → S H') → g (.int (0 + (i : Int))) (wipe σ vs) H fun σ2 H2 => wipe σ2 vs = wipe σ vs ∧ tt σ2 H2 fun b H3 => if b = true then te σ2 H3 T else S H3)
    (hd : ∀ H, Same H1 H → H D = some (.lst (((List.range n).filter q).map natI)) → Qd H) :
    ∃ W : Nat → Nat → Hp → Prop, (∃ m, W 0 m (upd H1 D (.lst []))) ∧ ∀ i m H, W i m H →
      ((Itr 0 n).stop i H ∧ Qd H) ∨ ((Itr 0 n).go i H ∧ ∃ Nx : Hp → Prop, (∀ H', Nx H' → ∃ m', m' < m ∧ W (i + 1) m' H') ∧ ∀ x H', (Itr 0 n).yld i H x H' → g x (wipe σ vs) H' fun σ2 H2 => wipe σ2 vs = wipe σ vs ∧ tt σ2 H2 fun b H3 =>
        if b = true then te σ2 H3 fun y H4 => ∃ acc, H4 D = some (.lst acc) ∧ acc.length < sizeLine ∧ Nx (upd H4 D (.lst (acc ++ [y]))) else Nx H3) := by
  refine lc_range (lo := 0) (n := n) (fun i G => Same H1 G ∧ G D = some (.lst (((List.range i).filter q).map natI))) ⟨same_new nD, upd_same⟩ ?_ ?_
  · rintro i G hi ⟨s, hD⟩
    have ll : (((List.range i).filter q).map natI).length ≤ i := by
      rw [List.length_map]
      have := List.length_filter_le q (List.range i)
      rw [List.length_range] at this; exact this
    refine hs i G _ _ hi s (fun H' s2 e => ?_) fun H' s2 e => ⟨s.trans s2, ?_⟩
    · refine ⟨_, s2 _ _ hD, lt1 _ (by omega), (s.trans s2).mut nD, ?_⟩
      rw [upd_same, List.range_succ, List.filter_append, List.filter_cons, if_pos e, List.map_append]; rfl
    · rw [s2 _ _ hD, List.range_succ, List.filter_append, List.filter_cons, if_neg (by rw [e]; simp)]; simp
  · rintro G ⟨s, hD⟩
    exact hd G s hD
theorem in_nats (c : Nat) (os : List Nat) : inV (natI c) (os.map natI) = decide (c ∈ os) := by
  have := inV_ints (c : Int) (os.map fun n : Nat => (n : Int))
  rw [List.map_map] at this
  refine Eq.trans this ?_
  rw [decide_eq_decide, List.mem_map]
  exact ⟨fun ⟨n, hn, e⟩ => by rw [← show n = c by omega]; exact hn, fun h => ⟨c, h, rfl⟩⟩
theorem flat_nats (os : List Nat) : (os.map natI).all flatV = true := by
  have := flat_ints (os.map fun n : Nat => (n : Int))
  rw [List.map_map] at this
  exact this
theorem a2_nats : ∀ l : List Nat, A2 (fun v i => v = natI i) (l.map natI) l
  | [] => .nil
  | i :: r => .cons rfl (a2_nats r)
end K1


set_option Elab.async false
set_option linter.all false
set_option maxRecDepth 100000
set_option maxHeartbeats 32000000
/-! least_row. -/
namespace K1
open PySem PySem.Spec PyProof.Rows L2 RZ StX
abbrev sLr : Stmt := st_least_row
abbrev nLr : List Str := ["copies", "folder", "rows", "pending", "first", "now", "in_step", "others", "idle", "at", "later", "sent"]
abbrev pLr : List Str := ["copies", "folder"]
theorem scLr : FnScope nLr pLr (defScope sLr) := ⟨rfl, rfl, rfl, by decide +kernel, rfl, by decide +kernel, by decide +kernel⟩
def spLr (K : PySem.W.Frag) (C CC PA PT PS : Addr) : Sp := fun vs H Q _ => ∃ (ca p : Addr) (xs : List V) (cs : List Cp) (F : Fo) (k : Nat), vs = [.ref ca, .ref p] ∧ SeqH H ca xs ∧ A2 (CpV K CC H) xs cs ∧ cs.length ≤ 4 ∧ FoAt C H p F ∧ RG k ⟨cs, F, []⟩ ∧ k + 131 * 4 ≤ 900 ∧ LamX.Tabs (T3 PA PT PS) H ∧
  ∀ r row H', LamX.ExtN H H' → LamX.Tabs (T3 PA PT PS) H' → SqT K H' r (row.map natI) → IsLeast cs F row → Q (.ref r) H'
/-- one that waits -/
def NdAt (K : PySem.W.Frag) (C R P : Addr) (cs : List Cp) (F : Fo) (G : Hp) (v : V) (f : List Nat) : Prop := ∃ T ft q il, v = .ref T ∧ G T = some (.tup [.ref ft, .ref q, .ref il]) ∧ MT K G ft (f.map natI) ∧ FoAt C G q (folF cs F f) ∧ G il = some (.lst ((insF cs F f).map natI)) ∧ il ≠ R ∧ il ≠ P
theorem NdAt.two {K : PySem.W.Frag} {C R P : Addr} {cs : List Cp} {F : Fo} {G J : Hp} {v : V} {f : List Nat} (h : NdAt K C R P cs F G v f) (t : TwoN R P G J) : NdAt K C R P cs F J v f := by
  obtain ⟨T, ft, q, il, rfl, h1, h2, h3, h4, n1, n2⟩ := h
  exact ⟨T, ft, q, il, rfl, t.ti.t _ _ h1, h2.tu t.ti.t, h3.ti t.ti, t.k _ _ n1 n2 (fun _ z => by cases z) h4, n1, n2⟩
theorem TwoN.get' {C1 C2 : Addr} {H G : Hp} {b : Addr} {xs : List V} (a : TwoN C1 C2 H G) (n : b ≠ C1) (m : b ≠ C2) (h : SeqH H b xs) : SeqH G b xs := h.imp (a.k _ _ n m fun _ z => by cases z) (a.k _ _ n m fun _ z => by cases z)
theorem ne_new {H : Hp} {a b : Addr} {o : HO} (n : H a = none) (h : H b = some o) : a ≠ b := fun e => by rw [e, h] at n; cases n
theorem TwoN.of_same {C1 C2 : Addr} {H G : Hp} {xs ys : List V} (s : Same H G) (h1 : H C1 = some (.lst xs)) (h2 : H C2 = some (.lst ys)) : TwoN C1 C2 H G := ⟨fun b o _ _ _ h => s _ _ h, ⟨_, h1⟩, ⟨_, h2⟩⟩
theorem filt_fm {α : Type} (q : α → Bool) : ∀ l : List α, (l.filterMap fun a => if q a = true then some a else none) = l.filter q
  | [] => rfl
  | a :: r => by
    rw [List.filterMap_cons, List.filter_cons]
    cases e : q a <;> simp [filt_fm q r]
theorem TwoN.trans {C1 C2 : Addr} {H G J : Hp} (a : TwoN C1 C2 H G) (b : TwoN C1 C2 G J) : TwoN C1 C2 H J := ⟨fun c o n1 n2 t h => b.k c o n1 n2 t (a.k c o n1 n2 t h), a.l1, a.l2⟩
/-- rows that were found -/
structure LI (K : PySem.W.Frag) (C PA PT PS R P : Addr) (cs : List Cp) (F : Fo) (G0 G : Hp) (fs rows : List (List Nat)) : Prop where
  tw : TwoN R P G0 G
  tb : LamX.Tabs (T3 PA PT PS) G
  r : ∃ as : List Addr, G R = some (.lst (as.map V.ref)) ∧ A2 (fun v row => ∃ a, v = .ref a ∧ MT K G a (row.map natI)) (as.map V.ref) rows
  p : ∃ ps, G P = some (.lst ps) ∧ A2 (NdAt K C R P cs F G) ps fs
theorem a2_snoc {α : Type} {R : V → α → Prop} : ∀ {xs : List V} {as : List α} {a : α}, A2 R xs (as ++ [a]) → ∃ ys y, xs = ys ++ [y] ∧ A2 R ys as ∧ R y a
  | _, [], a, .cons (x := x) h .nil => ⟨[], x, rfl, .nil, h⟩
  | _, b :: as, a, .cons (x := x) h r => by
    obtain ⟨ys, y, e, h1, h2⟩ := a2_snoc r
    exact ⟨x :: ys, y, by rw [e]; rfl, .cons h h1, h2⟩
theorem fol_rg {k : Nat} {cs : List Cp} {F : Fo} {f : List Nat} (rg : RG k ⟨cs, F, []⟩) (sf : SqN cs.length f) (hk : k + 131 * f.length ≤ 900) : GA (k + 131 * f.length) (folF cs F f) ∧ ∀ c ∈ cs, GC c (folF cs F f) := by
  have h := rg_row f rg hk
  have e := row_sq (F := F) sf
  refine ⟨by rw [← e]; exact h.ga, fun c hc => ?_⟩
  have g := rg.gc c hc
  have key : ∀ (f : List Nat) (G : Fo), GC c G → GC c (folF cs G f) := fun f => by
    induction f with
    | nil => intro G h; exact h
    | cons a r ih =>
      intro G h
      refine ih (stpC cs G a) ?_
      unfold stpC
      split
      · exact h
      · exact h.step
  exact key f F g
theorem at_last {σ : L2.St} {v : Option V} {n : Nat} (h : σ.length = n) : (σ ++ [v])[n]? = some v := by rw [← h, List.getElem?_append_right (Nat.le_refl _), Nat.sub_self]; rfl
theorem rows_of {K : PySem.W.Frag} {G : Hp} : ∀ {as : List Addr} {rows : List (List Nat)}, A2 (fun v row => ∃ a, v = .ref a ∧ MT K G a (row.map natI)) (as.map V.ref) rows → ∃ rs : List (Addr × List Nat), (∀ r ∈ rs, MT K G r.1 (r.2.map natI)) ∧ as = rs.map (·.1) ∧ rs.map (·.2) = rows
  | [], _, .nil => ⟨[], fun r hr => (by cases hr), rfl, rfl⟩
  | a :: as, _ :: rows, .cons (b := row) ⟨a', e, h⟩ t => by
    obtain ⟨rs, h1, h2, h3⟩ := rows_of t
    cases e
    refine ⟨(a, row) :: rs, fun r hr => ?_, by rw [h2]; rfl, by rw [← h3]; rfl⟩
    rcases List.mem_cons.mp hr with rfl | hr
    · exact h
    · exact h1 r hr
theorem lt_ints : ∀ {a b : List Nat}, a < b → (a.map fun n : Nat => (n : Int)) < b.map fun n : Nat => (n : Int)
  | [], _ :: _, _ => List.nil_lt_cons _ _
  | x :: a, y :: b, h => by
    rcases List.cons_lt_cons_iff.mp h with z | ⟨z1, z2⟩
    · exact List.cons_lt_cons_iff.mpr (.inl (by show (x : Int) < (y : Int); omega))
    · exact List.cons_lt_cons_iff.mpr (.inr ⟨by rw [z1], lt_ints z2⟩)
  | [], [], h => absurd h (List.lt_irrefl _)
  | _ :: _, [], h => by cases h
theorem ltLen_of {a b : List Nat} (h : ltR a b) : ltLen (a.map fun n : Nat => (n : Int)) (b.map fun n : Nat => (n : Int)) = true := by
  unfold ltLen
  refine decide_eq_true ?_
  rw [List.length_map, List.length_map]
  exact h.imp id fun z => ⟨z.1, lt_ints z.2⟩
section
variable {P : Program} {w : World} {K : PySem.W.Frag} {mg : Str → Option Value} {base : Heap} {C CC PA PT PS : Addr}
theorem ok_lr {f c : Addr} {oc : Value} {od : Option Addr} {kV doc pm : Value} {an : Option Addr} {ct : Value} {osl : Array (Option Value)} (T : Bk mg) (Co : Cs4' mg) (nMin : mg "min" = none) (nAny : mg "any" = none) (ap : Ap PA PT PS) (TB : LamX.TabB base mg c PM)
    (EM : EqM P w K mg base 1 CC (CpEq K CC))
    (D_ks : Def P w K mg base CX0 2 "_check_copies" pKs (spKs K CC)) (D_cf : Def P w K mg base CX0 1 "_check_folder" pCo (spCf C)) (D_sent : Def P w K mg base CX0 2 "_sent" pSe (spSe K C CC)) (D_copy_of : Def P w K mg base CX0 6 "copy_of" pCo (spCo K C CC))
    (D_stepped : Def P w K mg base CX0 11 "stepped" pStp (spStp K C CC PA PT PS))
    (lk : K.lookup f = some ⟨oc, od, .func (PySem.W.fnOf "least_row" "least_row" (defArgs sLr) (defBody sLr) (defScope sLr) .none kV doc pm an (.ref c) ct), osl⟩) (hcd : PySem.W.codeIn K (.ref c) "least_row" = true) :
    FnOk P w K mg base CX0 12 f (PySem.W.fnOf "least_row" "least_row" (defArgs sLr) (defBody sLr) (defScope sLr) .none kV doc pm an (.ref c) ct) pLr (spLr K C CC PA PT PS) := by
  have nd := scLr.nd
  refine fn_of lk hcd scLr (fun vs H Q E h => ?_) (fun A outer s H vs Q E hr h => ?_)
  · obtain ⟨ca, p, xs, cs, F, k, rfl, _⟩ := h
    rfl
  · obtain ⟨ca, p, xs, cs, F, k, rfl, hca, hA, l4, hF, rg, hk, hT, q⟩ := h
    have hu1 : ∀ x ∈ T3 PA PT PS, x.1 = PM → x.2 = lamM := ap.m
    refine ⟨_, PSs.nox (pss_cons (ps_expr (pe_def D_ks (hr.mono (by decide)) rfl pass0 (pa_cons (pv 0) (pa_cons (pe_const Co.MOST_COPIES rfl) pa_nil))))
 (pss_cons (ps_expr (pe_def D_cf (hr.mono (by decide)) rfl pass0 (pa_cons (pv 1) pa_nil)))
 (pss_cons (ps_set (i := 2) nd rfl (Or.inl rfl) (pe_lst pa_nil))
 (pss_cons (ps_set (i := 3) nd rfl (Or.inl rfl) (pe_lst (pa_cons (pe_tup (pa_cons (pe_tup pa_nil) (pa_cons (pv 1) (pa_cons (pe_lst pa_nil) pa_nil)))) pa_nil)))
 (C8.pss_cut (ps_while PassesOwn.never (pt_truth (pv 3) (by intro _; rfl))
  (pss_cons (ps_asg (pe_bm0 PySem.F.plainAttrs_list PySem.F.slot_list_pop PySem.F.type_list_pop mt_pop (pv 3)) (pg_tup rfl (pgs_cons (pg_name (i := 4) nd rfl (Or.inr rfl)) (pgs_cons (pg_name (i := 5) nd rfl (Or.inr rfl)) (pgs_cons (pg_name (i := 6) nd rfl (Or.inr rfl)) pgs_nil)))))
 (pss_cons (ps_setLc (i := 7) (own := [("at", 9)]) (g := gName 9) rfl nd rfl rfl (sw_true rfl rfl rfl (by decide +kernel)) (pi_range1 rfl T.range (pa_cons (pe_callB (call_lenK (K := K) rfl) (by rfl) T.len PySem.boot_len (pa_cons (pv 0) pa_nil)) pa_nil)) (blkOk_by (own := [("at", 9)]) (N := nLr) (sc := defScope sLr) (by decide +kernel)) (fun _ _ _ _ _ => pg_name (i := 9) nd rfl (Or.inl rfl)) (fun _ _ _ _ _ => pts_one (pt_cmpR (op_notIn_seqK (K := K) rfl) (pv 9) (pv 4) (by rfl))) (fun _ _ _ _ _ => (pv 9)))
 (pss_cons (ps_set (i := 8) nd rfl (Or.inr rfl) (pe_lc (own := [("at", 9)]) (g := gName 9) rfl nd (pi_listK (K := K) rfl (pv 7)) (blkOk_by (own := [("at", 9)]) (N := nLr) (sc := defScope sLr) (by decide +kernel)) (fun _ _ _ _ _ => pg_name (i := 9) nd rfl (Or.inl rfl)) (fun _ _ _ _ _ => pts_one (pt_cmpR (op_eqI EM (hr.mono (by decide))) (pe_ix (ix_seqK (K := K) rfl) (pv 0) (pv 9) (fun _ _ => rfl)) (pe_def D_copy_of (hr.mono (by decide)) rfl pass0 (pa_cons (pv 5) pa_nil)) (nomark _))) (fun _ _ _ _ _ => (pv 9))))
 (C8.pss_cut (ps_if (pt_not (pt_val (pe_callB (cr_anyL rfl) (by rfl) nAny PyProof.Rows.boot_any (pa_cons (pe_lc (own := [("at", 9)]) (g := gName 9) rfl nd (pi_listK (K := K) rfl (pv 7)) (blkOk_by (own := [("at", 9)]) (N := nLr) (sc := defScope sLr) (by decide +kernel)) (fun _ _ _ _ _ => pg_name (i := 9) nd rfl (Or.inl rfl)) (fun _ _ _ _ _ => pts_one (pt_cmpR (op_notIn_seqK (K := K) rfl) (pv 9) (pv 8) (by rfl))) (fun _ _ _ _ _ => (pe_def D_sent (hr.mono (by decide)) rfl pass0 (pa_cons (pe_ix (ix_seqK (K := K) rfl) (pv 0) (pv 9) (fun _ _ => rfl)) (pa_cons (pv 5) pa_nil))))) pa_nil))))
  (pss_one (ps_expr (pe_bm PySem.F.plainAttrs_list PySem.F.slot_list_append PySem.F.type_list_append mt_append (pv 2) (pa_cons (pe_op (op_catM (K := K) rfl) (pv 4) (pe_callTy (call_tuple_ofK (K := K) rfl) (by rfl) T.tuple PyProof.Rows.boot_tuple (pa_cons (pe_lc (own := [("at", 9)]) (g := gName 9) rfl nd (pi_range1 rfl T.range (pa_cons (pe_callB (call_lenK (K := K) rfl) (by rfl) T.len PySem.boot_len (pa_cons (pv 0) pa_nil)) pa_nil)) (blkOk_by (own := [("at", 9)]) (N := nLr) (sc := defScope sLr) (by decide +kernel)) (fun _ _ _ _ _ => pg_name (i := 9) nd rfl (Or.inl rfl)) (fun _ _ _ _ _ => pts_one (pt_cmpR (op_notIn_seqK (K := K) rfl) (pv 9) (pe_op op_cat (pv 6) (pv 8)) (by rfl))) (fun _ _ _ _ _ => (pv 9))) pa_nil))) pa_nil))))
  pss_nil)
 (pss_one (ps_for PassesOwn.never rfl (pi_listK (K := K) rfl (pv 7)) (pg_name (i := 9) nd rfl (Or.inl rfl))
  (pss_cons (ps_asg (pe_slice (sl_tupAK (K := K) rfl) (pe_def D_stepped (hr.mono (by decide)) rfl pass0 (pa_cons (pe_ix (ix_seqK (K := K) rfl) (pv 0) (pv 9) (fun _ _ => rfl)) (pa_cons (pv 5) pa_nil))) (po_some pe_int) (po_some pe_int)) (pg_tup rfl (pgs_cons (pg_name (i := 10) nd rfl (Or.inl rfl)) (pgs_cons (pg_name (i := 11) nd rfl (Or.inl rfl)) pgs_nil))))
 (pss_one (ps_expr (pe_bm PySem.F.plainAttrs_list PySem.F.slot_list_append PySem.F.type_list_append mt_append (pv 3) (pa_cons (pe_tup (pa_cons (pe_op (op_catM (K := K) rfl) (pv 4) (pe_tup (pa_cons (pv 9) pa_nil))) (pa_cons (pv 10) (pa_cons (pe_ifExp (pt_truth (pv 11) (by intro _; rfl)) (pe_lst (pa_cons (pv 9) pa_nil)) (pe_lst pa_nil)) pa_nil)))) pa_nil))))))))))))
 (pss_one (ps_ret (pe_minLam (T := T3 PA PT PS) (k := 1) (pa_cons (pv 2) pa_nil) nMin rfl PyProof.Rows.boot_min TB rfl mem_m hu1 (hr.mono (by decide)) (LamY.lamS1_by (by rfl)) (show ("row" : Str) ∉ nLr by decide +kernel) rfl (fun _ _ _ _ _ _ => rfl) (fun _ _ _ _ _ _ hr2 => pe_tup (pa_cons (pe_callB (call_lenK (K := K) rfl) (by rfl) T.len PySem.boot_len (pa_cons (pv 12) pa_nil)) (pa_cons (pv 12) pa_nil))) (by intro σ' r' ns' H' Q' hl hs q'; exact ⟨.ref r', at_last (n := 12) hl, r', ns'.map V.int, rfl, .inr hs, .ref r', at_last (n := 12) hl, (by show 2 ≤ sizeLine; decide), fun t nt => (by rw [List.length_map]; exact q' t nt)⟩))))))))), ?_⟩
    have lx := hA.len
    refine ⟨_, rfl, ca, xs, cs, rfl, hca, hA, l4, fun H1 s1 => ?_⟩
    refine ⟨_, rfl, p, F, rfl, hF.same s1, ?_⟩
    refine ⟨Nat.zero_le _, fun R nR => ?_⟩
    have s2 := s1.new nR (o := .lst [])
    have hR : upd H1 R (.lst []) R = some (.lst []) := upd_same
    have nRH := s1.free nR
    generalize upd H1 R (.lst []) = H2 at s2 hR
    refine ⟨Nat.zero_le _, fun E1 nE => ⟨_, rfl, Nat.zero_le _, fun L1 nL => ⟨by show 3 ≤ sizeLine; decide, fun T1 nT => ⟨by show 1 ≤ sizeLine; decide, fun P nP => ?_⟩⟩⟩⟩
    have k1 := same_new nE (o := .tup [])
    have k2 := same_new nL (o := .lst [])
    have k3 := same_new nT (o := .tup [.ref E1, .ref p, .ref L1])
    have k4 := same_new nP (o := .lst [.ref T1])
    have hE0 := (k2.trans (k3.trans k4)) _ _ (show upd H2 E1 (.tup []) E1 = some (.tup []) from upd_same)
    have hL0 := (k3.trans k4) _ _ (show upd (upd H2 E1 (.tup [])) L1 (.lst []) L1 = some (.lst []) from upd_same)
    have hT0 := k4 _ _ (show upd (upd (upd H2 E1 (.tup [])) L1 (.lst [])) T1 (.tup [.ref E1, .ref p, .ref L1]) T1 = some _ from upd_same)
    have hP0 : upd (upd (upd (upd H2 E1 (.tup [])) L1 (.lst [])) T1 (.tup [.ref E1, .ref p, .ref L1])) P (.lst [.ref T1]) P = some (.lst [.ref T1]) := upd_same
    have hR0 := ((k1.trans k2).trans (k3.trans k4)) _ _ hR
    have LR : L1 ≠ R := fun e => by rw [e, k1 _ _ hR] at nL; cases nL
    have nPH := (s2.trans ((k1.trans k2).trans k3)).free nP
    have LP : L1 ≠ P := ne_of_none (k3 _ _ (show upd (upd H2 E1 (.tup [])) L1 (.lst []) L1 = some (.lst []) from upd_same)) nP
    have s3 := s2.trans ((k1.trans k2).trans (k3.trans k4))
    have RP : R ≠ P := ne_of_none (((k1.trans k2).trans k3) _ _ hR) nP
    generalize upd (upd (upd (upd H2 E1 (.tup [])) L1 (.lst [])) T1 (.tup [.ref E1, .ref p, .ref L1])) P (.lst [.ref T1]) = G0 at hE0 hL0 hT0 hP0 hR0 s3
    clear k1 k2 k3 k4 nE nL nT nP nR s2 hR
    have two0 : TwoN R P G0 G0 := ⟨fun _ _ _ _ _ h => h, ⟨_, hR0⟩, ⟨_, hP0⟩⟩
    have hca0 := hca.same s3
    have caR : ca ≠ R := by rcases hca with h | h <;> exact ne_of_none h nRH
    have caP : ca ≠ P := by rcases hca with h | h <;> exact ne_of_none h nPH
    have hA0 := hA.imp fun _ _ h => CpV.ti h (TI.same s3)
    refine ⟨fun σ G => (∃ v4 v5 v6 v7 v8 v9 v10 v11, σ = [some (.ref ca), some (.ref p), some (.ref R), some (.ref P), v4, v5, v6, v7, v8, v9, v10, v11]) ∧ ∃ rows m, LM cs F [] rows m ∧ LI K C PA PT PS R P cs F G0 G [] rows, ?_, ?_⟩
    · refine ⟨fun m σ G => ∃ fs rows, (∃ v4 v5 v6 v7 v8 v9 v10 v11, σ = [some (.ref ca), some (.ref p), some (.ref R), some (.ref P), v4, v5, v6, v7, v8, v9, v10, v11]) ∧ LM cs F fs rows m ∧ LI K C PA PT PS R P cs F G0 G fs rows, ⟨wtN cs.length, [[]], [], ⟨_, _, _, _, _, _, _, _, rfl⟩, lm_start cs F l4, two0, hT.ext s3, ⟨[], hR0, .nil⟩, ⟨[.ref T1], hP0, .cons ⟨T1, E1, p, L1, rfl, hT0, .inl hE0, hF.same s3, hL0, LR, LP⟩ .nil⟩⟩, ?_⟩
      rintro m σ G ⟨fs, rows, ⟨v4, v5, v6, v7, v8, v9, v10, v11, rfl⟩, lm, li⟩
      obtain ⟨ps, hPG, hps⟩ := li.p
      refine ⟨_, rfl, !ps.isEmpty, .inl ⟨ps, sq hPG, rfl⟩, ?_⟩
      rcases List.eq_nil_or_concat fs with rfl | ⟨fs', g, efs⟩
      · cases hps
        exact itbF rfl ⟨⟨_, _, _, _, _, _, _, _, rfl⟩, rows, m, lm, li⟩
      rw [List.concat_eq_append] at efs
      subst efs
      obtain ⟨ps', pv', rfl, hps', hnd⟩ := a2_snoc hps
      refine itbT (by cases ps' <;> rfl) ?_
      obtain ⟨m', hm', lm'⟩ := lm_step lm
      have sg := lm.sq g (List.mem_append_right _ List.mem_cons_self)
      refine ⟨fun σ G => ∃ fs rows, (∃ v4 v5 v6 v7 v8 v9 v10 v11, σ = [some (.ref ca), some (.ref p), some (.ref R), some (.ref P), v4, v5, v6, v7, v8, v9, v10, v11]) ∧ LM cs F fs rows m' ∧ LI K C PA PT PS R P cs F G0 G fs rows, fun σ' H' h => ⟨m', hm', h⟩, ?_⟩
      -- pop
      obtain ⟨T, ft, q', il, rfl, hTn, hft, hq, hil, nR', nP'⟩ := hnd
      refine ⟨_, rfl, .inl ⟨rfl, _, sq hPG⟩, P, _, .ref T, rfl, rfl, hPG, by simp, ?_⟩
      have hdl : (ps' ++ [V.ref T]).dropLast = ps' := List.dropLast_concat
      rw [hdl]
      have twP : TwoN R P G (upd G P (.lst ps')) := (TwoN.mk (fun _ _ _ _ _ h => h) (let ⟨as, h, _⟩ := li.r; ⟨_, h⟩) ⟨_, hPG⟩ : TwoN R P G G).m2
      have hR1 : ∀ as : List Addr, G R = some (.lst (as.map V.ref)) → upd G P (.lst ps') R = some (.lst (as.map V.ref)) := fun as h => by rw [upd_ne RP]; exact h
      have tb1 := tabs_mutL (o := .lst ps') hPG li.tb
      have hP1 : upd G P (.lst ps') P = some (.lst ps') := upd_same
      obtain ⟨as, hRG, has⟩ := li.r
      have hR1 := hR1 as hRG
      have two1 := li.tw.trans twP
      have hTn := twP.get hTn (fun _ z => by cases z) fun _ z => by cases z
      have hft := hft.tu twP.ti.t
      have hq := hq.ti twP.ti
      have hil := twP.k _ _ nR' nP' (fun _ z => by cases z) hil
      have hps1 : A2 (NdAt K C R P cs F (upd G P (.lst ps'))) ps' fs' := hps'.imp fun _ _ h => h.two twP
      have has1 : A2 (fun v row => ∃ a, v = .ref a ∧ MT K (upd G P (.lst ps')) a (row.map natI)) (as.map V.ref) rows := has.imp fun _ _ ⟨a, e, h⟩ => ⟨a, e, h.tu twP.ti.t⟩
      generalize upd G P (.lst ps') = G1 at twP hR1 tb1 hP1 two1 hTn hft hq hil hps1 has1
      refine ⟨T, _, rfl, st hTn, rfl, _, _, rfl, _, _, rfl, _, _, rfl, rfl, ?_⟩
      have hcaG := two1.get' caR caP hca0
      have hAG := hA0.imp fun _ _ h => CpV.ti h two1.ti
      have lf : g.length ≤ 4 := by have := oth_len sg; omega
      obtain ⟨gaN, gcN⟩ := fol_rg rg sg (by omega)
      have lxn : xs.length ≤ 4 := by omega
      -- others
      refine ⟨_, rfl, ca, xs, rfl, hcaG.len, _, rfl, by omega, by omega, fun O nO => ?_⟩
      refine lc_pick (n := xs.length) nO lxn (fun i => !decide (i ∈ g)) ?_ ?_
      · rintro i J T' S' hi sJ hT' hS'
        refine ⟨rfl, ⟨_, rfl, _, rfl, ft, _, rfl, .inr (hft.tu (TU.same sJ)).st, rfl, flat_nats _, _, rfl, ?_⟩⟩
        show (if (!inV (.int (0 + (i : Int))) (g.map natI)) = true then _ else _)
        rw [Int.zero_add, in_nats]
        by_cases e : i ∈ g
        · rw [decide_eq_true e]
          exact itbF rfl (hS' J (fun _ _ h => h) (by rw [decide_eq_true e]; rfl))
        · rw [decide_eq_false e]
          exact itbT rfl ⟨_, rfl, hT' J (fun _ _ h => h) (by rw [decide_eq_false e]; rfl)⟩
      intro G2 sO hO
      refine name_go' ?_
      dsimp only
      rw [show xs.length = cs.length from lx] at hO
      change G2 O = some (.lst ((othF cs.length g).map natI)) at hO
      have hcaG2 := hcaG.same sO
      have hAG2 := hAG.imp fun _ _ h => CpV.ti h (TI.same sO)
      have hq2 := hq.same sO
      -- idle
      refine ⟨_, rfl, O, rfl, ⟨_, sq hO⟩, fun D nD => ?_⟩
      refine lc_sel (walk_list (K := K)) (a2_nats (othF cs.length g)) nD (fun G s => sq (s _ _ hO)) (by rw [List.length_map]; have := oth_len sg; omega) (fun i => if idlB cs (folF cs F g) i = true then some i else none) (out := fun v i => v = natI i) ?_ ?_
      · rintro v i J T' S' rfl hm sJ hT' hS'
        have io := mem_oth.mp hm
        obtain ⟨c, hc⟩ : ∃ c, cs[i]? = some c := ⟨_, List.getElem?_eq_getElem io.1⟩
        obtain ⟨v, hv, a, rfl, hca'⟩ := a2_at (hAG2.imp fun _ _ h => CpV.ti h (TI.same sJ)) hc
        refine ⟨rfl, ⟨_, rfl, _, rfl, seq_ixI (hcaG2.same sJ) rfl hv ⟨_, rfl, q', folF cs F g, _, rfl, hq2.same sJ, gaN, by omega, fun y J2 s2 ny hy => ?_⟩⟩⟩
        have gc := gcN c (List.mem_of_getElem? hc)
        have ei : idlB cs (folF cs F g) i = decide (c = cpF (folF cs F g)) := by unfold idlB; rw [hc]
        refine eq_cp (hca'.same s2) hy gc.ok (okCp_F (by omega) gaN) fun J3 s3' => ⟨_, rfl, ?_⟩
        by_cases e : c = cpF (folF cs F g)
        · rw [decide_eq_true e]
          exact itbT rfl ⟨_, rfl, hT' _ i J3 (s2.trans s3') (by rw [ei, decide_eq_true e]; rfl) rfl⟩
        · rw [decide_eq_false e]
          exact itbF rfl (hS' J3 (s2.trans s3') (by rw [ei, decide_eq_false e]; rfl))
      intro G3 acc sD hD hacc
      have hacc : acc = (idlF cs F g).map natI := by
        rw [filt_fm] at hacc
        exact hacc.vals
      subst hacc
      have hO3 := sD _ _ hO
      have s13 := sO.trans sD
      have hcaG3 := hcaG2.same sD
      have hAG3 := hAG2.imp fun _ _ h => CpV.ti h (TI.same sD)
      have hq3 := hq2.same sD
      have hft3 := hft.tu (TU.same s13)
      have hil3 := s13 _ _ hil
      have tb3 := tb1.ext s13
      have hP3 := s13 _ _ hP1
      have hR3 := s13 _ _ hR1
      have has3 : A2 (fun v row => ∃ a, v = .ref a ∧ MT K G3 a (row.map natI)) (as.map V.ref) rows := has1.imp fun _ _ ⟨a, e, h⟩ => ⟨a, e, h.tu (TU.same s13)⟩
      have two3 := two1.ext (LamX.ExtN.of s13)
      have hps3 : A2 (NdAt K C R P cs F G3) ps' fs' := hps1.imp fun _ _ h => h.two (TwoN.of_same s13 hR1 hP1)
      have OR : O ≠ R := ne_new nO hR1
      have OP : O ≠ P := ne_new nO hP1
      have DR : D ≠ R := ne_new nD (sO _ _ hR1)
      have DP : D ≠ P := ne_new nD (sO _ _ hP1)
      -- the test
      refine ⟨fun σ J => ∃ (v9 v10 v11 : Option V) (as' : List Addr), σ = [some (.ref ca), some (.ref p), some (.ref R), some (.ref P), some (.ref ft), some (.ref q'), some (.ref il), some (.ref O), some (.ref D), v9, v10, v11] ∧ TwoN R P G3 J ∧ LamX.Tabs (T3 PA PT PS) J ∧ J P = some (.lst ps') ∧ J R = some (.lst (as'.map V.ref)) ∧ A2 (fun v row => ∃ a, v = .ref a ∧ MT K J a (row.map natI)) (as'.map V.ref) (if candB cs F g = true then rows ++ [candR cs F g] else rows), ?_, ?_⟩
      · refine ⟨_, rfl, O, rfl, ⟨_, sq hO3⟩, fun B nB => ?_⟩
        refine lc_it (walk_list (K := K)) (fun i J => Same G3 J ∧ ∃ ls : List (Addr × List V), J B = some (.lst (ls.map fun l => V.ref l.1)) ∧ (∀ l ∈ ls, J l.1 = some (.lst l.2) ∧ l.1 ≠ B) ∧ ls.length ≤ i ∧ (ls.any fun l => !l.2.isEmpty) = (((othF cs.length g).take i).any fun i => !(idlB cs (folF cs F g) i || (sntC cs (folF cs F g) i).isEmpty))) ⟨same_new nB, [], upd_same, fun l hl => (by cases hl), Nat.zero_le _, rfl⟩ (fun i J _ h => sq (h.1 _ _ hO3)) ?_ ?_
        · rintro i v J J' hi ⟨sJ, ls, hB, hls, ll, ean⟩ ⟨rfl, hv⟩
          rw [List.getElem?_map] at hv
          obtain ⟨a, ha, rfl⟩ := Option.map_eq_some_iff.mp hv
          have io := mem_oth.mp (List.mem_of_getElem? ha)
          obtain ⟨c, hc⟩ : ∃ c, cs[a]? = some c := ⟨_, List.getElem?_eq_getElem io.1⟩
          have gc := gcN c (List.mem_of_getElem? hc)
          have tk : ((othF cs.length g).take (i + 1)).any (fun i => !(idlB cs (folF cs F g) i || (sntC cs (folF cs F g) i).isEmpty)) = (((othF cs.length g).take i).any (fun i => !(idlB cs (folF cs F g) i || (sntC cs (folF cs F g) i).isEmpty)) || !(idlB cs (folF cs F g) a || (sntC cs (folF cs F g) a).isEmpty)) := by
            rw [List.take_add_one, ha, List.any_append]; simp
          refine ⟨rfl, ⟨_, rfl, _, rfl, D, _, rfl, .inl (sq (sJ _ _ hD)), rfl, flat_nats _, _, rfl, ?_⟩⟩
          show (if (!inV (.int (a : Int)) ((idlF cs F g).map natI)) = true then _ else _)
          have eI : inV (natI a) ((idlF cs F g).map natI) = idlB cs (folF cs F g) a := by
            rw [in_nats]
            cases e : idlB cs (folF cs F g) a with
            | true => exact decide_eq_true (List.mem_filter.mpr ⟨List.mem_of_getElem? ha, e⟩)
            | false => exact decide_eq_false fun z => by rw [(List.mem_filter.mp z).2] at e; cases e
          rw [show inV (.int (a : Int)) ((idlF cs F g).map natI) = _ from eI]
          cases e : idlB cs (folF cs F g) a with
          | true =>
            refine itbF rfl ⟨sJ, ls, hB, hls, by omega, ?_⟩
            rw [tk, e, ean]; simp
          | false =>
            obtain ⟨v, hv', x, rfl, hcx⟩ := a2_at (hAG3.imp fun _ _ h => CpV.ti h (TI.same sJ)) hc
            refine itbT rfl ⟨_, rfl, _, rfl, seq_ixI (hcaG3.same sJ) rfl hv' ⟨_, rfl, x, q', c, folF cs F g, _, rfl, hcx, gc.ok, hq3.same sJ, gaN, by omega, fun l J2 s2 nl ⟨ys, hl, dl⟩ => ?_⟩⟩
            have lB : l ≠ B := fun z => by rw [z, hB] at nl; cases nl
            have ly := dl.len
            rw [List.length_map] at ly
            refine ⟨_, s2 _ _ hB, lt1 _ (by rw [List.length_map]; have := oth_len sg; have : i < (othF cs.length g).length := lt_of_get ha; omega), (sJ.trans s2).mut nB, ls ++ [(l, ys)], ?_, fun l' hl' => ?_, by rw [List.length_append, List.length_singleton]; omega, ?_⟩
            · rw [upd_same, List.map_append]; rfl
            · rcases List.mem_append.mp hl' with z | z
              · have := hls l' z
                exact ⟨by rw [upd_ne this.2]; exact s2 _ _ this.1, this.2⟩
              · rw [List.mem_singleton.mp z]
                exact ⟨by rw [upd_ne lB]; exact hl, lB⟩
            · rw [List.any_append, ean, tk, e]
              have : (sntC cs (folF cs F g) a).isEmpty = ys.isEmpty := by
                unfold sntC; rw [hc]
                show (sentM c (folF cs F g)).isEmpty = _
                cases h1 : sentM c (folF cs F g) <;> cases h2 : ys <;> rw [h1, h2] at ly <;> simp at ly <;> rfl
              rw [this]; simp
        rintro J ⟨sJ, ls, hB, hls, ll, ean⟩
        rw [List.length_map, List.take_length] at ean
        have eC : (ls.any fun l => !l.2.isEmpty) = !candB cs F g := by
          rw [ean]; unfold candB
          rw [List.all_eq_not_any_not]; simp
        refine ⟨B, ls, rfl, hB, fun l hl => (hls l hl).1, _, rfl, ?_⟩
        rw [eC]
        have twJ : TwoN R P G3 J := TwoN.of_same sJ hR3 hP3
        have hRJ := sJ _ _ hR3
        cases ec : candB cs F g with
        | false => exact itbF rfl ⟨_, _, _, as, rfl, twJ, tb3.ext sJ, sJ _ _ hP3, hRJ, has3.imp fun _ _ ⟨a, e, h⟩ => ⟨a, e, h.tu (TU.same sJ)⟩⟩
        | true =>
          refine itbT rfl ?_
          refine ⟨_, rfl, .inl ⟨rfl, _, sq hRJ⟩, _, rfl, _, rfl, ca, xs, rfl, (hcaG3.same sJ).len, _, rfl, by omega, by omega, fun B2 nB2 => ?_⟩
          refine lc_pick (n := xs.length) nB2 lxn (fun i => !decide (i ∈ insF cs F g ++ idlF cs F g)) ?_ ?_
          · rintro i J2 T' S' hi s2 hT' hS'
            have li1 : (insF cs F g).length ≤ 1 := by
              unfold insF; split
              · exact Nat.zero_le _
              · split
                · exact Nat.zero_le _
                · exact Nat.le_refl _
            have li2 : (idlF cs F g).length ≤ 4 := by
              have := List.length_filter_le (idlB cs (folF cs F g)) (othF cs.length g)
              have := oth_len sg
              unfold idlF; omega
            refine ⟨rfl, ⟨_, rfl, _, rfl, _, rfl, il, D, _, _, rfl, rfl, s2 _ _ (sJ _ _ hil3), s2 _ _ (sJ _ _ hD), Nat.le_of_lt (lt1 _ (by rw [List.length_map, List.length_map]; omega)), fun S nS => ?_⟩⟩
            rw [← List.map_append]
            refine ⟨S, _, rfl, .inl (sq upd_same), rfl, flat_nats _, _, rfl, ?_⟩
            have sS := same_new nS (o := .lst ((insF cs F g ++ idlF cs F g).map natI))
            show (if (!inV (.int (0 + (i : Int))) ((insF cs F g ++ idlF cs F g).map natI)) = true then _ else _)
            rw [Int.zero_add, in_nats]
            by_cases e : i ∈ insF cs F g ++ idlF cs F g
            · rw [decide_eq_true e]
              exact itbF rfl (hS' _ sS (by rw [decide_eq_true e]; rfl))
            · rw [decide_eq_false e]
              exact itbT rfl ⟨_, rfl, hT' _ sS (by rw [decide_eq_false e]; rfl)⟩
          intro J2 s2 hB2
          rw [show xs.length = cs.length from lx] at hB2
          change J2 B2 = some (.lst ((tailF cs F g).map natI)) at hB2
          refine ⟨B2, _, rfl, .inl ⟨sq hB2, fun tt ntt => ?_⟩⟩
          have s3' := same_new ntt (o := .tup ((tailF cs F g).map natI))
          have lt' : (tailF cs F g).length ≤ 4 := by
            have := List.length_filter_le (fun i => !decide (i ∈ insF cs F g ++ idlF cs F g)) (List.range cs.length)
            rw [List.length_range] at this
            unfold tailF; omega
          refine ⟨ft, tt, _, _, rfl, rfl, hft3.tu (TU.same (sJ.trans (s2.trans s3'))), .inl upd_same, by rw [List.length_map, List.length_map]; omega, fun W J4 s4 hW => ?_⟩
          have s24 := s2.trans (s3'.trans s4)
          have hR4 := s24 _ _ hRJ
          have lrow : as.length = rows.length := by have := has.len; rwa [List.length_map] at this
          have lle := lm.le
          refine ⟨R, _, _, rfl, rfl, hR4, lt1 _ (by rw [List.length_map]; omega), ?_⟩
          rw [← List.map_append] at hW
          have tw4 : TwoN R P G3 (upd J4 R (.lst (as.map V.ref ++ [.ref W]))) := (twJ.ext (LamX.ExtN.of s24)).m1
          refine ⟨_, _, _, as ++ [W], rfl, tw4, tabs_mutL hR4 ((tb3.ext sJ).ext s24), by rw [upd_ne RP.symm]; exact s24 _ _ (sJ _ _ hP3), by rw [upd_same, List.map_append]; rfl, ?_⟩
          rw [if_pos rfl, List.map_append]
          have tu4 : TU J4 (upd J4 R (.lst (as.map V.ref ++ [.ref W]))) := TU.mut hR4 fun _ z => by cases z
          exact (has3.imp fun _ _ ⟨a, e, h⟩ => ⟨a, e, h.tu tw4.ti.t⟩).app (.cons ⟨W, rfl, hW.tu tu4⟩ .nil)
      · rintro σ J ⟨v9, v10, v11, as', rfl, twJ, tbJ, hPJ, hRJ, hasJ⟩
        have hOJ := twJ.k _ _ OR OP (fun _ z => by cases z) hO3
        have lP : ∃ k, (fs'.length + k ≤ 65 ∧ (othF cs.length g).length ≤ k) := by
          have e1 := lm'.le
          have e2 := lm'.em
          have pos : ∀ l : List (List Nat), l.length ≤ (l.map (wtF cs.length)).sum := fun l => by
            induction l with
            | nil => exact Nat.zero_le _
            | cons x r ih =>
              rw [List.map_cons, List.sum_cons, List.length_cons]
              have : 1 ≤ wtF cs.length x := wtN_pos _
              omega
          have := pos (fs' ++ (othF cs.length g).map fun a => g ++ [a])
          rw [List.length_append, List.length_map] at this
          exact ⟨(othF cs.length g).length, by omega, Nat.le_refl _⟩
        obtain ⟨kP, lP1, lP2⟩ := lP
        have lps : ps'.length = fs'.length := hps3.len
        have npo : ∀ o, J P = some o → ∃ xs, o = .lst xs := fun o h => ⟨ps', by rw [hPJ] at h; exact (Option.some.inj h).symm⟩
        refine ⟨_, rfl, O, rfl, ⟨_, sq hOJ⟩, for_list (K := K) (a := O) (xs := (othF cs.length g).map natI) (fun j σ J => ∃ (v9 v10 v11 : Option V) (ps2 : List V), σ = [some (.ref ca), some (.ref p), some (.ref R), some (.ref P), some (.ref ft), some (.ref q'), some (.ref il), some (.ref O), some (.ref D), v9, v10, v11] ∧ TwoN R P G3 J ∧ LamX.Tabs (T3 PA PT PS) J ∧ J P = some (.lst ps2) ∧ A2 (NdAt K C R P cs F J) ps2 (fs' ++ ((othF cs.length g).take j).map fun a => g ++ [a]) ∧ J R = some (.lst (as'.map V.ref)) ∧ A2 (fun v row => ∃ a, v = .ref a ∧ MT K J a (row.map natI)) (as'.map V.ref) (if candB cs F g = true then rows ++ [candR cs F g] else rows)) ?_ ?_ ?_ ?_⟩
        · exact ⟨_, _, _, ps', rfl, twJ, tbJ, hPJ, by rw [List.take_zero, List.map_nil, List.append_nil]; exact hps3.imp fun _ _ h => h.two twJ, hRJ, hasJ⟩
        · rintro j σ J2 _ ⟨_, _, _, ps2, rfl, tw2, _⟩
          exact sq (tw2.k _ _ OR OP (fun _ z => by cases z) hO3)
        · rintro j y σ J2 hy ⟨v9, v10, v11, ps2, rfl, tw2, tb2, hP2, hps2, hR2, has2⟩
          rw [List.getElem?_map] at hy
          obtain ⟨a, ha, rfl⟩ := Option.map_eq_some_iff.mp hy
          have io := mem_oth.mp (List.mem_of_getElem? ha)
          obtain ⟨c, hc⟩ : ∃ c, cs[a]? = some c := ⟨_, List.getElem?_eq_getElem io.1⟩
          have gc := gcN c (List.mem_of_getElem? hc)
          obtain ⟨v, hv, x, rfl, hcx⟩ := a2_at (hAG3.imp fun _ _ h => CpV.ti h tw2.ti) hc
          have hg1 : g.length + 1 ≤ 4 := by
            have := oth_len sg
            have : 0 < (othF cs.length g).length := List.length_pos_of_mem (List.mem_of_getElem? ha)
            omega
          have l2 := hps2.len
          rw [List.length_append, List.length_map, List.length_take] at l2
          refine ⟨_, rfl, _, rfl, seq_ixI (tw2.get' caR caP hcaG3) rfl hv ⟨_, rfl, x, q', c, folF cs F g, _, rfl, hcx, gc.ok, gc.z, gc.sz, hq3.ti tw2.ti, gaN, by omega, tb2, fun r y q2 sa la J3 e3 t3 stt => ?_⟩⟩
          refine ⟨_, rfl, _, rfl, ?_⟩
          refine slA_go stt.at_ fun b J4 s4 hb => ?_
          rw [show cutV [V.ref y, V.ref q2, V.ref sa, V.ref la] (some 1) (some 3) = [V.ref q2, V.ref sa] from rfl] at hb
          refine ⟨b, _, rfl, st hb, rfl, _, _, rfl, _, _, rfl, rfl, ?_⟩
          obtain ⟨xsS, hsa, dsa⟩ := stt.s
          have lS := dsa.len
          rw [List.length_map] at lS
          have tw4 := (tw2.ext e3).ext (LamX.ExtN.of s4)
          have hP4 := s4 _ _ (e3 _ _ hP2 fun _ z => by cases z)
          have hR4 := s4 _ _ (e3 _ _ hR2 fun _ z => by cases z)
          have hsa4 := s4 _ _ hsa
          have hq4 : FoAt C J4 q2 (folF cs F (g ++ [a])) := by
            rw [fol_snoc]; unfold stpC; rw [hc]; exact stt.q.same s4
          have eI : insF cs F (g ++ [a]) = if xsS.isEmpty then [] else [a] := by
            rw [ins_snoc]; unfold sntC; rw [hc]
            show (if (sentM c (folF cs F g)).isEmpty then _ else _) = _
            cases h1 : sentM c (folF cs F g) <;> cases h2 : xsS <;> rw [h1, h2] at lS <;> simp at lS <;> rfl
          refine ⟨_, rfl, .inl ⟨rfl, _, sq hP4⟩, _, rfl, _, rfl, by show 1 ≤ sizeLine; decide, fun U nU => ?_⟩
          have sU := same_new nU (o := .tup [.int (a : Int)])
          refine ⟨ft, U, _, [.int (a : Int)], rfl, rfl, hft3.tu (tw4.ti.t.trans (TU.same sU)), .inl upd_same, by rw [List.length_map]; show _ + 1 ≤ 2000; omega, fun W J5 s5 hW => ⟨_, rfl, _, rfl, !xsS.isEmpty, .inr (.inl ⟨xsS, st ((sU.trans s5) _ _ hsa4), rfl⟩), ?_⟩⟩
          have sU5 := sU.trans s5
          have hW : MT K J5 W ((g ++ [a]).map natI) := by rw [List.map_append]; exact hW
          -- the list of those that are in step
          have fin : ∀ (J6 : Hp) (Z : Addr) (zs : List Nat), Same J5 J6 → J5 Z = none → J6 Z = some (.lst (zs.map natI)) → insF cs F (g ++ [a]) = zs → 3 ≤ sizeLine ∧ ∀ T2, J6 T2 = none → rAppend (.ref P) [.ref T2] (upd J6 T2 (.tup [.ref W, .ref q2, .ref Z])) fun v H' => ∃ (v9 v10 v11 : Option V) (ps2 : List V), [some (V.ref ca), some (.ref p), some (.ref R), some (.ref P), some (.ref ft), some (.ref q'), some (.ref il), some (.ref O), some (.ref D), some (.int (a : Int)), some (.ref q2), some (.ref sa)] = [some (.ref ca), some (.ref p), some (.ref R), some (.ref P), some (.ref ft), some (.ref q'), some (.ref il), some (.ref O), some (.ref D), v9, v10, v11] ∧ TwoN R P G3 H' ∧ LamX.Tabs (T3 PA PT PS) H' ∧ H' P = some (.lst ps2) ∧ A2 (NdAt K C R P cs F H') ps2 (fs' ++ ((othF cs.length g).take (j + 1)).map fun a => g ++ [a]) ∧ H' R = some (.lst (as'.map V.ref)) ∧ A2 (fun v row => ∃ a, v = .ref a ∧ MT K H' a (row.map natI)) (as'.map V.ref) (if candB cs F g = true then rows ++ [candR cs F g] else rows) := fun J6 Z zs s6 nZ hZ ez => by
            refine ⟨by decide, fun T2 nT2 => ?_⟩
            have sT := same_new nT2 (o := .tup [.ref W, .ref q2, .ref Z])
            have s46 := sU5.trans (s6.trans sT)
            have hP6 := s46 _ _ hP4
            have ZR : Z ≠ R := ne_new nZ (sU5 _ _ hR4)
            have ZP : Z ≠ P := ne_new nZ (sU5 _ _ hP4)
            refine ⟨P, ps2, _, rfl, rfl, hP6, lt1 _ (by omega), ?_⟩
            have tw6 := (tw4.ext (LamX.ExtN.of s46)).m2 (o := .lst (ps2 ++ [.ref T2]))
            have twl : TwoN R P J2 (upd (upd J6 T2 (.tup [.ref W, .ref q2, .ref Z])) P (.lst (ps2 ++ [.ref T2]))) := by
              have t0 : TwoN R P J2 J2 := ⟨fun _ _ _ _ _ h => h, ⟨_, hR2⟩, ⟨_, hP2⟩⟩
              exact (((t0.ext e3).ext (LamX.ExtN.of s4)).ext (LamX.ExtN.of s46)).m2
            have tu6 : TI (upd J6 T2 (.tup [.ref W, .ref q2, .ref Z])) (upd (upd J6 T2 (.tup [.ref W, .ref q2, .ref Z])) P (.lst (ps2 ++ [.ref T2]))) := TI.mut hP6 (fun _ z => by cases z) fun _ _ _ z => by cases z
            refine ⟨_, _, _, ps2 ++ [.ref T2], rfl, tw6, tabs_mutL hP6 ((t3.ext s4).ext s46), upd_same, ?_, by rw [upd_ne RP]; exact s46 _ _ hR4, has2.imp fun _ _ ⟨a, e, h⟩ => ⟨a, e, h.tu twl.ti.t⟩⟩
            rw [List.take_add_one, ha, List.map_append, ← List.append_assoc]
            refine (hps2.imp fun _ _ h => h.two twl).app (.cons ⟨T2, W, q2, Z, rfl, ?_, hW.tu ((TU.same (s6.trans sT)).trans tu6.t), (hq4.same s46).ti tu6, ?_, ZR, ZP⟩ .nil)
            · exact tu6.t _ _ upd_same
            · rw [upd_ne ZP, ez]; exact sT _ _ hZ
          cases hx : xsS.isEmpty with
          | true =>
            refine itbF rfl ⟨Nat.zero_le _, fun Z nZ => ?_⟩
            exact fin _ Z [] (same_new nZ) nZ upd_same (by rw [eI, hx]; rfl)
          | false =>
            refine itbT rfl ⟨_, rfl, by show 1 ≤ sizeLine; decide, fun Z nZ => ?_⟩
            exact fin _ Z [a] (same_new nZ) nZ upd_same (by rw [eI, hx]; rfl)
        · rintro σ J2 ⟨v9, v10, v11, ps2, rfl, tw2, tb2, hP2, hps2, hR2, has2⟩
          rw [List.length_map, List.take_length] at hps2
          exact ⟨_, _, ⟨_, _, _, _, _, _, _, _, rfl⟩, lm', two3.trans tw2, tb2, ⟨as', hR2, has2⟩, ⟨ps2, hP2, hps2⟩⟩
    · rintro σ G ⟨⟨v4, v5, v6, v7, v8, v9, v10, v11, rfl⟩, rows, m, lm, li⟩
      obtain ⟨as, hRG, has⟩ := li.r
      obtain ⟨rs, hrs, e1, e2⟩ := rows_of has
      have hRG' : G R = some (.lst ((rs.map fun r => (r.1, r.2.map fun n : Nat => (n : Int))).map fun r => V.ref r.1)) := by
        rw [hRG, e1, List.map_map, List.map_map]; rfl
      have eG : LamX.ExtN H G := fun b o hb t => li.tw.k b o (fun e => by rw [e, nRH] at hb; cases hb) (fun e => by rw [e, nPH] at hb; cases hb) t (s3 _ _ hb)
      refine ⟨_, rfl, R, _, rfl, hRG', fun r hr => ?_, fun e => ?_, li.tb, fun r hr hmin H' eH tH => ?_⟩
      · obtain ⟨r', hr', rfl⟩ := List.mem_map.mp hr
        rw [List.map_map]
        exact (hrs r' hr').st
      · have := List.map_eq_nil_iff.mp e
        rw [this] at e2
        exact lm_some lm e2.symm
      · obtain ⟨r', hr', rfl⟩ := List.mem_map.mp hr
        refine q _ r'.2 H' (eG.trans eH) tH (sqt_extN (hrs r' hr').st eH) (lm_end lm (by rw [← e2]; exact List.mem_map_of_mem hr') fun x hx => ?_)
        rw [← e2] at hx
        obtain ⟨x', hx', rfl⟩ := List.mem_map.mp hx
        have := hmin _ (List.mem_map_of_mem hx')
        intro z
        rw [ltLen_of z] at this
        cases this
end
end K1


set_option Elab.async false
set_option linter.all false
set_option maxRecDepth 100000
set_option maxHeartbeats 4000000
/-! l == [] for a list of anything; all rows, from the shortest on: the mathematics. -/
namespace K1
open PySem PySem.Spec PyProof.Rows L2 RZ StX
def rEqNil : R2 := fun x y H Q => ∃ a b xs, x = .ref a ∧ y = .ref b ∧ H a = some (.lst xs) ∧ H b = some (.lst []) ∧ Q (.bl xs.isEmpty) H
theorem op_eqNil {X : Cx} (hu : X.A.units < cLine) : OpR X (compareOp .Eq) rEqNil := by
  intro pins s σ H x y v u Q I rx ry h
  obtain ⟨a, b, xs, rfl, rfl, ea, eb, q⟩ := h
  obtain rfl : v = Value.ref a := rx
  obtain rfl : u = Value.ref b := ry
  obtain ⟨ia, ra, pa, _⟩ := I.list (.inl (.inl ea))
  obtain ⟨ib, rb, pb, _⟩ := I.list (.inl (.inl eb))
  have lb : ib = [] := by cases rb; rfl
  subst lb
  have la := ra.length
  cases xs with
  | nil =>
    have : ia = [] := by cases ra; rfl
    subst this
    refine PySem.SeqAt.eq_listAt (e := fun _ => true) pa.isList pb.isList rfl hu (fun j h1 _ => absurd h1 (by simp)) ⟨.bl true, H, I, rfl, q⟩
  | cons z t =>
    refine PySem.SeqAt.eq_list_lengthsAt pa.isList pb.isList (by cases ia with | nil => cases la | cons _ _ => simp) hu ⟨.bl false, H, I, rfl, q⟩
def rowsL (n : Nat) : Nat → List (List Nat)
  | 0 => [[]]
  | t + 1 => (rowsL n t).flatMap fun r => (List.range n).map fun i => r ++ [i]
theorem mem_rowsL {n : Nat} : ∀ {t : Nat} {r : List Nat}, r ∈ rowsL n t ↔ r.length = t ∧ ∀ i ∈ r, i < n
  | 0, r => by
    show r ∈ [[]] ↔ _
    rw [List.mem_singleton]
    exact ⟨fun e => by rw [e]; exact ⟨rfl, fun i hi => by cases hi⟩, fun h => List.length_eq_zero_iff.mp h.1⟩
  | t + 1, r => by
    show r ∈ (rowsL n t).flatMap _ ↔ _
    rw [List.mem_flatMap]
    constructor
    · rintro ⟨x, hx, hr⟩
      obtain ⟨i, hi, rfl⟩ := List.mem_map.mp hr
      have := mem_rowsL.mp hx
      refine ⟨by rw [List.length_append, this.1]; rfl, fun j hj => (List.mem_append.mp hj).elim (this.2 j) fun z => by rw [List.mem_singleton.mp z]; exact List.mem_range.mp hi⟩
    · rintro ⟨h1, h2⟩
      rcases List.eq_nil_or_concat r with rfl | ⟨x, a, rfl⟩
      · cases h1
      · rw [List.concat_eq_append] at h1 h2 ⊢
        refine ⟨x, mem_rowsL.mpr ⟨by simpa using h1, fun i hi => h2 i (List.mem_append_left _ hi)⟩, List.mem_map.mpr ⟨a, List.mem_range.mpr (h2 a (List.mem_append_right _ List.mem_cons_self)), rfl⟩⟩
theorem lt_app : ∀ {a b : List Nat} (x y : List Nat), a.length = b.length → a < b → a ++ x < b ++ y
  | [], [], x, y, _, h => absurd h (List.lt_irrefl _)
  | p :: a, q :: b, x, y, e, h => by
    rcases List.cons_lt_cons_iff.mp h with z | ⟨z1, z2⟩
    · exact List.cons_lt_cons_iff.mpr (.inl z)
    · exact List.cons_lt_cons_iff.mpr (.inr ⟨z1, lt_app x y (by simpa using e) z2⟩)
theorem lt_snoc {i j : Nat} (h : i < j) : ∀ a : List Nat, a ++ [i] < a ++ [j]
  | [] => List.cons_lt_cons_iff.mpr (.inl h)
  | _ :: a => List.cons_lt_cons_iff.mpr (.inr ⟨rfl, lt_snoc h a⟩)
theorem rowsL_sorted (n : Nat) : ∀ t, (rowsL n t).Pairwise (· < ·)
  | 0 => by show [([] : List Nat)].Pairwise _; simp
  | t + 1 => by
    show ((rowsL n t).flatMap _).Pairwise _
    rw [List.pairwise_flatMap]
    refine ⟨fun r _ => ?_, ?_⟩
    · rw [List.pairwise_map]
      exact (List.pairwise_lt_range (n := n)).imp fun h => lt_snoc h r
    · have ih := rowsL_sorted n t
      refine (List.pairwise_iff_forall_sublist.mpr fun {a b} hab x hx y hy => ?_)
      obtain ⟨i, _, rfl⟩ := List.mem_map.mp hx
      obtain ⟨j, _, rfl⟩ := List.mem_map.mp hy
      have ha := mem_rowsL.mp (hab.subset List.mem_cons_self)
      have hb := mem_rowsL.mp (hab.subset (List.mem_cons_of_mem _ List.mem_cons_self))
      exact lt_app _ _ (by rw [ha.1, hb.1]) (List.pairwise_iff_forall_sublist.mp ih hab)
theorem rowsL_len (n : Nat) : ∀ t, (rowsL n t).length = n ^ t
  | 0 => rfl
  | t + 1 => by
    show ((rowsL n t).flatMap _).length = _
    rw [List.length_flatMap]
    have : ((rowsL n t).map fun r => ((List.range n).map fun i => r ++ [i]).length) = List.replicate (rowsL n t).length n := List.eq_replicate_iff.mpr ⟨by simp, fun b hb => by obtain ⟨r, _, rfl⟩ := List.mem_map.mp hb; simp⟩
    rw [this, List.sum_replicate_nat, rowsL_len n t, Nat.pow_succ]
/-- the first good one of all rows -/
structure FirstG (cs : List Cp) (F : Fo) (row : List Nat) : Prop where
  g : GoodR ⟨cs, F, []⟩ row
  lt : ∀ i ∈ row, i < cs.length
  min : ∀ r, (∀ i ∈ r, i < cs.length) → GoodR ⟨cs, F, []⟩ r → ¬ ltR r row
theorem ltR_tri {a b : List Nat} (h1 : ¬ ltR a b) (h2 : ¬ ltR b a) : a = b := by
  have hl : a.length = b.length := by
    rcases Nat.lt_trichotomy a.length b.length with z | z | z
    · exact absurd (.inl z) h1
    · exact z
    · exact absurd (.inl z) h2
  have k1 : ¬ a < b := fun z => h1 (.inr ⟨hl, z⟩)
  have k2 : ¬ b < a := fun z => h2 (.inr ⟨hl.symm, z⟩)
  exact List.le_antisymm k2 k1
theorem ltR_tr {a b c : List Nat} (h1 : ¬ ltR b a) (h2 : ¬ ltR c b) : ¬ ltR c a := by
  rintro (z | ⟨z1, z2⟩)
  · have : b.length ≤ c.length := by
      rcases Nat.lt_or_ge c.length b.length with k | k
      · exact absurd (.inl k) h2
      · exact k
    exact h1 (.inl (by omega))
  · rcases Nat.lt_trichotomy b.length c.length with k | k | k
    · exact h1 (.inl (by omega))
    · have k1 : ¬ b < a := fun z => h1 (.inr ⟨by omega, z⟩)
      have k2 : ¬ c < b := fun z => h2 (.inr ⟨by omega, z⟩)
      exact k1 (List.lt_of_le_of_lt (show b ≤ c from k2) z2)
    · exact h2 (.inl k)
/-- the least row that the program finds is the first one -/
theorem least_first {k : Nat} {cs : List Cp} {F : Fo} {m row : List Nat} (rg : RG k ⟨cs, F, []⟩) (hn : cs.length ≤ 3) (hk : k + 131 * 6 ≤ 900) (h1 : IsLeast cs F m) (h2 : FirstG cs F row) (hl : row.length ≤ 6) : m = row := by
  obtain ⟨⟨f, sf, cf, rfl⟩, hmin⟩ := h1
  have gm := cand_good sf cf
  have ltm : ∀ i ∈ candR cs F f, i < cs.length := fun i hi => (List.mem_append.mp hi).elim (sf.lt i) fun z => (mem_tail.mp z).1
  obtain ⟨f2, sf2, cf2, h3⟩ := good_cand rg (by omega) h2.lt h2.g
  exact ltR_tri (fun z => h2.min _ ltm gm z) fun z => ltR_tr (hmin f2 sf2 cf2) h3 z
theorem good_short {cs : List Cp} {F : Fo} : ∃ r : List Nat, (∀ i ∈ r, i < cs.length) ∧ GoodR ⟨cs, F, []⟩ r ∧ r.length ≤ 2 * cs.length := by
  cases e : cs.length with
  | zero =>
    refine ⟨[], fun i hi => (by cases hi), fun c hc => ?_, Nat.zero_le _⟩
    have : cs = [] := List.length_eq_zero_iff.mp e
    subst this
    cases hc
  | succ n =>
    have r1 : ∀ i ∈ List.range cs.length ++ (List.range cs.length).dropLast, i < cs.length := fun i hi => (List.mem_append.mp hi).elim List.mem_range.mp fun z => List.mem_range.mp (List.dropLast_subset _ z)
    refine ⟨List.range cs.length ++ (List.range cs.length).dropLast, fun i hi => by rw [← e]; exact r1 i hi, order_ready (s := ⟨cs, F, []⟩) (fun i hi => List.mem_range.mpr hi) (fun i hi => List.mem_range.mp hi) (by rw [e]; simp), ?_⟩
    rw [List.length_append, List.length_dropLast, List.length_range]; omega
end K1


set_option Elab.async false
set_option linter.all false
set_option maxRecDepth 100000
set_option maxHeartbeats 32000000
/-! _law_first. -/
namespace K1
open PySem PySem.Spec PyProof.Rows L2 RZ StX
abbrev sFi : Stmt := st__law_first
abbrev nFi : List Str := ["_law_copies_here", "_law_folder_here", "_law_rows", "_law_turn", "_law_row", "_law_now", "_law_here", "_law_sends", "_law_longer", "_law_copy", "_law_index"]
abbrev pFi : List Str := ["_law_copies_here", "_law_folder_here"]
theorem scFi : FnScope nFi pFi (defScope sFi) := ⟨rfl, rfl, rfl, by decide +kernel, rfl, by decide +kernel, by decide +kernel⟩
def spFi (K : PySem.W.Frag) (C CC PA PT PS : Addr) : Sp := fun vs H Q _ => ∃ (ca p : Addr) (xs : List V) (cs : List Cp) (F : Fo) (k : Nat), vs = [.ref ca, .ref p] ∧ H ca = some (.tup xs) ∧ A2 (CpV K CC H) xs cs ∧ cs.length ≤ 3 ∧ FoAt C H p F ∧ RG k ⟨cs, F, []⟩ ∧ k + 131 * 6 ≤ 900 ∧ LamX.Tabs (T3 PA PT PS) H ∧
  ∀ r row H', LamX.ExtN H H' → LamX.Tabs (T3 PA PT PS) H' → MT K H' r (row.map natI) → FirstG cs F row → row.length ≤ 6 → Q (.ref r) H'
/-- rows as they lie -/
def RwAt (K : PySem.W.Frag) (G : Hp) (v : V) (row : List Nat) : Prop := ∃ a, v = .ref a ∧ G a = some (.tup (row.map natI))
theorem RwAt.tu {K : PySem.W.Frag} {G J : Hp} {v : V} {row : List Nat} (h : RwAt K G v row) (t : TU G J) : RwAt K J v row := let ⟨a, e, h⟩ := h; ⟨a, e, t _ _ h⟩
theorem sorted_take {l : List (List Nat)} (h : l.Pairwise (· < ·)) {j : Nat} {row r : List Nat} (hj : l[j]? = some row) (hr : r ∈ l) (hlt : r < row) : r ∈ l.take j := by
  rw [← List.take_append_drop j l] at hr h
  rcases List.mem_append.mp hr with z | z
  · exact z
  · rw [drop_cons hj] at z h
    rcases List.mem_cons.mp z with rfl | z
    · exact absurd hlt (List.lt_irrefl _)
    · have := (List.pairwise_cons.mp (List.pairwise_append.mp h).2.1).1 r z
      exact absurd (List.lt_trans hlt this) (List.lt_irrefl _)
theorem unitsLt {A : Around} (h : A.units + 64 < cLine) : A.units < cLine := by omega
section
variable {P : Program} {w : World} {K : PySem.W.Frag} {mg : Str → Option Value} {base : Heap} {C CC PA PT PS : Addr}
theorem ok_fi {f : Addr} {fd : FuncData} (T : Bk mg) (EM : EqM P w K mg base 1 CC (CpEq K CC)) (D_copy_of : Def P w K mg base CX0 6 "copy_of" pCo (spCo K C CC)) (D_run : Def P w K mg base CX0 12 "run" pRun (spRun K C CC PA PT PS))
    (F : Fun K "_law_first" "_law_first" sFi f fd) : FnOk P w K mg base CX0 13 f fd pFi (spFi K C CC PA PT PS) := by
  have nd := scFi.nd
  refine F.ok scFi (fun vs H Q E h => ?_) (fun cdv A outer s H vs Q E hr h => ?_)
  · obtain ⟨ca, p, xs, cs, F, k, rfl, _⟩ := h
    rfl
  · obtain ⟨ca, p, xs, cs, F, k, rfl, hca, hA, l3, hF, rg, hk, hT, q⟩ := h
    refine ⟨_, (pss_cons (ps_set (i := 2) nd rfl (Or.inl rfl) (pe_lst (pa_cons (pe_tup pa_nil) pa_nil)))
 (C8.pss_cut (ps_for PassesOwn.never rfl (pi_range1 rfl T.range (pa_cons (pe_op op_add (pe_op op_mul pe_int (pe_callB (call_lenK (K := K) rfl) (by rfl) T.len PySem.boot_len (pa_cons (pv 0) pa_nil))) pe_int) pa_nil)) (pg_name (i := 3) nd rfl (Or.inl rfl))
  (C8.pss_cut (ps_for PassesOwn.never rfl (pi_listK (K := K) rfl (pv 2)) (pg_name (i := 4) nd rfl (Or.inr rfl))
  (pss_cons (ps_asg (pe_def D_run (hr.mono (by decide)) rfl pass0 (pa_cons (pv 0) (pa_cons (pv 1) (pa_cons (pv 4) pa_nil)))) (pg_tup rfl (pgs_cons (pg_name (i := 5) nd rfl (Or.inl rfl)) (pgs_cons (pg_name (i := 6) nd rfl (Or.inr rfl)) (pgs_cons (pg_name (i := 7) nd rfl (Or.inl rfl)) pgs_nil)))))
 (pss_one (ps_if (pt_cmpR (op_eqNil (K1.unitsLt hr.units)) (pe_lc (own := [("_law_copy", 9)]) (g := gName 9) rfl nd (pi_tupK (K := K) rfl (pv 5)) (blkOk_by (own := [("_law_copy", 9)]) (N := nFi) (sc := defScope sFi) (by decide +kernel)) (fun _ _ _ _ _ => pg_name (i := 9) nd rfl (Or.inl rfl)) (fun _ _ _ _ _ => pts_one (pt_cmpR (op_neI EM (hr.mono (by decide))) (pv 9) (pe_def D_copy_of (hr.mono (by decide)) rfl pass0 (pa_cons (pv 6) pa_nil)) (nomark _))) (fun _ _ _ _ _ => (pv 9))) (pe_lst pa_nil) (nomark _))
  (pss_one (ps_ret (pv 4)))
  pss_nil))))
 (pss_cons (ps_set (i := 8) nd rfl (Or.inl rfl) (pe_lst pa_nil))
 (C8.pss_cut (ps_for PassesOwn.never rfl (pi_listK (K := K) rfl (pv 2)) (pg_name (i := 4) nd rfl (Or.inr rfl))
  (pss_one (ps_expr (pe_bm PySem.F.plainAttrs_list PySem.F.slot_list_extend PySem.F.type_list_extend mt_extend (pv 8) (pa_cons (pe_lc (own := [("_law_index", 10)]) (g := gName 10) (tt := tYes) rfl nd (pi_range1 rfl T.range (pa_cons (pe_callB (call_lenK (K := K) rfl) (by rfl) T.len PySem.boot_len (pa_cons (pv 0) pa_nil)) pa_nil)) (blkOk_by (own := [("_law_index", 10)]) (N := nFi) (sc := defScope sFi) (by decide +kernel)) (fun _ _ _ _ _ => pg_name (i := 10) nd rfl (Or.inl rfl)) (fun _ _ _ _ _ => pts_nil) (fun _ _ _ _ _ => (pe_op (op_catM (K := K) rfl) (pv 4) (pe_tup (pa_cons (pv 10) pa_nil))))) pa_nil)))))
 (pss_one (ps_set (i := 2) nd rfl (Or.inl rfl) (pv 8)))))))
 (pss_one (ps_ret pe_non)))), ?_⟩
    have lx := hA.len
    refine ⟨Nat.zero_le _, fun E1 nE => ⟨by show 1 ≤ sizeLine; decide, fun R nR => ?_⟩⟩
    have k1 := same_new nE (o := .tup [])
    have k2 := same_new nR (o := .lst [.ref E1])
    have s0 := k1.trans k2
    have hE0 := k2 _ _ (show upd H E1 (.tup []) E1 = some (.tup []) from upd_same)
    have hR0 : upd (upd H E1 (.tup [])) R (.lst [.ref E1]) R = some (.lst [.ref E1]) := upd_same
    generalize upd (upd H E1 (.tup [])) R (.lst [.ref E1]) = G0 at s0 hE0 hR0
    clear k1 k2 nE nR
    refine ⟨fun σ G => False, ?_, fun σ G z => z.elim⟩
    refine ⟨_, rfl, ca, xs, rfl, .inr (st (s0 _ _ hca)), _, _, rfl, rfl, .inl ⟨by decide, by decide⟩, _, _, rfl, rfl, _, rfl, by omega, by omega, ?_⟩
    have tn : (2 * (xs.length : Int) + 1).toNat = 2 * cs.length + 1 := by omega
    rw [tn]
    refine for_range (lo := 0) (n := 2 * cs.length + 1) (fun t σ G => ∃ (v3 v4 v5 v6 v7 v8 v9 v10 : Option V) (L : Addr) (ys : List V), σ = [some (.ref ca), some (.ref p), some (.ref L), v3, v4, v5, v6, v7, v8, v9, v10] ∧ LamX.ExtN H G ∧ LamX.Tabs (T3 PA PT PS) G ∧ G L = some (.lst ys) ∧ A2 (RwAt K G) ys (rowsL cs.length t) ∧ ∀ r : List Nat, (∀ i ∈ r, i < cs.length) → r.length < t → ¬ GoodR ⟨cs, F, []⟩ r) ?_ ?_ ?_
    · exact ⟨_, _, _, _, _, _, _, _, R, _, rfl, LamX.ExtN.of s0, hT.ext s0, hR0, .cons ⟨E1, rfl, hE0⟩ .nil, fun r _ h => absurd h (by omega)⟩
    · rintro t σ G ht ⟨v3, v4, v5, v6, v7, v8, v9, v10, L, ys, rfl, eG, tG, hL, hys, hsh⟩
      have ly := hys.len
      rw [rowsL_len] at ly
      have ly : ys.length ≤ 1000 := by
        have : ∀ a : Fin 4, ∀ b : Fin 7, b.val < 2 * a.val + 1 → a.val ^ b.val ≤ 1000 := by decide
        rw [ly]
        exact this ⟨cs.length, by omega⟩ ⟨t, by omega⟩ (by simpa using ht)
      have hca1 := eG _ _ hca fun _ z => by cases z
      have hA1 := hA.imp fun _ _ h => CpV.ti h (TI.en eG)
      have hF1 := hF.ti (TI.en eG)
      -- the rows of this length
      refine ⟨fun σ J => (∃ (v4 v5 v6 v7 v8 v9 v10 : Option V), σ = [some (.ref ca), some (.ref p), some (.ref L), some (.int (0 + (t : Int))), v4, v5, v6, v7, v8, v9, v10]) ∧ LamX.ExtN G J ∧ LamX.Tabs (T3 PA PT PS) J ∧ ∀ r ∈ rowsL cs.length t, ¬ GoodR ⟨cs, F, []⟩ r, ?_, ?_⟩
      · refine ⟨_, rfl, L, rfl, ⟨_, sq hL⟩, for_list (K := K) (a := L) (xs := ys) (fun j σ J => (∃ (v4 v5 v6 v7 v8 v9 v10 : Option V), σ = [some (.ref ca), some (.ref p), some (.ref L), some (.int (0 + (t : Int))), v4, v5, v6, v7, v8, v9, v10]) ∧ LamX.ExtN G J ∧ LamX.Tabs (T3 PA PT PS) J ∧ ∀ r ∈ (rowsL cs.length t).take j, ¬ GoodR ⟨cs, F, []⟩ r) ?_ ?_ ?_ ?_⟩
        · exact ⟨⟨_, _, _, _, _, _, _, rfl⟩, LamX.ExtN.refl G, tG, fun r hr => by rw [List.take_zero] at hr; cases hr⟩
        · rintro j σ J _ ⟨_, eJ, _⟩
          exact sq (eJ _ _ hL fun _ z => by cases z)
        · rintro j y σ J hy ⟨⟨w4, w5, w6, w7, w8, w9, w10, rfl⟩, eJ, tJ, hng⟩
          obtain ⟨row, hrow, a, rfl, ha⟩ := hys.get hy
          have mr := mem_rowsL.mp (List.mem_of_getElem? hrow)
          have ha := eJ _ _ ha fun _ z => by cases z
          have htt : t < 2 * cs.length + 1 := ht
          refine ⟨_, rfl, _, rfl, _, rfl, ca, p, a, xs, cs, F, row, k, rfl, .inr (eJ _ _ hca1 fun _ z => by cases z), hA1.imp fun _ _ h => CpV.ti h (TI.en eJ), by omega, hF1.ti (TI.en eJ), rg, ha, mr.2, by rw [mr.1]; omega, tJ, fun r ta q' sa ys2 J2 e2 t2 ra => ?_⟩
          refine ⟨r, _, rfl, st ra.at_, rfl, _, _, rfl, _, _, rfl, _, _, rfl, rfl, ?_⟩
          have rgS := rg_row row rg (by rw [mr.1]; omega)
          have lS : (rowF ⟨cs, F, []⟩ row).now.length = cs.length := rowF_len _ _
          have gdef : GoodR ⟨cs, F, []⟩ row ↔ ∀ c ∈ (rowF ⟨cs, F, []⟩ row).now, c = cpF (rowF ⟨cs, F, []⟩ row).f := Iff.rfl
          generalize rowF ⟨cs, F, []⟩ row = S at ra rgS lS gdef
          refine ⟨_, rfl, ta, rfl, ⟨_, st ra.t⟩, fun D nD => ?_⟩
          refine lc_sel (walk_tup (K := K)) ra.ys nD (fun G s => st (s _ _ ra.t)) (by have := ra.ys.len; omega) (fun c => if c = cpF S.f then none else some c) (out := fun _ _ => True) ?_ ?_
          · rintro v c J3 T' S' ⟨x, rfl, hx⟩ hm s3 hT' hS'
            have gc := rgS.gc c hm
            refine ⟨rfl, _, rfl, _, rfl, q', S.f, _, rfl, ra.q.same s3, rgS.ga, by rw [mr.1]; omega, fun y J4 s4 ny hy => ?_⟩
            refine ne_cp (hx.same (s3.trans s4)) hy gc.ok (okCp_F (by rw [mr.1]; omega) rgS.ga) fun J5 s5 => ⟨_, rfl, ?_⟩
            by_cases e : c = cpF S.f
            · rw [decide_eq_true e]
              exact itbF rfl (hS' J5 (s4.trans s5) (if_pos e))
            · rw [decide_eq_false e]
              exact itbT rfl ⟨_, rfl, hT' _ c J5 (s4.trans s5) (if_neg e) trivial⟩
          intro J3 acc s3 hD hacc
          refine ⟨Nat.zero_le _, fun E2 nE2 => ?_⟩
          have sE := same_new nE2 (o := .lst [])
          refine ⟨D, E2, acc, rfl, rfl, sE _ _ hD, upd_same, _, rfl, ?_⟩
          have eJ3 := (eJ.trans e2).trans (LamX.ExtN.of (s3.trans sE))
          have tJ3 := (t2.ext s3).ext sE
          have lacc := hacc.len
          by_cases g : GoodR ⟨cs, F, []⟩ row
          · have : S.now.filterMap (fun c => if c = cpF S.f then none else some c) = [] := List.filterMap_eq_nil_iff.mpr fun c hc => if_pos (gdef.mp g c hc)
            rw [this] at lacc
            have : acc = [] := List.length_eq_zero_iff.mp lacc
            subst this
            refine itbT rfl ⟨_, rfl, q a row _ (eG.trans eJ3) tJ3 (.inl ((s3.trans sE) _ _ (e2 _ _ ha fun _ z => by cases z))) ⟨g, mr.2, fun x hx gx => ?_⟩ (by rw [mr.1]; omega)⟩
            rintro (z | ⟨z1, z2⟩)
            · exact hsh x hx (by rw [← mr.1]; exact z) gx
            · exact hng x (sorted_take (rowsL_sorted _ _) hrow (mem_rowsL.mpr ⟨by rw [z1, mr.1], hx⟩) z2) gx
          · have : acc ≠ [] := fun e => g (gdef.mpr fun c hc => by
              rw [e] at lacc
              have := List.filterMap_eq_nil_iff.mp (List.length_eq_zero_iff.mp lacc.symm) c hc
              by_cases z : c = cpF S.f
              · exact z
              · rw [if_neg z] at this; cases this)
            refine itbF (by cases acc with | nil => exact absurd rfl this | cons _ _ => rfl) ⟨⟨_, _, _, _, _, _, _, rfl⟩, eJ3, tJ3, fun x hx => ?_⟩
            rw [List.take_add_one, hrow] at hx
            rcases List.mem_append.mp hx with z | z
            · exact hng x z
            · rw [show x = row by simpa using z]; exact g
        · rintro σ J ⟨hσ, eJ, tJ, hng⟩
          rw [show ys.length = (rowsL cs.length t).length from hys.len, List.take_length] at hng
          exact ⟨hσ, eJ, tJ, hng⟩
      · rintro σ J ⟨⟨w4, w5, w6, w7, w8, w9, w10, rfl⟩, eJ, tJ, hng⟩
        refine ⟨Nat.zero_le _, fun N nN => ?_⟩
        have sN := same_new nN (o := .lst [])
        have hN : upd J N (.lst []) N = some (.lst []) := upd_same
        have hLJ := eJ _ _ hL fun _ z => by cases z
        have LN : L ≠ N := ne_of_none hLJ nN
        have eJ0 := (eG.trans eJ).trans (LamX.ExtN.of sN)
        have hysJ : A2 (RwAt K (upd J N (.lst []))) ys (rowsL cs.length t) := hys.imp fun _ _ h => h.tu (TU.ext (eJ.trans (LamX.ExtN.of sN)))
        have hL0 := sN _ _ hLJ
        have tJ0 := tJ.ext sN
        have hca0 := eJ0 _ _ hca fun _ z => by cases z
        have nNH := (eG.trans eJ)
        have nNH : ∀ b o, H b = some o → (∀ ps, o ≠ .tbl ps) → b ≠ N := fun b o h ht e => by
          have := nNH b o h ht
          rw [e, nN] at this; cases this
        generalize upd J N (.lst []) = J0 at sN hN eJ0 hysJ hL0 tJ0 hca0
        refine ⟨fun σ J => ∃ (w4 w5 w6 w7 w9 w10 : Option V) (zs : List V), σ = [some (.ref ca), some (.ref p), some (.ref L), some (.int (0 + (t : Int))), w4, w5, w6, w7, some (.ref N), w9, w10] ∧ TwoN N N J0 J ∧ LamX.Tabs (T3 PA PT PS) J ∧ J N = some (.lst zs) ∧ A2 (RwAt K J) zs (rowsL cs.length (t + 1)), ?_, ?_⟩
        · refine ⟨_, rfl, L, rfl, ⟨_, sq hL0⟩, for_list (K := K) (a := L) (xs := ys) (fun j σ J => ∃ (w4 w5 w6 w7 w9 w10 : Option V) (zs : List V), σ = [some (.ref ca), some (.ref p), some (.ref L), some (.int (0 + (t : Int))), w4, w5, w6, w7, some (.ref N), w9, w10] ∧ TwoN N N J0 J ∧ LamX.Tabs (T3 PA PT PS) J ∧ J N = some (.lst zs) ∧ A2 (RwAt K J) zs (((rowsL cs.length t).take j).flatMap fun r => (List.range cs.length).map fun i => r ++ [i])) ?_ ?_ ?_ ?_⟩
          · exact ⟨_, _, _, _, _, _, [], rfl, ⟨fun _ _ _ _ _ h => h, ⟨_, hN⟩, ⟨_, hN⟩⟩, tJ0, hN, .nil⟩
          · rintro j σ J2 _ ⟨_, _, _, _, _, _, zs, rfl, tw, _⟩
            exact sq (tw.k _ _ LN LN (fun _ z => by cases z) hL0)
          · rintro j y σ J2 hy ⟨w4, w5, w6, w7, w9, w10, zs, rfl, tw, t2, hN2, hzs⟩
            obtain ⟨row, hrow, a, rfl, ha⟩ := hysJ.get hy
            have mr := mem_rowsL.mp (List.mem_of_getElem? hrow)
            have ha := tw.ti.t _ _ ha
            have lz := hzs.len
            have lz : zs.length ≤ 3000 := by
              rw [List.length_flatMap] at lz
              have e1 : (((rowsL cs.length t).take j).map fun r => ((List.range cs.length).map fun i => r ++ [i]).length) = List.replicate ((rowsL cs.length t).take j).length cs.length := List.eq_replicate_iff.mpr ⟨by simp, fun b hb => by obtain ⟨r, _, rfl⟩ := List.mem_map.mp hb; simp⟩
              rw [e1, List.sum_replicate_nat, List.length_take] at lz
              have := hys.len
              have : min j (rowsL cs.length t).length ≤ 1000 := by omega
              have := Nat.mul_le_mul this l3
              omega
            refine ⟨_, rfl, .inl ⟨rfl, _, sq hN2⟩, _, rfl, ca, xs, rfl, .inr (st (tw.ti.t _ _ hca0)), _, rfl, by omega, by omega, fun D nD => ?_⟩
            refine lc_range (lo := 0) (n := xs.length) (fun i J3 => Same J2 J3 ∧ ∃ ws, J3 D = some (.lst ws) ∧ A2 (RwAt K J3) ws ((List.range i).map fun i => row ++ [i])) ⟨same_new nD, [], upd_same, .nil⟩ ?_ ?_
            · rintro i J3 hi ⟨s3, ws, hD, hws⟩
              have lw := hws.len
              rw [List.length_map, List.length_range] at lw
              refine ⟨rfl, tyes ⟨_, rfl, _, rfl, by show 1 ≤ sizeLine; decide, fun U nU => ?_⟩⟩
              have sU := same_new nU (o := .tup [.int (0 + (i : Int))])
              refine ⟨a, U, _, _, rfl, rfl, .inl ((s3.trans sU) _ _ ha), .inl upd_same, by rw [List.length_map, mr.1]; show t + 1 ≤ 2000; have : t < 2 * cs.length + 1 := ht; omega, fun W J4 s4 hW => ?_⟩
              have hW : J4 W = some (.tup ((row ++ [i]).map natI)) := by
                rw [List.map_append]
                have : ([V.int (0 + (i : Int))] : List V) = [i].map natI := by rw [Int.zero_add]; rfl
                rw [this] at hW
                exact hW.resolve_right fun z => by have := z.1; simp at this
              have s34 := sU.trans s4
              have tu := TU.mut (s34 _ _ hD) (u := .lst (ws ++ [.ref W])) fun _ z => by cases z
              refine ⟨ws, s34 _ _ hD, lt2 _ (by omega), (s3.trans s34).mut nD, _, upd_same, ?_⟩
              rw [List.range_succ, List.map_append]
              exact (hws.imp fun _ _ h => h.tu ((TU.same s34).trans tu)).app (.cons ⟨W, rfl, tu _ _ hW⟩ .nil)
            · rintro J3 ⟨s3, ws, hD, hws⟩
              have lw := hws.len
              rw [List.length_map, List.length_range] at lw
              have hN3 := s3 _ _ hN2
              refine ⟨N, D, zs, ws, rfl, rfl, hN3, hD, lt1 _ (by omega), ?_⟩
              have ti : TI J3 (upd J3 N (.lst (zs ++ ws))) := TI.mut hN3 (fun _ z => by cases z) fun _ _ _ z => by cases z
              have tw3 := (tw.ext (LamX.ExtN.of s3)).m1 (o := .lst (zs ++ ws))
              refine ⟨_, _, _, _, _, _, zs ++ ws, rfl, tw3, tabs_mutL hN3 (t2.ext s3), upd_same, ?_⟩
              rw [List.take_add_one, hrow, List.flatMap_append]
              refine (hzs.imp fun _ _ h => h.tu ((TU.same s3).trans ti.t)).app ?_
              rw [show xs.length = cs.length from lx] at hws
              show A2 _ ws ([row].flatMap _)
              rw [List.flatMap_singleton]
              exact hws.imp fun _ _ h => h.tu ti.t
          · rintro σ J2 ⟨w4, w5, w6, w7, w9, w10, zs, rfl, tw, t2, hN2, hzs⟩
            rw [show ys.length = (rowsL cs.length t).length from hys.len, List.take_length] at hzs
            exact ⟨_, _, _, _, _, _, zs, rfl, tw, t2, hN2, hzs⟩
        · rintro σ J2 ⟨w4, w5, w6, w7, w9, w10, zs, rfl, tw, t2, hN2, hzs⟩
          refine ⟨_, rfl, _, _, _, _, _, _, _, _, N, zs, rfl, fun b o hb hbt => ?_, t2, hN2, hzs, fun r hr hlt g => ?_⟩
          · exact tw.k _ _ (nNH b o hb hbt) (nNH b o hb hbt) hbt (eJ0 _ _ hb hbt)
          · by_cases e : r.length < t
            · exact hsh r hr e g
            · exact hng r (mem_rowsL.mpr ⟨by omega, hr⟩) g
    · rintro σ G ⟨v3, v4, v5, v6, v7, v8, v9, v10, L, ys, rfl, eG, tG, hL, hys, hsh⟩
      obtain ⟨r, h1, h2, h3⟩ := good_short (cs := cs) (F := F)
      exact (hsh r h1 (by omega) h2).elim
end
end K1


set_option Elab.async false
set_option linter.all false
set_option maxRecDepth 100000
set_option maxHeartbeats 8000000
namespace K1
open PySem PySem.Spec PyProof.Rows L2 RZ StX
/-- what stays through the law's turns -/
structure MR (K : PySem.W.Frag) (C CC PA PT PS p ta q : Addr) (xs : List V) (cs : List Cp) (F : Fo) (H G : Hp) : Prop where
  e : ENL p H G
  w : WellAt G p
  tb : LamX.Tabs (T3 PA PT PS) G
  t : G ta = some (.tup xs)
  xs : A2 (CpV K CC G) xs cs
  q : FoAt C G q F
theorem MR.ext {K : PySem.W.Frag} {C CC PA PT PS p ta q : Addr} {xs : List V} {cs : List Cp} {F : Fo} {H G G' : Hp} (h : MR K C CC PA PT PS p ta q xs cs F H G) (e : LamX.ExtN G G') (t : LamX.Tabs (T3 PA PT PS) G') : MR K C CC PA PT PS p ta q xs cs F H G' :=
  ⟨h.e.ext e, h.w.en e, t, e _ _ h.t fun _ z => (by cases z), h.xs.imp fun _ _ k => k.ti (TI.en e), h.q.ti (TI.en e)⟩
theorem MR.same {K : PySem.W.Frag} {C CC PA PT PS p ta q : Addr} {xs : List V} {cs : List Cp} {F : Fo} {H G G' : Hp} (h : MR K C CC PA PT PS p ta q xs cs F H G) (s : Same G G') : MR K C CC PA PT PS p ta q xs cs F H G' := h.ext (LamX.ExtN.of s) (h.tb.ext s)
theorem MR.ww {K : PySem.W.Frag} {C CC PA PT PS p ta q : Addr} {xs : List V} {cs : List Cp} {F : Fo} {H G G' : Hp} (h : MR K C CC PA PT PS p ta q xs cs F H G) (e : Ext p G G') (w : WellAt G' p) : MR K C CC PA PT PS p ta q xs cs F H G' :=
  ⟨h.e.trans (ENL.of e), w, tabs_w h.w e h.tb, (TI.w h.w e).t _ _ h.t, h.xs.imp fun _ _ k => k.ti (TI.w h.w e), h.q.ti (TI.w h.w e)⟩
theorem gc_M {c : Cp} {F : Fo} {b : Int} {ss : List Str} (g : GC c F) (md : c.md = []) (ls : c.ls.length ≤ 10) (hb : 0 ≤ b) (ok : OkSs ss) (z : W4 ss) : GC (cpM c b ss) F :=
  ⟨okCp_M g.ok hb ok (by rw [md]; decide), ⟨g.z.s, g.z.w, fun m hm => (List.mem_append.mp hm).elim (g.z.m m) fun k => by rw [List.mem_singleton.mp k]; exact z⟩, .inr ⟨ls, by show (c.md ++ [(b, ss)]).length ≤ 1; rw [md]; exact Nat.le_refl _⟩, g.age, g.mr⟩
end K1


set_option Elab.async false
set_option linter.all false
set_option maxRecDepth 100000
set_option maxHeartbeats 16000000
/-! == and != of tuples of ints, also of the written part; _law_right. -/
namespace K1
open PySem PySem.Spec PyProof.Rows L2 RZ StX
def rEqNT (K : PySem.W.Frag) : R2 := fun x y H Q => ∃ (a b : Addr) (ns : List Int), x = .ref a ∧ y = .ref b ∧ SqT K H a (ns.map V.int) ∧ SqT K H b (ns.map V.int) ∧ Q (.bl true) H
def rNeNT (K : PySem.W.Frag) : R2 := fun x y H Q => ∃ (a b : Addr) (ns : List Int), x = .ref a ∧ y = .ref b ∧ SqT K H a (ns.map V.int) ∧ SqT K H b (ns.map V.int) ∧ Q (.bl false) H
theorem ints_at : ∀ {ns : List Int} {its its2 : List Value}, Vals (ns.map V.int) its → Vals (ns.map V.int) its2 → ∀ (A : Around) (s : Shared) (j : Nat) (h1 : j < its.length) (h2 : j < its2.length), PySem.SeqAt.EqAt A s its[j] its2[j] true
  | [], _, _, .nil, .nil, A, s, j, h1, _ => absurd h1 (by simp)
  | n :: ns, _, _, .cons ⟨t1, e1⟩ r1, .cons ⟨t2, e2⟩ r2, A, s, 0, _, _ => by
    subst e1 e2
    have := PySem.SeqAt.EqAt.int_int (A := A) (s := s) n t1 n t2
    simpa using this
  | n :: ns, _, _, .cons _ r1, .cons _ r2, A, s, j + 1, h1, h2 => ints_at r1 r2 A s j (by simpa using h1) (by simpa using h2)
section
variable {X : Cx} {K : PySem.W.Frag}
theorem op_eqNT (h : X.K = K) (hu : X.A.units < cLine) : OpR X (compareOp .Eq) (rEqNT K) := by
  subst h
  intro pins s σ H x y v u Q I rx ry h
  obtain ⟨a, b, ns, rfl, rfl, ha, hb, q⟩ := h
  obtain rfl : v = Value.ref a := rx
  obtain rfl : u = Value.ref b := ry
  obtain ⟨i1, r1, t1, _⟩ := I.tuple ha
  obtain ⟨i2, r2, t2, _⟩ := I.tuple hb
  have l1 := r1.length
  have l2 := r2.length
  refine PySem.SeqAt.eq_tupleAt (e := fun _ => true) t1 t2 hu (fun j h1 h2 => by simpa using ints_at r1 r2 _ _ j (by simpa using h1) (by simpa using h2)) ⟨.bl true, H, I, ?_, q⟩
  show Value.bool _ = Value.bool true
  simp [← l1, ← l2]
theorem op_neNT (h : X.K = K) (hu : X.A.units < cLine) : OpR X (compareOp .NotEq) (rNeNT K) := by
  subst h
  intro pins s σ H x y v u Q I rx ry h
  obtain ⟨a, b, ns, rfl, rfl, ha, hb, q⟩ := h
  obtain rfl : v = Value.ref a := rx
  obtain rfl : u = Value.ref b := ry
  obtain ⟨i1, r1, t1, _⟩ := I.tuple ha
  obtain ⟨i2, r2, t2, _⟩ := I.tuple hb
  have l1 := r1.length
  have l2 := r2.length
  refine PySem.SeqAt.RcNeAt.tuples (e := fun _ => true) t1 t2 hu (fun j h1 h2 => by simpa using ints_at r1 r2 _ _ j (by simpa using h1) (by simpa using h2)) _ _ _ _ ⟨.bl false, H, I, ?_, q⟩
  show Value.bool _ = Value.bool false
  simp [← l1, ← l2]
end
theorem w6_sub {ss : List Str} (h : List.Sublist ss w6) : OkSs ss :=
  ⟨h.length_le, fun x hx => (show ∀ z ∈ w6, okS z = true by decide +kernel) x (h.subset hx), List.Pairwise.sublist h (show Asc w6 by unfold Asc ltS w6; decide +kernel)⟩
theorem w6_W {ss : List Str} (h : List.Sublist ss w6) : W4 ss := fun x hx => h.subset hx
theorem sub_a : List.Sublist (["a"] : List Str) w6 := by decide +kernel
abbrev sRt : Stmt := st__law_right
abbrev nRt : List Str := ["_law_source_here", "_law_most", "_law_many", "_law_copies_here", "_law_folder_here"]
abbrev pRt : List Str := ["_law_source_here", "_law_most"]
theorem scRt : FnScope nRt pRt (defScope sRt) := ⟨rfl, rfl, rfl, by decide +kernel, rfl, by decide +kernel, by decide +kernel⟩
def spRt (PA PT PS : Addr) : Sp := fun vs H Q _ => ∃ (p : Addr) (m : Int), vs = [.ref p, .int m] ∧ 0 ≤ m ∧ m ≤ 3 ∧ WellAt H p ∧ LamX.Tabs (T3 PA PT PS) H ∧ ∀ H', ENL p H H' → WellAt H' p → LamX.Tabs (T3 PA PT PS) H' → Q (.bl true) H'
section
variable {P : Program} {w : World} {K : PySem.W.Frag} {mg : Str → Option Value} {base : Heap} {C CC PA PT PS : Addr}
theorem ok_rt {f : Addr} {fd : FuncData} (T : Bk mg) (tc : CcT K mg CC) (M_making : MDef P w K mg base CX0 6 CC "making" nCMk (spMkg K CC))
    (D_next : Def P w K mg base CX0 2 "_law_next" pNx spNx) (D_folder : Def P w K mg base CX0 11 "_law_folder" pLf (spLf C PA PT PS)) (D_copies : Def P w K mg base CX0 11 "_law_copies" pCps (spCps K C CC PA PT PS))
    (D_least_row : Def P w K mg base CX0 12 "least_row" pLr (spLr K C CC PA PT PS)) (D_first : Def P w K mg base CX0 13 "_law_first" pFi (spFi K C CC PA PT PS))
    (F : Fun K "_law_right" "_law_right" sRt f fd) : FnOk P w K mg base CX0 14 f fd pRt (spRt PA PT PS) := by
  have nd := scRt.nd
  refine F.ok scRt (fun vs H Q E h => ?_) (fun cdv A outer s H vs Q E hr h => ?_)
  · obtain ⟨p, m, rfl, _⟩ := h
    rfl
  · obtain ⟨p, m, rfl, m0, m3, wp, hT, q⟩ := h
    refine ⟨_, (pss_cons (ps_set (i := 2) nd rfl (Or.inl rfl) (pe_def D_next (hr.mono (by decide)) rfl pass0 (pa_cons (pv 0) (pa_cons (pe_op op_add (pv 1) pe_int) pa_nil))))
 (pss_cons (ps_asg (pe_def D_copies (hr.mono (by decide)) rfl pass0 (pa_cons (pv 0) (pa_cons (pe_def D_folder (hr.mono (by decide)) rfl pass0 (pa_cons (pv 0) (pa_cons (pe_op op_add pe_int (pe_def D_next (hr.mono (by decide)) rfl pass0 (pa_cons (pv 0) (pa_cons pe_int pa_nil)))) pa_nil))) (pa_cons (pv 2) pa_nil)))) (pg_tup rfl (pgs_cons (pg_name (i := 3) nd rfl (Or.inl rfl)) (pgs_cons (pg_name (i := 4) nd rfl (Or.inl rfl)) pgs_nil))))
 (C8.pss_cut (ps_if (PW.pt (pw_and (pt_cmpR op_gt (pv 2) pe_int (nomark _)) (pw_and1 (pt_cmpR op_eq (pe_def D_next (hr.mono (by decide)) rfl pass0 (pa_cons (pv 0) (pa_cons pe_int pa_nil))) pe_int (nomark _)))))
  (pss_one (ps_set (i := 3) nd rfl (Or.inl rfl) (pe_op (op_catM (K := K) rfl) (pe_tup (pa_cons (pe_mdef M_making tc.cl (hr.mono (by decide)) pass0 (pe_ix (ix_tupK (K := K) rfl) (pv 3) pe_int (fun _ _ => rfl)) (pa_cons pe_int (pa_cons (pe_tup (pa_cons pe_str pa_nil)) pa_nil))) pa_nil)) (pe_slice (sl_tupAK (K := K) rfl) (pv 3) (po_some pe_int) po_none))))
  pss_nil)
 (pss_one (ps_ret (pe_cmpR (op_eqNT (K := K) rfl (unitsLt hr.units)) (pe_def D_least_row (hr.mono (by decide)) rfl pass0 (pa_cons (pv 3) (pa_cons (pv 4) pa_nil))) (pe_def D_first (hr.mono (by decide)) rfl pass0 (pa_cons (pv 3) (pa_cons (pv 4) pa_nil))) (nomark _))))))), ?_⟩
    refine ⟨_, rfl, _, rfl, _, _, rfl, rfl, p, m + 1, rfl, wp, by omega, by omega, fun n0 G1 n00 n04 e1 w1 => ?_⟩
    obtain ⟨n, rfl⟩ : ∃ n : Nat, n0 = (n : Int) := ⟨n0.toNat, by omega⟩
    have n3 : n ≤ 3 := by omega
    dsimp only
    refine ⟨_, rfl, _, rfl, _, rfl, p, 3, rfl, w1, by decide, by decide, fun n5 G2 n50 n55 e2 w2 => ⟨_, _, rfl, rfl, ?_⟩⟩
    refine ⟨p, 1 + n5, rfl, w2, by omega, by omega, tabs_w w1 e2 (tabs_w wp e1 hT), fun x F0 G3 e3 w3 t3 f3 ga => ?_⟩
    refine ⟨_, rfl, p, x, F0, n, rfl, w3, by omega, f3, ga.mono (by omega), t3, fun r ta q' xs cs F1 G4 e4 w4 t4 cat drw lcs => ?_⟩
    refine ⟨r, _, rfl, st cat.at_, rfl, _, _, rfl, _, _, rfl, rfl, ?_⟩
    have e04 : ENL p H G4 := ((ENL.of e1).trans (ENL.of e2)).trans (e3.trans e4)
    have mr4 : MR K C CC PA PT PS p ta q' xs cs F1 H G4 := ⟨e04, w4, t4, cat.t, cat.xs, cat.q⟩
    refine ⟨fun σ G => ∃ (tb : Addr) (ys : List V) (ds : List Cp), σ = [some (.ref p), some (.int m), some (.int (n : Int)), some (.ref tb), some (.ref q')] ∧ MR K C CC PA PT PS p tb q' ys ds F1 H G ∧ RG 11 ⟨ds, F1, []⟩ ∧ ds.length = n, ?_, ?_⟩
    · have rg0 : RG 11 ⟨cs, F1, []⟩ := ⟨drw.ga, fun c hc => (drw.gc c hc).1⟩
      refine ⟨_, rfl, _, _, rfl, rfl, _, rfl, ?_⟩
      by_cases z : n = 0
      · subst z
        exact itbF rfl ⟨ta, xs, cs, rfl, mr4, rg0, lcs⟩
      refine itbT (decide_eq_true (by omega)) ?_
      refine ⟨_, rfl, p, 5, rfl, w4, by decide, by decide, fun r3 G5 r30 r33 e5 w5 => ⟨rfl, _, rfl, ?_⟩⟩
      have mr5 := mr4.ww e5 w5
      by_cases r0 : r3 = 0
      · refine itbT (decide_eq_true (by rw [r0])) ?_
        cases cs with
        | nil => exact absurd lcs.symm z
        | cons c0 cs0 =>
        obtain ⟨x0, xs0, rfl, ⟨aL, rfl, hL⟩, hA0⟩ : ∃ x0 xs0, xs = x0 :: xs0 ∧ CpV K CC G5 x0 c0 ∧ A2 (CpV K CC G5) xs0 cs0 := by
          cases mr5.xs with
          | cons h t => exact ⟨_, _, rfl, h, t⟩
        have hgc := drw.gc c0 List.mem_cons_self
        obtain ⟨dL, fL, haL, noL⟩ := hL.no
        refine ⟨_, rfl, ta, .ref aL :: xs0, 0, .ref aL, rfl, rfl, st mr5.t, atI_nat (j := 0) rfl, aL, dL, _, rfl, haL, noL (by decide +kernel), by show 1 ≤ sizeLine; decide, fun S nS => ?_⟩
        have sS := same_new nS (o := .tup [.str "a"])
        refine ⟨aL, 1, S, c0, ["a"], rfl, hL.same sS, hgc.1.ok, by decide, upd_same, w6_sub sub_a, by rw [hgc.2.1]; decide, fun z G6 s6 nz hz => ⟨by show 1 ≤ sizeLine; decide, fun U nU => ?_⟩⟩
        have sU := same_new nU (o := .tup [.ref z])
        have s56 := sS.trans (s6.trans sU)
        have mr6 := mr5.same s56
        refine ⟨_, rfl, _, rfl, ?_⟩
        dsimp only [tNoPart]
        refine slA_go mr6.t fun b G7 s7 hb => ?_
        rw [cut1] at hb
        change G7 b = some (.tup xs0) at hb
        have lA0 := hA0.len
        refine ⟨U, b, [.ref z], xs0, rfl, rfl, .inl (s7 _ _ upd_same), .inl hb, by show 1 + xs0.length ≤ 2000; simp at lcs; omega, fun W G8 s8 hW => ?_⟩
        have hW' : G8 W = some (.tup (.ref z :: xs0)) := hW.resolve_right fun k => by simp at k
        have mr8 := (mr6.same s7).same s8
        refine ⟨W, .ref z :: xs0, cpM c0 1 ["a"] :: cs0, rfl, ⟨mr8.e, mr8.w, mr8.tb, hW', .cons ⟨z, rfl, ((hz.same sU).same s7).same s8⟩ (hA0.imp fun _ _ h => ((h.ti (TI.same s56)).ti (TI.same s7)).ti (TI.same s8)), mr8.q⟩, ⟨drw.ga, fun c hc => ?_⟩, lcs⟩
        rcases List.mem_cons.mp hc with rfl | hc
        · exact gc_M hgc.1 hgc.2.1 hgc.2.2 (by decide) (w6_sub sub_a) (w6_W sub_a)
        · exact (drw.gc c (List.mem_cons_of_mem _ hc)).1
      · exact itbF (decide_eq_false fun e => r0 (V.int.inj e)) ⟨ta, xs, cs, rfl, mr5, rg0, lcs⟩
    rintro σ G6 ⟨tb, ys, ds, rfl, mr6, rg, lds⟩
    refine ⟨_, rfl, _, rfl, tb, q', ys, ds, F1, 11, rfl, .inr mr6.t, mr6.xs, by omega, mr6.q, rg, by decide, mr6.tb, fun r1 row1 G7 e7 t7 h7 lst => ?_⟩
    have mr7 := mr6.ext e7 t7
    refine ⟨_, rfl, _, rfl, tb, q', ys, ds, F1, 11, rfl, mr7.t, mr7.xs, by omega, mr7.q, rg, by decide, mr7.tb, fun r2 row2 G8 e8 t8 h8 fst l6 => ?_⟩
    have mr8 := mr7.ext e8 t8
    have ee := least_first rg (by omega) (by decide) lst fst l6
    subst ee
    have k7 := sqt_extN h7 e8
    have k8 := h8.st
    have en : row1.map natI = (row1.map fun n : Nat => (n : Int)).map V.int := by rw [List.map_map]; rfl
    rw [en] at k7 k8
    exact ⟨r1, r2, _, rfl, rfl, k7, k8, q G8 mr8.e mr8.w mr8.tb⟩
end
end K1


set_option Elab.async false
set_option linter.all false
set_option maxRecDepth 100000
set_option maxHeartbeats 8000000
/-! Least rows of copies by hand, by the kernel. -/
namespace K1
open PySem PySem.Spec PyProof.Rows L2 RZ StX
instance (a b : List Nat) : Decidable (ltR a b) := by unfold ltR; infer_instance
def lvl (n : Nat) : Nat → List (List Nat)
  | 0 => [[]]
  | t + 1 => (lvl n t).flatMap fun f => (othF n f).map fun a => f ++ [a]
def allSq (n : Nat) : List (List Nat) := (List.range (n + 1)).flatMap (lvl n)
theorem mem_lvl {n : Nat} (f : List Nat) : SqN n f → f ∈ lvl n f.length := by
  refine snocInd (P := fun f => SqN n f → f ∈ lvl n f.length) (fun _ => List.mem_singleton.mpr rfl) (fun g a ih h => ?_) f
  rw [List.length_append]
  have nd := List.nodup_append.mp h.nd
  refine List.mem_flatMap.mpr ⟨g, ih ⟨nd.1, fun i hi => h.lt i (List.mem_append_left _ hi)⟩, List.mem_map.mpr ⟨a, mem_oth.mpr ⟨h.lt a (List.mem_append_right _ List.mem_cons_self), fun z => nd.2.2 a z a List.mem_cons_self rfl⟩, rfl⟩⟩
theorem sq_len {n : Nat} {f : List Nat} (h : SqN n f) : f.length ≤ n := by have := oth_len h; omega
theorem mem_allSq {n : Nat} {f : List Nat} (h : SqN n f) : f ∈ allSq n := List.mem_flatMap.mpr ⟨f.length, List.mem_range.mpr (by have := sq_len h; omega), mem_lvl f h⟩
def chkB (cs : List Cp) (F : Fo) (row : List Nat) : Bool := ((allSq cs.length).any fun f => candB cs F f && decide (row = candR cs F f)) && (allSq cs.length).all fun f => !candB cs F f || !decide (ltR (candR cs F f) row)
theorem lvl_sq {n : Nat} : ∀ {t : Nat} {f : List Nat}, f ∈ lvl n t → SqN n f
  | 0, f, h => by rw [List.mem_singleton.mp h]; exact ⟨List.nodup_nil, fun i hi => by cases hi⟩
  | t + 1, f, h => by
    obtain ⟨g, hg, hf⟩ := List.mem_flatMap.mp h
    obtain ⟨a, ha, rfl⟩ := List.mem_map.mp hf
    exact sq_snoc (lvl_sq hg) ha
theorem allSq_sq {n : Nat} {f : List Nat} (h : f ∈ allSq n) : SqN n f := let ⟨_, _, h⟩ := List.mem_flatMap.mp h; lvl_sq h
theorem ltR_tri' {a b : List Nat} (h1 : ¬ ltR a b) (h2 : ¬ ltR b a) : a = b := by
  have hl : a.length = b.length := by
    rcases Nat.lt_trichotomy a.length b.length with z | z | z
    · exact absurd (.inl z) h1
    · exact z
    · exact absurd (.inl z) h2
  exact List.le_antisymm (fun z => h2 (.inr ⟨hl.symm, z⟩)) (fun z => h1 (.inr ⟨hl, z⟩))
theorem least_eq {cs : List Cp} {F : Fo} {m row : List Nat} (h : IsLeast cs F m) (c : chkB cs F row = true) : m = row := by
  unfold chkB at c
  rw [Bool.and_eq_true, List.any_eq_true, List.all_eq_true] at c
  obtain ⟨⟨f, hf, h1⟩, h2⟩ := c
  rw [Bool.and_eq_true] at h1
  have e := of_decide_eq_true h1.2
  obtain ⟨⟨g, sg, cg, rfl⟩, hm⟩ := h
  have k1 := hm f (allSq_sq hf) h1.1
  have k2 := h2 g (mem_allSq sg)
  rw [cg] at k2
  have k2 : ¬ ltR (candR cs F g) row := by
    intro z; rw [decide_eq_true z] at k2; cases k2
  exact ltR_tri' k2 (by rw [e]; exact k1)
/-- the folder of _law_alike_right -/
def alF : Nat → Fo
  | 0 => fNew 1
  | s + 1 => fApp (alF s) (s : Int) ["b"]
/-- its copy, changed at the first letters -/
def alC (s : Nat) (bs : List Bool) : Cp := (bs.zipIdx).foldl (fun c b => cpW c ((b.2 : Int) + 1) (if b.1 then none else some ["a", "b", "c"])) (cpF (alF s))
def bss : Nat → List (List Bool)
  | 0 => [[]]
  | t + 1 => (bss t).flatMap fun b => [b ++ [true], b ++ [false]]
theorem mem_bss (bs : List Bool) : bs ∈ bss bs.length := by
  refine snocInd (P := fun bs => bs ∈ bss bs.length) (List.mem_singleton.mpr rfl) (fun l a ih => ?_) bs
  rw [List.length_append]
  refine List.mem_flatMap.mpr ⟨l, ih, ?_⟩
  cases a <;> simp
theorem al_chk : ∀ n ∈ [2, 3, 4], ∀ s ∈ [1, 2, 3], ∀ bs ∈ bss s, chkB (List.replicate n (alC s bs)) (alF s) (List.range n) = true := by decide +kernel
theorem al_calm : ∀ n ∈ [2, 3, 4], ∀ s ∈ [1, 2, 3], chkB (List.replicate n (cpF (alF s))) (alF s) [] = true := by decide +kernel
/-- the copies of _law_four_right -/
def frF : Fo := fApp (fNew 2) 0 []
def frC (z : Str) : Cp := cpW (cpF frF) 1 (some [z])
def frL : Fo := fSig frF [1] (fun ss => wG ss "a")
def frS : List Cp := [frC "a", frC "b", frC "c", frC "d"]
def frRows : List (List Cp × Fo × List Nat) := [(frS, frF, [0, 1, 2, 3, 0, 1, 2]), (frS.take 2 ++ [cpF frF, cpF frF], frF, [0, 1, 0, 2, 3]), ([cpF frF, frC "a", cpF frF, frC "b"], frF, [1, 3, 0, 1, 2]), ([cpF frF, cpF frF, cpF frF, cpF frF], frF, []),
  (frS, frL, [1, 2, 3, 0, 1, 2]), (frS.take 3 ++ frS.take 1, frF, [0, 1, 2, 0, 1, 3])]
theorem fr_chk : ∀ r ∈ frRows, chkB r.1 r.2.1 r.2.2 = true := by decide +kernel
end K1


set_option Elab.async false
set_option linter.all false
set_option maxRecDepth 100000
set_option maxHeartbeats 16000000
/-! _law_alike_right. -/
namespace K1
open PySem PySem.Spec PyProof.Rows L2 RZ StX
abbrev sAk : Stmt := st__law_alike_right
abbrev nAk : List Str := ["_law_source_here", "_law_many", "_law_size", "_law_folder_here", "_law_turn", "_law_copy", "_law_number", "_law_row"]
abbrev pAk : List Str := ["_law_source_here"]
theorem scAk : FnScope nAk pAk (defScope sAk) := ⟨rfl, rfl, rfl, by decide +kernel, rfl, by decide +kernel, by decide +kernel⟩
def spAk (PA PT PS : Addr) : Sp := fun vs H Q _ => ∃ p : Addr, vs = [.ref p] ∧ WellAt H p ∧ LamX.Tabs (T3 PA PT PS) H ∧ ∀ H', ENL p H H' → WellAt H' p → LamX.Tabs (T3 PA PT PS) H' → Q (.bl true) H'
theorem rg_nat (m : Nat) : rgV 0 (m : Int) = (List.range m).map natI := by
  unfold rgV
  rw [show ((m : Int) - 0).toNat = m by omega]
  exact List.map_congr_left fun i _ => by show V.int (0 + (i : Int)) = V.int i; rw [Int.zero_add]
theorem sub_b : List.Sublist (["b"] : List Str) w6 := by decide +kernel
theorem sub_abc : List.Sublist (["a", "b", "c"] : List Str) w6 := by decide +kernel
theorem ga_alF : ∀ s : Nat, s ≤ 900 → GA s (alF s)
  | 0, _ => ga_new (by decide)
  | s + 1, h => ga_does (d := .app (s : Int) ["b"]) (by omega) (ga_alF s (by omega)) ⟨Int.natCast_nonneg s, w6_sub sub_b⟩ (w6_W sub_b)
theorem alC_snoc (s : Nat) (bs : List Bool) (b : Bool) : alC s (bs ++ [b]) = cpW (alC s bs) ((bs.length : Int) + 1) (if b then none else some ["a", "b", "c"]) := by
  unfold alC
  rw [List.zipIdx_append, List.foldl_append]
  show cpW _ (((0 + bs.length : Nat) : Int) + 1) _ = _
  rw [Nat.zero_add]
structure AlC (s : Nat) (c : Cp) : Prop where
  ok : OkCp c
  z : CW4 c
  age : c.age = (alF s).age
  mr : c.mr = (alF s).mr
  ls : c.ls.map (·.n) = (cpF (alF s)).ls.map (·.n)
  md : c.md = []
theorem alC_ok {s : Nat} (hs : s ≤ 3) (bs : List Bool) : AlC s (alC s bs) := by
  refine snocInd (P := fun bs => AlC s (alC s bs)) ⟨okCp_F (by omega) (ga_alF s (by omega)), cw4_cpF (ga_alF s (by omega)), rfl, rfl, rfl, rfl⟩ (fun l b ih => ?_) bs
  rw [alC_snoc]
  have hw : ∀ ss, (if b then none else some (["a", "b", "c"] : List Str)) = some ss → ss = (["a", "b", "c"] : List Str) := fun ss e => by
    cases b
    · exact (Option.some.inj e).symm
    · cases e
  exact ⟨okCp_W ih.ok fun ss e => by rw [hw ss e]; exact w6_sub sub_abc, cw4_W ih.z fun ss e => by rw [hw ss e]; exact w6_W sub_abc, ih.age, ih.mr, (map_setW _ _ _).trans ih.ls, ih.md⟩
theorem al_nums : ∀ s ∈ [1, 2, 3], (cpF (alF s)).ls.map (·.n) = (List.range s).map (fun j : Nat => (j : Int) + 1) := by decide +kernel
theorem rg_same {k : Nat} {F : Fo} {n : Nat} {c : Cp} (g : GA k F) (gc : GC c F) : RG k ⟨List.replicate n c, F, []⟩ := ⟨g, fun d hd => by rw [List.eq_of_mem_replicate hd]; exact gc⟩
theorem a2_rep {α : Type} {R : V → α → Prop} {v : V} {a : α} (h : R v a) : ∀ n, A2 R (List.replicate n v) (List.replicate n a)
  | 0 => .nil
  | n + 1 => .cons h (a2_rep h n)
section
variable {P : Program} {w : World} {K : PySem.W.Frag} {mg : Str → Option Value} {base : Heap} {C CC PA PT PS : Addr}
theorem ok_ak {f : Addr} {fd : FuncData} (T : Bk mg) (t : ClT K mg C) (tc : CcT K mg CC) (D_new : MkD P w K mg base C) (M_app : MDef P w K mg base CX0 6 C "appended" pApp (spApp C))
    (M_wanting : MDef P w K mg base CX0 7 CC "wanting" nCWt (spWt K CC)) (M_dropping : MDef P w K mg base CX0 7 CC "dropping" nCDr (spDr K CC))
    (D_next : Def P w K mg base CX0 2 "_law_next" pNx spNx) (D_copy_of : Def P w K mg base CX0 6 "copy_of" pCo (spCo K C CC))
    (D_least_row : Def P w K mg base CX0 12 "least_row" pLr (spLr K C CC PA PT PS))
    (F : Fun K "_law_alike_right" "_law_alike_right" sAk f fd) : FnOk P w K mg base CX0 13 f fd pAk (spAk PA PT PS) := by
  have nd := scAk.nd
  refine F.ok scAk (fun vs H Q E h => ?_) (fun cdv A outer s H vs Q E hr h => ?_)
  · obtain ⟨p, rfl, _⟩ := h
    rfl
  · obtain ⟨p, rfl, wp, hT, q⟩ := h
    refine ⟨_, (pss_cons (ps_par (i := 1) (j := 2) (by rfl) nd rfl rfl (by decide) rfl rfl (pa_cons (pe_op op_add pe_int (pe_def D_next (hr.mono (by decide)) rfl pass0 (pa_cons (pv 0) (pa_cons pe_int pa_nil)))) (pa_cons (pe_op op_add pe_int (pe_def D_next (hr.mono (by decide)) rfl pass0 (pa_cons (pv 0) (pa_cons pe_int pa_nil)))) pa_nil)) (by rfl))
 (pss_cons (ps_set (i := 3) nd rfl (Or.inl rfl) (pe_new D_new t.gC (hr.mono (by decide)) rfl (pa_cons pe_int pa_nil)))
 (C8.pss_cut (ps_for PassesOwn.never rfl (pi_range1 rfl T.range (pa_cons (pv 2) pa_nil)) (pg_name (i := 4) nd rfl (Or.inl rfl))
  (pss_one (ps_set (i := 3) nd rfl (Or.inl rfl) (pe_mdef M_app t.cl (hr.mono (by decide)) pass0 (pv 3) (pa_cons (pv 4) (pa_cons (pe_tup (pa_cons pe_str pa_nil)) pa_nil))))))
 (pss_cons (ps_set (i := 5) nd rfl (Or.inl rfl) (pe_def D_copy_of (hr.mono (by decide)) rfl pass0 (pa_cons (pv 3) pa_nil)))
 (C8.pss_cut (ps_for PassesOwn.never rfl (pi_range2 rfl T.range (pa_cons pe_int (pa_cons (pe_op op_add (pv 2) pe_int) pa_nil))) (pg_name (i := 6) nd rfl (Or.inl rfl))
  (pss_one (ps_set (i := 5) nd rfl (Or.inl rfl) (pe_ifExp (pt_cmpR op_eq (pe_def D_next (hr.mono (by decide)) rfl pass0 (pa_cons (pv 0) (pa_cons pe_int pa_nil))) pe_int (nomark _)) (pe_mdef M_dropping tc.cl (hr.mono (by decide)) pass0 (pv 5) (pa_cons (pv 6) pa_nil)) (pe_mdef M_wanting tc.cl (hr.mono (by decide)) pass0 (pv 5) (pa_cons (pv 6) (pa_cons (pe_tup (pa_cons pe_str (pa_cons pe_str (pa_cons pe_str pa_nil)))) pa_nil)))))))
 (pss_cons (ps_set (i := 7) nd rfl (Or.inl rfl) (pe_def D_least_row (hr.mono (by decide)) rfl pass0 (pa_cons (pe_op op_rep (pe_lst (pa_cons (pv 5) pa_nil)) (pv 1)) (pa_cons (pv 3) pa_nil))))
 (pss_one (ps_ret (pe_and (pe_cmpR (op_eqNT (K := K) rfl (unitsLt hr.units)) (pv 7) (pe_tupRg rfl rfl T.tuple (prg_1 rfl T.range (pv 1))) (nomark _)) (pe_one (pe_cmpR (op_eqNT (K := K) rfl (unitsLt hr.units)) (pe_def D_least_row (hr.mono (by decide)) rfl pass0 (pa_cons (pe_op op_rep (pe_lst (pa_cons (pe_def D_copy_of (hr.mono (by decide)) rfl pass0 (pa_cons (pv 3) pa_nil)) pa_nil)) (pv 1)) (pa_cons (pv 3) pa_nil))) (pe_tup pa_nil) (nomark _)))))))))))), ?_⟩
    refine ⟨_, rfl, p, 3, rfl, wp, by decide, by decide, fun n1 G1 n10 n13 e1 w1 => ⟨_, _, rfl, rfl, ?_⟩⟩
    refine ⟨_, rfl, p, 3, rfl, w1, by decide, by decide, fun n2 G2 n20 n23 e2 w2 => ⟨_, _, rfl, rfl, _, _, rfl, ?_⟩⟩
    obtain ⟨n, en⟩ : ∃ n : Nat, 2 + n1 = (n : Int) := ⟨(2 + n1).toNat, by omega⟩
    obtain ⟨m, em⟩ : ∃ m : Nat, 1 + n2 = (m : Int) := ⟨(1 + n2).toNat, by omega⟩
    dsimp only
    rw [en, em]
    have hn : n ∈ [2, 3, 4] := by simp; omega
    have hm : m ∈ [1, 2, 3] := by simp; omega
    have hn4 : n ≤ 4 := by omega
    have hm3 : m ≤ 3 := by omega
    clear en em n10 n13 n20 n23
    have tb2 := tabs_w w1 e2 (tabs_w wp e1 hT)
    have e02 : ENL p H G2 := (ENL.of e1).trans (ENL.of e2)
    refine fun x dx nx ndx nxd => ⟨x, dx, 1, rfl, upd_same, by decide, fun G3 tl tg k0 hx htl htg => ⟨rfl, ?_⟩⟩
    have s3 : Same G2 G3 := fun b o hb => k0 b o (fun e => by rw [e, nx] at hb; cases hb) (by
      rw [upd_ne (fun e => by rw [e, nx] at hb; cases hb), upd_ne (fun e => by rw [e, ndx] at hb; cases hb)]; exact hb)
    have hF3 : FoAt C G3 x (fNew 1) := ⟨dx, tl, tg, hx, .tup htl .nil, .tup htg .nil⟩
    have w3 := w2.sm s3
    have tb3 := tb2.ext s3
    clear k0 hx htl htg nx ndx nxd
    refine ⟨fun σ G => ∃ (x : Addr) (v4 : Option V), σ = [some (.ref p), some (.int (n : Int)), some (.int (m : Int)), some (.ref x), v4, none, none, none] ∧ Same G3 G ∧ FoAt C G x (alF m), ?_, ?_⟩
    · refine ⟨_, rfl, _, rfl, by omega, by omega, ?_⟩
      rw [show ((m : Int)).toNat = m from rfl]
      refine for_range (lo := 0) (n := m) (fun j σ G => ∃ (x : Addr) (v4 : Option V), σ = [some (.ref p), some (.int (n : Int)), some (.int (m : Int)), some (.ref x), v4, none, none, none] ∧ Same G3 G ∧ FoAt C G x (alF j)) ⟨x, _, rfl, fun _ _ h => h, hF3⟩ ?_ fun σ G h => h
      rintro j σ G hj ⟨y, v4, rfl, sG, hy⟩
      have ga := ga_alF j (by omega)
      obtain ⟨dy, tl', tg', hy0, _⟩ := id hy
      refine ⟨_, rfl, y, dy, _, rfl, hy0, fl_no (by decide +kernel), _, rfl, by show 1 ≤ sizeLine; decide, fun S nS => ?_⟩
      have sS := same_new nS (o := .tup [.str "b"])
      refine ⟨y, S, alF j, _, ["b"], rfl, hy.same sS, ga.g.wf.age, by omega, upd_same, w6_sub sub_b, by have := ga.g.wf.len; omega, fun z J s4 nz hz => ?_⟩
      rw [Int.zero_add] at hz
      exact ⟨z, _, rfl, sG.trans (sS.trans s4), hz⟩
    rintro σ G ⟨y, v4, rfl, sG, hy⟩
    have ga := ga_alF m (by omega)
    refine ⟨_, rfl, y, alF m, m, rfl, hy, ga, by omega, fun z G4 s4 nz hz => ?_⟩
    have s34 := sG.trans s4
    have w4 := w3.sm s34
    have tb4 := tb3.ext s34
    have hy4 := hy.same s4
    have e04 : ENL p H G4 := (e02.same s3).same s34
    refine ⟨fun σ G => ∃ (z : Addr) (v6 : Option V) (bs : List Bool), σ = [some (.ref p), some (.int (n : Int)), some (.int (m : Int)), some (.ref y), v4, some (.ref z), v6, none] ∧ bs ∈ bss m ∧ ENL p H G ∧ WellAt G p ∧ LamX.Tabs (T3 PA PT PS) G ∧ FoAt C G y (alF m) ∧ CpAt K CC G z (alC m bs), ?_, ?_⟩
    · refine ⟨_, rfl, _, _, rfl, rfl, _, _, rfl, ⟨by omega, by omega, by omega, by omega⟩, ?_⟩
      rw [show ((m : Int) + 1 - 1).toNat = m by omega]
      refine for_range (lo := 1) (n := m) (fun j σ G => ∃ (z : Addr) (v6 : Option V) (bs : List Bool), σ = [some (.ref p), some (.int (n : Int)), some (.int (m : Int)), some (.ref y), v4, some (.ref z), v6, none] ∧ bs.length = j ∧ ENL p H G ∧ WellAt G p ∧ LamX.Tabs (T3 PA PT PS) G ∧ FoAt C G y (alF m) ∧ CpAt K CC G z (alC m bs)) ⟨z, _, [], rfl, rfl, e04, w4, tb4, hy4, hz⟩ ?_ ?_
      · rintro j σ G hj ⟨z, v6, bs, rfl, hb, eG, wG, tG, fG, hzG⟩
        have ac := alC_ok hm3 bs
        have nm : (1 + (j : Int)) ∈ (alC m bs).ls.map (·.n) := by
          rw [ac.ls, al_nums m hm]
          exact List.mem_map.mpr ⟨j, List.mem_range.mpr hj, by omega⟩
        obtain ⟨dz, fz, hz0, noz⟩ := hzG.no
        refine ⟨_, rfl, p, 2, rfl, wG, by decide, by decide, fun r G5 r0 r2 e5 w5 => ⟨rfl, _, rfl, ?_⟩⟩
        have ti5 := TI.w wG e5
        have e05 := eG.trans (ENL.of e5)
        have t5 := tabs_w wG e5 tG
        have hz5 := hzG.ti ti5
        by_cases c : r = 0
        · refine itbT (decide_eq_true (by rw [c])) ?_
          refine ⟨_, rfl, z, dz, _, rfl, ti5.i _ _ _ _ hz0, noz (by decide +kernel), _, rfl, z, _, _, rfl, hz5, ac.ok, nm, fun z2 G6 s6 nz2 hz2 => ?_⟩
          refine ⟨z2, _, bs ++ [true], rfl, by rw [List.length_append, hb]; rfl, e05.same s6, w5.sm s6, t5.ext s6, (fG.ti ti5).same s6, ?_⟩
          rw [alC_snoc, hb, Int.add_comm]; exact hz2
        · refine itbF (decide_eq_false fun e => c (V.int.inj e)) ?_
          refine ⟨_, rfl, z, dz, _, rfl, ti5.i _ _ _ _ hz0, noz (by decide +kernel), _, rfl, by show 3 ≤ sizeLine; decide, fun S nS => ?_⟩
          have sS := same_new nS (o := .tup [.str "a", .str "b", .str "c"])
          refine ⟨z, _, S, _, ["a", "b", "c"], rfl, hz5.same sS, ac.ok, nm, upd_same, w6_sub sub_abc, fun z2 G6 s6 nz2 hz2 => ?_⟩
          have s56 := sS.trans s6
          refine ⟨z2, _, bs ++ [false], rfl, by rw [List.length_append, hb]; rfl, e05.same s56, w5.sm s56, t5.ext s56, (fG.ti ti5).same s56, ?_⟩
          rw [alC_snoc, hb, Int.add_comm]; exact hz2
      · rintro σ G ⟨z, v6, bs, rfl, hb, h⟩
        exact ⟨z, v6, bs, rfl, by rw [← hb]; exact mem_bss bs, h⟩
    rintro σ G ⟨z, v6, bs, rfl, hbs, eG, wG, tG, fG, hzG⟩
    have ac := alC_ok hm3 bs
    have gc : GC (alC m bs) (alF m) := ⟨ac.ok, ac.z, .inr ⟨by
      have := congrArg List.length ac.ls
      rw [List.length_map, al_nums m hm, List.length_map, List.length_range] at this
      omega, by rw [ac.md]; exact Nat.zero_le _⟩, ac.age, by rw [ac.mr]; exact Int.le_refl _⟩
    refine ⟨_, rfl, by show 1 ≤ sizeLine; decide, fun L nL => ⟨_, rfl, L, (n : Int), _, rfl, rfl, upd_same, by omega, by omega, by show 1 * n ≤ sizeLine; exact lt1 _ (by omega), fun M nM => ?_⟩⟩
    have k1 := same_new nL (o := .lst [.ref z])
    have k2 := same_new nM (o := .lst (List.replicate ((n : Int)).toNat [V.ref z]).flatten)
    have k12 := k1.trans k2
    have fl : ∀ (k : Nat) (v : V), (List.replicate k [v]).flatten = List.replicate k v := fun k v => by
      induction k with
      | zero => rfl
      | succ k ih => rw [List.replicate_succ, List.flatten_cons, ih, List.replicate_succ]; rfl
    have hM : upd (upd G L (.lst [.ref z])) M (.lst (List.replicate ((n : Int)).toNat [V.ref z]).flatten) M = some (HO.lst (List.replicate n (V.ref z))) := upd_same.trans (congrArg (fun l => some (HO.lst l)) (fl n (.ref z)))
    refine ⟨_, rfl, M, y, _, List.replicate n (alC m bs), alF m, m, rfl, .inl hM, a2_rep ⟨z, rfl, hzG.same k12⟩ n, by rw [List.length_replicate]; exact hn4, fG.same k12, rg_same ga gc, by omega, tG.ext k12, fun r row G5 e5 t5 h5 lst => ?_⟩
    have er := least_eq lst (al_chk n hn m hm bs hbs)
    subst er
    have e05 := (eG.same k12).ext e5
    have w5 := (wG.sm k12).en e5
    have f5 := (fG.same k12).ti (TI.en e5)
    have l2 : n ≤ 16777216 := by omega
    have eg : ∀ k : Nat, (List.range k).map natI = ((List.range k).map fun i : Nat => (i : Int)).map V.int := fun k => by rw [List.map_map]; rfl
    refine ⟨_, rfl, _, rfl, _, rfl, RgOk.of_le (by omega) (by omega) (by omega) (by omega), fun O nO => ?_⟩
    rw [rg_nat]
    have sO := same_new nO (o := .tup ((List.range n).map natI))
    have hO : upd G5 O (.tup ((List.range n).map natI)) O = some (.tup ((List.range n).map natI)) := upd_same
    have h5 := sqt_extN h5 (LamX.ExtN.of sO)
    generalize upd G5 O (.tup ((List.range n).map natI)) = G6 at sO hO h5
    rw [eg] at hO h5
    refine ⟨r, O, _, rfl, rfl, h5, st hO, _, rfl, itbT rfl ?_⟩
    have f6 := f5.same sO
    have t6 := t5.ext sO
    have e06 := e05.same sO
    have w6 := w5.sm sO
    refine ⟨_, rfl, y, alF m, m, rfl, f6, ga, by omega, fun z7 G7 s7 nz7 hz7 => ⟨by show 1 ≤ sizeLine; decide, fun L7 nL7 => ⟨_, rfl, L7, (n : Int), _, rfl, rfl, upd_same, by omega, by omega, by show 1 * n ≤ sizeLine; exact lt1 _ (by omega), fun M7 nM7 => ?_⟩⟩⟩
    have j1 := same_new nL7 (o := .lst [.ref z7])
    have j2 := same_new nM7 (o := .lst (List.replicate ((n : Int)).toNat [V.ref z7]).flatten)
    have j12 := s7.trans (j1.trans j2)
    have hM7 : upd (upd G7 L7 (.lst [.ref z7])) M7 (.lst (List.replicate ((n : Int)).toNat [V.ref z7]).flatten) M7 = some (HO.lst (List.replicate n (V.ref z7))) := upd_same.trans (congrArg (fun l => some (HO.lst l)) (fl n (.ref z7)))
    refine ⟨_, rfl, M7, y, _, List.replicate n (cpF (alF m)), alF m, m, rfl, .inl hM7, a2_rep ⟨z7, rfl, hz7.same (j1.trans j2)⟩ n, by rw [List.length_replicate]; exact hn4, f6.same j12, rg_same ga (gc_cpF (by omega) ga), by omega, t6.ext j12, fun r2 row2 G8 e8 t8 h8 lst2 => ?_⟩
    have er2 := least_eq lst2 (al_calm n hn m hm)
    subst er2
    refine ⟨Nat.zero_le _, fun E9 nE9 => ?_⟩
    have s9 := same_new nE9 (o := .tup [])
    refine ⟨r2, E9, [], rfl, rfl, sqt_extN h8 (LamX.ExtN.of s9), st upd_same, ?_⟩
    exact q _ (((e06.same j12).ext e8).same s9) (((w6.sm j12).en e8).sm s9) (t8.ext s9)
end
end K1


set_option Elab.async false
set_option linter.all false
set_option maxRecDepth 100000
set_option maxHeartbeats 16000000
/-! _law_four_right. -/
namespace K1
open PySem PySem.Spec PyProof.Rows L2 RZ StX
abbrev sFr : Stmt := st__law_four_right
abbrev nFr : List Str := ["_law_folder_here", "_law_some", "_law_calm", "_law_later", "_law_rows", "_law_sign", "_law_copies_here", "_law_here", "_law_due"]
abbrev pFr : List Str := []
theorem scFr : FnScope nFr pFr (defScope sFr) := ⟨rfl, rfl, rfl, by decide +kernel, rfl, by decide +kernel, by decide +kernel⟩
def spFr (PA PT PS : Addr) : Sp := fun vs H Q _ => vs = [] ∧ LamX.Tabs (T3 PA PT PS) H ∧ ∀ H', LamX.ExtN H H' → LamX.Tabs (T3 PA PT PS) H' → Q (.bl true) H'
def RowFr (K : PySem.W.Frag) (C CC : Addr) (G : Hp) (v : V) (r : List Cp × Fo × List Nat) : Prop := ∃ T L q D xs, v = .ref T ∧ G T = some (.tup [.ref L, .ref q, .ref D]) ∧ G L = some (.lst xs) ∧ A2 (CpV K CC G) xs r.1 ∧ FoAt C G q r.2.1 ∧ G D = some (.tup (r.2.2.map natI))
theorem RowFr.ext {K : PySem.W.Frag} {C CC : Addr} {G J : Hp} {v : V} {r : List Cp × Fo × List Nat} (h : RowFr K C CC G v r) (e : LamX.ExtN G J) : RowFr K C CC J v r := by
  obtain ⟨T, L, q, D, xs, rfl, h1, h2, h3, h4, h5⟩ := h
  exact ⟨T, L, q, D, xs, rfl, e _ _ h1 fun _ z => (by cases z), e _ _ h2 fun _ z => (by cases z), h3.imp fun _ _ h => CpV.ti h (TI.en e), h4.ti (TI.en e), e _ _ h5 fun _ z => (by cases z)⟩
theorem ga_frF : GA 1 frF := ga_does (d := .app 0 []) (by decide) (ga_new (by decide)) ⟨by decide, w6_sub (List.nil_sublist _)⟩ (w6_W (List.nil_sublist _))
theorem ga_frL : GA 2 frL := ga_does (d := .add [1] "a") (by decide) ga_frF (show okS "a" = true by decide +kernel) (show ("a" : Str) ∈ w6 by decide +kernel)
theorem fr_words : ∀ z ∈ (["a", "b", "c", "d"] : List Str), List.Sublist [z] w6 := by decide +kernel
theorem gc_frC {z : Str} (h : z ∈ (["a", "b", "c", "d"] : List Str)) : GC (frC z) frF ∧ GC (frC z) frL := by
  have hz := fr_words z h
  have hw : ∀ ss, (some [z] : Option (List Str)) = some ss → ss = [z] := fun ss e => (Option.some.inj e).symm
  have ok : OkCp (frC z) := okCp_W (okCp_F (by decide) ga_frF) fun ss e => by rw [hw ss e]; exact w6_sub hz
  have cz : CW4 (frC z) := cw4_W (cw4_cpF ga_frF) fun ss e => by rw [hw ss e]; exact w6_W hz
  exact ⟨⟨ok, cz, .inr ⟨by show ((cpF frF).ls.map (setW 1 (some [z]))).length ≤ 10; rw [List.length_map]; decide +kernel, Nat.zero_le _⟩, rfl, Int.le_refl _⟩, ⟨ok, cz, .inr ⟨by show ((cpF frF).ls.map (setW 1 (some [z]))).length ≤ 10; rw [List.length_map]; decide +kernel, Nat.zero_le _⟩, rfl, show frF.mr ≤ frL.mr by decide +kernel⟩⟩
theorem rg_fr : ∀ r ∈ frRows, RG 2 ⟨r.1, r.2.1, []⟩ ∧ r.1.length = 4 := by
  have a := gc_frC (z := "a") (by simp)
  have b := gc_frC (z := "b") (by simp)
  have c := gc_frC (z := "c") (by simp)
  have d := gc_frC (z := "d") (by simp)
  have m : GC (cpF frF) frF := gc_cpF (by decide) ga_frF
  have gF := ga_frF.mono (show 1 ≤ 2 by decide)
  intro r hr
  simp only [frRows, List.mem_cons, List.not_mem_nil, or_false] at hr
  have four : ∀ {F : Fo} {x y z w : Cp}, GA 2 F → GC x F → GC y F → GC z F → GC w F → RG 2 ⟨[x, y, z, w], F, []⟩ := fun g hx hy hz hw => ⟨g, fun k hk => by
    simp only [List.mem_cons, List.not_mem_nil, or_false] at hk
    rcases hk with rfl | rfl | rfl | rfl
    · exact hx
    · exact hy
    · exact hz
    · exact hw⟩
  rcases hr with rfl | rfl | rfl | rfl | rfl | rfl
  · exact ⟨four gF a.1 b.1 c.1 d.1, rfl⟩
  · exact ⟨four gF a.1 b.1 m m, rfl⟩
  · exact ⟨four gF m a.1 m b.1, rfl⟩
  · exact ⟨four gF m m m m, rfl⟩
  · exact ⟨four ga_frL a.2 b.2 c.2 d.2, rfl⟩
  · exact ⟨four gF a.1 b.1 c.1 a.1, rfl⟩
structure FS (K : PySem.W.Frag) (C CC : Addr) (G : Hp) (y D c l : Addr) (x1 x2 x3 x4 : V) : Prop where
  y : FoAt C G y frF
  l : FoAt C G l frL
  c : CpV K CC G (.ref c) (cpF frF)
  D : G D = some (.lst [x1, x2, x3, x4])
  h1 : CpV K CC G x1 (frC "a")
  h2 : CpV K CC G x2 (frC "b")
  h3 : CpV K CC G x3 (frC "c")
  h4 : CpV K CC G x4 (frC "d")
theorem FS.same {K : PySem.W.Frag} {C CC : Addr} {G J : Hp} {y D c l : Addr} {x1 x2 x3 x4 : V} (h : FS K C CC G y D c l x1 x2 x3 x4) (s : Same G J) : FS K C CC J y D c l x1 x2 x3 x4 :=
  ⟨h.y.same s, h.l.same s, h.c.ti (TI.same s), s _ _ h.D, h.h1.ti (TI.same s), h.h2.ti (TI.same s), h.h3.ti (TI.same s), h.h4.ti (TI.same s)⟩
section
variable {P : Program} {w : World} {K : PySem.W.Frag} {mg : Str → Option Value} {base : Heap} {C CC PA PT PS : Addr}
theorem ok_fr {f : Addr} {fd : FuncData} (T : Bk mg) (t : ClT K mg C) (tc : CcT K mg CC) (D_new : MkD P w K mg base C) (M_app : MDef P w K mg base CX0 6 C "appended" pApp (spApp C)) (M_add : MDef P w K mg base CX0 8 C "added" nAdd (spSgn C PA PT PS (fun z ss => wG ss z)))
    (M_wanting : MDef P w K mg base CX0 7 CC "wanting" nCWt (spWt K CC)) (D_copy_of : Def P w K mg base CX0 6 "copy_of" pCo (spCo K C CC))
    (D_least_row : Def P w K mg base CX0 12 "least_row" pLr (spLr K C CC PA PT PS))
    (F : Fun K "_law_four_right" "_law_four_right" sFr f fd) : FnOk P w K mg base CX0 13 f fd pFr (spFr PA PT PS) := by
  have nd := scFr.nd
  refine F.ok scFr (fun vs H Q E h => ?_) (fun cdv A outer s H vs Q E hr h => ?_)
  · obtain ⟨rfl, _⟩ := h
    rfl
  · obtain ⟨rfl, hT, q⟩ := h
    refine ⟨_, (pss_cons (ps_set (i := 0) nd rfl (Or.inr rfl) (pe_mdef M_app t.cl (hr.mono (by decide)) pass0 (pe_new D_new t.gC (hr.mono (by decide)) rfl (pa_cons pe_int pa_nil)) (pa_cons pe_int (pa_cons (pe_tup pa_nil) pa_nil))))
 (pss_cons (ps_setLc (i := 1) (own := [("_law_sign", 5)]) (g := gName 5) (tt := tYes) rfl nd rfl rfl (sw_true rfl rfl rfl (by decide +kernel)) (pi_tupK (K := K) rfl (pe_tup (pa_cons pe_str (pa_cons pe_str (pa_cons pe_str (pa_cons pe_str pa_nil)))))) (blkOk_by (own := [("_law_sign", 5)]) (N := nFr) (sc := defScope sFr) (by decide +kernel)) (fun _ _ _ _ _ => pg_name (i := 5) nd rfl (Or.inl rfl)) (fun _ _ _ _ _ => pts_nil) (fun _ _ _ _ _ => (pe_mdef M_wanting tc.cl (hr.mono (by decide)) pass0 (pe_def D_copy_of (hr.mono (by decide)) rfl pass0 (pa_cons (pv 0) pa_nil)) (pa_cons pe_int (pa_cons (pe_tup (pa_cons (pv 5) pa_nil)) pa_nil)))))
 (pss_cons (ps_par (i := 2) (j := 3) (by rfl) nd rfl rfl (by decide) rfl rfl (pa_cons (pe_def D_copy_of (hr.mono (by decide)) rfl pass0 (pa_cons (pv 0) pa_nil)) (pa_cons (pe_mdef M_add t.cl (hr.mono (by decide)) pass0 (pv 0) (pa_cons (pe_tup (pa_cons pe_int pa_nil)) (pa_cons pe_str pa_nil))) pa_nil)) (by rfl))
 (C8.pss_cut (ps_set (i := 4) nd rfl (Or.inl rfl) (pe_lst (pa_cons (pe_tup (pa_cons (pv 1) (pa_cons (pv 0) (pa_cons (pe_tup (pa_cons pe_int (pa_cons pe_int (pa_cons pe_int (pa_cons pe_int (pa_cons pe_int (pa_cons pe_int (pa_cons pe_int pa_nil)))))))) pa_nil)))) (pa_cons (pe_tup (pa_cons (pe_op op_cat (pe_slice (sl_listK (K := K) rfl) (pv 1) po_none (po_some pe_int)) (pe_lst (pa_cons (pv 2) (pa_cons (pv 2) pa_nil)))) (pa_cons (pv 0) (pa_cons (pe_tup (pa_cons pe_int (pa_cons pe_int (pa_cons pe_int (pa_cons pe_int (pa_cons pe_int pa_nil)))))) pa_nil)))) pa_nil))))
 (C8.pss_cut (ps_set (i := 4) nd rfl (Or.inl rfl) (pe_op op_cat (pv 4) (pe_lst (pa_cons (pe_tup (pa_cons (pe_lst (pa_cons (pv 2) (pa_cons (pe_ix (ix_listK (K := K) rfl) (pv 1) pe_int (fun _ _ => rfl)) (pa_cons (pv 2) (pa_cons (pe_ix (ix_listK (K := K) rfl) (pv 1) pe_int (fun _ _ => rfl)) pa_nil))))) (pa_cons (pv 0) (pa_cons (pe_tup (pa_cons pe_int (pa_cons pe_int (pa_cons pe_int (pa_cons pe_int (pa_cons pe_int pa_nil)))))) pa_nil)))) (pa_cons (pe_tup (pa_cons (pe_op op_rep (pe_lst (pa_cons (pv 2) pa_nil)) pe_int) (pa_cons (pv 0) (pa_cons (pe_tup pa_nil) pa_nil)))) pa_nil)))))
 (C8.pss_cut (ps_set (i := 4) nd rfl (Or.inl rfl) (pe_op op_cat (pv 4) (pe_lst (pa_cons (pe_tup (pa_cons (pv 1) (pa_cons (pv 3) (pa_cons (pe_tup (pa_cons pe_int (pa_cons pe_int (pa_cons pe_int (pa_cons pe_int (pa_cons pe_int (pa_cons pe_int pa_nil))))))) pa_nil)))) (pa_cons (pe_tup (pa_cons (pe_op op_cat (pe_slice (sl_listK (K := K) rfl) (pv 1) po_none (po_some pe_int)) (pe_slice (sl_listK (K := K) rfl) (pv 1) po_none (po_some pe_int))) (pa_cons (pv 0) (pa_cons (pe_tup (pa_cons pe_int (pa_cons pe_int (pa_cons pe_int (pa_cons pe_int (pa_cons pe_int (pa_cons pe_int pa_nil))))))) pa_nil)))) pa_nil)))))
 (pss_one (ps_ret (pe_cmpR (op_eqNil (unitsLt hr.units)) (pe_lc (own := [("_law_copies_here", 6), ("_law_here", 7), ("_law_due", 8)]) (g := gTup K 3 (gCons (gName 6) (gCons (gName 7) (gCons (gName 8) gNil)))) rfl nd (pi_listK (K := K) rfl (pv 4)) (blkOk_by (own := [("_law_copies_here", 6), ("_law_here", 7), ("_law_due", 8)]) (N := nFr) (sc := defScope sFr) (by decide +kernel)) (fun _ _ _ _ _ => pg_tup rfl (pgs_cons (pg_name (i := 6) nd rfl (Or.inl rfl)) (pgs_cons (pg_name (i := 7) nd rfl (Or.inl rfl)) (pgs_cons (pg_name (i := 8) nd rfl (Or.inl rfl)) pgs_nil)))) (fun _ _ _ _ _ => pts_one (pt_cmpR (op_neNT (K := K) rfl (unitsLt (hr.units))) (pe_def D_least_row (hr.mono (by decide)) rfl pass0 (pa_cons (pv 6) (pa_cons (pv 7) pa_nil))) (pv 8) (nomark _))) (fun _ _ _ _ _ => (pv 8))) (pe_lst pa_nil) (nomark _)))))))))), ?_⟩
    refine fun x dx nx ndx nxd => ⟨x, dx, 2, rfl, upd_same, by decide, fun G3 tl tg k0 hx htl htg => ⟨rfl, ?_⟩⟩
    have s3 : Same H G3 := fun b o hb => k0 b o (fun e => by rw [e, nx] at hb; cases hb) (by
      rw [upd_ne (fun e => by rw [e, nx] at hb; cases hb), upd_ne (fun e => by rw [e, ndx] at hb; cases hb)]; exact hb)
    have hF3 : FoAt C G3 x (fNew 2) := ⟨dx, tl, tg, hx, .tup htl .nil, .tup htg .nil⟩
    refine ⟨x, dx, _, rfl, hx, fl_no (by decide +kernel), Nat.zero_le _, fun S nS => ?_⟩
    have sS := same_new nS (o := .tup [])
    refine ⟨x, S, fNew 2, 0, [], rfl, hF3.same sS, by decide, by decide, upd_same, w6_sub (List.nil_sublist _), Nat.zero_le _, fun y G4 s4 ny hy => ?_⟩
    change FoAt C G4 y frF at hy
    have s04 := s3.trans (sS.trans s4)
    clear s3 sS s4 k0 hx htl htg hF3 nS nx ndx nxd
    -- the four copies
    refine ⟨by show 4 ≤ sizeLine; decide, fun W nW => ?_⟩
    have sW := same_new nW (o := .tup [.str "a", .str "b", .str "c", .str "d"])
    have hW : upd G4 W (.tup [.str "a", .str "b", .str "c", .str "d"]) W = some (.tup ((["a", "b", "c", "d"] : List Str).map V.str)) := upd_same
    have s04 := s04.trans sW
    have hy := hy.same sW
    generalize upd G4 W (.tup [.str "a", .str "b", .str "c", .str "d"]) = G5 at s04 hy hW
    clear sW nW ny
    refine ⟨W, rfl, ⟨_, st hW⟩, fun D nD => ?_⟩
    refine lc_it (walk_tup (K := K) (a := W) (xs := (["a", "b", "c", "d"] : List Str).map V.str)) (fun i G => Same G5 G ∧ ∃ xs, G D = some (.lst xs) ∧ A2 (CpV K CC G) xs ((["a", "b", "c", "d"] : List Str).take i |>.map frC)) ⟨same_new nD, [], upd_same, .nil⟩ (fun i G _ h => st (h.1 _ _ hW)) ?_ ?_
    · rintro i v G G' hi ⟨sG, xs, hDG, hxs⟩ ⟨rfl, hv⟩
      rw [List.getElem?_map] at hv
      obtain ⟨z, hz, rfl⟩ := Option.map_eq_some_iff.mp hv
      have lx := hxs.len
      rw [List.length_map, List.length_take] at lx
      have hyG := hy.same sG
      refine ⟨rfl, tyes ⟨_, rfl, y, frF, 1, rfl, hyG, ga_frF, by decide, fun c G6 s6 nc hc => ?_⟩⟩
      obtain ⟨dc, fc, hc0, noc⟩ := hc.no
      refine ⟨c, dc, _, rfl, hc0, noc (by decide +kernel), _, rfl, by show 1 ≤ sizeLine; decide, fun S nS => ?_⟩
      have sS := same_new nS (o := .tup [.str z])
      have hz4 := List.mem_of_getElem? hz
      refine ⟨c, 1, S, cpF frF, [z], rfl, hc.same sS, okCp_F (by decide) ga_frF, by decide +kernel, upd_same, w6_sub (fr_words z hz4), fun c2 G7 s7 nc2 hc2 => ?_⟩
      have s67 := s6.trans (sS.trans s7)
      have tu := TI.mut (s67 _ _ hDG) (u := .lst (xs ++ [.ref c2])) (fun _ z => by cases z) fun _ _ _ z => by cases z
      refine ⟨xs, s67 _ _ hDG, lt2 _ (by simp at lx; omega), (sG.trans s67).mut nD, _, upd_same, ?_⟩
      rw [List.take_add_one, hz, List.map_append]
      exact (hxs.imp fun _ _ h => CpV.ti h ((TI.same s67).trans tu)).app (.cons ⟨c2, rfl, hc2.ti tu⟩ .nil)
    rintro G6 ⟨s6, xs, hD, hxs⟩
    refine name_go' ?_
    dsimp only
    change A2 (CpV K CC G6) xs frS at hxs
    have s06 := s04.trans s6
    have hy := hy.same s6
    clear s6 hW
    -- calm and later
    refine ⟨_, rfl, y, frF, 1, rfl, hy, ga_frF, by decide, fun c G7 s7 nc hc => ?_⟩
    have hy := hy.same s7
    have s07 := s06.trans s7
    have hD := s7 _ _ hD
    have hxs := hxs.imp fun _ _ h => CpV.ti h (TI.same s7)
    obtain ⟨dy, tly, tgy, hy0, _⟩ := id hy
    refine ⟨_, rfl, y, dy, _, rfl, hy0, fl_no (by decide +kernel), by show 1 ≤ sizeLine; decide, fun N nN => ?_⟩
    have sN := same_new nN (o := .tup [.int 1])
    have nat : NumsAt (upd G7 N (.tup [.int 1])) N [1] := ⟨.inr upd_same, fun n hn => by rw [List.mem_singleton.mp hn]; decide, by decide⟩
    refine ⟨y, N, frF, [1], "a", rfl, hy.same sN, by decide, nat, by decide +kernel, ga_frF.g.wf.sg, by decide +kernel, (hT.ext s07).ext sN, fun l G8 e8 t8 hl => ?_⟩
    change FoAt C G8 l frL at hl
    have e78 := (LamX.ExtN.of sN).trans e8
    have hy := hy.ti (TI.en e78)
    have hc := hc.ti (TI.en e78)
    have hD := e78 _ _ hD fun _ z => by cases z
    have hxs := hxs.imp fun _ _ h => CpV.ti h (TI.en e78)
    have e08 := (LamX.ExtN.of s07).trans e78
    clear e78 nat nN sN nc s7 s07 s06 s04 e8 hy0
    refine ⟨_, _, rfl, ?_⟩
    dsimp only
    -- the rows
    have cut2 : ∀ ys : List V, cutV ys none (some 2) = ys.take 2 := fun ys => cut_take _ 2
    obtain ⟨x1, x2, x3, x4, rfl, h1, h2, h3, h4⟩ : ∃ x1 x2 x3 x4, xs = [x1, x2, x3, x4] ∧ CpV K CC G8 x1 (frC "a") ∧ CpV K CC G8 x2 (frC "b") ∧ CpV K CC G8 x3 (frC "c") ∧ CpV K CC G8 x4 (frC "d") := by
      cases hxs with | cons a r => cases r with | cons b r => cases r with | cons c r => cases r with | cons d r => cases r with | nil => exact ⟨_, _, _, _, rfl, a, b, c, d⟩
    have fs : FS K C CC G8 y D c l x1 x2 x3 x4 := ⟨hy, hl, ⟨c, rfl, hc⟩, hD, h1, h2, h3, h4⟩
    clear hy hl hc hD h1 h2 h3 h4 hxs
    refine ⟨fun σ G => ∃ (R : Addr) (vs : List V), σ = [some (.ref y), some (.ref D), some (.ref c), some (.ref l), some (.ref R), none, none, none, none] ∧ LamX.ExtN H G ∧ LamX.Tabs (T3 PA PT PS) G ∧ FS K C CC G y D c l x1 x2 x3 x4 ∧ G R = some (.lst vs) ∧ A2 (RowFr K C CC G) vs (frRows.take 2), ?_, ?_⟩
    · refine ⟨_, rfl, _, rfl, by show 7 ≤ sizeLine; decide, fun I1 nI1 => ⟨by show 3 ≤ sizeLine; decide, fun T1 nT1 => ?_⟩⟩
      have k1 := same_new nI1 (o := .tup [.int 0, .int 1, .int 2, .int 3, .int 0, .int 1, .int 2])
      have k2 := same_new nT1 (o := .tup [.ref D, .ref y, .ref I1])
      have fs2 := fs.same (k1.trans k2)
      refine ⟨_, rfl, ?_⟩
      dsimp only [tNoPart]
      refine ⟨_, rfl, D, _, rfl, sq fs2.D, fun B nB => ⟨_, rfl, _, rfl, by show 2 ≤ sizeLine; decide, fun L2 nL2 => ?_⟩⟩
      rw [cut2] at nL2 ⊢
      have k3 := same_new nB (o := .lst (([x1, x2, x3, x4] : List V).take 2))
      have k4 := same_new nL2 (o := .lst [.ref c, .ref c])
      refine ⟨B, L2, _, _, rfl, rfl, k4 _ _ upd_same, upd_same, by show 4 ≤ sizeLine; decide, fun M nM => ⟨_, rfl, by show 5 ≤ sizeLine; decide, fun I2 nI2 => ⟨by show 3 ≤ sizeLine; decide, fun T2 nT2 => ⟨by show 2 ≤ sizeLine; decide, fun R nR => ?_⟩⟩⟩⟩
      have k5 := same_new nM (o := .lst (([x1, x2, x3, x4] : List V).take 2 ++ [.ref c, .ref c]))
      have k6 := same_new nI2 (o := .tup [.int 0, .int 1, .int 0, .int 2, .int 3])
      have k7 := same_new nT2 (o := .tup [.ref M, .ref y, .ref I2])
      have k8 := same_new nR (o := .lst [.ref T1, .ref T2])
      have m3 := k3.trans (k4.trans (k5.trans (k6.trans (k7.trans k8))))
      have fs8 := fs2.same m3
      have eG := e08.trans (LamX.ExtN.of ((k1.trans k2).trans m3))
      refine ⟨R, _, rfl, eG, (t8.ext (k1.trans k2)).ext m3, fs8, upd_same, .cons ⟨T1, D, y, I1, _, rfl, m3 _ _ upd_same, fs8.D, ?_, fs8.y, (k2.trans m3) _ _ upd_same⟩ (.cons ⟨T2, M, y, I2, _, rfl, k8 _ _ upd_same, (k6.trans (k7.trans k8)) _ _ upd_same, ?_, fs8.y, (k7.trans k8) _ _ upd_same⟩ .nil)⟩
      · exact .cons fs8.h1 (.cons fs8.h2 (.cons fs8.h3 (.cons fs8.h4 .nil)))
      · exact .cons fs8.h1 (.cons fs8.h2 (.cons fs8.c (.cons fs8.c .nil)))
    rintro σ G ⟨R, vs, rfl, eG, tG, fs, hR, hvs⟩
    have lvs := hvs.len
    refine ⟨fun σ G => ∃ (R : Addr) (vs : List V), σ = [some (.ref y), some (.ref D), some (.ref c), some (.ref l), some (.ref R), none, none, none, none] ∧ LamX.ExtN H G ∧ LamX.Tabs (T3 PA PT PS) G ∧ FS K C CC G y D c l x1 x2 x3 x4 ∧ G R = some (.lst vs) ∧ A2 (RowFr K C CC G) vs (frRows.take 4), ?_, ?_⟩
    · refine ⟨_, rfl, _, rfl, _, rfl, D, _, 0, x1, rfl, rfl, sq fs.D, rfl, _, rfl, _, rfl, D, _, 1, x2, rfl, rfl, sq fs.D, rfl, by show 4 ≤ sizeLine; decide, fun L3 nL3 => ⟨_, rfl, by show 5 ≤ sizeLine; decide, fun I3 nI3 => ⟨by show 3 ≤ sizeLine; decide, fun T3' nT3 => ?_⟩⟩⟩
      have k1 := same_new nL3 (o := .lst [.ref c, x1, .ref c, x2])
      have k2 := same_new nI3 (o := .tup [.int 1, .int 3, .int 0, .int 1, .int 2])
      have k3 := same_new nT3 (o := .tup [.ref L3, .ref y, .ref I3])
      refine ⟨_, rfl, by show 1 ≤ sizeLine; decide, fun L4 nL4 => ⟨L4, 4, _, rfl, rfl, upd_same, by decide, by decide, by show 1 * 4 ≤ sizeLine; decide, fun M4 nM4 => ⟨_, rfl, Nat.zero_le _, fun I4 nI4 => ⟨by show 3 ≤ sizeLine; decide, fun T4 nT4 => ⟨by show 2 ≤ sizeLine; decide, fun LL nLL => ?_⟩⟩⟩⟩⟩
      have k4 := same_new nL4 (o := .lst [.ref c])
      have k5 := same_new nM4 (o := .lst (List.replicate (4 : Int).toNat [V.ref c]).flatten)
      have k6 := same_new nI4 (o := .tup [])
      have k7 := same_new nT4 (o := .tup [.ref M4, .ref y, .ref I4])
      have k8 := same_new nLL (o := .lst [.ref T3', .ref T4])
      have m4 := k4.trans (k5.trans (k6.trans (k7.trans k8)))
      have m1 := k1.trans (k2.trans (k3.trans m4))
      refine ⟨R, LL, vs, _, rfl, rfl, m1 _ _ hR, upd_same, by rw [lvs]; show 2 + 2 ≤ sizeLine; decide, fun R2 nR2 => ?_⟩
      have k9 := same_new nR2 (o := .lst (vs ++ [.ref T3', .ref T4]))
      have m9 := m1.trans k9
      have fs9 := fs.same m9
      refine ⟨R2, _, rfl, eG.trans (LamX.ExtN.of m9), tG.ext m9, fs9, upd_same, (hvs.imp fun _ _ h => h.ext (LamX.ExtN.of m9)).app (.cons ⟨T3', L3, y, I3, _, rfl, (m4.trans k9) _ _ upd_same, (k2.trans (k3.trans (m4.trans k9))) _ _ upd_same, ?_, fs9.y, (k3.trans (m4.trans k9)) _ _ upd_same⟩ (.cons ⟨T4, M4, y, I4, _, rfl, (k8.trans k9) _ _ upd_same, (k6.trans (k7.trans (k8.trans k9))) _ _ upd_same, ?_, fs9.y, (k7.trans (k8.trans k9)) _ _ upd_same⟩ .nil))⟩
      · exact .cons fs9.c (.cons fs9.h1 (.cons fs9.c (.cons fs9.h2 .nil)))
      · exact .cons fs9.c (.cons fs9.c (.cons fs9.c (.cons fs9.c .nil)))
    clear eG tG fs hR hvs lvs
    rintro σ G ⟨R, vs, rfl, eG, tG, fs, hR, hvs⟩
    have lvs := hvs.len
    refine ⟨fun σ G => ∃ (R : Addr) (vs : List V), σ = [some (.ref y), some (.ref D), some (.ref c), some (.ref l), some (.ref R), none, none, none, none] ∧ LamX.ExtN H G ∧ LamX.Tabs (T3 PA PT PS) G ∧ G R = some (.lst vs) ∧ A2 (RowFr K C CC G) vs frRows, ?_, ?_⟩
    · refine ⟨_, rfl, _, rfl, _, rfl, by show 6 ≤ sizeLine; decide, fun I5 nI5 => ⟨by show 3 ≤ sizeLine; decide, fun T5 nT5 => ?_⟩⟩
      have k1 := same_new nI5 (o := .tup [.int 1, .int 2, .int 3, .int 0, .int 1, .int 2])
      have k2 := same_new nT5 (o := .tup [.ref D, .ref l, .ref I5])
      have fs2 := fs.same (k1.trans k2)
      refine ⟨_, rfl, ?_⟩
      dsimp only [tNoPart]
      refine ⟨_, rfl, D, _, rfl, sq fs2.D, fun B nB => ?_⟩
      rw [show ∀ ys : List V, cutV ys none (some 3) = ys.take 3 from fun ys => cut_take ys 3]
      have k3 := same_new nB (o := .lst (([x1, x2, x3, x4] : List V).take 3))
      refine ⟨_, rfl, ?_⟩
      dsimp only [tNoPart]
      refine ⟨_, rfl, D, _, rfl, sq (k3 _ _ fs2.D), fun B' nB' => ?_⟩
      rw [show ∀ ys : List V, cutV ys none (some 1) = ys.take 1 from fun ys => cut_take ys 1]
      have k4 := same_new nB' (o := .lst (([x1, x2, x3, x4] : List V).take 1))
      refine ⟨B, B', _, _, rfl, rfl, k4 _ _ upd_same, upd_same, by show 4 ≤ sizeLine; decide, fun M nM => ⟨_, rfl, by show 6 ≤ sizeLine; decide, fun I6 nI6 => ⟨by show 3 ≤ sizeLine; decide, fun T6 nT6 => ⟨by show 2 ≤ sizeLine; decide, fun LL nLL => ?_⟩⟩⟩⟩
      have k5 := same_new nM (o := .lst (([x1, x2, x3, x4] : List V).take 3 ++ ([x1, x2, x3, x4] : List V).take 1))
      have k6 := same_new nI6 (o := .tup [.int 0, .int 1, .int 2, .int 0, .int 1, .int 3])
      have k7 := same_new nT6 (o := .tup [.ref M, .ref y, .ref I6])
      have k8 := same_new nLL (o := .lst [.ref T5, .ref T6])
      have m3 := k3.trans (k4.trans (k5.trans (k6.trans (k7.trans k8))))
      have m1 := k1.trans (k2.trans m3)
      refine ⟨R, LL, vs, _, rfl, rfl, m1 _ _ hR, upd_same, by rw [lvs]; show 4 + 2 ≤ sizeLine; decide, fun R2 nR2 => ?_⟩
      have k9 := same_new nR2 (o := .lst (vs ++ [.ref T5, .ref T6]))
      have m9 := m1.trans k9
      have fs9 := fs.same m9
      refine ⟨R2, _, rfl, eG.trans (LamX.ExtN.of m9), tG.ext m9, upd_same, (hvs.imp fun _ _ h => h.ext (LamX.ExtN.of m9)).app (.cons ⟨T5, D, l, I5, _, rfl, (m3.trans k9) _ _ upd_same, fs9.D, ?_, fs9.l, (k2.trans (m3.trans k9)) _ _ upd_same⟩ (.cons ⟨T6, M, y, I6, _, rfl, (k8.trans k9) _ _ upd_same, (k6.trans (k7.trans (k8.trans k9))) _ _ upd_same, ?_, fs9.y, (k7.trans (k8.trans k9)) _ _ upd_same⟩ .nil))⟩
      · exact .cons fs9.h1 (.cons fs9.h2 (.cons fs9.h3 (.cons fs9.h4 .nil)))
      · exact .cons fs9.h1 (.cons fs9.h2 (.cons fs9.h3 (.cons fs9.h1 .nil)))
    clear eG tG fs hR hvs lvs
    rintro σ G ⟨R, vs, rfl, eG, tG, hR, hvs⟩
    have lvs := hvs.len
    refine ⟨_, rfl, R, rfl, ⟨_, sq hR⟩, fun Z nZ => ?_⟩
    refine lc_it (walk_list (K := K) (a := R) (xs := vs)) (fun i J => LamX.ExtN G J ∧ LamX.Tabs (T3 PA PT PS) J ∧ J Z = some (.lst [])) ⟨LamX.ExtN.of (same_new nZ), tG.ext (same_new nZ), upd_same⟩ (fun i J _ h => sq (h.1 _ _ hR fun _ z => by cases z)) ?_ ?_
    · rintro i v J J' hi ⟨eJ, tJ, hZ⟩ ⟨rfl, hv⟩
      obtain ⟨r, hr', hrow⟩ := hvs.get hv
      have hm := List.mem_of_getElem? hr'
      obtain ⟨rg, l4⟩ := rg_fr r hm
      obtain ⟨T', L, qq, I, xs', rfl, g1, g2, g3, g4, g5⟩ := hrow.ext eJ
      refine ⟨T', _, rfl, st g1, rfl, _, _, rfl, _, _, rfl, _, _, rfl, rfl, rfl, ?_⟩
      refine ⟨_, rfl, _, rfl, L, qq, xs', r.1, r.2.1, 2, rfl, .inl g2, g3, by omega, g4, rg, by decide, tJ, fun rr row J2 e2 t2 h2 lst => ?_⟩
      have er := least_eq lst (fr_chk r hm)
      subst er
      have en : r.2.2.map natI = (r.2.2.map fun n : Nat => (n : Int)).map V.int := by rw [List.map_map]; rfl
      have g5 := e2 _ _ g5 fun _ z => by cases z
      rw [en] at h2 g5
      refine ⟨_, rfl, rr, I, _, rfl, rfl, h2, st g5, _, rfl, itbF rfl ⟨eJ.trans e2, t2, e2 _ _ hZ fun _ z => by cases z⟩⟩
    · rintro J ⟨eJ, tJ, hZ⟩
      refine ⟨Nat.zero_le _, fun E9 nE9 => ?_⟩
      have s9 := same_new nE9 (o := .lst [])
      exact ⟨Z, E9, [], rfl, rfl, s9 _ _ hZ, upd_same, q _ ((eG.trans eJ).trans (LamX.ExtN.of s9)) (tJ.ext s9)⟩
end
end K1


set_option Elab.async false
set_option linter.all false
set_option maxRecDepth 100000
set_option maxHeartbeats 8000000
namespace K1
open PySem PySem.Spec PyProof.Rows L2 RZ StX
abbrev sLaw : Stmt := st_law
abbrev nLaw : List Str := ["_law_script", "_law_k", "_law_source_here"]
abbrev pLaw : List Str := ["_law_script"]
theorem scLaw : FnScope nLaw pLaw (defScope sLaw) := ⟨rfl, rfl, rfl, by decide +kernel, rfl, by decide +kernel, by decide +kernel⟩
def spLaw (K : PySem.W.Frag) (PA PT PS : Addr) : Sp := fun vs H Q _ => ∃ (a : Addr) (xs : List Int), vs = [.ref a] ∧ SqL K H a (xs.map V.int) ∧ xs.length ≤ 63 ∧ LamX.Tabs (T3 PA PT PS) H ∧ ∀ H', Q (.bl true) H'
theorem sql_ext {K : PySem.W.Frag} {H H' : Hp} {a : Addr} {xs : List V} (h : SqL K H a xs) (s : LamX.ExtN H H') : SqL K H' a xs := by
  rcases h with (h | ⟨o, h⟩) | h
  · exact .inl (.inl (s _ _ h fun _ z => by cases z))
  · exact .inl (.inr ⟨o, s _ _ h fun _ z => by cases z⟩)
  · exact .inr h
theorem ENL.en' {p : Addr} {H H' G : Hp} (a : ENL p H' G) (s : Same H H') (n : H p = none) : LamX.ExtN H G := fun b o hb ht => a b o (fun z => by rw [z, n] at hb; cases hb) ht (s b o hb)
section
variable {P : Program} {w : World} {K : PySem.W.Frag} {mg : Str → Option Value} {base : Heap} {C CC PA PT PS : Addr}
theorem ok_law {f : Addr} {fd : FuncData} (T : Bk mg) (D_source : Def P w K mg base CX0 2 "_law_source" nCat (spSrc K)) (D_four : Def P w K mg base CX0 13 "_law_four_right" pFr (spFr PA PT PS)) (D_right : Def P w K mg base CX0 14 "_law_right" pRt (spRt PA PT PS)) (D_alike : Def P w K mg base CX0 13 "_law_alike_right" pAk (spAk PA PT PS))
    (F : Fun K "law" "law" sLaw f fd) : FnOk P w K mg base CX0 15 f fd pLaw (spLaw K PA PT PS) := by
  have nd := scLaw.nd
  refine F.ok scLaw (fun vs H Q E h => ?_) (fun cdv A outer s H vs Q E hr h => ?_)
  · obtain ⟨a, xs, rfl, _⟩ := h
    rfl
  · obtain ⟨a, xs, rfl, hS, hl, hT, q⟩ := h
    refine ⟨_, (pss_cons (ps_if (pt_not (pt_val (pe_def0 D_four (hr.mono (by decide)) rfl pass0)))
  pss_any
  pss_nil)
 (C8.pss_cut (ps_for PassesOwn.never rfl (pi_range1 rfl T.range (pa_cons (pe_callB (call_max2 rfl) (by rfl) T.max PyProof.Rows.boot_max (pa_cons pe_int (pa_cons (pe_callB (call_min2 rfl) (by rfl) T.min PyProof.Rows.boot_min (pa_cons pe_int (pa_cons (pe_callB (call_lenK (K := K) rfl) (by rfl) T.len PySem.boot_len (pa_cons (pv 0) pa_nil)) pa_nil))) pa_nil))) pa_nil)) (pg_name (i := 1) nd rfl (Or.inl rfl))
  (pss_cons (ps_set (i := 2) nd rfl (Or.inl rfl) (pe_def D_source (hr.mono (by decide)) rfl pass0 (pa_cons (pv 0) (pa_cons (pv 1) pa_nil))))
 (pss_one (ps_if (PW.pt (pw_or (pt_not (pt_val (pe_def D_right (hr.mono (by decide)) rfl pass0 (pa_cons (pv 2) (pa_cons (pe_ifExp (pt_cmpR op_eq (pv 1) pe_int (nomark _)) pe_int pe_int) pa_nil))))) (pw_or1 (pt_not (pt_val (pe_def D_alike (hr.mono (by decide)) rfl pass0 (pa_cons (pv 2) pa_nil)))))))
  pss_any
  pss_nil))))
 (pss_one (ps_ret pe_bl)))), ?_⟩
    refine ⟨rfl, hT, fun G0 e0 t0 => ⟨_, rfl, itbF rfl ?_⟩⟩
    have hS := sql_ext hS e0
    refine ⟨fun σ G => True, ?_, fun σ G _ => q _⟩
    refine ⟨_, rfl, a, _, rfl, .inl hS, 4, _, rfl, 1, _, rfl, _, rfl, ?_⟩
    generalize hn : (if (if ((xs.map V.int).length : Int) < 4 then ((xs.map V.int).length : Int) else 4) > 1 then (if ((xs.map V.int).length : Int) < 4 then ((xs.map V.int).length : Int) else 4) else 1) = n
    have hn5 : 1 ≤ n ∧ n ≤ 4 := by rw [← hn]; split <;> split <;> omega
    refine ⟨by omega, by omega, for_range (lo := 0) (n := n.toNat) (fun i σ G => ∃ v1 v2, σ = [some (.ref a), v1, v2] ∧ LamX.ExtN G0 G ∧ LamX.Tabs (T3 PA PT PS) G) ⟨none, none, rfl, LamX.ExtN.refl G0, t0⟩ ?_ fun _ _ _ => trivial⟩
    rintro i σ G hi ⟨v1, v2, rfl, eG, tG⟩
    refine ⟨_, rfl, _, rfl, a, xs, _, rfl, sql_ext hS eG, hl, by omega, by omega, fun W H4 nW s4 w4 => ?_⟩
    refine ⟨_, rfl, _, rfl, rfl, _, rfl, ?_⟩
    by_cases c : i = 0
    · refine itbT (decide_eq_true (by rw [c]; rfl)) ⟨W, 3, rfl, by decide, by decide, w4, tG.ext s4, fun G2 e2 w2 t2 => ⟨_, rfl, itbF rfl ⟨_, rfl, W, rfl, w2, t2, fun G3 e3 w3 t3 => ⟨_, rfl, itbF rfl ⟨_, _, rfl, eG.trans ((e2.trans e3).en' s4 nW), t3⟩⟩⟩⟩⟩
    · refine itbF (decide_eq_false fun e => c (by have := V.int.inj e; omega)) ⟨W, 2, rfl, by decide, by decide, w4, tG.ext s4, fun G2 e2 w2 t2 => ⟨_, rfl, itbF rfl ⟨_, rfl, W, rfl, w2, t2, fun G3 e3 w3 t3 => ⟨_, rfl, itbF rfl ⟨_, _, rfl, eG.trans ((e2.trans e3).en' s4 nW), t3⟩⟩⟩⟩⟩
end
end K1


set_option Elab.async false
set_option linter.all false
set_option maxRecDepth 100000
set_option maxHeartbeats 4000000
namespace K1
open PySem PySem.Spec PyProof.Rows L2 RZ StX
/-! ### the end -/
def AtM (K : PySem.W.Frag) (C : Addr) (m q : Str) (st : Stmt) : Prop := ∃ (f : Addr) (fd : FuncData), Meth K C m f ∧ Fun K m q st f fd
def AtMC (K : PySem.W.Frag) (C : Addr) (m q : Str) (st : Stmt) (c : Addr) : Prop := ∃ (f : Addr) (oc : Value) (od : Option Addr) (kV doc pm : Value) (an : Option Addr) (ct : Value) (osl : Array (Option Value)),
  Meth K C m f ∧ K.lookup f = some ⟨oc, od, .func (PySem.W.fnOf m q (defArgs st) (defBody st) (defScope st) .none kV doc pm an (.ref c) ct), osl⟩ ∧ PySem.W.codeIn K (.ref c) q = true
section
variable {K : PySem.W.Frag} {h : Heap} {mg : Str → Option Value}
theorem cs_mk {x : Str} {n : Int} {t : Tok} {v : Value} (X : K.In h) (G : h.Ns mainGlobals mg) (a : PySem.W.nsIn K mainGlobals x = some (some v)) (e : v = .int n t) : ∃ t, mg x = some (.int n t) := ⟨t, by rw [PySem.W.mg_of X G a, e]⟩
theorem at_mk {x : Str} {st : Stmt} {f : Addr} {oc : Value} {od an : Option Addr} {osl : Array (Option Value)} {kV doc pm cdv ct : Value} (X : K.In h) (G : h.Ns mainGlobals mg) (a : PySem.W.nsIn K mainGlobals x = some (some (.ref f)))
    (l : K.lookup f = some ⟨oc, od, .func (PySem.W.fnOf x x (defArgs st) (defBody st) (defScope st) .none kV doc pm an cdv ct), osl⟩) (c : PySem.W.codeIn K cdv x = true) (k : PySem.W.keepIn K (.ref f) = true) : At K mg x st :=
  ⟨f, _, PySem.W.mg_of X G a, fun_mk l c k⟩
theorem atM_mk {C : Addr} {m q : Str} {st : Stmt} {f : Addr} {oc : Value} {od an : Option Addr} {osl : Array (Option Value)} {kV doc pm cdv ct : Value} (a : PySem.W.findIn K (.ref C) m = some (some (.ref f))) (n : PySem.W.isFn K (.ref f) = true)
    (l : K.lookup f = some ⟨oc, od, .func (PySem.W.fnOf m q (defArgs st) (defBody st) (defScope st) .none kV doc pm an cdv ct), osl⟩) (c : PySem.W.codeIn K cdv q = true) (k : PySem.W.keepIn K (.ref f) = true) : AtM K C m q st :=
  ⟨f, _, ⟨a, n, k⟩, fun_mk l c k⟩
theorem atMC_mk {C : Addr} {m q : Str} {st : Stmt} {f co : Addr} {oc : Value} {od an : Option Addr} {osl : Array (Option Value)} {kV doc pm ct : Value} (a : PySem.W.findIn K (.ref C) m = some (some (.ref f))) (n : PySem.W.isFn K (.ref f) = true)
    (l : K.lookup f = some ⟨oc, od, .func (PySem.W.fnOf m q (defArgs st) (defBody st) (defScope st) .none kV doc pm an (.ref co) ct), osl⟩) (c : PySem.W.codeIn K (.ref co) q = true) (k : PySem.W.keepIn K (.ref f) = true) : AtMC K C m q st co :=
  ⟨f, oc, od, kV, doc, pm, an, ct, osl, ⟨a, n, k⟩, l, c⟩
theorem AtM.mdef {P : Program} {w : World} {base : Heap} {CX : CXT} {k : Nat} {C : Addr} {m q : Str} {ps : List Str} {sp : Sp} {st : Stmt} (a : AtM K C m q st)
    (hb : ∀ (kV doc pm : Value) (an : Option Addr) (cdv ct : Value) (us : List Value), us.length = ps.length → bindArgs (PySem.W.fnOf m q (defArgs st) (defBody st) (defScope st) .none kV doc pm an cdv ct) ⟨us, []⟩ = pure (ps.zip us))
    (ok : ∀ (f : Addr) (fd : FuncData), Fun K m q st f fd → FnOk P w K mg base CX k f fd ps sp) : MDef P w K mg base CX k C m ps sp := by
  obtain ⟨f, fd, hm, F⟩ := a
  refine ⟨f, fd, hm, ?_, ok f fd F⟩
  obtain ⟨oc, od, kV, doc, pm, an, cdv, ct, osl, rfl, lk, hcd⟩ := F.ex
  exact F.binds hb
theorem AtMC.mdef {P : Program} {w : World} {base : Heap} {CX : CXT} {k : Nat} {C c : Addr} {m q : Str} {ps : List Str} {sp : Sp} {st : Stmt} (a : AtMC K C m q st c)
    (hb : ∀ (kV doc pm : Value) (an : Option Addr) (cdv ct : Value) (us : List Value), us.length = ps.length → bindArgs (PySem.W.fnOf m q (defArgs st) (defBody st) (defScope st) .none kV doc pm an cdv ct) ⟨us, []⟩ = pure (ps.zip us))
    (ok : ∀ {f : Addr} {oc : Value} {od : Option Addr} {kV doc pm : Value} {an : Option Addr} {ct : Value} {osl : Array (Option Value)}, K.lookup f = some ⟨oc, od, .func (PySem.W.fnOf m q (defArgs st) (defBody st) (defScope st) .none kV doc pm an (.ref c) ct), osl⟩ → PySem.W.codeIn K (.ref c) q = true → FnOk P w K mg base CX k f (PySem.W.fnOf m q (defArgs st) (defBody st) (defScope st) .none kV doc pm an (.ref c) ct) ps sp) : MDef P w K mg base CX k C m ps sp := by
  obtain ⟨f, oc, od, kV, doc, pm, an, ct, osl, hm, lk, hcd⟩ := a
  have F : Fun K m q st f _ := ⟨⟨oc, od, kV, doc, pm, an, .ref c, ct, osl, rfl, lk, hcd⟩, hm.kp⟩
  exact ⟨f, _, hm, F.binds hb, ok lk hcd⟩
end
def AtQ (K : PySem.W.Frag) (mg : Str → Option Value) (x q : Str) (st : Stmt) : Prop := ∃ (f : Addr) (fd : FuncData), mg x = some (.ref f) ∧ Fun K q q st f fd
theorem AtQ.def {P : Program} {w : World} {K : PySem.W.Frag} {mg : Str → Option Value} {base : Heap} {CX : CXT} {k : Nat} {x q : Str} {ps : List Str} {sp : Sp} {st : Stmt} (a : AtQ K mg x q st)
    (hb : ∀ (kV doc pm : Value) (an : Option Addr) (cdv ct : Value) (us : List Value), us.length = ps.length → bindArgs (PySem.W.fnOf q q (defArgs st) (defBody st) (defScope st) .none kV doc pm an cdv ct) ⟨us, []⟩ = pure (ps.zip us))
    (h : ∀ f fd, Fun K q q st f fd → FnOk P w K mg base CX k f fd ps sp) : Def P w K mg base CX k x ps sp := by
  obtain ⟨f, fd, hm, F⟩ := a
  exact ⟨f, fd, hm, F.kp, F.binds hb, h f fd F⟩
theorem atQ_mk {K : PySem.W.Frag} {h : Heap} {mg : Str → Option Value} {x q : Str} {st : Stmt} {f : Addr} {oc : Value} {od an : Option Addr} {osl : Array (Option Value)} {kV doc pm cdv ct : Value} (X : K.In h) (G : h.Ns mainGlobals mg) (a : PySem.W.nsIn K mainGlobals x = some (some (.ref f)))
    (l : K.lookup f = some ⟨oc, od, .func (PySem.W.fnOf q q (defArgs st) (defBody st) (defScope st) .none kV doc pm an cdv ct), osl⟩) (c : PySem.W.codeIn K cdv q = true) (k : PySem.W.keepIn K (.ref f) = true) : AtQ K mg x q st :=
  ⟨f, _, PySem.W.mg_of X G a, fun_mk l c k⟩
def AtC (K : PySem.W.Frag) (mg : Str → Option Value) (x : Str) (st : Stmt) (c : Addr) : Prop := ∃ (f : Addr) (oc : Value) (od : Option Addr) (kV doc pm : Value) (an : Option Addr) (ct : Value) (osl : Array (Option Value)),
  mg x = some (.ref f) ∧ PySem.W.keepIn K (.ref f) = true ∧ K.lookup f = some ⟨oc, od, .func (PySem.W.fnOf x x (defArgs st) (defBody st) (defScope st) .none kV doc pm an (.ref c) ct), osl⟩ ∧ PySem.W.codeIn K (.ref c) x = true
theorem atC_mk {K : PySem.W.Frag} {h : Heap} {mg : Str → Option Value} {x : Str} {st : Stmt} {f co : Addr} {oc : Value} {od an : Option Addr} {osl : Array (Option Value)} {kV doc pm ct : Value} (X : K.In h) (G : h.Ns mainGlobals mg) (a : PySem.W.nsIn K mainGlobals x = some (some (.ref f)))
    (l : K.lookup f = some ⟨oc, od, .func (PySem.W.fnOf x x (defArgs st) (defBody st) (defScope st) .none kV doc pm an (.ref co) ct), osl⟩) (c : PySem.W.codeIn K (.ref co) x = true) (k : PySem.W.keepIn K (.ref f) = true) : AtC K mg x st co :=
  ⟨f, oc, od, kV, doc, pm, an, ct, osl, PySem.W.mg_of X G a, k, l, c⟩
def CiF (K : PySem.W.Frag) (CC E0' : Addr) : Prop := ∃ (f : Addr) (fd : FuncData), L2.Mk K CC f ∧ FunD K "__init__" "Copy.__init__" (defArgs sCI) (defBody sCI) (defScope sCI) [.ref E0'] [] f fd
def CeF (K : PySem.W.Frag) (CC : Addr) : Prop := (∃ (f : Addr) (fd : FuncData), PySem.W.findIn K (.ref CC) "__eq__" = some (some (.ref f)) ∧ PySem.W.isFn K (.ref f) = true ∧ Fun K "__eq__" "Copy.__eq__" sCE f fd) ∧ PySem.W.findIn K (.ref CC) "__ne__" = some (some (.builtin "object.__ne__")) ∧ PySem.W.mroIn K CC (.type "object") = some true
theorem kemp_mk {K : PySem.W.Frag} {a : Addr} {od : Option Addr} {n : Nat} {sl : Array (Option Value)} (h : K.lookup a = some ⟨.type "tuple", od, .seq #[] n, sl⟩) : KEmp K a := ⟨_, n, h, rfl, rfl⟩
theorem ci_mk {K : PySem.W.Frag} {f CC tp E0' : Addr} {oc oc2 : Value} {od od2 an : Option Addr} {osl sl2 : Array (Option Value)} {kV doc pm cdv ct : Value} {n : Nat} (mk : L2.Mk K CC f)
    (l : K.lookup f = some ⟨oc, od, .func (PySem.W.fnOf "__init__" "Copy.__init__" (defArgs sCI) (defBody sCI) (defScope sCI) (.ref tp) kV doc pm an cdv ct), osl⟩) (lT : K.lookup tp = some ⟨oc2, od2, .seq #[.ref E0'] n, sl2⟩) (c : PySem.W.codeIn K cdv "Copy.__init__" = true) (k : PySem.W.keepIn K (.ref f) = true) : CiF K CC E0' :=
  ⟨f, _, mk, ⟨_, _, _, _, _, _, _, _, _, _, rfl, l, c, .inr ⟨by simp, tp, _, [.ref E0'], n, rfl, lT, rfl, .cons rfl .nil⟩, .inl rfl⟩, k⟩
theorem ce_mk {K : PySem.W.Frag} {f CC : Addr} {oc : Value} {od an : Option Addr} {osl : Array (Option Value)} {kV doc pm cdv ct : Value} (a : PySem.W.findIn K (.ref CC) "__eq__" = some (some (.ref f))) (n : PySem.W.isFn K (.ref f) = true)
    (l : K.lookup f = some ⟨oc, od, .func (PySem.W.fnOf "__eq__" "Copy.__eq__" (defArgs sCE) (defBody sCE) (defScope sCE) .none kV doc pm an cdv ct), osl⟩) (c : PySem.W.codeIn K cdv "Copy.__eq__" = true) (k : PySem.W.keepIn K (.ref f) = true)
    (ne : PySem.W.findIn K (.ref CC) "__ne__" = some (some (.builtin "object.__ne__"))) (ob : PySem.W.mroIn K CC (.type "object") = some true) : CeF K CC := ⟨⟨f, _, a, n, fun_mk l c k⟩, ne, ob⟩
theorem all_mk {l : PySem.W.OpenLaw} {w : World} {K : PySem.W.Frag} {h : Heap} {mg : Str → Option Value} {fa f E0' CC C fI c0 P0 c1 P1 c2 P2 c3 P3 : Addr} {oc kV dc pm cdv ct oI kI dI pI cI tI : Value} {od an oD aI : Option Addr} {sl sI : Array (Option Value)} (X : K.In h) (G : h.Ns mainGlobals mg) (hfa : mg "law" = some (.ref fa))
    (T : Bk mg) (Co : Cs mg) (Co4 : Cs4' mg) (t : ClT K mg C) (iC : C8.InsC K C) (mk : L2.Mk K C fI)
    (eP : P3 = PM) (nAny : mg "any" = none)
    (tc : CcT K mg CC) (iC2 : C8.InsC K CC) (kE : KEmp K E0') (ci : CiF K CC E0') (ce : CeF K CC)
    (q0 : AtM K CC "age" "Copy.age" sCAge)
    (q1 : AtM K CC "letters" "Copy.letters" sCLet)
    (q2 : AtM K CC "made" "Copy.made" sCMade)
    (q3 : AtM K CC "_check_number" "Copy._check_number" sCCk)
    (q4 : AtM K CC "_with_wanted" "Copy._with_wanted" sCWW)
    (q5 : AtM K CC "wanting" "Copy.wanting" sCWt)
    (q6 : AtM K CC "dropping" "Copy.dropping" sCDr)
    (q7 : AtM K CC "making" "Copy.making" sCMk)
    (lI : K.lookup fI = some ⟨oI, oD, .func (PySem.W.fnOf "__init__" "Folder.__init__" (defArgs sInit) (defBody sInit) (defScope sInit) .none kI dI pI aI cI tI), sI⟩) (gI : PySem.W.codeIn K cI "Folder.__init__" = true) (hI : PySem.W.keepIn K (.ref fI) = true)
    (a0 : At K mg "is_integer" sIsInt)
    (a1 : At K mg "is_number" sIsNum)
    (a2 : At K mg "is_body" sIsBody)
    (a3 : At K mg "is_mark" sIsMark)
    (a4 : At K mg "is_sign" sIsSign)
    (a5 : At K mg "is_signs" sIsSigns)
    (a6 : At K mg "is_numbers" sIsNums)
    (a7 : At K mg "is_ascending" sIsAsc)
    (a8 : At K mg "_check_numbers" sCkNums)
    (a9 : At K mg "_with_sign" sWith)
    (a10 : At K mg "_without_sign" sWout)
    (a11 : At K mg "is_deed" sIsDeed)
    (a12 : At K mg "can_be_done" sCan)
    (a13 : At K mg "done" sDone)
    (a14 : At K mg "played" sPlayed)
    (a15 : At K mg "_are_letters" sAl)
    (a16 : At K mg "_are_made" sAm)
    (a17 : At K mg "_check_folder" sCf)
    (a18 : At K mg "copy_of" sCo)
    (a19 : At K mg "_law_cell_at" sCat)
    (a20 : At K mg "_law_mixed" sMix)
    (a21 : At K mg "_law_source" sSrc)
    (a22 : At K mg "_law_next" sNx)
    (a23 : At K mg "_law_one" sOne)
    (a24 : At K mg "_law_signs" sSg)
    (a25 : At K mg "_law_deed" sDe)
    (a26 : At K mg "_law_folder" sLf)
    (a27 : At K mg "_check_copy" sKc)
    (a28 : At K mg "_check_copies" sKs)
    (a29 : At K mg "_sent" sSe)
    (a30 : At K mg "stepped" sStp)
    (a31 : At K mg "run" sRun)
    (a32 : At K mg "_law_offline" sOff)
    (a33 : At K mg "_law_copies" sCps)
    (a34 : At K mg "_law_first" sFi)
    (a35 : At K mg "_law_right" sRt)
    (a36 : At K mg "_law_alike_right" sAk)
    (a37 : At K mg "_law_four_right" sFr)
    (m0 : AtM K C "letters" "Folder.letters" sLetters)
    (m1 : AtM K C "mark" "Folder.mark" sMark)
    (m2 : AtM K C "age" "Folder.age" sAge)
    (m3 : AtM K C "appended" "Folder.appended" sApp)
    (m4 : AtM K C "_copied" "Folder._copied" sCopied)
    (m5 : AtM K C "removed" "Folder.removed" sRem)
    (m6 : AtM K C "trimmed" "Folder.trimmed" sTrim)
    (m7 : AtM K C "_signed" "Folder._signed" sSig)
    (b0 : AtMC K C "added" "Folder.added" sAdd c0)
    (b1 : AtMC K C "taken" "Folder.taken" sTake c1)
    (b2 : AtMC K C "set_to" "Folder.set_to" sSet c2)
    (g0 : AtC K mg "least_row" sLr c3)
    (aL : PySem.W.nsIn K mainGlobals "law" = some (some (.ref f))) (lL : K.lookup f = some ⟨oc, od, .func (PySem.W.fnOf "law" "law" (defArgs sLaw) (defBody sLaw) (defScope sLaw) .none kV dc pm an cdv ct), sl⟩) (cL' : PySem.W.codeIn K cdv "law" = true) (kL : PySem.W.keepIn K (.ref f) = true)
    (hP : ∀ p ∈ ([(c0, P0), (c1, P1), (c2, P2), (c3, P3)] : List (Addr × Addr)), h.get? p.2 = some { cls := .none, data := .fields #[] }) (nP : ∀ p ∈ ([(c0, P0), (c1, P1), (c2, P2), (c3, P3)] : List (Addr × Addr)), K.lookup p.2 = none) (hC : ∀ p ∈ ([(c0, P0), (c1, P1), (c2, P2), (c3, P3)] : List (Addr × Addr)), PySem.W.CodeHd h p.1 p.2) (ap : Ap P0 P1 P2) :
    LamX.LawAtS l w K CX0 15 63 "_law_script" mg fa h := by
  have e := hfa.symm.trans (PySem.W.mg_of X G aL)
  cases e
  refine ⟨PySem.W.fnOf "law" "law" (defArgs sLaw) (defBody sLaw) (defScope sLaw) .none kV dc pm an cdv ct, [(c0, P0), (c1, P1), (c2, P2), (c3, P3)], spLaw K P0 P1 P2, hP, nP, hC, fun s u => .of_eq rfl,
    fun H a ns hl _ hH hS => ⟨a, ns, rfl, hS, hl, fun p hp => ?_, fun _ => rfl⟩, fun base hb _ hTB => ?_⟩
  · simp only [T3, List.mem_cons, List.not_mem_nil, or_false] at hp
    rcases hp with rfl | rfl | rfl | rfl
    · exact LamX.TabS.nil (hH (c0, P0) (by simp))
    · exact LamX.TabS.nil (hH (c1, P1) (by simp))
    · exact LamX.TabS.nil (hH (c2, P2) (by simp))
    · exact eP ▸ LamX.TabS.nil (hH (c3, P3) (by simp))
  have TS0 := hTB (c0, P0) (by simp)
  have TS1 := hTB (c1, P1) (by simp)
  have TS2 := hTB (c2, P2) (by simp)
  have TS3 := hTB (c3, P3) (by simp)
  have d_is_integer : Def l.prog w K mg base CX0 1 "is_integer" pV spInt := a0.def (fun _ _ _ _ _ _ us hl => match us, hl with | [_], _ => rfl) fun f fd F => ok_isInt T F
  have d_is_number : Def l.prog w K mg base CX0 2 "is_number" pV spNum := a1.def (fun _ _ _ _ _ _ us hl => match us, hl with | [_], _ => rfl) fun f fd F => ok_isNum d_is_integer F
  have d_is_body : Def l.prog w K mg base CX0 2 "is_body" pV spBody := a2.def (fun _ _ _ _ _ _ us hl => match us, hl with | [_], _ => rfl) fun f fd F => ok_isBody d_is_integer F
  have d_is_mark : Def l.prog w K mg base CX0 2 "is_mark" pV spBody := a3.def (fun _ _ _ _ _ _ us hl => match us, hl with | [_], _ => rfl) fun f fd F => ok_isMark d_is_integer F
  have d_is_sign : Def l.prog w K mg base CX0 1 "is_sign" pV spSign := a4.def (fun _ _ _ _ _ _ us hl => match us, hl with | [_], _ => rfl) fun f fd F => ok_isSign T Co F
  have d_is_signs : Def l.prog w K mg base CX0 2 "is_signs" pV spSigns := a5.def (fun _ _ _ _ _ _ us hl => match us, hl with | [_], _ => rfl) fun f fd F => ok_isSigns T Co d_is_sign F
  have d_is_numbers : Def l.prog w K mg base CX0 3 "is_numbers" pV spNums := a6.def (fun _ _ _ _ _ _ us hl => match us, hl with | [_], _ => rfl) fun f fd F => ok_isNums T d_is_number F
  have d_is_ascending : Def l.prog w K mg base CX0 1 "is_ascending" pIsAsc spIsAsc := a7.def (fun _ _ _ _ _ _ us hl => match us, hl with | [_], _ => rfl) fun f fd F => ok_isAsc T F
  have d_check_numbers : Def l.prog w K mg base CX0 4 "_check_numbers" nCkNums spCkNums := a8.def (fun _ _ _ _ _ _ us hl => match us, hl with | [_], _ => rfl) fun f fd F => ok_ckNums d_is_numbers F
  have d_with_sign : Def l.prog w K mg base CX0 1 "_with_sign" nWith spWith := a9.def (fun _ _ _ _ _ _ us hl => match us, hl with | [_, _], _ => rfl) fun f fd F => ok_with T Co F
  have d_without_sign : Def l.prog w K mg base CX0 1 "_without_sign" nWith spWout := a10.def (fun _ _ _ _ _ _ us hl => match us, hl with | [_, _], _ => rfl) fun f fd F => ok_wout T F
  have dNew : MkD l.prog w K mg base C := by
    have F : Fun K "__init__" "Folder.__init__" sInit fI _ := fun_mk lI gI hI
    exact ⟨fI, _, mk, F.binds (fun _ _ _ _ _ _ us hl => match us, hl with | [_, _], _ => rfl), ok_init t d_is_number F⟩
  have m_letters : MDef l.prog w K mg base CX0 1 C "letters" nSelf (spLetters C) := m0.mdef (fun _ _ _ _ _ _ us hl => match us, hl with | [_], _ => rfl) fun f fd F => ok_letters T t F
  have m_mark : MDef l.prog w K mg base CX0 1 C "mark" nSelf (spMark C) := m1.mdef (fun _ _ _ _ _ _ us hl => match us, hl with | [_], _ => rfl) fun f fd F => ok_mark t F
  have m_age : MDef l.prog w K mg base CX0 1 C "age" nSelf (spAge C) := m2.mdef (fun _ _ _ _ _ _ us hl => match us, hl with | [_], _ => rfl) fun f fd F => ok_age t F
  have m_copied : MDef l.prog w K mg base CX0 5 C "_copied" nSelf (spCopied C) := m4.mdef (fun _ _ _ _ _ _ us hl => match us, hl with | [_], _ => rfl) fun f fd F => ok_copied t dNew F
  have m_appended : MDef l.prog w K mg base CX0 6 C "appended" pApp (spApp C) := m3.mdef (fun _ _ _ _ _ _ us hl => match us, hl with | [_, _, _], _ => rfl) fun f fd F => ok_app t d_is_body d_is_signs m_copied F
  have m_removed : MDef l.prog w K mg base CX0 6 C "removed" pRem (spRem C) := m5.mdef (fun _ _ _ _ _ _ us hl => match us, hl with | [_, _], _ => rfl) fun f fd F => ok_rem T t d_check_numbers m_copied F
  have m_trimmed : MDef l.prog w K mg base CX0 6 C "trimmed" pTrim (spTrim C) := m6.mdef (fun _ _ _ _ _ _ us hl => match us, hl with | [_, _], _ => rfl) fun f fd F => ok_trim T t d_is_mark m_copied F
  have DS : SgD K C := ⟨m7⟩
  have m_added : MDef l.prog w K mg base CX0 8 C "added" nAdd (spSgn C P0 P1 P2 (fun z ss => wG ss z)) := b0.mdef (fun _ _ _ _ _ _ us hl => match us, hl with | [_, _, _], _ => rfl) fun lk hcd => ok_add T t ap DS TS0 d_check_numbers d_is_sign d_with_sign m_copied lk hcd
  have m_taken : MDef l.prog w K mg base CX0 8 C "taken" nAdd (spSgn C P0 P1 P2 (fun z ss => nS ss z)) := b1.mdef (fun _ _ _ _ _ _ us hl => match us, hl with | [_, _, _], _ => rfl) fun lk hcd => ok_take T t ap DS TS1 d_check_numbers d_is_sign d_without_sign m_copied lk hcd
  have m_set_to : MDef l.prog w K mg base CX0 8 C "set_to" nSet (spSet C P0 P1 P2) := b2.mdef (fun _ _ _ _ _ _ us hl => match us, hl with | [_, _, _], _ => rfl) fun lk hcd => ok_set T t ap DS TS2 d_check_numbers d_is_signs m_copied lk hcd
  have d_is_deed : Def l.prog w K mg base CX0 4 "is_deed" pV spIsDeed := a11.def (fun _ _ _ _ _ _ us hl => match us, hl with | [_], _ => rfl) fun f fd F => ok_isDeed T d_is_body d_is_sign d_is_signs d_is_numbers d_is_mark F
  have d_can_be_done : Def l.prog w K mg base CX0 5 "can_be_done" nCan (spCan C) := a12.def (fun _ _ _ _ _ _ us hl => match us, hl with | [_, _], _ => rfl) fun f fd F => ok_can t m_mark d_is_deed F
  have d_done : Def l.prog w K mg base CX0 9 "done" pDone (spDone C P0 P1 P2) := a13.def (fun _ _ _ _ _ _ us hl => match us, hl with | [_, _], _ => rfl) fun f fd F => ok_done t m_appended m_added m_taken m_set_to m_removed m_trimmed F
  have d_played : Def l.prog w K mg base CX0 10 "played" pPlayed (spPlayed C P0 P1 P2) := a14.def (fun _ _ _ _ _ _ us hl => match us, hl with | [_, _], _ => rfl) fun f fd F => ok_played T t iC d_can_be_done d_done F
  have d_are_letters : Def l.prog w K mg base CX0 3 "_are_letters" pV (spAl K) := a15.def (fun _ _ _ _ _ _ us hl => match us, hl with | [_], _ => rfl) fun f fd F => ok_al T d_is_number d_is_body d_is_signs d_is_ascending F
  have d_are_made : Def l.prog w K mg base CX0 3 "_are_made" pV (spAm K) := a16.def (fun _ _ _ _ _ _ us hl => match us, hl with | [_], _ => rfl) fun f fd F => ok_am T d_is_body d_is_signs F
  have d_check_folder : Def l.prog w K mg base CX0 1 "_check_folder" pCo (spCf C) := a17.def (fun _ _ _ _ _ _ us hl => match us, hl with | [_], _ => rfl) fun f fd F => ok_cf T t iC F
  have cNew : MkCc l.prog w K mg base CC E0' := by
    obtain ⟨f, fd, hm, F⟩ := ci
    obtain ⟨d0, v0, b0⟩ := F.binds1 (ps := nCI) 5 1 (by simp) rfl (fun T kV doc pm an cdv ct us its hl hl2 => match us, its, hl, hl2 with | [_, _, _, _, _], [_], _, _ => ⟨_, rfl, rfl⟩)
    obtain ⟨d1, v1, b1⟩ := F.binds1 (ps := nCI) 4 0 (by simp) rfl (fun T kV doc pm an cdv ct us its hl hl2 => match us, its, hl, hl2 with | [_, _, _, _], [_], _, _ => ⟨_, rfl, rfl⟩)
    have e : d0 = [] := by
      cases v0; rfl
    rw [e] at b0
    exact ⟨⟨f, fd, d1, hm, b0, b1, v1, ok_ci T tc d_is_number d_is_mark d_are_letters d_are_made F⟩, kE⟩
  have EM : EqM l.prog w K mg base 1 CC (CpEq K CC) := by
    obtain ⟨⟨f, fd, h1, h2, F⟩, h3, h4⟩ := ce
    exact ⟨⟨f, fd, nCE, ok_ce T tc iC2 F, h1, h2, F.binds (fun _ _ _ _ _ _ us hl => match us, hl with | [_, _], _ => rfl)⟩, h3, h4⟩
  have n_age : MDef l.prog w K mg base CX0 1 CC "age" nSelf (spCAge K CC) := q0.mdef (fun _ _ _ _ _ _ us hl => match us, hl with | [_], _ => rfl) fun f fd F => ok_cage tc F
  have n_letters : MDef l.prog w K mg base CX0 1 CC "letters" nSelf (spCLet K CC) := q1.mdef (fun _ _ _ _ _ _ us hl => match us, hl with | [_], _ => rfl) fun f fd F => ok_clet T tc F
  have n_made : MDef l.prog w K mg base CX0 1 CC "made" nSelf (spCMade K CC) := q2.mdef (fun _ _ _ _ _ _ us hl => match us, hl with | [_], _ => rfl) fun f fd F => ok_cmade T tc F
  have n_check_number : MDef l.prog w K mg base CX0 3 CC "_check_number" nCDr (spCk K CC) := q3.mdef (fun _ _ _ _ _ _ us hl => match us, hl with | [_, _], _ => rfl) fun f fd F => ok_ck tc d_is_number F
  have n_with_wanted : MDef l.prog w K mg base CX0 6 CC "_with_wanted" pCWW (spWW K CC) := q4.mdef (fun _ _ _ _ _ _ us hl => match us, hl with | [_, _, _], _ => rfl) fun f fd F => ok_ww T tc cNew F
  have n_wanting : MDef l.prog w K mg base CX0 7 CC "wanting" nCWt (spWt K CC) := q5.mdef (fun _ _ _ _ _ _ us hl => match us, hl with | [_, _, _], _ => rfl) fun f fd F => ok_wt tc n_check_number d_is_signs n_with_wanted F
  have n_dropping : MDef l.prog w K mg base CX0 7 CC "dropping" nCDr (spDr K CC) := q6.mdef (fun _ _ _ _ _ _ us hl => match us, hl with | [_, _], _ => rfl) fun f fd F => ok_dr tc n_check_number n_with_wanted F
  have n_making : MDef l.prog w K mg base CX0 6 CC "making" nCMk (spMkg K CC) := q7.mdef (fun _ _ _ _ _ _ us hl => match us, hl with | [_, _, _], _ => rfl) fun f fd F => ok_mkg tc cNew d_is_body d_is_signs F
  have d_copy_of : Def l.prog w K mg base CX0 6 "copy_of" pCo (spCo K C CC) := a18.def (fun _ _ _ _ _ _ us hl => match us, hl with | [_], _ => rfl) fun f fd F => ok_co T t tc cNew d_check_folder m_letters m_age m_mark F
  have d_law_cell_at : Def l.prog w K mg base CX0 1 "_law_cell_at" nCat (spCat K) := a19.def (fun _ _ _ _ _ _ us hl => match us, hl with | [_, _], _ => rfl) fun f fd F => ok_cat T.toBi F
  have d_law_mixed : Def l.prog w K mg base CX0 1 "_law_mixed" pMix spMix := a20.def (fun _ _ _ _ _ _ us hl => match us, hl with | [_, _], _ => rfl) fun f fd F => ok_mix T.toBi F
  have d_law_source : Def l.prog w K mg base CX0 2 "_law_source" nCat (spSrc K) := a21.def (fun _ _ _ _ _ _ us hl => match us, hl with | [_, _], _ => rfl) fun f fd F => ok_src T.toBi d_law_cell_at d_law_mixed F
  have d_law_next : Def l.prog w K mg base CX0 2 "_law_next" pNx spNx := a22.def (fun _ _ _ _ _ _ us hl => match us, hl with | [_, _], _ => rfl) fun f fd F => ok_nx T.toBi d_law_mixed F
  have d_law_one : Def l.prog w K mg base CX0 3 "_law_one" nOne spOneS := a23.def (fun _ _ _ _ _ _ us hl => match us, hl with | [_, _], _ => rfl) fun f fd F => ok_oneS T.toBi d_law_next F
  have d_law_signs : Def l.prog w K mg base CX0 3 "_law_signs" pSg spSg4 := a24.def (fun _ _ _ _ _ _ us hl => match us, hl with | [_, _], _ => rfl) fun f fd F => ok_sg T d_law_next F
  have d_law_deed : Def l.prog w K mg base CX0 4 "_law_deed" pDe spDe := a25.def (fun _ _ _ _ _ _ us hl => match us, hl with | [_, _], _ => rfl) fun f fd F => ok_de T d_law_next d_law_one d_law_signs F
  have d_law_folder : Def l.prog w K mg base CX0 11 "_law_folder" pLf (spLf C P0 P1 P2) := a26.def (fun _ _ _ _ _ _ us hl => match us, hl with | [_, _], _ => rfl) fun f fd F => ok_lf T t dNew d_law_next d_law_signs d_law_deed m_appended d_played F
  have d_check_copy : Def l.prog w K mg base CX0 1 "_check_copy" pKc (spKc K CC) := a27.def (fun _ _ _ _ _ _ us hl => match us, hl with | [_], _ => rfl) fun f fd F => ok_kc T tc iC2 F
  have d_check_copies : Def l.prog w K mg base CX0 2 "_check_copies" pKs (spKs K CC) := a28.def (fun _ _ _ _ _ _ us hl => match us, hl with | [_, _], _ => rfl) fun f fd F => ok_ks T d_check_copy F
  have d_sent : Def l.prog w K mg base CX0 2 "_sent" pSe (spSe K C CC) := a29.def (fun _ _ _ _ _ _ us hl => match us, hl with | [_, _], _ => rfl) fun f fd F => ok_se T t tc n_age n_letters n_made m_age m_letters F
  have d_stepped : Def l.prog w K mg base CX0 11 "stepped" pStp (spStp K C CC P0 P1 P2) := a30.def (fun _ _ _ _ _ _ us hl => match us, hl with | [_, _], _ => rfl) fun f fd F => ok_stp T t tc n_age n_letters m_age m_letters d_check_copy d_check_folder d_sent d_played d_copy_of F
  have d_run : Def l.prog w K mg base CX0 12 "run" pRun (spRun K C CC P0 P1 P2) := a31.def (fun _ _ _ _ _ _ us hl => match us, hl with | [_, _, _], _ => rfl) fun f fd F => ok_run T Co4 d_check_copies d_check_folder d_is_integer d_stepped F
  have d_least_row : Def l.prog w K mg base CX0 12 "least_row" pLr (spLr K C CC P0 P1 P2) := by
    obtain ⟨f, oc, od, kV, doc, pm, an, ct, osl, hm, hk, lk, hcd⟩ := g0
    have F : Fun K "least_row" "least_row" sLr f _ := ⟨⟨oc, od, kV, doc, pm, an, .ref c3, ct, osl, rfl, lk, hcd⟩, hk⟩
    exact ⟨f, _, hm, hk, F.binds (fun _ _ _ _ _ _ us hl => match us, hl with | [_, _], _ => rfl), ok_lr T Co4 T.min nAny ap (eP ▸ TS3) EM d_check_copies d_check_folder d_sent d_copy_of d_stepped lk hcd⟩
  have d_law_offline : Def l.prog w K mg base CX0 8 "_law_offline" pOff (spOff K CC) := a32.def (fun _ _ _ _ _ _ us hl => match us, hl with | [_, _, _], _ => rfl) fun f fd F => ok_off T tc n_letters n_wanting n_dropping d_law_next d_law_one d_law_signs F
  have d_law_copies : Def l.prog w K mg base CX0 11 "_law_copies" pCps (spCps K C CC P0 P1 P2) := a33.def (fun _ _ _ _ _ _ us hl => match us, hl with | [_, _, _], _ => rfl) fun f fd F => ok_cps T d_law_next d_law_offline d_copy_of d_law_deed d_played F
  have d_law_first : Def l.prog w K mg base CX0 13 "_law_first" pFi (spFi K C CC P0 P1 P2) := a34.def (fun _ _ _ _ _ _ us hl => match us, hl with | [_, _], _ => rfl) fun f fd F => ok_fi T EM d_copy_of d_run F
  have d_law_right : Def l.prog w K mg base CX0 14 "_law_right" pRt (spRt P0 P1 P2) := a35.def (fun _ _ _ _ _ _ us hl => match us, hl with | [_, _], _ => rfl) fun f fd F => ok_rt T tc n_making d_law_next d_law_folder d_law_copies d_least_row d_law_first F
  have d_law_alike_right : Def l.prog w K mg base CX0 13 "_law_alike_right" pAk (spAk P0 P1 P2) := a36.def (fun _ _ _ _ _ _ us hl => match us, hl with | [_], _ => rfl) fun f fd F => ok_ak T t tc dNew m_appended n_wanting n_dropping d_law_next d_copy_of d_least_row F
  have d_law_four_right : Def l.prog w K mg base CX0 13 "_law_four_right" pFr (spFr P0 P1 P2) := a37.def (fun _ _ _ _ _ _ us hl => match us, hl with | [], _ => rfl) fun f fd F => ok_fr T t tc dNew m_appended m_added n_wanting d_copy_of d_least_row F
  exact ok_law T d_law_source d_law_four_right d_law_right d_law_alike_right (fun_mk lL cL' kL)

theorem walk_tops {l : PySem.W.OpenLaw} {n k : Nat} {q : Program} {loose : List Str} {XP : (Str → Option Value) → Heap → Prop} {YP : World → Heap → Prop} {d : DefRec} {K : Params → PySem.W.Frag} {x : Str}
    (hn : l.most = some n) (hn2 : n ≤ sizeLine) (hdf : d.params.defaults = []) (hr : Room k callerA) (hY : ∀ (w : World) (h : Heap), YP w h → (K w.params).In h)
    (F : ∀ (w : World) (s : Shared) (mg mb : Str → Option Value) (fa : Addr) (h : Heap), (K w.params).In h → YP w h → PyProof.Rows.Top q (PySem.W.looseW q loose) (ExcName.means s.heap) mg mb h → mg d.name = some (.ref fa) → LamX.LawAtS l w (K w.params) CX0 k n x mg fa h) :
    PySem.W.WalkO q loose XP YP l.row.toRowW d [] (fun f vs => PySem.call f vs) := by
  refine Att.attach_callB hn hdf fun w s0 s1 mg mb fa o pm cd doc a vs ns G Y ho hd hcd hmg hobj hints hlen hbits hg => ?_
  have KX := hY w _ Y
  obtain ⟨fd, cs, sp, hT, nT, C, hb, hsp, hF⟩ := F w s0 mg mb fa _ KX Y G.T hmg
  exact LamX.law_callTs KX G.T.g G.T.b G.T.builtins G.T.nolimit hg hT nT C G.T.bmain hobj hints (Nat.le_trans hlen hn2) hr hF hb (fun H hH hS => hsp H a ns hlen hbits hH hS) fun _ _ _ z => z
end K1


open PySem PySem.W PyProof.Rows
set_option Elab.async false
set_option linter.all false
set_option maxRecDepth 100000 in
set_option maxHeartbeats 0 in
theorem PySem.Challenge.cw_mailtide_k36_whole_least_rows_holds : PySem.Challenge.rw_mailtide_k36_whole_least_rows.Holds := by
  w_on; o_law; k_head; (case hw => w_witness2)
  k_fill
  refine K1.walk_tops (l := PySem.Challenge.rw_mailtide_k36_whole_least_rows) (n := 63) (k := 15) (x := "_law_script") rfl (by decide) rfl ⟨rfl, by decide, by decide⟩ (fun w h Y => PySem.W.km_in_of Y) ?F
  intro w s mg mb fa h KX Y G hmg
  have hTab := PySem.W.km_tabs_of Y
  have hL0 := PySem.W.tab_of (x := PySem.Str.ofString "least_row") (c := 512) (P := 510) G KX rfl (by kernel_rfl)
  refine' K1.all_mk (c0 := 307) (P0 := 303) (c1 := 314) (P1 := 310) (c2 := 321) (P2 := 317) (c3 := 512) (P3 := 510) KX G.g hmg ?T ?Co ?Co4 ?t ?iC ?mk ?eP ?nAny ?tc ?iC2 ?kE ?ci ?ce ?q0 ?q1 ?q2 ?q3 ?q4 ?q5 ?q6 ?q7 ?lI ?gI ?hI ?a0 ?a1 ?a2 ?a3 ?a4 ?a5 ?a6 ?a7 ?a8 ?a9 ?a10 ?a11 ?a12 ?a13 ?a14 ?a15 ?a16 ?a17 ?a18 ?a19 ?a20 ?a21 ?a22 ?a23 ?a24 ?a25 ?a26 ?a27 ?a28 ?a29 ?a30 ?a31 ?a32 ?a33 ?a34 ?a35 ?a36 ?a37 ?m0 ?m1 ?m2 ?m3 ?m4 ?m5 ?m6 ?m7 ?b0 ?b1 ?b2 ?lmb0 ?aL ?lL ?cL ?kL (List.forall_mem_cons.mpr ⟨hTab _ (by simp), (List.forall_mem_cons.mpr ⟨hTab _ (by simp), (List.forall_mem_cons.mpr ⟨hTab _ (by simp), (List.forall_mem_cons.mpr ⟨hL0.2, fun _ z => nomatch z⟩)⟩)⟩)⟩) (List.forall_mem_cons.mpr ⟨?n0N, (List.forall_mem_cons.mpr ⟨?n1N, (List.forall_mem_cons.mpr ⟨?n2N, (List.forall_mem_cons.mpr ⟨?n3N, fun _ z => nomatch z⟩)⟩)⟩)⟩) (List.forall_mem_cons.mpr ⟨PySem.W.codeHd_of_K KX ?h0H, (List.forall_mem_cons.mpr ⟨PySem.W.codeHd_of_K KX ?h1H, (List.forall_mem_cons.mpr ⟨PySem.W.codeHd_of_K KX ?h2H, (List.forall_mem_cons.mpr ⟨hL0.1, fun _ z => nomatch z⟩)⟩)⟩)⟩) ⟨by decide, by decide, by decide, by decide, by decide, by decide⟩
  case T =>
    refine' ⟨⟨⟨PySem.W.mg_none_of KX G.g ?z0, PySem.W.mg_none_of KX G.g ?z1, PySem.W.mg_none_of KX G.g ?z2, PySem.W.mg_none_of KX G.g ?z3, PySem.W.mg_none_of KX G.g ?z4, PySem.W.mg_none_of KX G.g ?z5, PySem.W.mg_none_of KX G.g ?z6, PySem.W.mg_none_of KX G.g ?z7, PySem.W.mg_none_of KX G.g ?z8, PySem.W.mg_none_of KX G.g ?z9, PySem.W.mg_none_of KX G.g ?z10, PySem.W.mg_none_of KX G.g ?z11⟩, PySem.W.mg_none_of KX G.g ?z12, PySem.W.mg_none_of KX G.g ?z13⟩, PySem.W.mg_none_of KX G.g ?z14, PySem.W.mg_none_of KX G.g ?z15⟩
    (case z0 => k_is); (case z1 => k_is); (case z2 => k_is); (case z3 => k_is); (case z4 => k_is); (case z5 => k_is); (case z6 => k_is); (case z7 => k_is); (case z8 => k_is); (case z9 => k_is); (case z10 => k_is); (case z11 => k_is); (case z12 => k_is); (case z13 => k_is); (case z14 => k_is); (case z15 => k_is)
  case Co =>
    refine' ⟨K1.cs_mk KX G.g ?v0 ?w0, K1.cs_mk KX G.g ?v1 ?w1⟩
    (case v0 => k_is); (case w0 => rfl); (case v1 => k_is); (case w1 => rfl)
  case Co4 =>
    refine' ⟨K1.cs_mk KX G.g ?v0 ?w0⟩
    (case v0 => k_is); (case w0 => rfl)
  case t =>
    refine' ⟨⟨?c0, ?c1, ?c2, ?c3⟩, PySem.W.mg_of KX G.g ?c4, ?n0, ?n1, ?n2, ?n3, ?n4, ?n5⟩
    (case c4 => k_is); (case c0 => k_is); (case c1 => k_is); (case c2 => k_is); (case c3 => k_is)
    (case n0 => show PySem.W.findIn _ _ _ = some none; k_is); (case n1 => show PySem.W.findIn _ _ _ = some none; k_is); (case n2 => show PySem.W.findIn _ _ _ = some none; k_is); (case n3 => show PySem.W.findIn _ _ _ = some none; k_is); (case n4 => show PySem.W.findIn _ _ _ = some none; k_is); (case n5 => show PySem.W.findIn _ _ _ = some none; k_is)
  case iC =>
    refine' ⟨⟨?c0, ?c1, ?c2, ?c3⟩, ?d0, ?d1, ?d2, ?d3, ?d4⟩
    (case c0 => k_is); (case c1 => k_is); (case c2 => k_is); (case c3 => k_is)
    (case d0 => k_is); (case d1 => k_is); (case d2 => k_is); (case d3 => k_is); (case d4 => first | k_is | rfl | kernel_rfl)
  case mk =>
    refine' ⟨?e0, ?e1, ?e2, ?e3⟩
    (case e0 => k_is); (case e1 => k_is); (case e2 => k_is); (case e3 => k_is)
  (case lI => k_is); (case gI => k_is); (case hI => k_is)
  case eP => rfl
  case nAny =>
    refine' PySem.W.mg_none_of KX G.g ?z0
    (case z0 => k_is)
  case tc =>
    refine' ⟨⟨?c0, ?c1, ?c2, ?c3⟩, PySem.W.mg_of KX G.g ?c4, ?n0, ?n1, ?n2, ?n3⟩
    (case c4 => k_is); (case c0 => k_is); (case c1 => k_is); (case c2 => k_is); (case c3 => k_is)
    (case n0 => show PySem.W.findIn _ _ _ = some none; k_is); (case n1 => show PySem.W.findIn _ _ _ = some none; k_is); (case n2 => show PySem.W.findIn _ _ _ = some none; k_is); (case n3 => show PySem.W.findIn _ _ _ = some none; k_is)
  case iC2 =>
    refine' ⟨⟨?c0, ?c1, ?c2, ?c3⟩, ?d0, ?d1, ?d2, ?d3, ?d4⟩
    (case c0 => k_is); (case c1 => k_is); (case c2 => k_is); (case c3 => k_is)
    (case d0 => k_is); (case d1 => k_is); (case d2 => k_is); (case d3 => k_is); (case d4 => first | k_is | rfl | kernel_rfl)
  case ci =>
    refine' K1.ci_mk ⟨?e0, ?e1, ?e2, ?e3⟩ ?l ?lT ?c ?k
    (case e0 => k_is); (case e1 => k_is); (case e2 => k_is); (case e3 => k_is)
    (case l => k_is); (case lT => k_is); (case c => k_is); (case k => k_is)
  case kE =>
    refine' K1.kemp_mk ?x0
    (case x0 => k_is)
  case ce =>
    refine' K1.ce_mk ?b ?n ?l ?c ?k ?ne ?ob
    (case b => k_is); (case n => k_is); (case l => k_is); (case c => k_is); (case k => k_is); (case ne => k_is); (case ob => k_is)
  case q0 =>
    refine' K1.atM_mk ?b ?n ?l ?c ?k
    (case b => k_is); (case n => k_is); (case l => k_is); (case c => k_is); (case k => k_is)
  case q1 =>
    refine' K1.atM_mk ?b ?n ?l ?c ?k
    (case b => k_is); (case n => k_is); (case l => k_is); (case c => k_is); (case k => k_is)
  case q2 =>
    refine' K1.atM_mk ?b ?n ?l ?c ?k
    (case b => k_is); (case n => k_is); (case l => k_is); (case c => k_is); (case k => k_is)
  case q3 =>
    refine' K1.atM_mk ?b ?n ?l ?c ?k
    (case b => k_is); (case n => k_is); (case l => k_is); (case c => k_is); (case k => k_is)
  case q4 =>
    refine' K1.atM_mk ?b ?n ?l ?c ?k
    (case b => k_is); (case n => k_is); (case l => k_is); (case c => k_is); (case k => k_is)
  case q5 =>
    refine' K1.atM_mk ?b ?n ?l ?c ?k
    (case b => k_is); (case n => k_is); (case l => k_is); (case c => k_is); (case k => k_is)
  case q6 =>
    refine' K1.atM_mk ?b ?n ?l ?c ?k
    (case b => k_is); (case n => k_is); (case l => k_is); (case c => k_is); (case k => k_is)
  case q7 =>
    refine' K1.atM_mk ?b ?n ?l ?c ?k
    (case b => k_is); (case n => k_is); (case l => k_is); (case c => k_is); (case k => k_is)
  case a0 =>
    refine' K1.at_mk KX G.g ?b ?l ?c ?k
    (case b => k_is); (case l => k_is); (case c => k_is); (case k => k_is)
  case a1 =>
    refine' K1.at_mk KX G.g ?b ?l ?c ?k
    (case b => k_is); (case l => k_is); (case c => k_is); (case k => k_is)
  case a2 =>
    refine' K1.at_mk KX G.g ?b ?l ?c ?k
    (case b => k_is); (case l => k_is); (case c => k_is); (case k => k_is)
  case a3 =>
    refine' K1.at_mk KX G.g ?b ?l ?c ?k
    (case b => k_is); (case l => k_is); (case c => k_is); (case k => k_is)
  case a4 =>
    refine' K1.at_mk KX G.g ?b ?l ?c ?k
    (case b => k_is); (case l => k_is); (case c => k_is); (case k => k_is)
  case a5 =>
    refine' K1.at_mk KX G.g ?b ?l ?c ?k
    (case b => k_is); (case l => k_is); (case c => k_is); (case k => k_is)
  case a6 =>
    refine' K1.at_mk KX G.g ?b ?l ?c ?k
    (case b => k_is); (case l => k_is); (case c => k_is); (case k => k_is)
  case a7 =>
    refine' K1.at_mk KX G.g ?b ?l ?c ?k
    (case b => k_is); (case l => k_is); (case c => k_is); (case k => k_is)
  case a8 =>
    refine' K1.at_mk KX G.g ?b ?l ?c ?k
    (case b => k_is); (case l => k_is); (case c => k_is); (case k => k_is)
  case a9 =>
    refine' K1.at_mk KX G.g ?b ?l ?c ?k
    (case b => k_is); (case l => k_is); (case c => k_is); (case k => k_is)
  case a10 =>
    refine' K1.at_mk KX G.g ?b ?l ?c ?k
    (case b => k_is); (case l => k_is); (case c => k_is); (case k => k_is)
  case a11 =>
    refine' K1.at_mk KX G.g ?b ?l ?c ?k
    (case b => k_is); (case l => k_is); (case c => k_is); (case k => k_is)
  case a12 =>
    refine' K1.at_mk KX G.g ?b ?l ?c ?k
    (case b => k_is); (case l => k_is); (case c => k_is); (case k => k_is)
  case a13 =>
    refine' K1.at_mk KX G.g ?b ?l ?c ?k
    (case b => k_is); (case l => k_is); (case c => k_is); (case k => k_is)
  case a14 =>
    refine' K1.at_mk KX G.g ?b ?l ?c ?k
    (case b => k_is); (case l => k_is); (case c => k_is); (case k => k_is)
  case a15 =>
    refine' K1.at_mk KX G.g ?b ?l ?c ?k
    (case b => k_is); (case l => k_is); (case c => k_is); (case k => k_is)
  case a16 =>
    refine' K1.at_mk KX G.g ?b ?l ?c ?k
    (case b => k_is); (case l => k_is); (case c => k_is); (case k => k_is)
  case a17 =>
    refine' K1.at_mk KX G.g ?b ?l ?c ?k
    (case b => k_is); (case l => k_is); (case c => k_is); (case k => k_is)
  case a18 =>
    refine' K1.at_mk KX G.g ?b ?l ?c ?k
    (case b => k_is); (case l => k_is); (case c => k_is); (case k => k_is)
  case a19 =>
    refine' K1.at_mk KX G.g ?b ?l ?c ?k
    (case b => k_is); (case l => k_is); (case c => k_is); (case k => k_is)
  case a20 =>
    refine' K1.at_mk KX G.g ?b ?l ?c ?k
    (case b => k_is); (case l => k_is); (case c => k_is); (case k => k_is)
  case a21 =>
    refine' K1.at_mk KX G.g ?b ?l ?c ?k
    (case b => k_is); (case l => k_is); (case c => k_is); (case k => k_is)
  case a22 =>
    refine' K1.at_mk KX G.g ?b ?l ?c ?k
    (case b => k_is); (case l => k_is); (case c => k_is); (case k => k_is)
  case a23 =>
    refine' K1.at_mk KX G.g ?b ?l ?c ?k
    (case b => k_is); (case l => k_is); (case c => k_is); (case k => k_is)
  case a24 =>
    refine' K1.at_mk KX G.g ?b ?l ?c ?k
    (case b => k_is); (case l => k_is); (case c => k_is); (case k => k_is)
  case a25 =>
    refine' K1.at_mk KX G.g ?b ?l ?c ?k
    (case b => k_is); (case l => k_is); (case c => k_is); (case k => k_is)
  case a26 =>
    refine' K1.at_mk KX G.g ?b ?l ?c ?k
    (case b => k_is); (case l => k_is); (case c => k_is); (case k => k_is)
  case a27 =>
    refine' K1.at_mk KX G.g ?b ?l ?c ?k
    (case b => k_is); (case l => k_is); (case c => k_is); (case k => k_is)
  case a28 =>
    refine' K1.at_mk KX G.g ?b ?l ?c ?k
    (case b => k_is); (case l => k_is); (case c => k_is); (case k => k_is)
  case a29 =>
    refine' K1.at_mk KX G.g ?b ?l ?c ?k
    (case b => k_is); (case l => k_is); (case c => k_is); (case k => k_is)
  case a30 =>
    refine' K1.at_mk KX G.g ?b ?l ?c ?k
    (case b => k_is); (case l => k_is); (case c => k_is); (case k => k_is)
  case a31 =>
    refine' K1.at_mk KX G.g ?b ?l ?c ?k
    (case b => k_is); (case l => k_is); (case c => k_is); (case k => k_is)
  case a32 =>
    refine' K1.at_mk KX G.g ?b ?l ?c ?k
    (case b => k_is); (case l => k_is); (case c => k_is); (case k => k_is)
  case a33 =>
    refine' K1.at_mk KX G.g ?b ?l ?c ?k
    (case b => k_is); (case l => k_is); (case c => k_is); (case k => k_is)
  case a34 =>
    refine' K1.at_mk KX G.g ?b ?l ?c ?k
    (case b => k_is); (case l => k_is); (case c => k_is); (case k => k_is)
  case a35 =>
    refine' K1.at_mk KX G.g ?b ?l ?c ?k
    (case b => k_is); (case l => k_is); (case c => k_is); (case k => k_is)
  case a36 =>
    refine' K1.at_mk KX G.g ?b ?l ?c ?k
    (case b => k_is); (case l => k_is); (case c => k_is); (case k => k_is)
  case a37 =>
    refine' K1.at_mk KX G.g ?b ?l ?c ?k
    (case b => k_is); (case l => k_is); (case c => k_is); (case k => k_is)
  case m0 =>
    refine' K1.atM_mk ?b ?n ?l ?c ?k
    (case b => k_is); (case n => k_is); (case l => k_is); (case c => k_is); (case k => k_is)
  case m1 =>
    refine' K1.atM_mk ?b ?n ?l ?c ?k
    (case b => k_is); (case n => k_is); (case l => k_is); (case c => k_is); (case k => k_is)
  case m2 =>
    refine' K1.atM_mk ?b ?n ?l ?c ?k
    (case b => k_is); (case n => k_is); (case l => k_is); (case c => k_is); (case k => k_is)
  case m3 =>
    refine' K1.atM_mk ?b ?n ?l ?c ?k
    (case b => k_is); (case n => k_is); (case l => k_is); (case c => k_is); (case k => k_is)
  case m4 =>
    refine' K1.atM_mk ?b ?n ?l ?c ?k
    (case b => k_is); (case n => k_is); (case l => k_is); (case c => k_is); (case k => k_is)
  case m5 =>
    refine' K1.atM_mk ?b ?n ?l ?c ?k
    (case b => k_is); (case n => k_is); (case l => k_is); (case c => k_is); (case k => k_is)
  case m6 =>
    refine' K1.atM_mk ?b ?n ?l ?c ?k
    (case b => k_is); (case n => k_is); (case l => k_is); (case c => k_is); (case k => k_is)
  case m7 =>
    refine' K1.atM_mk ?b ?n ?l ?c ?k
    (case b => k_is); (case n => k_is); (case l => k_is); (case c => k_is); (case k => k_is)
  case b0 =>
    refine' K1.atMC_mk ?b ?n ?l ?c ?k
    (case b => k_is); (case n => k_is); (case l => k_is); (case c => k_is); (case k => k_is)
  case b1 =>
    refine' K1.atMC_mk ?b ?n ?l ?c ?k
    (case b => k_is); (case n => k_is); (case l => k_is); (case c => k_is); (case k => k_is)
  case b2 =>
    refine' K1.atMC_mk ?b ?n ?l ?c ?k
    (case b => k_is); (case n => k_is); (case l => k_is); (case c => k_is); (case k => k_is)
  case lmb0 =>
    refine' K1.atC_mk KX G.g ?b ?l ?c ?k
    (case b => k_is); (case l => k_is); (case c => k_is); (case k => k_is)
  (case aL => k_is); (case lL => k_is); (case cL => k_is); (case kL => k_is)
  (case n0N => first | kernel_rfl | rfl)
  (case n1N => first | kernel_rfl | rfl)
  (case n2N => first | kernel_rfl | rfl)
  (case n3N => first | kernel_rfl | rfl)
  (case h0H => first | kernel_rfl | rfl)
  (case h1H => first | kernel_rfl | rfl)
  (case h2H => first | kernel_rfl | rfl)

