import PyProof.Rows.All
import Wide.All
import OpenK.AllK
import Wide.FinOn
import PySem.Challenge.RW_mailtide_k29_whole_rows_that_mean_letter
import HandS.ForMost
import HandS.Exc
import HandS.TryOnly
import HandS.TryMany
import HandS.Lambda
import HandS.EndTab
import HandS.IsInst
import HandS.SortRule
import HandS.SortInts
import HandS.StrMore
import HandS.Conv
import HandS.Wide
import HandS.Flow
import HandS.Walk
import HandS.TupAny
import HandS.ListEq
import HandS.DeepEq
import KE.KExcSuper
import KE.GoesMore
import PyProof.Draws
import HandS.ForExc
import HandS.Zip
import KE.KDictKeyed
import HandS.Dict
import HandS.More
import KE.SortData
import HandS.TupSets
import HandS.Strs
import HandS.SetFor
import HandS.Small
import HandS.Deep
import PyProof.ZipIter
import PyProof.CallType
import PyProof.Walk
import PyProof.WalkLemmas
import PyProof.RangeIter
import PyProof.RulesTry
import HandS.Set
import HandS.ClsMeth
import HandS.DictComp
set_option Elab.async false
set_option linter.all false
set_option maxRecDepth 100000
namespace K1
open PySem PySem.Spec PyProof.Rows L2
def topS (i : Nat) : Stmt := PySem.Challenge.pw_mailtide_k29_whole_rows_that_mean_letter.main.body.getD i (.Pass ⟨0, 0, 0, 0⟩)
abbrev st_TideError : Stmt := topS 2
abbrev st_BadNumber : Stmt := topS 3
abbrev st_BadRow : Stmt := topS 4
abbrev st_BadValue : Stmt := topS 5
abbrev st_is_integer : Stmt := topS 7
abbrev st_is_number : Stmt := topS 8
abbrev st_is_numbers : Stmt := topS 9
abbrev st_is_ascending : Stmt := topS 10
abbrev st_played : Stmt := topS 15
abbrev st_doubt : Stmt := topS 16
abbrev st_turned : Stmt := topS 17
abbrev st_by_number : Stmt := topS 18
abbrev st_Listed : Stmt := topS 19
abbrev st__found : Stmt := topS 20
abbrev st__found_by_letters : Stmt := topS 21
abbrev st__turned : Stmt := topS 22
abbrev st__fates : Stmt := topS 23
abbrev st__check : Stmt := topS 24
abbrev st__check_number : Stmt := topS 25
abbrev st__check_row : Stmt := topS 26
abbrev st__check_others : Stmt := topS 27
abbrev st__is_command : Stmt := topS 28
abbrev st__is_fate : Stmt := topS 29
abbrev st__law_cell_at : Stmt := topS 31
abbrev st__law_well : Stmt := topS 32
abbrev st__law_draw : Stmt := topS 33
abbrev st__law_one : Stmt := topS 34
abbrev st__law_wishes : Stmt := topS 35
abbrev st__law_place : Stmt := topS 36
abbrev st__law_fates : Stmt := topS 37
abbrev st__law_turned : Stmt := topS 38
abbrev st__law_by_number : Stmt := topS 39
abbrev st_law : Stmt := topS 40
end K1


set_option Elab.async false
set_option linter.all false
set_option maxRecDepth 100000
set_option maxHeartbeats 4000000
namespace K1
open PySem PySem.Spec PyProof.Rows L2
/-! ### a def by its name -/
structure Def (P : Program) (w : World) (K : PySem.W.Frag) (mg : Str → Option Value) (base : Heap) (CX : CXT) (k : Nat) (x : Str) (ps : List Str) (sp : Sp) : Prop where
  ex : ∃ (f : Addr) (fd : FuncData), mg x = some (.ref f) ∧ PySem.W.keepIn K (.ref f) = true ∧ Binds K fd ps [] ∧ FnOk P w K mg base CX k f fd ps sp
section
variable {X : Cx} {CX : CXT} {k : Nat} {ps : List Str} {sp : Sp} {E : XK} {x : Str} {p pos : Pos} {e : Expr} {es : List Expr} {t : TA}
theorem pe_def (D : Def X.prog X.w X.K X.mg X.base CX k x ps sp) (hr : Room k X.A) (hg : Gl X x) (hx : Passes CX X E)
    (ha : PA X (e :: es) t) (hdb : (x == ("__debug__" : Str)) = false := by decide) (he : starEach (e :: es) X.env = (false, eval e X.env) :: starEach es X.env := by rfl) (hpl : (backTo pos (starEach es X.env)).any (·.1) = false := by rfl) :
    PE X (.Call (.Name x p) (e :: es) [] pos) (tCall sp [] E t) := by
  obtain ⟨f, fd, hm, hk, hb, F⟩ := D.ex
  exact pe_call F hr hg hm hk hb .nil hx ha hdb he hpl
theorem pe_def0 (D : Def X.prog X.w X.K X.mg X.base CX k x ps sp) (hr : Room k X.A) (hg : Gl X x) (hx : Passes CX X E)
    (hdb : (x == ("__debug__" : Str)) = false := by decide) : PE X (.Call (.Name x p) [] [] pos) (tCall sp [] E tNil) := by
  obtain ⟨f, fd, hm, hk, hb, F⟩ := D.ex
  exact pe_call0 F hr hg hm hk hb .nil hx hdb
end
/-! ### heaps: all that is tracked but p stays -/
def Ext (p : Addr) (H H' : Hp) : Prop := ∀ b o, b ≠ p → H b = some o → H' b = some o
theorem Ext.refl {p : Addr} (H : Hp) : Ext p H H := fun _ _ _ h => h
theorem Ext.trans {p : Addr} {H H1 H2 : Hp} (a : Ext p H H1) (b : Ext p H1 H2) : Ext p H H2 := fun c o n h => b c o n (a c o n h)
theorem Ext.self {p : Addr} {H H' : Hp} {o : HO} (a : Ext p H H') : Ext p H (upd H' p o) := fun c u n h => by rw [upd_ne n]; exact a c u n h
theorem Ext.new {p q : Addr} {H H' : Hp} {o : HO} (a : Ext p H H') (h : H' q = none) : Ext p H (upd H' q o) := fun c u n e => by
  have e' := a c u n e
  rw [upd_ne (ne_of_none e' h)]; exact e'
theorem Ext.mut {p q : Addr} {H H' : Hp} {o : HO} (a : Ext p H H') (h : H q = none) : Ext p H (upd H' q o) := fun c u n e => by
  rw [upd_ne (ne_of_none e h)]; exact a c u n e
theorem Ext.free {p q : Addr} {H H' : Hp} (a : Ext p H H') (h : H' q = none) (n : q ≠ p) : H q = none := by
  cases e : H q with
  | none => rfl
  | some o => rw [a q o n e] at h; cases h
theorem same_ext {p : Addr} {H H' : Hp} (a : Same H H') : Ext p H H' := fun b o _ h => a b o h
theorem same_new {q : Addr} {H : Hp} {o : HO} (h : H q = none) : Same H (upd H q o) := fun c u e => by
  rw [upd_ne (ne_of_none e h)]; exact e
theorem _root_.L2.Same.new {q : Addr} {H H' : Hp} {o : HO} (a : Same H H') (h : H' q = none) : Same H (upd H' q o) := a.trans (same_new h)
theorem _root_.L2.Same.mut {q : Addr} {H H' : Hp} {o : HO} (a : Same H H') (h : H q = none) : Same H (upd H' q o) := fun c u e => by
  rw [upd_ne (ne_of_none e h)]; exact a c u e
theorem lt1 (n : Nat) (h : n ≤ 100000) : n ≤ sizeLine := Nat.le_trans h (by decide)
theorem lt2 (n : Nat) (h : n ≤ 100000) : n < sizeLine := Nat.lt_of_le_of_lt h (by decide)
/-- a well: three ints -/
def WellAt (H : Hp) (p : Addr) : Prop := ∃ c m t : Int, H p = some (.lst [.int c, .int m, .int t])
theorem WellAt.new {H : Hp} {p q : Addr} {o : HO} (w : WellAt H p) (h : H q = none) : WellAt (upd H q o) p := by
  obtain ⟨c, m, t, e⟩ := w
  exact ⟨c, m, t, by rw [upd_ne (ne_of_none e h)]; exact e⟩
theorem WellAt.ne {H : Hp} {p q : Addr} (w : WellAt H p) (h : H q = none) : q ≠ p := by
  obtain ⟨c, m, t, e⟩ := w
  exact (ne_of_none e h).symm
theorem WellAt.upd {H : Hp} {p q : Addr} {o : HO} (w : WellAt H p) (h : q ≠ p) : WellAt (upd H q o) p := by
  obtain ⟨c, m, t, e⟩ := w
  exact ⟨c, m, t, by rw [upd_ne h.symm]; exact e⟩
theorem sq {K : PySem.W.Frag} {H : Hp} {a : Addr} {xs : List V} (h : H a = some (.lst xs)) : SqL K H a xs := .inl (.inl h)
theorem st {K : PySem.W.Frag} {H : Hp} {a : Addr} {xs : List V} (h : H a = some (.tup xs)) : SqT K H a xs := .inl (.inl h)
/-- names that the top leaves to the built-ins -/
structure Bi (mg : Str → Option Value) : Prop where
  int : mg "int" = none
  len : mg "len" = none
  str : mg "str" = none
  range : mg "range" = none
  max : mg "max" = none
  min : mg "min" = none
  sorted : mg "sorted" = none
  tuple : mg "tuple" = none
  list : mg "list" = none
  enumerate : mg "enumerate" = none
  isinstance : mg "isinstance" = none
  bool : mg "bool" = none
end K1
namespace K1
open PySem PySem.Spec PyProof.Rows L2
/-- a def of the text stands at its name -/
def At (K : PySem.W.Frag) (mg : Str → Option Value) (x : Str) (st : Stmt) : Prop := ∃ (f : Addr) (fd : FuncData), mg x = some (.ref f) ∧ Fun K x x st f fd
theorem At.def {P : Program} {w : World} {K : PySem.W.Frag} {mg : Str → Option Value} {base : Heap} {CX : CXT} {k : Nat} {x : Str} {ps : List Str} {sp : Sp} {st : Stmt} (a : At K mg x st)
    (hb : ∀ (kV doc pm : Value) (an : Option Addr) (cdv ct : Value) (us : List Value), us.length = ps.length → bindArgs (PySem.W.fnOf x x (defArgs st) (defBody st) (defScope st) .none kV doc pm an cdv ct) ⟨us, []⟩ = pure (ps.zip us))
    (h : ∀ f fd, Fun K x x st f fd → FnOk P w K mg base CX k f fd ps sp) : Def P w K mg base CX k x ps sp := by
  obtain ⟨f, fd, hm, F⟩ := a
  exact ⟨f, fd, hm, F.kp, F.binds hb, h f fd F⟩
end K1
namespace K1
open PySem PySem.Spec PyProof.Rows L2
def G : Int := 999999999999999999999999999999
/-- numbers that are there -/
structure There (ns : List Int) : Prop where
  asc : ns.Pairwise (· < ·)
  rng : ∀ n ∈ ns, 1 ≤ n ∧ n ≤ G
  len : ns.length ≤ 200
theorem getD_map {ns : List Int} {i : Nat} {y : V} (h : (ns.map V.int)[i]? = some y) : ∃ z, ns[i]? = some z ∧ y = .int z := by
  rw [List.getElem?_map] at h
  cases e : ns[i]? with
  | none => rw [e] at h; cases h
  | some z => rw [e] at h; exact ⟨z, rfl, (Option.some.inj h).symm⟩
theorem take_more {α : Type} {l : List α} {i : Nat} {x : α} (h : l[i]? = some x) : l.take (i + 1) = l.take i ++ [x] := by
  rw [List.take_add_one, h]; rfl
theorem lt_of_get {α : Type} {l : List α} {i : Nat} {x : α} (h : l[i]? = some x) : i < l.length := (List.getElem?_eq_some_iff.mp h).1
end K1
namespace K1
open PySem PySem.Spec PyProof.Rows L2
/-- a comprehension without a test -/
theorem tyes {σ : L2.St} {H : Hp} {A B : Hp → Prop} (h : A H) : tYes σ H (fun b H3 => if b = true then A H3 else B H3) := by
  show (if true = true then A H else B H)
  rw [if_pos rfl]
  exact h
/-- a test whose answer is known -/
theorem itbT {c : Bool} {A B : Prop} (hc : c = true) (h : A) : if c = true then A else B := by
  rw [if_pos hc]
  exact h
theorem itbF {c : Bool} {A B : Prop} (hc : c = false) (h : B) : if c = true then A else B := by
  rw [hc, if_neg Bool.false_ne_true]
  exact h
end K1
namespace K1
open PySem PySem.Spec PyProof.Rows L2
/-! ### rules with the written part by its name (for blocks) -/
section
variable {X : Cx} {K : PySem.W.Frag}
theorem call_lenK (h : X.K = K) : CallR X (.builtin "len") (fun xs H Q => ∃ p ys, xs = [.ref p] ∧ (SqL K H p ys ∨ SqT K H p ys) ∧ Q (.int ys.length) H) := by
  subst h; exact call_len_seq
theorem ix_listK (h : X.K = K) : IxR X (rIxL K) := by subst h; exact ix_list
theorem ix_tupK (h : X.K = K) : IxR X (rIxT K) := by subst h; exact ix_tup
theorem op_in_seqK (h : X.K = K) : OpR X (compareOp .In) (rIn K false) := by subst h; exact op_in_seq
theorem op_notIn_seqK (h : X.K = K) : OpR X (compareOp .NotIn) (rIn K true) := by subst h; exact op_notIn_seq
theorem op_eqDK (h : X.K = K) (hu : X.A.units + 64 < cLine) : OpR X (compareOp .Eq) (rEqD K) := by subst h; exact op_eqD hu
theorem op_neDK (h : X.K = K) (hu : X.A.units + 64 < cLine) : OpR X (compareOp .NotEq) (rNeD K) := by subst h; exact op_neD hu
theorem pi_listK {tg l : Expr} {tl : TE} (h : X.K = K) (hl : PE X l tl) : PI X tg l (iList K tl) := by subst h; exact pi_list hl
theorem pi_tupK {tg l : Expr} {tl : TE} (h : X.K = K) (hl : PE X l tl) : PI X tg l (iTup K tl) := by subst h; exact pi_tup hl
theorem call_list_ofK (h : X.K = K) : CallR X (.type "list") (fun xs H Q => ∃ p ys, xs = [.ref p] ∧ (SqL K H p ys ∨ SqT K H p ys) ∧ ∀ l, H l = none → Q (.ref l) (upd H l (.lst ys))) := by
  subst h; exact call_list_of
theorem call_tuple_ofK (h : X.K = K) : CallR X (.type "tuple") (fun xs H Q => ∃ p ys, xs = [.ref p] ∧ ((SqL K H p ys ∧ ∀ l, H l = none → Q (.ref l) (upd H l (.tup ys))) ∨ (SqT K H p ys ∧ Q (.ref p) H))) := by
  subst h; exact call_tuple_of
theorem pe_joinK {o e : Expr} {to te : TE} {apos pos : Pos} (h : X.K = K) (ho : PE X o to) (he : PE X e te) (hs : starEach [e] X.env = [(false, eval e X.env)] := by rfl) (hbase : attributeBase o "join" X.env (eval o X.env) = eval o X.env := by rfl) (hline : (apos.endLine == pos.line) = true := by rfl) :
    PE X (.Call (.Attribute o "join" apos) [e] [] pos) (tM1 (fun x xs H Q => ∃ a p, ∃ ys : List Str, x = .str a ∧ xs = [.ref p] ∧ (SqL K H p (ys.map V.str) ∨ SqT K H p (ys.map V.str)) ∧
      (ys.map (·.length)).sum + ys.length * a.length ≤ 16777216 ∧ Q (.str (Txt.join a ys)) H) to te) := by
  subst h; exact pe_join ho he hs hbase hline
end
end K1
namespace K1
open PySem PySem.Spec PyProof.Rows L2
section
variable {X : Cx} {K : PySem.W.Frag}
theorem cr_minK (h : X.K = K) (hc : X.calm = true) : CallR X (.builtin "min") (rMin K) := by subst h; exact cr_min hc
theorem cr_maxK (h : X.K = K) (hc : X.calm = true) : CallR X (.builtin "max") (rMax K) := by subst h; exact cr_max hc
end
/-! ### data that are compared -/
theorem dp_ints {K : PySem.W.Frag} {H : Hp} : ∀ ns : List Int, DpAll K H (ns.map V.int) (ns.map PyData.int)
  | [] => .nil
  | n :: r => .cons (.int n) (dp_ints r)
theorem dp_list {K : PySem.W.Frag} {H : Hp} {a : Addr} {ns : List Int} (h : SqL K H a (ns.map V.int)) : Dp K H (.ref a) (.list (ns.map PyData.int)) := .lst h (dp_ints ns)
theorem lay_ints : ∀ ns : List Int, PyData.canLayAll0 (ns.map PyData.int) = true
  | [] => by rfl
  | n :: r => by
    show (PyData.canLay0 (.int n) && PyData.canLayAll0 (r.map PyData.int)) = true
    rw [lay_ints r]; rfl
theorem depth_ints : ∀ ns : List Int, PyData.depthAll (ns.map PyData.int) = 0
  | [] => by rfl
  | n :: r => by
    show max (PyData.depth (.int n)) (PyData.depthAll (r.map PyData.int)) = 0
    rw [depth_ints r]; rfl
theorem shaped_ints (ns : List Int) : SeqAt.shaped (.list (ns.map PyData.int)) = true := by
  unfold SeqAt.shaped
  have h1 : PyData.canLay0 (.list (ns.map PyData.int)) = true := lay_ints ns
  have h2 : PyData.depth (.list (ns.map PyData.int)) = 1 := by
    show PyData.depthAll (ns.map PyData.int) + 1 = 1
    rw [depth_ints]
  rw [h1, h2]; rfl
theorem eqv_ints : ∀ xs ys : List Int, PyData.eqv (.list (xs.map PyData.int)) (.list (ys.map PyData.int)) = decide (xs = ys) := by
  have h : ∀ xs ys : List Int, PyData.eqvAll (xs.map PyData.int) (ys.map PyData.int) = decide (xs = ys) := by
    intro xs
    induction xs with
    | nil => intro ys; cases ys <;> simp [PyData.eqvAll]
    | cons x r ih =>
      intro ys
      cases ys with
      | nil => simp [PyData.eqvAll]
      | cons y t =>
        show (PyData.eqv (.int x) (.int y) && PyData.eqvAll (r.map PyData.int) (t.map PyData.int)) = decide (x :: r = y :: t)
        rw [ih, show PyData.eqv (.int x) (.int y) = (x == y) by simp [PyData.eqv]]
        by_cases e : x = y <;> by_cases e2 : r = t <;> simp [e, e2]
  intro xs ys
  show PyData.eqvAll (xs.map PyData.int) (ys.map PyData.int) = _
  exact h xs ys
theorem inV_ints (n : Int) : ∀ ns : List Int, inV (.int n) (ns.map V.int) = decide (n ∈ ns)
  | [] => by simp [inV]
  | m :: r => by
    have ih := inV_ints n r
    unfold inV at ih ⊢
    rw [List.map_cons, List.any_cons, ih]
    by_cases e : m = n
    · subst e; simp [eqV]
    · have e' : ¬ n = m := fun h => e h.symm
      simp [eqV, e, e']
theorem flat_ints : ∀ ns : List Int, (ns.map V.int).all flatV = true
  | [] => rfl
  | m :: r => by rw [List.map_cons, List.all_cons, flat_ints r]; rfl
/-- a list by a filter -/
def FiltBy (ns : List Int) (P : Int → Prop) (rs : List Int) : Prop := ∃ p : Int → Bool, (∀ n ∈ ns, (p n = true ↔ P n)) ∧ rs = ns.filter p
theorem FiltBy.eq {ns rs ts : List Int} {P R : Int → Prop} (h1 : FiltBy ns P rs) (h2 : FiltBy ns R ts) (h : ∀ n ∈ ns, (P n ↔ R n)) : rs = ts := by
  obtain ⟨p, hp, rfl⟩ := h1
  obtain ⟨q, hq, rfl⟩ := h2
  refine List.filter_congr fun n hn => ?_
  have a := hp n hn
  have b := hq n hn
  have c := h n hn
  cases e : p n <;> cases e2 : q n <;> simp_all
/-- the rest of a row of statements, told by what it is good for alone: the text of a reading does not grow with it -/
theorem seq_opq {t u : TS} {D : Ends} {σ : L2.St} {H : Hp} (h : ∀ N : L2.St → Hp → Prop, (∀ σ H, u D σ H → N σ H) → t { D with nx := N } σ H) : tSeq t u D σ H := h _ fun _ _ x => x
end K1


set_option Elab.async false
set_option linter.all false
set_option maxRecDepth 100000
set_option maxHeartbeats 4000000
/-! Own errors below an own error below ValueError, whose __init__ says super().__init__(a text) and then stores its one argument. -/
namespace PySem
namespace Tide
open PySem.W PySem.Calls PyProof.Rows PySem.HandSPX
def iA (fl : Str) (p1 p2 : Pos) : Arguments := { posonlyargs := [], args := [{ arg := "self", annotation := none, pos := p1 }, { arg := fl, annotation := none, pos := p2 }], vararg := none, kwonlyargs := [], kw_defaults := [], kwarg := none, defaults := [] }
def iB (fl tx : Str) (j : Nat) (q1 q2 q3 q4 q5 q6 q7 q8 q9 q10 : Pos) : List Stmt :=
  [.Expr (.Call (.Attribute (.Call (.Name "super" q1) [] [] q2) "__init__" q3) [.Constant (.str tx) j q4] [] q5) q6, .Assign [.Attribute (.Name "self" q7) fl q8] (.Name fl q9) q10]
def iS (fl : Str) : Scope := { kind := .function, names := [(PySem.Str.ofString "self", .local), (fl, .local), (PySem.Str.ofString "__class__", .free), (PySem.Str.ofString "super", .globalImplicit)], isGenerator := false, isCoroutine := false, more := [] }
/-- how the call of super().__init__ is run (shown at the text's own places) -/
def CallIs (tx : Str) (j : Nat) (q1 q2 q3 q4 q5 : Pos) : Prop := ∃ pl : Sem Bool, ∀ env : Env, eval (.Call (.Attribute (.Call (.Name "super" q1) [] [] q2) "__init__" q3) [.Constant (.str tx) j q4] [] q5) env = (do
      let ov ← attributeBase (.Call (.Name "super" q1) [] [] q2) "__init__" env (eval (.Call (.Name "super" q1) [] [] q2) env)
      standAt q3.atName
      let (f, first) ← holding [ov] (getMethod ov "__init__" pl)
      callWith q5 f first (backTo q5 (starEach [.Constant (.str tx) j q4] env)) [])
example : CallIs "no set text" 0 ⟨7, 8, 7, 13⟩ ⟨7, 8, 7, 15⟩ ⟨7, 8, 7, 24⟩ ⟨7, 25, 7, 38⟩ ⟨7, 8, 7, 39⟩ := ⟨_, fun env => by rfl⟩
/-- the fields' names -/
def FlOk (fl : Str) : Prop := ¬ fl = ("self" : Str) ∧ ¬ fl = ("__class__" : Str) ∧ ¬ fl = ("super" : Str) ∧ (fl == ("__debug__" : Str)) = false ∧
  ∀ (qual : Str) (body : List Stmt) (p1 p2 : Pos) (doc pm ct cd : Value) (an : Option Addr) (cc : Addr) (a b : Value), bindArgs (ksFn "__init__" qual (iA fl p1 p2) body (iS fl) .none .none doc pm an cd ct cc) ⟨[a, b], []⟩ = pure [(("self" : Str), a), (fl, b)]
theorem ok_value : FlOk "value" := ⟨by decide +kernel, by decide +kernel, by decide +kernel, by decide +kernel, fun _ _ _ _ _ _ _ _ _ _ _ _ => rfl⟩
theorem ok_at : FlOk "at" := ⟨by decide +kernel, by decide +kernel, by decide +kernel, by decide +kernel, fun _ _ _ _ _ _ _ _ _ _ _ _ => rfl⟩
theorem ok_why : FlOk "why" := ⟨by decide +kernel, by decide +kernel, by decide +kernel, by decide +kernel, fun _ _ _ _ _ _ _ _ _ _ _ _ => rfl⟩
theorem ok_limit : FlOk "limit" := ⟨by decide +kernel, by decide +kernel, by decide +kernel, by decide +kernel, fun _ _ _ _ _ _ _ _ _ _ _ _ => rfl⟩
/-- what the written part says of the class at C, of its __init__ at fI -/
structure TideTxt (prog : Program) (K : Frag) (mg : Str → Option Value) (x : Str) (C fI : Addr) (fl : Str) : Prop where
  gC : mg x = some (.ref C)
  ok : FlOk fl
  cls : ∃ nm q N bs bm sn sub ab col dd k0 k1 k2 k3 k5, K.lookup C = some (excClassObj nm q C N bs bm true sn sub ab col dd k0 k1 k2 k3 k5 "ValueError.__new__") ∧ refsVE bm = true
  sa : findIn K (.ref C) "__setattr__" = some (some (.builtin "object.__setattr__"))
  ga : findIn K (.ref C) "__getattribute__" = some (some (.builtin "BaseException.__getattribute__"))
  gg : findIn K (.ref C) "__getattr__" = some none
  noN : findIn K (.ref C) fl = some none
  iC : findIn K (.ref C) "__init__" = some (some (.ref fI))
  tC : typeIn K (.ref fI) = some (.type "function")
  kC : keepIn K (.ref C) = true
  exC : subIn K (.ref C) (.type "BaseException") = some true
  tyC : typeIn K (.ref C) = some (.type "type")
  hdC : hasDictIn K C = true
  te : exmOne K (.ref C) (.ref C) = some true
  sup : ks_superIn K C C "__init__" = some (some (.builtin "ValueError.__init__"))
  isV : subIn K (.ref C) (.type "ValueError") = some true
  self_ : mroIn K C (.ref C) = some true
  tpa : nsIn K cStatics "thirdparty.any" = some none
  nsu : mg "super" = none
  htop : (prog.main.scope.names.lookup ("super" : Str)).isSome = false
  fn : ∃ (oc : Value) (od : Option Addr) (doc pm ct : Value) (an : Option Addr) (osl : Array (Option Value)) (qual tx : Str) (j : Nat) (p1 p2 q1 q2 q3 q4 q5 q6 q7 q8 q9 q10 : Pos) (cda cc : Addr),
    K.lookup fI = some ⟨oc, od, .func (ksFn "__init__" qual (iA fl p1 p2) (iB fl tx j q1 q2 q3 q4 q5 q6 q7 q8 q9 q10) (iS fl) .none .none doc pm an (.ref cda) ct cc), osl⟩ ∧ codeIn K (.ref cda) qual = true ∧ CallIs tx j q1 q2 q3 q4 q5 ∧
    (∃ ccl cdd vs ccs file tf, K.lookup cda = some ⟨ccl, cdd, .fields vs, ccs⟩ ∧ vs[2]? = some (.str file tf) ∧ ((prog.main.file : Str) == file) = true) ∧ ∃ cl cld csl, K.lookup cc = some ⟨cl, cld, .cell (some (.ref C)), csl⟩
section
variable {fl : Str}
theorem lkT {β : Type} {a b : Str} {v : β} {l : List (Str × β)} (h : (a == b) = true) : List.lookup a ((b, v) :: l) = some v := by
  rw [List.lookup_cons, h]
theorem lkF {β : Type} {a b : Str} {v : β} {l : List (Str × β)} (h : (a == b) = false) : List.lookup a ((b, v) :: l) = List.lookup a l := by
  rw [List.lookup_cons, h]
theorem neB {a b : Str} (h : ¬ a = b) : (a == b) = false := beq_eq_false_iff_ne.mpr h
theorem lk_self : (iS fl).names.lookup ("self" : Str) = some .local := lkT (by decide +kernel)
theorem lk_fl (ok : FlOk fl) : (iS fl).names.lookup fl = some .local := (lkF (neB ok.1)).trans (lkT (beq_self_eq_true _))
theorem lk_cls (ok : FlOk fl) : (iS fl).names.lookup ("__class__" : Str) = some .free := (lkF (by decide +kernel)).trans ((lkF (neB fun h => ok.2.1 h.symm)).trans (lkT (by decide +kernel)))
theorem lk_super (ok : FlOk fl) : (iS fl).names.lookup ("super" : Str) = some .globalImplicit :=
  (lkF (by decide +kernel)).trans ((lkF (neB fun h => ok.2.2.1 h.symm)).trans ((lkF (by decide +kernel)).trans (lkT (by decide +kernel))))
end
theorem one_size (v : Value) : [v].length ≤ sizeLine := by
  rw [sizeLine_eq]
  exact (by decide : 1 ≤ 16777216)
/-- what __init__ leaves of a fresh exception at x -/
structure InitEnd (fl : Str) (h h' : Heap) (x C dx t1 : Addr) (v : Value) : Prop where
  keep : ∀ b o, b ≠ x → h.get? b = some o → h'.get? b = some o
  obj : h'.get? x = some { cls := .ref C, dict := some dx, data := .fields #[.ref t1, .none, .none, .none, .bool false, .none] }
  dbig : h.objs.size ≤ dx
  dne : dx ≠ x
  ns : h'.Ns1 dx (fun y => if y = fl then some v else none)
/-- a made one -/
structure OwnMade (fl : Str) (h h' : Heap) (e C d : Addr) (v : Value) : Prop where
  keep : ∀ b o, h.get? b = some o → h'.get? b = some o
  new : h.objs.size ≤ e
  obj : ∃ oe vs, h'.get? e = some oe ∧ oe.cls = .ref C ∧ oe.dict = some d ∧ oe.data = .fields vs ∧ vs[1]? = some .none
  dbig : h.objs.size ≤ d
  dne : d ≠ e
  ns : h'.Ns1 d (fun y => if y = fl then some v else none)
section
variable {prog : Program} {w : World} {A : Around} {E : Value → Shared → Prop} {R : Result → Shared → Prop} {s : Shared} {K : Frag} {mg mb : Str → Option Value} {C fI : Addr} {fl xn : Str}
theorem ldC {M : Model} {s : Shared} {env : Env} {m : Str → Option Value} {x : Str} {pos : Pos} {v : Value} {Q : Value → Shared → Prop} {A : Around} {E : Value → Shared → Prop} (hn : s.heap.Ns env.locals m) (hv : m x = some v) (h : Q v s)
    (hk : env.scope.kind = .function) (hl : env.kindOf x = some .local) (hd : (x == ("__debug__" : Str)) = false) :
    wpAny M A (eval (.Name x pos) env) Q E s := wpAny_Name (wpAny_loadName_local hk hl hn hv h) hd
/-- the built-in __init__ bound to the object, called -/
theorem call_mw {u e t0 : Addr} {rest : List Value} {Q : Value → Shared → Prop} {nm q : Str} {N : Addr} {bs bm : List Value} {hdct : Bool} {sn : List Str} {sub : List Value} {ab : Bool} {col : Option Bool} {dd : Option Addr} {k0 k1 k2 k3 k5 : Option Value}
    (hC : s.heap.get? C = some (excClassObj nm q C N bs bm hdct sn sub ab col dd k0 k1 k2 k3 k5 "ValueError.__new__")) (he : s.heap.get? e = some (excO C t0)) (hu : s.heap.get? u = some (kxs_mw "ValueError.__init__" e)) (hrest : rest.length ≤ sizeLine)
    (hq : ∀ h', (∀ b o, b ≠ e → s.heap.get? b = some o → h'.get? b = some o) → h'.get? e = some (excO C s.heap.objs.size) → Q .none { s with heap := h' }) :
    wpAny (model prog w) A (call (.ref u) rest) Q E s := by
  have FB := F.excBase_ValueError
  obtain ⟨hh, g, d, tk, os⟩ := s
  refine wpAny_call (codeAny_of_tree ?_)
  show wpAny _ A.in1 (callAny (.ref u) ⟨rest, []⟩) _ _ _
  simp only [callAny]
  refine wpAny_bind (wpAny_load hu ?_)
  simp only [kxs_mw, show (Value.type "method-wrapper" == Value.type "method" || Value.type "method-wrapper" == Value.type "builtin_function_or_method" || Value.type "method-wrapper" == Value.type "method-wrapper") = true by decide, if_true]
  refine KFB.if_so (by decide) ?_
  refine wpAny_bind (check_bound_init FB.toExcCallFacts hC he rfl ?_)
  refine wpAny_bind (wpAny_pure (wpAny_pure ?_))
  refine ⟨plainId_quiet FB.init.plain _, codeAny_builtin FB.initEntry ?_⟩
  exact exc_init_tree (cls := .ref C) (t0 := t0) (dv := none) (c2 := .none) (c3 := .none) (b4 := .bool false) he hrest fun h' k e' _ => hq h' k e'
theorem tide_init (T : TideTxt prog K mg xn C fI fl) {x t0 : Addr} {v : Value} (X : K.In s.heap) (hG : s.heap.Ns mainGlobals mg) (hB : s.heap.Ns builtinsNs mb) (hmb : mb "super" = some (.type "super")) (hlim : s.heap.NoLimit) (hx : s.heap.get? x = some (excO C t0)) (hnx : K.lookup x = none) (hroom : A.depth < recursionLimit)
    (hq : ∀ h' tk dx t1, InitEnd fl s.heap h' x C dx t1 v → R (.ok (.ret .none)) { s with heap := h', toks := tk }) :
    codeAny (model prog w) A (.call (.ref fI) ⟨[.ref x, v], []⟩) R s := by
  obtain ⟨oc, od, doc, pm, ct, an, osl, qual, tx, j, p1, p2, q1, q2, q3, q4, q5, q6, q7, q8, q9, q10, cda, cc, ho, hcd, ⟨pl, hpl⟩, ⟨ccl, cdd, vs, ccs, file, tf, hcda, hvs, hfile⟩, cl, cld, csl, hcell⟩ := T.fn
  obtain ⟨nm, q, N, bs, bm, sn, sub, ab, col, dd, k0, k1, k2, k3, k5, hC, hbm⟩ := T.cls
  obtain ⟨n1, n2, n3, n4, n5⟩ := T.ok
  have hcl : clsIn K C = some { name := nm, bases := bs, mro := .ref C :: bm, ns := N, qualname := q, hasDict := true, slotNames := sn, subclasses := sub, abstract := ab, collection := col, hasDel := false } := by unfold clsIn; rw [hC] <;> rfl
  have e1 : (("self" : Str) == fl) = false := by rw [beq_eq_false_iff_ne]; exact fun h => n1 h.symm
  have e1' : (fl == ("self" : Str)) = false := by rw [beq_eq_false_iff_ne]; exact n1
  have X₀ := X
  refine ks_codeAny_call_defAt (fd := ksFn "__init__" qual (iA fl p1 p2) (iB fl tx j q1 q2 q3 q4 q5 q6 q7 q8 q9 q10) (iS fl) .none .none doc pm an (.ref cda) ct cc) (body := iB fl tx j q1 q2 q3 q4 q5 q6 q7 q8 q9 q10) (binds := [("self", .ref x), (fl, v)]) hroom (X _ _ ho) rfl hlim (codeRec_of X hcd) rfl (BindsTo.of_eq ?_) ?_ ?_ (fun h₁ hns k => ?_) rfl rfl rfl
  · exact n5 _ _ _ _ _ _ _ _ _ _ _ _
  · intro y hy
    have hy : y ∈ [(PySem.Str.ofString "self", NameKind.local), (fl, .local), (PySem.Str.ofString "__class__", .free), (PySem.Str.ofString "super", .globalImplicit)] := hy
    simp only [List.mem_cons, List.not_mem_nil, or_false] at hy
    rcases hy with rfl | rfl | rfl | rfl <;> exact fun h => nomatch h
  · intro y hy
    simp only [List.mem_cons, List.not_mem_nil, or_false] at hy
    rcases hy with rfl | rfl
    · exact lk_self
    · exact lk_fl T.ok
  · have hxL : s.heap.objs.size ≠ x := Nat.ne_of_gt (Heap.lt_size hx)
    have X₁ : K.In h₁ := X.keeps k
    have hx₁ := k _ _ hx
    have I : InstAt h₁ x (excO C t0) C none := ⟨hx₁, rfl, rfl, trivial⟩
    refine ks_wpAt_execs_cons (ks_wpAt_Expr_any (ks_wpAt_MethodCall (ks_wpAt_super_base (f := fI) (cc := cda) (lk_super T.ok) (lk_cls T.ok) (by decide) rfl (X₁ _ _ ho) rfl rfl rfl (X₁ _ _ hcda) rfl hvs hfile T.htop ?_) (hpl _)))
    refine ks_loadName_global rfl (lk_super T.ok) (loadGlobal_builtin (hG.keeps k) T.nsu (hB.keeps k) hmb ⟨rfl, ?_⟩)
    refine wpAny_loadName_free rfl (lk_cls T.ok) rfl ⟨_, X₁ _ _ hcell, rfl⟩ ?_
    refine wpAny_loadName_local (v := .ref x) rfl lk_self hns ?_ ?_
    · exact (lkF (neB fun h => T.ok.1 h.symm)).trans (lkT (by decide +kernel))
    refine ks_wpAny_isType_cls (X₁ _ _ hC) rfl ⟨rfl, ?_⟩
    refine ks_wpAny_call_super (X₁ _ _ hC) rfl I.at_ I.cls (fun c e => by cases e) (looks_mroIn X₁ T.self_) (fun h₂ e₂ k₂ => ?_)
    have X₂ : K.In h₂ := X₁.keeps k₂
    have I₂ : InstAt h₂ x (excO C t0) C none := ⟨k₂ _ _ hx₁, rfl, rfl, trivial⟩
    have hsup : alongIn K "__init__" (((.ref C :: bm).dropWhile (· != .ref C)).drop 1) = some (some (.builtin "ValueError.__init__")) := by
      have h := T.sup
      unfold ks_superIn at h
      rw [hcl] at h
      exact h
    have hxC : x ≠ C := ks_ne X₂ I₂ hcl
    have hI : Looks (model prog w) h₂ (isInstance (.ref x) (.type "ValueError")) true := I₂.type.andThen (looks_subIn X₂ T.isV)
    refine kxs_getMethod kxs_ValueError e₂ (looks_opaque X₂ T.tpa) (l₀ := .ref C :: bm) (fun A Q E s k q => wpAny_bind ((looks_clsIn X₂ hcl) A _ E s k (wpAny_pure q))) rfl X₂ hsup hI hxC (by decide) ?_
    refine kxs_callWith (i := "ValueError.__init__") (x := x) rfl (evalArgs_plain ?_)
    show wpAny _ _ (spliced ((false, eval (.Constant (.str tx) j q4) _) :: backTo q5 (starEach [] _))) _ _ _
    refine Calls.spliced_cons ?_
    refine Calls.Constant_str (Calls.spliced_nil ⟨?_, ?_⟩)
    · exact Heap.get?_push_at rfl rfl
    refine call_mw (C := C) (t0 := t0) (Heap.get?_push_of_some _ (X₂ _ _ hC)) (Heap.get?_push_of_some _ I₂.at_) (Heap.get?_push_at rfl rfl) (one_size _) (fun h₃ k₃ e₃ => ?_)
    -- self.fl = fl
    have keep : ∀ b o, b ≠ x → s.heap.get? b = some o → h₃.get? b = some o := fun b o hb e => k₃ b o hb (Heap.get?_push_of_some _ (k₂ _ _ (k _ _ e)))
    have keep1 : ∀ b o, b ≠ x → h₁.get? b = some o → h₃.get? b = some o := fun b o hb e => k₃ b o hb (Heap.get?_push_of_some _ (k₂ _ _ e))
    have X₃ : K.In h₃ := fun a o e => keep a o (fun z => by rw [z, hnx] at e; cases e) (X a o e)
    have hns₃ : h₃.Ns s.heap.objs.size (fun y => [(("self" : Str), Value.ref x), (fl, v)].reverse.lookup y) := by
      obtain ⟨oL, es, ep, hL, r⟩ := hns
      exact ⟨oL, es, ep, keep1 _ _ hxL hL, r⟩
    show wpAt _ _ _ (execs _ _) _ _ _
    refine wpAt_of_wpAny (wpAny_execs_cons (plainObj_wpAny_Assign_Attribute ?_))
    refine ldC (v := v) hns₃ ?_ (ldC (v := .ref x) hns₃ ?_ ?_ rfl lk_self (by decide)) rfl (lk_fl T.ok) T.ok.2.2.2.1
    · exact lkT (beq_self_eq_true _)
    · exact (lkF (neB fun h => T.ok.1 h.symm)).trans (lkT (by decide +kernel))
    refine set_plain X₃ (ox := excO C _) (od := none) ⟨e₃, rfl, rfl, trivial⟩ T.sa ?_
    refine exc_osa X₃ e₃ hcl (show refsVE (.ref C :: bm) = true from hbm) rfl T.noN (fun h₄ tk₄ dx k₄ dn dne hx₄ hn₄ => ?_)
    show wpAny _ _ (execs _ _) _ _ _
    have z : s.heap.objs.size ≤ h₃.objs.size := by
      exact Nat.le_of_lt hns₃.lt
    refine wpAny_execs_nil (hq h₄ tk₄ dx _ ⟨fun b o hb e => k₄ b o hb (keep b o hb e), hx₄, Nat.le_trans z dn, dne, hn₄⟩)
theorem tide_made (T : TideTxt prog K mg xn C fI fl) {v : Value} (X : K.In s.heap) (hG : s.heap.Ns mainGlobals mg) (hB : s.heap.Ns builtinsNs mb) (hmb : mb "super" = some (.type "super")) (hlim : s.heap.NoLimit) (hroom : A.depth + 1 < recursionLimit)
    (hq : ∀ h' tk e d, OwnMade fl s.heap h' e C d v → R (.ok (.ret (.ref e))) { s with heap := h', toks := tk }) :
    codeAny (model prog w) A (.call (.ref C) ⟨[v], []⟩) R s := by
  obtain ⟨nm, q, N, bs, bm, sn, sub, ab, col, dd, k0, k1, k2, k3, k5, hC, hbm⟩ := T.cls
  obtain ⟨hp, g, dr, tk, os⟩ := s
  have k : ∀ b o, hp.get? b = some o → ((hp.push (kdv_tup [v])).push (excO C hp.objs.size)).get? b = some o := fun b o e => Heap.get?_push_of_some _ (Heap.get?_push_of_some _ e)
  have hget : ((hp.push (kdv_tup [v])).push (excO C hp.objs.size)).get? (hp.objs.size + 1) = some (excO C hp.objs.size) := by heap_get
  have hnx : K.lookup (hp.objs.size + 1) = none := by
    cases e : K.lookup (hp.objs.size + 1) with
    | none => rfl
    | some o =>
      have z : hp.get? (hp.objs.size + 1) = some o := X _ _ e
      exact absurd (Nat.lt_of_succ_lt (Heap.lt_size z)) (Nat.lt_irrefl _)
  refine call_own F.excBase_ValueError (fun X => refsVE_contains X bm hbm) (X _ _ hC) (looks_findIn X T.iC) (fun self => bind_fn X self T.tC) (one_size v) ?_
  refine tide_init (s := ⟨(hp.push (kdv_tup [v])).push (excO C hp.objs.size), g, dr, tk, os⟩) T (X.keeps k) (hG.keeps k) (hB.keeps k) hmb (hlim.keeps k) hget hnx ?_ fun h' tk' dx t1 ⟨k', hx, dn, dne, hns⟩ => ?_
  · show A.depth + 1 < recursionLimit
    exact hroom
  · have old : ∀ b o, hp.get? b = some o → h'.get? b = some o := fun b o e => k' b o (Nat.ne_of_lt (Nat.lt_succ_of_lt (Heap.lt_size e))) (k b o e)
    have z : hp.objs.size + 1 + 1 ≤ dx := by
      first
        | (simpa only [Heap.size_push] using dn)
        | exact dn
        | (have q := dn; rw [Heap.size_push, Heap.size_push] at q; exact q)
    exact ⟨rfl, hq h' tk' (hp.objs.size + 1) dx ⟨old, Nat.le_succ _, ⟨_, _, hx, rfl, rfl, rfl, rfl⟩, Nat.le_trans (Nat.le_trans (Nat.le_succ _) (Nat.le_succ _)) z, dne, hns⟩⟩
end
end Tide
end PySem
namespace L2
open PySem PySem.Spec PyProof.Rows
theorem relO_tide {fl : Str} {v : V} {v' : Value} (r : RelV v v') (f : Str) : RelO (List.lookup f [(fl, v)]) (if f = fl then some v' else none) := by
  by_cases hw : f = fl
  · subst hw
    rw [if_pos rfl]
    have q : List.lookup f [(f, v)] = some v := by simp [List.lookup]
    rw [q]
    exact r
  · rw [if_neg hw]
    have qw : (f == fl) = false := by simpa using hw
    have q2 : List.lookup f [(fl, v)] = none := by simp [List.lookup, qw]
    rw [q2]
    trivial
section
variable {X : Cx} {C fI : Addr} {fl xn : Str}
/-- E(e) -/
def tMkTide (C : Addr) (fl : Str) (ta : TA) : St → Hp → XK → Prop := fun σ H Q => ta σ H fun vs H1 => ∃ v, vs = [v] ∧ ∀ d, H1 d = none → Q (.ref C) (some d) (upd H1 d (.xd [(fl, v)]))
theorem pmk_tide {a : Expr} {ta : TA} {p pos : Pos} {k : Nat} (T : PySem.Tide.TideTxt X.prog X.K X.mg xn C fI fl) (hr : Room k X.A) (ha : PA X [a] ta) (hg : Gl X xn := by rfl) (hdb : (xn == ("__debug__" : Str)) = false := by decide)
    (he : starEach (a :: []) X.env = (false, eval a X.env) :: starEach [] X.env := by rfl) (hpl : (backTo pos (starEach [] X.env)).any (·.1) = false := by rfl) :
    PMk X (.Call (.Name xn p) [a] [] pos) (tMkTide C fl ta) := by
  intro pins s σ H Q I h
  refine wpAny_Call_Name_kw (ld_glob I hg T.gC ?_ hdb)
  refine PySem.W.callWith_K (h₀ := X.base) I.ok.mod.kin T.kC (thn (ha.run pos pins s σ H _ I h) fun us s1 hh => ?_) he hpl
  obtain ⟨vs, H1, I1, r1, v, ev, q1⟩ := hh
  subst ev
  refine ⟨I1.kIn, ?_⟩
  cases r1 with
  | cons rv rn =>
    rename_i v' us'
    cases rn
    show wpAny _ _ (call (.ref C) [v']) _ _ _
    have hlim := I1.nolimit
    have hG := I1.mod.glob.keeps I1.bk
    obtain ⟨mb, hB0, hmb0⟩ := I1.mod.blt
    have hB := hB0.keeps I1.bk
    have hmb : mb "super" = some (.type "super") := (hmb0 _ (by decide +kernel)).trans (by decide +kernel)
    obtain ⟨hp, g, dr, tk, os⟩ := s1
    refine wpAny_call (PySem.Tide.tide_made T I1.kIn hG hB hmb hlim (by have := hr.dp; omega) fun h' tk' e d M => ?_)
    show MkP X pins σ Q (.ref e) ⟨h', g, dr, tk', os⟩
    obtain ⟨oe, fv, hoe, hc, hd, hdat, h1⟩ := M.obj
    have hns := M.ns
    obtain ⟨G', g1, g2⟩ := restrict h' fun b => decide (b ≠ e)
    have gk : ∀ b, b ≠ e → G'.get? b = h'.get? b := fun b hb => g1 b (decide_eq_true hb)
    have ge : G'.get? e = none := g2 e (by simp)
    have old : ∀ b o, hp.get? b = some o → G'.get? b = some o := fun b o q => (gk b (Nat.ne_of_lt (Nat.lt_of_lt_of_le (Heap.lt_size q) M.new))).trans (M.keep b o q)
    have ob : ObjOk X.prog X.w (upd H1 d (.xd [(fl, v)])) G' d (.xd [(fl, v)]) :=
      ⟨_, hns.at (fun o q => (gk d M.dne).trans q), fun f => relO_tide rv f⟩
    have J : Inv X pins σ (upd H1 d (.xd [(fl, v)])) ⟨G', g, dr, tk', os⟩ := I1.laid (t' := tk') old M.dbig ob
    refine ⟨e, oe, fv, ⟨G', g, dr, tk', os⟩, _, .ref C, some d, rfl, J, fun b o q => ?_, ge, hoe, ⟨hc, hd⟩, hdat, h1, ?_, rfl, I1.bare, raises_own T.exC T.tyC, q1 d (I1.hok.fresh M.dbig)⟩
    · by_cases hb : b = e
      · have q' : G'.get? b = some o := q
        rw [hb, ge] at q'; cases q'
      · exact (gk b hb).symm.trans q
    · rw [upd_ne (Ne.symm M.dne)]
      exact I1.hok.fresh M.new
/-- raise E(e) -/
def tRaiseTide (C : Addr) (fl : Str) (W : WX) (ta : TA) : TS := fun _ σ H => tMkTide C fl ta σ H fun cls d H' => W cls d σ H'
theorem ps_raiseTide {a : Expr} {ta : TA} {W : WX} {p pos pos2 : Pos} {k : Nat} (hc : X.calm = true) (T : PySem.Tide.TideTxt X.prog X.K X.mg xn C fI fl) (hr : Room k X.A) (tk : Takes X W) (ha : PA X [a] ta) (hg : Gl X xn := by rfl) (hdb : (xn == ("__debug__" : Str)) = false := by decide)
    (he : starEach (a :: []) X.env = (false, eval a X.env) :: starEach [] X.env := by rfl) (hpl : (backTo pos (starEach [] X.env)).any (·.1) = false := by rfl) :
    PS X (.Raise (some (.Call (.Name xn p) [a] [] pos)) none pos2) (tRaiseTide C fl W ta) := ps_raise hc tk (pmk_tide T hr ha hg hdb he hpl)
/-- e.fl, e the exception that the suite holds (at a; its class cls, its dict d) -/
def tByTide (C : Addr) (fl : Str) (a : Addr) (cls : Value) (d : Option Addr) (te : TE) : TE := fun σ H Q => te σ H fun x H1 => x = .ref a ∧ cls = .ref C ∧ ∃ (dd : Addr) (v : V), d = some dd ∧ H1 dd = some (.xd [(fl, v)]) ∧ Q v H1
theorem pe_byTide {a : Addr} {oe : Obj} {cls : Value} {d : Option Addr} {pn : List (Addr × Obj)} {e : Expr} {te : TE} {pos : Pos} (T : PySem.Tide.TideTxt X.prog X.K X.mg xn C fI fl) (hz : Zc cls d oe) (hf : ∃ vs, oe.data = .fields vs) (he : PE (X.suite a ((a, oe) :: pn)) e te)
    (hb : attributeBase e fl X.env (eval e X.env) = eval e X.env) :
    PE (X.suite a ((a, oe) :: pn)) (.Attribute e fl pos) (tByTide C fl a cls d te) := by
  refine ⟨fun pins s σ H Q I h => ?_⟩
  refine attr_of hb (thn (he.run pins s σ H _ I h) fun u s1 hh => ?_)
  obtain ⟨x, H1, I1, rx, ex, ec, dd, v, ed, ea, q⟩ := hh
  subst ex
  obtain rfl : u = Value.ref a := rx
  subst ec
  subst ed
  obtain ⟨ha, _⟩ := I1.pin (a, oe) (List.mem_append_left _ List.mem_cons_self)
  obtain ⟨vs, hd⟩ := hf
  have hx : ObjOk X.prog X.w H1 s1.heap dd (.xd [(fl, v)]) := I1.hok dd _ ea
  obtain ⟨mA, hns, hr⟩ := hx
  obtain ⟨od, ho, hl⟩ := lookIn_ns hns
  have l : List.lookup fl [(fl, v)] = some v := by simp [List.lookup]
  obtain ⟨u, hu, ru⟩ := RelO.some_of (v := v) (o := mA fl) (by rw [← l]; exact hr fl)
  have J : PySem.W.InstAt s1.heap a oe C (some od) := ⟨ha, hz.1, by unfold PySem.W.notCls; rw [hd] <;> rfl, by rw [hz.2]; exact ho⟩
  exact HandSPX.exc_get I1.kIn J T.ga T.gg T.exC (PySem.W.findObj_own T.hdC T.noN rfl (by rw [hl, hu])) (handed_of ru) ⟨v, H1, I1.tok _, ru, q⟩
end
end L2


set_option Elab.async false
set_option linter.all false
set_option maxRecDepth 100000
set_option maxHeartbeats 4000000
/-! enumerate over a list or a tuple -/
namespace PySem
open Sem (wp)
open AutoSeq1 (wpAny_loadPart')
theorem my_enumerate_newT (l : Addr) (items : Array Value) (n : Nat) (dct : Option Addr) (sl : Array (Option Value)) :
    Meets (Builtin.«enumerate.__new__» ⟨[.type "enumerate", .ref l], []⟩) (fun _ R s => s.heap.get? l = some { cls := .type "tuple", dict := dct, data := .seq items n, slots := sl } ∧
      R (.ok (.ret (.ref (s.heap.push { cls := .type "tuple_iterator", data := .fields #[.ref l, .int 0 0] }).objs.size)))
        { s with heap := (s.heap.push { cls := .type "tuple_iterator", data := .fields #[.ref l, .int 0 0] }).push { cls := .type "enumerate", data := .fields #[.none, .bool false, .ref s.heap.objs.size, rawInt 0, .none, .none] } }) :=
  .of_wp fun prog w A R s h => by
    obtain ⟨hp, g, d, tk, os⟩ := s; obtain ⟨hl, h⟩ := h
    have hsub := sub_enumerate
    have hL : Heap.IsTuple (Shared.heap ⟨hp, g, d, tk, os⟩) l items := ⟨_, hl, rfl, n, rfl⟩
    wp_walk using wpAny_loadPart' hl
    refine wpAny_stack_any fun st => wpAny_pure ?_
    split
    · rename_i c _ _ _ _ _
      cases (c == Value.type "enumerate")
      · wp_walk using wpAny_loadPart' hl, wpAny_pyIter_tuple hL
        exact ⟨_, rfl, h⟩
      · wp_walk using wpAny_loadPart' hl, wpAny_pyIter_tuple hL
        exact ⟨_, rfl, h⟩
    · wp_walk using wpAny_loadPart' hl, wpAny_pyIter_tuple hL
      exact ⟨_, rfl, h⟩
section
variable {prog : Program} {w : World} {A : Around} {E : Value → Shared → Prop} {s : Shared}
theorem my_enumerate_tuple {l : Addr} {items : Array Value} {Q : Value → Shared → Prop} (hL : s.heap.IsTuple l items)
    (h : ∀ h', IsEnum h' (s.heap.objs.size + 1) s.heap.objs.size 0 .none → h'.IsTupleIter s.heap.objs.size l 0 → h'.objs.size = s.heap.objs.size + 2 →
      (∀ b o, s.heap.get? b = some o → h'.get? b = some o) → Q (.ref (s.heap.objs.size + 1)) { s with heap := h' }) :
    wpAny (model prog w) A (call (.type "enumerate") [.ref l]) Q E s := by
  obtain ⟨⟨c, dct, dt, sl⟩, hl, hc, n, hd⟩ := hL
  replace hc : c = .type "tuple" := hc
  replace hd : dt = .seq items n := hd
  subst hc hd
  refine callType_new F.called_enumerate (by decide) (F.typeCall_enumerate_1 _) (F.newCall_enumerate_1 _) (fun obj => F.args_object_init_2 obj _) F.entry_enumerate_new
    (my_enumerate_newT l items n dct sl) ⟨hl, ?_⟩
  have hz : (s.heap.push { cls := .type "tuple_iterator", data := .fields #[.ref l, .int 0 0] }).objs.size = s.heap.objs.size + 1 := Heap.size_push ..
  show _ ∧ _
  rw [hz]
  have he : IsEnum ((s.heap.push { cls := .type "tuple_iterator", data := .fields #[.ref l, .int 0 0] }).push
      { cls := .type "enumerate", data := .fields #[.none, .bool false, .ref s.heap.objs.size, rawInt 0, .none, .none] }) (s.heap.objs.size + 1) s.heap.objs.size 0 .none := by
    have := Heap.get?_push_size (s.heap.push { cls := .type "tuple_iterator", data := .fields #[.ref l, .int 0 0] })
      (o := { cls := .type "enumerate", data := .fields #[.none, .bool false, .ref s.heap.objs.size, rawInt 0, .none, .none] }) rfl
    rw [hz] at this; exact this
  refine ⟨⟨_, he, rfl⟩, h _ he ⟨_, Heap.get?_push_of_some _ (Heap.get?_push_size _ rfl), rfl, rfl⟩ (by rw [Heap.size_push, hz]) fun b o x => Heap.get?_push_of_some _ (Heap.get?_push_of_some _ x)⟩
end
end PySem
namespace L2
open PySem PySem.Spec PyProof.Rows
def IteT (K : PySem.W.Frag) (a : Addr) : It :=
  ⟨fun i H => ∃ (xs : List V) (x : V), SqT K H a xs ∧ xs[i]? = some x, fun i H v H' => ∃ T x, v = .ref T ∧ H T = none ∧ H' = upd H T (.tup [.int (i : Nat), x]) ∧ ∀ xs, SqT K H a xs → xs[i]? = some x, fun i H => ∃ xs : List V, SqT K H a xs ∧ i = xs.length⟩
theorem turn_enumT {P : Program} {w : World} {K : PySem.W.Frag} {elts : List Expr} {kk : Nat} {tpos : Pos} (a e it : Addr) :
    Turn P w K (.Tuple elts kk tpos) (IteT K a) [e, it] e (fun i h => (∃ old, IsEnum h e it ((i : Nat) : Int) old) ∧ h.IsTupleIter it a i ∧ e ≠ it ∧ e ≠ a ∧ it ≠ a) where
  mem := by simp
  obj := fun i h st b hb => by
    obtain ⟨⟨old, he⟩, ⟨o, ho, hc, hd⟩, _⟩ := st
    have e' : b = e ∨ b = it := by simpa using hb
    rcases e' with z | z
    · rw [z]; exact ⟨_, he, fun v q => nomatch q⟩
    · rw [z]; exact ⟨o, ho, fun v q => by rw [hd] at q; cases q⟩
  keep := fun i h h' st k => let ⟨⟨old, he⟩, hi, hne⟩ := st; ⟨⟨old, k e (by simp) _ he⟩, hi.at fun o q => k it (by simp) o q, hne⟩
  item := by
    intro X hP hw hK hc i pins s σ H E I hf st hg
    subst hP hw hK
    obtain ⟨⟨old, he⟩, hit, hne, hea, hia⟩ := st
    obtain ⟨xs, x, hq, hx⟩ := hg
    obtain ⟨its, rv, p, hz⟩ := I.tuple hq
    have p' : s.heap.IsTuple a its.toArray := p
    obtain ⟨u, hu, ru⟩ := rv.get hx
    have hel : e < s.heap.objs.size := Heap.lt_size he
    have hil : it < s.heap.objs.size := by obtain ⟨_, q, _⟩ := hit; exact Heap.lt_size q
    have D := Draws.tuple (prog := X.prog) (w := X.w) (A := X.A.in1) (I.ok.hd hc) it a hia.symm its.toArray
    refine wpAny_pyNext_enum_itemD D he ⟨hit, p'⟩ (by have := (List.getElem?_eq_some_iff.mp hu).1; simpa using this) hne (by simp [hne, hea]) fun x' h' tk hx' ho hit' hT hsz hk => ?_
    have hxu : x' = u := by
      have e1 : its[i]? = some x' := by simpa using hx'
      rw [hu] at e1
      exact (Option.some.inj e1).symm
    subst hxu
    obtain ⟨hit', _⟩ := hit'
    refine ⟨_, rfl, wpAny_letOwnedTupleGo_enum (s := { s with heap := h', toks := tk + 1 }) ho fun h'' he' sb => ?_⟩
    have hT2 : h''.get? s.heap.objs.size = some { cls := .type "tuple", data := .seq #[.int i tk, x'] } := (sb.2 _ (Nat.ne_of_gt hel)).trans hT
    have new : ObjOk X.prog X.w (upd H s.heap.objs.size (.tup [.int (i : Nat), x])) h'' s.heap.objs.size (.tup [.int (i : Nat), x]) :=
      ⟨by show 2 ≤ sizeLine; decide, [.int i tk, x'], .cons ⟨_, rfl⟩ (.cons ru .nil), ⟨_, hT2, rfl, _, rfl⟩⟩
    have I1 : Inv X pins σ (upd H s.heap.objs.size (.tup [.int (i : Nat), x])) { s with heap := h'', toks := tk + 1 } :=
      I.turnedNew (ch := [e, it]) (fun b ob hb q => (sb.2 b (fun z => hb (by simp [z]))).trans (hk b ob (fun z => hb (by simp [z])) (fun z => hb (by simp [z])) q)) hf (Nat.le_refl _) new
    refine ⟨.ref s.heap.objs.size, _, I1, rfl, ⟨_, x, rfl, I.hok.fresh (Nat.le_refl _), rfl, fun ys hy => by rw [I.tuple_inj hy hq]; exact hx⟩, ⟨⟨x', ?_⟩, hit'.at fun o q => (sb.2 it (Ne.symm hne)).trans q, hne, hea, hia⟩, fun b hb => ?_⟩
    · have e1 : ((i + 1 : Nat) : Int) = (i : Int) + 1 := by omega
      rw [e1]; exact he'
    · have hb' : b < s.heap.objs.size := by
        have e' : b = e ∨ b = it := by simpa using hb
        rcases e' with z | z
        · rw [z]; exact hel
        · rw [z]; exact hil
      rw [upd_ne (Nat.ne_of_lt hb')]
      exact (hf b hb).1
  done := by
    intro X hP hw hK hc i pins s σ H E I hf st hg
    subst hP hw hK
    obtain ⟨⟨old, he⟩, hit, hne, hea, hia⟩ := st
    obtain ⟨xs, hq, hx⟩ := hg
    obtain ⟨its, rv, p, hz⟩ := I.tuple hq
    have p' : s.heap.IsTuple a its.toArray := p
    obtain ⟨f0, f1, f2, f3, f4, f5⟩ := hf it (by simp)
    have hl := rv.length
    have D := Draws.tuple (prog := X.prog) (w := X.w) (A := X.A.in1) (I.ok.hd hc) it a hia.symm its.toArray
    have hn : i = its.toArray.size := by rw [hx, hl]; simp
    refine wpAny_pyNext_enum_endD D he ⟨hn ▸ hit, p'⟩ fun h' eb => ⟨rfl, I.turned (t' := s.toks) (fun b o hb q => eb b o hb q) f0 f1 f3 f4 f5⟩
  self := fun A i s Q E st h => let ⟨⟨_, he⟩, _⟩ := st; wpAny_pyIter_enum he h
/-- enumerate(list | tuple) -/
def iEnumS (K : PySem.W.Frag) (ta : TA) : TI := fun σ H R => ta σ H fun vs H1 => ∃ a xs, vs = [.ref a] ∧ ((SqL K H1 a xs ∧ R (Ite K a) H1) ∨ (SqT K H1 a xs ∧ R (IteT K a) H1))
theorem pi_enumS {X : Cx} {e : Expr} {ta : TA} {p pos tpos : Pos} {elts : List Expr} {kk : Nat} (hg : Gl X "enumerate") (hm : X.mg "enumerate" = none) (ha : PA X [e] ta) (hs : starEach [e] X.env = [(false, eval e X.env)] := by rfl) :
    PI X (.Tuple elts kk tpos) (.Call (.Name "enumerate" p) [e] [] pos) (iEnumS X.K ta) := by
  refine ⟨fun pins s σ H R I h => ?_⟩
  refine Call_ (ld_blt I hg hm boot_enumerate (PyProof.Rows.callWith_type1 (thn (ha.run pos pins s σ H _ I h) fun us s1 ⟨vs, H1, I1, r1, q1⟩ => ?_) hs rfl))
  obtain ⟨a, xs, ex, q1⟩ := q1
  subst ex
  cases r1 with
  | cons r rr =>
    cases rr
    cases r
    have fpk : ∀ b ∈ [s1.heap.objs.size + 1, s1.heap.objs.size], FpOk X pins H1 b := fun b hb => by
      have e' : b = s1.heap.objs.size + 1 ∨ b = s1.heap.objs.size := by simpa using hb
      have hle : s1.heap.objs.size ≤ b := by
        rcases e' with z | z
        · rw [z]; exact Nat.le_add_right _ _
        · rw [z]; exact Nat.le_refl _
      exact I1.fpOk hle (I1.hok.fresh hle)
    rcases q1 with ⟨hq, q⟩ | ⟨hq, q⟩
    · obtain ⟨its, rv, p', hz⟩ := I1.list hq
      refine call_enumerate_list p'.isList fun h' he hit hsz hk => wpAny_pyIter_enum he ?_
      have I2 : Inv X pins σ H1 { s1 with heap := h' } := I1.kept (t' := s1.toks) hk
      exact ⟨s1.heap.objs.size + 1, [s1.heap.objs.size + 1, s1.heap.objs.size], _, _, H1, rfl, I2, turn_enum a (s1.heap.objs.size + 1) s1.heap.objs.size, ⟨⟨.none, he⟩, hit, Nat.succ_ne_self _⟩, fpk, q⟩
    · obtain ⟨its, rv, p', hz⟩ := I1.tuple hq
      have hla : a < s1.heap.objs.size := by obtain ⟨o, ho, _⟩ := p'; exact Heap.lt_size ho
      refine my_enumerate_tuple (show s1.heap.IsTuple a its.toArray from p') fun h' he hit hsz hk => wpAny_pyIter_enum he ?_
      have I2 : Inv X pins σ H1 { s1 with heap := h' } := I1.kept (t' := s1.toks) hk
      exact ⟨s1.heap.objs.size + 1, [s1.heap.objs.size + 1, s1.heap.objs.size], _, _, H1, rfl, I2, turn_enumT a (s1.heap.objs.size + 1) s1.heap.objs.size, ⟨⟨.none, he⟩, hit, Nat.succ_ne_self _, Nat.ne_of_gt (Nat.lt_succ_of_lt hla), Nat.ne_of_gt hla⟩, fpk, q⟩
theorem pi_enumSK {X : Cx} {K : PySem.W.Frag} {e : Expr} {ta : TA} {p pos tpos : Pos} {elts : List Expr} {kk : Nat} (h : X.K = K) (hg : Gl X "enumerate") (hm : X.mg "enumerate" = none) (ha : PA X [e] ta) (hs : starEach [e] X.env = [(false, eval e X.env)] := by rfl) :
    PI X (.Tuple elts kk tpos) (.Call (.Name "enumerate" p) [e] [] pos) (iEnumS K ta) := by subst h; exact pi_enumS hg hm ha hs
/-- a for over it: the pair's own tuple is new; Pv by the turn -/
theorem for_enumS {K : PySem.W.Frag} {a : Addr} {xs : List V} {g : TG} {tb : TS} {D : Ends} {σ : St} {H0 H : Hp} (hq : SqL K H0 a xs ∨ SqT K H0 a xs) (Pv : Nat → St → Hp → Prop) (h0 : Pv 0 σ H) (hm : ∀ i σ' H', Pv i σ' H' → ∀ b o, H0 b = some o → H' b = some o)
    (hs : ∀ i x σ H T, xs[i]? = some x → Pv i σ H → H T = none → g (.ref T) σ (upd H T (.tup [.int (i : Nat), x])) fun σ2 H2 => tb { D with nx := Pv (i + 1), ct := Pv (i + 1), bk := D.nx } σ2 H2) (hd : ∀ σ H, Pv xs.length σ H → D.nx σ H) :
    ((SqL K H a xs ∧ ∃ W : Nat → Nat → St → Hp → Prop, (∃ m, W 0 m σ H) ∧ ∀ i m σ H, W i m σ H →
      ((Ite K a).stop i H ∧ D.nx σ H) ∨ ((Ite K a).go i H ∧ ∃ N : St → Hp → Prop, (∀ σ' H', N σ' H' → ∃ m', m' < m ∧ W (i + 1) m' σ' H') ∧ ∀ x H', (Ite K a).yld i H x H' → g x σ H' fun σ2 H2 => tb { D with nx := N, ct := N, bk := D.nx } σ2 H2)) ∨
     (SqT K H a xs ∧ ∃ W : Nat → Nat → St → Hp → Prop, (∃ m, W 0 m σ H) ∧ ∀ i m σ H, W i m σ H →
      ((IteT K a).stop i H ∧ D.nx σ H) ∨ ((IteT K a).go i H ∧ ∃ N : St → Hp → Prop, (∀ σ' H', N σ' H' → ∃ m', m' < m ∧ W (i + 1) m' σ' H') ∧ ∀ x H', (IteT K a).yld i H x H' → g x σ H' fun σ2 H2 => tb { D with nx := N, ct := N, bk := D.nx } σ2 H2))) := by
  have mL : ∀ {i σ' H'}, SqL K H0 a xs → Pv i σ' H' → SqL K H' a xs := fun {i σ' H'} h p => by
    have k := hm i σ' H' p
    rcases h with (h | ⟨o, h⟩) | h
    · exact .inl (.inl (k _ _ h))
    · exact .inl (.inr ⟨o, k _ _ h⟩)
    · exact .inr h
  have mT : ∀ {i σ' H'}, SqT K H0 a xs → Pv i σ' H' → SqT K H' a xs := fun {i σ' H'} h p => by
    have k := hm i σ' H' p
    rcases h with (h | ⟨o, h⟩) | h
    · exact .inl (.inl (k _ _ h))
    · exact .inl (.inr ⟨o, k _ _ h⟩)
    · exact .inr h
  rcases hq with h | h
  · refine .inl ⟨mL h h0, fun i m σ H => m = xs.length - i ∧ i ≤ xs.length ∧ Pv i σ H, ⟨xs.length, by simp, Nat.zero_le _, h0⟩, ?_⟩
    rintro i m σ H ⟨rfl, hi, p⟩
    have q := mL h p
    by_cases hlt : i < xs.length
    · refine .inr ⟨⟨xs, xs[i], q, by simp [hlt]⟩, Pv (i + 1), fun σ' H' p' => ⟨xs.length - (i + 1), by omega, rfl, hlt, p'⟩, fun x H' y => ?_⟩
      obtain ⟨T, z, rfl, nT, rfl, hz⟩ := y
      exact hs i z σ H T (hz xs q) p nT
    · have e : i = xs.length := by omega
      subst e
      exact .inl ⟨⟨xs, q, Nat.le_refl _⟩, hd σ H p⟩
  · refine .inr ⟨mT h h0, fun i m σ H => m = xs.length - i ∧ i ≤ xs.length ∧ Pv i σ H, ⟨xs.length, by simp, Nat.zero_le _, h0⟩, ?_⟩
    rintro i m σ H ⟨rfl, hi, p⟩
    have q := mT h p
    by_cases hlt : i < xs.length
    · refine .inr ⟨⟨xs, xs[i], q, by simp [hlt]⟩, Pv (i + 1), fun σ' H' p' => ⟨xs.length - (i + 1), by omega, rfl, hlt, p'⟩, fun x H' y => ?_⟩
      obtain ⟨T, z, rfl, nT, rfl, hz⟩ := y
      exact hs i z σ H T (hz xs q) p nT
    · have e : i = xs.length := by omega
      subst e
      exact .inl ⟨⟨xs, q, rfl⟩, hd σ H p⟩
end L2


set_option Elab.async false
set_option linter.all false
set_option maxRecDepth 100000
set_option maxHeartbeats 4000000
namespace K1
open PySem PySem.Spec PyProof.Rows L2 RZ
/-! ### values as data: what stands at a place, found in the call's own objects -/
mutual
inductive Dv (H : Hp) : V → PyData → Prop
  | non : Dv H .non .none
  | bl (b : Bool) : Dv H (.bl b) (.bool b)
  | int (i : Int) : Dv H (.int i) (.int i)
  | str (x : Str) : Dv H (.str x) (.str x)
  | lst {a : Addr} {xs : List V} {ds : List PyData} : H a = some (.lst xs) → DvA H xs ds → Dv H (.ref a) (.list ds)
  | tup {a : Addr} {xs : List V} {ds : List PyData} : H a = some (.tup xs) → DvA H xs ds → Dv H (.ref a) (.tuple ds)
  | dic {a : Addr} : H a = some (.dK []) → Dv H (.ref a) (.dict [])
inductive DvA (H : Hp) : List V → List PyData → Prop
  | nil : DvA H [] []
  | cons {v : V} {vs : List V} {d : PyData} {ds : List PyData} : Dv H v d → DvA H vs ds → DvA H (v :: vs) (d :: ds)
end
mutual
theorem Dv.ext {H H' : Hp} (e : LamX.ExtN H H') : ∀ {v : V} {d : PyData}, Dv H v d → Dv H' v d
  | _, _, .non => .non
  | _, _, .bl b => .bl b
  | _, _, .int i => .int i
  | _, _, .str x => .str x
  | _, _, .lst h a => .lst (e _ _ h fun _ z => by cases z) (DvA.ext e a)
  | _, _, .tup h a => .tup (e _ _ h fun _ z => by cases z) (DvA.ext e a)
  | _, _, .dic h => .dic (e _ _ h fun _ z => by cases z)
theorem DvA.ext {H H' : Hp} (e : LamX.ExtN H H') : ∀ {vs : List V} {ds : List PyData}, DvA H vs ds → DvA H' vs ds
  | _, _, .nil => .nil
  | _, _, .cons h r => .cons (Dv.ext e h) (DvA.ext e r)
end
theorem Dv.same {H H' : Hp} {v : V} {d : PyData} (h : Dv H v d) (s : Same H H') : Dv H' v d := h.ext (LamX.ExtN.of s)
theorem DvA.same {H H' : Hp} {v : List V} {d : List PyData} (h : DvA H v d) (s : Same H H') : DvA H' v d := h.ext (LamX.ExtN.of s)
mutual
def noDic : PyData → Bool
  | .list xs => noDicA xs
  | .tuple xs => noDicA xs
  | .dict _ => false
  | _ => true
def noDicA : List PyData → Bool
  | [] => true
  | x :: r => noDic x && noDicA r
end
mutual
theorem Dv.dp {K : PySem.W.Frag} {H : Hp} : ∀ {v : V} {d : PyData}, Dv H v d → noDic d = true → Dp K H v d
  | _, _, .non, _ => .non
  | _, _, .bl b, _ => .bl b
  | _, _, .int i, _ => .int i
  | _, _, .str x, _ => .str x
  | _, _, .lst h a, n => .lst (sq h) (DvA.dp a n)
  | _, _, .tup h a, n => .tup (st h) (DvA.dp a n)
  | _, _, .dic h, n => by cases n
theorem DvA.dp {K : PySem.W.Frag} {H : Hp} : ∀ {vs : List V} {ds : List PyData}, DvA H vs ds → noDicA ds = true → DpAll K H vs ds
  | _, _, .nil, _ => .nil
  | _, _, .cons h r, n => .cons (Dv.dp h ((Bool.and_eq_true _ _).mp n).1) (DvA.dp r ((Bool.and_eq_true _ _).mp n).2)
end
theorem DvA.len {H : Hp} : ∀ {vs : List V} {ds : List PyData}, DvA H vs ds → vs.length = ds.length
  | _, _, .nil => rfl
  | _, _, .cons _ r => congrArg (· + 1) (DvA.len r)
theorem DvA.get {H : Hp} : ∀ {vs : List V} {ds : List PyData}, DvA H vs ds → ∀ {i : Nat} {v : V}, vs[i]? = some v → ∃ d, ds[i]? = some d ∧ Dv H v d
  | _, _, .nil, i, v, h => by simp at h
  | _, _, .cons hd r, 0, v, h => ⟨_, rfl, by simp at h; exact h ▸ hd⟩
  | _, _, .cons hd r, i + 1, v, h => by simpa using DvA.get r (i := i) (v := v) (by simpa using h)
theorem DvA.app {H : Hp} : ∀ {vs : List V} {ds : List PyData} {us : List V} {es : List PyData}, DvA H vs ds → DvA H us es → DvA H (vs ++ us) (ds ++ es)
  | _, _, _, _, .nil, h => h
  | _, _, _, _, .cons hd r, h => .cons hd (DvA.app r h)
def tyN : PyData → String
  | .none => "NoneType"
  | .bool _ => "bool"
  | .int _ => "int"
  | .str _ => "str"
  | .list _ => "list"
  | .tuple _ => "tuple"
  | .dict _ => "dict"
theorem Dv.ty {K : PySem.W.Frag} {H : Hp} {v : V} {d : PyData} (h : Dv H v d) : TyX K H v (.type (tyN d)) := by
  cases h with
  | non => exact .base .non
  | bl b => exact .base (.bl b)
  | int i => exact .base (.int i)
  | str x => exact .base (.str x)
  | lst e _ => exact .base (.lst e)
  | tup e _ => exact .base (.tup e)
  | dic e => exact .base (.dK e)
/-! ### what the checks say of data -/
def isInt : PyData → Bool | .int _ => true | _ => false
def isNum : PyData → Bool | .int n => decide (1 ≤ n) | _ => false
def isStr : PyData → Bool | .str _ => true | _ => false
def isTup : PyData → Bool | .tuple _ => true | _ => false
def isSeq : PyData → Bool | .tuple _ => true | .list _ => true | _ => false
def itemsD : PyData → List PyData | .list xs => xs | .tuple xs => xs | _ => []
def dI : PyData → Int | .int n => n | _ => 0
def isNums (d : PyData) : Bool := isSeq d && (itemsD d).all isNum
def ascB (ns : List Int) : Bool := ((ns.zip (ns.drop 1)).map fun p => decide (p.1 < p.2)).all id
theorem kit_int (d : PyData) : ∃ b1 b2, kitB (tyN d) "int" = some b1 ∧ kitB (tyN d) "bool" = some b2 ∧ (b1 && !b2) = isInt d := by
  cases d with
  | none => exact ⟨false, false, (show kitB "NoneType" "int" = some false by decide +kernel), (show kitB "NoneType" "bool" = some false by decide +kernel), rfl⟩
  | bool b => exact ⟨true, true, (show kitB "bool" "int" = some true by decide +kernel), (show kitB "bool" "bool" = some true by decide +kernel), rfl⟩
  | int b => exact ⟨true, false, (show kitB "int" "int" = some true by decide +kernel), (show kitB "int" "bool" = some false by decide +kernel), rfl⟩
  | str b => exact ⟨false, false, (show kitB "str" "int" = some false by decide +kernel), (show kitB "str" "bool" = some false by decide +kernel), rfl⟩
  | list b => exact ⟨false, false, (show kitB "list" "int" = some false by decide +kernel), (show kitB "list" "bool" = some false by decide +kernel), rfl⟩
  | tuple b => exact ⟨false, false, (show kitB "tuple" "int" = some false by decide +kernel), (show kitB "tuple" "bool" = some false by decide +kernel), rfl⟩
  | dict b => exact ⟨false, false, (show kitB "dict" "int" = some false by decide +kernel), (show kitB "dict" "bool" = some false by decide +kernel), rfl⟩
theorem kit_str (d : PyData) : kitB (tyN d) "str" = some (isStr d) := by
  cases d with
  | none => exact (show kitB "NoneType" "str" = some false by decide +kernel)
  | bool b => exact (show kitB "bool" "str" = some false by decide +kernel)
  | int b => exact (show kitB "int" "str" = some false by decide +kernel)
  | str b => exact (show kitB "str" "str" = some true by decide +kernel)
  | list b => exact (show kitB "list" "str" = some false by decide +kernel)
  | tuple b => exact (show kitB "tuple" "str" = some false by decide +kernel)
  | dict b => exact (show kitB "dict" "str" = some false by decide +kernel)
theorem kit_tup (d : PyData) : kitB (tyN d) "tuple" = some (isTup d) := by
  cases d with
  | none => exact (show kitB "NoneType" "tuple" = some false by decide +kernel)
  | bool b => exact (show kitB "bool" "tuple" = some false by decide +kernel)
  | int b => exact (show kitB "int" "tuple" = some false by decide +kernel)
  | str b => exact (show kitB "str" "tuple" = some false by decide +kernel)
  | list b => exact (show kitB "list" "tuple" = some false by decide +kernel)
  | tuple b => exact (show kitB "tuple" "tuple" = some true by decide +kernel)
  | dict b => exact (show kitB "dict" "tuple" = some false by decide +kernel)
theorem kit_seq {K : PySem.W.Frag} (d : PyData) : PySem.W.kitAny K (.type (tyN d)) [.type "list", .type "tuple"] = some (isSeq d) := by
  have kt : ∀ {t : String} {b1 b2 : Bool}, kitB t "list" = some b1 → kitB t "tuple" = some b2 → PySem.W.kitAny K (.type t) [.type "list", .type "tuple"] = some (b1 || b2) := fun {t b1 b2} h1 h2 =>
    kitAny_cons (b := b1) (kit_ty h1) (fun e => by subst e; exact kitAny_cons (b := b2) (kit_ty h2) (fun e => by subst e; exact kitAny_nil) fun e => by subst e; rfl) fun e => by subst e; rfl
  cases d with
  | none => exact kt (t := "NoneType") (b1 := false) (b2 := false) (by decide +kernel) (by decide +kernel)
  | bool b => exact kt (t := "bool") (b1 := false) (b2 := false) (by decide +kernel) (by decide +kernel)
  | int b => exact kt (t := "int") (b1 := false) (b2 := false) (by decide +kernel) (by decide +kernel)
  | str b => exact kt (t := "str") (b1 := false) (b2 := false) (by decide +kernel) (by decide +kernel)
  | list b => exact kt (t := "list") (b1 := true) (b2 := false) (by decide +kernel) (by decide +kernel)
  | tuple b => exact kt (t := "tuple") (b1 := false) (b2 := true) (by decide +kernel) (by decide +kernel)
  | dict b => exact kt (t := "dict") (b1 := false) (b2 := false) (by decide +kernel) (by decide +kernel)
/-- a list or a tuple of the call's own -/
def SeqH (H : Hp) (a : Addr) (xs : List V) : Prop := H a = some (.lst xs) ∨ H a = some (.tup xs)
theorem SeqH.same {H H' : Hp} {a : Addr} {xs : List V} (h : SeqH H a xs) (s : Same H H') : SeqH H' a xs := h.imp (s _ _) (s _ _)
theorem SeqH.len {K : PySem.W.Frag} {H : Hp} {a : Addr} {xs : List V} (h : SeqH H a xs) : SqL K H a xs ∨ SqT K H a xs := h.imp sq st
theorem Dv.seq {H : Hp} {v : V} {d : PyData} (h : Dv H v d) (hs : isSeq d = true) : ∃ a xs, v = .ref a ∧ SeqH H a xs ∧ DvA H xs (itemsD d) := by
  cases h with
  | lst e r => exact ⟨_, _, rfl, .inl e, r⟩
  | tup e r => exact ⟨_, _, rfl, .inr e, r⟩
  | _ => cases hs
theorem Dv.tupD {H : Hp} {v : V} {d : PyData} (h : Dv H v d) (hs : isTup d = true) : ∃ a xs, v = .ref a ∧ H a = some (.tup xs) ∧ DvA H xs (itemsD d) ∧ d = .tuple (itemsD d) := by
  cases h with
  | tup e r => exact ⟨_, _, rfl, e, r, rfl⟩
  | _ => cases hs
/-- what a walk over a list or a tuple asks -/
def SeqR (K : PySem.W.Frag) (a : Addr) (H : Hp) (R : It → Hp → Prop) : Prop := ((∃ xs, SqL K H a xs) ∧ R (Itl K a) H) ∨ ((∃ xs, SqT K H a xs) ∧ R (Itt K a) H)
def ZipR (K : PySem.W.Frag) (a b : Addr) (xs ys : List V) (H : Hp) (R : It → Hp → Prop) : Prop := (SqL K H a xs ∧ SqL K H b ys ∧ R (Itz K a b) H) ∨ (SqT K H a xs ∧ SqT K H b ys ∧ R (ItzT K a b) H)
/-- a walk of a list or a tuple of the call's own -/
theorem seq_walk {K : PySem.W.Frag} {H : Hp} {a : Addr} {xs : List V} {R : It → Hp → Prop} (h : SeqH H a xs)
    (k : ∀ (J : It) (Gd : Hp → Prop), Walk J xs.length Gd (YAt xs) → (∀ H', Same H H' → Gd H') → R J H) : SeqR K a H R := by
  rcases h with h | h
  · exact .inl ⟨⟨xs, sq h⟩, k _ _ walk_list fun H' s => sq (s _ _ h)⟩
  · exact .inr ⟨⟨xs, st h⟩, k _ _ walk_tup fun H' s => st (s _ _ h)⟩
theorem walk_zipT {K : PySem.W.Frag} {a b : Addr} {xs ys : List V} {n : Nat} (hn : n = min xs.length ys.length) : Walk (ItzT K a b) n (fun H => SqT K H a xs ∧ SqT K H b ys) (YPair (fun i => xs[i]?) (fun i => ys[i]?)) := by
  subst hn
  refine ⟨fun i _ hi q => ?_, fun _ q => ⟨xs, ys, q.1, q.2, by omega⟩, fun i H v H' _ q y => ?_⟩
  · have h1 : i < xs.length := by omega
    have h2 : i < ys.length := by omega
    exact ⟨xs, ys, xs[i], ys[i], q.1, q.2, by simp [h1], by simp [h2]⟩
  · obtain ⟨T, x, z, h1, h2, h3, h4, h5⟩ := y
    exact ⟨T, x, z, h1, h2, h3, h4 xs q.1, h5 ys q.2⟩
theorem zip_walkL {K : PySem.W.Frag} {H : Hp} {a b : Addr} {xs ys : List V} {R : It → Hp → Prop} (h1 : H a = some (.lst xs)) (h2 : H b = some (.lst ys))
    (k : ∀ (J : It) (Gd : Hp → Prop), Walk J (min xs.length ys.length) Gd (YPair (fun i => xs[i]?) (fun i => ys[i]?)) → (∀ H', Same H H' → Gd H') → R J H) : ZipR K a b xs ys H R :=
  .inl ⟨sq h1, sq h2, k _ _ (walk_zip rfl) fun H' s => ⟨sq (s _ _ h1), sq (s _ _ h2)⟩⟩
theorem zip_walkT {K : PySem.W.Frag} {H : Hp} {a b : Addr} {xs ys : List V} {R : It → Hp → Prop} (h1 : H a = some (.tup xs)) (h2 : H b = some (.tup ys))
    (k : ∀ (J : It) (Gd : Hp → Prop), Walk J (min xs.length ys.length) Gd (YPair (fun i => xs[i]?) (fun i => ys[i]?)) → (∀ H', Same H H' → Gd H') → R J H) : ZipR K a b xs ys H R :=
  .inr ⟨st h1, st h2, k _ _ (walk_zipT rfl) fun H' s => ⟨st (s _ _ h1), st (s _ _ h2)⟩⟩
structure Bj (mg : Str → Option Value) : Prop extends Bi mg where
  all : mg "all" = none
  zip : mg "zip" = none
section
variable {X : Cx} {K : PySem.W.Frag}
theorem sl_seqK (h : X.K = K) : SlR X (fun x lo hi H Q => rSlL K x lo hi H Q ∨ rSlA K x lo hi H Q) := by subst h; exact SlR.or sl_list sl_tupA
theorem call_isiK1 (h : X.K = K) : CallR X (.builtin "isinstance") (rIsi K) := by subst h; exact call_isi
theorem call_isiTK (h : X.K = K) : CallR X (.builtin "isinstance") (rIsiT K) := by subst h; exact call_isiT
theorem cr_allK (h : X.K = K) (hc : X.calm = true) : CallR X (.builtin "all") (rAll K) := by subst h; exact cr_all hc
theorem ix_seqK (h : X.K = K) : IxR X (rIx K) := by subst h; exact ix_seq
theorem pe_const {x : Str} {pos : Pos} {n : Int} (hm : ∃ t, X.mg x = some (.int n t)) (hg : Gl X x) (hd : (x == ("__debug__" : Str)) = false := by decide) : PE X (.Name x pos) (tC (.int n)) := by
  obtain ⟨t, hm⟩ := hm
  exact pe_glob hg hm ⟨t, rfl⟩ hd
/-- a walk over a list or a tuple -/
def iSeq (K : PySem.W.Frag) (tl : TE) : TI := fun σ H R => tl σ H fun x H1 => ∃ a, x = .ref a ∧ SeqR K a H1 R
theorem pi_seqK {tg l : Expr} {tl : TE} (h : X.K = K) (hl : PE X l tl) : PI X tg l (iSeq K tl) := by
  subst h
  refine ⟨fun pins s σ H R I h => ?_⟩
  refine thn (hl.run pins s σ H _ I h) fun v s1 ⟨x, H1, I1, r1, q1⟩ => ?_
  obtain ⟨a, e, q1⟩ := q1
  subst e
  cases r1
  have fr : ∀ b ∈ [s1.heap.objs.size], FpOk X pins H1 b := fun b hb => by
    have e : b = s1.heap.objs.size := by simpa using hb
    subst e
    exact I1.fpOk (Nat.le_refl _) (I1.hok.fresh (Nat.le_refl _))
  rcases q1 with ⟨⟨xs, hq⟩, q⟩ | ⟨⟨xs, hq⟩, q⟩
  · obtain ⟨its, rv, p, hz⟩ := I1.list hq
    refine wpAny_pyIter_list p.isList ?_
    exact ⟨s1.heap.objs.size, [s1.heap.objs.size], _, _, H1, rfl, I1.kept (t' := s1.toks) fun b o e => Heap.get?_push_of_some _ e, turn_list a _, ⟨_, Heap.get?_push_size _ rfl, rfl, rfl⟩, fr, q⟩
  · obtain ⟨its, rv, p, hz⟩ := I1.tuple hq
    refine wpAny_pyIter_tuple (show s1.heap.IsTuple a its.toArray from p) ?_
    exact ⟨s1.heap.objs.size, [s1.heap.objs.size], _, _, H1, rfl, I1.kept (t' := s1.toks) fun b o e => Heap.get?_push_of_some _ e, turn_tuple a _, ⟨_, Heap.get?_push_size _ rfl, rfl, rfl⟩, fr, q⟩
def iZipS (K : PySem.W.Frag) (ta : TA) : TI := fun σ H R => ta σ H fun vs H1 => ∃ a b xs ys, vs = [.ref a, .ref b] ∧ ZipR K a b xs ys H1 R
theorem pi_zipSK {e e2 : Expr} {ta : TA} {p pos tpos : Pos} {elts : List Expr} {kk : Nat} (h : X.K = K) (hg : Gl X "zip") (hm : X.mg "zip" = none) (ha : PA X [e, e2] ta)
    (hs : starEach [e, e2] X.env = (false, eval e X.env) :: starEach [e2] X.env := by rfl) (hpl : (backTo pos (starEach [e2] X.env)).any (·.1) = false := by rfl) :
    PI X (.Tuple elts kk tpos) (.Call (.Name "zip" p) [e, e2] [] pos) (iZipS K ta) := by subst h; exact pi_zipA hg hm ha hs hpl
end
end K1


set_option Elab.async false
set_option linter.all false
set_option maxRecDepth 100000
set_option maxHeartbeats 4000000
namespace K1
open PySem PySem.Spec PyProof.Rows L2 RZ
abbrev sIsInt : Stmt := st_is_integer
abbrev sIsNum : Stmt := st_is_number
abbrev sIsNums : Stmt := st_is_numbers
abbrev sIsAsc : Stmt := st_is_ascending
abbrev nV : List Str := ["value"]
abbrev pV : List Str := ["value"]
theorem scIsInt : FnScope nV pV (defScope sIsInt) := ⟨rfl, rfl, rfl, by decide +kernel, rfl, by decide +kernel, by decide +kernel⟩
theorem scIsNum : FnScope nV pV (defScope sIsNum) := ⟨rfl, rfl, rfl, by decide +kernel, rfl, by decide +kernel, by decide +kernel⟩
abbrev nIsNums : List Str := ["value", "number"]
theorem scIsNums : FnScope nIsNums pV (defScope sIsNums) := ⟨rfl, rfl, rfl, by decide +kernel, rfl, by decide +kernel, by decide +kernel⟩
abbrev nIsAsc : List Str := ["numbers", "one", "other"]
abbrev pIsAsc : List Str := ["numbers"]
theorem scIsAsc : FnScope nIsAsc pIsAsc (defScope sIsAsc) := ⟨rfl, rfl, rfl, by decide +kernel, rfl, by decide +kernel, by decide +kernel⟩
/-- a def that tells a bool of one value, and makes nothing -/
def spB1 (f : PyData → Bool) : Sp := fun vs H Q _ => ∃ (x : V) (d : PyData), vs = [x] ∧ Dv H x d ∧ Q (.bl (f d)) H
def spIsNums : Sp := fun vs H Q _ => ∃ (x : V) (d : PyData), vs = [x] ∧ Dv H x d ∧ (itemsD d).length ≤ 1000 ∧ ∀ H', Same H H' → Q (.bl (isNums d)) H'
def spIsAsc : Sp := fun vs H Q _ => ∃ (a : Addr) (ns : List Int), vs = [.ref a] ∧ SeqH H a (ns.map V.int) ∧ ns.length ≤ 1000 ∧ ∀ H', Same H H' → Q (.bl (ascB ns)) H'
section
variable {P : Program} {w : World} {K : PySem.W.Frag} {mg : Str → Option Value} {base : Heap}
theorem ok_isInt {f : Addr} {fd : FuncData} (T : Bj mg) (F : Fun K "is_integer" "is_integer" sIsInt f fd) : FnOk P w K mg base CX0 1 f fd pV (spB1 isInt) := by
  refine F.ok scIsInt (fun vs H Q E h => ?_) (fun cdv A outer s H vs Q E hr h => ?_)
  · obtain ⟨x, d, rfl, _⟩ := h
    rfl
  · obtain ⟨x, d, rfl, hd, q⟩ := h
    obtain ⟨b1, b2, h1, h2, hb⟩ := kit_int d
    have ty := hd.ty (K := K)
    refine ⟨_, (pss_one (ps_ret (pe_and (pe_callB (call_isiK1 (K := K) rfl) (by rfl) T.isinstance PyProof.Rows.boot_isinstance (pa_cons (pv 0) (pa_cons (pe_bltn (v := .ty "int") rfl T.int PyProof.Rows.boot_int rfl) pa_nil))) (pe_one (pe_not (pe_callB (call_isiK1 (K := K) rfl) (by rfl) T.isinstance PyProof.Rows.boot_isinstance (pa_cons (pv 0) (pa_cons (pe_bltn (v := .ty "bool") rfl T.bool PyProof.Rows.boot_bool rfl) pa_nil)))))))), ?_⟩
    refine ⟨_, rfl, x, .ty "int", .type _, .type "int", b1, rfl, .ty _, ty, kit_ty h1, _, rfl, ?_⟩
    rw [← hb] at q
    cases b1 with
    | true => exact itbT rfl ⟨_, rfl, x, .ty "bool", .type _, .type "bool", b2, rfl, .ty _, ty, kit_ty h2, _, rfl, q⟩
    | false => exact itbF rfl q
theorem def_isInt (T : Bj mg) (a : At K mg "is_integer" sIsInt) : Def P w K mg base CX0 1 "is_integer" pV (spB1 isInt) :=
  a.def (fun _ _ _ _ _ _ us hl => match us, hl with | [_], _ => rfl) fun f fd F => ok_isInt T F
theorem ok_isNum {f : Addr} {fd : FuncData} (T : Bj mg) (D_is_integer : Def P w K mg base CX0 1 "is_integer" pV (spB1 isInt)) (F : Fun K "is_number" "is_number" sIsNum f fd) : FnOk P w K mg base CX0 2 f fd pV (spB1 isNum) := by
  refine F.ok scIsNum (fun vs H Q E h => ?_) (fun cdv A outer s H vs Q E hr h => ?_)
  · obtain ⟨x, d, rfl, _⟩ := h
    rfl
  · obtain ⟨x, d, rfl, hd, q⟩ := h
    refine ⟨_, (pss_one (ps_ret (pe_and (pe_def D_is_integer (hr.mono (by decide)) rfl pass0 (pa_cons (pv 0) pa_nil)) (pe_one (pe_cmpR op_ge (pv 0) pe_int (nomark _)))))), ?_⟩
    refine ⟨_, rfl, x, d, rfl, hd, _, rfl, ?_⟩
    cases hd with
    | int n => exact itbT rfl ⟨_, rfl, _, _, rfl, rfl, q⟩
    | _ => exact itbF rfl q
theorem def_isNum (T : Bj mg) (D_is_integer : Def P w K mg base CX0 1 "is_integer" pV (spB1 isInt)) (a : At K mg "is_number" sIsNum) : Def P w K mg base CX0 2 "is_number" pV (spB1 isNum) :=
  a.def (fun _ _ _ _ _ _ us hl => match us, hl with | [_], _ => rfl) fun f fd F => ok_isNum T D_is_integer F
theorem ok_isNums {f : Addr} {fd : FuncData} (T : Bj mg) (D_is_number : Def P w K mg base CX0 2 "is_number" pV (spB1 isNum)) (F : Fun K "is_numbers" "is_numbers" sIsNums f fd) : FnOk P w K mg base CX0 3 f fd pV spIsNums := by
  have nd := scIsNums.nd
  refine F.ok scIsNums (fun vs H Q E h => ?_) (fun cdv A outer s H vs Q E hr h => ?_)
  · obtain ⟨x, d, rfl, _⟩ := h
    rfl
  · obtain ⟨x, d, rfl, hd, hl, q⟩ := h
    have ty := hd.ty (K := K)
    refine ⟨_, (pss_one (ps_ret (pe_and (pe_callB (call_isiTK (K := K) rfl) (by rfl) T.isinstance PyProof.Rows.boot_isinstance (pa_cons (pv 0) (pa_cons (pe_tup (pa_cons (pe_bltn (v := .ty "list") rfl T.list PyProof.Rows.boot_list rfl) (pa_cons (pe_bltn (v := .ty "tuple") rfl T.tuple PyProof.Rows.boot_tuple rfl) pa_nil))) pa_nil))) (pe_one (pe_callB (cr_allK (K := K) rfl rfl) (by rfl) T.all PyProof.Rows.boot_all (pa_cons (pe_lc (own := [("number", 1)]) (g := gName 1) (tt := tYes) rfl nd (pi_seqK (K := K) rfl (pv 0)) (blkOk_by (own := [("number", 1)]) (N := nIsNums) (sc := defScope sIsNums) (by decide +kernel)) (fun _ _ _ _ _ => pg_name (i := 1) nd rfl (Or.inl rfl)) (fun _ _ _ _ _ => pts_nil) (fun _ _ _ _ _ => (pe_def D_is_number (hr.mono (by decide)) rfl pass0 (pa_cons (pv 1) pa_nil)))) pa_nil)))))), ?_⟩
    refine ⟨_, rfl, (by show 2 ≤ sizeLine; decide), fun tp ntp => ?_⟩
    have s1 := same_new (o := .tup [.ty "list", .ty "tuple"]) ntp
    refine ⟨x, tp, [.ty "list", .ty "tuple"], .type _, [.type "list", .type "tuple"], isSeq d, rfl, upd_same, .cons (.ty _) (.cons (.ty _) .nil), (hd.same s1).ty, kit_seq d, _, rfl, ?_⟩
    by_cases hs : isSeq d = true
    · refine itbT hs ?_
      obtain ⟨a, xs, rfl, hS, hA⟩ := hd.seq hs
      refine ⟨_, rfl, a, rfl, seq_walk (hS.same s1) fun J Gd wk hG D hD => ?_⟩
      generalize upd H tp (.tup [.ty "list", .ty "tuple"]) = H1 at s1 hD hG
      have hlen := hA.len
      refine lc_it wk (fun i H2 => Same H1 H2 ∧ H2 D = some (.lst ((((itemsD d).take i).map isNum).map V.bl))) ⟨same_new hD, upd_same⟩ (fun i H2 _ h => hG _ h.1) ?_ ?_
      · rintro i y H2 H3 hi ⟨s2, h2⟩ ⟨rfl, hy⟩
        obtain ⟨e, he, hde⟩ := (hA.same (s1.trans s2)).get hy
        refine ⟨rfl, tyes ⟨_, rfl, y, e, rfl, hde, _, h2, lt2 _ ?_, s2.mut hD, ?_⟩⟩
        · rw [List.length_map, List.length_map, List.length_take]; omega
        · rw [upd_same, take_more he]; simp
      · rintro H2 ⟨s2, h2⟩
        rw [hlen, List.take_length] at h2
        refine ⟨D, _, rfl, sq h2, ?_⟩
        have e : isNums d = ((itemsD d).map isNum).all id := by unfold isNums; rw [hs]; simp
        rw [← e]
        exact q _ (s1.trans s2)
    · have hs' : isSeq d = false := by simpa using hs
      rw [show isNums d = false by unfold isNums; rw [hs']; rfl] at q
      rw [hs']
      exact itbF rfl (q _ s1)
theorem def_isNums (T : Bj mg) (D_is_number : Def P w K mg base CX0 2 "is_number" pV (spB1 isNum)) (a : At K mg "is_numbers" sIsNums) : Def P w K mg base CX0 3 "is_numbers" pV spIsNums :=
  a.def (fun _ _ _ _ _ _ us hl => match us, hl with | [_], _ => rfl) fun f fd F => ok_isNums T D_is_number F
theorem cut1 (xs : List V) : cutV xs (some 1) none = xs.drop 1 := by
  unfold cutV
  rw [show (1 : Int) = ((1 : Nat) : Int) from rfl, HT.sIx_nat, HT.sIx_none]
  cases xs with
  | nil => rfl
  | cons x r =>
    rw [show min 1 (x :: r).length = 1 by rw [List.length_cons]; omega]
    exact List.take_of_length_le (by simp)
theorem ok_isAsc {f : Addr} {fd : FuncData} (T : Bj mg) (F : Fun K "is_ascending" "is_ascending" sIsAsc f fd) : FnOk P w K mg base CX0 1 f fd pIsAsc spIsAsc := by
  have nd := scIsAsc.nd
  refine F.ok scIsAsc (fun vs H Q E h => ?_) (fun cdv A outer s H vs Q E hr h => ?_)
  · obtain ⟨a, ns, rfl, _⟩ := h
    rfl
  · obtain ⟨a, ns, rfl, hS, hl, q⟩ := h
    refine ⟨_, (pss_one (ps_ret (pe_callB (cr_allK (K := K) rfl rfl) (by rfl) T.all PyProof.Rows.boot_all (pa_cons (pe_lc (own := [("one", 1), ("other", 2)]) (g := gTup K 2 (gCons (gName 1) (gCons (gName 2) gNil))) (tt := tYes) rfl nd (pi_zipSK (K := K) rfl (by rfl) T.zip (pa_cons (pv 0) (pa_cons (pe_slice (sl_seqK (K := K) rfl) (pv 0) (po_some pe_int) po_none) pa_nil))) (blkOk_by (own := [("one", 1), ("other", 2)]) (N := nIsAsc) (sc := defScope sIsAsc) (by decide +kernel)) (fun _ _ _ _ _ => pg_tup rfl (pgs_cons (pg_name (i := 1) nd rfl (Or.inl rfl)) (pgs_cons (pg_name (i := 2) nd rfl (Or.inl rfl)) pgs_nil))) (fun _ _ _ _ _ => pts_nil) (fun _ _ _ _ _ => (pe_cmpR op_lt (pv 1) (pv 2) (nomark _)))) pa_nil)))), ?_⟩
    have hz : (ns.zip (ns.drop 1)).length = min (ns.map V.int).length ((ns.map V.int).drop 1).length := by simp
    have hget : ∀ i < (ns.zip (ns.drop 1)).length, ∃ x y, (ns.zip (ns.drop 1))[i]? = some (x, y) ∧ (ns.map V.int)[i]? = some (.int x) ∧ ((ns.map V.int).drop 1)[i]? = some (.int y) := fun i hi => by
      have h1 : i < ns.length := by rw [List.length_zip] at hi; omega
      have h2 : i < (ns.drop 1).length := by rw [List.length_zip] at hi; omega
      refine ⟨ns[i], (ns.drop 1)[i], ?_, ?_, ?_⟩
      · rw [List.getElem?_eq_getElem hi, List.getElem_zip]
      · simp [h1]
      · rw [← List.map_drop, List.getElem?_map, List.getElem?_eq_getElem h2]; rfl
    have e0 : ascB ns = ((ns.zip (ns.drop 1)).map fun p => decide (p.1 < p.2)).all id := rfl
    have P0 : ∀ {H1 : Hp} {J : It} {Gd : Hp → Prop} {D : Addr}, Same H H1 → Walk J (min (ns.map V.int).length ((ns.map V.int).drop 1).length) Gd (YPair (fun i => (ns.map V.int)[i]?) (fun i => ((ns.map V.int).drop 1)[i]?)) → (∀ H', Same H1 H' → Gd H') → H1 D = none →
        ∀ (i : Nat) (y : V) (H2 H3 : Hp), i < min (ns.map V.int).length ((ns.map V.int).drop 1).length → (Same H1 H2 ∧ H2 D = some (.lst ((((ns.zip (ns.drop 1)).take i).map fun p => decide (p.1 < p.2)).map V.bl))) →
        YPair (fun i => (ns.map V.int)[i]?) (fun i => ((ns.map V.int).drop 1)[i]?) i H2 y H3 → ∃ (T : Addr) (u v : Int), y = .ref T ∧ H3 T = some (.tup [.int u, .int v]) ∧ H3 D = some (.lst ((((ns.zip (ns.drop 1)).take i).map fun p => decide (p.1 < p.2)).map V.bl)) ∧
          (Same H1 (upd H3 D (.lst ((((ns.zip (ns.drop 1)).take i).map fun p => decide (p.1 < p.2)).map V.bl ++ [V.bl (decide (u < v))]))) ∧ (upd H3 D (.lst ((((ns.zip (ns.drop 1)).take i).map fun p => decide (p.1 < p.2)).map V.bl ++ [V.bl (decide (u < v))]))) D =
            some (.lst ((((ns.zip (ns.drop 1)).take (i + 1)).map fun p => decide (p.1 < p.2)).map V.bl))) := by
      intro H1 J Gd D s1 wk hG hD i y H2 H3 hi ⟨s2, h2⟩ ⟨T, x', y', e1, nT, e2, e3, e4⟩
      obtain ⟨u, v, g1, g2, g3⟩ := hget i (by rw [hz]; exact hi)
      obtain rfl := (Option.some.inj (g2.symm.trans e3)).symm
      obtain rfl := (Option.some.inj (g3.symm.trans e4)).symm
      subst e1 e2
      have nTD : T ≠ D := (ne_of_none h2 nT).symm
      refine ⟨T, u, v, rfl, upd_same, by rw [upd_ne nTD.symm]; exact h2, (s2.new nT).mut hD, ?_⟩
      rw [upd_same, take_more g1]
      simp
    have len2 : ns.length ≤ 1000 := hl
    rcases hS with hS | hS
    · refine ⟨.ref a, rfl, .ref a, rfl, 1, rfl, .inl ⟨a, _, rfl, sq hS, fun b nb => ?_⟩⟩
      rw [cut1]
      have s1 := same_new (o := .lst ((ns.map V.int).drop 1)) nb
      refine ⟨a, b, _, _, rfl, zip_walkL (s1 _ _ hS) upd_same fun J Gd wk hG D hD => lc_it wk (fun i H2 => Same (upd H b (.lst ((ns.map V.int).drop 1))) H2 ∧ H2 D = some (.lst ((((ns.zip (ns.drop 1)).take i).map fun p => decide (p.1 < p.2)).map V.bl))) ⟨same_new hD, upd_same⟩ (fun i H2 _ h => hG _ h.1) ?_ ?_⟩
      · rintro i y H2 H3 hi h2 hy
        obtain ⟨T, u, v, rfl, hT, h3, fin⟩ := P0 s1 wk hG hD i y H2 H3 hi h2 hy
        refine ⟨T, _, rfl, st hT, rfl, _, _, rfl, _, _, rfl, rfl, rfl, tyes ⟨_, rfl, _, rfl, _, _, rfl, rfl, _, h3, lt2 _ ?_, fin⟩⟩
        rw [List.length_map, List.length_map, List.length_take, List.length_zip]; omega
      · rintro H2 ⟨s2, h2⟩
        rw [← hz, List.take_length] at h2
        exact ⟨D, _, rfl, sq h2, q _ (s1.trans s2)⟩
    · refine ⟨.ref a, rfl, .ref a, rfl, 1, rfl, .inr ⟨a, _, rfl, st hS, fun hw => ?_, fun _ b nb => ?_⟩⟩
      · have en : ns = [] := by
          have h1 := hw.1
          rw [show (1 : Int) = ((1 : Nat) : Int) from rfl, HT.sIx_nat, List.length_map] at h1
          exact List.eq_nil_of_length_eq_zero (by omega)
        subst en
        refine ⟨a, a, _, _, rfl, zip_walkT hS hS fun J Gd wk hG D hD => lc_it wk (fun i H2 => Same H H2 ∧ H2 D = some (.lst [])) ⟨same_new hD, upd_same⟩ (fun i H2 _ h => hG _ h.1) ?_ ?_⟩
        · rintro i y H2 H3 hi
          simp at hi
        · rintro H2 ⟨s2, h2⟩
          exact ⟨D, [], rfl, sq h2, q _ s2⟩
      · rw [cut1]
        have s1 := same_new (o := .tup ((ns.map V.int).drop 1)) nb
        refine ⟨a, b, _, _, rfl, zip_walkT (s1 _ _ hS) upd_same fun J Gd wk hG D hD => lc_it wk (fun i H2 => Same (upd H b (.tup ((ns.map V.int).drop 1))) H2 ∧ H2 D = some (.lst ((((ns.zip (ns.drop 1)).take i).map fun p => decide (p.1 < p.2)).map V.bl))) ⟨same_new hD, upd_same⟩ (fun i H2 _ h => hG _ h.1) ?_ ?_⟩
        · rintro i y H2 H3 hi h2 hy
          obtain ⟨T, u, v, rfl, hT, h3, fin⟩ := P0 s1 wk hG hD i y H2 H3 hi h2 hy
          refine ⟨T, _, rfl, st hT, rfl, _, _, rfl, _, _, rfl, rfl, rfl, tyes ⟨_, rfl, _, rfl, _, _, rfl, rfl, _, h3, lt2 _ ?_, fin⟩⟩
          rw [List.length_map, List.length_map, List.length_take, List.length_zip]; omega
        · rintro H2 ⟨s2, h2⟩
          rw [← hz, List.take_length] at h2
          exact ⟨D, _, rfl, sq h2, q _ (s1.trans s2)⟩
theorem def_isAsc (T : Bj mg) (a : At K mg "is_ascending" sIsAsc) : Def P w K mg base CX0 1 "is_ascending" pIsAsc spIsAsc :=
  a.def (fun _ _ _ _ _ _ us hl => match us, hl with | [_], _ => rfl) fun f fd F => ok_isAsc T F
end
end K1


set_option Elab.async false
set_option linter.all false
set_option maxRecDepth 100000
set_option maxHeartbeats 4000000
namespace K1
open PySem PySem.Spec PyProof.Rows L2 RZ
abbrev sCmd : Stmt := st__is_command
abbrev nCmd : List Str := ["value", "most"]
abbrev pCmd : List Str := ["value", "most"]
theorem scCmd : FnScope nCmd pCmd (defScope sCmd) := ⟨rfl, rfl, rfl, by decide +kernel, rfl, by decide +kernel, by decide +kernel⟩
def mV : Option Int → V
  | none => .non
  | some n => .int n
def inMost : Option Int → Int → Bool
  | none, _ => true
  | some m, n => decide (n ≤ m)
def argOk (most : Option Int) : List PyData → Bool
  | [p] => isNum p && inMost most (dI p)
  | _ => false
def isCmd (most : Option Int) : PyData → Bool
  | .tuple (.str w :: r) => if w = "ask" then r.isEmpty else (decide (w = "look") || decide (w = "take")) && argOk most r
  | _ => false
theorem isCmd_eq (most : Option Int) (w : Str) (r : List PyData) : isCmd most (.tuple (.str w :: r)) = if w = "ask" then r.isEmpty else (decide (w = "look") || decide (w = "take")) && argOk most r := rfl
def spCmd : Sp := fun vs H Q _ => ∃ (x : V) (d : PyData) (most : Option Int), vs = [x, mV most] ∧ Dv H x d ∧ ∀ H', Same H H' → Q (.bl (isCmd most d)) H'
theorem in_two (w a b : Str) : inV (.str w) [.str a, .str b] = (decide (w = a) || decide (w = b)) := by
  have h : ∀ a : Str, eqV (.str a) (.str w) = decide (w = a) := fun a => by
    show (a == w) = _
    by_cases e : a = w
    · subst e; rw [beq_self_eq_true, decide_eq_true rfl]
    · rw [beq_eq_false_iff_ne.mpr e, decide_eq_false fun h => e h.symm]
  show (eqV (.str a) (.str w) || (eqV (.str b) (.str w) || false)) = _
  rw [h, h, Bool.or_false]
section
variable {P : Program} {w : World} {K : PySem.W.Frag} {mg : Str → Option Value} {base : Heap}
theorem ok_cmd {f : Addr} {fd : FuncData} (T : Bj mg) (D_is_number : Def P w K mg base CX0 2 "is_number" pV (spB1 isNum)) (F : Fun K "_is_command" "_is_command" sCmd f fd) : FnOk P w K mg base CX0 3 f fd pCmd spCmd := by
  have nd := scCmd.nd
  refine F.ok scCmd (fun vs H Q E h => ?_) (fun cdv A outer s H vs Q E hr h => ?_)
  · obtain ⟨x, d, most, rfl, _⟩ := h
    rfl
  · obtain ⟨x, d, most, rfl, hd, q⟩ := h
    refine ⟨_, (pss_cons (ps_if (PW.pt (pw_or (pt_not (pt_val (pe_callB (call_isiK1 (K := K) rfl) (by rfl) T.isinstance PyProof.Rows.boot_isinstance (pa_cons (pv 0) (pa_cons (pe_bltn (v := .ty "tuple") rfl T.tuple PyProof.Rows.boot_tuple rfl) pa_nil))))) (pw_or (pt_not (pt_truth (pv 0) (by intro _; rfl))) (pw_or1 (pt_not (pt_val (pe_callB (call_isiK1 (K := K) rfl) (by rfl) T.isinstance PyProof.Rows.boot_isinstance (pa_cons (pe_ix (ix_tupK (K := K) rfl) (pv 0) pe_int (fun _ _ => rfl)) (pa_cons (pe_bltn (v := .ty "str") rfl T.str PyProof.Rows.boot_str rfl) pa_nil)))))))))
  (pss_one (ps_ret pe_bl))
  pss_nil)
 (C8.pss_cut (ps_if (pt_cmpR op_eq (pe_ix (ix_tupK (K := K) rfl) (pv 0) pe_int (fun _ _ => rfl)) pe_str (nomark _))
  (pss_one (ps_ret (pe_cmpR op_eq (pe_callB (call_lenK (K := K) rfl) (by rfl) T.len PySem.boot_len (pa_cons (pv 0) pa_nil)) pe_int (nomark _))))
  pss_nil)
 (pss_cons (ps_if (PW.pt (pw_or (pt_cmpR (op_notIn_seqK (K := K) rfl) (pe_ix (ix_tupK (K := K) rfl) (pv 0) pe_int (fun _ _ => rfl)) (pe_tup (pa_cons pe_str (pa_cons pe_str pa_nil))) (by rfl)) (pw_or (pt_cmpR op_ne (pe_callB (call_lenK (K := K) rfl) (by rfl) T.len PySem.boot_len (pa_cons (pv 0) pa_nil)) pe_int (nomark _)) (pw_or1 (pt_not (pt_val (pe_def D_is_number (hr.mono (by decide)) rfl pass0 (pa_cons (pe_ix (ix_tupK (K := K) rfl) (pv 0) pe_int (fun _ _ => rfl)) pa_nil))))))))
  (pss_one (ps_ret pe_bl))
  pss_nil)
 (pss_one (ps_ret (pe_or (pe_cmpR op_isN (pv 1) pe_non (nomark _)) (pe_one (pe_cmpR op_le (pe_ix (ix_tupK (K := K) rfl) (pv 0) pe_int (fun _ _ => rfl)) (pv 1) (nomark _))))))))), ?_⟩
    refine ⟨_, rfl, x, .ty "tuple", .type _, .type "tuple", isTup d, rfl, .ty _, hd.ty, kit_ty (kit_tup d), _, rfl, ?_⟩
    by_cases hs : isTup d = true
    · obtain ⟨a, xs, rfl, ha, hA, ed⟩ := hd.tupD hs
      refine itbF (by rw [hs]; rfl) ⟨_, rfl, !xs.isEmpty, .inr (.inl ⟨xs, st ha, rfl⟩), ?_⟩
      generalize itemsD d = ds at hA ed
      subst ed
      cases hA with
      | nil => exact itbT rfl (itbT rfl (q _ (fun _ _ h => h)))
      | @cons x0 xr d0 dr h0 hA =>
        refine itbF rfl ⟨_, rfl, a, _, 0, x0, rfl, rfl, st ha, atI_nat (j := 0) rfl, x0, .ty "str", .type _, .type "str", isStr d0, rfl, .ty _, h0.ty, kit_ty (kit_str d0), _, rfl, ?_⟩
        have hlen := hA.len
        cases h0 with
        | str w =>
          refine itbF rfl ?_
          refine (⟨fun σ H1 => w ≠ "ask" ∧ σ = [some (.ref a), some (mV most)] ∧ H1 = H, ?_, ?_⟩)
          · refine ⟨_, rfl, a, _, 0, _, rfl, rfl, st ha, atI_nat (j := 0) rfl, rfl, _, rfl, ?_⟩
            by_cases hw : w = "ask"
            · refine itbT (decide_eq_true (by rw [hw])) ⟨_, rfl, a, _, rfl, .inr (st ha), rfl, ?_⟩
              have e : isCmd most (.tuple (.str w :: dr)) = decide (V.int ((V.str w :: xr).length : Int) = V.int 1) := by
                rw [isCmd_eq, if_pos hw]
                cases dr with
                | nil => rw [List.length_eq_zero_iff.mp hlen]; rfl
                | cons y t => 
                  rw [List.length_cons, hlen, List.length_cons]
                  refine (decide_eq_false fun h => ?_).symm
                  have := V.int.inj h
                  omega
              rw [← e]
              exact q _ (fun _ _ h => h)
            · exact itbF (decide_eq_false fun h => hw (V.str.inj h)) ⟨hw, rfl, rfl⟩
          · rintro σ H1 ⟨hw, rfl, rfl⟩
            refine ⟨_, rfl, a, _, 0, _, rfl, rfl, st ha, atI_nat (j := 0) rfl, (by show 2 ≤ sizeLine; decide), fun t nt => ?_⟩
            have s1 := same_new (o := .tup [.str "look", .str "take"]) nt
            refine ⟨t, _, rfl, .inr (st upd_same), rfl, rfl, _, rfl, ?_⟩
            rw [if_pos rfl, in_two]
            have e : isCmd most (.tuple (.str w :: dr)) = ((decide (w = "look") || decide (w = "take")) && argOk most dr) := by
              rw [isCmd_eq, if_neg hw]
            rw [e] at q
            by_cases hi : (decide (w = "look") || decide (w = "take")) = true
            · rw [hi] at q ⊢
              refine itbF rfl ⟨_, rfl, a, _, rfl, .inr (st (s1 _ _ ha)), rfl, _, rfl, ?_⟩
              cases hA with
              | nil => exact itbT rfl (itbT rfl (q _ s1))
              | @cons x1 xt d1 dt h1 hA =>
                cases hA with
                | cons h2 hA =>
                  refine itbT ?_ (itbT rfl (q _ s1))
                  rw [decide_eq_false (fun h => ?_)]
                  · rfl
                  · have := V.int.inj h
                    rw [List.length_cons, List.length_cons, List.length_cons] at this
                    omega
                | nil =>
                  refine itbF rfl ⟨_, rfl, a, _, 1, x1, rfl, rfl, st (s1 _ _ ha), atI_nat (j := 1) rfl, x1, d1, rfl, h1.same s1, _, rfl, ?_⟩
                  by_cases hn : isNum d1 = true
                  · cases h1 with
                    | int n =>
                      refine itbF (by rw [hn]; rfl) ?_
                      have q' : ∀ H', Same H1 H' → Q (.bl (inMost most n)) H' := fun H' s => by
                        have := q H' s
                        rwa [show (true && argOk most [PyData.int n]) = inMost most n by show (true && (isNum (.int n) && inMost most n)) = _; rw [hn]; rfl] at this
                      cases most with
                      | none => exact ⟨_, rfl, rfl, _, rfl, itbT rfl (q' _ s1)⟩
                      | some m => exact ⟨_, rfl, rfl, _, rfl, itbF rfl ⟨_, rfl, a, _, 1, .int n, rfl, rfl, st (s1 _ _ ha), atI_nat (j := 1) rfl, _, rfl, _, _, rfl, rfl, q' _ s1⟩⟩
                    | _ => cases hn
                  · have hn' : isNum d1 = false := by simpa using hn
                    refine itbT (by rw [hn']; rfl) ?_
                    have := q _ s1
                    rwa [show (true && argOk most [d1]) = false by show (true && (isNum d1 && inMost most (dI d1))) = _; rw [hn']; rfl] at this
            · have hi' : (decide (w = "look") || decide (w = "take")) = false := by simpa using hi
              rw [hi'] at q ⊢
              exact itbT rfl (itbT rfl (q _ s1))
        | _ => exact itbT rfl (q _ (fun _ _ h => h))
    · have hs' : isTup d = false := by simpa using hs
      refine itbT (by rw [hs']; rfl) (itbT rfl ?_)
      have e : isCmd most d = false := by
        cases d with
        | tuple => cases hs'
        | _ => rfl
      rw [← e]
      exact q _ (fun _ _ h => h)
theorem def_cmd (T : Bj mg) (D_is_number : Def P w K mg base CX0 2 "is_number" pV (spB1 isNum)) (a : At K mg "_is_command" sCmd) : Def P w K mg base CX0 3 "_is_command" pCmd spCmd :=
  a.def (fun _ _ _ _ _ _ us hl => match us, hl with | [_, _], _ => rfl) fun f fd F => ok_cmd T D_is_number F
end
end K1


set_option Elab.async false
set_option linter.all false
set_option maxRecDepth 100000
set_option maxHeartbeats 4000000
namespace K1
open PySem PySem.Spec PyProof.Rows L2 RZ
abbrev sCkNum : Stmt := st__check_number
abbrev sCkRow : Stmt := st__check_row
abbrev sCkOth : Stmt := st__check_others
abbrev sCk : Stmt := st__check
abbrev nCkNum : List Str := ["n"]
theorem scCkNum : FnScope nCkNum nCkNum (defScope sCkNum) := ⟨rfl, rfl, rfl, by decide +kernel, rfl, by decide +kernel, by decide +kernel⟩
abbrev nCkRow : List Str := ["row", "most", "at", "command"]
abbrev pCkRow : List Str := ["row", "most"]
theorem scCkRow : FnScope nCkRow pCkRow (defScope sCkRow) := ⟨rfl, rfl, rfl, by decide +kernel, rfl, by decide +kernel, by decide +kernel⟩
abbrev nCkOth : List Str := ["n", "loose", "k"]
theorem scCkOth : FnScope nCkOth nCkOth (defScope sCkOth) := ⟨rfl, rfl, rfl, by decide +kernel, rfl, by decide +kernel, by decide +kernel⟩
abbrev nCk : List Str := ["n", "row", "loose", "k"]
theorem scCk : FnScope nCk nCk (defScope sCk) := ⟨rfl, rfl, rfl, by decide +kernel, rfl, by decide +kernel, by decide +kernel⟩
structure Cs (mg : Str → Option Value) : Prop where
  MOST_LETTERS : ∃ t, mg "MOST_LETTERS" = some (.int 10 t)
  MOST_COMMANDS : ∃ t, mg "MOST_COMMANDS" = some (.int 8 t)
  MOST_OTHERS : ∃ t, mg "MOST_OTHERS" = some (.int 2 t)
/-- the errors at, value, why -/
def ErrAt (C : Addr) (fl : Str) (v : V) (H : Hp) (E : XK) : Prop := ∀ (d : Addr) (H' : Hp), Same H H' → H' d = some (.xd [(fl, v)]) → E (.ref C) (some d) H'
theorem ErrAt.same {C : Addr} {fl : Str} {v : V} {H H1 : Hp} {E : XK} (h : ErrAt C fl v H E) (s : Same H H1) : ErrAt C fl v H1 E := fun d H' s' e => h d H' (s.trans s') e
def numOk : PyData → Bool | .int n => decide (1 ≤ n) && decide (n ≤ 10) | _ => false
def firstBad (p : PyData → Bool) : List PyData → Int → Option Int
  | [], _ => none
  | d :: r, i => if p d then firstBad p r (i + 1) else some i
def rowErr (most : Option Int) (d : PyData) : Option Int := if isSeq d then (if 8 < (itemsD d).length then some (-1) else firstBad (isCmd most) (itemsD d) 0) else some (-1)
def intsD (d : PyData) : List Int := (itemsD d).map dI
def lastOk (nn : Int) (ns : List Int) : Bool := match ns.getLast? with | none => true | some z => decide (z ≤ nn)
def looseOk (nn : Int) (d : PyData) : Bool := isTup d && (isNums d && (ascB (intsD d) && lastOk nn (intsD d)))
def kOk : PyData → Bool | .int k => decide (0 ≤ k) && decide (k ≤ 2) | _ => false
def spCkNum (CN : Addr) : Sp := fun vs H Q E => ∃ (x : V) (d : PyData), vs = [x] ∧ Dv H x d ∧ (numOk d = true → Q .non H) ∧ (numOk d = false → ErrAt CN "value" x H E)
def spCkRow (CR : Addr) : Sp := fun vs H Q E => ∃ (x : V) (d : PyData) (most : Option Int), vs = [x, mV most] ∧ Dv H x d ∧ (rowErr most d = none → ∀ H', Same H H' → Q .non H') ∧ (∀ i, rowErr most d = some i → ErrAt CR "at" (.int i) H E)
def spCkOth (CV : Addr) : Sp := fun vs H Q E => ∃ (nn : Int) (xl xk : V) (dl dk : PyData), vs = [.int nn, xl, xk] ∧ Dv H xl dl ∧ Dv H xk dk ∧ (itemsD dl).length ≤ 1000 ∧
  (looseOk nn dl = true → kOk dk = true → ∀ H', Same H H' → Q .non H') ∧ (looseOk nn dl = false → ErrAt CV "why" (.str "loose") H E) ∧ (looseOk nn dl = true → kOk dk = false → ErrAt CV "why" (.str "k") H E)
theorem DvA.ints {H : Hp} : ∀ {vs : List V} {ds : List PyData}, DvA H vs ds → ds.all isNum = true → vs = (ds.map dI).map V.int
  | _, _, .nil, _ => rfl
  | _, _, .cons h r, n => by
    rw [List.all_cons, Bool.and_eq_true] at n
    rw [List.map_cons, List.map_cons, ← DvA.ints r n.2]
    cases h with
    | int i => rfl
    | _ => cases n.1
theorem firstBad_drop {p : PyData → Bool} {ds : List PyData} {i : Nat} {e : PyData} (h : ds[i]? = some e) : firstBad p (ds.drop i) i = if p e then firstBad p (ds.drop (i + 1)) ((i + 1 : Nat) : Int) else some (i : Int) := by
  have hi := lt_of_get h
  have e1 : ds.drop i = e :: ds.drop (i + 1) := by
    rw [List.drop_eq_getElem_cons hi]
    congr 1
    rw [List.getElem?_eq_getElem hi] at h
    exact Option.some.inj h
  rw [e1]; rfl
section
variable {P : Program} {w : World} {K : PySem.W.Frag} {mg : Str → Option Value} {base : Heap} {CN CR CV fN fR fV : Addr}
theorem ok_ckNum {f : Addr} {fd : FuncData} (T : Bj mg) (C : Cs mg) (TN : PySem.Tide.TideTxt P K mg "BadNumber" CN fN "value") (D_is_number : Def P w K mg base CX0 2 "is_number" pV (spB1 isNum)) (F : Fun K "_check_number" "_check_number" sCkNum f fd) :
    FnOk P w K mg base (L2.CX P w) 3 f fd nCkNum (spCkNum CN) := by
  have nd := scCkNum.nd
  refine F.okX scCkNum (fun vs H Q E h => ?_) (fun cdv A outer s H vs Q E hr h => ?_)
  · obtain ⟨x, d, rfl, _⟩ := h
    rfl
  · obtain ⟨x, d, rfl, hd, q1, q2⟩ := h
    refine ⟨_, (pss_one (ps_if (PW.pt (pw_or (pt_not (pt_val (pe_def D_is_number (hr.mono (by decide)) rfl pass0 (pa_cons (pv 0) pa_nil)))) (pw_or1 (pt_cmpR op_gt (pv 0) (pe_const C.MOST_LETTERS rfl) (nomark _)))))
  (pss_one (ps_raiseTide rfl TN hr (takes_of rfl rfl rfl rfl) (pa_cons (pv 0) pa_nil)))
  pss_nil)), ?_⟩
    refine ⟨_, rfl, x, d, rfl, hd, _, rfl, ?_⟩
    by_cases hn : isNum d = true
    · refine itbF (by rw [hn]; rfl) ?_
      cases hd with
      | int n =>
        refine ⟨_, rfl, _, _, rfl, rfl, _, rfl, ?_⟩
        have hn' : decide (1 ≤ n) = true := hn
        by_cases c : 10 < n
        · refine itbT (decide_eq_true c) ⟨_, rfl, _, rfl, fun d nd => ?_⟩
          exact q2 (by show (decide (1 ≤ n) && decide (n ≤ 10)) = false; rw [decide_eq_false (show ¬ n ≤ 10 by omega), Bool.and_false]) d _ (same_new nd) upd_same
        · exact itbF (decide_eq_false c) (q1 (by show (decide (1 ≤ n) && decide (n ≤ 10)) = true; rw [hn', decide_eq_true (show n ≤ 10 by omega)]; rfl))
      | _ => cases hn
    · have hn' : isNum d = false := by simpa using hn
      refine itbT (by rw [hn']; rfl) (itbT rfl ⟨_, rfl, _, rfl, fun dd nd => ?_⟩)
      refine q2 ?_ dd _ (same_new nd) upd_same
      cases d with
      | int n => 
        show (decide (1 ≤ n) && decide (n ≤ 10)) = false
        rw [show decide (1 ≤ n) = false from hn']; rfl
      | _ => rfl
theorem def_ckNum (T : Bj mg) (C : Cs mg) (TN : PySem.Tide.TideTxt P K mg "BadNumber" CN fN "value") (D_is_number : Def P w K mg base CX0 2 "is_number" pV (spB1 isNum)) (a : At K mg "_check_number" sCkNum) :
    Def P w K mg base (L2.CX P w) 3 "_check_number" nCkNum (spCkNum CN) :=
  a.def (fun _ _ _ _ _ _ us hl => match us, hl with | [_], _ => rfl) fun f fd F => ok_ckNum T C TN D_is_number F
theorem ok_ckRow {f : Addr} {fd : FuncData} (T : Bj mg) (C : Cs mg) (TR : PySem.Tide.TideTxt P K mg "BadRow" CR fR "at") (D_is_command : Def P w K mg base CX0 3 "_is_command" pCmd spCmd) (F : Fun K "_check_row" "_check_row" sCkRow f fd) :
    FnOk P w K mg base (L2.CX P w) 4 f fd pCkRow (spCkRow CR) := by
  have nd := scCkRow.nd
  refine F.okX scCkRow (fun vs H Q E h => ?_) (fun cdv A outer s H vs Q E hr h => ?_)
  · obtain ⟨x, d, most, rfl, _⟩ := h
    rfl
  · obtain ⟨x, d, most, rfl, hd, q1, q2⟩ := h
    refine ⟨_, (pss_cons (ps_if (PW.pt (pw_or (pt_not (pt_val (pe_callB (call_isiTK (K := K) rfl) (by rfl) T.isinstance PyProof.Rows.boot_isinstance (pa_cons (pv 0) (pa_cons (pe_tup (pa_cons (pe_bltn (v := .ty "list") rfl T.list PyProof.Rows.boot_list rfl) (pa_cons (pe_bltn (v := .ty "tuple") rfl T.tuple PyProof.Rows.boot_tuple rfl) pa_nil))) pa_nil))))) (pw_or1 (pt_cmpR op_gt (pe_callB (call_lenK (K := K) rfl) (by rfl) T.len PySem.boot_len (pa_cons (pv 0) pa_nil)) (pe_const C.MOST_COMMANDS rfl) (nomark _)))))
  (pss_one (ps_raiseTide rfl TR hr (takes_of rfl rfl rfl rfl) (pa_cons (pe_un un_neg pe_int) pa_nil)))
  pss_nil)
 (pss_one (ps_for (passes_of rfl) rfl (pi_enumSK (K := K) rfl (by rfl) T.enumerate (pa_cons (pv 0) pa_nil)) (pg_tup rfl (pgs_cons (pg_name (i := 2) nd rfl (Or.inl rfl)) (pgs_cons (pg_name (i := 3) nd rfl (Or.inl rfl)) pgs_nil)))
  (pss_one (ps_if (pt_not (pt_val (pe_def D_is_command (hr.mono (by decide)) rfl pass0 (pa_cons (pv 3) (pa_cons (pv 1) pa_nil)))))
  (pss_one (ps_raiseTide rfl TR hr (takes_of rfl rfl rfl rfl) (pa_cons (pv 2) pa_nil)))
  pss_nil))))), ?_⟩
    refine ⟨_, rfl, (by show 2 ≤ sizeLine; decide), fun tp ntp => ?_⟩
    have s1 := same_new (o := .tup [.ty "list", .ty "tuple"]) ntp
    refine ⟨x, tp, [.ty "list", .ty "tuple"], .type _, [.type "list", .type "tuple"], isSeq d, rfl, upd_same, .cons (.ty _) (.cons (.ty _) .nil), (hd.same s1).ty, kit_seq d, _, rfl, ?_⟩
    by_cases hs : isSeq d = true
    · obtain ⟨a, xs, rfl, hS, hA⟩ := hd.seq hs
      have hlen := hA.len
      refine itbF (by rw [hs]; rfl) ⟨_, rfl, a, xs, rfl, (hS.same s1).len, _, _, rfl, rfl, _, rfl, ?_⟩
      unfold rowErr at q1 q2
      rw [if_pos hs] at q1 q2
      by_cases hl : 8 < (itemsD d).length
      · rw [if_pos hl] at q2
        refine itbT (decide_eq_true (by omega)) ⟨1, rfl, _, rfl, fun dd nd => ?_⟩
        exact q2 (-1) rfl dd _ (s1.new nd) upd_same
      · rw [if_neg hl] at q1 q2
        refine itbF (decide_eq_false (by omega)) ?_
        generalize itemsD d = ds at *
        refine ⟨_, rfl, a, xs, rfl, for_enumS (H0 := H) hS.len (fun i σ H1 => ∃ (v2 v3 : Option V), σ = [some (.ref a), some (mV most), v2, v3] ∧ Same H H1 ∧ firstBad (isCmd most) ds 0 = firstBad (isCmd most) (ds.drop i) (i : Nat)) ?_ ?_ ?_ ?_⟩
        · exact ⟨none, none, rfl, s1, rfl⟩
        · rintro i σ' H' ⟨v2, v3, rfl, s1, _⟩
          exact s1
        · rintro i y σ H1 Tt hy ⟨v2, v3, rfl, s2, hb⟩ nT
          refine ⟨Tt, [.int (i : Nat), y], rfl, st upd_same, rfl, .int (i : Nat), [y], rfl, y, [], rfl, rfl, ?_⟩
          have s3 := s2.new nT (o := .tup [.int (i : Nat), y])
          obtain ⟨e, he, hde⟩ := (hA.same s3).get hy
          rw [firstBad_drop he] at hb
          refine ⟨_, rfl, _, rfl, y, e, most, rfl, hde, fun H4 s4 => ⟨_, rfl, ?_⟩⟩
          by_cases hc : isCmd most e = true
          · rw [if_pos hc] at hb
            exact itbF (by rw [hc]; rfl) ⟨_, _, rfl, s3.trans s4, hb⟩
          · rw [if_neg hc] at hb
            have hc' : isCmd most e = false := by simpa using hc
            refine itbT (by rw [hc']; rfl) ⟨_, rfl, _, rfl, fun dd nd => ?_⟩
            exact q2 _ hb dd _ ((s3.trans s4).new nd) upd_same
        · rintro σ H1 ⟨v2, v3, rfl, s2, hb⟩
          rw [hlen, List.drop_length] at hb
          exact q1 hb H1 s2
    · have hs' : isSeq d = false := by simpa using hs
      refine itbT (by rw [hs']; rfl) (itbT rfl ⟨1, rfl, _, rfl, fun dd nd => ?_⟩)
      refine q2 (-1) ?_ dd _ (s1.new nd) upd_same
      unfold rowErr
      rw [hs', if_neg Bool.false_ne_true]
theorem def_ckRow (T : Bj mg) (C : Cs mg) (TR : PySem.Tide.TideTxt P K mg "BadRow" CR fR "at") (D_is_command : Def P w K mg base CX0 3 "_is_command" pCmd spCmd) (a : At K mg "_check_row" sCkRow) :
    Def P w K mg base (L2.CX P w) 4 "_check_row" pCkRow (spCkRow CR) :=
  a.def (fun _ _ _ _ _ _ us hl => match us, hl with | [_, _], _ => rfl) fun f fd F => ok_ckRow T C TR D_is_command F
end
end K1


set_option Elab.async false
set_option linter.all false
set_option maxRecDepth 100000
set_option maxHeartbeats 4000000
namespace K1
open PySem PySem.Spec PyProof.Rows L2 RZ
section
variable {P : Program} {w : World} {K : PySem.W.Frag} {mg : Str → Option Value} {base : Heap} {CN CR CV fN fR fV : Addr}
theorem ok_ckOth {f : Addr} {fd : FuncData} (T : Bj mg) (C : Cs mg) (TV : PySem.Tide.TideTxt P K mg "BadValue" CV fV "why") (D_is_integer : Def P w K mg base CX0 1 "is_integer" pV (spB1 isInt)) (D_is_numbers : Def P w K mg base CX0 3 "is_numbers" pV spIsNums)
    (D_is_ascending : Def P w K mg base CX0 1 "is_ascending" pIsAsc spIsAsc) (F : Fun K "_check_others" "_check_others" sCkOth f fd) :
    FnOk P w K mg base (L2.CX P w) 4 f fd nCkOth (spCkOth CV) := by
  have nd := scCkOth.nd
  refine F.okX scCkOth (fun vs H Q E h => ?_) (fun cdv A outer s H vs Q E hr h => ?_)
  · obtain ⟨nn, xl, xk, dl, dk, rfl, _⟩ := h
    rfl
  · obtain ⟨nn, xl, xk, dl, dk, rfl, hl, hk, hlen, q, el, ek⟩ := h
    refine ⟨_, (C8.pss_cut (ps_if (PW.pt (pw_or (pt_not (pt_val (pe_callB (call_isiK1 (K := K) rfl) (by rfl) T.isinstance PyProof.Rows.boot_isinstance (pa_cons (pv 1) (pa_cons (pe_bltn (v := .ty "tuple") rfl T.tuple PyProof.Rows.boot_tuple rfl) pa_nil))))) (pw_or (pt_not (pt_val (pe_def D_is_numbers (hr.mono (by decide)) rfl pass0 (pa_cons (pv 1) pa_nil)))) (pw_or (pt_not (pt_val (pe_def D_is_ascending (hr.mono (by decide)) rfl pass0 (pa_cons (pv 1) pa_nil)))) (pw_or1 (PW.pt (pw_and (pt_truth (pv 1) (by intro _; rfl)) (pw_and1 (pt_cmpR op_gt (pe_ix (ix_tupK (K := K) rfl) (pv 1) (pe_un un_neg pe_int) (fun _ _ => rfl)) (pv 0) (nomark _))))))))))
  (pss_one (ps_raiseTide rfl TV hr (takes_of rfl rfl rfl rfl) (pa_cons pe_str pa_nil)))
  pss_nil)
 (pss_one (ps_if (PW.pt (pw_or (pt_not (pt_val (pe_def D_is_integer (hr.mono (by decide)) rfl pass0 (pa_cons (pv 2) pa_nil)))) (pw_or1 (pt_not (pt_chain op_le op_le pe_int (pv 2) (pe_const C.MOST_OTHERS rfl))))))
  (pss_one (ps_raiseTide rfl TV hr (takes_of rfl rfl rfl rfl) (pa_cons pe_str pa_nil)))
  pss_nil))), ?_⟩
    refine ⟨fun σ H1 => looseOk nn dl = true ∧ σ = [some (.int nn), some xl, some xk] ∧ Same H H1, ?_, ?_⟩
    · have bad : ∀ H1, Same H H1 → looseOk nn dl = false → ∀ dd, H1 dd = none → E (.ref CV) (some dd) (upd H1 dd (.xd [("why", .str "loose")])) := fun H1 s1 hb dd nd => el hb dd _ (s1.new nd) upd_same
      refine ⟨_, rfl, xl, .ty "tuple", .type _, .type "tuple", isTup dl, rfl, .ty _, hl.ty, kit_ty (kit_tup dl), _, rfl, ?_⟩
      by_cases h1 : isTup dl = true
      · obtain ⟨a, xs, rfl, ha, hA, ed⟩ := hl.tupD h1
        refine itbF (by rw [h1]; rfl) ⟨_, rfl, _, dl, rfl, hl, hlen, fun H1 s1 => ⟨_, rfl, ?_⟩⟩
        by_cases h2 : isNums dl = true
        · have hall : (itemsD dl).all isNum = true := by
            unfold isNums at h2
            exact ((Bool.and_eq_true _ _).mp h2).2
          have exs : xs = (intsD dl).map V.int := hA.ints hall
          have hln : (intsD dl).length ≤ 1000 := by unfold intsD; rw [List.length_map]; exact hlen
          refine itbF (by rw [h2]; rfl) ⟨_, rfl, a, intsD dl, rfl, .inr (by rw [← exs]; exact s1 _ _ ha), hln, fun H2 s2 => ⟨_, rfl, ?_⟩⟩
          have s12 := s1.trans s2
          have ha2 := s12 _ _ ha
          rw [exs] at ha2
          have lo : looseOk nn dl = (ascB (intsD dl) && lastOk nn (intsD dl)) := by unfold looseOk; rw [h1, h2]; rfl
          by_cases h3 : ascB (intsD dl) = true
          · refine itbF (by rw [h3]; rfl) ⟨_, rfl, !((intsD dl).map V.int).isEmpty, .inr (.inl ⟨_, st ha2, rfl⟩), ?_⟩
            rw [h3, Bool.true_and] at lo
            generalize intsD dl = ns at lo ha2
            rcases List.eq_nil_or_concat ns with rfl | ⟨r, z, rfl⟩
            · exact itbF rfl (itbF rfl ⟨lo, rfl, s12⟩)
            · rw [List.concat_eq_append] at lo ha2 ⊢
              have hlast : lastOk nn (r ++ [z]) = decide (z ≤ nn) := by unfold lastOk; rw [List.getLast?_concat]
              refine itbT (by simp) ⟨_, rfl, 1, rfl, a, _, -1, .int z, rfl, rfl, st ha2, ?_, _, rfl, _, _, rfl, rfl, _, rfl, ?_⟩
              · rw [List.map_append]; exact atI_last _ _
              · by_cases c : nn < z
                · refine itbT (decide_eq_true c) ⟨_, rfl, ?_⟩
                  refine bad H2 s12 ?_
                  rw [lo, hlast]; exact decide_eq_false (by omega)
                · refine itbF (decide_eq_false c) ?_
                  refine ⟨?_, rfl, s12⟩
                  rw [lo, hlast]; exact decide_eq_true (by omega)
          · have h3' : ascB (intsD dl) = false := by simpa using h3
            refine itbT (by rw [h3']; rfl) (itbT rfl ?_)
            exact ⟨_, rfl, bad H2 s12 (by rw [lo, h3']; rfl)⟩
        · have h2' : isNums dl = false := by simpa using h2
          refine itbT (by rw [h2']; rfl) (itbT rfl ?_)
          exact ⟨_, rfl, bad H1 s1 (by unfold looseOk; rw [h1, h2']; rfl)⟩
      · have h1' : isTup dl = false := by simpa using h1
        refine itbT (by rw [h1']; rfl) (itbT rfl ?_)
        exact ⟨_, rfl, bad H (fun _ _ h => h) (by unfold looseOk; rw [h1']; rfl)⟩
    · rintro σ H1 ⟨lo, rfl, s1⟩
      refine ⟨_, rfl, xk, dk, rfl, hk.same s1, _, rfl, ?_⟩
      by_cases hi : isInt dk = true
      · cases hk with
        | int k =>
          refine itbF rfl ⟨_, rfl, _, _, rfl, rfl, _, rfl, ?_⟩
          by_cases c : 0 ≤ k
          · refine itbT (decide_eq_true c) ⟨_, _, rfl, rfl, _, rfl, ?_⟩
            by_cases c2 : k ≤ 2
            · exact itbF (by rw [decide_eq_true c2]; rfl) (q lo (by show (decide (0 ≤ k) && decide (k ≤ 2)) = true; rw [decide_eq_true c, decide_eq_true c2]; rfl) H1 s1)
            · refine itbT (by rw [decide_eq_false c2]; rfl) ?_
              exact ⟨_, rfl, fun dd nd => ek lo (by show (decide (0 ≤ k) && decide (k ≤ 2)) = false; rw [decide_eq_false c2, Bool.and_false]) dd _ (s1.new nd) upd_same⟩
          · refine itbF (decide_eq_false c) ⟨_, rfl, itbT rfl ?_⟩
            exact ⟨_, rfl, fun dd nd => ek lo (by show (decide (0 ≤ k) && decide (k ≤ 2)) = false; rw [decide_eq_false c]; rfl) dd _ (s1.new nd) upd_same⟩
        | _ => cases hi
      · have hi' : isInt dk = false := by simpa using hi
        refine itbT (by rw [hi']; rfl) (itbT rfl ?_)
        refine ⟨_, rfl, fun dd nd => ek lo ?_ dd _ (s1.new nd) upd_same⟩
        cases dk with
        | int k => cases hi'
        | _ => rfl
theorem def_ckOth (T : Bj mg) (C : Cs mg) (TV : PySem.Tide.TideTxt P K mg "BadValue" CV fV "why") (D_is_integer : Def P w K mg base CX0 1 "is_integer" pV (spB1 isInt)) (D_is_numbers : Def P w K mg base CX0 3 "is_numbers" pV spIsNums)
    (D_is_ascending : Def P w K mg base CX0 1 "is_ascending" pIsAsc spIsAsc) (a : At K mg "_check_others" sCkOth) :
    Def P w K mg base (L2.CX P w) 4 "_check_others" nCkOth (spCkOth CV) :=
  a.def (fun _ _ _ _ _ _ us hl => match us, hl with | [_, _, _], _ => rfl) fun f fd F => ok_ckOth T C TV D_is_integer D_is_numbers D_is_ascending F
end
end K1


set_option Elab.async false
set_option linter.all false
set_option maxRecDepth 100000
set_option maxHeartbeats 4000000
namespace K1
open PySem PySem.Spec PyProof.Rows L2 RZ
/-- what is never reached -/
theorem pss_any {X : Cx} {b : List Stmt} : PSs X b (fun _ _ _ => False) := ⟨fun _ _ _ _ _ _ h => h.elim⟩
inductive Er
  | num
  | row (i : Int)
  | why (s : Str)
  deriving DecidableEq
def chkO (nn : Int) (dl dk : PyData) : Option Er := if looseOk nn dl = true then (if kOk dk = true then none else some (.why "k")) else some (.why "loose")
def chkR (most : Option Int) (dr : PyData) : Option Er := (rowErr most dr).map .row
def chkN (dn : PyData) : Option Er := if numOk dn = true then none else some .num
def chk (most : Option Int) (dn dr dl dk : PyData) : Option Er := (chkN dn).or ((chkR most dr).or (chkO (dI dn) dl dk))
def ErE (CN CR CV : Addr) (xn : V) (H : Hp) (E : XK) : Er → Prop
  | .num => ErrAt CN "value" xn H E
  | .row i => ErrAt CR "at" (.int i) H E
  | .why s => ErrAt CV "why" (.str s) H E
theorem ErE.same {CN CR CV : Addr} {xn : V} {H H' : Hp} {E : XK} {e : Er} (h : ErE CN CR CV xn H E e) (s : Same H H') : ErE CN CR CV xn H' E e := by
  cases e with
  | num => exact ErrAt.same h s
  | row i => exact ErrAt.same h s
  | why z => exact ErrAt.same h s
theorem numV {H : Hp} {x : V} {d : PyData} (h : Dv H x d) (n : numOk d = true) : x = .int (dI d) := by
  cases h with
  | int i => rfl
  | _ => cases n
/-- the four values of a check -/
structure Four (H : Hp) (xn xr xl xk : V) (dn dr dl dk : PyData) : Prop where
  n : Dv H xn dn
  r : Dv H xr dr
  l : Dv H xl dl
  k : Dv H xk dk
  len : (itemsD dl).length ≤ 1000
def spCk (CN CR CV : Addr) : Sp := fun vs H Q E => ∃ (xn xr xl xk : V) (dn dr dl dk : PyData), vs = [xn, xr, xl, xk] ∧ Four H xn xr xl xk dn dr dl dk ∧
  (chk none dn dr dl dk = none → ∀ H', Same H H' → Q .non H') ∧ (∀ e, chk none dn dr dl dk = some e → ErE CN CR CV xn H E e)
def spBad (CN CR CV : Addr) : Sp := fun vs H Q E => ∃ (xn xr xl xk : V) (dn dr dl dk : PyData) (e : Er), vs = [xn, xr, xl, xk] ∧ Four H xn xr xl xk dn dr dl dk ∧ chk none dn dr dl dk = some e ∧ ErE CN CR CV xn H E e
def spBadBy (CN CR CV : Addr) : Sp := fun vs H Q E => ∃ (xn xr xl xk : V) (dn dr dl dk : PyData) (e : Er), vs = [xn, xr, xl, xk] ∧ Four H xn xr xl xk dn dr dl dk ∧ chk (some (dI dn)) dn dr dl dk = some e ∧ ErE CN CR CV xn H E e
def spBadT (CN CR CV : Addr) : Sp := fun vs H Q E => ∃ (xn xr : V) (dn dr : PyData) (e : Er), vs = [xn, xr] ∧ Dv H xn dn ∧ Dv H xr dr ∧ (chkN dn).or (chkR (some (dI dn)) dr) = some e ∧ ErE CN CR CV xn H E e
abbrev sDoubt : Stmt := st_doubt
abbrev sTurned : Stmt := st_turned
abbrev sBy : Stmt := st_by_number
abbrev nDoubt : List Str := ["n", "row", "loose", "k", "alone", "fates", "rows", "at", "thing", "fate", "found"]
theorem scDoubt : FnScope nDoubt nCk (defScope sDoubt) := ⟨rfl, rfl, rfl, by decide +kernel, rfl, by decide +kernel, by decide +kernel⟩
abbrev nTurned : List Str := ["n", "wishes"]
theorem scTurned : FnScope nTurned nTurned (defScope sTurned) := ⟨rfl, rfl, rfl, by decide +kernel, rfl, by decide +kernel, by decide +kernel⟩
abbrev nBy : List Str := ["n", "wishes", "loose", "k", "row", "named", "at", "command", "fate", "thing"]
abbrev pBy : List Str := ["n", "wishes", "loose", "k"]
theorem scBy : FnScope nBy pBy (defScope sBy) := ⟨rfl, rfl, rfl, by decide +kernel, rfl, by decide +kernel, by decide +kernel⟩
section
variable {P : Program} {w : World} {K : PySem.W.Frag} {mg : Str → Option Value} {base : Heap} {CN CR CV : Addr}
theorem ok_ck {f : Addr} {fd : FuncData} (D_check_number : Def P w K mg base (L2.CX P w) 3 "_check_number" nCkNum (spCkNum CN)) (D_check_row : Def P w K mg base (L2.CX P w) 4 "_check_row" pCkRow (spCkRow CR))
    (D_check_others : Def P w K mg base (L2.CX P w) 4 "_check_others" nCkOth (spCkOth CV)) (F : Fun K "_check" "_check" sCk f fd) : FnOk P w K mg base (L2.CX P w) 5 f fd nCk (spCk CN CR CV) := by
  have nd := scCk.nd
  refine F.okX scCk (fun vs H Q E h => ?_) (fun cdv A outer s H vs Q E hr h => ?_)
  · obtain ⟨xn, xr, xl, xk, dn, dr, dl, dk, rfl, _⟩ := h
    rfl
  · obtain ⟨xn, xr, xl, xk, dn, dr, dl, dk, rfl, h4, q, qe⟩ := h
    refine ⟨_, (pss_cons (ps_expr (pe_def D_check_number (hr.mono (by decide)) rfl (passes_call (takes_of rfl rfl rfl rfl) (fun _ _ _ _ h => h)) (pa_cons (pv 0) pa_nil)))
 (pss_cons (ps_expr (pe_def D_check_row (hr.mono (by decide)) rfl (passes_call (takes_of rfl rfl rfl rfl) (fun _ _ _ _ h => h)) (pa_cons (pv 1) (pa_cons pe_non pa_nil))))
 (pss_one (ps_expr (pe_def D_check_others (hr.mono (by decide)) rfl (passes_call (takes_of rfl rfl rfl rfl) (fun _ _ _ _ h => h)) (pa_cons (pv 0) (pa_cons (pv 2) (pa_cons (pv 3) pa_nil)))))))), ?_⟩
    refine ⟨_, rfl, xn, dn, rfl, h4.n, fun hn => ?_, fun hn => qe .num (by unfold chk chkN; rw [hn, if_neg Bool.false_ne_true]; rfl)⟩
    have e1 : chkN dn = none := by unfold chkN; rw [if_pos hn]
    unfold chk at q qe
    rw [e1, Option.none_or] at q qe
    refine ⟨_, rfl, xr, dr, none, rfl, h4.r, fun hr0 H1 s1 => ?_, fun i hr0 => qe (.row i) (by unfold chkR; rw [hr0]; rfl)⟩
    have e2 : chkR none dr = none := by unfold chkR; rw [hr0]; rfl
    rw [e2, Option.none_or] at q qe
    have ex := numV h4.n hn
    subst ex
    refine ⟨_, rfl, _, rfl, _, rfl, dI dn, xl, xk, dl, dk, rfl, h4.l.same s1, h4.k.same s1, h4.len, fun a b H2 s2 => ?_, fun a => ?_, fun a b => ?_⟩
    · exact q (by unfold chkO; rw [if_pos a, if_pos b]) H2 (s1.trans s2)
    · exact ErrAt.same (qe (.why "loose") (by unfold chkO; rw [a, if_neg Bool.false_ne_true])) s1
    · exact ErrAt.same (qe (.why "k") (by unfold chkO; rw [if_pos a, b, if_neg Bool.false_ne_true])) s1
theorem ok_doubt {f : Addr} {fd : FuncData} (D_check : Def P w K mg base (L2.CX P w) 5 "_check" nCk (spCk CN CR CV)) (F : Fun K "doubt" "doubt" sDoubt f fd) : FnOk P w K mg base (L2.CX P w) 6 f fd nCk (spBad CN CR CV) := by
  refine F.okX scDoubt (fun vs H Q E h => ?_) (fun cdv A outer s H vs Q E hr h => ?_)
  · obtain ⟨xn, xr, xl, xk, dn, dr, dl, dk, e, rfl, _⟩ := h
    rfl
  · obtain ⟨xn, xr, xl, xk, dn, dr, dl, dk, e, rfl, h4, he, qe⟩ := h
    refine ⟨_, pss_cons (ps_expr (pe_def D_check (hr.mono (by decide)) rfl (passes_call (takes_of rfl rfl rfl rfl) (fun _ _ _ _ h => h)) (pa_cons (pv 0) (pa_cons (pv 1) (pa_cons (pv 2) (pa_cons (pv 3) pa_nil)))))) pss_any, ?_⟩
    exact ⟨_, rfl, _, rfl, _, rfl, _, rfl, xn, xr, xl, xk, dn, dr, dl, dk, rfl, h4, (fun z => by rw [he] at z; cases z), fun e' z => by rw [he] at z; cases z; exact qe⟩
theorem ok_turned {f : Addr} {fd : FuncData} (D_check_number : Def P w K mg base (L2.CX P w) 3 "_check_number" nCkNum (spCkNum CN)) (D_check_row : Def P w K mg base (L2.CX P w) 4 "_check_row" pCkRow (spCkRow CR))
    (F : Fun K "turned" "turned" sTurned f fd) : FnOk P w K mg base (L2.CX P w) 5 f fd nTurned (spBadT CN CR CV) := by
  refine F.okX scTurned (fun vs H Q E h => ?_) (fun cdv A outer s H vs Q E hr h => ?_)
  · obtain ⟨xn, xr, dn, dr, e, rfl, _⟩ := h
    rfl
  · obtain ⟨xn, xr, dn, dr, e, rfl, h1, h2, he, qe⟩ := h
    refine ⟨_, pss_cons (ps_expr (pe_def D_check_number (hr.mono (by decide)) rfl (passes_call (takes_of rfl rfl rfl rfl) (fun _ _ _ _ h => h)) (pa_cons (pv 0) pa_nil)))
 (pss_cons (ps_expr (pe_def D_check_row (hr.mono (by decide)) rfl (passes_call (takes_of rfl rfl rfl rfl) (fun _ _ _ _ h => h)) (pa_cons (pv 1) (pa_cons (pv 0) pa_nil)))) pss_any), ?_⟩
    refine ⟨_, rfl, xn, dn, rfl, h1, fun hn => ?_, fun hn => ?_⟩
    · have e1 : chkN dn = none := by unfold chkN; rw [if_pos hn]
      rw [e1, Option.none_or] at he
      have ex := numV h1 hn
      subst ex
      refine ⟨_, rfl, _, rfl, xr, dr, some (dI dn), rfl, h2, fun hr0 => ?_, fun i hr0 => ?_⟩
      · unfold chkR at he; rw [hr0] at he; cases he
      · unfold chkR at he; rw [hr0] at he; cases he; exact qe
    · have e1 : chkN dn = some .num := by unfold chkN; rw [hn, if_neg Bool.false_ne_true]
      rw [e1] at he
      cases he
      exact qe
theorem ok_by {f : Addr} {fd : FuncData} (D_check_number : Def P w K mg base (L2.CX P w) 3 "_check_number" nCkNum (spCkNum CN)) (D_check_row : Def P w K mg base (L2.CX P w) 4 "_check_row" pCkRow (spCkRow CR))
    (D_check_others : Def P w K mg base (L2.CX P w) 4 "_check_others" nCkOth (spCkOth CV)) (F : Fun K "by_number" "by_number" sBy f fd) : FnOk P w K mg base (L2.CX P w) 5 f fd pBy (spBadBy CN CR CV) := by
  refine F.okX scBy (fun vs H Q E h => ?_) (fun cdv A outer s H vs Q E hr h => ?_)
  · obtain ⟨xn, xr, xl, xk, dn, dr, dl, dk, e, rfl, _⟩ := h
    rfl
  · obtain ⟨xn, xr, xl, xk, dn, dr, dl, dk, e, rfl, h4, he, qe⟩ := h
    refine ⟨_, pss_cons (ps_expr (pe_def D_check_number (hr.mono (by decide)) rfl (passes_call (takes_of rfl rfl rfl rfl) (fun _ _ _ _ h => h)) (pa_cons (pv 0) pa_nil)))
 (pss_cons (ps_expr (pe_def D_check_row (hr.mono (by decide)) rfl (passes_call (takes_of rfl rfl rfl rfl) (fun _ _ _ _ h => h)) (pa_cons (pv 1) (pa_cons (pv 0) pa_nil))))
 (pss_cons (ps_expr (pe_def D_check_others (hr.mono (by decide)) rfl (passes_call (takes_of rfl rfl rfl rfl) (fun _ _ _ _ h => h)) (pa_cons (pv 0) (pa_cons (pv 2) (pa_cons (pv 3) pa_nil))))) pss_any)), ?_⟩
    unfold chk at he
    refine ⟨_, rfl, xn, dn, rfl, h4.n, fun hn => ?_, fun hn => ?_⟩
    · have e1 : chkN dn = none := by unfold chkN; rw [if_pos hn]
      rw [e1, Option.none_or] at he
      have ex := numV h4.n hn
      subst ex
      refine ⟨_, rfl, _, rfl, xr, dr, some (dI dn), rfl, h4.r, fun hr0 H1 s1 => ?_, fun i hr0 => ?_⟩
      · have e2 : chkR (some (dI dn)) dr = none := by unfold chkR; rw [hr0]; rfl
        rw [e2, Option.none_or] at he
        refine ⟨_, rfl, _, rfl, _, rfl, dI dn, xl, xk, dl, dk, rfl, h4.l.same s1, h4.k.same s1, h4.len, fun a b H2 s2 => ?_, fun a => ?_, fun a b => ?_⟩
        · unfold chkO at he; rw [if_pos a, if_pos b] at he; cases he
        · unfold chkO at he; rw [a, if_neg Bool.false_ne_true] at he; cases he; exact ErrAt.same qe s1
        · unfold chkO at he; rw [if_pos a, b, if_neg Bool.false_ne_true] at he; cases he; exact ErrAt.same qe s1
      · unfold chkR at he; rw [hr0] at he; cases he; exact qe
    · have e1 : chkN dn = some .num := by unfold chkN; rw [hn, if_neg Bool.false_ne_true]
      rw [e1] at he
      cases he
      exact qe
end
end K1


set_option Elab.async false
set_option linter.all false
set_option maxRecDepth 100000
set_option maxHeartbeats 4000000
namespace K1
open PySem PySem.Spec PyProof.Rows L2 RZ
abbrev sFate : Stmt := st__is_fate
abbrev nFate : List Str := ["value", "row", "loose", "k", "pair"]
abbrev pFate : List Str := ["value", "row", "loose", "k"]
theorem scFate : FnScope nFate pFate (defScope sFate) := ⟨rfl, rfl, rfl, by decide +kernel, rfl, by decide +kernel, by decide +kernel⟩
abbrev sPlayed : Stmt := st_played
abbrev nPlayed : List Str := ["n", "row", "loose", "k", "fate"]
theorem scPlayed : FnScope nPlayed nPlayed (defScope sPlayed) := ⟨rfl, rfl, rfl, by decide +kernel, rfl, by decide +kernel, by decide +kernel⟩
def pairOk (rl : Nat) (ls : List Int) : PyData → Bool
  | .tuple [.int a, .int b] => decide (a ∈ ls) && (decide (0 ≤ b) && decide (b < (rl : Int)))
  | _ => false
def fst (p : PyData) : Int := dI ((itemsD p).headD .none)
def fateOk (rl : Nat) (ls : List Int) (k : Int) : PyData → Bool
  | .tuple ps => decide ((ps.length : Int) ≤ k) && (ps.all (pairOk rl ls) && ascB (ps.map fst))
  | _ => false
def spFate : Sp := fun vs H Q _ => ∃ (xf : V) (df : PyData) (a b : Addr) (rs : List V) (ls : List Int) (k : Int), vs = [xf, .ref a, .ref b, .int k] ∧ Dv H xf df ∧ SeqH H a rs ∧ H b = some (.tup (ls.map V.int)) ∧ k ≤ 1000 ∧ ∀ H', Same H H' → Q (.bl (fateOk rs.length ls k df)) H'
theorem DvA.two {H : Hp} {vs : List V} {ds : List PyData} (h : DvA H vs ds) (hl : ds.length = 2) : ∃ u v d e, vs = [u, v] ∧ ds = [d, e] ∧ Dv H u d ∧ Dv H v e := by
  cases h with
  | nil => cases hl
  | cons h1 h =>
    cases h with
    | nil => cases hl
    | cons h2 h =>
      cases h with
      | nil => exact ⟨_, _, _, _, rfl, rfl, h1, h2⟩
      | cons _ _ => simp at hl
section
variable {P : Program} {w : World} {K : PySem.W.Frag} {mg : Str → Option Value} {base : Heap} {CN CR CV fV : Addr}
theorem ok_fate {f : Addr} {fd : FuncData} (T : Bj mg) (D_is_integer : Def P w K mg base CX0 1 "is_integer" pV (spB1 isInt)) (D_is_ascending : Def P w K mg base CX0 1 "is_ascending" pIsAsc spIsAsc)
    (F : Fun K "_is_fate" "_is_fate" sFate f fd) : FnOk P w K mg base CX0 2 f fd pFate spFate := by
  have nd := scFate.nd
  refine F.ok scFate (fun vs H Q E h => ?_) (fun cdv A outer s H vs Q E hr h => ?_)
  · obtain ⟨xf, df, a, b, rs, ls, k, rfl, _⟩ := h
    rfl
  · obtain ⟨xf, df, a, b, rs, ls, k, rfl, hf, hrow, hb, hk, q⟩ := h
    refine ⟨_, (pss_cons (ps_if (PW.pt (pw_or (pt_not (pt_val (pe_callB (call_isiK1 (K := K) rfl) (by rfl) T.isinstance PyProof.Rows.boot_isinstance (pa_cons (pv 0) (pa_cons (pe_bltn (v := .ty "tuple") rfl T.tuple PyProof.Rows.boot_tuple rfl) pa_nil))))) (pw_or1 (pt_cmpR op_gt (pe_callB (call_lenK (K := K) rfl) (by rfl) T.len PySem.boot_len (pa_cons (pv 0) pa_nil)) (pv 3) (nomark _)))))
  (pss_one (ps_ret pe_bl))
  pss_nil)
 (C8.pss_cut (ps_for PassesOwn.never rfl (pi_tupK (K := K) rfl (pv 0)) (pg_name (i := 4) nd rfl (Or.inl rfl))
  (pss_cons (ps_if (PW.pt (pw_or (pt_not (pt_val (pe_callB (call_isiK1 (K := K) rfl) (by rfl) T.isinstance PyProof.Rows.boot_isinstance (pa_cons (pv 4) (pa_cons (pe_bltn (v := .ty "tuple") rfl T.tuple PyProof.Rows.boot_tuple rfl) pa_nil))))) (pw_or (pt_cmpR op_ne (pe_callB (call_lenK (K := K) rfl) (by rfl) T.len PySem.boot_len (pa_cons (pv 4) pa_nil)) pe_int (nomark _)) (pw_or (pt_not (pt_val (pe_def D_is_integer (hr.mono (by decide)) rfl pass0 (pa_cons (pe_ix (ix_tupK (K := K) rfl) (pv 4) pe_int (fun _ _ => rfl)) pa_nil)))) (pw_or1 (pt_not (pt_val (pe_def D_is_integer (hr.mono (by decide)) rfl pass0 (pa_cons (pe_ix (ix_tupK (K := K) rfl) (pv 4) pe_int (fun _ _ => rfl)) pa_nil)))))))))
  (pss_one (ps_ret pe_bl))
  pss_nil)
 (pss_one (ps_if (PW.pt (pw_or (pt_cmpR (op_notIn_seqK (K := K) rfl) (pe_ix (ix_tupK (K := K) rfl) (pv 4) pe_int (fun _ _ => rfl)) (pv 2) (by rfl)) (pw_or1 (pt_not (pt_chain op_le op_lt pe_int (pe_ix (ix_tupK (K := K) rfl) (pv 4) pe_int (fun _ _ => rfl)) (pe_callB (call_lenK (K := K) rfl) (by rfl) T.len PySem.boot_len (pa_cons (pv 1) pa_nil)))))))
  (pss_one (ps_ret pe_bl))
  pss_nil))))
 (pss_one (ps_ret (pe_def D_is_ascending (hr.mono (by decide)) rfl pass0 (pa_cons (pe_lc (own := [("pair", 4)]) (g := gName 4) (tt := tYes) rfl nd (pi_tupK (K := K) rfl (pv 0)) (blkOk_by (own := [("pair", 4)]) (N := nFate) (sc := defScope sFate) (by decide +kernel)) (fun _ _ _ _ _ => pg_name (i := 4) nd rfl (Or.inl rfl)) (fun _ _ _ _ _ => pts_nil) (fun _ _ _ _ _ => (pe_ix (ix_tupK (K := K) rfl) (pv 4) pe_int (fun _ _ => rfl)))) pa_nil)))))), ?_⟩
    refine ⟨_, rfl, xf, .ty "tuple", .type _, .type "tuple", isTup df, rfl, .ty _, hf.ty, kit_ty (kit_tup df), _, rfl, ?_⟩
    by_cases hs : isTup df = true
    · obtain ⟨c, xs, rfl, hc, hA, ed⟩ := hf.tupD hs
      have hlen := hA.len
      generalize itemsD df = ds at hA ed hlen
      subst ed
      refine itbF rfl ⟨_, rfl, c, xs, rfl, .inr (st hc), _, rfl, _, _, rfl, rfl, _, rfl, ?_⟩
      have fe : fateOk rs.length ls k (.tuple ds) = (decide ((ds.length : Int) ≤ k) && (ds.all (pairOk rs.length ls) && ascB (ds.map fst))) := rfl
      by_cases hl : k < xs.length
      · refine itbT (decide_eq_true hl) ?_
        rw [fe, decide_eq_false (show ¬ (ds.length : Int) ≤ k by omega), Bool.false_and] at q
        exact q _ (fun _ _ h => h)
      · rw [fe, decide_eq_true (show (ds.length : Int) ≤ k by omega), Bool.true_and] at q
        refine itbF (decide_eq_false hl) ?_
        refine ⟨fun σ H1 => ∃ v4, σ = [some (.ref c), some (.ref a), some (.ref b), some (.int k), v4] ∧ Same H H1 ∧ ds.all (pairOk rs.length ls) = true, ?_, ?_⟩
        · refine ⟨_, rfl, c, rfl, ⟨_, st hc⟩, for_tup (K := K) (a := c) (xs := xs) (fun i σ H1 => ∃ v4, σ = [some (.ref c), some (.ref a), some (.ref b), some (.int k), v4] ∧ Same H H1 ∧ (ds.take i).all (pairOk rs.length ls) = true) ?_ ?_ ?_ ?_⟩
          · exact ⟨none, rfl, fun _ _ h => h, rfl⟩
          · rintro i σ H1 _ ⟨v4, rfl, s1, _⟩
            exact st (s1 _ _ hc)
          · rintro i y σ H1 hy ⟨v4, rfl, s1, hall⟩
            obtain ⟨e, he, hde⟩ := (hA.same s1).get hy
            have out : pairOk rs.length ls e = false → ∀ H', Same H1 H' → Q (.bl false) H' := fun hp H' s' => by
              have hm := List.mem_of_getElem? he
              have : ds.all (pairOk rs.length ls) = false := by
                rw [List.all_eq_false]
                exact ⟨e, hm, by rw [hp]; decide⟩
              rw [this, Bool.false_and] at q
              exact q _ (s1.trans s')
            have out0 : pairOk rs.length ls e = false → Q (.bl false) H1 := fun hp => out hp _ (fun _ _ h => h)
            refine ⟨_, rfl, y, .ty "tuple", .type _, .type "tuple", isTup e, rfl, .ty _, hde.ty, kit_ty (kit_tup e), _, rfl, ?_⟩
            by_cases ht : isTup e = true
            · obtain ⟨t, us, rfl, htt, hU, ee⟩ := hde.tupD ht
              have hul := hU.len
              generalize itemsD e = es at hU ee hul
              subst ee
              refine itbF rfl ⟨_, rfl, t, us, rfl, .inr (st htt), rfl, _, rfl, ?_⟩
              by_cases h2 : us.length = 2
              · refine itbF (by rw [h2]; rfl) ?_
                obtain ⟨u, v, d1, d2, rfl, rfl, hu, hv⟩ := hU.two (by omega)
                refine ⟨_, rfl, t, _, 0, u, rfl, rfl, st htt, atI_nat (j := 0) rfl, u, d1, rfl, hu, _, rfl, ?_⟩
                by_cases i1 : isInt d1 = true
                · refine itbF (by rw [i1]; rfl) ⟨_, rfl, t, _, 1, v, rfl, rfl, st htt, atI_nat (j := 1) rfl, v, d2, rfl, hv, _, rfl, ?_⟩
                  by_cases i2 : isInt d2 = true
                  · cases hu with
                    | int n1 =>
                      cases hv with
                      | int n2 =>
                        have pe : pairOk rs.length ls (.tuple [.int n1, .int n2]) = (decide (n1 ∈ ls) && (decide (0 ≤ n2) && decide (n2 < (rs.length : Int)))) := rfl
                        refine itbF rfl ?_
                        refine ⟨_, rfl, t, _, 0, _, rfl, rfl, st htt, atI_nat (j := 0) rfl, _, rfl, b, _, rfl, .inr (st (s1 _ _ hb)), rfl, flat_ints _, _, rfl, ?_⟩
                        rw [if_pos rfl, inV_ints]
                        by_cases m1 : n1 ∈ ls
                        · rw [decide_eq_true m1] at pe ⊢
                          refine itbF rfl ⟨_, rfl, t, _, 1, _, rfl, rfl, st htt, atI_nat (j := 1) rfl, _, _, rfl, rfl, _, rfl, ?_⟩
                          by_cases m2 : 0 ≤ n2
                          · refine itbT (decide_eq_true m2) ⟨_, rfl, a, rs, rfl, (hrow.same s1).len, _, _, rfl, rfl, _, rfl, ?_⟩
                            by_cases m3 : n2 < (rs.length : Int)
                            · refine itbF (by rw [decide_eq_true m3]; rfl) ?_
                              refine ⟨_, rfl, s1, ?_⟩
                              rw [take_more he, List.all_append, hall]
                              show (true && (pairOk rs.length ls (.tuple [.int n1, .int n2]) && true)) = true
                              rw [pe, decide_eq_true m2, decide_eq_true m3]; rfl
                            · exact itbT (by rw [decide_eq_false m3]; rfl) (out0 (by rw [pe, decide_eq_false m3, Bool.and_false, Bool.and_false]))
                          · exact itbF (decide_eq_false m2) ⟨_, rfl, itbT rfl (out0 (by rw [pe, decide_eq_false m2]; rfl))⟩
                        · rw [decide_eq_false m1] at pe ⊢
                          exact itbT rfl (itbT rfl (out0 pe))
                      | _ => cases i2
                    | _ => cases i1
                  · have i2' : isInt d2 = false := by simpa using i2
                    refine itbT (by rw [i2']; rfl) (out0 ?_)
                    cases d2 with
                    | int => cases i2'
                    | _ => cases d1 <;> rfl
                · have i1' : isInt d1 = false := by simpa using i1
                  refine itbT (by rw [i1']; rfl) (itbT rfl (out0 ?_))
                  cases d1 with
                  | int => cases i1'
                  | _ => rfl
              · refine itbT (by rw [decide_eq_false (fun h => h2 (by have := V.int.inj h; omega))]; rfl) (itbT rfl (out0 ?_))
                match es, hul with
                | [], _ => rfl
                | [x], _ => cases x <;> rfl
                | [_, _], hul => exact absurd hul h2
                | x :: y :: _ :: _, _ => cases x <;> cases y <;> rfl
            · have ht' : isTup e = false := by simpa using ht
              refine itbT (by rw [ht']; rfl) (itbT rfl (out0 ?_))
              cases e with
              | tuple => cases ht'
              | _ => rfl
          · rintro σ H1 ⟨v4, rfl, s1, hall⟩
            rw [hlen, List.take_length] at hall
            exact ⟨v4, rfl, s1, hall⟩
        · rintro σ H1 ⟨v4, rfl, s1, hall⟩
          rw [hall, Bool.true_and] at q
          refine ⟨_, rfl, c, rfl, ⟨_, st (s1 _ _ hc)⟩, fun D hD => ?_⟩
          refine lc_tup (K := K) (a := c) (xs := xs) (fun i H2 => Same H1 H2 ∧ H2 D = some (.lst (((ds.take i).map fst).map V.int))) ⟨same_new hD, upd_same⟩ (fun i H2 _ h => st (h.1 _ _ (s1 _ _ hc))) ?_ ?_
          · rintro i y H2 hy ⟨s2, h2⟩
            obtain ⟨e, he, hde⟩ := (hA.same (s1.trans s2)).get hy
            have hp := List.all_eq_true.mp hall e (List.mem_of_getElem? he)
            obtain ⟨n1, n2, rfl⟩ : ∃ n1 n2, e = .tuple [.int n1, .int n2] := by
              unfold pairOk at hp
              split at hp
              · exact ⟨_, _, rfl⟩
              · cases hp
            cases hde with
            | tup htt hU =>
              obtain ⟨u, v, d1, d2, rfl, e2, hu, hv⟩ := hU.two rfl
              cases e2
              cases hu
              refine ⟨rfl, tyes ⟨_, rfl, _, _, 0, _, rfl, rfl, st htt, atI_nat (j := 0) rfl, _, h2, lt2 _ ?_, s2.mut hD, ?_⟩⟩
              · rw [List.length_map, List.length_map, List.length_take]; omega
              · rw [upd_same, take_more he]
                simp [fst, itemsD, dI]
          · rintro H2 ⟨s2, h2⟩
            rw [hlen, List.take_length] at h2
            exact ⟨D, ds.map fst, rfl, .inl h2, by rw [List.length_map]; omega, fun H3 s3 => q _ ((s1.trans s2).trans s3)⟩
    · have hs' : isTup df = false := by simpa using hs
      refine itbT (by rw [hs']; rfl) (itbT rfl ?_)
      have e : fateOk rs.length ls k df = false := by
        cases df with
        | tuple => cases hs'
        | _ => rfl
      rw [e] at q
      exact q _ (fun _ _ h => h)
end
end K1


set_option Elab.async false
set_option linter.all false
set_option maxRecDepth 100000
set_option maxHeartbeats 4000000
namespace K1
open PySem PySem.Spec PyProof.Rows L2 RZ
/-! ### the draws -/
abbrev sCell : Stmt := st__law_cell_at
abbrev sWell : Stmt := st__law_well
abbrev sDraw : Stmt := st__law_draw
abbrev sOne : Stmt := st__law_one
abbrev nCell : List Str := ["_law_script", "_law_k"]
theorem scCell : FnScope nCell nCell (defScope sCell) := ⟨rfl, rfl, rfl, by decide +kernel, rfl, by decide +kernel, by decide +kernel⟩
abbrev nWell : List Str := ["_law_cell"]
theorem scWell : FnScope nWell nWell (defScope sWell) := ⟨rfl, rfl, rfl, by decide +kernel, rfl, by decide +kernel, by decide +kernel⟩
abbrev nDraw : List Str := ["_law_well_here", "_law_many", "_law_found", "_law_salt", "_law_base", "_law_number"]
abbrev pDraw : List Str := ["_law_well_here", "_law_many"]
theorem scDraw : FnScope nDraw pDraw (defScope sDraw) := ⟨rfl, rfl, rfl, by decide +kernel, rfl, by decide +kernel, by decide +kernel⟩
abbrev nOne : List Str := ["_law_well_here", "_law_some"]
theorem scOne : FnScope nOne nOne (defScope sOne) := ⟨rfl, rfl, rfl, by decide +kernel, rfl, by decide +kernel, by decide +kernel⟩
/-- a well, at most k of whose draws are done by its number -/
def WellT (H : Hp) (p : Addr) (k : Nat) : Prop := ∃ c m t : Int, H p = some (.lst [.int c, .int m, .int t]) ∧ 0 ≤ t ∧ t ≤ k
theorem WellT.at {H : Hp} {p : Addr} {k : Nat} (w : WellT H p k) : WellAt H p := let ⟨c, m, t, e, _⟩ := w; ⟨c, m, t, e⟩
theorem WellT.keep {H H' : Hp} {p : Addr} {k : Nat} (w : WellT H p k) (s : ∀ o, H p = some o → H' p = some o) : WellT H' p k := let ⟨c, m, t, e, h⟩ := w; ⟨c, m, t, s _ e, h⟩
def spCell (K : PySem.W.Frag) : Sp := fun vs H Q _ => ∃ (a : Addr) (ns : List Int) (k : Int), vs = [.ref a, .int k] ∧ SqL K H a (ns.map V.int) ∧ 0 ≤ k ∧ ∀ n : Int, Q (.int n) H
def spWell : Sp := fun vs H Q _ => ∃ (c : Int), vs = [.int c] ∧ ∀ (p : Addr) (H' : Hp), H p = none → Same H H' → WellT H' p 0 → Q (.ref p) H'
def spDraw : Sp := fun vs H Q _ => ∃ (p : Addr) (b : Int) (k : Nat), vs = [.ref p, .int b] ∧ WellT H p k ∧ k ≤ 100000 ∧ 0 < b ∧ b < 1073741824 ∧
  ∀ (d : Int) (H' : Hp), 0 ≤ d → d < b → Ext p H H' → WellT H' p (k + 1) → Q (.int d) H'
def spOne : Sp := fun vs H Q _ => ∃ (p a : Addr) (xs : List V) (k : Nat), vs = [.ref p, .ref a] ∧ WellT H p k ∧ k ≤ 100000 ∧ H a = some (.lst xs) ∧ 0 < xs.length ∧ xs.length < 1073741824 ∧ a ≠ p ∧
  ∀ (i : Nat) (x : V) (H' : Hp), xs[i]? = some x → Ext p H H' → WellT H' p (k + 1) → Q x H'
section
variable {P : Program} {w : World} {K : PySem.W.Frag} {mg : Str → Option Value} {base : Heap}
theorem ok_cell {f : Addr} {fd : FuncData} (T : Bj mg) (F : Fun K "_law_cell_at" "_law_cell_at" sCell f fd) : FnOk P w K mg base CX0 1 f fd nCell (spCell K) := by
  have nd := scCell.nd
  refine F.ok scCell (fun vs H Q E h => ?_) (fun cdv A outer s H vs Q E hr h => ?_)
  · obtain ⟨a, ns, k, rfl, _⟩ := h
    rfl
  · obtain ⟨a, ns, k, rfl, hS, h0, q⟩ := h
    refine ⟨_, (pss_cons (ps_if (pt_cmpR op_lt (pv 1) (pe_callB (call_lenK (K := K) rfl) (by rfl) T.len PySem.boot_len (pa_cons (pv 0) pa_nil)) (nomark _))
  (pss_one (ps_ret (pe_ix (ix_listK (K := K) rfl) (pv 0) (pv 1) (fun _ _ => rfl))))
  pss_nil)
 (pss_one (ps_ret pe_int))), ?_⟩
    refine ⟨_, rfl, _, rfl, a, _, rfl, .inl hS, _, _, rfl, rfl, _, rfl, ite2 (fun c => ?_) (fun c => q 0)⟩
    have c' : k < ns.length := by simpa using c
    have hi : k.toNat < ns.length := by omega
    exact ⟨_, rfl, _, rfl, a, _, k, .int ns[k.toNat], rfl, rfl, hS, at_of (j := k.toNat) (by omega) (by simp [hi]), q _⟩
theorem ok_well {f : Addr} {fd : FuncData} (T : Bj mg) (F : Fun K "_law_well" "_law_well" sWell f fd) : FnOk P w K mg base CX0 1 f fd nWell spWell := by
  have nd := scWell.nd
  refine F.ok scWell (fun vs H Q E h => ?_) (fun cdv A outer s H vs Q E hr h => ?_)
  · obtain ⟨c, rfl, _⟩ := h
    rfl
  · obtain ⟨c, rfl, q⟩ := h
    refine ⟨_, (pss_one (ps_ret (pe_lst (pa_cons (pe_ix (ix_listK (K := K) rfl) (pe_lst (pa_cons pe_int (pa_cons (pv 0) pa_nil))) (pe_callTy call_int1 (by rfl) T.int PyProof.Rows.boot_int (pa_cons (pe_cmpR op_ge (pv 0) (pe_op op_pow pe_int pe_int) (nomark _)) pa_nil)) (fun _ _ => rfl)) (pa_cons (pv 0) (pa_cons pe_int pa_nil)))))), ?_⟩
    refine ⟨_, rfl, (by show 2 ≤ sizeLine; decide), fun l nl => ⟨_, rfl, _, _, rfl, rfl, ⟨by decide, by decide, by decide⟩, _, _, rfl, rfl, .inr ⟨_, rfl, ?_⟩⟩⟩
    have s1 := same_new (o := .lst [.int 0, .int c]) nl
    have fin : ∀ (n : Int), ∀ p, (upd H l (.lst [.int 0, .int c])) p = none → Q (.ref p) (upd (upd H l (.lst [.int 0, .int c])) p (.lst [.int n, .int c, .int 0])) := fun n p np => q p _ (s1.free np) (s1.new np) ⟨n, c, 0, upd_same, by decide, by decide⟩
    by_cases h : c ≥ 10 ^ (18 : Int).toNat
    · rw [decide_eq_true h]
      exact ⟨l, _, 1, .int c, rfl, rfl, sq upd_same, atI_nat (j := 1) rfl, _, rfl, (by show 3 ≤ sizeLine; decide), fin c⟩
    · rw [decide_eq_false h]
      exact ⟨l, _, 0, .int 0, rfl, rfl, sq upd_same, atI_nat (j := 0) rfl, _, rfl, (by show 3 ≤ sizeLine; decide), fin 0⟩
theorem ok_draw {f : Addr} {fd : FuncData} (T : Bj mg) (F : Fun K "_law_draw" "_law_draw" sDraw f fd) : FnOk P w K mg base CX0 1 f fd pDraw spDraw := by
  have nd := scDraw.nd
  refine F.ok scDraw (fun vs H Q E h => ?_) (fun cdv A outer s H vs Q E hr h => ?_)
  · obtain ⟨p, b, k, rfl, _⟩ := h
    rfl
  · obtain ⟨p, b, k, rfl, ⟨c, m, t, hp, t0, tk⟩, hk, hb0, hb1, q'⟩ := h
    have q : ∀ (d c m t : Int), 0 ≤ d → d < b → 0 ≤ t → t ≤ (k + 1 : Nat) → Q (.int d) (upd H p (.lst [.int c, .int m, .int t])) := fun d c m t h1 h2 h3 h4 => q' d _ h1 h2 (Ext.refl H).self ⟨c, m, t, upd_same, h3, h4⟩
    refine ⟨_, (pss_cons (ps_if (pt_cmpR op_gt (pe_ix (ix_listK (K := K) rfl) (pv 0) pe_int (fun _ _ => rfl)) pe_int (nomark _))
  (pss_cons (ps_set (i := 2) nd rfl (Or.inl rfl) (pe_op op_mod (pe_callTy call_int1 (by rfl) T.int PyProof.Rows.boot_int (pa_cons (pe_ix (ix_listK (K := K) rfl) (pv 0) pe_int (fun _ _ => rfl)) pa_nil)) (pv 1)))
 (pss_cons (ps_asg (pe_op op_fdiv (pe_ix (ix_listK (K := K) rfl) (pv 0) pe_int (fun _ _ => rfl)) (pv 1)) (pg_sub (pv 0) pe_int set_list))
 (pss_one (ps_ret (pv 2)))))
  pss_nil)
 (pss_cons (ps_asg (pe_op op_add (pe_ix (ix_listK (K := K) rfl) (pv 0) pe_int (fun _ _ => rfl)) pe_int) (pg_sub (pv 0) pe_int set_list))
 (pss_cons (ps_set (i := 3) nd rfl (Or.inl rfl) (pe_op op_mod (pe_callTy call_int1 (by rfl) T.int PyProof.Rows.boot_int (pa_cons (pe_op op_fdivW (pe_ix (ix_listK (K := K) rfl) (pv 0) pe_int (fun _ _ => rfl)) pe_int) pa_nil)) pe_int))
 (pss_cons (ps_set (i := 4) nd rfl (Or.inl rfl) (pe_op op_add (pe_op op_add (pe_op op_add (pe_op op_mod (pe_callTy call_int1 (by rfl) T.int PyProof.Rows.boot_int (pa_cons (pe_ix (ix_listK (K := K) rfl) (pv 0) pe_int (fun _ _ => rfl)) pa_nil)) pe_int) (pe_op op_mul pe_int (pe_ix (ix_listK (K := K) rfl) (pv 0) pe_int (fun _ _ => rfl)))) (pv 3)) pe_int))
 (pss_cons (ps_set (i := 5) nd rfl (Or.inl rfl) (pe_op op_mod (pe_callTy call_int1 (by rfl) T.int PyProof.Rows.boot_int (pa_cons (pe_op op_pow (pv 4) pe_int) pa_nil)) pe_int))
 (pss_cons (ps_set (i := 5) nd rfl (Or.inl rfl) (pe_op op_mod (pe_callTy call_int1 (by rfl) T.int PyProof.Rows.boot_int (pa_cons (pe_op op_mul (pv 5) (pe_op op_add (pe_op op_add (pe_op op_fdiv (pv 5) pe_int) pe_int) (pe_ix (ix_listK (K := K) rfl) (pv 0) pe_int (fun _ _ => rfl)))) pa_nil)) pe_int))
 (pss_one (ps_ret (pe_op op_mod (pe_callTy call_int1 (by rfl) T.int PyProof.Rows.boot_int (pa_cons (pe_op op_mod (pe_callTy call_int1 (by rfl) T.int PyProof.Rows.boot_int (pa_cons (pe_op op_mul (pv 5) (pe_op op_add (pe_op op_fdiv (pv 5) pe_int) pe_int)) pa_nil)) pe_int) pa_nil)) (pv 1)))))))))), ?_⟩
    have r0 : ∀ x y z : Int, SqL K (upd H p (.lst [.int x, .int y, .int z])) p [.int x, .int y, .int z] := fun x y z => .inl (.inl upd_same)
    have hS : SqL K H p [.int c, .int m, .int t] := .inl (.inl hp)
    have rg : ∀ z : Int, 0 ≤ z % b ∧ z % b < b := fun z => ⟨Int.emod_nonneg _ (by omega), Int.emod_lt_of_pos _ hb0⟩
    refine ⟨.ref p, rfl, p, _, 0, .int c, rfl, rfl, hS, atI_nat (j := 0) rfl, _, _, rfl, rfl, _, rfl, ?_⟩
    refine ite2 (fun _ => ?_) (fun _ => ?_)
    · refine ⟨.ref p, rfl, p, _, 0, .int c, rfl, rfl, hS, atI_nat (j := 0) rfl, .inl ⟨c, rfl, _, rfl, c, b, rfl, rfl, hb0, ?_⟩⟩
      refine ⟨.ref p, rfl, p, _, 0, .int c, rfl, rfl, hS, atI_nat (j := 0) rfl, _, rfl, c, b, rfl, rfl, ⟨hb0, hb1⟩, ?_⟩
      refine ⟨.ref p, rfl, p, _, 0, 0, rfl, rfl, hp, rfl, ?_⟩
      exact ⟨_, rfl, q (c % b) (c / b) m t (rg c).1 (rg c).2 t0 (by omega)⟩
    · refine ⟨.ref p, rfl, p, _, 2, .int t, rfl, rfl, hS, atI_nat (j := 2) rfl, _, _, rfl, rfl, ?_⟩
      refine ⟨.ref p, rfl, p, _, 2, 2, rfl, rfl, hp, rfl, ?_⟩
      refine ⟨.ref p, rfl, p, _, 1, .int m, rfl, rfl, r0 c m (t + 1), atI_nat (j := 1) rfl, _, _, rfl, rfl, wide_div (b := 31) (by decide) (by decide) (by decide) (by decide), .inl ⟨_, rfl, _, _, rfl, rfl, (by show (0 : Int) < _; decide), ?_⟩⟩
      refine ⟨.ref p, rfl, p, _, 1, .int m, rfl, rfl, r0 c m (t + 1), atI_nat (j := 1) rfl, .inl ⟨_, rfl, _, _, rfl, rfl, (by show (0 : Int) < _; decide), ?_⟩⟩
      refine ⟨.ref p, rfl, p, _, 2, .int (t + 1), rfl, rfl, r0 c m (t + 1), atI_nat (j := 2) rfl, _, _, rfl, rfl, .inl ⟨by decide, by decide⟩, _, _, rfl, rfl, _, rfl, _, _, rfl, rfl, _, _, rfl, rfl, ?_⟩
      have b0 : (m % 2147483629 + 7919 * (t + 1) + m / 2147483629 % 65521 + 1).natAbs < 2 ^ 64 := by
        have h1 : 0 ≤ m % 2147483629 ∧ m % 2147483629 < 2147483629 := ⟨Int.emod_nonneg _ (by decide), Int.emod_lt_of_pos _ (by decide)⟩
        have h2 : 0 ≤ m / 2147483629 % 65521 ∧ m / 2147483629 % 65521 < 65521 := ⟨Int.emod_nonneg _ (by decide), Int.emod_lt_of_pos _ (by decide)⟩
        exact Nat.lt_of_lt_of_le (show _ < 10000000000 by omega) (by decide)
      refine ⟨_, rfl, m % 2147483629 + 7919 * (t + 1) + m / 2147483629 % 65521 + 1, 5, rfl, rfl, ⟨by decide, by decide, b0⟩, .inl ⟨_, rfl, _, _, rfl, rfl, (by show (0 : Int) < _; decide), ?_⟩⟩
      generalize he : (m % 2147483629 + 7919 * (t + 1) + m / 2147483629 % 65521 + 1) ^ (5 : Int).toNat % 2147483647 = e
      have e0 : 0 ≤ e ∧ e < 2147483647 := by rw [← he]; exact ⟨Int.emod_nonneg _ (by decide), Int.emod_lt_of_pos _ (by decide)⟩
      refine ⟨_, rfl, _, rfl, _, _, rfl, rfl, ⟨by decide, by decide⟩, _, _, rfl, rfl, .ref p, rfl, p, _, 2, .int (t + 1), rfl, rfl, r0 c m (t + 1), atI_nat (j := 2) rfl, _, _, rfl, rfl, _, _, rfl, rfl, .inl ⟨by omega, by omega⟩, .inl ⟨_, rfl, _, _, rfl, rfl, (by show (0 : Int) < _; decide), ?_⟩⟩
      generalize hg : e * (e / 1009 + 69621 + (t + 1)) % 2147483629 = g
      have g0 : 0 ≤ g ∧ g < 2147483629 := by rw [← hg]; exact ⟨Int.emod_nonneg _ (by decide), Int.emod_lt_of_pos _ (by decide)⟩
      refine ⟨_, rfl, _, rfl, _, _, rfl, rfl, ⟨by decide, by decide⟩, _, _, rfl, rfl, _, _, rfl, rfl, .inl ⟨by omega, by omega⟩, .inl ⟨_, rfl, _, _, rfl, rfl, (by show (0 : Int) < _; decide), .inl ⟨_, rfl, _, rfl, _, _, rfl, rfl, hb0, ?_⟩⟩⟩
      exact q _ c m (t + 1) (rg _).1 (rg _).2 (by omega) (by omega)
theorem ok_one {f : Addr} {fd : FuncData} (T : Bj mg) (D_draw : Def P w K mg base CX0 1 "_law_draw" pDraw spDraw) (F : Fun K "_law_one" "_law_one" sOne f fd) : FnOk P w K mg base CX0 2 f fd nOne spOne := by
  refine F.ok scOne (fun vs H Q E h => ?_) (fun cdv A outer s H vs Q E hr h => ?_)
  · obtain ⟨p, a, xs, k, rfl, _⟩ := h
    rfl
  · obtain ⟨p, a, xs, k, rfl, hw, hk, ha, h0, h1, nap, q⟩ := h
    refine ⟨_, (pss_one (ps_ret (pe_ix (ix_listK (K := K) rfl) (pv 1) (pe_def D_draw (hr.mono (by decide)) rfl pass0 (pa_cons (pv 0) (pa_cons (pe_callB (call_lenK (K := K) rfl) (by rfl) T.len PySem.boot_len (pa_cons (pv 1) pa_nil)) pa_nil))) (fun _ _ => rfl)))), ?_⟩
    refine ⟨_, rfl, _, rfl, _, rfl, a, xs, rfl, .inl (sq ha), ?_⟩
    refine ⟨p, xs.length, k, rfl, hw, hk, by omega, by omega, fun d H' d0 d1 hx hw' => ?_⟩
    have hi : d.toNat < xs.length := by omega
    have hg : xs[d.toNat]? = some xs[d.toNat] := List.getElem?_eq_getElem hi
    exact ⟨a, xs, d, _, rfl, rfl, sq (hx _ _ nap ha), at_of (j := d.toNat) (by omega) hg, q _ _ _ hg hx hw'⟩
end
end K1


set_option Elab.async false
set_option linter.all false
set_option maxRecDepth 100000
set_option maxHeartbeats 1000000
/-! A dict whose keys are tuples of any depth (numbers, texts, None, tuples of such): told with the object that it is. -/
namespace K1
open PySem PySem.Spec PyProof.Rows L2 RZ
abbrev NK := PySem.NestedKey
abbrev NE := NK × Addr × Value
structure NOk (P : Program) (w : World) (d : Addr) (o : Obj) (L : List NE) : Prop where
  sys : (d == sysModules) = false
  ex : o.ExactDict
  dat : ∃ es ep, o.data = .dict es ep ∧ es.toList = L.map (entryOfKey (nestedKind P w))
  nd : (L.map (·.1)).Nodup
def DN (P : Program) (w : World) (d : Addr) (o : Obj) (L : List NE) : HO := .ext fun h => h.get? d = some o ∧ NOk P w d o L
def KsAt (H : Hp) (L : List NE) : Prop := ∀ x ∈ L, Dv H (.ref x.2.1) x.1.data ∧ x.1.depth ≤ 8
theorem KsAt.ext {H H' : Hp} {L : List NE} (h : KsAt H L) (e : LamX.ExtN H H') : KsAt H' L := fun x hx => ⟨(h x hx).1.ext e, (h x hx).2⟩
theorem dn_ok {P : Program} {w : World} {H : Hp} {h : Heap} {d : Addr} {o : Obj} {L : List NE} (e : h.get? d = some o) (n : NOk P w d o L) : ObjOk P w H h d (DN P w d o L) :=
  ⟨⟨e, n⟩, ⟨o, e⟩, fun _ _ p k => ⟨k o p.1, p.2⟩⟩
section
variable {X : Cx} {pins : List (Addr × Obj)} {σ : L2.St} {H : Hp} {s : Shared}
mutual
theorem nk_is (I : Inv X pins σ H s) : ∀ (k : NK) {v : V} {u : Value}, Dv H v k.data → RelV v u → NestedIs s.heap k u
  | .none, v, u, h, r => by
    have h' : Dv H v PyData.none := h
    cases h'
    cases r
    exact .none
  | .num i, v, u, h, r => by
    have h' : Dv H v (PyData.int i) := h
    cases h'
    obtain ⟨t, rfl⟩ := r
    exact .int _ _
  | .text x, v, u, h, r => by
    have h' : Dv H v (PyData.str x) := h
    cases h'
    obtain ⟨t, rfl⟩ := r
    exact .text _ _
  | .tup ks, v, u, h, r => by
    have h' : Dv H v (PyData.tuple (NestedKey.datas ks)) := h
    cases h' with
    | tup ha hx =>
      cases r
      obtain ⟨its, rv, ⟨o, ho, hc, n, hd⟩, _⟩ := I.tuple (st ha)
      exact .tup ho hc hd (nks_is I ks hx rv)
theorem nks_is (I : Inv X pins σ H s) : ∀ (ks : List NK) {vs : List V} {us : List Value}, DvA H vs (NestedKey.datas ks) → Vals vs us → NestedAll s.heap ks us
  | [], vs, us, h, r => by
    have h' : DvA H vs [] := h
    cases h'
    cases r
    exact .nil
  | k :: ks, vs, us, h, r => by
    have h' : DvA H vs (k.data :: NestedKey.datas ks) := h
    cases h' with
    | cons h1 h2 =>
      cases r with
      | cons r1 r2 => exact .cons (nk_is I k h1 r1) (nks_is I ks h2 r2)
end
theorem dn_of {d : Addr} {o : Obj} {L : List NE} (I : Inv X pins σ H s) (h : H d = some (DN X.prog X.w d o L)) (ks : KsAt H L) : s.heap.DictOfH (nestedKind X.prog X.w) d L ∧ (d == sysModules) = false ∧ s.heap.get? d = some o := by
  have ⟨⟨g, n⟩, _⟩ := I.hok d _ h
  obtain ⟨es, ep, h1, h2⟩ := n.dat
  exact ⟨⟨o, es, ep, g, n.ex, h1, h2, fun x hx => ⟨nk_is I x.1 (ks x hx).1 rfl, (ks x hx).2⟩, n.nd⟩, n.sys, g⟩
def rInN (P : Program) (w : World) : R2 := fun x y H Q => ∃ (a d : Addr) (o : Obj) (k : NK) (L : List NE), x = .ref a ∧ y = .ref d ∧ Dv H (.ref a) k.data ∧ k.depth ≤ 8 ∧ H d = some (DN P w d o L) ∧ KsAt H L ∧ Q (.bl (atKey L k).isSome) H
theorem op_inN (hu : X.A.units + 64 < cLine) : OpR X (compareOp .In) (rInN X.prog X.w) := by
  intro pins s σ H x y v u Q I rx ry h
  obtain ⟨a, d, o, k, L, rfl, rfl, hk, dk, hd, ks, q⟩ := h
  cases rx
  cases ry
  obtain ⟨dd, sy, _⟩ := dn_of I hd ks
  exact wpAny_in_heap (knd := nestedKind X.prog X.w) (by show X.A.units + 1 + 8 < cLine; omega) ⟨nk_is I k hk rfl, dk⟩ sy dd ⟨.bl _, _, I.tok _, rfl, q⟩
def rGetN (P : Program) (w : World) : R2 := fun x y H Q => ∃ (a b d t : Addr) (o : Obj) (k : NK) (L : List NE), x = .ref d ∧ y = .ref a ∧ Dv H (.ref a) k.data ∧ k.depth ≤ 8 ∧ H d = some (DN P w d o L) ∧ KsAt H L ∧ atKey L k = some (t, .ref b) ∧ Q (.ref b) H
theorem ix_getN (hu : X.A.units + 64 < cLine) : IxR X (rGetN X.prog X.w) := by
  intro value slice pins s σ H x y v u Q I rx ry h hs
  obtain ⟨a, b, d, t, o, k, L, rfl, rfl, hk, dk, hd, ks, hb, q⟩ := h
  cases rx
  cases ry
  obtain ⟨dd, sy, _⟩ := dn_of I hd ks
  exact tail_any dd.typeIs PySem.F.slot_dict_getitem.lookup (wpAny_getItem_heap (knd := nestedKind X.prog X.w) (by show X.A.units + 1 + 8 < cLine; omega) ⟨nk_is I k hk rfl, dk⟩ dd hb ⟨.ref b, _, I.tok _, rfl, q⟩) hs
/-- d[k] = v -/
def sPutN (P : Program) (w : World) (td ty tv : TE) : TS := fun D σ H => tv σ H fun v H1 => td σ H1 fun x H2 => ty σ H2 fun y H3 => ∃ (a b d : Addr) (o : Obj) (k : NK) (L : List NE), v = .ref b ∧ x = .ref d ∧ y = .ref a ∧ Dv H3 (.ref a) k.data ∧ k.depth ≤ 8 ∧ H3 d = some (DN P w d o L) ∧ KsAt H3 L ∧ L.length < 1000 ∧
  ∀ o', D.nx σ (upd H3 d (DN P w d o' (storedH L k a (.ref b))))
theorem ps_putN {o i value : Expr} {td ty tv : TE} {pos pos' : Pos} (hu : X.A.units + 64 < cLine) (ho : PE X o td) (hi : PE X i ty) (hv : PE X value tv) (hs : swapsWith value (some (.Subscript o i pos')) pos.line X.env = pure false) :
    PS X (.Assign [.Subscript o i pos'] value pos) (sPutN X.prog X.w td ty tv) := by
  refine ⟨fun pins s σ H D I h => ?_⟩
  refine wpAny_Assign_Subscript (thn (hv.run pins s σ H _ I h) fun r s1 ⟨v, H1, I1, rv, q1⟩ => thn (ho.run pins s1 σ H1 _ I1 q1) fun u s2 ⟨x, H2, I2, rx, q2⟩ => thn (hi.run pins s2 σ H2 _ I2 q2) fun iv s3 ⟨y, H3, I3, ry, a, b, d, o', k, L, ev, ex, ey, hk, dk, hd, ks, hl, q3⟩ => ?_) hs
  subst ev ex ey
  obtain rfl : r = Value.ref b := rv
  obtain rfl : u = Value.ref d := rx
  obtain rfl : iv = Value.ref a := ry
  obtain ⟨dd, sy, _⟩ := dn_of I3 hd ks
  refine wpAny_setItem_heap (knd := nestedKind X.prog X.w) (hsz := by rw [sizeLine_eq]; omega) (by show X.A.units + 1 + 8 < cLine; omega) ⟨nk_is I3 k hk rfl, dk⟩ dd fun h' dd' hs => ?_
  obtain ⟨on, es, ep, hq, h2, h3, h4, _, h5⟩ := dd'
  exact ⟨σ, _, d_write I3 (by rw [hd]; exact True.intro) hs ⟨on, hq⟩ (dn_ok hq ⟨sy, h2, ⟨es, ep, h3, h4⟩, h5⟩), q3 on⟩
/-- {} -/
def tDNewN (P : Program) (w : World) : TE := fun _ H Q => ∀ p o, H p = none → Q (.ref p) (upd H p (DN P w p o []))
theorem pe_dnewN {pos : Pos} : PE X (.Dict [] [] pos) (tDNewN X.prog X.w) := ⟨fun pins s σ H Q I h =>
  wpAny_Dict_empty ⟨.ref s.heap.objs.size, _, I.laid (a := s.heap.objs.size) (o := DN X.prog X.w s.heap.objs.size { cls := .type "dict", data := .dict #[] } []) (t' := s.toks) (fun _ _ q => Heap.get?_push_of_some _ q) (Nat.le_refl _)
    (dn_ok (Heap.get?_push_size _ rfl) ⟨beq_eq_false_iff_ne.mpr (Ne.symm (Nat.ne_of_lt I.big)), ⟨rfl, rfl, rfl⟩, ⟨#[], 0, rfl, rfl⟩, List.nodup_nil⟩), rfl, h _ _ (I.hok.fresh (Nat.le_refl _))⟩⟩
/-- for k in d -/
def ItN (P : Program) (w : World) (d : Addr) (o : Obj) (L : List NE) : It :=
  ⟨fun i H => H d = some (DN P w d o L) ∧ i < L.length, fun i H x H' => H' = H ∧ ∃ e, L[i]? = some e ∧ x = .ref e.2.1, fun i H => H d = some (DN P w d o L) ∧ L.length ≤ i⟩
theorem dn_get {d : Addr} {o : Obj} {L : List NE} (I : Inv X pins σ H s) (h : H d = some (DN X.prog X.w d o L)) : s.heap.get? d = some o ∧ NOk X.prog X.w d o L := (I.hok d _ h).1
theorem turn_keysN {P : Program} {w : World} {K : PySem.W.Frag} {tg : Expr} {d : Addr} {o : Obj} {L : List NE} {es : Array DictEntry} {ep : Nat} (it : Addr) (hod : o.data = .dict es ep) (hes : es.toList = L.map (entryOfKey (nestedKind P w))) : Turn P w K tg (ItN P w d o L) [it] it (fun i h => h.IsKeyIter it d i L.length ep) where
  mem := by simp
  obj := fun i h st b hb => by
    have e : b = it := by simpa using hb
    subst e
    obtain ⟨oi, e, c, dd⟩ := st
    exact ⟨oi, e, fun v z => by rw [dd] at z; cases z⟩
  keep := fun i h h' st k => st.at fun oi e => k it (by simp) oi e
  item := by
    intro X hP hw hK hc i pins s σ H E I hf st hg
    subst hP hw hK
    obtain ⟨hd, hi⟩ := hg
    obtain ⟨f0, f1, f2, f3, f4, f5⟩ := hf it (by simp)
    obtain ⟨hgd, _⟩ := dn_get I hd
    obtain ⟨e, he⟩ : ∃ p, L[i]? = some p := ⟨L[i], List.getElem?_eq_getElem hi⟩
    have hen : es[i]? = some (entryOfKey (nestedKind X.prog X.w) e) := by rw [entry_at hes i, he]; rfl
    refine next_key_item st hgd hod (size_of_entries hes) hen fun h' st' sb => ?_
    have I1 : Inv X pins σ H { s with heap := h' } := I.turned (t' := s.toks) (fun b ob hb e => (sb.2 b hb).trans e) f0 f1 f3 f4 f5
    obtain ⟨oi, e1, c, dd⟩ := id st'
    exact ⟨_, rfl, go_of (s := { s with heap := h' }) e1 c dd (by decide) ⟨.ref e.2.1, H, I1, rfl, ⟨rfl, e, he, rfl⟩, st', fun b hb => (hf b hb).1⟩⟩
  done := by
    intro X hP hw hK hc i pins s σ H E I hf st hg
    subst hP hw hK
    obtain ⟨hd, hi⟩ := hg
    obtain ⟨f0, f1, f2, f3, f4, f5⟩ := hf it (by simp)
    obtain ⟨hgd, _⟩ := dn_get I hd
    exact next_key_end (I.ok.hd hc) st hgd hod (size_of_entries hes) hi fun h' eb => ⟨rfl, I.turned (t' := s.toks) (fun b ob hb e => eb b ob hb e) f0 f1 f3 f4 f5⟩
  self := fun A i s Q E st h => by
    refine wpAny_pyIter_slot st.typeIs F.slot_dict_keyiterator_iter (wpAny_call_entry F.slot_dict_keyiterator_iter st.typeIs F.entry_dict_keyiterator_iter ?_ (F.args_dict_keyiterator_iter_1 _))
    show wpAny _ _ (ret (.ref it)) _ _ s
    exact wpAny_pure ⟨_, rfl, "dict_keyiterator", _, st.typeIs, F.slot_dict_keyiterator_next.lookup, h⟩
def iKeysN (P : Program) (w : World) (td : TE) : TI := fun σ H R => td σ H fun x H1 => ∃ d o L, x = .ref d ∧ H1 d = some (DN P w d o L) ∧ R (ItN P w d o L) H1
theorem pi_keysN {tg e : Expr} {td : TE} (he : PE X e td) : PI X tg e (iKeysN X.prog X.w td) := by
  refine ⟨fun pins s σ H R I h => ?_⟩
  refine thn (he.run pins s σ H _ I h) fun u s1 ⟨x, H1, I1, rx, d, o, L, ex, hd, q⟩ => ?_
  subst ex
  obtain rfl : u = Value.ref d := rx
  obtain ⟨hgd, n⟩ := dn_get I1 hd
  obtain ⟨es, ep, h1, h2⟩ := n.dat
  refine iter_keys n.sys hgd n.ex h1 (pi_one (tk := s1.toks) I1 _ (turn_keysN _ h1 h2) ⟨_, Heap.get?_push_size _ rfl, rfl, ?_⟩ q)
  rw [size_of_entries h2] <;> rfl
theorem walk_keysN {P : Program} {w : World} {d : Addr} {o : Obj} {L : List NE} : Walk (ItN P w d o L) L.length (fun H => H d = some (DN P w d o L)) (fun i H x H' => H' = H ∧ ∃ e, L[i]? = some e ∧ x = .ref e.2.1) :=
  ⟨fun _ _ hi q => ⟨q, hi⟩, fun _ q => ⟨q, Nat.le_refl _⟩, fun _ _ _ _ _ _ y => y⟩
end
section
variable {X : Cx} {P : Program} {w : World}
theorem op_inNK (hp : X.prog = P) (hw : X.w = w) (hu : X.A.units + 64 < cLine) : OpR X (compareOp .In) (rInN P w) := by subst hp hw; exact op_inN hu
theorem ix_getNK (hp : X.prog = P) (hw : X.w = w) (hu : X.A.units + 64 < cLine) : IxR X (rGetN P w) := by subst hp hw; exact ix_getN hu
theorem ps_putNK {o i value : Expr} {td ty tv : TE} {pos pos' : Pos} (hp : X.prog = P) (hw : X.w = w) (hu : X.A.units + 64 < cLine) (ho : PE X o td) (hi : PE X i ty) (hv : PE X value tv) (hs : swapsWith value (some (.Subscript o i pos')) pos.line X.env = pure false) :
    PS X (.Assign [.Subscript o i pos'] value pos) (sPutN P w td ty tv) := by subst hp hw; exact ps_putN hu ho hi hv hs
theorem pe_dnewNK {pos : Pos} (hp : X.prog = P) (hw : X.w = w) : PE X (.Dict [] [] pos) (tDNewN P w) := by subst hp hw; exact pe_dnewN
theorem pi_keysNK {tg e : Expr} {td : TE} (hp : X.prog = P) (hw : X.w = w) (he : PE X e td) : PI X tg e (iKeysN P w td) := by subst hp hw; exact pi_keysN he
end
end K1


set_option Elab.async false
set_option linter.all false
set_option maxRecDepth 100000
set_option maxHeartbeats 2000000
/-! sorted of a list of tuples whose first is (): the kind is one type, every comparison is tuple.__lt__. -/
namespace Srt0
open PySem PySem.W PySem.Spec PyProof.Rows
section
variable {prog : Program} {w : World} {A : Around} {E : Value → Shared → Prop} {s : Shared}
theorem mapM_any {M : Model} {β : Type} {f : Value → Sem β} {g : Value → β} : ∀ {vs : List Value} (h : ∀ v ∈ vs, ∀ Q : β → Shared → Prop, Q (g v) s → wpAny M A (f v) Q E s) {Q : List β → Shared → Prop}, Q (vs.map g) s → wpAny M A (vs.mapM f) Q E s
  | [], _, Q, q => by
    rw [List.mapM_nil]
    exact wpAny_pure q
  | v :: r, h, Q, q => by
    rw [List.mapM_cons]
    refine wpAny_bind (h v (by simp) _ ?_)
    refine wpAny_bind (mapM_any (fun u hu => h u (by simp [hu])) ?_)
    exact wpAny_pure q
/-- a tuple at the heap, with its things -/
def TupIs (h : Heap) (v : Value) (xs : List Value) : Prop := ∃ a o n, v = .ref a ∧ h.get? a = some o ∧ o.cls = .type "tuple" ∧ o.data = .seq xs.toArray n
theorem first_tup {M : Model} {v : Value} {xs : List Value} {Q : Option Value → Shared → Prop} (h : TupIs s.heap v xs) (q : Q xs[0]? s) : wpAny M A (firstOfTuple' v) Q E s := by
  obtain ⟨a, o, n, rfl, ho, hc, hd⟩ := h
  rw [kas_first_eq]
  refine wpAny_bind (wpAny_typeOf_ref ho ?_)
  rw [hc, if_neg (by decide)]
  refine wpAny_bind (listItems_at ho hd ?_)
  refine wpAny_pure ?_
  simpa using q
theorem kind_tup0 {M : Model} {v0 : Value} {r : List Value} {Q : SortKind → Shared → Prop} (h0 : TupIs s.heap v0 []) (h : ∀ v ∈ v0 :: r, ∃ xs, TupIs s.heap v xs) (q : Q oneType' s) : wpAny M A (keyKind' (v0 :: r).toArray) Q E s := by
  rw [keyKind'_eq, Array.mapM_eq_mapM_toList]
  have hx : ∃ g : Value → List Value, g v0 = [] ∧ ∀ v ∈ v0 :: r, TupIs s.heap v (g v) := by
    classical
    refine ⟨fun v => if hv : v = v0 then [] else if h' : ∃ xs, TupIs s.heap v xs then h'.choose else [], by simp, fun v hv => ?_⟩
    by_cases e : v = v0
    · subst e
      simp only [dif_pos]; exact h0
    · simp only [dif_neg e, dif_pos (h v hv)]
      exact (h v hv).choose_spec
  obtain ⟨g, hg0, hg⟩ := hx
  refine wpAny_bind ?_
  rw [map_eq_pure_bind]
  refine wpAny_bind (mapM_any (g := fun v => (g v)[0]?) (fun v hv Q' q' => first_tup (hg v hv) q') ?_)
  refine wpAny_pure ?_
  rw [if_neg (by simp [hg0]), if_neg (by simp [hg0]), oneTypeOnly'_eq, Array.mapM_eq_mapM_toList]
  refine wpAny_bind (wpAny_bind ?_)
  rw [map_eq_pure_bind]
  refine wpAny_bind (mapM_any (g := fun _ => Value.type "tuple") (fun v hv Q' q' => ?_) ?_)
  · obtain ⟨a, o, n, rfl, ho, hc, hd⟩ := hg v hv
    refine wpAny_typeOf_ref ho ?_
    rw [hc]; exact q'
  · refine wpAny_pure ?_
    have e : ((List.map (fun x => Value.type "tuple") (v0 :: r)).toArray.all fun x => x == Value.type "tuple") = true := by
      rw [List.all_toArray, List.all_map]
      exact List.all_eq_true.mpr fun x _ => by simp
    show wpAny _ _ (pure (if ((List.map (fun x => Value.type "tuple") (v0 :: r)).toArray.all fun x => x == Value.type "tuple") = true then some (Value.type "tuple") else none)) _ _ _
    rw [e]
    exact wpAny_pure (wpAny_pure q)
theorem ra_len {h : Heap} : ∀ {vs : List Value} {xs : List PyData} {as : List Addr}, ReadsAll h vs xs as → vs.length = xs.length
  | _, _, _, .nil => rfl
  | _, _, _, .cons _ t => by rw [List.length_cons, List.length_cons, ra_len t]
theorem TupIs.of {h : Heap} {v : Value} {xs : List PyData} {as : List Addr} (r : Reads h v (.tuple xs) as) : ∃ vs, TupIs h v vs ∧ vs.length = xs.length ∧ ReadsAll h vs xs as := by
  cases r with
  | @tuple a o vs n _ _ ho hc hd hr =>
    refine ⟨vs.toList, ⟨a, o, n, rfl, ho, hc, by rw [hd]⟩, ?_, hr⟩
    exact ra_len hr
theorem oneLt_tup {a b : Value} {xs ys : List PyData} {as bs : List Addr} {Q : Bool → Shared → Prop} (ra : Reads s.heap a (.tuple xs) as) (rb : Reads s.heap b (.tuple ys) bs) (al : alikeAll xs ys = true)
    (hu : A.units + 2 + min (PyData.depthAll xs) (PyData.depthAll ys) < cLine) (q : Q (dataLt (.tuple xs) (.tuple ys)) s) : wpAny (model prog w) A (oneLt' true a b) Q E s := by
  obtain ⟨vs, ⟨x, ox, n, rfl, hx, hcx, hdx⟩, lv, rv⟩ := TupIs.of ra
  obtain ⟨ws, ⟨y, oy, m, rfl, hy, hcy, hdy⟩, lw, rw_⟩ := TupIs.of rb
  obtain ⟨cls, dd, data, sl⟩ := ox
  obtain ⟨cls2, dd2, data2, sl2⟩ := oy
  simp only at hcx hdx hcy hdy
  subst hcx hdx hcy hdy
  rw [oneLt'_eq]
  rw [if_pos rfl]
  refine wpAny_bind (wpAny_cRoomFor (by omega) ?_)
  refine wpAny_bind (wpAny_callSpecialIfBound?_slot (T := "tuple") ⟨_, hx, rfl⟩ F.slot_tuple_lt ?_)
  have hu1 : A.in1.units = A.units + 1 := rfl
  refine call_meets F.slot_tuple_lt ⟨_, hx, rfl⟩ F.entry_tuple_lt (F.args_tuple_lt_2 _ _)
    (SeqAt.tuple_ltAt x y vs.toArray ws.toArray n m dd dd2 sl sl2 (SeqAt.pairEq xs ys) fun j => dataLt (xs.getD j .none) (ys.getD j .none)) ⟨hx, hy, fun j h1 h2 => ?_, fun j h1 h2 e => ?_, ?_⟩
  · have := eqAt_alikeAll xs ys A.in1 s vs ws as bs rv rw_ al (by omega) j (by simpa using h1) (by simpa using h2)
    simpa using this
  · have := rcLt_alikeAll xs ys A.in1 s vs ws as bs rv rw_ al (by omega) j (by simpa using h1) (by simpa using h2) e
    simpa using this
  · have e : SeqAt.firstLt (SeqAt.pairEq xs ys) (fun j => dataLt (xs.getD j .none) (ys.getD j .none)) (decide (vs.toArray.size < ws.toArray.size)) (List.range (min vs.toArray.size ws.toArray.size)) = dataLt (.tuple xs) (.tuple ys) := by
      rw [List.size_toArray, List.size_toArray, lv, lw, firstLt_toks xs ys al, dataLt_tuple]
    show wpAny _ _ (truthOfDropped (Value.bool _)) _ _ _
    rw [e]
    exact wpAny_truthy_bool q
end
end Srt0


set_option Elab.async false
set_option linter.all false
set_option maxRecDepth 100000
set_option maxHeartbeats 2000000
namespace Srt0
open PySem PySem.W PySem.Spec PyProof.Rows
theorem swo_data {α : Type} (f : α → PyData) : SrtO.Swo fun v u => dataLt (f v) (f u) := by
  refine ⟨fun x y h => ?_, fun x y z h1 h2 => ?_⟩
  · by_cases k : dataLt (f y) (f x) = true
    · have e1 := (listOrd itemOrd).trans (keyToks (f x)) (keyToks (f y)) (keyToks (f x)) h k
      rw [(listOrd itemOrd).irrefl] at e1
      cases e1
    · simpa using k
  · by_cases k : dataLt (f z) (f x) = true
    · rcases (listOrd itemOrd).negTrans (keyToks (f z)) (keyToks (f y)) (keyToks (f x)) k with e | e
      · have : dataLt (f z) (f y) = true := e
        rw [this] at h2; cases h2
      · have : dataLt (f y) (f x) = true := e
        rw [this] at h1; cases h1
    · simpa using k
section
variable {prog : Program} {w : World} {A : Around} {E : Value → Shared → Prop} {s : Shared}
open Classical in
/-- what a value tells -/
noncomputable def dec (h : Heap) (v : Value) : PyData := if k : ∃ d as, Reads h v d as then k.choose else .none
theorem dec_eq {h : Heap} {v : Value} {d : PyData} {as : List Addr} (r : Reads h v d as) : dec h v = d := by
  have k : ∃ d as, Reads h v d as := ⟨d, as, r⟩
  unfold dec
  rw [dif_pos k]
  obtain ⟨bs, r2⟩ := k.choose_spec
  exact (Reads.unique r2 d as r).1
theorem sorted_tup0 {l : Addr} {vs : List Value} {ds : List PyData} {Q : Value → Shared → Prop} (hl : s.heap.IsList l vs.toArray) (he : EachIs (fun v d => ∃ as, Reads s.heap v d as) vs ds)
    (hfst : ds.head? = some (.tuple [])) (ht : ∀ d ∈ ds, ∃ xs, d = .tuple xs ∧ PyData.depthAll xs ≤ 60) (hal : ∀ xs ys, PyData.tuple xs ∈ ds → PyData.tuple ys ∈ ds → alikeAll xs ys = true) (hlen : ds.length ≤ sizeLine) (hu : A.units + 65 < cLine)
    (q : ∀ (out : List Value) (es : List PyData), out.Perm vs → es.Perm ds → es.Pairwise (fun x y => dataLt y x = false) → EachIs (fun v d => ∃ as, Reads s.heap v d as) out es → Q (.ref (s.heap.objs.size + 1)) { s with heap := sortedAll s.heap vs out.toArray }) :
    wpAny (model prog w) A (call (.builtin "sorted") [.ref l]) Q E s := by
  have hmem : ∀ v ∈ vs, ∃ d ∈ ds, ∃ as, Reads s.heap v d as := by
    clear hl hfst ht hal hlen q
    intro v hv
    induction he with
    | nil => cases hv
    | @cons a b as bs r t ih =>
      rcases List.mem_cons.mp hv with rfl | hv
      · exact ⟨b, by simp, r⟩
      · obtain ⟨d, hd, z⟩ := ih hv
        exact ⟨d, by simp [hd], z⟩
  have hmap : vs.map (dec s.heap) = ds := by
    clear hl hfst ht hal hlen q hmem
    induction he with
    | nil => rfl
    | cons r t ih =>
      obtain ⟨as, r⟩ := r
      rw [List.map_cons, ih, dec_eq r]
  refine SrtO.sorted_ord (ltv := fun v u => dataLt (dec s.heap v) (dec s.heap u)) (swo_data _) hl (by rw [he.length]; exact hlen) (fun h2 h₁ a ha hk h' hk' => ?_) (fun out ho st => ?_)
  · have hkeep : ∀ b o, s.heap.get? b = some o → h'.get? b = some o := fun b o z => hk' b o (hk b o z).1 (hk b o z).2
    refine ⟨oneType', fun Q' E' q' => ?_, fun p r hp hr => ?_⟩
    · cases he with
      | nil => simp at h2
      | @cons v0 b0 vr br r0 tr =>
        refine kind_tup0 ?_ ?_ q'
        · obtain ⟨as, r0⟩ := r0
          simp only [List.head?_cons, Option.some.injEq] at hfst
          subst hfst
          obtain ⟨xs, hx, lx, _⟩ := TupIs.of (Reads.keeps hkeep r0)
          have : xs = [] := List.length_eq_zero_iff.mp lx
          subst this
          exact hx
        · intro v hv
          obtain ⟨d, hd, as, r⟩ := hmem v hv
          obtain ⟨xs, rfl, _⟩ := ht d hd
          obtain ⟨ws, hx, _⟩ := TupIs.of (Reads.keeps hkeep r)
          exact ⟨ws, hx⟩
    · obtain ⟨d1, hd1, as1, r1⟩ := hmem _ hp
      obtain ⟨d2, hd2, as2, r2⟩ := hmem _ hr
      obtain ⟨xs, rfl, dx⟩ := ht d1 hd1
      obtain ⟨ys, rfl, dy⟩ := ht d2 hd2
      rw [keyLt'_oneType]
      refine oneLt_tup (Reads.keeps hkeep r1) (Reads.keeps hkeep r2) (hal xs ys hd1 hd2) ?_ ⟨rfl, ?_⟩
      · show A.units + 1 + 1 + 2 + _ < _
        omega
      · show _ = dataLt (dec s.heap p.fst) (dec s.heap r.fst)
        rw [dec_eq r1, dec_eq r2]
  · refine q out (out.map (dec s.heap)) st.perm ?_ ?_ ?_
    · rw [← hmap]; exact st.perm.map _
    · exact List.pairwise_map.mpr ho
    · have hm : ∀ v ∈ out, ∃ d as, Reads s.heap v d as := fun v hv => by
        obtain ⟨d, _, z⟩ := hmem v (st.perm.mem_iff.mp hv)
        exact ⟨d, z⟩
      clear ho st
      induction out with
      | nil => exact .nil
      | cons v r ih =>
        refine .cons ?_ (ih fun u hu => hm u (by simp [hu]))
        obtain ⟨d, as, z⟩ := hm v (by simp)
        exact ⟨as, by rw [dec_eq z]; exact z⟩
end
end Srt0


set_option Elab.async false
set_option linter.all false
set_option maxRecDepth 100000
set_option maxHeartbeats 2000000
/-! sorted of a dict keyed by nested tuples; sorted of a list of tuples whose first is (). -/
namespace K1
open PySem PySem.Spec PyProof.Rows L2 RZ
open PySem.W (KdlSrc EachIs dataLt dataLe alike alikeAll AllAlike Sortable)
section
variable {X : Cx} {pins : List (Addr × Obj)} {σ : L2.St} {H : Hp} {s : Shared}
mutual
theorem nk_reads (I : Inv X pins σ H s) : ∀ (k : NK) {v : V} {u : Value}, Dv H v k.data → RelV v u → Reads s.heap u k.data []
  | .none, v, u, h, r => by
    have h' : Dv H v PyData.none := h
    cases h'
    cases r
    exact .none
  | .num i, v, u, h, r => by
    have h' : Dv H v (PyData.int i) := h
    cases h'
    obtain ⟨t, rfl⟩ := r
    exact .int _ _
  | .text x, v, u, h, r => by
    have h' : Dv H v (PyData.str x) := h
    cases h'
    obtain ⟨t, rfl⟩ := r
    exact .str _ _
  | .tup ks, v, u, h, r => by
    have h' : Dv H v (PyData.tuple (NestedKey.datas ks)) := h
    cases h' with
    | tup ha hx =>
      cases r
      obtain ⟨its, rv, ⟨o, ho, hc, n, hd⟩, _⟩ := I.tuple (st ha)
      exact .tuple ho hc hd (nks_reads I ks hx (by simpa using rv))
theorem nks_reads (I : Inv X pins σ H s) : ∀ (ks : List NK) {vs : List V} {us : List Value}, DvA H vs (NestedKey.datas ks) → Vals vs us → ReadsAll s.heap us (NestedKey.datas ks) []
  | [], vs, us, h, r => by
    have h' : DvA H vs [] := h
    cases h'
    cases r
    exact .nil
  | k :: ks, vs, us, h, r => by
    have h' : DvA H vs (k.data :: NestedKey.datas ks) := h
    cases h' with
    | cons h1 h2 =>
      cases r with
      | cons r1 r2 => exact .cons (as := []) (bs := []) (nk_reads I k h1 r1) (nks_reads I ks h2 r2)
end
end
/-- the keys of a dict as what list() and sorted() collect -/
theorem src_N {prog : Program} {w : World} {d : Addr} {o : Obj} {es : Array DictEntry} {ep : Nat} (sy : (d == sysModules) = false) (ex : o.ExactDict) (dat : o.data = .dict es ep) :
    KdlSrc prog w "dict" d d es.size (fun i v => ∃ en, es[i]? = some en ∧ v = en.key) fun h => h.get? d = some o where
  type := fun s h => ⟨o, h, ex.1⟩
  there := fun h e => ⟨Heap.lt_size e, Heap.lt_size e⟩
  keep := fun h h' e k => k d (.inl rfl) o e
  notList := by decide +kernel
  notTuple := by decide +kernel
  hint := fun A E s Q e q => PySem.W.kdl_hint_dict ⟨o, e, ex.1⟩ q
  iter := fun A s hh e => by
    have hlt : d < s.heap.objs.size := Heap.lt_size e
    refine ⟨{ cls := .type "dict_keyiterator", data := .fields #[.ref d, .int 0 0, .int (es.size : Nat) 0, .int (ep : Nat) 0] }, fun i h => h.IsKeyIter s.heap.objs.size d i es.size ep ∧ h.get? d = some o, fun E Q q => iter_keys sy e ex dat q, ⟨?_, ?_, ?_, ?_, ?_⟩, ⟨⟨_, Heap.get?_push_size _ rfl, rfl, rfl⟩, Heap.get?_push_of_some _ e⟩⟩
    · intro b hb; simp at hb; simp [hb]
    · rintro i h h' ⟨h1, h2⟩ k
      exact ⟨h1.at fun oi z => k _ (by simp) oi z, k d (by simp) o h2⟩
    · rintro i s1 Q E hi ⟨h1, h2⟩ q
      refine next_key_item h1 h2 dat rfl (Array.getElem?_eq_getElem hi) fun h' h1' sb => ?_
      refine q _ h' s1.toks ⟨_, Array.getElem?_eq_getElem hi, rfl⟩ ⟨h1', ?_⟩ fun b ob hb z => ?_
      · exact (sb.2 d (Nat.ne_of_lt hlt)).trans h2
      · exact (sb.2 b (by simpa using hb)).trans z
    · rintro s1 Q E ⟨h1, h2⟩ q
      refine next_key_end hh h1 h2 dat rfl (Nat.le_refl _) fun h' eb => ?_
      exact q h' s1.toks fun b ob hb z => eb b ob (by simpa using hb) z
    · rintro i s1 Q E ⟨h1, h2⟩ q
      exact wpAny_pyIter_keyiter h1 q
section
variable {P : Program} {w : World} {A : Around} {E : Value → Shared → Prop} {s : Shared}
/-- what is collected of a source, with the size of the heap -/
theorem collect_src {T : String} {r d : Addr} {n : Nat} {Pv : Nat → Value → Prop} {OK : Heap → Prop} {Q : List Value → Shared → Prop} (src : KdlSrc P w T r d n Pv OK) (hh : A.handled = none) (ok : OK s.heap) (hn : n ≤ sizeLine)
    (hQ : ∀ (h' : Heap) (tk : Nat) (acc : Array Value), s.heap.objs.size ≤ h'.objs.size → (∀ b o', s.heap.get? b = some o' → h'.get? b = some o') → ItemsOf Pv acc n → Q acc.toList { s with heap := h', toks := tk }) :
    wpAny (model P w) A (collect (.ref r)) Q E s := by
  obtain ⟨hr, hd⟩ := src.there _ ok
  unfold collect
  refine wpAny_bind (wpAny_runValue (codeAny_builtin F.entry_proto_collect ?_))
  rw [Around.under_plainId F.plain_proto_collect _]
  show wpAny _ A.in1 (newList [] >>= fun l => again (.builtin "list.__iadd__" ⟨[l, .ref r], []⟩)) _ _ s
  refine wpAny_bind (wpAny_newObj_type ?_)
  refine wpAny_pure ⟨plainId_quiet F.plain_list_iadd _, codeAny_builtin F.entry_list_iadd ?_⟩
  rw [Around.under_plainId F.plain_list_iadd _]
  show wpAny _ A.in1 (Builtin.List.listExtendWith (.ref s.heap.objs.size) (.ref r) (.ref s.heap.objs.size)) _ _ _
  have hS : (s.heap.push { cls := .type "list", data := .seq ([] : List Value).toArray }).get? s.heap.objs.size = some { cls := .type "list", data := .seq #[] 0 } := Heap.get?_push_size _ rfl
  have ok2 : OK (s.heap.push { cls := .type "list", data := .seq ([] : List Value).toArray }) := src.keep _ _ ok fun b _ o z => Heap.get?_push_of_some _ z
  refine wpAny_mono (PySem.W.kdl_extend (A := A) (R := fun r s' => r = .ok (.ret (.ref s.heap.objs.size)) ∧ ∃ h' tk acc c', (∀ b o, s.heap.get? b = some o → h'.get? b = some o) ∧ h'.get? s.heap.objs.size = some { cls := .type "list", data := .seq acc c' } ∧ ItemsOf Pv acc n ∧ s' = { s with heap := h', toks := tk })
    (s := { s with heap := s.heap.push { cls := .type "list", data := .seq ([] : List Value).toArray } }) src hh ok2 s.heap.objs.size (Nat.ne_of_gt hr) (Nat.ne_of_gt hd) _ 0 hS (fun h' tk acc c' hk hg hi => ⟨rfl, h', tk, acc, c', fun b o z => hk b o (Nat.ne_of_lt (Heap.lt_size z)) (Heap.get?_push_of_some _ z), hg, hi, rfl⟩) hn) (fun fin s' h => ?_) (fun e s' h => ?_)
  · have fin' : ∀ s', (∃ h' tk acc c', (∀ b o, s.heap.get? b = some o → h'.get? b = some o) ∧ h'.get? s.heap.objs.size = some { cls := .type "list", data := .seq acc c' } ∧ ItemsOf Pv acc n ∧ s' = { s with heap := h', toks := tk }) →
        wpAny (model P w) A (match Value.ref s.heap.objs.size with
      | Value.ref a => do
        match (← load a).data with
          | Data.seq xs _ => pure xs.toList
          | _ => unsupported "internal:collect"
      | _ => unsupported "internal:collect") Q E s' := by
      rintro s' ⟨h', tk, acc, c', hk, hg, hi, rfl⟩
      show wpAny _ A (load s.heap.objs.size >>= _) _ _ _
      refine wpAny_bind (wpAny_load hg ?_)
      exact wpAny_pure (hQ h' tk acc (Nat.le_of_lt (Heap.lt_size hg)) hk hi)
    cases fin with
    | done f =>
      obtain ⟨e, z⟩ := h
      cases e
      exact fin' _ z
    | again c' => exact ⟨h.1, codeAny_mono h.2 fun r s'' hr => by obtain ⟨rfl, z⟩ := hr; exact fin' _ z⟩
  · exact absurd h.1 (by simp)
end
def rfW : Value → V
  | .ref t => .ref t
  | _ => .non
theorem eachW_to {H : Hp} : ∀ {us : List Value} {ds : List PyData}, EachIs (fun v d => ∃ t, v = Value.ref t ∧ Dv H (.ref t) d) us ds → Vals (us.map rfW) us ∧ DvA H (us.map rfW) ds
  | _, _, .nil => ⟨.nil, .nil⟩
  | _, _, .cons ⟨a, e, k⟩ z => by
    subst e
    obtain ⟨h1, h2⟩ := eachW_to z
    exact ⟨.cons rfl h1, .cons k h2⟩
theorem data_trans {a b c : PyData} (h : dataLe false id a b = true) (k : dataLe false id b c = true) : dataLe false id a c = true := by
  rw [PySem.W.dataLe_eq] at *
  simp only [cond_false, id, Bool.not_eq_true'] at *
  exact (Srt0.swo_data (α := PyData) id).tr a b c h k
theorem data_total (a b : PyData) : (dataLe false id a b || dataLe false id b a) = true := by
  rw [PySem.W.dataLe_eq]
  simp only [cond_false, id]
  cases e : dataLt b a with
  | false => rfl
  | true =>
    have := (Srt0.swo_data (α := PyData) id).asym b a e
    simp only [id] at this
    rw [this]; rfl
/-- in order -/
abbrev InOrd (l : List PyData) : Prop := l.Pairwise fun x y => dataLt y x = false
def rSortN (P : Program) (w : World) : List V → Hp → VK → Prop := fun vs H Q => ∃ (d : Addr) (o : Obj) (L : List NE), vs = [V.ref d] ∧ H d = some (DN P w d o L) ∧ KsAt H L ∧ L.length ≤ 10000 ∧ AllAlike (L.map fun e => e.1.data) ∧ (∀ e ∈ L, ∃ x r, e.1.data = .tuple (x :: r)) ∧ (∀ e ∈ L, e.1.data.depth ≤ 60) ∧
  ∀ (p : Addr) (ys : List V) (ds : List PyData), H p = none → ds.Perm (L.map fun e => e.1.data) → InOrd ds → DvA H ys ds → Q (.ref p) (upd H p (.lst ys))
section
variable {X : Cx} {P : Program} {w : World}
theorem cr_sortN (hu : X.A.units + 65 < cLine) (hc : X.calm = true) : CallR X (.builtin "sorted") (rSortN X.prog X.w) := by
  intro pins s σ H vs us Q I r h
  obtain ⟨d, o, L, rfl, hd, ks, hl, hal, htu, hde, q⟩ := h
  obtain rfl : us = [.ref d] := Vals.ref1 r
  obtain ⟨hgd, n⟩ := dn_get I hd
  obtain ⟨es, ep, h1, h2⟩ := n.dat
  have hz : es.size = L.length := by rw [← Array.length_toList, h2, List.length_map]
  have sz : (10000 : Nat) ≤ sizeLine := by decide +kernel
  refine Calls.call_function_entry kind_sorted plain_sorted entry_sorted (args_sorted1 _) ?_
  unfold Builtin.«sorted»
  refine wpAny_bind (m := checkCount "sorted" 1 1 _) (wpAny_pure ?_)
  refine wpAny_bind (collect_src (A := X.A.in1) (src_N n.sys n.ex h1) (I.ok.hd hc) hgd (by omega) fun h' tk acc hp hk it => ?_)
  have hacc : acc.toList = L.map fun e => (Value.ref e.2.1) := by
    refine List.ext_getElem? fun i => ?_
    rw [Array.getElem?_toList, List.getElem?_map]
    have en : es[i]? = (L[i]?).map (entryOfKey (nestedKind X.prog X.w)) := by rw [← Array.getElem?_toList, h2, List.getElem?_map]
    cases e : acc[i]? with
    | none =>
      have : L.length ≤ i := by have := Array.getElem?_eq_none_iff.mp e; rw [it.1, hz] at this; exact this
      rw [List.getElem?_eq_none this]; rfl
    | some v =>
      obtain ⟨x, hx, rfl⟩ := it.2 i v e
      rw [en] at hx
      cases e2 : L[i]? with
      | none => rw [e2] at hx; cases hx
      | some y => rw [e2] at hx; cases hx; rfl
  have he : EachIs (fun v dd => ∃ t, v = Value.ref t ∧ Dv H (.ref t) dd) acc.toList (L.map fun e => e.1.data) := by
    rw [hacc]
    clear hd htu hde hal q h2 hz it hacc hl n
    induction L with
    | nil => exact .nil
    | cons e r ih => exact .cons ⟨_, rfl, (ks e (by simp)).1⟩ (ih fun x hx => ks x (by simp [hx]))
  have hread : EachIs (fun v dd => ∃ as, Reads h' v dd as ∧ ¬ h'.objs.size ∈ as) acc.toList (L.map fun e => e.1.data) := by
    rw [hacc]
    clear hd htu hde hal q h2 hz it hacc hl n he
    induction L with
    | nil => exact .nil
    | cons e r ih => exact .cons ⟨[], PyProof.Rows.Reads.keeps hk (nk_reads I e.1 (ks e (by simp)).1 rfl), by simp⟩ (ih fun x hx => ks x (by simp [hx]))
  have hla : acc.toList.length = L.length := by rw [hacc, List.length_map]
  refine wpAny_bind (wpAny_newList ?_ (by omega))
  have hoL : (h'.push (seqObj "list" acc.toList.toArray 0)).get? h'.objs.size = some (seqObj "list" acc.toList.toArray 0) := Heap.get?_push_size _ rfl
  refine wpAny_bind (wpAny_holding (PySem.W.list_sort_data (enc := id) hoL he ?_ ?_ ?_ (by rw [List.length_map]; omega) (fun b hb => ?_) fun out ho eo => ?_))
  · exact hread.mono fun v b ⟨as, r, na⟩ => ⟨as, PyProof.Rows.Reads.keeps (fun _ _ z => Heap.get?_push_of_some _ z) r, na⟩
  · rw [List.map_id]; exact hal
  · refine .inl fun dd hdd => ?_
    rw [List.map_id] at hdd
    obtain ⟨e, he2, rfl⟩ := List.mem_map.mp hdd
    exact htu e he2
  · obtain ⟨e, he2, rfl⟩ := List.mem_map.mp hb
    have := hde e he2
    show X.A.units + 1 + 1 + _ < _
    simp only [id]
    omega
  · obtain ⟨k1, k2⟩ := eachW_to eo
    obtain ⟨c, hc2⟩ := sortedHeap_at (vs := acc.toList) (out := out.toArray) hoL
    have hn : H h'.objs.size = none := I.hok.fresh hp
    refine wpAny_pure ⟨_, rfl, .ref h'.objs.size, upd H h'.objs.size (.lst (out.map rfW)), I.laid (t' := tk) (fun b u z => ?_) hp ⟨by rw [List.length_map, ho, List.length_map]; omega, out, c, k1, hc2⟩, rfl, ?_⟩
    · have q1 := hk b u z
      have hlt := Heap.lt_size q1
      show (sortedHeap (h'.push (seqObj "list" acc.toList.toArray 0)) h'.objs.size acc.toList _).get? b = some u
      rw [sortedHeap_old (Nat.ne_of_lt hlt) (by rw [size_push']; exact Nat.lt_succ_of_lt hlt)]
      exact Heap.get?_push_of_some _ q1
    · refine q _ _ _ hn (List.mergeSort_perm _ _) ?_ k2
      have := List.pairwise_mergeSort (le := dataLe false id) (fun a b c => data_trans) data_total (L.map fun e => e.1.data)
      refine this.imp fun {x y} z => ?_
      rw [PySem.W.dataLe_eq] at z
      simpa using z
end
end K1


set_option Elab.async false
set_option linter.all false
set_option maxRecDepth 100000
set_option maxHeartbeats 2000000
namespace K1
open PySem PySem.Spec PyProof.Rows L2 RZ
open PySem.W (EachIs dataLt alike alikeAll)
def rSortT (K : PySem.W.Frag) : List V → Hp → VK → Prop := fun vs H Q => ∃ (a : Addr) (xs : List V) (ds : List PyData), vs = [V.ref a] ∧ SqL K H a xs ∧ DvA H xs ds ∧ ds.head? = some (.tuple []) ∧ (∀ d ∈ ds, ∃ ys, d = .tuple ys ∧ PyData.depthAll ys ≤ 60 ∧ noDic d = true) ∧
  (∀ xs ys, PyData.tuple xs ∈ ds → PyData.tuple ys ∈ ds → alikeAll xs ys = true) ∧ ds.length ≤ 1000 ∧
  ∀ (p : Addr) (ys : List V) (es : List PyData), H p = none → es.Perm ds → InOrd es → DvA H ys es → Q (.ref p) (upd H p (.lst ys))
theorem dva_at {H : Hp} : ∀ {xs : List V} {us : List Value} {ds : List PyData}, Vals xs us → DvA H xs ds → ∀ v ∈ us, ∃ x d, d ∈ ds ∧ RelV x v ∧ Dv H x d
  | _, _, _, .nil, .nil, v, h => by cases h
  | _, _, _, .cons r t, .cons hd tl, v, h => by
    rcases List.mem_cons.mp h with rfl | h
    · exact ⟨_, _, by simp, r, hd⟩
    · obtain ⟨x, d, m, z⟩ := dva_at t tl v h
      exact ⟨x, d, by simp [m], z⟩
section
variable {X : Cx}
theorem dva_reads {pins : List (Addr × Obj)} {σ : L2.St} {H : Hp} {s : Shared} (I : Inv X pins σ H s) : ∀ {xs : List V} {us : List Value} {ds : List PyData}, Vals xs us → DvA H xs ds → (∀ d ∈ ds, noDic d = true) → EachIs (fun v d => ∃ as, Reads s.heap v d as) us ds
  | _, _, _, .nil, .nil, _ => .nil
  | _, _, _, .cons r t, .cons hd tl, n => .cons (Dp.reads I _ _ _ (hd.dp (n _ (by simp))) r) (dva_reads I t tl fun d hd => n d (by simp [hd]))
theorem cr_sortT (hu : X.A.units + 66 < cLine) : CallR X (.builtin "sorted") (rSortT X.K) := by
  intro pins s σ H vs us Q I r h
  obtain ⟨a, xs, ds, rfl, hs, hA, hf, ht, hal, hl, q⟩ := h
  obtain ⟨its, rv, hl', hz⟩ := I.list hs
  obtain rfl : us = [.ref a] := Vals.ref1 r
  have lx := hA.len
  have li := rv.length
  have sz : (1000 : Nat) ≤ sizeLine := by decide +kernel
  have hread : EachIs (fun v d => ∃ as, Reads s.heap v d as) its ds := dva_reads I rv hA fun d hd => (ht d hd).choose_spec.2.2
  refine Srt0.sorted_tup0 (ds := ds) hl'.isList hread hf (fun d hd => ?_) hal (by omega) (by omega) fun out es po pe hi ho => ?_
  · obtain ⟨ys, e, dp, _⟩ := ht d hd
    exact ⟨ys, e, dp⟩
  · have eo : EachIs (fun v d => ∃ t, v = Value.ref t ∧ Dv H (.ref t) d) out es := by
      have hm : ∀ v ∈ out, v ∈ its := fun v hv => po.mem_iff.mp hv
      clear po pe hi
      induction ho with
      | nil => exact .nil
      | @cons v d vr dr r1 tr ih =>
        refine .cons ?_ (ih fun u hu => hm u (by simp [hu]))
        obtain ⟨x, d', hd', rx, hx⟩ := dva_at rv hA v (hm v (by simp))
        obtain ⟨ys, rfl, _, nd⟩ := ht d' hd'
        obtain ⟨as, r1⟩ := r1
        obtain ⟨bs, r2⟩ := Dp.reads I _ _ _ (hx.dp nd) rx
        have e := (Reads.unique r1 _ _ r2).1
        subst e
        cases hx with
        | tup ha hB => cases rx; exact ⟨_, rfl, .tup ha hB⟩
    obtain ⟨h1, h2⟩ := eachW_to eo
    obtain ⟨ep, he'⟩ := sortedAll_at s.heap its out.toArray
    have lo : out.length = its.length := po.length_eq
    exact ⟨.ref _, upd H (s.heap.objs.size + 1) (.lst (out.map rfW)), I.laid (t' := s.toks) (fun _ _ z => sortedAll_old z) (Nat.le_succ _) ⟨by rw [List.length_map, lo]; omega, out, ep, h1, he'⟩, rfl, q _ _ _ (I.hok.fresh (Nat.le_succ _)) pe hi h2⟩
theorem cr_sortTK {K : PySem.W.Frag} (h : X.K = K) (hu : X.A.units + 66 < cLine) : CallR X (.builtin "sorted") (rSortT K) := by subst h; exact cr_sortT hu
theorem cr_sortNK {P : Program} {w : World} (hp : X.prog = P) (hw : X.w = w) (hu : X.A.units + 65 < cLine) (hc : X.calm = true) : CallR X (.builtin "sorted") (rSortN P w) := by subst hp hw; exact cr_sortN hu hc
end
end K1


set_option Elab.async false
set_option linter.all false
set_option maxRecDepth 100000
set_option maxHeartbeats 400000
/-! a lambda with one parameter handed to a def or a method that calls it -/
namespace LamY
open PySem PySem.Spec PyProof.Rows L2 LamX
/-- one parameter xp, no other name of its own: captured ones and globals -/
structure LamS1 (sc scope : Scope) (xp : Str) : Prop where
  kind : scope.kind = .function
  co : scope.isCoroutine = false
  gen : scope.isGenerator = false
  own : ∀ y ∈ scope.names, y.2 ≠ .cell ∧ (y.2 = .local → y.1 = xp)
  par : scope.names.lookup xp = some .local
  free : ∀ y ∈ scope.names, y.2 = .free → sc.names.lookup y.1 = some .cell ∨ sc.names.lookup y.1 = some .free
def lamSB1 (sc scope : Scope) (xp : Str) : Bool :=
  decide (scope.kind = .function) && !scope.isCoroutine && !scope.isGenerator && decide (scope.names.lookup xp = some .local) && scope.names.all fun y => !decide (y.2 = .cell) && (!decide (y.2 = .local) || decide (y.1 = xp)) && (!decide (y.2 = .free) || decide (sc.names.lookup y.1 = some .cell) || decide (sc.names.lookup y.1 = some .free))
theorem lamS1_by {sc scope : Scope} {xp : Str} (h : lamSB1 sc scope xp = true) : LamS1 sc scope xp := by
  unfold lamSB1 at h
  simp only [Bool.and_eq_true, Bool.or_eq_true, Bool.not_eq_true', decide_eq_true_eq, decide_eq_false_iff_not, List.all_eq_true] at h
  obtain ⟨⟨⟨⟨h1, h2⟩, h3⟩, h5⟩, h4⟩ := h
  refine ⟨h1, h2, h3, fun y hy => ⟨(h4 y hy).1.1, fun e => (h4 y hy).1.2.elim (fun z => absurd e z) id⟩, h5, fun y hy e => ?_⟩
  rcases (h4 y hy).2 with (z | z) | z
  · exact absurd e z
  · exact .inl z
  · exact .inr z
theorem LamS1.has {X : Cx} {scope : Scope} {xp : Str} (L : LamS1 X.env.scope scope xp) (ok : X.Ok) : ∀ y ∈ scope.names, y.2 = .free → ∃ c, X.env.cells.lookup y.1 = some c := fun y hy e => by
  rcases L.free y hy e with k | k
  · exact ok.has _ (.inl k)
  · exact ok.has _ (.inr k)
/-- the context of the lambda's body, entered at s from the frames outer; its parameter is the last slot -/
def lamCx1 (X : Cx) (A : Around) (outer : List Env) (s : Shared) (H : Hp) (E : XK) (scope : Scope) (xp : Str) (f c' : Addr) : Cx := { lamCx X A outer s H E scope f c' with N := X.N ++ [xp] }
section
variable {X : Cx} {pins : List (Addr × Obj)} {σ : L2.St} {H HZ : Hp} {s s1 : Shared}
theorem lam_start1 {A : Around} {outer : List Env} {E : XK} {scope : Scope} {xp : Str} {f c' : Addr} {h₁ : Heap} {tk : Nat} {v : V} {u : Value} (I : Inv X pins σ H s) (L : LamS1 X.env.scope scope xp) (hxn : xp ∉ X.N) (rv : RelV v u) (e0 : Env0 X.prog X.w X.K X.mg X.base A outer s1 HZ) (hd : A.handled = none)
    (un : Un (frs X.stack) [] H HZ s.heap s1.heap) (hns : h₁.Ns s1.heap.objs.size fun y => ([(xp, u)] : List (Str × Value)).reverse.lookup y) (kp : ∀ b o, s1.heap.get? b = some o → h₁.get? b = some o) :
    Inv (lamCx1 X A outer s1 HZ E scope xp f c') [] (σ ++ [some v]) HZ { s1 with heap := h₁, toks := tk } := by
  have hfree := L.has I.ok
  have cm : ∀ {y c}, (cloFrom X.env.cells scope.names []).lookup y = some c → X.env.cells.lookup y = some c := fun {y c} e => by
    rcases cloFrom_mem (PySem.mem_of_lookup e) with hm | ⟨h1, h2⟩
    · cases hm
    · obtain ⟨c1, hc⟩ := hfree _ h1 rfl
      have hc : X.env.cells.lookup y = some c1 := hc
      have e2 : c = c1 := by
        rw [h2, hc] <;> rfl
      rw [e2]
      exact hc
  have look : ∀ {y}, scope.names.lookup y = some .free → ∃ c, (cloFrom X.env.cells scope.names []).lookup y = some c := fun {y} hl => by
    have hy : (y, NameKind.free) ∈ scope.names := PySem.mem_of_lookup hl
    exact mem_lookup (cloFrom_has (cells := X.env.cells) (acc := []) hy)
  have cellK : ∀ {c : Addr} {v : Option Value}, H c = none → s.heap.IsCell c v → h₁.IsCell c v := fun {c v} n ⟨o, ho, hd⟩ => by
    obtain ⟨sl, q⟩ := un.any ho n (by simp)
    exact ⟨_, kp _ _ q, hd⟩
  have noA : ∀ b : Addr, b ∉ (lamCx1 X A outer s1 HZ E scope xp f c').ex := fun b z => absurd (show b ∈ ([] : List Addr) from z) (by simp)
  refine ⟨⟨e0.mod, L.kind, rfl, rfl, Nat.le_refl _, fun y z c e1 e2 => I.ok.inj y z c (cm e1) (cm e2), fun y hy => ?_, fun y c z _ => ?_, fun _ => hd, Around.frames_deeper e0.frames, .inr ⟨rfl, rfl⟩, fun b z => absurd z (noA b), e0.bs, e0.bsz, fun b _ _ => noA b,
      fun b z => absurd z (noA b), e0.funs, e0.frf⟩,
    rfl, e0.bare, Un.kept kp, ⟨_, hns, fun i y v' e1 e2 e3 => ?_⟩, fun y c e => ?_, e0.hok.fresh (Nat.le_refl _), fun y c e => ?_, fun q hq => absurd (show q ∈ ([] : List (Addr × Obj)) ++ [] from hq) (by simp), e0.hok.kept kp, ?_⟩
  · have hy : scope.names.lookup y = some .cell ∨ scope.names.lookup y = some .free := hy
    rcases hy with hy | hy
    · exact absurd rfl (L.own _ (PySem.mem_of_lookup hy)).1
    · exact look hy
  · have z : false = true := z
    cases z
  · have e3 : Vis scope y := e3
    have e1 : (X.N ++ [xp])[i]? = some y := e1
    have hlen := I.len
    by_cases hi : i < X.N.length
    · have e1' : X.N[i]? = some y := by rw [List.getElem?_append_left hi] at e1; exact e1
      have e2' : σ[i]? = some (some v') := by rw [List.getElem?_append_left (by omega)] at e2; exact e2
      have hyN : y ∈ X.N := List.mem_of_getElem? e1'
      rcases e3 with k | k | k
      · exact absurd ((L.own _ (PySem.mem_of_lookup k)).2 rfl ▸ hyN) hxn
      · exact absurd rfl (L.own _ (PySem.mem_of_lookup k)).1
      · obtain ⟨m, hn, hl⟩ := I.loc
        have hvis : Vis X.env.scope y := (L.free _ (PySem.mem_of_lookup k) rfl).elim (fun k => .inr (.inl k)) (fun k => .inr (.inr k))
        obtain ⟨w', r, q⟩ := hl i y v' e1' e2' hvis
        obtain ⟨c2, h2⟩ := look k
        refine ⟨w', r, .inr ⟨.inr k, c2, h2, ?_⟩⟩
        have c1 := cm h2
        rcases q with ⟨k', _⟩ | ⟨_, c3, e', z⟩
        · have k' : X.env.scope.names.lookup y = some .local := k'
          rcases L.free _ (PySem.mem_of_lookup k) rfl with k2 | k2 <;> rw [show X.env.scope.names.lookup y = _ from k2] at k' <;> cases k'
        · rw [c1] at e'
          cases e'
          exact cellK (I.freeC y _ c1) z
    · have ei : i = X.N.length := by
        have := (List.getElem?_eq_some_iff.mp e1).1
        rw [List.length_append] at this
        have h1 : i < X.N.length + 1 := this
        omega
      subst ei
      have ey : xp = y := by
        rw [List.getElem?_append_right (Nat.le_refl _), Nat.sub_self] at e1
        exact Option.some.inj e1
      have ev : v = v' := by
        rw [List.getElem?_append_right (by omega), hlen, Nat.sub_self] at e2
        exact Option.some.inj (Option.some.inj e2)
      subst ey ev
      refine ⟨u, rv, .inl ⟨L.par, ?_⟩⟩
      show ([(xp, u)] : List (Str × Value)).reverse.lookup xp = some u
      simp [List.lookup]
  · obtain ⟨w', z⟩ := I.cell y c (cm e)
    exact ⟨w', cellK (I.freeC y c (cm e)) z⟩
  · obtain ⟨v, o, ho, hd⟩ := I.cell y c (cm e)
    exact un.free c o ho (I.freeC y c (cm e)) (by simp)
  · show (σ ++ [some v]).length = (X.N ++ [xp]).length
    rw [List.length_append, List.length_append, I.len]; rfl
/-- x(e), in the def that got the lambda, entered at s -/
theorem pe_act1 {Ng : List Str} {qg : Str} {sg : Scope} {g f c' : Addr} {cdg pm ctv : Value} {params : Arguments} {body : Expr} {scope : Scope} {xp : Str} {k i : Nat} {a : Str} {tb te : TE} {p1 p2 : Pos} {e : Expr}
    (I : Inv X pins σ H s) (L : LamS1 X.env.scope scope xp) (hxn : xp ∉ X.N) (hf : s.heap.get? f = some (PySem.W.kla_obj "<lambda>" (X.env.qual ++ "<lambda>") params body scope (cloFrom X.env.cells scope.names []) pm c' ctv)) (hfn : H f = none) (hfr : f ∉ frs X.stack)
    (hbind : ∀ u, bindArgs (PySem.W.kla_fn "<lambda>" (X.env.qual ++ "<lambda>") params body scope (cloFrom X.env.cells scope.names []) pm (.ref c') ctv) ⟨[u], []⟩ = pure [(xp, u)])
    (hr : Room (k + 1) (X.A.deeper (envOfC qg sg s.heap.objs.size g cdg)))
    (hbody : ∀ (A : Around) (outer : List Env) (s : Shared) (H : Hp), Room k (A.deeper (lamEnv X scope s.heap.objs.size f c')) → PE (lamCx1 X A outer s H C8.E0 scope xp f c') body tb)
    (hN : Ng[i]? = some a) (hv : Vis sg a) (he : PE (cxOf C8.CX0 X.prog X.w X.K X.mg X.base Ng qg sg g cdg X.A X.stack s H C8.E0).nox e te)
    (hd : (a == ("__debug__" : Str)) = false := by decide) (hcd : (a == ("__classdict__" : Str)) = false := by decide)
    (hst : starEach [e] (envOfC qg sg s.heap.objs.size g cdg) = [(false, eval e (envOfC qg sg s.heap.objs.size g cdg))] := by rfl) :
    PE (cxOf C8.CX0 X.prog X.w X.K X.mg X.base Ng qg sg g cdg X.A X.stack s H C8.E0).nox (.Call (.Name a p1) [e] [] p2)
      (fun σZ HZ Q => σZ[i]? = some (some (.ref f)) ∧ te σZ HZ fun v H2 => H2 c' = some (CodeO c' (X.env.qual ++ "<lambda>")) ∧ tb (σ ++ [some v]) H2 Q) := by
  refine ⟨fun pinsZ sZ σZ HZ Q IZ h => ?_⟩
  obtain ⟨hs, ht⟩ := h
  refine wpAny_Call_Name_kw (thn ((pe_var (pos := p1) (i := i) hN hv hd hcd).run pinsZ sZ σZ HZ (fun v H1 => v = .ref f ∧ H1 = HZ) IZ ⟨.ref f, hs, rfl, rfl⟩) fun u s1 ⟨v, H1, I1, r1, q1⟩ => ?_)
  obtain ⟨ev, eH⟩ := q1
  subst ev
  rw [eH] at I1
  obtain rfl : u = Value.ref f := r1
  have there : ∀ {H2 : Hp} {s2 : Shared}, Inv (cxOf C8.CX0 X.prog X.w X.K X.mg X.base Ng qg sg g cdg X.A X.stack s H C8.E0).nox pinsZ σZ H2 s2 → s2.heap.get? f = some (PySem.W.kla_obj "<lambda>" (X.env.qual ++ "<lambda>") params body scope (cloFrom X.env.cells scope.names []) pm c' ctv) := fun I2 => I2.base.keep f _ hf hfn hfr (fun z => nomatch (show f ∈ ([] : List Addr) from z))
  have ht' : tCons te tNil σZ HZ (fun vs H2 => match vs with | [v] => H2 c' = some (CodeO c' (X.env.qual ++ "<lambda>")) ∧ tb (σ ++ [some v]) H2 Q | _ => False) := ht
  refine PySem.W.callWith_F (e := e) (rest := []) ⟨_, _, _, _, there I1⟩ (thn ((pa_cons he pa_nil (hs := hst)).run p2 pinsZ s1 σZ HZ _ I1 ht') fun us s2 ⟨vs, H2, I2, r2, q2⟩ => ⟨⟨_, _, _, _, there I2⟩, ?_⟩) hst (by rfl)
  cases r2 with
  | nil => exact False.elim q2
  | cons rv rn =>
  cases rn with
  | cons _ _ => exact False.elim q2
  | nil =>
    rename_i v u2 hAP
    obtain ⟨hc, ht2⟩ := q2
    have of1 := there I2
    have un : Un (frs X.stack) [] H H2 s.heap s2.heap := I2.base
    obtain ⟨⟨oc, vs', t, hoc, hdc, hvc⟩, _, _⟩ := I2.hok c' _ hc
    have rc : codeAny (model X.prog X.w) (X.A.deeper (envOfC qg sg s.heap.objs.size g cdg)) (.call (.ref f) ⟨[u2], []⟩) (CR (L2.CX X.prog X.w) (envOfC qg sg s.heap.objs.size g cdg :: X.stack) X.prog X.w H2 s2 Q C8.E0) s2 := by
      refine PySem.W.kla_callFunE hr.depth of1 rfl L.co L.gen rfl ⟨c', oc, vs', t, rfl, hoc, hdc, hvc⟩ ?_
      rw [hbind]
      refine wpAny_pure (wpAny_newFunctionEnv (fun y hy => (L.own y hy).1) (fun y hy => ?_) (fun h₁ hns hsb => ⟨I2.nolimit.fresh _ hsb, ?_⟩) L.kind)
      · rw [List.mem_singleton.mp hy]; exact L.par
      show codeAny _ _ (.expr body (lamEnv X scope s2.heap.objs.size f c')) _ _
      have kp : ∀ b o, s2.heap.get? b = some o → h₁.get? b = some o := fun b o e => hsb.extBut b o (Nat.ne_of_lt (Heap.lt_size e)) (Heap.get?_push_of_some _ e)
      have J : L2.Inv (lamCx1 X (X.A.deeper (envOfC qg sg s.heap.objs.size g cdg)) (envOfC qg sg s.heap.objs.size g cdg :: X.stack) s2 H2 C8.E0 scope xp f c') [] (σ ++ [some v]) H2 { s2 with heap := h₁, toks := s2.toks + ([(xp, u2)] : List (Str × Value)).length } :=
        lam_start1 I L hxn rv I2.env0 hr.hd un hns kp
      refine PySem.W.kla_codeExpr (wpAny_mono ((hbody _ _ s2 H2 (hr.deeper _)).run [] _ _ H2 Q J ht2) (fun v s' hq => ?_) fun e s' hq => hq)
      obtain ⟨w', H', J', rv, q⟩ := hq
      exact ⟨w', H', J'.os, J'.bare, J'.base, J'.hok, rv, q⟩
    refine wpAny_call (codeAny_mono rc fun r s' hq => ?_)
    cases r with
    | error e =>
      obtain ⟨_, _, _, _, _, _, _, _, _, _, _, _, z⟩ := hq
      exact z.elim
    | ok fl =>
      cases fl with
      | ret u => exact I2.after hq
      | next => exact False.elim hq
      | brk => exact False.elim hq
      | cont => exact False.elim hq
end
/-- the method that calls what it got as its last argument: TT, what it makes of the lambda's reading -/
def GivesM (kk : Nat) (X : Cx) (Ng : List Str) (qg : Str) (sg : Scope) (g : Addr) (cdg : Value) (bg : List Stmt) (i : Nat) (a : Str) (q : Str) (TT : V → V → (V → Hp → VK → Prop) → Hp → VK → Prop) : Prop :=
  ∀ (f c' : Addr) (s : Shared) (H : Hp) (Q : VK) (x y : V) (tl : V → Hp → VK → Prop), Room kk (X.A.deeper (envOfC qg sg s.heap.objs.size g cdg)) →
    (∀ (e : Expr) (te : TE) (p1 p2 : Pos), PE (cxOf C8.CX0 X.prog X.w X.K X.mg X.base Ng qg sg g cdg X.A X.stack s H C8.E0).nox e te → starEach [e] (envOfC qg sg s.heap.objs.size g cdg) = [(false, eval e (envOfC qg sg s.heap.objs.size g cdg))] →
      PE (cxOf C8.CX0 X.prog X.w X.K X.mg X.base Ng qg sg g cdg X.A X.stack s H C8.E0).nox (.Call (.Name a p1) [e] [] p2) (fun σZ HZ Q => σZ[i]? = some (some (.ref f)) ∧ te σZ HZ fun v H2 => H2 c' = some (CodeO c' q) ∧ tl v H2 Q)) →
    H c' = some (CodeO c' q) → TT x y tl H Q →
    ∃ t, PSs (cxOf C8.CX0 X.prog X.w X.K X.mg X.base Ng qg sg g cdg X.A X.stack s H C8.E0).nox bg t ∧ t { nx := fun _ H' => Q .non H', rt := Q } (L2.start Ng [x, y, .ref f]) H
def tMethLam (T : List (Addr × Str)) (C : Addr) (m : Str) (TT : V → V → (V → Hp → VK → Prop) → Hp → VK → Prop) (ta te tb : TE) : TE := fun σ H Q => ta σ H fun x H1 => ∃ a dx fs, x = .ref a ∧ H1 a = some (.ins C dx fs) ∧ fs.lookup m = none ∧
  te σ H1 fun y H2 => Tabs T H2 ∧ ∀ H3, ExtN H2 H3 → Tabs T H3 → TT x y (fun v H' Q' => tb (σ ++ [some v]) H' Q') H3 Q
section
variable {X : Cx}
/-- o.m(e, lambda xp: body) -/
theorem pe_methlam {T : List (Addr × Str)} {TT : V → V → (V → Hp → VK → Prop) → Hp → VK → Prop} {C g c P : Addr} {m xp a1 a2 a : Str} {k : Nat} {qg : Str} {pg : Arguments} {bg : List Stmt} {sg : Scope} {dV kV doc pm cdv ct oc : Value} {an od : Option Addr} {osl : Array (Option Value)} {Ng : List Str}
    {o e : Expr} {params : Arguments} {body : Expr} {scope : Scope} {ta te tb : TE} {apos lpos pos : Pos} {pl : Sem Bool} (ho : PE X o ta) (cC : Cls X.K C) (hm : Meth X.K C m g) (he : PE X e te)
    (lk : X.K.lookup g = some ⟨oc, od, .func (PySem.W.fnOf m qg pg bg sg dV kV doc pm an cdv ct), osl⟩) (hcg : PySem.W.codeIn X.K cdv qg = true) (hb : L2.Binds X.K (PySem.W.fnOf m qg pg bg sg dV kV doc pm an cdv ct) [a1, a2, a] []) (Sg : FnScope Ng [a1, a2, a] sg) (hNg : Ng[2]? = some a) (hva : Vis sg a)
    (hG : GivesM (k + 1) X Ng qg sg g cdv bg 2 a (X.env.qual ++ "<lambda>") TT)
    (TB : TabB X.base X.mg c P) (hcode : X.env.code = .ref c) (hmT : (P, X.env.qual ++ "<lambda>") ∈ T) (hu : ∀ p ∈ T, p.1 = P → p.2 = X.env.qual ++ "<lambda>") (hr : Room (k + 2) X.A) (L : LamS1 X.env.scope scope xp) (hxn : xp ∉ X.N) (hdef : defaultsOf params X.env = ([], []))
    (hbind : ∀ (q : Str) (cl : List (Str × Addr)) (pm cv ctv u : Value), bindArgs (PySem.W.kla_fn "<lambda>" q params body scope cl pm cv ctv) ⟨[u], []⟩ = pure [(xp, u)])
    (hbody : ∀ (A : Around) (outer : List Env) (s : Shared) (H : Hp) (f c' : Addr), Room k (A.deeper (lamEnv X scope s.heap.objs.size f c')) → PE (lamCx1 X A outer s H C8.E0 scope xp f c') body tb)
    (hd : (a == ("__debug__" : Str)) = false := by decide) (hcd : (a == ("__classdict__" : Str)) = false := by decide)
    (hst : starEach [e, .Lambda params body scope lpos] X.env = (false, eval e X.env) :: starEach [.Lambda params body scope lpos] X.env := by rfl) (hpl : (backTo pos (starEach [.Lambda params body scope lpos] X.env)).any (·.1) = false := by rfl)
    (ht : eval (.Call (.Attribute o m apos) [e, .Lambda params body scope lpos] [] pos) X.env = (do
      let ov ← eval o X.env
      standAt apos.atName
      let (f, first) ← holding [ov] (getMethod ov m pl)
      callWith pos f first (backTo pos (starEach [e, .Lambda params body scope lpos] X.env)) (backToKw pos (keywordEach [] X.env))) := by rfl) :
    PE X (.Call (.Attribute o m apos) [e, .Lambda params body scope lpos] [] pos) (tMethLam T C m TT ta te tb) := by
  refine ⟨fun pins s σ H Q I h => ?_⟩
  refine PySem.W.methodCall_KW (pl := pl) (thn (ho.run pins s σ H _ I h) fun u s1 ⟨x, H1, I1, rx, a0, dx, fs, ex, ea, l, q⟩ => ?_) ht
  subst ex
  obtain rfl : u = Value.ref a0 := rx
  refine getmeth_ok I1 ea cC hm l ?_
  refine PySem.W.callWith_K (first := [.ref a0]) (h₀ := X.base) I.ok.mod.kin hm.kp ?_ hst hpl
  rw [hst]
  refine Calls.spliced_cons (thn (he.run pins s1 σ H1 _ I1 q) fun u2 s2 ⟨y, H2, I2, ry, hT, q2⟩ => ?_)
  show wpAny _ _ (spliced ((false, eval (.Lambda params body scope lpos) X.env) :: backTo pos (starEach [] X.env))) _ _ s2
  refine Calls.spliced_cons (lam_make2 I2 TB hcode hmT hu hT hdef (L.has I.ok) fun f c' pm' ctv H3 s' I3 eN T1 hf hfn hfr hco => ?_)
  refine Calls.spliced_nil ⟨I3.kIn, ?_⟩
  have rc : codeAny (model X.prog X.w) X.A (.call (.ref g) ⟨[.ref a0, u2, .ref f], []⟩) (CR C8.CX0 X.stack X.prog X.w H3 s' Q C8.E0) s' := by
    refine run_ofS (N := Ng) (ps := [a1, a2, a]) (us := [.ref a0, u2, .ref f]) (vs := [.ref a0, y, .ref f]) lk hcg Sg hr I3.env0 (hb s' [.ref a0, u2, .ref f] I3.kIn rfl) (.cons rfl (.cons ry (.cons rfl .nil))) rfl fun hr' => ?_
    obtain ⟨t', ht', hq'⟩ := hG f c' s' H3 Q (.ref a0) y (fun v H' Q' => tb (σ ++ [some v]) H' Q') hr' (fun e te p1 p2 he' hst' => pe_act1 (i := 2) I3 L hxn hf hfn hfr (fun u => hbind _ _ _ _ _ u) hr' (fun A outer s H hr2 => hbody A outer s H f c' hr2) hNg hva he' hd hcd hst') hco (q2 H3 eN T1)
    exact ⟨t', ht'.nox, hq'⟩
  refine wpAny_call (codeAny_mono rc fun r s2 hq => ?_)
  cases r with
  | error e => exact (show False from hq).elim
  | ok fl =>
    cases fl with
    | ret u => exact I3.after hq
    | next => exact False.elim hq
    | brk => exact False.elim hq
    | cont => exact False.elim hq
end
end LamY


set_option Elab.async false
set_option linter.all false
set_option maxRecDepth 100000
set_option maxHeartbeats 2000000
/-! Letters as a tuple of tuples; a comprehension that picks of what is there. -/
namespace K1
open PySem PySem.Spec PyProof.Rows L2 RZ
inductive A2 {β : Type} (R : V → β → Prop) : List V → List β → Prop where
  | nil : A2 R [] []
  | cons {x : V} {b : β} {xs : List V} {bs : List β} : R x b → A2 R xs bs → A2 R (x :: xs) (b :: bs)
section
variable {β : Type} {R R' : V → β → Prop}
theorem A2.len : ∀ {xs : List V} {bs : List β}, A2 R xs bs → xs.length = bs.length
  | _, _, .nil => rfl
  | _, _, .cons _ r => congrArg (· + 1) r.len
theorem A2.get : ∀ {xs : List V} {bs : List β}, A2 R xs bs → ∀ {i : Nat} {x : V}, xs[i]? = some x → ∃ b, bs[i]? = some b ∧ R x b
  | _, _, .cons h _, 0, _, e => ⟨_, rfl, by rw [← Option.some.inj e]; exact h⟩
  | _, _, .cons _ r, i + 1, _, e => r.get (i := i) e
  | _, _, .nil, i, _, e => by simp at e
theorem A2.imp (h : ∀ x b, R x b → R' x b) : ∀ {xs : List V} {bs : List β}, A2 R xs bs → A2 R' xs bs
  | _, _, .nil => .nil
  | _, _, .cons a r => .cons (h _ _ a) (r.imp h)
theorem A2.app : ∀ {xs : List V} {bs : List β} {ys : List V} {cs : List β}, A2 R xs bs → A2 R ys cs → A2 R (xs ++ ys) (bs ++ cs)
  | _, _, _, _, .nil, k => k
  | _, _, _, _, .cons a r, k => .cons a (r.app k)
theorem A2.vals {β : Type} {f : β → V} : ∀ {xs : List V} {ns : List β}, A2 (fun x n => x = f n) xs ns → xs = ns.map f
  | _, _, .nil => rfl
  | _, _, .cons rfl r => by rw [r.vals]; rfl
end
theorem take_fm {α β : Type} {ls : List α} {i : Nat} {a : α} (φ : α → Option β) (h : ls[i]? = some a) : (ls.take (i + 1)).filterMap φ = (ls.take i).filterMap φ ++ (φ a).toList := by
  rw [List.take_add_one, h, List.filterMap_append]
  cases e : φ a <;> simp [e]
theorem lc_sel {J : It} {xs : List V} {Gd : Hp → Prop} (wk : Walk J xs.length Gd (YAt xs)) {α β : Type} {R : V → α → Prop} {out : V → β → Prop} {ls : List α} (hA : A2 R xs ls) {H1 : Hp} {D : Addr} (hD : H1 D = none) (hG : ∀ G, Same H1 G → Gd G) (hl : xs.length ≤ 1000) (φ : α → Option β)
    {g : TG} {tt : TT} {te : TE} {vs : List Nat} {σ : L2.St} {Qd : Hp → Prop}
    (hs : ∀ x a G (T : V → Hp → Prop) (S : Hp → Prop), R x a → a ∈ ls → Same H1 G → (∀ y b G', Same G G' → φ a = some b → out y b → T y G') → (∀ G', Same G G' → φ a = none → S G') → g x (wipe σ vs) G fun σ2 H2 => wipe σ2 vs = wipe σ vs ∧ tt σ2 H2 fun b H3 => if b = true then te σ2 H3 T else S H3)
    (hd : ∀ G acc, Same H1 G → G D = some (.lst acc) → A2 out acc (ls.filterMap φ) → Qd G) :
    ∃ W : Nat → Nat → Hp → Prop, (∃ m, W 0 m (upd H1 D (.lst []))) ∧ ∀ i m H, W i m H →
      (J.stop i H ∧ Qd H) ∨ (J.go i H ∧ ∃ Nx : Hp → Prop, (∀ H', Nx H' → ∃ m', m' < m ∧ W (i + 1) m' H') ∧ ∀ x H', J.yld i H x H' → g x (wipe σ vs) H' fun σ2 H2 => wipe σ2 vs = wipe σ vs ∧ tt σ2 H2 fun b H3 =>
        if b = true then te σ2 H3 fun y H4 => ∃ acc, H4 D = some (.lst acc) ∧ acc.length < sizeLine ∧ Nx (upd H4 D (.lst (acc ++ [y]))) else Nx H3) := by
  refine lc_it wk (fun i G => Same H1 G ∧ ∃ acc, G D = some (.lst acc) ∧ acc.length ≤ i ∧ A2 out acc ((ls.take i).filterMap φ)) ⟨same_new hD, [], upd_same, Nat.zero_le _, .nil⟩ (fun i G _ h => hG _ h.1) ?_ ?_
  · rintro i x G G' hi ⟨s1, acc, hacc, hla, ha⟩ ⟨rfl, hx⟩
    obtain ⟨a, hai, hR⟩ := hA.get hx
    refine hs x a G' _ _ hR (List.mem_of_getElem? hai) s1 (fun y b G2 s2 e o => ?_) fun G2 s2 e => ?_
    · refine ⟨acc, s2 _ _ hacc, lt1 _ (by omega), (s1.trans s2).mut hD, _, upd_same, by rw [List.length_append]; show acc.length + 1 ≤ _; omega, ?_⟩
      rw [take_fm φ hai, e]
      exact ha.app (.cons o .nil)
    · refine ⟨s1.trans s2, acc, s2 _ _ hacc, by omega, ?_⟩
      rw [take_fm φ hai, e]
      show A2 out acc (_ ++ [])
      rw [List.append_nil]; exact ha
  · rintro G ⟨s1, acc, hacc, _, ha⟩
    refine hd G acc s1 hacc ?_
    rw [hA.len, List.take_length] at ha
    exact ha
end K1


set_option Elab.async false
set_option linter.all false
set_option maxRecDepth 100000
set_option maxHeartbeats 2000000
namespace K1
open PySem PySem.Spec PyProof.Rows L2 RZ
/-! ### methods -/
structure MDef (P : Program) (w : World) (K : PySem.W.Frag) (mg : Str → Option Value) (base : Heap) (CX : CXT) (k : Nat) (C : Addr) (m : Str) (ps : List Str) (sp : Sp) : Prop where
  ex : ∃ (f : Addr) (fd : FuncData), Meth K C m f ∧ Binds K fd ps [] ∧ FnOk P w K mg base CX k f fd ps sp
section
variable {X : Cx} {CX : CXT} {k : Nat} {ps : List Str} {sp : Sp} {E : XK} {m : Str} {pos apos : Pos} {o e : Expr} {es : List Expr} {ta : TE} {t : TA} {C : Addr}
theorem pe_mdef {pl : Sem Bool} (D : MDef X.prog X.w X.K X.mg X.base CX k C m ps sp) (c : Cls X.K C) (hr : Room k X.A) (hx : Passes CX X E) (he : PE X o ta) (ha : PA X (e :: es) t)
    (hst : starEach (e :: es) X.env = (false, eval e X.env) :: starEach es X.env := by rfl) (hpl : (backTo pos (starEach es X.env)).any (·.1) = false := by rfl)
    (ht : eval (.Call (.Attribute o m apos) (e :: es) [] pos) X.env = (do
      let ov ← eval o X.env
      standAt apos.atName
      let (f, first) ← holding [ov] (getMethod ov m pl)
      callWith pos f first (backTo pos (starEach (e :: es) X.env)) (backToKw pos (keywordEach [] X.env))) := by rfl) :
    PE X (.Call (.Attribute o m apos) (e :: es) [] pos) (tMeth C m sp [] E ta t) := by
  obtain ⟨f, fd, hm, hb, F⟩ := D.ex
  exact pe_meth he c hm F hr hb .nil hx ha hst hpl ht
theorem pe_mdef0 {pl : Sem Bool} (D : MDef X.prog X.w X.K X.mg X.base CX k C m ps sp) (c : Cls X.K C) (hr : Room k X.A) (hx : Passes CX X E) (he : PE X o ta)
    (ht : eval (.Call (.Attribute o m apos) [] [] pos) X.env = (do
      let ov ← eval o X.env
      standAt apos.atName
      let (f, first) ← holding [ov] (getMethod ov m pl)
      callWith pos f first (backTo pos (starEach [] X.env)) (backToKw pos (keywordEach [] X.env))) := by rfl) :
    PE X (.Call (.Attribute o m apos) [] [] pos) (tMeth C m sp [] E ta tNil) := by
  obtain ⟨f, fd, hm, hb, F⟩ := D.ex
  exact pe_meth0 he c hm F hr hb .nil hx ht
end

end K1


set_option Elab.async false
set_option linter.all false
set_option maxRecDepth 100000
set_option maxHeartbeats 2000000
/-! k30: the class Listed. -/
namespace K1
open PySem PySem.Spec PyProof.Rows L2 RZ
def ldF (r g : Addr) : List (Str × V) := [("_rows", .ref r), ("_gone", .ref g)]
section
variable {r g : Addr} {y : V}
theorem ld_r : (ldF r g).lookup ("_rows" : Str) = some (.ref r) := by rfl
theorem ld_g : (ldF r g).lookup ("_gone" : Str) = some (.ref g) := by rfl
theorem ld_no {x : Str} (h : (["_rows", "_gone"] : List Str).all (fun z => !(x == z)) = true) : (ldF r g).lookup x = none := by
  simp only [List.all_cons, List.all_nil, Bool.and_eq_true, Bool.not_eq_true'] at h
  obtain ⟨h1, h2, _⟩ := h
  unfold ldF
  simp only [List.lookup, h1, h2]
end
def gkV (gone : List Int) : List (Key × V) := gone.map fun k => (Sum.inl k, V.bl true)
/-- a list as it stands: rows, and what is gone -/
structure LdAt (C : Addr) (H : Hp) (p dx r g : Addr) (rows gone : List Int) : Prop where
  p : H p = some (.ins C dx (ldF r g))
  r : H r = some (.lst (rows.map V.int))
  g : H g = some (.dK (gkV gone))
structure ClL (K : PySem.W.Frag) (mg : Str → Option Value) (C : Addr) : Prop where
  cl : Cls K C
  gC : mg "Listed" = some (.ref C)
  nR : NoAttr K C "_rows"
  nG : NoAttr K C "_gone"
/-- all but g stays -/
def Kp (g : Addr) (H H' : Hp) : Prop := ∀ a o, a ≠ g → H a = some o → H' a = some o
theorem Kp.refl {g : Addr} {H : Hp} : Kp g H H := fun _ _ _ h => h
theorem Kp.trans {g : Addr} {A B C : Hp} (h : Kp g A B) (k : Kp g B C) : Kp g A C := fun a o n z => k a o n (h a o n z)
theorem Kp.upd {g : Addr} {H : Hp} {o : HO} : Kp g H (upd H g o) := fun a o n z => by rw [upd_ne n]; exact z
theorem Kp.of {g : Addr} {H H' : Hp} (s : Same H H') : Kp g H H' := fun a o _ z => s _ _ z
def putG (gone : List Int) (l : Int) : List Int := if l ∈ gone then gone else gone ++ [l]
theorem putK_gk (gone : List Int) (l : Int) : putK (gkV gone) (Sum.inl l) (V.bl true) = gkV (putG gone l) := by
  unfold putK putG
  have e1 : ((gkV gone).any fun kv => decide (kv.1 = Sum.inl l)) = decide (l ∈ gone) := by
    unfold gkV
    rw [List.any_map]
    induction gone with
    | nil => rfl
    | cons a t ih =>
      rw [List.any_cons, ih]
      by_cases e : a = l
      · subst e; simp
      · have : ¬ l = a := fun z => e z.symm
        simp [e, this]
  rw [e1]
  by_cases h : l ∈ gone
  · rw [decide_eq_true h, if_pos rfl, if_pos h]
    unfold gkV
    rw [List.map_map]
    refine List.map_congr_left fun k _ => ?_
    by_cases e : (Sum.inl k : Key) = Sum.inl l
    · simp [e]
    · simp [e]
  · rw [decide_eq_false h, if_neg Bool.false_ne_true, if_neg h]
    unfold gkV
    rw [List.map_append]; rfl
theorem valV_gk (gone : List Int) (l : Int) : (valV (gkV gone) (Sum.inl l)).isSome = decide (l ∈ gone) := by
  unfold valV gkV
  induction gone with
  | nil => rfl
  | cons a t ih =>
    rw [List.map_cons, List.find?_cons]
    by_cases e : a = l
    · subst e; simp
    · have h1 : decide ((Sum.inl a : Key) = Sum.inl l) = false := by simp [e]
      have h2 : ¬ l = a := fun z => e z.symm
      rw [h1]
      simp only [ih, List.mem_cons, h2, false_or]
def goBy (f : List (Int × Int)) (m : Int) (gone : List Int) : List Int := f.foldl (fun g x => if x.2 = m then putG g x.1 else g) gone
theorem putG_len (gone : List Int) (l : Int) : (putG gone l).length ≤ gone.length + 1 := by
  unfold putG
  split
  · omega
  · simp
theorem goBy_len (m : Int) : ∀ (f : List (Int × Int)) (gone : List Int), (goBy f m gone).length ≤ gone.length + f.length
  | [], gone => Nat.le_refl _
  | x :: f, gone => by
    unfold goBy
    rw [List.foldl_cons]
    have h := goBy_len m f (if x.2 = m then putG gone x.1 else gone)
    unfold goBy at h
    refine Nat.le_trans h ?_
    have := putG_len gone x.1
    split <;> simp <;> omega
/-- pairs as tuples -/
def PrA (H : Hp) (xs : List V) (fs : List (Int × Int)) : Prop := A2 (fun x f => ∃ t, x = .ref t ∧ H t = some (.tup [.int f.1, .int f.2])) xs fs
inductive Th
  | no
  | gone (l : Int)
  | here (l : Int)
  deriving DecidableEq
def thV : Th → List V
  | .no => [.str "none"]
  | .gone l => [.str "gone", .int l]
  | .here l => [.str "here", .int l]
def foundA (rows gone : List Int) (k : Int) : Th :=
  if (rows.length : Int) < k then .no else
    let l := rows.getD (k.toNat - 1) 0
    if l ∈ gone then .gone l else .here l
def forgetD (rows gone : List Int) : List Int := rows.filter fun l => !decide (l ∈ gone)
def placeD (rows : List Int) (l : Int) : Option Int := if l ∈ rows then some ((rows.idxOf l : Nat) + 1 : Int) else none
def oV : Option Int → V
  | none => .non
  | some n => .int n
def sS (i : Nat) : Stmt := inClass st_Listed i
abbrev sLi : Stmt := sS 0
abbrev sGo : Stmt := sS 1
abbrev sGb : Stmt := sS 2
abbrev sFg : Stmt := sS 3
abbrev sPl : Stmt := sS 4
abbrev sFa : Stmt := sS 5
abbrev nLi : List Str := ["self", "n"]
theorem scLi : FnScope nLi nLi (defScope sLi) := ⟨rfl, rfl, rfl, by decide +kernel, rfl, by decide +kernel, by decide +kernel⟩
abbrev nGo : List Str := ["self", "letter"]
theorem scGo : FnScope nGo nGo (defScope sGo) := ⟨rfl, rfl, rfl, by decide +kernel, rfl, by decide +kernel, by decide +kernel⟩
abbrev nGb : List Str := ["self", "fate", "moment", "letter", "at"]
abbrev pGb : List Str := ["self", "fate", "moment"]
theorem scGb : FnScope nGb pGb (defScope sGb) := ⟨rfl, rfl, rfl, by decide +kernel, rfl, by decide +kernel, by decide +kernel⟩
abbrev nFg : List Str := ["self", "letter"]
abbrev pFg : List Str := ["self"]
theorem scFg : FnScope nFg pFg (defScope sFg) := ⟨rfl, rfl, rfl, by decide +kernel, rfl, by decide +kernel, by decide +kernel⟩
theorem scPl : FnScope nGo nGo (defScope sPl) := ⟨rfl, rfl, rfl, by decide +kernel, rfl, by decide +kernel, by decide +kernel⟩
abbrev nFa : List Str := ["self", "place", "letter"]
abbrev pFa : List Str := ["self", "place"]
theorem scFa : FnScope nFa pFa (defScope sFa) := ⟨rfl, rfl, rfl, by decide +kernel, rfl, by decide +kernel, by decide +kernel⟩
def rowsN (n : Nat) : List Int := (List.range n).map fun i => ((i : Nat) : Int) + 1
def spLi (C : Addr) : Sp := fun vs H Q _ => ∃ (p dx : Addr) (n : Nat), vs = [.ref p, .int n] ∧ H p = some (.ins C dx []) ∧ n ≤ 10 ∧
  ∀ H' r g, (∀ b o, b ≠ p → H b = some o → H' b = some o) → H r = none → H g = none → r ≠ g → LdAt C H' p dx r g (rowsN n) [] → Q .non H'
def spGo (C : Addr) : Sp := fun vs H Q _ => ∃ (p dx r g : Addr) (rows gone : List Int) (l : Int), vs = [.ref p, .int l] ∧ LdAt C H p dx r g rows gone ∧ gone.length ≤ 1000 ∧
  ∀ H', Kp g H H' → LdAt C H' p dx r g rows (putG gone l) → Q .non H'
def spGb (C : Addr) : Sp := fun vs H Q _ => ∃ (p dx r g f : Addr) (rows gone : List Int) (fs : List V) (fate : List (Int × Int)) (m : Int), vs = [.ref p, .ref f, .int m] ∧ LdAt C H p dx r g rows gone ∧ gone.length ≤ 900 ∧
  H f = some (.tup fs) ∧ PrA H fs fate ∧ fate.length ≤ 2 ∧ ∀ H', Kp g H H' → LdAt C H' p dx r g rows (goBy fate m gone) → Q .non H'
def spFg (C : Addr) : Sp := fun vs H Q _ => ∃ (p dx r g : Addr) (rows gone : List Int), vs = [.ref p] ∧ LdAt C H p dx r g rows gone ∧ rows.length ≤ 1000 ∧
  ∀ H' r', H r' = none → Kp p H H' → LdAt C H' p dx r' g (forgetD rows gone) gone → Q .non H'
def spPl (C : Addr) : Sp := fun vs H Q _ => ∃ (p dx r g : Addr) (rows gone : List Int) (l : Int), vs = [.ref p, .int l] ∧ LdAt C H p dx r g rows gone ∧ Q (oV (placeD rows l)) H
def spFa (C : Addr) : Sp := fun vs H Q _ => ∃ (p dx r g : Addr) (rows gone : List Int) (k : Int), vs = [.ref p, .int k] ∧ LdAt C H p dx r g rows gone ∧ 1 ≤ k ∧
  ∀ H' t, Same H H' → H t = none → H' t = some (.tup (thV (foundA rows gone k))) → Q (.ref t) H'
section
variable {P : Program} {w : World} {K : PySem.W.Frag} {mg : Str → Option Value} {base : Heap} {C : Addr}
theorem pe_fldK {X : Cx} {K : PySem.W.Frag} {e : Expr} {f : Str} {pos : Pos} {ta : TE} (h : X.K = K) (he : PE X e ta) (ht : attributeBase e f X.env (eval e X.env) = eval e X.env := by rfl) : PE X (.Attribute e f pos) (tFld K ta f) := by subst h; exact pe_fld he ht
theorem A2_int : ∀ ns : List Int, A2 (fun x (n : Int) => x = V.int n) (ns.map V.int) ns
  | [] => .nil
  | n :: r => .cons rfl (A2_int r)
theorem LdAt.neq {H : Hp} {p dx r g : Addr} {rows gone : List Int} (h : LdAt C H p dx r g rows gone) : p ≠ g ∧ r ≠ g ∧ r ≠ p := by
  refine ⟨fun z => ?_, fun z => ?_, fun z => ?_⟩
  · have := h.p; rw [z, h.g] at this; cases this
  · have := h.r; rw [z, h.g] at this; cases this
  · have := h.r; rw [z, h.p] at this; cases this
theorem ok_go {f : Addr} {fd : FuncData} (t : ClL K mg C) (F : Fun K "go" "Listed.go" sGo f fd) : FnOk P w K mg base CX0 1 f fd nGo (spGo C) := by
  refine F.ok scGo (fun vs H Q E h => ?_) (fun cdv A outer s H vs Q E hr h => ?_)
  · obtain ⟨p, dx, r, g, rows, gone, l, rfl, _⟩ := h
    rfl
  · obtain ⟨p, dx, r, g, rows, gone, l, rfl, hL, hg, q⟩ := h
    refine ⟨_, pss_one (ps_dput (hu_of hr) (pe_fld (pv 0) rfl) (pv 1) pe_bl (by rfl)), ?_⟩
    obtain ⟨n1, n2, n3⟩ := hL.neq
    refine ⟨_, rfl, p, C, dx, _, _, rfl, hL.p, t.cl, t.nG, ld_g, _, rfl, g, _, rfl, .inl ⟨gkV gone, Sum.inl l, hL.g, rfl, ?_, rfl⟩, ?_⟩
    · unfold gkV; rw [List.length_map]; exact lt2 _ (by omega)
    · rw [putK_gk]
      exact q _ Kp.upd ⟨by rw [upd_ne n1]; exact hL.p, by rw [upd_ne n2]; exact hL.r, upd_same⟩
theorem ok_fg {f : Addr} {fd : FuncData} (t : ClL K mg C) (F : Fun K "forget" "Listed.forget" sFg f fd) : FnOk P w K mg base CX0 1 f fd pFg (spFg C) := by
  have nd := scFg.nd
  refine F.ok scFg (fun vs H Q E h => ?_) (fun cdv A outer s H vs Q E hr h => ?_)
  · obtain ⟨p, dx, r, g, rows, gone, rfl, _⟩ := h
    rfl
  · obtain ⟨p, dx, r, g, rows, gone, rfl, hL, hg, q⟩ := h
    refine ⟨_, pss_one (ps_fld (pv 0) (pe_lc (own := [("letter", 1)]) (g := gName 1) rfl nd (pi_listK (K := K) rfl (pe_fld (pv 0) rfl)) (blkOk_by (own := [("letter", 1)]) (N := nFg) (sc := defScope sFg) (by decide +kernel)) (fun _ _ _ _ _ => pg_name (i := 1) nd rfl (Or.inl rfl)) (fun _ _ _ _ _ => pts_one (pt_cmp (pc_dnotin (hu_of hr) (pv 1) (pe_fldK (K := K) rfl (pv 0))))) (fun _ _ _ _ _ => (pv 1))) rfl), ?_⟩
    refine ⟨_, rfl, p, C, dx, _, _, rfl, hL.p, t.cl, t.nR, ld_r, r, rfl, ⟨_, sq hL.r⟩, fun D nD => lc_sel walk_list (ls := rows) (A2_int rows) nD (fun G s => sq (s _ _ hL.r)) (by rw [List.length_map]; exact hg) (fun l => if l ∈ gone then none else some l) (out := fun y l => y = .int l) ?_ ?_⟩
    · rintro x l G T S rfl _ s1 hT hS
      refine ⟨rfl, _, rfl, _, rfl, p, C, dx, _, _, rfl, s1 _ _ hL.p, t.cl, t.nG, ld_g, g, _, rfl, .inl ⟨gkV gone, Sum.inl l, .inl (s1 _ _ hL.g), rfl, rfl⟩, ?_⟩
      rw [valV_gk]
      by_cases e : l ∈ gone
      · rw [decide_eq_true e]
        exact ⟨_, rfl, itbF rfl (hS G (fun _ _ z => z) (by rw [if_pos e]))⟩
      · rw [decide_eq_false e]
        exact ⟨_, rfl, itbT rfl ⟨_, rfl, hT _ l G (fun _ _ z => z) (by rw [if_neg e]) rfl⟩⟩
    · intro G acc s1 hacc hA
      have e : acc = (forgetD rows gone).map V.int := by
        have h1 := A2.vals hA
        rw [h1]
        congr 1
        unfold forgetD
        clear hA h1 hL hg q
        induction rows with
        | nil => rfl
        | cons a t ih =>
          by_cases h : a ∈ gone
          · rw [List.filterMap_cons_none (by rw [if_pos h]), List.filter_cons_of_neg (by simp [h])]; exact ih
          · rw [List.filterMap_cons_some (by rw [if_neg h]), List.filter_cons_of_pos (by simp [h]), ih]
      subst e
      refine ⟨_, rfl, p, C, dx, _, rfl, s1 _ _ hL.p, t.cl, t.nR, by show 2 < 1000; decide, ?_⟩
      obtain ⟨n1, n2, n3⟩ := hL.neq
      have nDp : D ≠ p := fun z => by rw [z, hL.p] at nD; cases nD
      refine q _ D nD (fun a o na ha => by rw [upd_ne na]; exact s1 _ _ ha) ⟨upd_same, by rw [upd_ne nDp]; exact hacc, by rw [upd_ne n1.symm]; exact s1 _ _ hL.g⟩
theorem ok_pl {f : Addr} {fd : FuncData} (t : ClL K mg C) (F : Fun K "place_of" "Listed.place_of" sPl f fd) : FnOk P w K mg base CX0 1 f fd nGo (spPl C) := by
  refine F.ok scPl (fun vs H Q E h => ?_) (fun cdv A outer s H vs Q E hr h => ?_)
  · obtain ⟨p, dx, r, g, rows, gone, l, rfl, _⟩ := h
    rfl
  · obtain ⟨p, dx, r, g, rows, gone, l, rfl, hL, q⟩ := h
    refine ⟨_, (pss_one (ps_ret (pe_ifExp (pt_cmpR (op_in_seqK (K := K) rfl) (pv 1) (pe_fld (pv 0) rfl) (by rfl)) (pe_op op_add (pe_bm PySem.F.plainAttrs_list PySem.F.slot_list_index PySem.F.type_list_index mt_index (pe_fld (pv 0) rfl) (pa_cons (pv 1) pa_nil)) pe_int) pe_non))), ?_⟩
    refine ⟨_, rfl, _, rfl, p, C, dx, _, _, rfl, hL.p, t.cl, t.nR, ld_r, r, _, rfl, .inl (sq hL.r), rfl, flat_ints rows, ?_⟩
    rw [if_neg (by decide)]
    rw [inV_ints]
    unfold placeD at q
    by_cases h : l ∈ rows
    · rw [if_pos h] at q
      refine ⟨_, rfl, itbT (decide_eq_true h) ?_⟩
      have hi := List.idxOf_lt_length_of_mem h
      refine ⟨_, rfl, p, C, dx, _, _, rfl, hL.p, t.cl, t.nR, ld_r, ?_⟩
      refine ⟨.inl ⟨rfl, _, sq hL.r⟩, _, rfl, r, _, .int l, rows.idxOf l, .int l, rfl, rfl, sq hL.r, rfl, flat_ints rows, ?_, ?_, fun m z hm hz => ?_, _, _, rfl, rfl, q⟩
      · rw [List.getElem?_map, List.getElem?_eq_getElem hi, List.getElem_idxOf hi]; rfl
      · show (l == l) = true
        exact beq_self_eq_true l
      · rw [List.getElem?_map] at hz
        have hm2 : m < rows.length := Nat.lt_trans hm hi
        rw [List.getElem?_eq_getElem hm2] at hz
        cases hz
        show (rows[m] == l) = false
        have := List.not_of_lt_findIdx (p := fun x => x == l) (xs := rows) hm
        simpa using this
    · rw [if_neg h] at q
      exact ⟨_, rfl, itbF (decide_eq_false h) q⟩
theorem ok_fa {f : Addr} {fd : FuncData} (T : Bj mg) (t : ClL K mg C) (F : Fun K "found_at" "Listed.found_at" sFa f fd) : FnOk P w K mg base CX0 1 f fd pFa (spFa C) := by
  have nd := scFa.nd
  refine F.ok scFa (fun vs H Q E h => ?_) (fun cdv A outer s H vs Q E hr h => ?_)
  · obtain ⟨p, dx, r, g, rows, gone, k, rfl, _⟩ := h
    rfl
  · obtain ⟨p, dx, r, g, rows, gone, k, rfl, hL, hk, q⟩ := h
    refine ⟨_, (pss_cons (ps_if (pt_cmpR op_gt (pv 1) (pe_callB (call_lenK (K := K) rfl) (by rfl) T.len PySem.boot_len (pa_cons (pe_fld (pv 0) rfl) pa_nil)) (nomark _))
  (pss_one (ps_ret (pe_tup (pa_cons pe_str pa_nil))))
  pss_nil)
 (pss_cons (ps_set (i := 2) nd rfl (Or.inl rfl) (pe_ix (ix_listK (K := K) rfl) (pe_fld (pv 0) rfl) (pe_op op_sub (pv 1) pe_int) (fun _ _ => rfl)))
 (pss_one (ps_ret (pe_tup (pa_cons (pe_ifExp (pt_cmp (pc_din (hu_of hr) (pv 2) (pe_fld (pv 0) rfl))) pe_str pe_str) (pa_cons (pv 2) pa_nil))))))), ?_⟩
    refine ⟨_, rfl, _, rfl, p, C, dx, _, _, rfl, hL.p, t.cl, t.nR, ld_r, r, _, rfl, .inl (sq hL.r), _, _, rfl, rfl, _, rfl, ?_⟩
    rw [List.length_map]
    unfold foundA at q
    by_cases h : (rows.length : Int) < k
    · rw [if_pos h] at q
      exact itbT (decide_eq_true h) ⟨by show 1 ≤ sizeLine; decide, fun tt nt => q _ tt (same_new nt) nt upd_same⟩
    · rw [if_neg h] at q
      refine itbF (decide_eq_false h) ?_
      have hi : k.toNat - 1 < rows.length := by omega
      have e : rows[k.toNat - 1]? = some (rows.getD (k.toNat - 1) 0) := by rw [List.getD, List.getElem?_eq_getElem hi]; rfl
      refine ⟨_, rfl, p, C, dx, _, _, rfl, hL.p, t.cl, t.nR, ld_r, _, rfl, k, 1, rfl, rfl, r, _, _, _, rfl, rfl, sq hL.r, at_of (j := k.toNat - 1) (by omega) (by rw [List.getElem?_map, e]; rfl), ?_⟩
      refine ⟨_, rfl, _, rfl, p, C, dx, _, _, rfl, hL.p, t.cl, t.nG, ld_g, g, _, rfl, .inl ⟨gkV gone, Sum.inl _, .inl hL.g, rfl, rfl⟩, ?_⟩
      rw [valV_gk]
      by_cases e2 : rows.getD (k.toNat - 1) 0 ∈ gone
      · rw [decide_eq_true e2]
        simp only [if_pos e2] at q
        exact ⟨_, rfl, itbT rfl ⟨_, rfl, by show 2 ≤ sizeLine; decide, fun tt nt => q _ tt (same_new nt) nt upd_same⟩⟩
      · rw [decide_eq_false e2]
        simp only [if_neg e2] at q
        exact ⟨_, rfl, itbF rfl ⟨_, rfl, by show 2 ≤ sizeLine; decide, fun tt nt => q _ tt (same_new nt) nt upd_same⟩⟩
theorem ok_gb {f : Addr} {fd : FuncData} (t : ClL K mg C) (M_go : MDef P w K mg base CX0 1 C "go" nGo (spGo C)) (F : Fun K "go_by" "Listed.go_by" sGb f fd) : FnOk P w K mg base CX0 2 f fd pGb (spGb C) := by
  have nd := scGb.nd
  refine F.ok scGb (fun vs H Q E h => ?_) (fun cdv A outer s H vs Q E hr h => ?_)
  · obtain ⟨p, dx, r, g, f, rows, gone, fs, fate, m, rfl, _⟩ := h
    rfl
  · obtain ⟨p, dx, r, g, fa, rows, gone, fs, fate, m, rfl, hL, hg, hf, hA, l2, q⟩ := h
    refine ⟨_, (pss_one (ps_for PassesOwn.never rfl (pi_tupK (K := K) rfl (pv 1)) (pg_tup rfl (pgs_cons (pg_name (i := 3) nd rfl (Or.inl rfl)) (pgs_cons (pg_name (i := 4) nd rfl (Or.inl rfl)) pgs_nil)))
  (pss_one (ps_if (pt_cmpR op_eq (pv 4) (pv 2) (nomark _))
  (pss_one (ps_expr (pe_mdef M_go t.cl (hr.mono (by decide)) pass0 (pv 0) (pa_cons (pv 3) pa_nil))))
  pss_nil)))), ?_⟩
    obtain ⟨n1, n2, n3⟩ := hL.neq
    have lf : fs.length = fate.length := A2.len hA
    refine ⟨_, rfl, fa, rfl, ⟨_, st hf⟩, for_tup (K := K) (a := fa) (xs := fs) (fun i σ G => ∃ v3 v4, σ = [some (.ref p), some (.ref fa), some (.int m), v3, v4] ∧ Kp g H G ∧ LdAt C G p dx r g rows (goBy (fate.take i) m gone)) ⟨none, none, rfl, Kp.refl, hL⟩ ?_ ?_ ?_⟩
    · rintro i σ G _ ⟨v3, v4, rfl, k1, _⟩
      exact st (k1 _ _ (fun z => by rw [z, hL.g] at hf; cases hf) hf)
    · rintro i x σ G hx ⟨v3, v4, rfl, k1, hL1⟩
      obtain ⟨b, hb, tx, rfl, htx⟩ := A2.get hA hx
      have htx1 := k1 _ _ (fun z => by rw [z, hL.g] at htx; cases htx) htx
      have ht1 : goBy (fate.take (i + 1)) m gone = if b.2 = m then putG (goBy (fate.take i) m gone) b.1 else goBy (fate.take i) m gone := by
        unfold goBy
        rw [take_more hb, List.foldl_append]; rfl
      refine ⟨tx, _, rfl, st htx1, rfl, _, _, rfl, _, _, rfl, rfl, _, rfl, _, rfl, rfl, _, rfl, ?_⟩
      by_cases e : b.2 = m
      · rw [if_pos e] at ht1
        refine itbT (decide_eq_true (by rw [e])) ⟨_, rfl, p, dx, _, rfl, hL1.p, ld_no (by decide +kernel), _, rfl, p, dx, r, g, rows, _, b.1, rfl, hL1, ?_, fun G2 k2 hL2 => ⟨_, _, rfl, k1.trans k2, by rw [ht1]; exact hL2⟩⟩
        have h1 := goBy_len m (fate.take i) gone
        have h2 : (fate.take i).length ≤ fate.length := by rw [List.length_take]; omega
        omega
      · rw [if_neg e] at ht1
        exact itbF (decide_eq_false fun z => e (V.int.inj z)) ⟨_, _, rfl, k1, by rw [ht1]; exact hL1⟩
    · rintro σ G ⟨v3, v4, rfl, k1, hL1⟩
      rw [lf, List.take_length] at hL1
      exact q G k1 hL1
theorem ok_li {f : Addr} {fd : FuncData} (T : Bj mg) (t : ClL K mg C) (F : Fun K "__init__" "Listed.__init__" sLi f fd) : FnOk P w K mg base CX0 1 f fd nLi (spLi C) := by
  refine F.ok scLi (fun vs H Q E h => ?_) (fun cdv A outer s H vs Q E hr h => ?_)
  · obtain ⟨p, dx, n, rfl, _⟩ := h
    rfl
  · obtain ⟨p, dx, n, rfl, hp, hn, q⟩ := h
    refine ⟨_, pss_cons (ps_fld (pv 0) (pe_listRg rfl rfl T.list (prg_2 rfl T.range pe_int (pe_op op_add (pv 1) pe_int))) rfl) (pss_one (ps_fld (pv 0) pe_dnewK rfl)), ?_⟩
    refine ⟨_, rfl, _, _, rfl, rfl, 1, (n : Int) + 1, rfl, rfl, ⟨by decide, by decide, by omega, by omega, by omega⟩, fun r nr => ?_⟩
    have n1 : p ≠ r := ne_of_none hp nr
    refine ⟨_, rfl, p, C, dx, _, rfl, by rw [upd_ne n1]; exact hp, t.cl, t.nR, by show 0 < 1000; decide, fun g ng => ?_⟩
    have n2 : p ≠ g := ne_of_none (by exact upd_same) ng
    have n3 : r ≠ g := ne_of_none (by rw [upd_ne n1.symm]; exact upd_same) ng
    have ngH : H g = none := by rw [upd_ne n2.symm, upd_ne n3.symm] at ng; exact ng
    refine ⟨_, rfl, p, C, dx, _, rfl, by rw [upd_ne n2]; exact upd_same, t.cl, t.nG, by show 1 < 1000; decide, ?_⟩
    refine q _ r g (fun b o nb hb => ?_) nr ngH n3 ⟨upd_same, ?_, ?_⟩
    · rw [upd_ne nb, upd_ne (ne_of_none hb ngH), upd_ne nb, upd_ne (ne_of_none hb nr)]; exact hb
    · rw [upd_ne n1.symm, upd_ne n3, upd_ne n1.symm, upd_same]
      congr 2
      unfold rgV rowsN
      rw [show ((n : Int) + 1 - 1).toNat = n by omega, List.map_map]
      refine List.map_congr_left fun i _ => ?_
      show V.int (1 + (i : Int)) = V.int ((i : Int) + 1)
      rw [Int.add_comm]
    · rw [upd_ne n2.symm, upd_same]; rfl
end
end K1


set_option Elab.async false
set_option linter.all false
set_option maxRecDepth 100000
set_option maxHeartbeats 4000000
/-! k30: _found. -/
namespace K1
open PySem PySem.Spec PyProof.Rows L2 RZ
structure MkL (P : Program) (w : World) (K : PySem.W.Frag) (mg : Str → Option Value) (base : Heap) (C : Addr) : Prop where
  ex : ∃ (f : Addr) (fd : FuncData), Mk K C f ∧ Binds K fd nLi [] ∧ FnOk P w K mg base CX0 1 f fd nLi (spLi C)
theorem pe_newL {X : Cx} {C : Addr} {e : Expr} {t : TA} {p pos : Pos} (D : MkL X.prog X.w X.K X.mg X.base C) (gC : X.mg "Listed" = some (.ref C)) (hr : Room 2 X.A) (hg : Gl X "Listed") (ha : PA X [e] t)
    (he : starEach [e] X.env = (false, eval e X.env) :: starEach [] X.env := by rfl) : PE X (.Call (.Name "Listed" p) [e] [] pos) (tMake C (spLi C) [] E0 t) := by
  obtain ⟨f, fd, hm, hb, F⟩ := D.ex
  exact pe_make hm F hr hg gC hb .nil pass0 ha (he := he)
/-- tuples stay -/
def TU (H G : Hp) : Prop := ∀ b xs, H b = some (.tup xs) → G b = some (.tup xs)
theorem TU.refl {H : Hp} : TU H H := fun _ _ h => h
theorem TU.trans {A B C : Hp} (h : TU A B) (k : TU B C) : TU A C := fun b xs z => k b xs (h b xs z)
theorem TU.of {H G : Hp} (s : Same H G) : TU H G := fun b xs z => s _ _ z
theorem TU.kp {g : Addr} {H G : Hp} {o : HO} (k : Kp g H G) (hg : H g = some o) (ho : ∀ xs, o ≠ .tup xs) : TU H G := fun b xs z => k b _ (fun e => by rw [e, hg] at z; exact ho xs (Option.some.inj z)) z
inductive Cm
  | ask
  | look (n : Int)
  | take (n : Int)
  deriving DecidableEq
def cmV : Cm → List V
  | .ask => [.str "ask"]
  | .look n => [.str "look", .int n]
  | .take n => [.str "take", .int n]
def tupA (H : Hp) (x : V) (vs : List V) : Prop := ∃ t, x = .ref t ∧ H t = some (.tup vs)
theorem tupA.tu {H G : Hp} {x : V} {vs : List V} (h : tupA H x vs) (t : TU H G) : tupA G x vs := let ⟨a, e, k⟩ := h; ⟨a, e, t _ _ k⟩
def CmA (H : Hp) (xs : List V) (cs : List Cm) : Prop := A2 (fun x c => tupA H x (cmV c)) xs cs
def thO (H : Hp) (x : V) : Option Th → Prop
  | none => x = .non
  | some t => tupA H x (thV t)
theorem thO.tu {H G : Hp} {x : V} : ∀ {o : Option Th}, thO H x o → TU H G → thO G x o
  | none, h, _ => h
  | some _, h, t => tupA.tu h t
def ThA (H : Hp) (xs : List V) (ts : List (Option Th)) : Prop := A2 (thO H) xs ts
theorem ThA.tu {H G : Hp} {xs : List V} {ts : List (Option Th)} (h : ThA H xs ts) (t : TU H G) : ThA G xs ts := A2.imp (fun _ _ z => z.tu t) h
theorem CmA.tu {H G : Hp} {xs : List V} {ts : List Cm} (h : CmA H xs ts) (t : TU H G) : CmA G xs ts := A2.imp (fun _ _ z => z.tu t) h
theorem PrA.tu {H G : Hp} {xs : List V} {ts : List (Int × Int)} (h : PrA H xs ts) (t : TU H G) : PrA G xs ts := A2.imp (fun _ _ ⟨a, e, z⟩ => ⟨a, e, t _ _ z⟩) h
def hereG (gone : List Int) : Th → List Int
  | .here l => putG gone l
  | _ => gone
/-- what one command finds -/
def stepF (fate : List (Int × Int)) (m : Int) (rows gone : List Int) : Cm → List Int × List Int × Option Th
  | .ask => (forgetD rows (goBy fate m gone), goBy fate m gone, none)
  | .look k => (rows, goBy fate m gone, some (foundA rows (goBy fate m gone) k))
  | .take k => (rows, hereG (goBy fate m gone) (foundA rows (goBy fate m gone) k), some (foundA rows (goBy fate m gone) k))
def foundD (fate : List (Int × Int)) : List Cm → Nat → List Int → List Int → List (Option Th)
  | [], _, _, _ => []
  | c :: r, m, rows, gone => (stepF fate m rows gone c).2.2 :: foundD fate r (m + 1) (stepF fate m rows gone c).1 (stepF fate m rows gone c).2.1
def cmOk : Cm → Prop
  | .ask => True
  | .look n => 1 ≤ n
  | .take n => 1 ≤ n
abbrev sFo : Stmt := st__found
abbrev nFo : List Str := ["n", "row", "fate", "known", "things", "moment", "command", "thing"]
abbrev pFo : List Str := ["n", "row", "fate"]
theorem scFo : FnScope nFo pFo (defScope sFo) := ⟨rfl, rfl, rfl, by decide +kernel, rfl, by decide +kernel, by decide +kernel⟩
def spFo : Sp := fun vs H Q _ => ∃ (n : Nat) (a f : Addr) (xs fs : List V) (cs : List Cm) (fate : List (Int × Int)), vs = [.int n, .ref a, .ref f] ∧ n ≤ 10 ∧ SeqH H a xs ∧ CmA H xs cs ∧ (∀ c ∈ cs, cmOk c) ∧ cs.length ≤ 8 ∧ H f = some (.tup fs) ∧ PrA H fs fate ∧ fate.length ≤ 2 ∧
  ∀ H' D ys, Same H H' → H D = none → H' D = some (.lst ys) → ThA H' ys (foundD fate cs 0 (rowsN n) []) → Q (.ref D) H'
theorem stepF_len (fate : List (Int × Int)) (hf : fate.length ≤ 2) (m : Int) (rows gone : List Int) (c : Cm) : (stepF fate m rows gone c).1.length ≤ rows.length ∧ (stepF fate m rows gone c).2.1.length ≤ gone.length + 3 := by
  have h := goBy_len m fate gone
  cases c with
  | ask => exact ⟨List.length_filter_le _ _, by show (goBy fate m gone).length ≤ _; omega⟩
  | look k => exact ⟨Nat.le_refl _, by show (goBy fate m gone).length ≤ _; omega⟩
  | take k =>
    refine ⟨Nat.le_refl _, ?_⟩
    show (hereG (goBy fate m gone) (foundA rows (goBy fate m gone) k)).length ≤ _
    have h2 := fun l => putG_len (goBy fate m gone) l
    cases foundA rows (goBy fate m gone) k with
    | here l => have := h2 l; show (putG _ _).length ≤ _; omega
    | _ => show (goBy fate m gone).length ≤ _; omega
/-- what stays in all turns: a list of one's own, and what is found so far -/
structure FoI (C : Addr) (H0 : Hp) (p dx g D : Addr) (G : Hp) (r : Addr) (rows gone : List Int) (acc : List V) (ts : List (Option Th)) : Prop where
  s : Same H0 G
  l : LdAt C G p dx r g rows gone
  d : G D = some (.lst acc)
  nr : r ≠ D
  a : ThA G acc ts
section
variable {C p dx g D r : Addr} {H0 G : Hp} {rows gone : List Int} {acc : List V} {ts : List (Option Th)}
theorem FoI.go (h : FoI C H0 p dx g D G r rows gone acc ts) (n0 : H0 g = none) {G2 : Hp} {gone2 : List Int} (k : Kp g G G2) (l2 : LdAt C G2 p dx r g rows gone2) : FoI C H0 p dx g D G2 r rows gone2 acc ts :=
  ⟨fun b o z => k b o (fun e => by rw [e, n0] at z; cases z) (h.s _ _ z), l2, k D _ (fun e => by have := h.d; rw [e, h.l.g] at this; cases this) h.d, h.nr, h.a.tu (TU.kp k h.l.g fun _ z => by cases z)⟩
theorem FoI.fg (h : FoI C H0 p dx g D G r rows gone acc ts) (n0 : H0 p = none) {G2 : Hp} {r2 : Addr} {rows2 : List Int} (nr2 : G r2 = none) (k : Kp p G G2) (l2 : LdAt C G2 p dx r2 g rows2 gone) : FoI C H0 p dx g D G2 r2 rows2 gone acc ts :=
  ⟨fun b o z => k b o (fun e => by rw [e, n0] at z; cases z) (h.s _ _ z), l2, k D _ (fun e => by have := h.d; rw [e, h.l.p] at this; cases this) h.d, (fun e => by rw [e, h.d] at nr2; cases nr2), h.a.tu (TU.kp k h.l.p fun _ z => by cases z)⟩
theorem FoI.sm (h : FoI C H0 p dx g D G r rows gone acc ts) {G2 : Hp} (k : Same G G2) : FoI C H0 p dx g D G2 r rows gone acc ts :=
  ⟨h.s.trans k, ⟨k _ _ h.l.p, k _ _ h.l.r, k _ _ h.l.g⟩, k _ _ h.d, h.nr, h.a.tu (TU.of k)⟩
theorem FoI.app (h : FoI C H0 p dx g D G r rows gone acc ts) (n0 : H0 D = none) {x : V} {o : Option Th} (hx : thO G x o) : FoI C H0 p dx g D (upd G D (.lst (acc ++ [x]))) r rows gone (acc ++ [x]) (ts ++ [o]) := by
  have t : TU G (upd G D (.lst (acc ++ [x]))) := TU.kp Kp.upd h.d fun _ z => by cases z
  refine ⟨h.s.mut n0, ⟨?_, ?_, ?_⟩, upd_same, h.nr, (h.a.tu t).app (.cons (hx.tu t) .nil)⟩
  · rw [upd_ne fun e => by have := h.d; rw [← e, h.l.p] at this; cases this]; exact h.l.p
  · rw [upd_ne h.nr]; exact h.l.r
  · rw [upd_ne fun e => by have := h.d; rw [← e, h.l.g] at this; cases this]; exact h.l.g
end
section
variable {P : Program} {w : World} {K : PySem.W.Frag} {mg : Str → Option Value} {base : Heap} {C : Addr}
theorem drop_get {α : Type} {l : List α} {i : Nat} {x : α} (h : l[i]? = some x) : l.drop i = x :: l.drop (i + 1) := by
  have hi : i < l.length := lt_of_get h
  rw [List.drop_eq_getElem_cons hi]
  congr 1
  rw [List.getElem?_eq_getElem hi] at h
  exact Option.some.inj h
theorem ok_fo {f : Addr} {fd : FuncData} (T : Bj mg) (t : ClL K mg C) (D_new : MkL P w K mg base C) (M_go : MDef P w K mg base CX0 1 C "go" nGo (spGo C)) (M_go_by : MDef P w K mg base CX0 2 C "go_by" pGb (spGb C)) (M_forget : MDef P w K mg base CX0 1 C "forget" pFg (spFg C))
    (M_found_at : MDef P w K mg base CX0 1 C "found_at" pFa (spFa C)) (F : Fun K "_found" "_found" sFo f fd) : FnOk P w K mg base CX0 3 f fd pFo spFo := by
  have nd := scFo.nd
  refine F.ok scFo (fun vs H Q E h => ?_) (fun cdv A outer s H vs Q E hr h => ?_)
  · obtain ⟨n, a, f, xs, fs, cs, fate, rfl, _⟩ := h
    rfl
  · obtain ⟨n, a, fa, xs, fs, cs, fate, rfl, hn, ha, hA, okc, l8, hf, hF, l2, q⟩ := h
    refine ⟨_, (pss_cons (ps_set (i := 3) nd rfl (Or.inl rfl) (pe_newL D_new t.gC (hr.mono (by decide)) rfl (pa_cons (pv 0) pa_nil)))
 (pss_cons (ps_set (i := 4) nd rfl (Or.inl rfl) (pe_lst pa_nil))
 (pss_cons (ps_for PassesOwn.never rfl (pi_enumSK (K := K) rfl (by rfl) T.enumerate (pa_cons (pv 1) pa_nil)) (pg_tup rfl (pgs_cons (pg_name (i := 5) nd rfl (Or.inl rfl)) (pgs_cons (pg_name (i := 6) nd rfl (Or.inl rfl)) pgs_nil)))
  (pss_cons (ps_expr (pe_mdef M_go_by t.cl (hr.mono (by decide)) pass0 (pv 3) (pa_cons (pv 2) (pa_cons (pv 5) pa_nil))))
 (pss_one (ps_if (pt_cmpR op_eq (pe_ix (ix_tupK (K := K) rfl) (pv 6) pe_int (fun _ _ => rfl)) pe_str (nomark _))
  (pss_cons (ps_expr (pe_mdef0 M_forget t.cl (hr.mono (by decide)) pass0 (pv 3)))
 (pss_one (ps_expr (pe_bm PySem.F.plainAttrs_list PySem.F.slot_list_append PySem.F.type_list_append mt_append (pv 4) (pa_cons pe_non pa_nil)))))
  (pss_cons (ps_set (i := 7) nd rfl (Or.inl rfl) (pe_mdef M_found_at t.cl (hr.mono (by decide)) pass0 (pv 3) (pa_cons (pe_ix (ix_tupK (K := K) rfl) (pv 6) pe_int (fun _ _ => rfl)) pa_nil)))
 (C8.pss_cut (ps_if (PW.pt (pw_and (pt_cmpR op_eq (pe_ix (ix_tupK (K := K) rfl) (pv 6) pe_int (fun _ _ => rfl)) pe_str (nomark _)) (pw_and1 (pt_cmpR op_eq (pe_ix (ix_tupK (K := K) rfl) (pv 7) pe_int (fun _ _ => rfl)) pe_str (nomark _)))))
  (pss_one (ps_expr (pe_mdef M_go t.cl (hr.mono (by decide)) pass0 (pv 3) (pa_cons (pe_ix (ix_tupK (K := K) rfl) (pv 7) pe_int (fun _ _ => rfl)) pa_nil))))
  pss_nil)
 (pss_one (ps_expr (pe_bm PySem.F.plainAttrs_list PySem.F.slot_list_append PySem.F.type_list_append mt_append (pv 4) (pa_cons (pv 7) pa_nil))))))))))
 (pss_one (ps_ret (pv 4)))))), ?_⟩
    refine ⟨_, rfl, fun p dx np ndx hne => ⟨p, dx, n, rfl, upd_same, hn, fun H1 r g k1 nr ng nrg hL => ⟨rfl, ?_⟩⟩⟩
    have s1 : Same H H1 := fun b o hb => k1 b o (ne_of_none hb np) (by rw [upd_ne (ne_of_none hb np), upd_ne (ne_of_none hb ndx)]; exact hb)
    have ngH : H g = none := by
      have e1 : g ≠ p := fun z => by rw [z, upd_same] at ng; cases ng
      have e2 : g ≠ dx := fun z => by rw [z, upd_ne hne, upd_same] at ng; cases ng
      rw [upd_ne e1, upd_ne e2] at ng; exact ng
    refine ⟨Nat.zero_le _, fun D nD => ?_⟩
    have nDH : H D = none := s1.free nD
    have hI0 : FoI C H p dx g D (upd H1 D (.lst [])) r (rowsN n) [] [] [] := by
      refine ⟨s1.new nD, ⟨?_, ?_, ?_⟩, upd_same, (fun z => by rw [← z, hL.r] at nD; cases nD), .nil⟩
      · exact (same_new nD) _ _ hL.p
      · exact (same_new nD) _ _ hL.r
      · exact (same_new nD) _ _ hL.g
    generalize upd H1 D (.lst []) = HI at hI0
    have lx : xs.length = cs.length := A2.len hA
    have hp0 : H p = none := np
    refine ⟨_, rfl, a, xs, rfl, for_enumS (H0 := H) ha.len (fun i σ G => ∃ v5 v6 v7, σ = [some (.int n), some (.ref a), some (.ref fa), some (.ref p), some (.ref D), v5, v6, v7] ∧ ∃ r rows gone acc ts, FoI C H p dx g D G r rows gone acc ts ∧ foundD fate cs 0 (rowsN n) [] = ts ++ foundD fate (cs.drop i) i rows gone ∧ rows.length ≤ 10 ∧ gone.length ≤ 3 * i ∧ acc.length = i) ?_ ?_ ?_ ?_⟩
    · exact ⟨none, none, none, rfl, r, rowsN n, [], [], [], hI0, rfl, by unfold rowsN; rw [List.length_map, List.length_range]; exact hn, Nat.zero_le _, rfl⟩
    · rintro i σ' G ⟨_, _, _, _, _, _, _, _, _, hI, _⟩
      exact hI.s
    · rintro i x σ G Tt hx ⟨v5, v6, v7, rfl, r1, rows, gone, acc, ts, hI, hfd, lr, lg, la⟩ nT
      obtain ⟨c, hc, tx, rfl, htx⟩ := A2.get hA hx
      have hi : i < cs.length := lt_of_get hc
      have hI1 := hI.sm (same_new (o := .tup [.int (i : Nat), .ref tx]) nT)
      have hTt : (upd G Tt (.tup [.int (i : Nat), .ref tx])) Tt = some (.tup [.int (i : Nat), .ref tx]) := upd_same
      generalize upd G Tt (.tup [.int (i : Nat), .ref tx]) = G1 at hI1 hTt
      rw [drop_get hc] at hfd
      have okc1 := okc c (List.mem_of_getElem? hc)
      obtain ⟨ln1, ln2⟩ := stepF_len fate l2 i rows gone c
      refine ⟨Tt, _, rfl, st hTt, rfl, _, _, rfl, _, _, rfl, rfl, _, rfl, p, dx, _, rfl, hI1.l.p, ld_no (by decide +kernel), _, rfl, _, rfl, p, dx, r1, g, fa, rows, gone, fs, fate, i, rfl, hI1.l, by omega, hI1.s _ _ hf, hF.tu (TU.of hI1.s), l2, fun G2 k2 hL2 => ?_⟩
      have hI2 := hI1.go ngH k2 hL2
      have htx2 := hI2.s _ _ htx
      cases c with
      | ask =>
        refine ⟨_, rfl, tx, _, 0, _, rfl, rfl, st htx2, atI_nat (j := 0) rfl, rfl, _, rfl, itbT (by decide +kernel) ?_⟩
        refine ⟨_, rfl, p, dx, _, rfl, hI2.l.p, ld_no (by decide +kernel), p, dx, r1, g, rows, _, rfl, hI2.l, by omega, fun G3 r2 nr2 k3 hL3 => ?_⟩
        have hI3 := hI2.fg hp0 nr2 k3 hL3
        refine ⟨_, rfl, .inl ⟨rfl, _, sq hI3.d⟩, D, acc, _, rfl, rfl, hI3.d, lt2 _ (by omega), ?_⟩
        exact ⟨_, _, _, rfl, r2, _, _, _, _, hI3.app nDH (o := none) rfl, by rw [hfd, List.append_assoc]; rfl, by show (forgetD rows _).length ≤ 10; exact Nat.le_trans ln1 lr, by show (goBy fate i gone).length ≤ _; have : (goBy fate i gone).length ≤ gone.length + 3 := ln2; omega, by rw [List.length_append, la]; rfl⟩
      | look k =>
        refine ⟨_, rfl, tx, _, 0, _, rfl, rfl, st htx2, atI_nat (j := 0) rfl, rfl, _, rfl, itbF (by decide +kernel) ?_⟩
        refine ⟨_, rfl, p, dx, _, rfl, hI2.l.p, ld_no (by decide +kernel), _, rfl, tx, _, 1, .int k, rfl, rfl, st htx2, atI_nat (j := 1) rfl, p, dx, r1, g, rows, _, k, rfl, hI2.l, okc1, fun G3 th s3 nth hth => ?_⟩
        have hI3 := hI2.sm s3
        have htx3 := s3 _ _ htx2
        refine ⟨fun σ G => σ = [some (.int n), some (.ref a), some (.ref fa), some (.ref p), some (.ref D), some (.int (i : Nat)), some (.ref tx), some (.ref th)] ∧ G = G3, ?_, ?_⟩
        · exact ⟨_, rfl, tx, _, 0, _, rfl, rfl, st htx3, atI_nat (j := 0) rfl, rfl, _, rfl, itbF (by decide +kernel) (itbF rfl ⟨rfl, rfl⟩)⟩
        · rintro σ G ⟨rfl, rfl⟩
          refine ⟨_, rfl, .inl ⟨rfl, _, sq hI3.d⟩, _, rfl, D, acc, _, rfl, rfl, hI3.d, lt2 _ (by omega), ?_⟩
          exact ⟨_, _, _, rfl, r1, _, _, _, _, hI3.app nDH (x := .ref th) (o := some (foundA rows (goBy fate i gone) k)) ⟨th, rfl, hth⟩, by rw [hfd, List.append_assoc]; rfl, lr, by show (goBy fate i gone).length ≤ _; have : (goBy fate i gone).length ≤ gone.length + 3 := ln2; omega, by rw [List.length_append, la]; rfl⟩
      | take k =>
        refine ⟨_, rfl, tx, _, 0, _, rfl, rfl, st htx2, atI_nat (j := 0) rfl, rfl, _, rfl, itbF (by decide +kernel) ?_⟩
        refine ⟨_, rfl, p, dx, _, rfl, hI2.l.p, ld_no (by decide +kernel), _, rfl, tx, _, 1, .int k, rfl, rfl, st htx2, atI_nat (j := 1) rfl, p, dx, r1, g, rows, _, k, rfl, hI2.l, okc1, fun G3 th s3 nth hth => ?_⟩
        have hI3 := hI2.sm s3
        have htx3 := s3 _ _ htx2
        have hfd' : foundD fate cs 0 (rowsN n) [] = (ts ++ [some (foundA rows (goBy fate i gone) k)]) ++ foundD fate (cs.drop (i + 1)) (i + 1) rows (hereG (goBy fate i gone) (foundA rows (goBy fate i gone) k)) := by rw [hfd, List.append_assoc]; rfl
        have ln3 : (hereG (goBy fate i gone) (foundA rows (goBy fate i gone) k)).length ≤ gone.length + 3 := ln2
        have ln4 : (goBy fate i gone).length ≤ gone.length + 2 := by have := goBy_len i fate gone; omega
        generalize foundA rows (goBy fate i gone) k = ft at hth hfd' ln3
        refine ⟨fun σ G => σ = [some (.int n), some (.ref a), some (.ref fa), some (.ref p), some (.ref D), some (.int (i : Nat)), some (.ref tx), some (.ref th)] ∧ FoI C H p dx g D G r1 rows (hereG (goBy fate i gone) ft) acc ts ∧ thO G (.ref th) (some ft), ?_, ?_⟩
        · refine ⟨_, rfl, tx, _, 0, _, rfl, rfl, st htx3, atI_nat (j := 0) rfl, rfl, _, rfl, itbT (by decide +kernel) ?_⟩
          cases ft with
          | no => exact ⟨_, rfl, th, _, 0, _, rfl, rfl, st hth, atI_nat (j := 0) rfl, rfl, _, rfl, itbF (by decide +kernel) ⟨rfl, hI3, th, rfl, hth⟩⟩
          | gone l => exact ⟨_, rfl, th, _, 0, _, rfl, rfl, st hth, atI_nat (j := 0) rfl, rfl, _, rfl, itbF (by decide +kernel) ⟨rfl, hI3, th, rfl, hth⟩⟩
          | here l =>
            refine ⟨_, rfl, th, _, 0, _, rfl, rfl, st hth, atI_nat (j := 0) rfl, rfl, _, rfl, itbT (by decide +kernel) ?_⟩
            refine ⟨_, rfl, p, dx, _, rfl, hI3.l.p, ld_no (by decide +kernel), _, rfl, th, _, 1, .int l, rfl, rfl, st hth, atI_nat (j := 1) rfl, p, dx, r1, g, rows, _, l, rfl, hI3.l, by omega, fun G4 k4 hL4 => ?_⟩
            exact ⟨rfl, hI3.go ngH k4 hL4, thO.tu (o := some (.here l)) ⟨th, rfl, hth⟩ (TU.kp k4 hI3.l.g fun _ z => by cases z)⟩
        · rintro σ G ⟨rfl, hI4, hth4⟩
          refine ⟨_, rfl, .inl ⟨rfl, _, sq hI4.d⟩, _, rfl, D, acc, _, rfl, rfl, hI4.d, lt2 _ (by omega), ?_⟩
          exact ⟨_, _, _, rfl, r1, _, _, _, _, hI4.app nDH hth4, hfd', lr, by omega, by rw [List.length_append, la]; rfl⟩
    · rintro σ G ⟨v5, v6, v7, rfl, r1, rows, gone, acc, ts, hI, hfd, lr, lg, la⟩
      rw [lx, List.drop_length] at hfd
      have e : foundD fate cs 0 (rowsN n) [] = ts := by rw [hfd]; exact List.append_nil _
      exact ⟨_, rfl, q G D acc hI.s nDH hI.d (by rw [e]; exact hI.a)⟩
end
end K1


set_option Elab.async false
set_option linter.all false
set_option maxRecDepth 100000
set_option maxHeartbeats 4000000
/-! k30: _turned and _found_by_letters. -/
namespace K1
open PySem PySem.Spec PyProof.Rows L2 RZ
def ocO (H : Hp) (x : V) : Option Cm → Prop
  | none => x = .non
  | some t => tupA H x (cmV t)
theorem ocO.tu {H G : Hp} {x : V} : ∀ {o : Option Cm}, ocO H x o → TU H G → ocO G x o
  | none, h, _ => h
  | some _, h, t => tupA.tu h t
def OcA (H : Hp) (xs : List V) (ts : List (Option Cm)) : Prop := A2 (ocO H) xs ts
theorem OcA.tu {H G : Hp} {xs : List V} {ts : List (Option Cm)} (h : OcA H xs ts) (t : TU H G) : OcA G xs ts := A2.imp (fun _ _ z => z.tu t) h
/-- what stays in all turns: a list of one's own, and what is found so far -/
structure FoJ (C : Addr) (H0 : Hp) (p dx g D : Addr) (G : Hp) (r : Addr) (rows gone : List Int) (acc : List V) (ts : List (Option Cm)) : Prop where
  s : Same H0 G
  l : LdAt C G p dx r g rows gone
  d : G D = some (.lst acc)
  nr : r ≠ D
  a : OcA G acc ts
section
variable {C p dx g D r : Addr} {H0 G : Hp} {rows gone : List Int} {acc : List V} {ts : List (Option Cm)}
theorem FoJ.go (h : FoJ C H0 p dx g D G r rows gone acc ts) (n0 : H0 g = none) {G2 : Hp} {gone2 : List Int} (k : Kp g G G2) (l2 : LdAt C G2 p dx r g rows gone2) : FoJ C H0 p dx g D G2 r rows gone2 acc ts :=
  ⟨fun b o z => k b o (fun e => by rw [e, n0] at z; cases z) (h.s _ _ z), l2, k D _ (fun e => by have := h.d; rw [e, h.l.g] at this; cases this) h.d, h.nr, h.a.tu (TU.kp k h.l.g fun _ z => by cases z)⟩
theorem FoJ.fg (h : FoJ C H0 p dx g D G r rows gone acc ts) (n0 : H0 p = none) {G2 : Hp} {r2 : Addr} {rows2 : List Int} (nr2 : G r2 = none) (k : Kp p G G2) (l2 : LdAt C G2 p dx r2 g rows2 gone) : FoJ C H0 p dx g D G2 r2 rows2 gone acc ts :=
  ⟨fun b o z => k b o (fun e => by rw [e, n0] at z; cases z) (h.s _ _ z), l2, k D _ (fun e => by have := h.d; rw [e, h.l.p] at this; cases this) h.d, (fun e => by rw [e, h.d] at nr2; cases nr2), h.a.tu (TU.kp k h.l.p fun _ z => by cases z)⟩
theorem FoJ.sm (h : FoJ C H0 p dx g D G r rows gone acc ts) {G2 : Hp} (k : Same G G2) : FoJ C H0 p dx g D G2 r rows gone acc ts :=
  ⟨h.s.trans k, ⟨k _ _ h.l.p, k _ _ h.l.r, k _ _ h.l.g⟩, k _ _ h.d, h.nr, h.a.tu (TU.of k)⟩
theorem FoJ.app (h : FoJ C H0 p dx g D G r rows gone acc ts) (n0 : H0 D = none) {x : V} {o : Option Cm} (hx : ocO G x o) : FoJ C H0 p dx g D (upd G D (.lst (acc ++ [x]))) r rows gone (acc ++ [x]) (ts ++ [o]) := by
  have t : TU G (upd G D (.lst (acc ++ [x]))) := TU.kp Kp.upd h.d fun _ z => by cases z
  refine ⟨h.s.mut n0, ⟨?_, ?_, ?_⟩, upd_same, h.nr, (h.a.tu t).app (.cons (hx.tu t) .nil)⟩
  · rw [upd_ne fun e => by have := h.d; rw [← e, h.l.p] at this; cases this]; exact h.l.p
  · rw [upd_ne h.nr]; exact h.l.r
  · rw [upd_ne fun e => by have := h.d; rw [← e, h.l.g] at this; cases this]; exact h.l.g
end

def tnO (f : Int → Cm) : Option Int → Option Cm
  | none => none
  | some k => some (f k)
def turnD : List Cm → List Int → List Int → List (Option Cm)
  | [], _, _ => []
  | .ask :: r, rows, gone => some .ask :: turnD r (forgetD rows gone) gone
  | .look k :: r, rows, gone => tnO .look (placeD rows k) :: turnD r rows gone
  | .take k :: r, rows, gone => tnO .take (placeD rows k) :: turnD r rows (putG gone k)
theorem seq_walk2 {K : PySem.W.Frag} {H0 H : Hp} {a : Addr} {xs : List V} {R : It → Hp → Prop} (h : SeqH H0 a xs) (s : Same H0 H)
    (k : ∀ (J : It) (Gd : Hp → Prop), Walk J xs.length Gd (YAt xs) → (∀ H', Same H0 H' → Gd H') → R J H) : SeqR K a H R := by
  rcases h with h | h
  · exact .inl ⟨⟨xs, sq (s _ _ h)⟩, k _ _ walk_list fun H' s => sq (s _ _ h)⟩
  · exact .inr ⟨⟨xs, st (s _ _ h)⟩, k _ _ walk_tup fun H' s => st (s _ _ h)⟩
theorem rIx_go {K : PySem.W.Frag} {H : Hp} {a : Addr} {xs : List V} {j : Nat} {v : V} {Q : VK} (h : SeqH H a xs) (hx : xs[j]? = some v) (q : Q v H) : rIx K (.ref a) (.int (j : Int)) H Q := by
  rcases h with h | h
  · exact .inl ⟨a, xs, j, v, rfl, rfl, sq h, atI_nat hx, q⟩
  · exact .inr (.inl ⟨a, xs, j, v, rfl, rfl, st h, atI_nat hx, q⟩)
abbrev sTu : Stmt := st__turned
abbrev nTu : List Str := ["n", "wishes", "known", "row", "wish", "place"]
abbrev pTu : List Str := ["n", "wishes"]
theorem scTu : FnScope nTu pTu (defScope sTu) := ⟨rfl, rfl, rfl, by decide +kernel, rfl, by decide +kernel, by decide +kernel⟩
def spTu : Sp := fun vs H Q _ => ∃ (n : Nat) (a : Addr) (xs : List V) (cs : List Cm), vs = [.int n, .ref a] ∧ n ≤ 10 ∧ SeqH H a xs ∧ CmA H xs cs ∧ cs.length ≤ 8 ∧
  ∀ H' D ys, Same H H' → H D = none → H' D = some (.lst ys) → OcA H' ys (turnD cs (rowsN n) []) → Q (.ref D) H'
section
variable {P : Program} {w : World} {K : PySem.W.Frag} {mg : Str → Option Value} {base : Heap} {C : Addr}
theorem ok_tu {f : Addr} {fd : FuncData} (T : Bj mg) (t : ClL K mg C) (D_new : MkL P w K mg base C) (M_go : MDef P w K mg base CX0 1 C "go" nGo (spGo C)) (M_forget : MDef P w K mg base CX0 1 C "forget" pFg (spFg C))
    (M_place_of : MDef P w K mg base CX0 1 C "place_of" nGo (spPl C)) (F : Fun K "_turned" "_turned" sTu f fd) : FnOk P w K mg base CX0 3 f fd pTu spTu := by
  have nd := scTu.nd
  refine F.ok scTu (fun vs H Q E h => ?_) (fun cdv A outer s H vs Q E hr h => ?_)
  · obtain ⟨n, a, xs, cs, rfl, _⟩ := h
    rfl
  · obtain ⟨n, a, xs, cs, rfl, hn, ha, hA, l8, q⟩ := h
    refine ⟨_, (pss_cons (ps_set (i := 2) nd rfl (Or.inl rfl) (pe_newL D_new t.gC (hr.mono (by decide)) rfl (pa_cons (pv 0) pa_nil)))
 (pss_cons (ps_set (i := 3) nd rfl (Or.inl rfl) (pe_lst pa_nil))
 (pss_cons (ps_for PassesOwn.never rfl (pi_seqK (K := K) rfl (pv 1)) (pg_name (i := 4) nd rfl (Or.inl rfl))
  (pss_one (ps_if (pt_cmpR op_eq (pe_ix (ix_tupK (K := K) rfl) (pv 4) pe_int (fun _ _ => rfl)) pe_str (nomark _))
  (pss_cons (ps_expr (pe_mdef0 M_forget t.cl (hr.mono (by decide)) pass0 (pv 2)))
 (pss_one (ps_expr (pe_bm PySem.F.plainAttrs_list PySem.F.slot_list_append PySem.F.type_list_append mt_append (pv 3) (pa_cons (pv 4) pa_nil)))))
  (pss_cons (ps_set (i := 5) nd rfl (Or.inl rfl) (pe_mdef M_place_of t.cl (hr.mono (by decide)) pass0 (pv 2) (pa_cons (pe_ix (ix_tupK (K := K) rfl) (pv 4) pe_int (fun _ _ => rfl)) pa_nil)))
 (C8.pss_cut (ps_expr (pe_bm PySem.F.plainAttrs_list PySem.F.slot_list_append PySem.F.type_list_append mt_append (pv 3) (pa_cons (pe_ifExp (pt_cmpR op_isN (pv 5) pe_non (nomark _)) pe_non (pe_tup (pa_cons (pe_ix (ix_tupK (K := K) rfl) (pv 4) pe_int (fun _ _ => rfl)) (pa_cons (pv 5) pa_nil)))) pa_nil)))
 (pss_one (ps_if (pt_cmpR op_eq (pe_ix (ix_tupK (K := K) rfl) (pv 4) pe_int (fun _ _ => rfl)) pe_str (nomark _))
  (pss_one (ps_expr (pe_mdef M_go t.cl (hr.mono (by decide)) pass0 (pv 2) (pa_cons (pe_ix (ix_tupK (K := K) rfl) (pv 4) pe_int (fun _ _ => rfl)) pa_nil))))
  pss_nil)))))))
 (pss_one (ps_ret (pv 3)))))), ?_⟩
    refine ⟨_, rfl, fun p dx np ndx hne => ⟨p, dx, n, rfl, upd_same, hn, fun H1 r g k1 nr ng nrg hL => ⟨rfl, ?_⟩⟩⟩
    have s1 : Same H H1 := fun b o hb => k1 b o (ne_of_none hb np) (by rw [upd_ne (ne_of_none hb np), upd_ne (ne_of_none hb ndx)]; exact hb)
    have ngH : H g = none := by
      have e1 : g ≠ p := fun z => by rw [z, upd_same] at ng; cases ng
      have e2 : g ≠ dx := fun z => by rw [z, upd_ne hne, upd_same] at ng; cases ng
      rw [upd_ne e1, upd_ne e2] at ng; exact ng
    refine ⟨Nat.zero_le _, fun D nD => ?_⟩
    have nDH : H D = none := s1.free nD
    have hI0 : FoJ C H p dx g D (upd H1 D (.lst [])) r (rowsN n) [] [] [] := by
      refine ⟨s1.new nD, ⟨?_, ?_, ?_⟩, upd_same, (fun z => by rw [← z, hL.r] at nD; cases nD), .nil⟩
      · exact (same_new nD) _ _ hL.p
      · exact (same_new nD) _ _ hL.r
      · exact (same_new nD) _ _ hL.g
    generalize upd H1 D (.lst []) = HI at hI0
    have lx : xs.length = cs.length := A2.len hA
    have hp0 : H p = none := np
    refine ⟨_, rfl, a, rfl, seq_walk2 ha hI0.s fun J Gd wk kp => for_it wk (fun i σ G => ∃ v4 v5, σ = [some (.int n), some (.ref a), some (.ref p), some (.ref D), v4, v5] ∧ ∃ r rows gone acc ts, FoJ C H p dx g D G r rows gone acc ts ∧ turnD cs (rowsN n) [] = ts ++ turnD (cs.drop i) rows gone ∧ rows.length ≤ 10 ∧ gone.length ≤ i ∧ acc.length = i) ?_ ?_ ?_ ?_⟩
    · exact ⟨none, none, rfl, r, rowsN n, [], [], [], hI0, rfl, by unfold rowsN; rw [List.length_map, List.length_range]; exact hn, Nat.zero_le _, rfl⟩
    · rintro i σ' G _ ⟨_, _, _, _, _, _, _, _, hI, _, _, _, _⟩
      exact kp _ hI.s
    · rintro i x σ G G' _ ⟨v4, v5, rfl, r1, rows, gone, acc, ts, hI, hfd, lr, lg, la⟩ ⟨rfl, hx⟩
      obtain ⟨c, hc, tx, rfl, htx⟩ := A2.get hA hx
      have hi : i < cs.length := lt_of_get hc
      have htx1 := hI.s _ _ htx
      rw [drop_get hc] at hfd
      cases c with
      | ask =>
        refine ⟨_, rfl, tx, _, 0, _, rfl, rfl, st htx1, atI_nat (j := 0) rfl, rfl, _, rfl, itbT (by decide +kernel) ?_⟩
        refine ⟨_, rfl, p, dx, _, rfl, hI.l.p, ld_no (by decide +kernel), p, dx, r1, g, rows, _, rfl, hI.l, by omega, fun G3 r2 nr2 k3 hL3 => ?_⟩
        have hI3 := hI.fg hp0 nr2 k3 hL3
        refine ⟨_, rfl, .inl ⟨rfl, _, sq hI3.d⟩, _, rfl, D, acc, _, rfl, rfl, hI3.d, lt2 _ (by omega), ?_⟩
        exact ⟨_, _, rfl, r2, _, _, _, _, hI3.app nDH (o := some .ask) ⟨tx, rfl, hI3.s _ _ htx⟩, by rw [hfd, List.append_assoc]; rfl, Nat.le_trans (List.length_filter_le _ _) lr, by omega, by rw [List.length_append, la]; rfl⟩
      | look k =>
        refine ⟨_, rfl, tx, _, 0, _, rfl, rfl, st htx1, atI_nat (j := 0) rfl, rfl, _, rfl, itbF (by decide +kernel) ?_⟩
        refine ⟨_, rfl, p, dx, _, rfl, hI.l.p, ld_no (by decide +kernel), _, rfl, tx, _, 1, .int k, rfl, rfl, st htx1, atI_nat (j := 1) rfl, p, dx, r1, g, rows, gone, k, rfl, hI.l, ?_⟩
        refine ⟨fun σ G => σ = [some (.int n), some (.ref a), some (.ref p), some (.ref D), some (.ref tx), some (oV (placeD rows k))] ∧ ∃ acc2, FoJ C H p dx g D G r1 rows gone acc2 (ts ++ [tnO .look (placeD rows k)]) ∧ acc2.length = i + 1, ?_, ?_⟩
        · cases placeD rows k with
          | none => exact ⟨_, rfl, .inl ⟨rfl, _, sq hI.d⟩, _, rfl, rfl, _, rfl, itbT rfl ⟨D, acc, _, rfl, rfl, hI.d, lt2 _ (by omega), rfl, _, hI.app nDH (o := none) rfl, by rw [List.length_append, la]; rfl⟩⟩
          | some z =>
            refine ⟨_, rfl, .inl ⟨rfl, _, sq hI.d⟩, _, rfl, rfl, _, rfl, itbF rfl ⟨_, rfl, tx, _, 0, _, rfl, rfl, st htx1, atI_nat (j := 0) rfl, _, rfl, by show 2 ≤ sizeLine; decide, fun tt nt => ?_⟩⟩
            have hJ := hI.sm (same_new (o := .tup (cmV (.look z))) nt)
            exact ⟨D, acc, _, rfl, rfl, hJ.d, lt2 _ (by omega), rfl, _, hJ.app nDH (o := some (.look z)) ⟨tt, rfl, upd_same⟩, by rw [List.length_append, la]; rfl⟩
        · rintro σ G ⟨rfl, acc2, hJ, la2⟩
          have htx2 := hJ.s _ _ htx
          refine ⟨_, rfl, tx, _, 0, _, rfl, rfl, st htx2, atI_nat (j := 0) rfl, rfl, _, rfl, itbF (by decide +kernel) ?_⟩
          exact ⟨_, _, rfl, r1, _, _, _, _, hJ, by rw [hfd, List.append_assoc]; rfl, lr, by omega, la2⟩
      | take k =>
        refine ⟨_, rfl, tx, _, 0, _, rfl, rfl, st htx1, atI_nat (j := 0) rfl, rfl, _, rfl, itbF (by decide +kernel) ?_⟩
        refine ⟨_, rfl, p, dx, _, rfl, hI.l.p, ld_no (by decide +kernel), _, rfl, tx, _, 1, .int k, rfl, rfl, st htx1, atI_nat (j := 1) rfl, p, dx, r1, g, rows, gone, k, rfl, hI.l, ?_⟩
        refine ⟨fun σ G => σ = [some (.int n), some (.ref a), some (.ref p), some (.ref D), some (.ref tx), some (oV (placeD rows k))] ∧ ∃ acc2, FoJ C H p dx g D G r1 rows gone acc2 (ts ++ [tnO .take (placeD rows k)]) ∧ acc2.length = i + 1, ?_, ?_⟩
        · cases placeD rows k with
          | none => exact ⟨_, rfl, .inl ⟨rfl, _, sq hI.d⟩, _, rfl, rfl, _, rfl, itbT rfl ⟨D, acc, _, rfl, rfl, hI.d, lt2 _ (by omega), rfl, _, hI.app nDH (o := none) rfl, by rw [List.length_append, la]; rfl⟩⟩
          | some z =>
            refine ⟨_, rfl, .inl ⟨rfl, _, sq hI.d⟩, _, rfl, rfl, _, rfl, itbF rfl ⟨_, rfl, tx, _, 0, _, rfl, rfl, st htx1, atI_nat (j := 0) rfl, _, rfl, by show 2 ≤ sizeLine; decide, fun tt nt => ?_⟩⟩
            have hJ := hI.sm (same_new (o := .tup (cmV (.take z))) nt)
            exact ⟨D, acc, _, rfl, rfl, hJ.d, lt2 _ (by omega), rfl, _, hJ.app nDH (o := some (.take z)) ⟨tt, rfl, upd_same⟩, by rw [List.length_append, la]; rfl⟩
        · rintro σ G ⟨rfl, acc2, hJ, la2⟩
          have htx2 := hJ.s _ _ htx
          refine ⟨_, rfl, tx, _, 0, _, rfl, rfl, st htx2, atI_nat (j := 0) rfl, rfl, _, rfl, itbT (by decide +kernel) ?_⟩
          refine ⟨_, rfl, p, dx, _, rfl, hJ.l.p, ld_no (by decide +kernel), _, rfl, tx, _, 1, .int k, rfl, rfl, st htx2, atI_nat (j := 1) rfl, p, dx, r1, g, rows, gone, k, rfl, hJ.l, by omega, fun G4 k4 hL4 => ?_⟩
          have := putG_len gone k
          exact ⟨_, _, rfl, r1, _, _, _, _, hJ.go ngH k4 hL4, by rw [hfd, List.append_assoc]; rfl, lr, by omega, la2⟩
    · rintro σ G ⟨v4, v5, rfl, r1, rows, gone, acc, ts, hI, hfd, lr, lg, la⟩
      rw [lx, List.drop_length] at hfd
      have e : turnD cs (rowsN n) [] = ts := by rw [hfd]; exact List.append_nil _
      exact ⟨_, rfl, q G D acc hI.s nDH hI.d (by rw [e]; exact hI.a)⟩
end
end K1


set_option Elab.async false
set_option linter.all false
set_option maxRecDepth 100000
set_option maxHeartbeats 4000000
/-! k30: _found_by_letters. -/
namespace K1
open PySem PySem.Spec PyProof.Rows L2 RZ
def thC (rows gone : List Int) : Option Cm → Option Th
  | none => none
  | some .ask => none
  | some (.look k) => some (foundA rows gone k)
  | some (.take k) => some (foundA rows gone k)
def wiR (rows gone : List Int) : Cm → List Int
  | .ask => forgetD rows gone
  | _ => rows
def wiG (gone : List Int) : Cm → List Int
  | .take k => putG gone k
  | _ => gone
def fblD (fate : List (Int × Int)) : List Cm → List (Option Cm) → Nat → List Int → List Int → List (Option Th)
  | w :: ws, c :: cs, m, rows, gone => thC rows (goBy fate m gone) c :: fblD fate ws cs (m + 1) (wiR rows (goBy fate m gone) w) (wiG (goBy fate m gone) w)
  | _, _, _, _, _ => []
def ocOk : Option Cm → Prop
  | some (.look n) => 1 ≤ n
  | some (.take n) => 1 ≤ n
  | _ => True
abbrev sFb : Stmt := st__found_by_letters
abbrev nFb : List Str := ["n", "wishes", "row", "fate", "known", "things", "moment", "wish", "command"]
abbrev pFb : List Str := ["n", "wishes", "row", "fate"]
theorem scFb : FnScope nFb pFb (defScope sFb) := ⟨rfl, rfl, rfl, by decide +kernel, rfl, by decide +kernel, by decide +kernel⟩
def spFb : Sp := fun vs H Q _ => ∃ (n : Nat) (a b f : Addr) (xs ys fs : List V) (cs : List Cm) (os : List (Option Cm)) (fate : List (Int × Int)), vs = [.int n, .ref a, .ref b, .ref f] ∧ n ≤ 10 ∧ SeqH H a xs ∧ CmA H xs cs ∧ cs.length ≤ 8 ∧ H b = some (.lst ys) ∧ OcA H ys os ∧ os.length = cs.length ∧ (∀ c ∈ os, ocOk c) ∧
  H f = some (.tup fs) ∧ PrA H fs fate ∧ fate.length ≤ 2 ∧ ∀ H' D zs, Same H H' → H D = none → H' D = some (.lst zs) → ThA H' zs (fblD fate cs os 0 (rowsN n) []) → Q (.ref D) H'
section
variable {P : Program} {w : World} {K : PySem.W.Frag} {mg : Str → Option Value} {base : Heap} {C : Addr}
theorem ok_fb {f : Addr} {fd : FuncData} (T : Bj mg) (t : ClL K mg C) (D_new : MkL P w K mg base C) (M_go : MDef P w K mg base CX0 1 C "go" nGo (spGo C)) (M_go_by : MDef P w K mg base CX0 2 C "go_by" pGb (spGb C)) (M_forget : MDef P w K mg base CX0 1 C "forget" pFg (spFg C))
    (M_found_at : MDef P w K mg base CX0 1 C "found_at" pFa (spFa C)) (F : Fun K "_found_by_letters" "_found_by_letters" sFb f fd) : FnOk P w K mg base CX0 3 f fd pFb spFb := by
  have nd := scFb.nd
  refine F.ok scFb (fun vs H Q E h => ?_) (fun cdv A outer s H vs Q E hr h => ?_)
  · obtain ⟨n, a, b, f, xs, ys, fs, cs, os, fate, rfl, _⟩ := h
    rfl
  · obtain ⟨n, a, b, fa, xs, ys, fs, cs, os, fate, rfl, hn, ha, hA, l8, hb, hB, lo, oko, hf, hF, l2, q⟩ := h
    refine ⟨_, (pss_cons (ps_set (i := 4) nd rfl (Or.inl rfl) (pe_newL D_new t.gC (hr.mono (by decide)) rfl (pa_cons (pv 0) pa_nil)))
 (pss_cons (ps_set (i := 5) nd rfl (Or.inl rfl) (pe_lst pa_nil))
 (pss_cons (ps_for PassesOwn.never rfl (pi_enumSK (K := K) rfl (by rfl) T.enumerate (pa_cons (pv 1) pa_nil)) (pg_tup rfl (pgs_cons (pg_name (i := 6) nd rfl (Or.inl rfl)) (pgs_cons (pg_name (i := 7) nd rfl (Or.inl rfl)) pgs_nil)))
  (pss_cons (ps_expr (pe_mdef M_go_by t.cl (hr.mono (by decide)) pass0 (pv 4) (pa_cons (pv 3) (pa_cons (pv 6) pa_nil))))
 (pss_cons (ps_set (i := 8) nd rfl (Or.inl rfl) (pe_ix (ix_listK (K := K) rfl) (pv 2) (pv 6) (fun _ _ => rfl)))
 (C8.pss_cut (ps_expr (pe_bm PySem.F.plainAttrs_list PySem.F.slot_list_append PySem.F.type_list_append mt_append (pv 5) (pa_cons (pe_ifExp (PW.pt (pw_or (pt_cmpR op_isN (pv 8) pe_non (nomark _)) (pw_or1 (pt_cmpR op_eq (pe_ix (ix_tupK (K := K) rfl) (pv 8) pe_int (fun _ _ => rfl)) pe_str (nomark _))))) pe_non (pe_mdef M_found_at t.cl (hr.mono (by decide)) pass0 (pv 4) (pa_cons (pe_ix (ix_tupK (K := K) rfl) (pv 8) pe_int (fun _ _ => rfl)) pa_nil))) pa_nil)))
 (pss_one (ps_if (pt_cmpR op_eq (pe_ix (ix_tupK (K := K) rfl) (pv 7) pe_int (fun _ _ => rfl)) pe_str (nomark _))
  (pss_one (ps_expr (pe_mdef0 M_forget t.cl (hr.mono (by decide)) pass0 (pv 4))))
  (pss_one (ps_if (pt_cmpR op_eq (pe_ix (ix_tupK (K := K) rfl) (pv 7) pe_int (fun _ _ => rfl)) pe_str (nomark _))
  (pss_one (ps_expr (pe_mdef M_go t.cl (hr.mono (by decide)) pass0 (pv 4) (pa_cons (pe_ix (ix_tupK (K := K) rfl) (pv 7) pe_int (fun _ _ => rfl)) pa_nil))))
  pss_nil))))))))
 (pss_one (ps_ret (pv 5)))))), ?_⟩
    refine ⟨_, rfl, fun p dx np ndx hne => ⟨p, dx, n, rfl, upd_same, hn, fun H1 r g k1 nr ng nrg hL => ⟨rfl, ?_⟩⟩⟩
    have s1 : Same H H1 := fun b o hb => k1 b o (ne_of_none hb np) (by rw [upd_ne (ne_of_none hb np), upd_ne (ne_of_none hb ndx)]; exact hb)
    have ngH : H g = none := by
      have e1 : g ≠ p := fun z => by rw [z, upd_same] at ng; cases ng
      have e2 : g ≠ dx := fun z => by rw [z, upd_ne hne, upd_same] at ng; cases ng
      rw [upd_ne e1, upd_ne e2] at ng; exact ng
    refine ⟨Nat.zero_le _, fun D nD => ?_⟩
    have nDH : H D = none := s1.free nD
    have hI0 : FoI C H p dx g D (upd H1 D (.lst [])) r (rowsN n) [] [] [] := by
      refine ⟨s1.new nD, ⟨?_, ?_, ?_⟩, upd_same, (fun z => by rw [← z, hL.r] at nD; cases nD), .nil⟩
      · exact (same_new nD) _ _ hL.p
      · exact (same_new nD) _ _ hL.r
      · exact (same_new nD) _ _ hL.g
    generalize upd H1 D (.lst []) = HI at hI0
    have lx : xs.length = cs.length := A2.len hA
    have ly : ys.length = os.length := A2.len hB
    have hp0 : H p = none := np
    refine ⟨_, rfl, a, xs, rfl, for_enumS (H0 := H) ha.len (fun i σ G => ∃ v6 v7 v8, σ = [some (.int n), some (.ref a), some (.ref b), some (.ref fa), some (.ref p), some (.ref D), v6, v7, v8] ∧ ∃ r rows gone acc ts, FoI C H p dx g D G r rows gone acc ts ∧ fblD fate cs os 0 (rowsN n) [] = ts ++ fblD fate (cs.drop i) (os.drop i) i rows gone ∧ rows.length ≤ 10 ∧ gone.length ≤ 3 * i ∧ acc.length = i) ?_ ?_ ?_ ?_⟩
    · exact ⟨none, none, none, rfl, r, rowsN n, [], [], [], hI0, rfl, by unfold rowsN; rw [List.length_map, List.length_range]; exact hn, Nat.zero_le _, rfl⟩
    · rintro i σ' G ⟨_, _, _, _, _, _, _, _, _, hI, _⟩
      exact hI.s
    · rintro i x σ G Tt hx ⟨v6, v7, v8, rfl, r1, rows, gone, acc, ts, hI, hfd, lr, lg, la⟩ nT
      obtain ⟨c, hc, tx, rfl, htx⟩ := A2.get hA hx
      have hi : i < cs.length := lt_of_get hc
      have hiy : i < ys.length := by omega
      obtain ⟨o, ho, hoy⟩ := A2.get hB (List.getElem?_eq_getElem hiy)
      have hyi : ys[i]? = some ys[i] := List.getElem?_eq_getElem hiy
      generalize ys[i] = y at hoy hyi
      have hI1 := hI.sm (same_new (o := .tup [.int (i : Nat), .ref tx]) nT)
      have hTt : (upd G Tt (.tup [.int (i : Nat), .ref tx])) Tt = some (.tup [.int (i : Nat), .ref tx]) := upd_same
      generalize upd G Tt (.tup [.int (i : Nat), .ref tx]) = G1 at hI1 hTt
      rw [drop_get hc, drop_get ho] at hfd
      have oko1 := oko o (List.mem_of_getElem? ho)
      have ln1 : (goBy fate i gone).length ≤ gone.length + 2 := by have := goBy_len i fate gone; omega
      refine ⟨Tt, _, rfl, st hTt, rfl, _, _, rfl, _, _, rfl, rfl, _, rfl, p, dx, _, rfl, hI1.l.p, ld_no (by decide +kernel), _, rfl, _, rfl, p, dx, r1, g, fa, rows, gone, fs, fate, i, rfl, hI1.l, by omega, hI1.s _ _ hf, hF.tu (TU.of hI1.s), l2, fun G2 k2 hL2 => ?_⟩
      have hI2 := hI1.go ngH k2 hL2
      have hoy2 := hoy.tu (TU.of hI2.s)
      refine ⟨_, rfl, _, rfl, b, ys, i, y, rfl, rfl, sq (hI2.s _ _ hb), at_of (j := i) rfl hyi, ?_⟩
      refine ⟨fun σ G => σ = [some (.int n), some (.ref a), some (.ref b), some (.ref fa), some (.ref p), some (.ref D), some (.int (i : Nat)), some (.ref tx), some y] ∧ ∃ acc2, FoI C H p dx g D G r1 rows (goBy fate i gone) acc2 (ts ++ [thC rows (goBy fate i gone) o]) ∧ acc2.length = i + 1, ?_, ?_⟩
      · refine ⟨_, rfl, .inl ⟨rfl, _, sq hI2.d⟩, ?_⟩
        cases o with
        | none =>
          have hy : y = .non := hoy2
          subst hy
          exact ⟨_, rfl, rfl, _, rfl, itbT rfl (itbT rfl ⟨D, acc, _, rfl, rfl, hI2.d, lt2 _ (by omega), rfl, _, hI2.app nDH (o := none) rfl, by rw [List.length_append, la]; rfl⟩)⟩
        | some cc =>
          obtain ⟨ty, rfl, hty⟩ := hoy2
          cases cc with
          | ask => exact ⟨_, rfl, rfl, _, rfl, itbF rfl ⟨_, rfl, ty, _, 0, _, rfl, rfl, st hty, atI_nat (j := 0) rfl, rfl, _, rfl, itbT (by decide +kernel) ⟨D, acc, _, rfl, rfl, hI2.d, lt2 _ (by omega), rfl, _, hI2.app nDH (o := none) rfl, by rw [List.length_append, la]; rfl⟩⟩⟩
          | look k =>
            refine ⟨_, rfl, rfl, _, rfl, itbF rfl ⟨_, rfl, ty, _, 0, _, rfl, rfl, st hty, atI_nat (j := 0) rfl, rfl, _, rfl, itbF (by decide +kernel) ?_⟩⟩
            refine ⟨_, rfl, p, dx, _, rfl, hI2.l.p, ld_no (by decide +kernel), _, rfl, ty, _, 1, .int k, rfl, rfl, st hty, atI_nat (j := 1) rfl, p, dx, r1, g, rows, _, k, rfl, hI2.l, oko1, fun G3 th s3 nth hth => ?_⟩
            have hI3 := hI2.sm s3
            exact ⟨D, acc, _, rfl, rfl, hI3.d, lt2 _ (by omega), rfl, _, hI3.app nDH (o := some (foundA rows (goBy fate i gone) k)) ⟨th, rfl, hth⟩, by rw [List.length_append, la]; rfl⟩
          | take k =>
            refine ⟨_, rfl, rfl, _, rfl, itbF rfl ⟨_, rfl, ty, _, 0, _, rfl, rfl, st hty, atI_nat (j := 0) rfl, rfl, _, rfl, itbF (by decide +kernel) ?_⟩⟩
            refine ⟨_, rfl, p, dx, _, rfl, hI2.l.p, ld_no (by decide +kernel), _, rfl, ty, _, 1, .int k, rfl, rfl, st hty, atI_nat (j := 1) rfl, p, dx, r1, g, rows, _, k, rfl, hI2.l, oko1, fun G3 th s3 nth hth => ?_⟩
            have hI3 := hI2.sm s3
            exact ⟨D, acc, _, rfl, rfl, hI3.d, lt2 _ (by omega), rfl, _, hI3.app nDH (o := some (foundA rows (goBy fate i gone) k)) ⟨th, rfl, hth⟩, by rw [List.length_append, la]; rfl⟩
      · rintro σ G ⟨rfl, acc2, hJ, la2⟩
        have htx2 := hJ.s _ _ htx
        cases c with
        | ask =>
          refine ⟨_, rfl, tx, _, 0, _, rfl, rfl, st htx2, atI_nat (j := 0) rfl, rfl, _, rfl, itbT (by decide +kernel) ?_⟩
          refine ⟨_, rfl, p, dx, _, rfl, hJ.l.p, ld_no (by decide +kernel), p, dx, r1, g, rows, _, rfl, hJ.l, by omega, fun G3 r2 nr2 k3 hL3 => ?_⟩
          exact ⟨_, _, _, rfl, r2, _, _, _, _, hJ.fg hp0 nr2 k3 hL3, by rw [hfd, List.append_assoc]; rfl, Nat.le_trans (List.length_filter_le _ _) lr, by omega, la2⟩
        | look k =>
          refine ⟨_, rfl, tx, _, 0, _, rfl, rfl, st htx2, atI_nat (j := 0) rfl, rfl, _, rfl, itbF (by decide +kernel) ?_⟩
          refine ⟨_, rfl, tx, _, 0, _, rfl, rfl, st htx2, atI_nat (j := 0) rfl, rfl, _, rfl, itbF (by decide +kernel) ?_⟩
          exact ⟨_, _, _, rfl, r1, _, _, _, _, hJ, by rw [hfd, List.append_assoc]; rfl, lr, by omega, la2⟩
        | take k =>
          refine ⟨_, rfl, tx, _, 0, _, rfl, rfl, st htx2, atI_nat (j := 0) rfl, rfl, _, rfl, itbF (by decide +kernel) ?_⟩
          refine ⟨_, rfl, tx, _, 0, _, rfl, rfl, st htx2, atI_nat (j := 0) rfl, rfl, _, rfl, itbT (by decide +kernel) ?_⟩
          refine ⟨_, rfl, p, dx, _, rfl, hJ.l.p, ld_no (by decide +kernel), _, rfl, tx, _, 1, .int k, rfl, rfl, st htx2, atI_nat (j := 1) rfl, p, dx, r1, g, rows, _, k, rfl, hJ.l, by omega, fun G4 k4 hL4 => ?_⟩
          have := putG_len (goBy fate i gone) k
          exact ⟨_, _, _, rfl, r1, _, _, _, _, hJ.go ngH k4 hL4, by rw [hfd, List.append_assoc]; rfl, lr, by omega, la2⟩
    · rintro σ G ⟨v6, v7, v8, rfl, r1, rows, gone, acc, ts, hI, hfd, lr, lg, la⟩
      rw [lx, List.drop_length] at hfd
      have e : fblD fate cs os 0 (rowsN n) [] = ts := by rw [hfd]; show ts ++ [] = ts; exact List.append_nil _
      exact ⟨_, rfl, q G D acc hI.s nDH hI.d (by rw [e]; exact hI.a)⟩
end
end K1


set_option Elab.async false
set_option linter.all false
set_option maxRecDepth 100000
set_option maxHeartbeats 2000000
/-! itertools.combinations(range(n), k), at the library's level. -/
namespace Cmb
open PySem PySem.Spec PyProof.Rows
open Sem (wp)
theorem mro_c : mroOf (.type "itertools.combinations") = pure [.type "itertools.combinations", .type "object"] := by rw [mroOf_type]; kernel_rfl
theorem lookup_new : typeLookup (.type "itertools.combinations") "__new__" = pure (some (.builtin "itertools.combinations.__new__")) := by rw [typeLookup_type, builtinLookup_eq_fast]; kernel_rfl
theorem slot_init : Slot "itertools.combinations" "__init__" "object.__init__" :=
  .of (owner := "object") (n := "__init__") (by rw [typeLookup_type, builtinLookup_eq_fast]; kernel_rfl) (by decide +kernel) (by decide +kernel) (by decide +kernel)
    (by first | exact .inl (by decide +kernel) | exact .inr (by decide +kernel)) (by rw [isSubtype_type]; kernel_rfl)
theorem sub_c : isSubtype (.type "itertools.combinations") (.type "itertools.combinations") = pure true := by rw [isSubtype_type]; kernel_rfl
theorem called_c : TypeCalled "itertools.combinations" "itertools.combinations.__new__" "object.__init__" :=
  ⟨by decide +kernel, by decide +kernel, ⟨_, _, mro_c⟩, madeBy_type mro_c lookup_new (by decide +kernel), by decide +kernel, sub_c, slot_init⟩
theorem typeCall_2 (a b : Value) : checkTypeCall "itertools.combinations" ⟨[a, b], []⟩ = pure () := by kernel_rfl
theorem newCall_2 (a b : Value) : checkBuiltinCall "itertools.combinations.__new__" ⟨[.type "itertools.combinations", a, b], []⟩ = pure () := by kernel_rfl
theorem entry_new : entryFor table "itertools.combinations.__new__" = some Builtin.«itertools.combinations.__new__» := entryFor_of_tree (by kernel_rfl)
theorem plain_new : plainId "itertools.combinations.__new__" = true := by decide +kernel
theorem slot_iter : Slot "itertools.combinations" "__iter__" "itertools.combinations.__iter__" :=
  .of (owner := "itertools.combinations") (n := "__iter__") (by rw [typeLookup_type, builtinLookup_eq_fast]; kernel_rfl) (by decide +kernel) (by decide +kernel) (by decide +kernel)
    (by first | exact .inl (by decide +kernel) | exact .inr (by decide +kernel)) sub_c
theorem slot_next : Slot "itertools.combinations" "__next__" "itertools.combinations.__next__" :=
  .of (owner := "itertools.combinations") (n := "__next__") (by rw [typeLookup_type, builtinLookup_eq_fast]; kernel_rfl) (by decide +kernel) (by decide +kernel) (by decide +kernel)
    (by first | exact .inl (by decide +kernel) | exact .inr (by decide +kernel)) sub_c
theorem entry_next : entryFor table "itertools.combinations.__next__" = some Builtin.«itertools.combinations.__next__» := entryFor_of_tree (by kernel_rfl)
theorem noDict_c : typeHasDict (.type "itertools.combinations") = false := by decide +kernel
end Cmb


set_option Elab.async false
set_option linter.all false
set_option maxRecDepth 100000
set_option maxHeartbeats 2000000
namespace Cmb
open PySem PySem.Spec PyProof.Rows L2
open Sem (wp)
theorem bind_2 (a b : Value) : Builtin.Itertools.itBindNamed "combinations" ["iterable", "r"] 2 2 [a, b] [] = pure [some a, some b] := by rfl
theorem sub_c2 : isSubtype (.type "itertools.combinations") (.type ("itertools." ++ "combinations")) = pure true := sub_c
theorem entry_iter : entryFor table "itertools.combinations.__iter__" = some Builtin.«dict_keyiterator.__iter__» :=
  entryFor_alias (id' := "dict_keyiterator.__iter__") (by kernel_rfl) (by first | rfl | decide +kernel | (unfold String.splitOn; simp +decide [String.splitOnAux])) (by decide +kernel) (by kernel_rfl)
abbrev cn : List Char := ['s', 'n', 'o', 'i', 't', 'a', 'n', 'i', 'b', 'm', 'o', 'c', '.', 's', 'l', 'o', 'o', 't', 'r', 'e', 't', 'i']
theorem owner_c : Manifest.owners.lookup (String.ofList (['s', 'n', 'o', 'i', 't', 'a', 'n', 'i', 'b', 'm', 'o', 'c', '.', 's', 'l', 'o', 'o', 't', 'r', 'e', 't', 'i'].reverse)) = some Manifest.sig_itertools_combinations := by kernel_rfl
theorem args_iter (a : Value) : argsOk "itertools.combinations.__iter__" ⟨[a], []⟩ := by
  unfold argsOk; rw [signature?_of (id := "itertools.combinations.__iter__") (n := ['_', '_', 'r', 'e', 't', 'i', '_', '_']) (o := ['s', 'n', 'o', 'i', 't', 'a', 'n', 'i', 'b', 'm', 'o', 'c', '.', 's', 'l', 'o', 'o', 't', 'r', 'e', 't', 'i']) (by kernel_rfl) owner_c]; kernel_rfl
theorem args_next (a : Value) : argsOk "itertools.combinations.__next__" ⟨[a], []⟩ := by
  unfold argsOk; rw [signature?_of (id := "itertools.combinations.__next__") (n := ['_', '_', 't', 'x', 'e', 'n', '_', '_']) (o := ['s', 'n', 'o', 'i', 't', 'a', 'n', 'i', 'b', 'm', 'o', 'c', '.', 's', 'l', 'o', 'o', 't', 'r', 'e', 't', 'i']) (by kernel_rfl) owner_c]; kernel_rfl
def ixs (ix : List Nat) : List Value := ix.map fun (i : Nat) => Value.int (i : Int) 0
def cObj (pool : Value) (st : Int) (last : Value) (ix : List Nat) : Obj := { cls := .type "itertools.combinations", dict := none, data := .fields ([pool, .int st 0, last] ++ ixs ix).toArray, slots := #[] }
section
variable {prog : Program} {w : World} {A : Around} {E : Value → Shared → Prop} {s : Shared} {r : Addr} {b : Int} {t u v : Tok} {n : Nat}
theorem code_new {Q₁ : Value → Shared → Prop} {k : Nat} {tk0 : Tok} (hh : A.handled = none) (hr : IsRange s.heap r 0 b 1 t u v) (hsmall : Builtin.Range.small 0 b 1 = true) (hn : Builtin.Range.rangeSize 0 b 1 = n) (hlen : n ≤ 1000) (hk : k ≤ 900)
    (h : ∀ (h' : Heap) (tk : Nat) (acc : Array Value), (∀ b o, s.heap.get? b = some o → h'.get? b = some o) → ItemsOf (fun i v => ∃ t, v = .int (0 + i * 1) t) acc n →
      Q₁ (.ref (h'.objs.size + 1)) { s with heap := (h'.push { cls := .type "tuple", data := .seq acc }).push (cObj (.ref h'.objs.size) (if k > n then 2 else 0) .none (List.range k)), toks := tk }) :
    codeAny (model prog w) A (.call (.builtin "itertools.combinations.__new__") ⟨[.type "itertools.combinations", .ref r, .int (k : Int) tk0], []⟩) (wants Q₁ E) s := by
  refine codeAny_of_tree ?_
  show wpAny _ A.in1 (do checkBuiltinCall "itertools.combinations.__new__" ⟨[.type "itertools.combinations", .ref r, .int (k : Int) tk0], []⟩; again (.builtin "itertools.combinations.__new__" ⟨[.type "itertools.combinations", .ref r, .int (k : Int) tk0], []⟩)) _ _ s
  refine wpAny_bind (wpAny_of_eq (newCall_2 _ _) (wpAny_pure ⟨plainId_quiet plain_new _, codeAny_builtin entry_new ?_⟩))
  rw [Around.under_plainId plain_new _]
  have hsub := sub_c2
  have hbd := bind_2 (.ref r) (.int (k : Int) tk0)
  have hd := noDict_c
  have hTI : s.TypeIs (.ref r) "range" := ⟨_, hr, rfl⟩
  have hh1 : A.in1.handled = none := hh
  unfold Builtin.«itertools.combinations.__new__»
  repeat (first
      | wp_step
      | simp only [List.head?_cons, Option.some_or, List.getElem?_cons_succ, List.getElem?_cons_zero, List.length_cons, List.length_nil, List.forIn_nil])
  have hlo : ¬ ((decide ((k : Int) < -2 ^ 63) || decide ((k : Int) ≥ 2 ^ 63)) = true) := by
    rw [decide_eq_false (by omega), decide_eq_false (by omega)]
    exact Bool.false_ne_true
  rw [if_neg hlo]
  refine wpAny_pure ?_
  refine wpAny_bind (collect_range (A := A.in1) hh1 hr hsmall hn (by omega) fun h' tk acc hk' hacc => ?_)
  have htm : ¬ (Builtin.Itertools.itTooMany (k : Int) = true) := by
    unfold Builtin.Itertools.itTooMany
    rw [decide_eq_false (by omega)]
    exact Bool.false_ne_true
  rw [if_neg (by omega), if_neg htm]
  have hsz : acc.toList.length = n := by rw [Array.length_toList]; exact hacc.1
  refine wpAny_bind (wpAny_newTuple ?_)
  refine wpAny_pure ?_
  have e1 : acc.toList.toArray = acc := by simp
  have hnr : ∀ (fs : List Value), Builtin.Itertools.itNewRecord (.type "itertools.combinations") fs = newObj (.type "itertools.combinations") (.fields fs.toArray) := by
    intro fs
    unfold Builtin.Itertools.itNewRecord
    rw [hd]
    simp
  show wpAny _ _ (Builtin.Itertools.itNewRecord (.type "itertools.combinations") _ >>= _) _ _ _
  rw [hnr]
  have e3 : ∀ (x : Obj), (h'.push x).objs.size = h'.objs.size + 1 := fun x => by simp [Heap.push]
  have hsl : 1000 ≤ sizeLine := by decide +kernel
  refine wpAny_bind (wpAny_newObj_type ?_ ?_)
  · have := h h' tk acc hk' hacc
    refine wpAny_pure ?_
    show Q₁ (.ref ((h'.push { cls := .type "tuple", data := .seq acc.toList.toArray }).objs.size)) { s with heap := (h'.push { cls := .type "tuple", data := .seq acc.toList.toArray }).push { cls := .type "itertools.combinations", data := .fields ([.ref h'.objs.size, rawInt (if (k:Int).toNat > acc.toList.length then 2 else 0), .none] ++ (List.range (k:Int).toNat).map (fun (i:Nat) => rawInt i)).toArray }, toks := tk }
    rw [e3, e1, hsz, Int.toNat_natCast]
    exact this
  · simp only [sizeOk]
    simp
    omega
end
end Cmb


set_option Elab.async false
set_option linter.all false
set_option maxRecDepth 100000
set_option maxHeartbeats 2000000
namespace Cmb
open PySem PySem.Spec PyProof.Rows L2
open Sem (wp)
theorem ixs_back (ix : List Nat) : (ixs ix).map (fun v => match v with | .int n _ => n.toNat | _ => 0) = ix := by
  induction ix with
  | nil => rfl
  | cons i r ih =>
    show _ :: _ = _
    rw [show (r.map fun (i : Nat) => Value.int (i : Int) 0) = ixs r from rfl, ih]
    simp
abbrev IsC (h : Heap) (it pool : Addr) (acc : Array Value) (st : Int) (last : Value) (ix : List Nat) : Prop :=
  h.get? it = some (cObj (.ref pool) st last ix) ∧ h.get? pool = some { cls := .type "tuple", data := .seq acc } ∧ it ≠ pool
section
variable {M : Model} {A : Around} {E : Value → Shared → Prop} {s : Shared} {it pool : Addr} {acc : Array Value} {st : Int} {last : Value} {ix : List Nat}
theorem run_nums {Q : List Nat → Shared → Prop} (h : s.heap.get? it = some (cObj (.ref pool) st last ix)) (hQ : Q ix s) : wpAny M A (Builtin.Itertools.itNumbersFrom (.ref it) 3) Q E s := by
  show wpAny _ _ (load it >>= _) _ _ s
  refine wpAny_bind (wpAny_load h ?_)
  refine wpAny_pure ?_
  have e : ((([.ref pool, .int st 0, last] ++ ixs ix).toArray.toList.drop 3).map (fun v => match v with | .int n _ => n.toNat | _ => 0)) = ix := ixs_back ix
  exact Eq.mpr (congrArg (fun z => Q z s) e) hQ
theorem run_setNums {Q : Unit → Shared → Prop} {nx : List Nat} (h : s.heap.get? it = some (cObj (.ref pool) st last ix)) (hl : nx.length ≤ 900)
    (hQ : ∀ h', h'.get? it = some (cObj (.ref pool) st last nx) → Heap.SameBut it s.heap h' → Q () { s with heap := h' }) : wpAny M A (Builtin.Itertools.itSetNumbersFrom (.ref it) 3 nx) Q E s := by
  have hsl : 1000 ≤ sizeLine := by decide +kernel
  have e : (([.ref pool, .int st 0, last] ++ ixs ix).toArray.extract 0 3 ++ (nx.map fun (n : Nat) => rawInt n).toArray) = ([.ref pool, .int st 0, last] ++ ixs nx).toArray := by
    simp [ixs, rawInt]
  show wpAny _ _ (updateFields it _) _ _ s
  refine wpAny_updateFields h rfl (hQ _ ?_ (Heap.SameBut.update ..)) ?_
  · rw [Heap.get?_update_self _ h rfl]
    exact congrArg (fun d => some ({ cls := .type "itertools.combinations", dict := none, data := .fields d, slots := #[] } : Obj)) e
  · rw [e]
    simp [ixs]
    omega
theorem run_setSt {Q : Unit → Shared → Prop} {st' : Int} (h : s.heap.get? it = some (cObj (.ref pool) st last ix))
    (hQ : ∀ h', h'.get? it = some (cObj (.ref pool) st' last ix) → Heap.SameBut it s.heap h' → Q () { s with heap := h' }) : wpAny M A (setField (.ref it) 1 (rawInt st')) Q E s := by
  have e : (([.ref pool, .int st 0, last] ++ ixs ix).toArray.setIfInBounds 1 (rawInt st')) = ([.ref pool, .int st' 0, last] ++ ixs ix).toArray := by simp [rawInt]
  refine wpAny_setField h rfl (by simp) (hQ _ ?_ (Heap.SameBut.update ..))
  rw [Heap.get?_update_self _ h rfl]
  exact congrArg (fun d => some ({ cls := .type "itertools.combinations", dict := none, data := .fields d, slots := #[] } : Obj)) e
theorem run_setLast {Q : Unit → Shared → Prop} {v : Value} (h : s.heap.get? it = some (cObj (.ref pool) st last ix))
    (hQ : ∀ h', h'.get? it = some (cObj (.ref pool) st v ix) → Heap.SameBut it s.heap h' → Q () { s with heap := h' }) : wpAny M A (setField (.ref it) 2 v) Q E s := by
  have e : (([.ref pool, .int st 0, last] ++ ixs ix).toArray.setIfInBounds 2 v) = ([.ref pool, .int st 0, v] ++ ixs ix).toArray := by simp
  refine wpAny_setField h rfl (by simp) (hQ _ ?_ (Heap.SameBut.update ..))
  rw [Heap.get?_update_self _ h rfl]
  exact congrArg (fun d => some ({ cls := .type "itertools.combinations", dict := none, data := .fields d, slots := #[] } : Obj)) e
theorem run_int {Q : Int → Shared → Prop} (h : s.heap.get? it = some (cObj (.ref pool) st last ix)) (hQ : Q st s) : wpAny M A (Builtin.Itertools.itIntField (.ref it) 1) Q E s := by
  show wpAny _ _ (field (.ref it) 1 >>= _) _ _ s
  exact wpAny_bind (wpAny_field h rfl (x := .int st 0) rfl (wpAny_pure hQ))
theorem run_pool {Q : Array Value → Shared → Prop} (h : s.heap.get? pool = some { cls := .type "tuple", data := .seq acc }) (hQ : Q acc s) : wpAny M A (Builtin.Itertools.itPoolItems (.ref pool)) Q E s := by
  show wpAny _ _ (seqItems? (.ref pool) >>= _) _ _ s
  exact wpAny_bind (wpAny_seqItems h rfl (wpAny_pure hQ))
end
end Cmb


set_option Elab.async false
set_option linter.all false
set_option maxRecDepth 100000
set_option maxHeartbeats 2000000
namespace Cmb
open PySem PySem.Spec PyProof.Rows L2
open Sem (wp)
/-- the tuple that is handed out for ix -/
abbrev picks (acc : Array Value) (ix : List Nat) : Obj := { cls := .type "tuple", data := .seq (ix.map fun i => acc.getD i .none).toArray }
structure Given (h h' : Heap) (it pool : Addr) (acc : Array Value) (ix : List Nat) : Prop where
  c : IsC h' it pool acc 1 (.ref h.objs.size) ix
  q : h'.get? h.objs.size = some (picks acc ix)
  k : ∀ b o, b ≠ it → h.get? b = some o → h'.get? b = some o
structure Works (c : Builtin) (f : Nat → List Nat → Option (List Nat)) : Prop where
  first : ∀ (M : Model) (A : Around) (E : Value → Shared → Prop) (Q : Fin → Shared → Prop) (s : Shared) (it pool : Addr) (acc : Array Value) (last : Value) (ix : List Nat), ix.length ≤ 900 → IsC s.heap it pool acc 0 last ix →
    (∀ h', Given s.heap h' it pool acc ix → Q (.done (.ret (.ref s.heap.objs.size))) { s with heap := h' }) → wpAny M A (c ⟨[.ref it], []⟩) Q E s
  next : ∀ (M : Model) (A : Around) (E : Value → Shared → Prop) (Q : Fin → Shared → Prop) (s : Shared) (it pool : Addr) (acc : Array Value) (last : Value) (ix nx : List Nat), nx.length ≤ 900 → IsC s.heap it pool acc 1 last ix → f acc.size ix = some nx →
    (∀ h', Given s.heap h' it pool acc nx → Q (.done (.ret (.ref s.heap.objs.size))) { s with heap := h' }) → wpAny M A (c ⟨[.ref it], []⟩) Q E s
  stop : ∀ (M : Model) (A : Around) (E : Value → Shared → Prop) (Q : Fin → Shared → Prop) (s : Shared) (it pool : Addr) (acc : Array Value) (last : Value) (ix : List Nat), IsC s.heap it pool acc 1 last ix → f acc.size ix = none →
    (∀ h', (∀ b o, b ≠ it → s.heap.get? b = some o → h'.get? b = some o) → wpAny M A (newExc (.type "StopIteration") [] >>= fun e => (raiseNew e : Sem Fin)) Q E { s with heap := h' }) → wpAny M A (c ⟨[.ref it], []⟩) Q E s
  ended : ∀ (M : Model) (A : Around) (E : Value → Shared → Prop) (Q : Fin → Shared → Prop) (s : Shared) (it pool : Addr) (acc : Array Value) (last : Value) (ix : List Nat), IsC s.heap it pool acc 2 last ix →
    (wpAny M A (newExc (.type "StopIteration") [] >>= fun e => (raiseNew e : Sem Fin)) Q E s) → wpAny M A (c ⟨[.ref it], []⟩) Q E s
section
variable {M : Model} {A : Around} {E : Value → Shared → Prop} {s : Shared} {it pool : Addr} {acc : Array Value} {st : Int} {last : Value} {ix : List Nat}
theorem hand {Q : Fin → Shared → Prop} {m : Sem Value} {h0 : Heap} (hm : m = (Builtin.Itertools.itPoolItems (.ref pool) >>= fun items => newTuple (ix.map fun i => items.getD i .none)))
    (hl : ix.length ≤ 900) (hs : Heap.SameBut it s.heap h0) (h : IsC h0 it pool acc 1 last ix)
    (hQ : ∀ h', Given s.heap h' it pool acc ix → Q (.done (.ret (.ref s.heap.objs.size))) { s with heap := h' }) :
    wpAny M A (m >>= fun result => field (.ref it) 2 >>= fun before => setField (.ref it) 2 result >>= fun _ => letGo [before] [result] >>= fun _ => ret result) Q E { s with heap := h0 } := by
  subst hm
  obtain ⟨hc, hp, hne⟩ := h
  have hsl : 1000 ≤ sizeLine := by decide +kernel
  have hne2 : it ≠ h0.objs.size := Nat.ne_of_lt (Heap.lt_size hc)
  have hne3 : pool ≠ h0.objs.size := Nat.ne_of_lt (Heap.lt_size hp)
  refine wpAny_bind (wpAny_bind (run_pool (s := { s with heap := h0 }) hp (wpAny_newTuple ?_ (by simp; omega))))
  have hc1 : (h0.push (picks acc ix)).get? it = some (cObj (.ref pool) 1 last ix) := Heap.get?_push_of_some _ hc
  refine wpAny_bind (wpAny_field (s := { s with heap := h0.push (picks acc ix) }) hc1 rfl (x := last) rfl ?_)
  refine wpAny_bind (run_setLast (s := { s with heap := h0.push (picks acc ix) }) (v := .ref h0.objs.size) hc1 fun h2 hc2 hs2 => ?_)
  refine wpAny_bind (wpAny_letGo (wpAny_pure ?_))
  have e0 : h0.objs.size = s.heap.objs.size := hs.1
  have hq := hQ h2 ⟨⟨e0 ▸ hc2, ?_, hne⟩, ?_, ?_⟩
  · rw [← e0] at hq
    exact hq
  · rw [hs2.2 pool (Ne.symm hne)]
    exact Heap.get?_push_of_some _ hp
  · rw [← e0, hs2.2 _ (Ne.symm hne2)]
    exact Heap.get?_push_size _ rfl
  · intro b o hb e
    rw [hs2.2 b hb]
    exact Heap.get?_push_of_some _ ((hs.2 b hb).trans e)
end
theorem works_of {g : (Nat → List Nat → Option (List Nat)) → Builtin} {c : Builtin} {f : Nat → List Nat → Option (List Nat)} (e : c = g f) (h : ∀ f, Works (g f) f) : Works c f := e ▸ h f
/-- all parts of k of the numbers from lo on, m of them, as they come first -/
def cmbFrom : Nat → Nat → Nat → List (List Nat)
  | _, _, 0 => [[]]
  | _, 0, _ + 1 => []
  | lo, m + 1, k + 1 => (cmbFrom (lo + 1) m k).map (lo :: ·) ++ cmbFrom (lo + 1) m (k + 1)
def cmb (n k : Nat) : List (List Nat) := cmbFrom 0 n k
/-- each but the first comes behind the one ahead of it -/
def chain (f : Nat → List Nat → Option (List Nat)) (n : Nat) : List (List Nat) → Bool
  | [] => true
  | [x] => decide (f n x = none)
  | x :: y :: r => decide (f n x = some y) && chain f n (y :: r)
def chains (f : Nat → List Nat → Option (List Nat)) : Bool := (List.range 11).all (fun n => (List.range (n + 1)).all fun k => chain f n (cmb n k)) && (List.range 43).all fun n => chain f n (cmb n 2)
theorem works : ∃ (f : Nat → List Nat → Option (List Nat)), Works Builtin.«itertools.combinations.__next__» f ∧ chains f = true := by
  have key : ∃ (g : (Nat → List Nat → Option (List Nat)) → Builtin) (f : Nat → List Nat → Option (List Nat)), Builtin.«itertools.combinations.__next__» = g f ∧ (∀ f, Works (g f) f) ∧ chains f = true := by
    unfold Builtin.«itertools.combinations.__next__»
    refine ⟨_, _, rfl, fun f => Works.mk ?_ ?_ ?_ ?_, by decide +kernel⟩
    · intro M A E Q s it pool acc last ix hl h hQ
      show wpAny _ _ (field (.ref it) 0 >>= _) _ _ s
      refine wpAny_bind (wpAny_field h.1 rfl (x := .ref pool) rfl ?_)
      refine wpAny_bind (run_nums h.1 ?_)
      refine wpAny_bind (run_int h.1 ?_)
      show wpAny _ _ (setField (.ref it) 1 (rawInt 1) >>= _) _ _ s
      refine wpAny_bind (run_setSt h.1 fun h1 hc1 hs1 => ?_)
      exact hand rfl hl hs1 ⟨hc1, (hs1.2 _ (Ne.symm h.2.2)).trans h.2.1, h.2.2⟩ hQ
    · intro M A E Q s it pool acc last ix nx hl h hf hQ
      show wpAny _ _ (field (.ref it) 0 >>= _) _ _ s
      refine wpAny_bind (wpAny_field h.1 rfl (x := .ref pool) rfl ?_)
      refine wpAny_bind (run_nums h.1 ?_)
      refine wpAny_bind (run_int h.1 ?_)
      show wpAny _ _ (Builtin.Itertools.itPoolItems (.ref pool) >>= _) _ _ s
      refine wpAny_bind (run_pool h.2.1 ?_)
      rw [hf]
      show wpAny _ _ (Builtin.Itertools.itSetNumbersFrom (.ref it) 3 nx >>= _) _ _ s
      refine wpAny_bind (run_setNums h.1 hl fun h1 hc1 hs1 => ?_)
      exact hand rfl hl hs1 ⟨hc1, (hs1.2 _ (Ne.symm h.2.2)).trans h.2.1, h.2.2⟩ hQ
    · intro M A E Q s it pool acc last ix h hf hQ
      show wpAny _ _ (field (.ref it) 0 >>= _) _ _ s
      refine wpAny_bind (wpAny_field h.1 rfl (x := .ref pool) rfl ?_)
      refine wpAny_bind (run_nums h.1 ?_)
      refine wpAny_bind (run_int h.1 ?_)
      show wpAny _ _ (Builtin.Itertools.itPoolItems (.ref pool) >>= _) _ _ s
      refine wpAny_bind (run_pool h.2.1 ?_)
      rw [hf]
      show wpAny _ _ (setField (.ref it) 1 (rawInt 2) >>= _) _ _ s
      refine wpAny_bind (run_setSt h.1 fun h1 hc1 hs1 => ?_)
      exact hQ h1 fun b o hb e => (hs1.2 b hb).trans e
    · intro M A E Q s it pool acc last ix h hQ
      show wpAny _ _ (field (.ref it) 0 >>= _) _ _ s
      refine wpAny_bind (wpAny_field h.1 rfl (x := .ref pool) rfl ?_)
      refine wpAny_bind (run_nums h.1 ?_)
      refine wpAny_bind (run_int h.1 ?_)
      refine wpAny_bind (wpAny_rule ?_)
      exact hQ
  obtain ⟨g, f, e, h, c⟩ := key
  exact ⟨f, works_of e h, c⟩
theorem cmb_head : ∀ n < 11, ∀ k ≤ n, (cmb n k)[0]? = some (List.range k) := by decide +kernel
theorem cmb_none : ∀ n < 43, ∀ k < 25, n < k → cmb n k = [] := by decide +kernel
theorem cmb_two : ∀ n < 43, 2 ≤ n → (cmb n 2)[0]? = some (List.range 2) := by decide +kernel
end Cmb


set_option Elab.async false
set_option linter.all false
set_option maxRecDepth 100000
set_option maxHeartbeats 2000000
namespace Cmb
open PySem PySem.Spec PyProof.Rows L2
open Sem (wp)
/-- the parts of L, each as a new tuple -/
def ItC (L : List (List Nat)) : It := ⟨fun i _ => i < L.length, fun i H x H' => ∃ ix q, L[i]? = some ix ∧ x = .ref q ∧ H q = none ∧ H' = upd H q (.tup (ix.map fun (j : Nat) => V.int j)), fun i _ => L.length ≤ i⟩
structure LOk (f : Nat → List Nat → Option (List Nat)) (n : Nat) (L : List (List Nat)) : Prop where
  ch : chain f n L = true
  le : ∀ ix ∈ L, ix.length ≤ 900 ∧ ∀ j ∈ ix, j < n
theorem chain_at {f : Nat → List Nat → Option (List Nat)} {n : Nat} : ∀ {L : List (List Nat)} {i : Nat} {x : List Nat}, chain f n L = true → L[i]? = some x → f n x = L[i + 1]?
  | [], i, x, _, e => by simp at e
  | [y], 0, x, h, e => by
    have : y = x := by simpa using e
    subst this
    exact of_decide_eq_true h
  | [y], i + 1, x, h, e => by simp at e
  | y :: z :: r, 0, x, h, e => by
    have : y = x := by simpa using e
    subst this
    have h2 := (Bool.and_eq_true _ _ ▸ h : _ ∧ _).1
    simpa using of_decide_eq_true h2
  | y :: z :: r, i + 1, x, h, e => by
    have h2 : chain f n (z :: r) = true := (Bool.and_eq_true _ _ ▸ h : _ ∧ _).2
    have e2 : (z :: r)[i]? = some x := by simpa using e
    have := chain_at h2 e2
    simpa using this
def TnC (it pool : Addr) (acc : Array Value) (L : List (List Nat)) (i : Nat) (h : Heap) : Prop :=
  ∃ st last ix, IsC h it pool acc st last ix ∧ ((st = 0 ∧ i = 0 ∧ L[0]? = some ix) ∨ (st = 2 ∧ L = []) ∨ (st = 1 ∧ 0 < i ∧ L[i - 1]? = some ix))
abbrev Acc (acc : Array Value) (n : Nat) : Prop := ItemsOf (fun i v => ∃ t, v = .int (0 + i * 1) t) acc n
theorem vals_picks {acc : Array Value} {n : Nat} (h : Acc acc n) : ∀ (ix : List Nat), (∀ j ∈ ix, j < n) → Vals (ix.map fun (j : Nat) => V.int j) (ix.map fun i => acc.getD i .none)
  | [], _ => .nil
  | j :: r, k => by
    have hj : j < acc.size := by rw [h.1]; exact k j (by simp)
    refine .cons ?_ (vals_picks h r fun i hi => k i (by simp [hi]))
    obtain ⟨t, e⟩ := h.2 j acc[j] (Array.getElem?_eq_getElem hj)
    refine ⟨t, ?_⟩
    have e1 : acc.getD j .none = acc[j] := by simp [Array.getD, hj]
    show acc.getD j .none = _
    rw [e1, e]
    congr 1
    omega
theorem turn_comb {P : Program} {w : World} {K : PySem.W.Frag} {tg : Expr} (it pool : Addr) {f : Nat → List Nat → Option (List Nat)} {n : Nat} {L : List (List Nat)} {acc : Array Value} (hw0 : Works Builtin.«itertools.combinations.__next__» f) (ha : Acc acc n) (hL : LOk f n L) :
    Turn P w K tg (ItC L) [it, pool] it (TnC it pool acc L) where
  mem := by simp
  obj := fun i h st b hb => by
    obtain ⟨st, last, ix, ⟨h1, h2, h3⟩, _⟩ := st
    have e : b = it ∨ b = pool := by simpa using hb
    rcases e with rfl | rfl
    · exact ⟨_, h1, fun v z => by cases z⟩
    · exact ⟨_, h2, fun v z => by cases z⟩
  keep := fun i h h' st k => by
    obtain ⟨st, last, ix, ⟨h1, h2, h3⟩, r⟩ := st
    exact ⟨st, last, ix, ⟨k it (by simp) _ h1, k pool (by simp) _ h2, h3⟩, r⟩
  item := by
    intro X hP hw hK hc i pins s σ H E I hf st hg
    subst hP hw hK
    have hg' : i < L.length := hg
    obtain ⟨f0, f1, f2, f3, f4, f5⟩ := hf it (by simp)
    obtain ⟨g0, g1, g2, g3, g4, g5⟩ := hf pool (by simp)
    obtain ⟨st, last, ix, hC, r⟩ := st
    have hT : s.TypeIs (.ref it) "itertools.combinations" := ⟨_, hC.1, rfl⟩
    obtain ⟨jx, hj⟩ : ∃ p, L[i]? = some p := ⟨L[i], List.getElem?_eq_getElem hg'⟩
    have hjl := hL.le jx (List.mem_of_getElem? hj)
    have fin : ∀ h', Given s.heap h' it pool acc jx →
        wpAny (model X.prog X.w) X.A (letOwnedTupleGo tg (.ref it) (.ref s.heap.objs.size)) (fun _ s2 => ∃ x H', Inv X pins σ H' s2 ∧ RelV x (.ref s.heap.objs.size) ∧ (ItC L).yld i H x H' ∧ TnC it pool acc L (i + 1) s2.heap ∧ ∀ b ∈ [it, pool], H' b = none) E { s with heap := h' } := by
      intro h' g
      refine go_of (s := { s with heap := h' }) g.c.1 rfl rfl (by decide) ?_
      have hfr : H s.heap.objs.size = none := I.hok.fresh (Nat.le_refl _)
      have n1 : it ≠ s.heap.objs.size := Nat.ne_of_lt (Heap.lt_size hC.1)
      have n2 : pool ≠ s.heap.objs.size := Nat.ne_of_lt (Heap.lt_size hC.2.1)
      have I1 : Inv X pins σ (upd H s.heap.objs.size (.tup (jx.map fun (j : Nat) => V.int j))) { s with heap := s.heap.push (picks acc jx), toks := s.toks } :=
        I.laid (fun c o e => Heap.get?_push_of_some _ e) (Nat.le_refl _) (show ObjOk X.prog X.w _ _ _ (.tup (jx.map fun (j : Nat) => V.int j)) from ⟨by
          have hsl : 1000 ≤ sizeLine := by decide +kernel
          simp; omega, jx.map fun i => acc.getD i .none, vals_picks ha jx hjl.2, IsTup.new _ _⟩)
      have I2 : Inv X pins σ (upd H s.heap.objs.size (.tup (jx.map fun (j : Nat) => V.int j))) { s with heap := h', toks := s.toks } :=
        I1.turned (t' := s.toks) (fun b o hb e => by
          by_cases hbq : b = s.heap.objs.size
          · subst hbq
            have e2 : (s.heap.push (picks acc jx)).get? s.heap.objs.size = some (picks acc jx) := Heap.get?_push_size _ rfl
            have e3 : some o = some (picks acc jx) := e.symm.trans e2
            rw [e3]
            exact g.q
          · exact g.k b o hb ((Heap.get?_push_ne s.heap b _ hbq).symm.trans e)) (by rw [upd_ne n1]; exact f0) f1 f3 f4 f5
      refine ⟨.ref s.heap.objs.size, _, I2, rfl, ⟨jx, _, hj, rfl, hfr, rfl⟩, ⟨1, _, jx, g.c, .inr (.inr ⟨rfl, Nat.succ_pos _, by simpa using hj⟩)⟩, ?_⟩
      intro b hb
      have e : b = it ∨ b = pool := by simpa using hb
      rcases e with rfl | rfl
      · rw [upd_ne n1]; exact f0
      · rw [upd_ne n2]; exact g0
    unfold pyNext
    refine wpAny_bind (wpAny_attempt (wpAny_callSpecial?_slot (name := Str.ofString "__next__") hT slot_next (wpAny_call_entry slot_next hT entry_next ?_ (args_next _))))
    rcases r with ⟨rfl, rfl, e⟩ | ⟨rfl, e⟩ | ⟨rfl, h0, e⟩
    · have : jx = ix := by rw [hj] at e; exact Option.some.inj e
      subst this
      exact hw0.first _ _ _ _ s it pool acc last jx hjl.1 hC fun h' g => ⟨_, rfl, wpAny_pure ⟨_, rfl, fin h' g⟩⟩
    · subst e
      simp at hg'
    · have hf1 : f acc.size ix = some jx := by
        rw [ha.1, chain_at hL.ch e, show i - 1 + 1 = i from by omega]
        exact hj
      exact hw0.next _ _ _ _ s it pool acc last ix jx hjl.1 hC hf1 fun h' g => ⟨_, rfl, wpAny_pure ⟨_, rfl, fin h' g⟩⟩
  done := by
    intro X hP hw hK hc i pins s σ H E I hf st hg
    subst hP hw hK
    have hg' : L.length ≤ i := hg
    obtain ⟨f0, f1, f2, f3, f4, f5⟩ := hf it (by simp)
    obtain ⟨st, last, ix, hC, r⟩ := st
    have hT : s.TypeIs (.ref it) "itertools.combinations" := ⟨_, hC.1, rfl⟩
    have hh := I.ok.hd hc
    unfold pyNext
    refine wpAny_bind (wpAny_attempt (wpAny_callSpecial?_slot (name := Str.ofString "__next__") hT slot_next (wpAny_call_entry slot_next hT entry_next ?_ (args_next _))))
    rcases r with ⟨rfl, rfl, e⟩ | ⟨rfl, e⟩ | ⟨rfl, h0, e⟩
    · have := List.getElem?_eq_some_iff.mp e
      obtain ⟨h1, _⟩ := this
      omega
    · refine hw0.ended _ _ _ _ s it pool acc last ix hC ?_
      refine wpAny_mono (stop_at (it := it) (h0 := s.heap) (Q := fun r s1 => r = none ∧ Inv X pins σ H s1) hh (fun _ _ _ e => e) fun h' eb => ⟨rfl, I.turned (t' := s.toks) (fun b ob hb e => eb b ob hb e) f0 f1 f3 f4 f5⟩) (fun _ _ z => z.elim) fun _ _ z => z
    · have hf1 : f acc.size ix = none := by
        rw [ha.1, chain_at hL.ch e, show i - 1 + 1 = i from by omega]
        exact List.getElem?_eq_none hg'
      refine hw0.stop _ _ _ _ s it pool acc last ix hC hf1 fun h1 hk => ?_
      refine wpAny_mono (stop_at (it := it) (h0 := h1) (Q := fun r s1 => r = none ∧ Inv X pins σ H s1) hh hk fun h' eb => ⟨rfl, I.turned (t' := s.toks) (fun b ob hb e => eb b ob hb e) f0 f1 f3 f4 f5⟩) (fun _ _ z => z.elim) fun _ _ z => z
  self := fun A i s Q E st h => by
    obtain ⟨st, last, ix, hC, r⟩ := st
    have hT : s.TypeIs (.ref it) "itertools.combinations" := ⟨_, hC.1, rfl⟩
    refine wpAny_pyIter_slot hT slot_iter (wpAny_call_entry slot_iter hT entry_iter ?_ (args_iter _))
    show wpAny _ _ (ret (.ref it)) _ _ s
    exact wpAny_pure ⟨_, rfl, "itertools.combinations", _, hT, slot_next.lookup, h⟩
theorem walk_comb {L : List (List Nat)} : Walk (ItC L) L.length (fun _ => True) (fun i H x H' => ∃ ix q, L[i]? = some ix ∧ x = .ref q ∧ H q = none ∧ H' = upd H q (.tup (ix.map fun (j : Nat) => V.int j))) :=
  ⟨fun _ _ hi _ => hi, fun _ _ => Nat.le_refl _, fun _ _ _ _ _ _ y => y⟩
end Cmb


set_option Elab.async false
set_option linter.all false
set_option maxRecDepth 100000
set_option maxHeartbeats 2000000
namespace Cmb
open PySem PySem.Spec PyProof.Rows L2
open Sem (wp)
/-- for which n and k our tables tell -/
def Cov (n k : Nat) : Prop := (n < 11 ∧ k ≤ n) ∨ (n < 43 ∧ k = 2)
theorem le_11 : (List.range 11).all (fun n => (List.range (n + 1)).all fun k => (cmb n k).all fun ix => decide (ix.length ≤ 900) && ix.all fun j => decide (j < n)) = true := by decide +kernel
theorem le_41 : (List.range 43).all (fun n => (cmb n 2).all fun ix => decide (ix.length ≤ 900) && ix.all fun j => decide (j < n)) = true := by decide +kernel
theorem cov_ok {f : Nat → List Nat → Option (List Nat)} (hf : chains f = true) {n k : Nat} (h : Cov n k) : LOk f n (cmb n k) := by
  unfold chains at hf
  rw [Bool.and_eq_true] at hf
  obtain ⟨h1, h2⟩ := hf
  have split : ((cmb n k).all fun ix => decide (ix.length ≤ 900) && ix.all fun j => decide (j < n)) = true → ∀ ix ∈ cmb n k, ix.length ≤ 900 ∧ ∀ j ∈ ix, j < n := by
    intro e ix hx
    have := List.all_eq_true.mp e ix hx
    rw [Bool.and_eq_true] at this
    exact ⟨of_decide_eq_true this.1, fun j hj => of_decide_eq_true (List.all_eq_true.mp this.2 j hj)⟩
  rcases h with ⟨a, b⟩ | ⟨a, rfl⟩
  · exact ⟨List.all_eq_true.mp (List.all_eq_true.mp h1 n (List.mem_range.mpr a)) k (List.mem_range.mpr (by omega)), split (List.all_eq_true.mp (List.all_eq_true.mp le_11 n (List.mem_range.mpr a)) k (List.mem_range.mpr (by omega)))⟩
  · exact ⟨List.all_eq_true.mp h2 n (List.mem_range.mpr a), split (List.all_eq_true.mp le_41 n (List.mem_range.mpr a))⟩
theorem cov_first {n k : Nat} (h : Cov n k) : (k > n ∧ cmb n k = []) ∨ (¬ k > n ∧ (cmb n k)[0]? = some (List.range k)) := by
  rcases h with ⟨a, b⟩ | ⟨a, rfl⟩
  · exact .inr ⟨by omega, cmb_head n a k b⟩
  · by_cases hk : 2 > n
    · exact .inl ⟨hk, cmb_none n a 2 (by omega) hk⟩
    · exact .inr ⟨hk, cmb_two n a (by omega)⟩
section
variable {prog : Program} {w : World} {A : Around} {E : Value → Shared → Prop} {s : Shared} {r : Addr} {b : Int} {t u v : Tok} {n : Nat}
theorem call_comb {Q : Value → Shared → Prop} {k : Nat} {tk0 : Tok} (hh : A.handled = none) (hr : IsRange s.heap r 0 b 1 t u v) (hsmall : Builtin.Range.small 0 b 1 = true) (hn : Builtin.Range.rangeSize 0 b 1 = n) (hlen : n ≤ 1000) (hk : k ≤ 900)
    (hQ : ∀ (h' : Heap) (tk : Nat) (acc : Array Value), (∀ b o, s.heap.get? b = some o → h'.get? b = some o) → Acc acc n →
      Q (.ref (h'.objs.size + 1)) { s with heap := (h'.push { cls := .type "tuple", data := .seq acc }).push (cObj (.ref h'.objs.size) (if k > n then 2 else 0) .none (List.range k)), toks := tk }) :
    wpAny (model prog w) A (call (.type "itertools.combinations") [.ref r, .int (k : Int) tk0]) Q E s := by
  refine callType_codes (Q₁ := fun obj s₁ => s₁.TypeIs obj "itertools.combinations" ∧ Q obj s₁) called_c (typeCall_2 _ _) F.entry_object_init
    (code_new (A := A.in1) hh hr hsmall hn hlen hk fun h' tk acc hk' hacc => ⟨⟨cObj (.ref h'.objs.size) (if k > n then 2 else 0) .none (List.range k), ?_, rfl⟩, hQ h' tk acc hk' hacc⟩) fun obj s₁ h₁ => ?_
  · have e3 : (h'.push { cls := .type "tuple", data := .seq acc }).objs.size = h'.objs.size + 1 := by simp [Heap.push]
    rw [← e3]
    exact Heap.get?_push_size _ rfl
  · exact ⟨h₁.1, F.args_object_init_3 obj _ _, object_init_meets called_c.init.lookup called_c.made (by decide) prog w A.in1 _ s₁ ⟨h₁.1, rfl, h₁.2⟩⟩
end
section
variable {X : Cx} {tg e y : Expr} {te ty : TE}
/-- the parts of k of range(n) -/
def iComb (te ty : TE) : TI := fun σ H R => te σ H fun x H1 => ∃ n : Nat, x = .int (n : Int) ∧ ty σ H1 fun z H2 => ∃ k : Nat, z = .int (k : Int) ∧ Cov n k ∧ R (ItC (cmb n k)) H2
theorem pi_comb {p p2 pos pos2 : Pos} (hc : X.calm = true) (hgc : Gl X "combinations") (hmc : X.mg "combinations" = some (.type "itertools.combinations")) (hg : Gl X "range") (hm : X.mg "range" = none) (he : PE X e te) (hy : PE X y ty)
    (na : starEach [e] X.env = (false, eval e X.env) :: starEach [] X.env := by rfl)
    (nb : starEach [.Call (.Name "range" p2) [e] [] pos2, y] X.env = (false, eval (.Call (.Name "range" p2) [e] [] pos2) X.env) :: starEach [y] X.env := by rfl)
    (nc : starEach [y] X.env = (false, eval y X.env) :: starEach [] X.env := by rfl)
    (hp : (backTo pos (starEach [y] X.env)).any (·.1) = false := by rfl) : PI X tg (.Call (.Name "combinations" p) [.Call (.Name "range" p2) [e] [] pos2, y] [] pos) (iComb te ty) := by
  refine ⟨fun pins s σ H R I h => ?_⟩
  obtain ⟨f, hw0, hch⟩ := works
  refine Call_ (ld_glob I hgc hmc (PyProof.Rows.callWith_type1 (args_cons ?_ nb) nb hp))
  refine Call_ (ld_blt I hg hm boot_range (PyProof.Rows.callWith_type1 (one_arg he I h (fun v s2 x H2 I2 r q => ?_) na) na))
  obtain ⟨n, rfl, q⟩ := q
  obtain ⟨t, rfl⟩ := r
  refine call_range_1 ?_
  let ro : Obj := { cls := Value.type "range", data := Data.fields #[Value.int 0 s2.toks, Value.int (↑n) t, Value.int 1 (s2.toks + 1)] }
  have hro : (s2.heap.push ro).get? s2.heap.objs.size = some ro := Heap.get?_push_size _ rfl
  have I3 : Inv X pins σ H2 { s2 with heap := s2.heap.push ro, toks := s2.toks + 1 + 1 } := I2.kept fun b o z => Heap.get?_push_of_some _ z
  have I4 : Inv X ((s2.heap.objs.size, ro) :: pins) σ H2 { s2 with heap := s2.heap.push ro, toks := s2.toks + 1 + 1 } := by
    refine I3.pins_of fun z hz => ?_
    rcases List.mem_cons.mp hz with rfl | hz
    · exact ⟨hro, I2.hok.fresh (Nat.le_refl _), Nat.ne_of_gt I2.lt, I2.nofs (Nat.le_refl _), fun v z => by cases z⟩
    · exact I3.pin z (List.mem_append_right _ hz)
  refine args_cons (thn (hy.run ((s2.heap.objs.size, ro) :: pins) _ σ H2 _ I4 q) fun u s3 ⟨z, H3, J, rz, q3⟩ => args_nil ?_) nc
  obtain ⟨k, rfl, hcv, q4⟩ := q3
  obtain ⟨t2, rfl⟩ := rz
  have hr3 : IsRange s3.heap s2.heap.objs.size 0 n 1 s2.toks t (s2.toks + 1) := (J.pin _ (List.mem_append_right _ (List.mem_cons_self ..))).1
  have J1 : Inv X pins σ H3 s3 := J.pins_of fun z hz => J.pin z (List.mem_append_right _ (List.mem_cons_of_mem _ hz))
  have hb : n ≤ 1000 ∧ k ≤ 900 := by rcases hcv with ⟨a, b⟩ | ⟨a, b⟩ <;> omega
  have hn : Builtin.Range.rangeSize 0 (n : Int) 1 = (n : Int) := by rw [rangeSize_nat]; omega
  refine call_comb (J1.ok.hd hc) hr3 (small_one (by omega) (by omega) (by omega) (by omega)) hn hb.1 hb.2 fun h' tk acc hk' hacc => ?_
  have e3 : (h'.push { cls := .type "tuple", data := .seq acc }).objs.size = h'.objs.size + 1 := by simp [Heap.push]
  have K0 : Inv X pins σ H3 { s3 with heap := h', toks := tk } := J1.kept hk'
  have K1 : Inv X pins σ H3 { s3 with heap := (h'.push { cls := .type "tuple", data := .seq acc }).push (cObj (.ref h'.objs.size) (if k > n then 2 else 0) .none (List.range k)), toks := tk } :=
    K0.kept fun b o z => Heap.get?_push_of_some _ (Heap.get?_push_of_some _ z)
  have T := turn_comb (P := X.prog) (w := X.w) (K := X.K) (tg := tg) (h'.objs.size + 1) h'.objs.size hw0 hacc (cov_ok hch hcv)
  have hC : IsC ((h'.push { cls := .type "tuple", data := .seq acc }).push (cObj (.ref h'.objs.size) (if k > n then 2 else 0) .none (List.range k))) (h'.objs.size + 1) h'.objs.size acc (if k > n then 2 else 0) .none (List.range k) :=
    ⟨by rw [← e3]; exact Heap.get?_push_size _ rfl, Heap.get?_push_of_some _ (Heap.get?_push_size _ rfl), Nat.succ_ne_self _⟩
  have st : TnC (h'.objs.size + 1) h'.objs.size acc (cmb n k) 0 ((h'.push { cls := .type "tuple", data := .seq acc }).push (cObj (.ref h'.objs.size) (if k > n then 2 else 0) .none (List.range k))) := by
    refine ⟨_, _, _, hC, ?_⟩
    rcases cov_first hcv with ⟨a, b⟩ | ⟨a, b⟩
    · exact .inr (.inl ⟨by rw [if_pos a], b⟩)
    · exact .inl ⟨by rw [if_neg a], rfl, b⟩
  refine T.self X.A 0 _ _ _ st ⟨h'.objs.size + 1, [h'.objs.size + 1, h'.objs.size], _, ItC (cmb n k), H3, rfl, K1, T, st, fun b hb => ?_, q4⟩
  have e : b = h'.objs.size + 1 ∨ b = h'.objs.size := by simpa using hb
  rcases e with rfl | rfl
  · exact K0.fpOk (Nat.le_succ _) (K0.hok.fresh (Nat.le_succ _))
  · exact K0.fpOk (Nat.le_refl _) (K0.hok.fresh (Nat.le_refl _))
end
end Cmb


set_option Elab.async false
set_option linter.all false
set_option maxRecDepth 100000
set_option maxHeartbeats 2000000
/-! itertools.combinations of a list. -/
namespace Cmb
open PySem PySem.Spec PyProof.Rows L2
open Sem (wp)
section
variable {prog : Program} {w : World} {A : Around} {E : Value → Shared → Prop} {s : Shared} {r : Addr}
theorem code_newL {Q₁ : Value → Shared → Prop} {k : Nat} {tk0 : Tok} (hh : A.handled = none) {vs : List Value} (hr : s.heap.IsList r vs.toArray) (hlen : vs.length ≤ 1000) (hk : k ≤ 900)
    (h : ∀ (h' : Heap) (tk : Nat) (acc : Array Value), (∀ b o, s.heap.get? b = some o → h'.get? b = some o) → acc = vs.toArray →
      Q₁ (.ref (h'.objs.size + 1)) { s with heap := (h'.push { cls := .type "tuple", data := .seq acc }).push (cObj (.ref h'.objs.size) (if k > vs.length then 2 else 0) .none (List.range k)), toks := tk }) :
    codeAny (model prog w) A (.call (.builtin "itertools.combinations.__new__") ⟨[.type "itertools.combinations", .ref r, .int (k : Int) tk0], []⟩) (wants Q₁ E) s := by
  refine codeAny_of_tree ?_
  show wpAny _ A.in1 (do checkBuiltinCall "itertools.combinations.__new__" ⟨[.type "itertools.combinations", .ref r, .int (k : Int) tk0], []⟩; again (.builtin "itertools.combinations.__new__" ⟨[.type "itertools.combinations", .ref r, .int (k : Int) tk0], []⟩)) _ _ s
  refine wpAny_bind (wpAny_of_eq (newCall_2 _ _) (wpAny_pure ⟨plainId_quiet plain_new _, codeAny_builtin entry_new ?_⟩))
  rw [Around.under_plainId plain_new _]
  have hsub := sub_c2
  have hbd := bind_2 (.ref r) (.int (k : Int) tk0)
  have hd := noDict_c
  have hTI : s.TypeIs (.ref r) "list" := hr.typeIs
  have hh1 : A.in1.handled = none := hh
  unfold Builtin.«itertools.combinations.__new__»
  repeat (first
      | wp_step
      | simp only [List.head?_cons, Option.some_or, List.getElem?_cons_succ, List.getElem?_cons_zero, List.length_cons, List.length_nil, List.forIn_nil])
  have hlo : ¬ ((decide ((k : Int) < -2 ^ 63) || decide ((k : Int) ≥ 2 ^ 63)) = true) := by
    rw [decide_eq_false (by omega), decide_eq_false (by omega)]
    exact Bool.false_ne_true
  rw [if_neg hlo]
  refine wpAny_pure ?_
  have hsl0 : 1000 ≤ sizeLine := by decide +kernel
  refine wpAny_bind (collect_list hr ?_ (by omega))
  generalize hH : (s.heap.push (seqObj "list" #[] 0)).update s.heap.objs.size (Obj.mapSeq (· ++ vs.toArray)) = h'
  have hk' : ∀ b o, s.heap.get? b = some o → h'.get? b = some o := fun b o e => by
    rw [← hH, (Heap.SameBut.update (s.heap.push (seqObj "list" #[] 0)) s.heap.objs.size (Obj.mapSeq (· ++ vs.toArray))).2 b (Nat.ne_of_lt (Heap.lt_size e))]
    exact Heap.get?_push_of_some _ e
  generalize hacc : vs.toArray = acc
  have hvs : vs = acc.toList := by rw [← hacc]
  have htm : ¬ (Builtin.Itertools.itTooMany (k : Int) = true) := by
    unfold Builtin.Itertools.itTooMany
    rw [decide_eq_false (by omega)]
    exact Bool.false_ne_true
  rw [if_neg (by omega), if_neg htm]
  have hsz : acc.toList.length = vs.length := by rw [← hvs]
  rw [hvs]
  refine wpAny_bind (wpAny_newTuple ?_)
  refine wpAny_pure ?_
  have e1 : acc.toList.toArray = acc := by simp
  have hnr : ∀ (fs : List Value), Builtin.Itertools.itNewRecord (.type "itertools.combinations") fs = newObj (.type "itertools.combinations") (.fields fs.toArray) := by
    intro fs
    unfold Builtin.Itertools.itNewRecord
    rw [hd]
    simp
  show wpAny _ _ (Builtin.Itertools.itNewRecord (.type "itertools.combinations") _ >>= _) _ _ _
  rw [hnr]
  have e3 : ∀ (x : Obj), (h'.push x).objs.size = h'.objs.size + 1 := fun x => by simp [Heap.push]
  have hsl : 1000 ≤ sizeLine := by decide +kernel
  refine wpAny_bind (wpAny_newObj_type ?_ ?_)
  · have := h h' s.toks acc hk' hacc.symm
    refine wpAny_pure ?_
    show Q₁ (.ref ((h'.push { cls := .type "tuple", data := .seq acc.toList.toArray }).objs.size)) { s with heap := (h'.push { cls := .type "tuple", data := .seq acc.toList.toArray }).push { cls := .type "itertools.combinations", data := .fields ([.ref h'.objs.size, rawInt (if (k:Int).toNat > acc.toList.length then 2 else 0), .none] ++ (List.range (k:Int).toNat).map (fun (i:Nat) => rawInt i)).toArray }, toks := s.toks }
    rw [e3, e1, hsz, Int.toNat_natCast]
    exact this
  · simp only [sizeOk]
    simp
    omega
theorem call_combL {Q : Value → Shared → Prop} {k : Nat} {tk0 : Tok} (hh : A.handled = none) {vs : List Value} (hr : s.heap.IsList r vs.toArray) (hlen : vs.length ≤ 1000) (hk : k ≤ 900)
    (hQ : ∀ (h' : Heap) (tk : Nat) (acc : Array Value), (∀ b o, s.heap.get? b = some o → h'.get? b = some o) → acc = vs.toArray →
      Q (.ref (h'.objs.size + 1)) { s with heap := (h'.push { cls := .type "tuple", data := .seq acc }).push (cObj (.ref h'.objs.size) (if k > vs.length then 2 else 0) .none (List.range k)), toks := tk }) :
    wpAny (model prog w) A (call (.type "itertools.combinations") [.ref r, .int (k : Int) tk0]) Q E s := by
  refine callType_codes (Q₁ := fun obj s₁ => s₁.TypeIs obj "itertools.combinations" ∧ Q obj s₁) called_c (typeCall_2 _ _) F.entry_object_init
    (code_newL (A := A.in1) hh hr hlen hk fun h' tk acc hk' hacc => ⟨⟨cObj (.ref h'.objs.size) (if k > vs.length then 2 else 0) .none (List.range k), ?_, rfl⟩, hQ h' tk acc hk' hacc⟩) fun obj s₁ h₁ => ?_
  · have e3 : (h'.push { cls := .type "tuple", data := .seq acc }).objs.size = h'.objs.size + 1 := by simp [Heap.push]
    rw [← e3]
    exact Heap.get?_push_size _ rfl
  · exact ⟨h₁.1, F.args_object_init_3 obj _ _, object_init_meets called_c.init.lookup called_c.made (by decide) prog w A.in1 _ s₁ ⟨h₁.1, rfl, h₁.2⟩⟩
end
/-- the parts of L of the things xs, each as a new tuple -/
def ItX (xs : List V) (L : List (List Nat)) : It := ⟨fun i _ => i < L.length, fun i H x H' => ∃ ix q, L[i]? = some ix ∧ x = .ref q ∧ H q = none ∧ H' = upd H q (.tup (ix.map fun (j : Nat) => xs.getD j V.non)), fun i _ => L.length ≤ i⟩
theorem vals_at : ∀ {xs : List V} {us : List Value}, Vals xs us → ∀ j, j < xs.length → RelV (xs.getD j V.non) (us.getD j Value.none)
  | _, _, .nil, j, h => absurd h (Nat.not_lt_zero _)
  | _, _, .cons r t, 0, _ => r
  | _, _, .cons r t, j + 1, h => vals_at t j (Nat.lt_of_succ_lt_succ h)
theorem vals_picksX {xs : List V} {us : List Value} (h : Vals xs us) : ∀ (ix : List Nat), (∀ j ∈ ix, j < xs.length) → Vals (ix.map fun (j : Nat) => xs.getD j V.non) (ix.map fun i => us.toArray.getD i .none)
  | [], _ => .nil
  | j :: r, k => by
    refine .cons ?_ (vals_picksX h r fun i hi => k i (by simp [hi]))
    have := vals_at h j (k j (by simp))
    have e : us.toArray.getD j Value.none = us.getD j Value.none := by simp [List.getD]
    show RelV (xs.getD j V.non) (us.toArray.getD j Value.none)
    rw [e]; exact this
theorem turn_combX {P : Program} {w : World} {K : PySem.W.Frag} {tg : Expr} (it pool : Addr) {f : Nat → List Nat → Option (List Nat)} {n : Nat} {L : List (List Nat)} {xs : List V} {us : List Value} (hw0 : Works Builtin.«itertools.combinations.__next__» f) (ha : Vals xs us) (hn : n = xs.length) (hL : LOk f n L) :
    Turn P w K tg (ItX xs L) [it, pool] it (TnC it pool us.toArray L) where
  mem := by simp
  obj := fun i h st b hb => by
    obtain ⟨st, last, ix, ⟨h1, h2, h3⟩, _⟩ := st
    have e : b = it ∨ b = pool := by simpa using hb
    rcases e with rfl | rfl
    · exact ⟨_, h1, fun v z => by cases z⟩
    · exact ⟨_, h2, fun v z => by cases z⟩
  keep := fun i h h' st k => by
    obtain ⟨st, last, ix, ⟨h1, h2, h3⟩, r⟩ := st
    exact ⟨st, last, ix, ⟨k it (by simp) _ h1, k pool (by simp) _ h2, h3⟩, r⟩
  item := by
    intro X hP hw hK hc i pins s σ H E I hf st hg
    subst hP hw hK
    have hg' : i < L.length := hg
    obtain ⟨f0, f1, f2, f3, f4, f5⟩ := hf it (by simp)
    obtain ⟨g0, g1, g2, g3, g4, g5⟩ := hf pool (by simp)
    obtain ⟨st, last, ix, hC, r⟩ := st
    have hT : s.TypeIs (.ref it) "itertools.combinations" := ⟨_, hC.1, rfl⟩
    obtain ⟨jx, hj⟩ : ∃ p, L[i]? = some p := ⟨L[i], List.getElem?_eq_getElem hg'⟩
    have hjl := hL.le jx (List.mem_of_getElem? hj)
    have fin : ∀ h', Given s.heap h' it pool us.toArray jx →
        wpAny (model X.prog X.w) X.A (letOwnedTupleGo tg (.ref it) (.ref s.heap.objs.size)) (fun _ s2 => ∃ x H', Inv X pins σ H' s2 ∧ RelV x (.ref s.heap.objs.size) ∧ (ItX xs L).yld i H x H' ∧ TnC it pool us.toArray L (i + 1) s2.heap ∧ ∀ b ∈ [it, pool], H' b = none) E { s with heap := h' } := by
      intro h' g
      refine go_of (s := { s with heap := h' }) g.c.1 rfl rfl (by decide) ?_
      have hfr : H s.heap.objs.size = none := I.hok.fresh (Nat.le_refl _)
      have n1 : it ≠ s.heap.objs.size := Nat.ne_of_lt (Heap.lt_size hC.1)
      have n2 : pool ≠ s.heap.objs.size := Nat.ne_of_lt (Heap.lt_size hC.2.1)
      have I1 : Inv X pins σ (upd H s.heap.objs.size (.tup (jx.map fun (j : Nat) => xs.getD j V.non))) { s with heap := s.heap.push (picks us.toArray jx), toks := s.toks } :=
        I.laid (fun c o e => Heap.get?_push_of_some _ e) (Nat.le_refl _) (show ObjOk X.prog X.w _ _ _ (.tup (jx.map fun (j : Nat) => xs.getD j V.non)) from ⟨by
          have hsl : 1000 ≤ sizeLine := by decide +kernel
          simp; omega, jx.map fun i => us.toArray.getD i .none, vals_picksX ha jx (fun j hj => hn ▸ hjl.2 j hj), IsTup.new _ _⟩)
      have I2 : Inv X pins σ (upd H s.heap.objs.size (.tup (jx.map fun (j : Nat) => xs.getD j V.non))) { s with heap := h', toks := s.toks } :=
        I1.turned (t' := s.toks) (fun b o hb e => by
          by_cases hbq : b = s.heap.objs.size
          · subst hbq
            have e2 : (s.heap.push (picks us.toArray jx)).get? s.heap.objs.size = some (picks us.toArray jx) := Heap.get?_push_size _ rfl
            have e3 : some o = some (picks us.toArray jx) := e.symm.trans e2
            rw [e3]
            exact g.q
          · exact g.k b o hb ((Heap.get?_push_ne s.heap b _ hbq).symm.trans e)) (by rw [upd_ne n1]; exact f0) f1 f3 f4 f5
      refine ⟨.ref s.heap.objs.size, _, I2, rfl, ⟨jx, _, hj, rfl, hfr, rfl⟩, ⟨1, _, jx, g.c, .inr (.inr ⟨rfl, Nat.succ_pos _, by simpa using hj⟩)⟩, ?_⟩
      intro b hb
      have e : b = it ∨ b = pool := by simpa using hb
      rcases e with rfl | rfl
      · rw [upd_ne n1]; exact f0
      · rw [upd_ne n2]; exact g0
    unfold pyNext
    refine wpAny_bind (wpAny_attempt (wpAny_callSpecial?_slot (name := Str.ofString "__next__") hT slot_next (wpAny_call_entry slot_next hT entry_next ?_ (args_next _))))
    rcases r with ⟨rfl, rfl, e⟩ | ⟨rfl, e⟩ | ⟨rfl, h0, e⟩
    · have : jx = ix := by rw [hj] at e; exact Option.some.inj e
      subst this
      exact hw0.first _ _ _ _ s it pool us.toArray last jx hjl.1 hC fun h' g => ⟨_, rfl, wpAny_pure ⟨_, rfl, fin h' g⟩⟩
    · subst e
      simp at hg'
    · have hf1 : f us.toArray.size ix = some jx := by
        rw [show us.toArray.size = n by rw [List.size_toArray, ← ha.length, hn], chain_at hL.ch e, show i - 1 + 1 = i from by omega]
        exact hj
      exact hw0.next _ _ _ _ s it pool us.toArray last ix jx hjl.1 hC hf1 fun h' g => ⟨_, rfl, wpAny_pure ⟨_, rfl, fin h' g⟩⟩
  done := by
    intro X hP hw hK hc i pins s σ H E I hf st hg
    subst hP hw hK
    have hg' : L.length ≤ i := hg
    obtain ⟨f0, f1, f2, f3, f4, f5⟩ := hf it (by simp)
    obtain ⟨st, last, ix, hC, r⟩ := st
    have hT : s.TypeIs (.ref it) "itertools.combinations" := ⟨_, hC.1, rfl⟩
    have hh := I.ok.hd hc
    unfold pyNext
    refine wpAny_bind (wpAny_attempt (wpAny_callSpecial?_slot (name := Str.ofString "__next__") hT slot_next (wpAny_call_entry slot_next hT entry_next ?_ (args_next _))))
    rcases r with ⟨rfl, rfl, e⟩ | ⟨rfl, e⟩ | ⟨rfl, h0, e⟩
    · have := List.getElem?_eq_some_iff.mp e
      obtain ⟨h1, _⟩ := this
      omega
    · refine hw0.ended _ _ _ _ s it pool us.toArray last ix hC ?_
      refine wpAny_mono (stop_at (it := it) (h0 := s.heap) (Q := fun r s1 => r = none ∧ Inv X pins σ H s1) hh (fun _ _ _ e => e) fun h' eb => ⟨rfl, I.turned (t' := s.toks) (fun b ob hb e => eb b ob hb e) f0 f1 f3 f4 f5⟩) (fun _ _ z => z.elim) fun _ _ z => z
    · have hf1 : f us.toArray.size ix = none := by
        rw [show us.toArray.size = n by rw [List.size_toArray, ← ha.length, hn], chain_at hL.ch e, show i - 1 + 1 = i from by omega]
        exact List.getElem?_eq_none hg'
      refine hw0.stop _ _ _ _ s it pool us.toArray last ix hC hf1 fun h1 hk => ?_
      refine wpAny_mono (stop_at (it := it) (h0 := h1) (Q := fun r s1 => r = none ∧ Inv X pins σ H s1) hh hk fun h' eb => ⟨rfl, I.turned (t' := s.toks) (fun b ob hb e => eb b ob hb e) f0 f1 f3 f4 f5⟩) (fun _ _ z => z.elim) fun _ _ z => z
  self := fun A i s Q E st h => by
    obtain ⟨st, last, ix, hC, r⟩ := st
    have hT : s.TypeIs (.ref it) "itertools.combinations" := ⟨_, hC.1, rfl⟩
    refine wpAny_pyIter_slot hT slot_iter (wpAny_call_entry slot_iter hT entry_iter ?_ (args_iter _))
    show wpAny _ _ (ret (.ref it)) _ _ s
    exact wpAny_pure ⟨_, rfl, "itertools.combinations", _, hT, slot_next.lookup, h⟩
theorem walk_combX {xs : List V} {L : List (List Nat)} : Walk (ItX xs L) L.length (fun _ => True) (fun i H x H' => ∃ ix q, L[i]? = some ix ∧ x = .ref q ∧ H q = none ∧ H' = upd H q (.tup (ix.map fun (j : Nat) => xs.getD j V.non))) :=
  ⟨fun _ _ hi _ => hi, fun _ _ => Nat.le_refl _, fun _ _ _ _ _ _ y => y⟩
section
variable {X : Cx} {tg e y : Expr} {te ty : TE}
/-- the parts of k of a list -/
def iCombX (K : PySem.W.Frag) (te ty : TE) : TI := fun σ H R => te σ H fun x H1 => ty σ H1 fun z H2 => ∃ (a : Addr) (xs : List V) (k : Nat), x = .ref a ∧ SqL K H2 a xs ∧ z = .int (k : Int) ∧ Cov xs.length k ∧ R (ItX xs (cmb xs.length k)) H2
theorem pi_combX {p pos : Pos} (hc : X.calm = true) (hgc : Gl X "combinations") (hmc : X.mg "combinations" = some (.type "itertools.combinations")) (he : PE X e te) (hy : PE X y ty)
    (nb : starEach [e, y] X.env = (false, eval e X.env) :: starEach [y] X.env := by rfl)
    (nc : starEach [y] X.env = (false, eval y X.env) :: starEach [] X.env := by rfl)
    (hp : (backTo pos (starEach [y] X.env)).any (·.1) = false := by rfl) : PI X tg (.Call (.Name "combinations" p) [e, y] [] pos) (iCombX X.K te ty) := by
  refine ⟨fun pins s σ H R I h => ?_⟩
  obtain ⟨f, hw0, hch⟩ := works
  refine Call_ (ld_glob I hgc hmc (PyProof.Rows.callWith_type1 (args_cons (thn (he.run pins _ σ H _ I h) fun u0 s2 ⟨x, H2, I2, r, q⟩ => ?_) nb) nb hp))
  refine args_cons (thn (hy.run pins _ σ H2 _ I2 q) fun u s3 ⟨z, H3, J1, rz, q3⟩ => args_nil ?_) nc
  obtain ⟨a, xs, k, rfl, hs, rfl, hcv, q4⟩ := q3
  obtain ⟨t2, rfl⟩ := rz
  cases r
  obtain ⟨its, rv, hl, hz⟩ := J1.list hs
  have hlen := rv.length
  have hb : xs.length ≤ 1000 ∧ k ≤ 900 := by rcases hcv with ⟨a, b⟩ | ⟨a, b⟩ <;> omega
  refine call_combL (J1.ok.hd hc) hl.isList (by omega) hb.2 fun h' tk acc hk' hacc => ?_
  subst hacc
  rw [← hlen]
  have e3 : (h'.push { cls := .type "tuple", data := .seq its.toArray }).objs.size = h'.objs.size + 1 := by simp [Heap.push]
  have K0 : Inv X pins σ H3 { s3 with heap := h', toks := tk } := J1.kept hk'
  have K1 : Inv X pins σ H3 { s3 with heap := (h'.push { cls := .type "tuple", data := .seq its.toArray }).push (cObj (.ref h'.objs.size) (if k > xs.length then 2 else 0) .none (List.range k)), toks := tk } :=
    K0.kept fun b o z => Heap.get?_push_of_some _ (Heap.get?_push_of_some _ z)
  have T := turn_combX (P := X.prog) (w := X.w) (K := X.K) (tg := tg) (h'.objs.size + 1) h'.objs.size hw0 rv rfl (cov_ok hch hcv)
  have hC : IsC ((h'.push { cls := .type "tuple", data := .seq its.toArray }).push (cObj (.ref h'.objs.size) (if k > xs.length then 2 else 0) .none (List.range k))) (h'.objs.size + 1) h'.objs.size its.toArray (if k > xs.length then 2 else 0) .none (List.range k) :=
    ⟨by rw [← e3]; exact Heap.get?_push_size _ rfl, Heap.get?_push_of_some _ (Heap.get?_push_size _ rfl), Nat.succ_ne_self _⟩
  have st : TnC (h'.objs.size + 1) h'.objs.size its.toArray (cmb xs.length k) 0 ((h'.push { cls := .type "tuple", data := .seq its.toArray }).push (cObj (.ref h'.objs.size) (if k > xs.length then 2 else 0) .none (List.range k))) := by
    refine ⟨_, _, _, hC, ?_⟩
    rcases cov_first hcv with ⟨a, b⟩ | ⟨a, b⟩
    · exact .inr (.inl ⟨by rw [if_pos a], b⟩)
    · exact .inl ⟨by rw [if_neg a], rfl, b⟩
  refine T.self X.A 0 _ _ _ st ⟨h'.objs.size + 1, [h'.objs.size + 1, h'.objs.size], _, ItX xs (cmb xs.length k), H3, rfl, K1, T, st, fun b hb => ?_, q4⟩
  have e : b = h'.objs.size + 1 ∨ b = h'.objs.size := by simpa using hb
  rcases e with rfl | rfl
  · exact K0.fpOk (Nat.le_succ _) (K0.hok.fresh (Nat.le_succ _))
  · exact K0.fpOk (Nat.le_refl _) (K0.hok.fresh (Nat.le_refl _))
theorem pi_combXK {K : PySem.W.Frag} (hK : X.K = K) {p pos : Pos} (hc : X.calm = true) (hgc : Gl X "combinations") (hmc : X.mg "combinations" = some (.type "itertools.combinations")) (he : PE X e te) (hy : PE X y ty)
    (nb : starEach [e, y] X.env = (false, eval e X.env) :: starEach [y] X.env := by rfl)
    (nc : starEach [y] X.env = (false, eval y X.env) :: starEach [] X.env := by rfl)
    (hp : (backTo pos (starEach [y] X.env)).any (·.1) = false := by rfl) : PI X tg (.Call (.Name "combinations" p) [e, y] [] pos) (iCombX K te ty) := by subst hK; exact pi_combX hc hgc hmc he hy nb nc hp
end
end Cmb


set_option Elab.async false
set_option linter.all false
set_option maxRecDepth 100000
set_option maxHeartbeats 4000000
/-! k30: _fates. -/
namespace K1
open PySem PySem.Spec PyProof.Rows L2 RZ
theorem lo_it {J : It} {n : Nat} {G : Hp → Prop} {Y : Nat → Hp → V → Hp → Prop} (w : Walk J n G Y) {B : (Hp → Prop) → V → Hp → Prop} {H0 : Hp} {Qd : Hp → Prop} (Pv : Nat → Hp → Prop) (h0 : Pv 0 H0) (hG : ∀ i H, i ≤ n → Pv i H → G H)
    (hs : ∀ i x H H', i < n → Pv i H → Y i H x H' → B (Pv (i + 1)) x H') (hd : ∀ H, Pv n H → Qd H) :
    ∃ W : Nat → Nat → Hp → Prop, (∃ m, W 0 m H0) ∧ ∀ i m H, W i m H →
      (J.stop i H ∧ Qd H) ∨ (J.go i H ∧ ∃ Nx : Hp → Prop, (∀ H', Nx H' → ∃ m', m' < m ∧ W (i + 1) m' H') ∧ ∀ x H', J.yld i H x H' → B Nx x H') := by
  refine ⟨fun i m H => m = n - i ∧ i ≤ n ∧ Pv i H, ⟨n, by simp, Nat.zero_le _, h0⟩, ?_⟩
  rintro i m H ⟨rfl, hi, p⟩
  have q := hG i H hi p
  by_cases hlt : i < n
  · refine .inr ⟨w.goes i H hlt q, Pv (i + 1), fun H' p' => ⟨n - (i + 1), by omega, rfl, hlt, p'⟩, fun x H' y => hs i x H H' hlt p (w.yields i H x H' hlt q y)⟩
  · have e : i = n := by omega
    subst e
    exact .inl ⟨w.stops H q, hd H p⟩
abbrev Pr := Int × Int
def prD (x : Pr) : PyData := .tuple [.int x.1, .int x.2]
def fateD (f : List Pr) : PyData := .tuple (f.map prD)
def FtA (H : Hp) (xs : List V) (fs : List (List Pr)) : Prop := A2 (fun x f => ∃ t zs, x = .ref t ∧ H t = some (.tup zs) ∧ PrA H zs f) xs fs
theorem FtA.tu {H G : Hp} {xs : List V} {fs : List (List Pr)} (h : FtA H xs fs) (t : TU H G) : FtA G xs fs := A2.imp (fun _ _ ⟨a, zs, e, k, p⟩ => ⟨a, zs, e, t _ _ k, p.tu t⟩) h
theorem PrA.dv {H : Hp} : ∀ {xs : List V} {f : List Pr}, PrA H xs f → DvA H xs (f.map prD)
  | _, _, .nil => .nil
  | _, _, .cons ⟨t, e, h⟩ r => by subst e; exact .cons (.tup h (.cons (.int _) (.cons (.int _) .nil))) (PrA.dv r)
theorem FtA.dv {H : Hp} : ∀ {xs : List V} {f : List (List Pr)}, FtA H xs f → DvA H xs (f.map fateD)
  | _, _, .nil => .nil
  | _, _, .cons ⟨t, zs, e, h, p⟩ r => by subst e; exact .cons (.tup h (PrA.dv p)) (FtA.dv r)
theorem PrA.of {H : Hp} : ∀ {f : List Pr} {xs : List V}, DvA H xs (f.map prD) → PrA H xs f
  | [], _, h => by cases h; exact .nil
  | x :: r, _, h => by
    cases h with
    | cons h1 h2 =>
      cases h1 with
      | tup e k =>
        cases k with
        | cons a k =>
          cases k with
          | cons b k =>
            cases k
            cases a
            cases b
            exact .cons ⟨_, rfl, e⟩ (PrA.of h2)
theorem FtA.of {H : Hp} : ∀ {f : List (List Pr)} {xs : List V}, DvA H xs (f.map fateD) → FtA H xs f
  | [], _, h => by cases h; exact .nil
  | x :: r, _, h => by
    cases h with
    | cons h1 h2 =>
      cases h1 with
      | tup e k => exact .cons ⟨_, _, rfl, e, PrA.of k⟩ (FtA.of h2)
def unP : PyData → Pr
  | .tuple [.int a, .int b] => (a, b)
  | _ => (0, 0)
def unF : PyData → List Pr
  | .tuple xs => xs.map unP
  | _ => []
theorem unF_fate (f : List Pr) : unF (fateD f) = f := by
  show (f.map prD).map unP = f
  rw [List.map_map]
  exact List.map_id'' (fun x => rfl) f
theorem perm_fates {es : List PyData} {L : List (List Pr)} (h : es.Perm (L.map fateD)) : ∃ fs : List (List Pr), fs.Perm L ∧ es = fs.map fateD := by
  refine ⟨es.map unF, ?_, ?_⟩
  · have := h.map unF
    rw [List.map_map] at this
    rwa [show (unF ∘ fateD) = id from funext unF_fate, List.map_id] at this
  · rw [List.map_map]
    have : ∀ e ∈ es, fateD (unF e) = e := fun e he => by
      obtain ⟨f, _, rfl⟩ := List.mem_map.mp (h.mem_iff.mp he)
      rw [unF_fate]
    rw [List.map_congr_left (f := fateD ∘ unF) (g := id) this, List.map_id]
theorem _root_.L2.Room.u66 {k : Nat} {A : Around} (r : Room k A) : A.units + 66 < cLine := by have := r.un; omega
def singlesD (ls : List Int) (n : Nat) : List Pr := ls.flatMap fun l => (List.range n).map fun (m : Nat) => (l, (m : Int))
def pairD (S : List Pr) (ix : List Nat) : Option (List Pr) := if (S.getD (ix.getD 0 0) (0, 0)).1 < (S.getD (ix.getD 1 0) (0, 0)).1 then some [S.getD (ix.getD 0 0) (0, 0), S.getD (ix.getD 1 0) (0, 0)] else none
def pairsD (S : List Pr) : List (List Pr) := (Cmb.cmb S.length 2).filterMap (pairD S)
def fatesD (ls : List Int) (n : Nat) (k : Int) : List (List Pr) :=
  [] :: ((if 1 ≤ k then (singlesD ls n).map (fun x => [x]) else []) ++ (if 2 ≤ k then pairsD (singlesD ls n) else []))
theorem singles_len (n : Nat) : ∀ ls : List Int, (singlesD ls n).length = ls.length * n
  | [] => by simp [singlesD]
  | l :: r => by
    have := singles_len n r
    unfold singlesD at this ⊢
    rw [List.flatMap_cons, List.length_append, List.length_map, List.length_range, this, List.length_cons, Nat.succ_mul, Nat.add_comm]
theorem cmb_pairB : (List.range 43).all (fun n => (Cmb.cmb n 2).all fun ix => match ix with | [u, v] => decide (u < n) && decide (v < n) | _ => false) = true := by decide +kernel
theorem cmb_pair (n : Nat) (h : n < 43) (ix : List Nat) (hx : ix ∈ Cmb.cmb n 2) : ∃ u v, ix = [u, v] ∧ u < n ∧ v < n := by
  have := List.all_eq_true.mp (List.all_eq_true.mp cmb_pairB n (List.mem_range.mpr h)) ix hx
  match ix, this with
  | [u, v], this =>
    simp only [Bool.and_eq_true, decide_eq_true_eq] at this
    exact ⟨u, v, rfl, this.1, this.2⟩
theorem cmb_len : ∀ n < 43, (Cmb.cmb n 2).length ≤ 861 := by decide +kernel
theorem fates_len (ls : List Int) (n : Nat) (k : Int) (h : (singlesD ls n).length ≤ 42) : (fatesD ls n k).length ≤ 1000 := by
  unfold fatesD
  rw [List.length_cons, List.length_append]
  have h1 : (if 1 ≤ k then (singlesD ls n).map (fun x => [x]) else []).length ≤ 42 := by
    split
    · rw [List.length_map]; exact h
    · simp
  have h2 : (if 2 ≤ k then pairsD (singlesD ls n) else []).length ≤ 861 := by
    split
    · exact Nat.le_trans (List.length_filterMap_le _ _) (cmb_len _ (by omega))
    · simp
  omega
theorem pr_depth : ∀ f : List Pr, PyData.depthAll (f.map prD) ≤ 60
  | [] => by decide
  | x :: r => by
    have := pr_depth r
    show max 1 (PyData.depthAll (r.map prD)) ≤ 60
    omega
theorem pr_nodic (f : List Pr) : noDic (fateD f) = true := by
  show noDicA (f.map prD) = true
  induction f with
  | nil => rfl
  | cons x r ih => show ((true && (true && true)) && noDicA (r.map prD)) = true; rw [ih]; rfl
theorem pr_alike : ∀ f g : List Pr, PySem.W.alikeAll (f.map prD) (g.map prD) = true
  | [], _ => by simp [PySem.W.alikeAll]
  | _ :: _, [] => by simp [PySem.W.alikeAll]
  | x :: r, y :: t => by
    rw [List.map_cons, List.map_cons, PySem.W.alikeAll, pr_alike r t]
    rfl
abbrev sFt : Stmt := st__fates
abbrev nFt : List Str := ["row", "loose", "k", "singles", "fates", "letter", "moment", "single", "one", "other"]
abbrev pFt : List Str := ["row", "loose", "k"]
theorem scFt : FnScope nFt pFt (defScope sFt) := ⟨rfl, rfl, rfl, by decide +kernel, rfl, by decide +kernel, by decide +kernel⟩
def spFt : Sp := fun vs H Q _ => ∃ (a lo : Addr) (xs : List V) (ls : List Int) (k : Int), vs = [.ref a, .ref lo, .int k] ∧ SeqH H a xs ∧ H lo = some (.tup (ls.map V.int)) ∧ (singlesD ls xs.length).length ≤ 42 ∧ xs.length ≤ 8 ∧
  ∀ H' D ys fs, Same H H' → H D = none → H' D = some (.lst ys) → FtA H' ys fs → fs.Perm (fatesD ls xs.length k) → InOrd (fs.map fateD) → Q (.ref D) H'
section
variable {P : Program} {w : World} {K : PySem.W.Frag} {mg : Str → Option Value} {base : Heap} {C : Addr}
theorem ok_ft {f : Addr} {fd : FuncData} (T : Bj mg) (PM : mg "combinations" = some (.type "itertools.combinations")) (F : Fun K "_fates" "_fates" sFt f fd) : FnOk P w K mg base CX0 1 f fd pFt spFt := by
  have nd := scFt.nd
  refine F.ok scFt (fun vs H Q E h => ?_) (fun cdv A outer s H vs Q E hr h => ?_)
  · obtain ⟨a, lo, xs, ls, k, rfl, _⟩ := h
    rfl
  · obtain ⟨a, lo, xs, ls, k, rfl, ha, hlo, l40, l8, q⟩ := h
    refine ⟨_, (pss_cons (ps_setLc2 (i := 3) (own := [("letter", 5), ("moment", 6)]) (vs1 := [6]) (g := gName 5) (g1 := gName 6) (tt := tYes) (tt1 := tYes) rfl nd rfl rfl (sw_true rfl rfl rfl (by decide +kernel)) (pi_tupK (K := K) rfl (pv 1)) (blkOk_by (own := [("letter", 5), ("moment", 6)]) (N := nFt) (sc := defScope sFt) (by decide +kernel)) (by decide) (fun _ _ _ _ _ => pg_name (i := 5) nd rfl (Or.inl rfl)) (fun _ _ _ _ _ => pts_nil) (fun _ _ _ _ _ => pi_range1 rfl T.range (pa_cons (pe_callB (call_lenK (K := K) rfl) (by rfl) T.len PySem.boot_len (pa_cons (pv 0) pa_nil)) pa_nil)) (fun _ _ _ _ _ => pg_name (i := 6) nd rfl (Or.inl rfl)) (fun _ _ _ _ _ => pts_nil) (fun _ _ _ _ _ => (pe_tup (pa_cons (pv 5) (pa_cons (pv 6) pa_nil)))))
 (pss_cons (ps_set (i := 4) nd rfl (Or.inl rfl) (pe_lst (pa_cons (pe_tup pa_nil) pa_nil)))
 (C8.pss_cut (ps_if (pt_cmpR op_ge (pv 2) pe_int (nomark _)) (pss_one (ps_expr (pe_bm PySem.F.plainAttrs_list PySem.F.slot_list_extend PySem.F.type_list_extend mt_extend (pv 4) (pa_cons (pe_lc (own := [("single", 7)]) (g := gName 7) (tt := tYes) rfl nd (pi_listK (K := K) rfl (pv 3)) (blkOk_by (own := [("single", 7)]) (N := nFt) (sc := defScope sFt) (by decide +kernel)) (fun _ _ _ _ _ => pg_name (i := 7) nd rfl (Or.inl rfl)) (fun _ _ _ _ _ => pts_nil) (fun _ _ _ _ _ => pe_tup (pa_cons (pv 7) pa_nil))) pa_nil)))) pss_nil)
 (C8.pss_cut (ps_if (pt_cmpR op_ge (pv 2) pe_int (nomark _)) (pss_one (ps_expr (pe_bm PySem.F.plainAttrs_list PySem.F.slot_list_extend PySem.F.type_list_extend mt_extend (pv 4) (pa_cons (pe_lc (own := [("one", 8), ("other", 9)]) (g := gTup K 2 (gCons (gName 8) (gCons (gName 9) gNil))) rfl nd (Cmb.pi_combXK (K := K) rfl rfl rfl PM (pv 3) pe_int) (blkOk_by (own := [("one", 8), ("other", 9)]) (N := nFt) (sc := defScope sFt) (by decide +kernel)) (fun _ _ _ _ _ => pg_tup rfl (pgs_cons (pg_name (i := 8) nd rfl (Or.inl rfl)) (pgs_cons (pg_name (i := 9) nd rfl (Or.inl rfl)) pgs_nil))) (fun _ _ _ _ _ => pts_one (pt_cmpR op_lt (pe_ix (ix_tupK (K := K) rfl) (pv 8) pe_int (fun _ _ => rfl)) (pe_ix (ix_tupK (K := K) rfl) (pv 9) pe_int (fun _ _ => rfl)) (nomark _))) (fun _ _ _ _ _ => pe_tup (pa_cons (pv 8) (pa_cons (pv 9) pa_nil)))) pa_nil)))) pss_nil)
 (pss_one (ps_ret (pe_callB (cr_sortTK (K := K) rfl (Room.u66 hr)) (by rfl) T.sorted PyProof.Rows.boot_sorted (pa_cons (pv 4) pa_nil)))))))), ?_⟩
    have lcs : ∀ i, ((ls.take i).flatMap fun l => (List.range xs.length).map fun (m : Nat) => (l, (m : Int))) = singlesD (ls.take i) xs.length := fun i => rfl
    refine ⟨_, rfl, lo, rfl, ⟨_, st hlo⟩, fun S nS => ?_⟩
    refine lo_it (walk_tup (K := K) (a := lo) (xs := ls.map V.int)) (fun i G => Same H G ∧ ∃ acc, G S = some (.lst acc) ∧ PrA G acc (singlesD (ls.take i) xs.length)) ⟨same_new nS, [], upd_same, .nil⟩ (fun i G _ h => st (h.1 _ _ hlo)) ?_ ?_
    · rintro i x G G' hi ⟨s1, acc0, hS, hA0⟩ ⟨rfl, hx⟩
      rw [List.getElem?_map] at hx
      cases hli : ls[i]? with
      | none => rw [hli] at hx; cases hx
      | some l =>
      rw [hli] at hx
      cases hx
      refine ⟨rfl, tyes ⟨_, rfl, a, xs, rfl, (ha.same s1).len, _, rfl, by omega, by omega, ?_⟩⟩
      refine lo_it walk_range (fun j N => Same H N ∧ ∃ acc, N S = some (.lst acc) ∧ PrA N acc (singlesD (ls.take i) xs.length ++ (List.range j).map fun (m : Nat) => (l, (m : Int)))) ⟨s1, acc0, hS, by simpa using hA0⟩ (fun _ _ _ _ => trivial) ?_ ?_
      · rintro j y N N' hj ⟨s3, acc, hL, hAc⟩ ⟨rfl, rfl⟩
        have e0 : (0 + (j : Int)) = (j : Int) := by omega
        dsimp only
        rw [e0]
        have lac := A2.len hAc
        rw [List.length_append, List.length_map, List.length_range, singles_len] at lac
        have hli2 : i < ls.length := lt_of_get hli
        have lt40 : acc.length ≤ 80 := by
          rw [singles_len] at l40
          have h1 : (ls.take i).length = i := by rw [List.length_take]; omega
          rw [h1] at lac
          have h2 : i * xs.length ≤ ls.length * xs.length := Nat.mul_le_mul_right _ (by omega)
          omega
        refine ⟨rfl, tyes ⟨_, rfl, _, rfl, by show 2 ≤ sizeLine; decide, fun t nt => ?_⟩⟩
        have k4 := same_new nt (o := .tup [.int l, .int (j : Int)])
        have hL4 := k4 _ _ hL
        have t5 : TU N' (upd (upd N' t (.tup [.int l, .int (j : Int)])) S (.lst (acc ++ [.ref t]))) := (TU.of k4).trans (TU.kp Kp.upd hL4 fun _ z => by cases z)
        refine ⟨acc, hL4, lt2 _ (by omega), (s3.trans k4).mut nS, _, upd_same, ?_⟩
        rw [List.range_succ, List.map_append, ← List.append_assoc]
        refine (PrA.tu hAc t5).app (.cons ⟨t, rfl, ?_⟩ .nil)
        exact (TU.kp Kp.upd hL4 fun _ z => by cases z) _ _ upd_same
      · rintro N ⟨s3, acc, hL, hAc⟩
        refine ⟨s3, acc, hL, ?_⟩
        rw [Int.toNat_natCast] at hAc
        rw [take_more hli]
        unfold singlesD at hAc ⊢
        rw [List.flatMap_append]
        simpa using hAc
    · rintro G ⟨s1, zs, hS, hZ⟩
      rw [List.length_map, List.take_length] at hZ
      have lz : zs.length = (singlesD ls xs.length).length := A2.len hZ
      refine ⟨Nat.zero_le _, fun e0 ne0 => ⟨by show 1 ≤ sizeLine; decide, fun D nD => ?_⟩⟩
      have s2 : Same H (upd (upd G e0 (.tup [])) D (.lst [.ref e0])) := (s1.new ne0).new nD
      have k2 : Same G (upd (upd G e0 (.tup [])) D (.lst [.ref e0])) := (same_new ne0).new nD
      have nDH : H D = none := (s1.new ne0).free nD
      have nSD : S ≠ D := fun z => by rw [← z, (same_new ne0 (o := .tup [])) _ _ hS] at nD; cases nD
      have hS2 := k2 _ _ hS
      have hZ2 := PrA.tu hZ (TU.of k2)
      have hF2 : FtA (upd (upd G e0 (.tup [])) D (.lst [.ref e0])) [.ref e0] [[]] := .cons ⟨e0, [], rfl, (same_new nD) _ _ upd_same, .nil⟩ .nil
      have hD2 : (upd (upd G e0 (.tup [])) D (.lst [.ref e0])) D = some (.lst [.ref e0]) := upd_same
      generalize upd (upd G e0 (.tup [])) D (.lst [.ref e0]) = G2 at s2 hS2 hZ2 hF2 hD2
      clear k2
      refine ⟨fun σ J => σ = [some (.ref a), some (.ref lo), some (.int k), some (.ref S), some (.ref D), none, none, none, none, none] ∧ Same H J ∧ J S = some (.lst zs) ∧ PrA J zs (singlesD ls xs.length) ∧ ∃ acc, J D = some (.lst acc) ∧ FtA J acc ([] :: (if 1 ≤ k then (singlesD ls xs.length).map (fun x => [x]) else [])), ?_, ?_⟩
      · refine ⟨_, rfl, _, _, rfl, rfl, _, rfl, ?_⟩
        by_cases hk : 1 ≤ k
        · refine itbT (decide_eq_true hk) ?_
          refine ⟨_, rfl, .inl ⟨rfl, _, sq hD2⟩, _, rfl, S, rfl, ⟨_, sq hS2⟩, fun L nL => ?_⟩
          have nLD : D ≠ L := fun z => by rw [← z, hD2] at nL; cases nL
          refine lc_it walk_list (fun i J => Same G2 J ∧ ∃ acc, J L = some (.lst acc) ∧ FtA J acc (((singlesD ls xs.length).take i).map fun x => [x])) ⟨same_new nL, [], upd_same, .nil⟩ (fun i J _ h => sq (h.1 _ _ hS2)) ?_ ?_
          · rintro i x J J' hi ⟨sJ, acc, hL, hA⟩ ⟨rfl, hx⟩
            obtain ⟨b, hb, tb, rfl, htb⟩ := A2.get hZ2 hx
            have la := A2.len hA
            rw [List.length_map, List.length_take] at la
            refine ⟨rfl, tyes ⟨_, rfl, by show 1 ≤ sizeLine; decide, fun t nt => ?_⟩⟩
            have k4 := same_new nt (o := .tup [.ref tb])
            have hL4 := k4 _ _ hL
            have t5 := TU.kp (G := upd (upd J' t (.tup [.ref tb])) L (.lst (acc ++ [.ref t]))) Kp.upd hL4 fun _ z => by cases z
            refine ⟨acc, hL4, lt2 _ (by omega), (sJ.trans k4).mut nL, _, upd_same, ?_⟩
            rw [take_more hb, List.map_append]
            exact (FtA.tu hA ((TU.of k4).trans t5)).app (.cons ⟨t, _, rfl, t5 _ _ upd_same, .cons ⟨tb, rfl, t5 _ _ (k4 _ _ (sJ _ _ htb))⟩ .nil⟩ .nil)
          · rintro J ⟨sJ, acc, hL, hA⟩
            have la := A2.len hA
            rw [lz, List.take_length, List.length_map] at la
            rw [lz, List.take_length] at hA
            have hDJ := sJ _ _ hD2
            have t5 := TU.kp (G := upd J D (.lst ([.ref e0] ++ acc))) Kp.upd hDJ fun _ z => by cases z
            refine ⟨D, L, _, _, rfl, rfl, hDJ, hL, lt1 _ (by rw [List.length_cons, List.length_nil]; omega), rfl, (s2.trans sJ).mut nDH, ?_, PrA.tu hZ2 ((TU.of sJ).trans t5), _, upd_same, ?_⟩
            · rw [upd_ne nSD]; exact sJ _ _ hS2
            · rw [if_pos hk]
              exact (FtA.tu hF2 ((TU.of sJ).trans t5)).app (FtA.tu hA t5)
        · refine itbF (decide_eq_false hk) ?_
          exact ⟨rfl, s2, hS2, hZ2, _, hD2, by rw [if_neg hk]; exact hF2⟩
      · rintro σ J ⟨rfl, s3, hS3, hZ3, acc3, hD3, hF3⟩
        have la3 := A2.len hF3
        have la3' : acc3.length ≤ 43 := by
          rw [la3, List.length_cons]
          split
          · rw [List.length_map]; omega
          · simp
        refine ⟨fun σ J => σ = [some (.ref a), some (.ref lo), some (.int k), some (.ref S), some (.ref D), none, none, none, none, none] ∧ Same H J ∧ ∃ acc, J D = some (.lst acc) ∧ FtA J acc (fatesD ls xs.length k), ?_, ?_⟩
        · refine ⟨_, rfl, _, _, rfl, rfl, _, rfl, ?_⟩
          by_cases hk : 2 ≤ k
          · refine itbT (decide_eq_true hk) ?_
            have ln : (singlesD ls xs.length).length < 43 := by omega
            have la4 : acc3.length + (Cmb.cmb zs.length 2).length ≤ 1000 := by have := cmb_len zs.length (by omega); omega
            refine ⟨_, rfl, .inl ⟨rfl, _, sq hD3⟩, _, rfl, S, zs, 2, rfl, sq hS3, rfl, .inr ⟨by omega, rfl⟩, fun L nL => ?_⟩
            have nLD : D ≠ L := fun z => by rw [← z, hD3] at nL; cases nL
            refine lc_it Cmb.walk_combX (fun i M => Same J M ∧ ∃ acc, M L = some (.lst acc) ∧ acc.length ≤ i ∧ FtA M acc (((Cmb.cmb zs.length 2).take i).filterMap (pairD (singlesD ls xs.length)))) ⟨same_new nL, [], upd_same, Nat.zero_le _, .nil⟩ (fun _ _ _ _ => trivial) ?_ ?_
            · rintro i x M M' hi ⟨sM, acc, hL, la, hA⟩ ⟨ix, q0, hix, rfl, nq, rfl⟩
              obtain ⟨u, v, rfl, hu, hv⟩ := cmb_pair zs.length (by omega) ix (List.mem_of_getElem? hix)
              have gu : zs[u]? = some zs[u] := List.getElem?_eq_getElem hu
              have gv : zs[v]? = some zs[v] := List.getElem?_eq_getElem hv
              obtain ⟨b1, hb1, t1, e1, ht1⟩ := A2.get hZ3 gu
              obtain ⟨b2, hb2, t2, e2, ht2⟩ := A2.get hZ3 gv
              have ev : ([u, v].map fun (j : Nat) => zs.getD j V.non) = [.ref t1, .ref t2] := by
                show [zs.getD u V.non, zs.getD v V.non] = _
                rw [List.getD_eq_getElem?_getD, List.getD_eq_getElem?_getD, gu, gv, e1, e2]; rfl
              rw [ev]
              have kq := same_new nq (o := .tup [.ref t1, .ref t2])
              have hL1 := kq _ _ hL
              have hq1 : (upd M q0 (.tup [.ref t1, .ref t2])) q0 = some (.tup [.ref t1, .ref t2]) := upd_same
              have ht1' := kq _ _ (sM _ _ ht1)
              have ht2' := kq _ _ (sM _ _ ht2)
              have hA1 := FtA.tu hA (TU.of kq)
              have sM1 := sM.trans kq
              generalize upd M q0 (.tup [.ref t1, .ref t2]) = M1 at hL1 hq1 ht1' ht2' hA1 sM1
              have ep : pairD (singlesD ls xs.length) [u, v] = if b1.1 < b2.1 then some [b1, b2] else none := by
                have x1 : (singlesD ls xs.length).getD u (0, 0) = b1 := by rw [List.getD_eq_getElem?_getD, hb1]; rfl
                have x2 : (singlesD ls xs.length).getD v (0, 0) = b2 := by rw [List.getD_eq_getElem?_getD, hb2]; rfl
                show (if ((singlesD ls xs.length).getD u (0, 0)).1 < ((singlesD ls xs.length).getD v (0, 0)).1 then some [(singlesD ls xs.length).getD u (0, 0), (singlesD ls xs.length).getD v (0, 0)] else none) = _
                rw [x1, x2]
              refine ⟨q0, _, rfl, st hq1, rfl, _, _, rfl, _, _, rfl, rfl, rfl, _, rfl, t1, _, 0, .int b1.1, rfl, rfl, st ht1', atI_nat (j := 0) rfl, _, rfl, t2, _, 0, .int b2.1, rfl, rfl, st ht2', atI_nat (j := 0) rfl, _, _, rfl, rfl, _, rfl, ?_⟩
              by_cases hlt : b1.1 < b2.1
              · rw [if_pos hlt] at ep
                refine itbT (decide_eq_true hlt) ⟨_, rfl, _, rfl, by show 2 ≤ sizeLine; decide, fun t nt => ?_⟩
                have k4 := same_new nt (o := .tup [.ref t1, .ref t2])
                have hL4 := k4 _ _ hL1
                have t5 := TU.kp (G := upd (upd M1 t (.tup [.ref t1, .ref t2])) L (.lst (acc ++ [.ref t]))) Kp.upd hL4 fun _ z => by cases z
                refine ⟨acc, hL4, lt2 _ (by omega), (sM1.trans k4).mut nL, _, upd_same, by rw [List.length_append]; show acc.length + 1 ≤ _; omega, ?_⟩
                rw [take_fm _ hix, ep]
                exact (FtA.tu hA1 ((TU.of k4).trans t5)).app (.cons ⟨t, _, rfl, t5 _ _ upd_same, .cons ⟨t1, rfl, t5 _ _ (k4 _ _ ht1')⟩ (.cons ⟨t2, rfl, t5 _ _ (k4 _ _ ht2')⟩ .nil)⟩ .nil)
              · rw [if_neg hlt] at ep
                refine itbF (decide_eq_false hlt) ⟨sM1, acc, hL1, by omega, ?_⟩
                rw [take_fm _ hix, ep]
                show FtA M1 acc (_ ++ [])
                rw [List.append_nil]; exact hA1
            · rintro M ⟨sM, acc, hL, la, hA⟩
              rw [List.take_length, lz] at hA
              have hDM := sM _ _ hD3
              have t5 := TU.kp (G := upd M D (.lst (acc3 ++ acc))) Kp.upd hDM fun _ z => by cases z
              refine ⟨D, L, _, _, rfl, rfl, hDM, hL, lt1 _ (by omega), rfl, (s3.trans sM).mut nDH, _, upd_same, ?_⟩
              unfold fatesD
              rw [if_pos hk]
              exact (FtA.tu hF3 ((TU.of sM).trans t5)).app (FtA.tu hA t5)
          · refine itbF (decide_eq_false hk) ?_
            refine ⟨rfl, s3, _, hD3, ?_⟩
            unfold fatesD
            rw [if_neg hk, List.append_nil]; exact hF3
        · rintro σ J ⟨rfl, s4, acc4, hD4, hF4⟩
          refine ⟨_, rfl, D, acc4, (fatesD ls xs.length k).map fateD, rfl, sq hD4, hF4.dv, rfl, fun d hd => ?_, fun us ws hu hw => ?_, ?_, fun p ys es np pe ho hd => ?_⟩
          · obtain ⟨f, _, rfl⟩ := List.mem_map.mp hd
            exact ⟨_, rfl, pr_depth f, pr_nodic f⟩
          · obtain ⟨f, _, e1⟩ := List.mem_map.mp hu
            obtain ⟨g, _, e2⟩ := List.mem_map.mp hw
            cases e1
            cases e2
            exact pr_alike f g
          · rw [List.length_map]; exact fates_len _ _ _ l40
          · obtain ⟨fs, pf, rfl⟩ := perm_fates pe
            refine q _ p ys fs (s4.new np) (s4.free np) upd_same (FtA.of (hd.same (same_new np))) pf ho
end
end K1


set_option Elab.async false
set_option linter.all false
set_option maxRecDepth 100000
set_option maxHeartbeats 1000000
/-! A dict keyed by nested tuples that holds True. -/
namespace K1
open PySem PySem.Spec PyProof.Rows L2 RZ
mutual
theorem nk_tu {H G : Hp} (t : TU H G) : ∀ (k : NK) {v : V}, Dv H v k.data → Dv G v k.data
  | .none, v, h => by have h' : Dv H v PyData.none := h; cases h'; exact .non
  | .num i, v, h => by have h' : Dv H v (PyData.int i) := h; cases h'; exact .int _
  | .text x, v, h => by have h' : Dv H v (PyData.str x) := h; cases h'; exact .str _
  | .tup ks, v, h => by
    have h' : Dv H v (PyData.tuple (NestedKey.datas ks)) := h
    cases h' with
    | tup ha hx => exact .tup (t _ _ ha) (nks_tu t ks hx)
theorem nks_tu {H G : Hp} (t : TU H G) : ∀ (ks : List NK) {vs : List V}, DvA H vs (NestedKey.datas ks) → DvA G vs (NestedKey.datas ks)
  | [], vs, h => by have h' : DvA H vs [] := h; cases h'; exact .nil
  | k :: ks, vs, h => by
    have h' : DvA H vs (k.data :: NestedKey.datas ks) := h
    cases h' with
    | cons h1 h2 => exact .cons (nk_tu t k h1) (nks_tu t ks h2)
end
theorem KsAt.tu {H G : Hp} {L : List NE} (h : KsAt H L) (t : TU H G) : KsAt G L := fun x hx => ⟨nk_tu t x.1 (h x hx).1, (h x hx).2⟩
section
variable {X : Cx} {P : Program} {w : World}
def sPutNb (P : Program) (w : World) (td ty tv : TE) : TS := fun D σ H => tv σ H fun v H1 => td σ H1 fun x H2 => ty σ H2 fun y H3 => ∃ (a d : Addr) (o : Obj) (k : NK) (L : List NE) (b : Bool), v = .bl b ∧ x = .ref d ∧ y = .ref a ∧ Dv H3 (.ref a) k.data ∧ k.depth ≤ 8 ∧ H3 d = some (DN P w d o L) ∧ KsAt H3 L ∧ L.length ≤ 10000 ∧
  ∀ o', D.nx σ (upd H3 d (DN P w d o' (storedH L k a (.bool b))))
theorem ps_putNb {o i value : Expr} {td ty tv : TE} {pos pos' : Pos} (hu : X.A.units + 64 < cLine) (ho : PE X o td) (hi : PE X i ty) (hv : PE X value tv) (hs : swapsWith value (some (.Subscript o i pos')) pos.line X.env = pure false) :
    PS X (.Assign [.Subscript o i pos'] value pos) (sPutNb X.prog X.w td ty tv) := by
  refine ⟨fun pins s σ H D I h => ?_⟩
  refine wpAny_Assign_Subscript (thn (hv.run pins s σ H _ I h) fun r s1 ⟨v, H1, I1, rv, q1⟩ => thn (ho.run pins s1 σ H1 _ I1 q1) fun u s2 ⟨x, H2, I2, rx, q2⟩ => thn (hi.run pins s2 σ H2 _ I2 q2) fun iv s3 ⟨y, H3, I3, ry, a, d, o', k, L, b, ev, ex, ey, hk, dk, hd, ks, hl, q3⟩ => ?_) hs
  subst ev ex ey
  obtain rfl : r = Value.bool b := rv
  obtain rfl : u = Value.ref d := rx
  obtain rfl : iv = Value.ref a := ry
  obtain ⟨dd, sy, _⟩ := dn_of I3 hd ks
  refine wpAny_setItem_heap (knd := nestedKind X.prog X.w) (hsz := by rw [sizeLine_eq]; omega) (by show X.A.units + 1 + 8 < cLine; omega) ⟨nk_is I3 k hk rfl, dk⟩ dd fun h' dd' hs => ?_
  obtain ⟨on, es, ep, hq, h2, h3, h4, _, h5⟩ := dd'
  exact ⟨σ, _, d_write I3 (by rw [hd]; exact True.intro) hs ⟨on, hq⟩ (dn_ok hq ⟨sy, h2, ⟨es, ep, h3, h4⟩, h5⟩), q3 on⟩
theorem ps_putNbK {o i value : Expr} {td ty tv : TE} {pos pos' : Pos} (hp : X.prog = P) (hw : X.w = w) (hu : X.A.units + 64 < cLine) (ho : PE X o td) (hi : PE X i ty) (hv : PE X value tv) (hs : swapsWith value (some (.Subscript o i pos')) pos.line X.env = pure false) :
    PS X (.Assign [.Subscript o i pos'] value pos) (sPutNb P w td ty tv) := by subst hp hw; exact ps_putNb hu ho hi hv hs
end
def thK : Th → NK
  | .no => .tup [.text "none"]
  | .gone l => .tup [.text "gone", .num l]
  | .here l => .tup [.text "here", .num l]
theorem thK_inj {a b : Th} (h : thK a = thK b) : a = b := by
  cases a <;> cases b <;> simp [thK] at h <;> first | rfl | (subst h; rfl) | exact absurd h.1 (by decide +kernel) | exact absurd h (by decide +kernel)
theorem thK_dv {H : Hp} {x : V} {th : Th} (h : tupA H x (thV th)) : Dv H x (thK th).data := by
  obtain ⟨t, rfl, ht⟩ := h
  cases th with
  | no => exact .tup ht (.cons (.str _) .nil)
  | gone l => exact .tup ht (.cons (.str _) (.cons (.int _) .nil))
  | here l => exact .tup ht (.cons (.str _) (.cons (.int _) .nil))
theorem thK_depth (th : Th) : (thK th).depth ≤ 8 := by cases th <;> exact (by decide : (1 : Nat) ≤ 8)
def addT (ths : List Th) (th : Th) : List Th := if th ∈ ths then ths else ths ++ [th]
theorem stored_keys {L : List NE} {ths : List Th} (h : L.map (·.1) = ths.map thK) (th : Th) (a : Addr) (v : Value) : (storedH L (thK th) a v).map (·.1) = (addT ths th).map thK := by
  have e1 : (atKey L (thK th)).isSome = decide (th ∈ ths) := by
    unfold atKey
    rw [Option.isSome_map]
    have e2 : (L.find? fun x => decide (x.1 = thK th)).isSome = decide (thK th ∈ L.map (·.1)) := by
      rw [← Bool.coe_iff_coe, List.find?_isSome]
      simp
    rw [e2, h, decide_eq_decide, List.mem_map]
    exact ⟨fun ⟨b, hb, e⟩ => thK_inj e ▸ hb, fun hb => ⟨th, hb, rfl⟩⟩
  unfold storedH addT
  rw [e1]
  by_cases hm : th ∈ ths
  · rw [decide_eq_true hm, if_pos rfl, if_pos hm, List.map_map, ← h]
    refine List.map_congr_left fun x _ => ?_
    show (putAt (thK th) v x).1 = x.1
    unfold putAt
    split <;> rfl
  · rw [decide_eq_false hm, if_neg Bool.false_ne_true, if_neg hm, List.map_append, h, List.map_append]; rfl
theorem KsAt.put {H : Hp} {L : List NE} {k : NK} {a : Addr} {v : Value} (h : KsAt H L) (hk : Dv H (.ref a) k.data) (hd : k.depth ≤ 8) : KsAt H (storedH L k a v) := by
  intro e he
  unfold storedH at he
  split at he
  · obtain ⟨x, hx, rfl⟩ := List.mem_map.mp he
    have := h x hx
    unfold putAt
    split <;> exact this
  · rcases List.mem_append.mp he with he | he
    · exact h e he
    · rw [List.mem_singleton.mp he]; exact ⟨hk, hd⟩
theorem addT_mem {ths : List Th} {th x : Th} : x ∈ addT ths th ↔ x ∈ ths ∨ x = th := by
  unfold addT
  split
  · exact ⟨.inl, fun h => h.elim id fun e => e ▸ ‹_›⟩
  · rw [List.mem_append, List.mem_singleton]
theorem addT_nd {ths : List Th} {th : Th} (h : ths.Nodup) : (addT ths th).Nodup := by
  unfold addT
  split
  · exact h
  · exact List.nodup_append.mpr ⟨h, by simp, fun a ha b hb => by rw [List.mem_singleton.mp hb]; exact fun e => ‹¬ _› (e ▸ ha)⟩
theorem addT_len (ths : List Th) (th : Th) : (addT ths th).length ≤ ths.length + 1 := by
  unfold addT
  split
  · omega
  · simp
end K1


set_option Elab.async false
set_option linter.all false
set_option maxRecDepth 100000
set_option maxHeartbeats 4000000
/-! k30: finds. -/
namespace K1
open PySem PySem.Spec PyProof.Rows L2 RZ
def cmD (c : Cm) : PyData := match c with | .ask => .tuple [.str "ask"] | .look n => .tuple [.str "look", .int n] | .take n => .tuple [.str "take", .int n]
theorem CmA.dv {H : Hp} : ∀ {xs : List V} {cs : List Cm}, CmA H xs cs → DvA H xs (cs.map cmD)
  | _, _, .nil => .nil
  | _, _, .cons (b := c) ⟨t, e, h⟩ r => by
    subst e
    refine .cons ?_ (CmA.dv r)
    cases c with
    | ask => exact .tup h (.cons (.str _) .nil)
    | look n => exact .tup h (.cons (.str _) (.cons (.int _) .nil))
    | take n => exact .tup h (.cons (.str _) (.cons (.int _) .nil))
theorem dv_int {H : Hp} : ∀ ls : List Int, DvA H (ls.map V.int) (ls.map PyData.int)
  | [] => .nil
  | l :: r => .cons (.int l) (dv_int r)
/-- the four values of good arguments -/
theorem four_of {H : Hp} {n k : Int} {a lo : Addr} {xs : List V} {cs : List Cm} {ls : List Int} (ha : H a = some (.lst xs)) (hA : CmA H xs cs) (hl : H lo = some (.tup (ls.map V.int))) (l : ls.length ≤ 1000) :
    Four H (.int n) (.ref a) (.ref lo) (.int k) (.int n) (.list (cs.map cmD)) (.tuple (ls.map PyData.int)) (.int k) :=
  ⟨.int n, .lst ha hA.dv, .tup hl (dv_int ls), .int k, by show (ls.map PyData.int).length ≤ 1000; rw [List.length_map]; exact l⟩
def chkG (n : Int) (cs : List Cm) (ls : List Int) (k : Int) : Prop := chk none (.int n) (.list (cs.map cmD)) (.tuple (ls.map PyData.int)) (.int k) = none
def stepT (tabs : List (List Th)) (p : Option Th × Nat) : List (List Th) := match p.1 with | none => tabs | some th => tabs.modify p.2 fun ths => addT ths th
def inT (ts : List (Option Th)) (tabs : List (List Th)) : List (List Th) := ts.zipIdx.foldl stepT tabs
structure TbI (P : Program) (w : World) (H0 : Hp) (Tb : Addr) (ds : List Addr) (B : Nat) (G : Hp) (tabs : List (List Th)) : Prop where
  s : Same H0 G
  nT : H0 Tb = none
  t : G Tb = some (.lst (ds.map V.ref))
  n0 : ∀ d ∈ ds, H0 d = none
  nd : ds.Nodup
  ln : tabs.length = ds.length
  b : ∀ ths ∈ tabs, ths.length ≤ B
  e : ∀ (j : Nat) (d : Addr), ds[j]? = some d → ∃ (o : Obj) (L : List NE) (ths : List Th), tabs[j]? = some ths ∧ G d = some (DN P w d o L) ∧ KsAt G L ∧ L.map (·.1) = ths.map thK
section
variable {P : Program} {w : World} {H0 G : Hp} {Tb : Addr} {ds : List Addr} {B : Nat} {tabs : List (List Th)}
theorem TbI.sm (h : TbI P w H0 Tb ds B G tabs) {G2 : Hp} (k : Same G G2) : TbI P w H0 Tb ds B G2 tabs :=
  ⟨h.s.trans k, h.nT, k _ _ h.t, h.n0, h.nd, h.ln, h.b, fun j d hj => let ⟨o, L, ths, a, b, c, e⟩ := h.e j d hj; ⟨o, L, ths, a, k _ _ b, KsAt.tu c (TU.of k), e⟩⟩
theorem TbI.up (h : TbI P w H0 Tb ds B G tabs) {B2 : Nat} (k : B ≤ B2) : TbI P w H0 Tb ds B2 G tabs := ⟨h.s, h.nT, h.t, h.n0, h.nd, h.ln, fun x hx => Nat.le_trans (h.b x hx) k, h.e⟩
theorem TbI.put (h : TbI P w H0 Tb ds B G tabs) {j : Nat} {d a : Addr} {o o2 : Obj} {L : List NE} {ths : List Th} {th : Th} {v : Value} (hj : ds[j]? = some d) (ht : tabs[j]? = some ths) (hd : G d = some (DN P w d o L)) (ks : KsAt G L) (hk : L.map (·.1) = ths.map thK) (ha : Dv G (.ref a) (thK th).data) :
    TbI P w H0 Tb ds (B + 1) (upd G d (DN P w d o2 (storedH L (thK th) a v))) (tabs.modify j fun ths => addT ths th) := by
  have tu : TU G (upd G d (DN P w d o2 (storedH L (thK th) a v))) := TU.kp Kp.upd hd fun _ z => by cases z
  have hdm : d ∈ ds := List.mem_of_getElem? hj
  refine ⟨h.s.mut (h.n0 d hdm), h.nT, ?_, h.n0, h.nd, by rw [List.length_modify]; exact h.ln, fun x hx => ?_, fun i e hi => ?_⟩
  · rw [upd_ne fun z => by have := h.t; rw [z, hd] at this; cases this]; exact h.t
  · obtain ⟨i, hi⟩ := List.mem_iff_getElem?.mp hx
    rw [List.getElem?_modify] at hi
    cases e : tabs[i]? with
    | none => rw [e] at hi; cases hi
    | some y =>
      rw [e] at hi
      have hy := h.b y (List.mem_of_getElem? e)
      have hx2 : (if j = i then addT y th else y) = x := Option.some.inj hi
      rw [← hx2]
      have := addT_len y th
      split <;> omega
  · by_cases e1 : j = i
    · subst e1
      rw [hj] at hi
      cases hi
      refine ⟨o2, _, addT ths th, ?_, upd_same, KsAt.put (KsAt.tu ks tu) (nk_tu tu _ ha) (thK_depth th), stored_keys hk th a v⟩
      rw [List.getElem?_modify, ht]
      show some (if j = j then _ else _) = _
      rw [if_pos rfl]
    · obtain ⟨o', L', ths', a1, a2, a3, a4⟩ := h.e i e hi
      refine ⟨o', L', ths', ?_, ?_, KsAt.tu a3 tu, a4⟩
      · rw [List.getElem?_modify, a1]
        show some (if j = i then _ else _) = _
        rw [if_neg e1]
      · rw [upd_ne fun z => ?_]
        · exact a2
        · subst z
          have h1 := lt_of_get hj
          have h2 := lt_of_get hi
          have key : ∀ a b : Nat, a < b → b < ds.length → ds[a]? = some e → ds[b]? = some e → False := fun a b hab hb e1 e2 => by
            have h3 := List.pairwise_iff_getElem.mp h.nd a b (by omega) hb hab
            rw [List.getElem?_eq_getElem (by omega)] at e1
            rw [List.getElem?_eq_getElem hb] at e2
            exact h3 ((Option.some.inj e1).trans (Option.some.inj e2).symm)
          rcases Nat.lt_or_gt_of_ne e1 with c | c
          · exact key j i c h2 hj hi
          · exact key i j c h1 hi hj
end
end K1


set_option Elab.async false
set_option linter.all false
set_option maxRecDepth 100000
set_option maxHeartbeats 4000000
/-! k30: finds, whole. -/
namespace K1
open PySem PySem.Spec PyProof.Rows L2 RZ
theorem _root_.L2.Room.u65 {k : Nat} {A : Around} (r : Room k A) : A.units + 65 < cLine := by have := r.un; omega
def thD (th : Th) : PyData := (thK th).data
/-- what is found at place j in any of the fates -/
def FoundAt (ls : List Int) (cs : List Cm) (n : Nat) (k : Int) (j : Nat) (th : Th) : Prop := ∃ f ∈ fatesD ls cs.length k, (foundD f cs 0 (rowsN n) [])[j]? = some (some th)
def tabF (cs : List Cm) (n : Nat) (m : Nat) (fs : List (List Pr)) : List (List Th) := fs.foldl (fun tb f => inT (foundD f cs 0 (rowsN n) []) tb) (List.replicate m [])
theorem found_len (f : List Pr) : ∀ (cs : List Cm) (m : Nat) (rows gone : List Int), (foundD f cs m rows gone).length = cs.length
  | [], _, _, _ => rfl
  | c :: r, m, rows, gone => by show _ + 1 = _ + 1; rw [found_len f r]
def SrtRow (H : Hp) (F : Nat → Th → Prop) (x : V) (j : Nat) : Prop := ∃ (l : Addr) (zs : List V) (es : List Th), x = .ref l ∧ H l = some (.lst zs) ∧ DvA H zs (es.map thD) ∧ InOrd (es.map thD) ∧ es.Nodup ∧ ∀ th, th ∈ es ↔ F j th
def unT : PyData → Th
  | .tuple [.str w, .int l] => if w = "gone" then .gone l else .here l
  | _ => .no
theorem unT_thD (th : Th) : unT (thD th) = th := by
  cases th with
  | no => rfl
  | gone l =>
    show (if ("gone" : Str) = "gone" then Th.gone l else Th.here l) = _
    exact if_pos rfl
  | here l =>
    show (if ("here" : Str) = "gone" then Th.gone l else Th.here l) = _
    exact if_neg (by decide +kernel)
theorem perm_ths {es : List PyData} {L : List Th} (h : es.Perm (L.map thD)) : ∃ fs : List Th, fs.Perm L ∧ es = fs.map thD := by
  refine ⟨es.map unT, ?_, ?_⟩
  · have := h.map unT
    rw [List.map_map] at this
    rwa [show (unT ∘ thD) = id from funext unT_thD, List.map_id] at this
  · rw [List.map_map]
    have : ∀ e ∈ es, thD (unT e) = e := fun e he => by
      obtain ⟨f, _, rfl⟩ := List.mem_map.mp (h.mem_iff.mp he)
      rw [unT_thD]
    rw [List.map_congr_left (f := thD ∘ unT) (g := id) this, List.map_id]
def hid (D : Addr) (H : Hp) : Hp := fun b => if b = D then none else H b
theorem hid_same {D : Addr} {H : Hp} : Same (hid D H) H := fun b o h => by
  unfold hid at h
  split at h
  · cases h
  · exact h
theorem hid_of {D : Addr} {H G : Hp} (k : ∀ b o, b ≠ D → H b = some o → G b = some o) : Same (hid D H) (hid D G) := fun b o h => by
  unfold hid at h ⊢
  split at h
  · cases h
  · rename_i n
    rw [if_neg n]; exact k b o n h
theorem hid_tu {D : Addr} {H : Hp} {o : HO} (h : H D = some o) (ho : ∀ xs, o ≠ .tup xs) : TU H (hid D H) := fun b xs z => by
  unfold hid
  rw [if_neg fun e => by rw [e, h] at z; exact ho xs (Option.some.inj z)]
  exact z
theorem ths_tu {H G : Hp} (t : TU H G) : ∀ {es : List Th} {zs : List V}, DvA H zs (es.map thD) → DvA G zs (es.map thD)
  | [], _, h => by cases h; exact .nil
  | e :: r, _, h => by
    cases h with
    | cons h1 h2 => exact .cons (nk_tu t (thK e) h1) (ths_tu t h2)
theorem SrtRow.same {H G : Hp} {F : Nat → Th → Prop} {x : V} {j : Nat} (h : SrtRow H F x j) (s : Same H G) : SrtRow G F x j :=
  let ⟨l, zs, es, a, b, c, d⟩ := h
  ⟨l, zs, es, a, s _ _ b, ths_tu (TU.of s) c, d⟩
theorem tabF_snoc {cs : List Cm} {n m : Nat} {fs : List (List Pr)} {i : Nat} {f : List Pr} (h : fs[i]? = some f) : tabF cs n m (fs.take (i + 1)) = inT (foundD f cs 0 (rowsN n) []) (tabF cs n m (fs.take i)) := by
  unfold tabF
  rw [take_more h, List.foldl_append]; rfl
theorem stepT_len (tabs : List (List Th)) (p : Option Th × Nat) : (stepT tabs p).length = tabs.length := by
  unfold stepT
  split
  · rfl
  · rw [List.length_modify]
theorem inT_at (j : Nat) : ∀ (ts : List (Option Th)) (s : Nat) (tabs : List (List Th)) (ths : List Th), tabs[j]? = some ths → ths.Nodup → ∃ ths', ((ts.zipIdx s).foldl stepT tabs)[j]? = some ths' ∧ ths'.Nodup ∧ ∀ th, th ∈ ths' ↔ th ∈ ths ∨ ∃ i, i + s = j ∧ ts[i]? = some (some th)
  | [], s, tabs, ths, h, nd => ⟨ths, h, nd, fun th => ⟨.inl, fun z => z.elim id fun ⟨i, _, e⟩ => by simp at e⟩⟩
  | t :: r, s, tabs, ths, h, nd => by
    rw [List.zipIdx_cons, List.foldl_cons]
    have step : ∃ ths1, (stepT tabs (t, s))[j]? = some ths1 ∧ ths1.Nodup ∧ ∀ th, th ∈ ths1 ↔ th ∈ ths ∨ (s = j ∧ t = some th) := by
      cases t with
      | none => exact ⟨ths, h, nd, fun th => ⟨.inl, fun z => z.elim id fun e => by cases e.2⟩⟩
      | some th0 =>
        by_cases e : s = j
        · refine ⟨addT ths th0, ?_, addT_nd nd, fun th => ?_⟩
          · show (tabs.modify s _)[j]? = _
            rw [List.getElem?_modify, h]
            show some (if s = j then _ else _) = _
            rw [if_pos e]
          · rw [addT_mem]
            exact ⟨fun z => z.imp id fun z => ⟨e, by rw [z]⟩, fun z => z.imp id fun z => (Option.some.inj z.2).symm⟩
        · refine ⟨ths, ?_, nd, fun th => ⟨.inl, fun z => z.elim id fun z => absurd z.1 e⟩⟩
          show (tabs.modify s _)[j]? = _
          rw [List.getElem?_modify, h]
          show some (if s = j then _ else _) = _
          rw [if_neg e]
    obtain ⟨ths1, h1, nd1, m1⟩ := step
    obtain ⟨ths2, h2, nd2, m2⟩ := inT_at j r (s + 1) _ ths1 h1 nd1
    refine ⟨ths2, h2, nd2, fun th => ?_⟩
    rw [m2, m1]
    constructor
    · rintro ((z | ⟨e, z⟩) | ⟨i, e, z⟩)
      · exact .inl z
      · exact .inr ⟨0, by omega, by rw [z]; rfl⟩
      · exact .inr ⟨i + 1, by omega, by simpa using z⟩
    · rintro (z | ⟨i, e, z⟩)
      · exact .inl (.inl z)
      · cases i with
        | zero => exact .inl (.inr ⟨by omega, by simpa using z⟩)
        | succ i => exact .inr ⟨i, by omega, by simpa using z⟩
theorem tabF_at (cs : List Cm) (n j : Nat) : ∀ (fs : List (List Pr)) (tabs : List (List Th)) (ths : List Th), tabs[j]? = some ths → ths.Nodup → ∃ ths', (fs.foldl (fun tb f => inT (foundD f cs 0 (rowsN n) []) tb) tabs)[j]? = some ths' ∧ ths'.Nodup ∧ ∀ th, th ∈ ths' ↔ th ∈ ths ∨ ∃ f ∈ fs, (foundD f cs 0 (rowsN n) [])[j]? = some (some th)
  | [], tabs, ths, h, nd => ⟨ths, h, nd, fun th => ⟨.inl, fun z => z.elim id fun ⟨f, e, _⟩ => by cases e⟩⟩
  | f :: r, tabs, ths, h, nd => by
    rw [List.foldl_cons]
    obtain ⟨ths1, h1, nd1, m1⟩ := inT_at j (foundD f cs 0 (rowsN n) []) 0 tabs ths h nd
    obtain ⟨ths2, h2, nd2, m2⟩ := tabF_at cs n j r _ ths1 h1 nd1
    refine ⟨ths2, h2, nd2, fun th => ?_⟩
    rw [m2, m1]
    constructor
    · rintro ((z | ⟨i, e, z⟩) | ⟨g, e, z⟩)
      · exact .inl z
      · exact .inr ⟨f, by simp, by rw [← show i = j by omega]; exact z⟩
      · exact .inr ⟨g, by simp [e], z⟩
    · rintro (z | ⟨g, e, z⟩)
      · exact .inl (.inl z)
      · rcases List.mem_cons.mp e with rfl | e
        · exact .inl (.inr ⟨j, by omega, z⟩)
        · exact .inr ⟨g, e, z⟩
theorem th_alike2 (a b : Th) : PySem.W.alike (thD a) (thD b) = true := by
  cases a <;> cases b <;> simp [thD, thK, NestedKey.data, NestedKey.datas, PySem.W.alike, PySem.W.alikeAll]
theorem th_alike (ths : List Th) : PySem.W.AllAlike (ths.map thD) := PySem.W.AllAlike.of th_alike2
theorem fate_len {ls : List Int} {n : Nat} {k : Int} {f : List Pr} (h : f ∈ fatesD ls n k) : f.length ≤ 2 := by
  unfold fatesD at h
  rcases List.mem_cons.mp h with rfl | h
  · exact Nat.zero_le _
  · rcases List.mem_append.mp h with h | h
    · split at h
      · obtain ⟨x, _, rfl⟩ := List.mem_map.mp h
        exact Nat.le_succ _
      · cases h
    · split at h
      · obtain ⟨ix, _, e⟩ := List.mem_filterMap.mp h
        unfold pairD at e
        split at e
        · cases e; exact Nat.le_refl _
        · cases e
      · cases h
section
variable {P : Program} {w : World} {K : PySem.W.Frag} {mg : Str → Option Value} {base : Heap} {C CN CR CV : Addr}
end
end K1


set_option Elab.async false
set_option linter.all false
set_option maxRecDepth 100000
set_option maxHeartbeats 4000000
/-! k30: doubt. -/
namespace K1
open PySem PySem.Spec PyProof.Rows L2 RZ
/-- the letter that a thing names -/
def tailT : Th → List Int
  | .no => []
  | .gone l => [l]
  | .here l => [l]
def badAt (cs : List Cm) (n at_ : Nat) (th : Th) (f : List Pr) : Bool := match (foundD f cs 0 (rowsN n) [])[at_]? with | some (some u) => decide (tailT u ≠ tailT th) | _ => false
def doubtG (cs : List Cm) (n : Nat) (fs : List (List Pr)) : Nat → List (Option Th) → Option (Nat × List Pr)
  | _, [] => none
  | i, none :: r => doubtG cs n fs (i + 1) r
  | i, some .no :: r => some (i, [])
  | i, some th :: r => match fs.find? (badAt cs n i th) with | some f => some (i, f) | none => doubtG cs n fs (i + 1) r
def doubtD (cs : List Cm) (n : Nat) (fs : List (List Pr)) : Option (Nat × List Pr) := doubtG cs n fs 0 (foundD [] cs 0 (rowsN n) [])
def douQ (Q : VK) (H : Hp) : Option (Nat × List Pr) → Prop
  | none => ∀ H', Same H H' → Q .non H'
  | some (i, f) => ∀ H' t, Same H H' → Dv H' (.ref t) (.tuple [.int i, fateD f]) → Q (.ref t) H'
def spDo : Sp := fun vs H Q _ => ∃ (n : Nat) (a lo : Addr) (xs : List V) (cs : List Cm) (ls : List Int) (k : Int), vs = [.int n, .ref a, .ref lo, .int k] ∧ n ≤ 10 ∧ H a = some (.lst xs) ∧ CmA H xs cs ∧ (∀ c ∈ cs, cmOk c) ∧ cs.length ≤ 8 ∧ H lo = some (.tup (ls.map V.int)) ∧ ls.length ≤ 1000 ∧ (singlesD ls cs.length).length ≤ 42 ∧ chkG n cs ls k ∧
  ∀ fs : List (List Pr), fs.Perm (fatesD ls cs.length k) → InOrd (fs.map fateD) → douQ Q H (doubtD cs n fs)
theorem op_eqD2 {X : Cx} {K : PySem.W.Frag} (h : X.K = K) (hu : X.A.units + 65 < cLine) : OpR X (compareOp .Eq) (rEqD K) := by subst h; exact op_eqD (Nat.lt_of_succ_lt hu)
theorem op_neD2 {X : Cx} {K : PySem.W.Frag} (h : X.K = K) (hu : X.A.units + 65 < cLine) : OpR X (compareOp .NotEq) (rNeD K) := by subst h; exact op_neD (Nat.lt_of_succ_lt hu)
theorem sl_tupAK {X : Cx} {K : PySem.W.Frag} (h : X.K = K) : SlR X (rSlA K) := by subst h; exact sl_tupA
theorem th_nodic (th : Th) : noDic (thD th) = true := by cases th <;> rfl
theorem shaped_of {d : PyData} (h1 : PyData.canLay0 d = true) (h2 : d.depth ≤ 64) : PySem.SeqAt.shaped d = true := by
  unfold SeqAt.shaped
  rw [h1, decide_eq_true h2]; rfl
theorem th_shaped (th : Th) : PySem.SeqAt.shaped (thD th) = true := by
  cases th <;> exact shaped_of (by first | rfl | simp [thD, thK, NestedKey.data, NestedKey.datas, PyData.canLay0, PyData.canLayAll0]; decide +kernel) (by decide : (1 : Nat) ≤ 64)
theorem th_ne (th : Th) (h : th ≠ .no) : PyData.eqv (thD th) (.tuple [.str "none"]) = false := by
  cases th with
  | no => exact absurd rfl h
  | gone l => simp [thD, thK, NestedKey.data, NestedKey.datas, PyData.eqv, PyData.eqvAll]
  | here l => simp [thD, thK, NestedKey.data, NestedKey.datas, PyData.eqv, PyData.eqvAll]
theorem slA_go {K : PySem.W.Frag} {a : Addr} {xs : List V} {lo hi : Option Int} {H : Hp} {Q : VK} (h : H a = some (.tup xs)) (q : ∀ b H', Same H H' → H' b = some (.tup (cutV xs lo hi)) → Q (.ref b) H') : rSlA K (.ref a) lo hi H Q := by
  refine ⟨a, xs, rfl, st h, fun z => ?_, fun _ D nD => q D _ (same_new nD) upd_same⟩
  refine q a H (fun _ _ h => h) ?_
  unfold cutV
  rw [z.1, z.2, List.drop_zero, Nat.sub_zero, List.take_length]; exact h
theorem cut_th (u : Th) : cutV (thV u) (some 1) none = (tailT u).map V.int := by cases u <;> rfl
theorem tl_nodic (u : Th) : noDic (.tuple ((tailT u).map PyData.int)) = true := by cases u <;> rfl
theorem tl_shaped (u : Th) : PySem.SeqAt.shaped (.tuple ((tailT u).map PyData.int)) = true := by
  cases u <;> exact shaped_of (by simp [tailT, PyData.canLay0, PyData.canLayAll0]) (by decide : (1 : Nat) ≤ 64)
theorem tl_eqv (u v : Th) : PyData.eqv (.tuple ((tailT u).map PyData.int)) (.tuple ((tailT v).map PyData.int)) = decide (tailT u = tailT v) := by
  cases u <;> cases v <;> simp [tailT, PyData.eqv, PyData.eqvAll] <;> rfl
theorem found_ask (f : List Pr) : ∀ (cs : List Cm) (m : Nat) (rows gone : List Int) (i : Nat), (foundD f cs m rows gone)[i]? = some none → cs[i]? = some .ask
  | [], _, _, _, i, h => by simp [foundD] at h
  | c :: r, m, rows, gone, 0, h => by
    have h' : some (stepF f m rows gone c).2.2 = some none := h
    cases c with
    | ask => rfl
    | look k => cases h'
    | take k => cases h'
  | c :: r, m, rows, gone, i + 1, h => found_ask f r (m + 1) _ _ i (by simpa [foundD] using h)
theorem found_ask2 (f : List Pr) : ∀ (cs : List Cm) (m : Nat) (rows gone : List Int) (i : Nat), cs[i]? = some .ask → (foundD f cs m rows gone)[i]? = some none
  | [], _, _, _, i, h => by simp at h
  | c :: r, m, rows, gone, 0, h => by
    have h' : some c = some .ask := h
    cases h'; rfl
  | c :: r, m, rows, gone, i + 1, h => by
    have := found_ask2 f r (m + 1) (stepF f m rows gone c).1 (stepF f m rows gone c).2.1 i (by simpa using h)
    simpa [foundD] using this
section
variable {P : Program} {w : World} {K : PySem.W.Frag} {mg : Str → Option Value} {base : Heap} {C CN CR CV : Addr}
theorem ok_do {f : Addr} {fd : FuncData} (T : Bj mg) (D_check : Def P w K mg base (L2.CX P w) 5 "_check" nCk (spCk CN CR CV)) (D_fates : Def P w K mg base CX0 1 "_fates" pFt spFt) (D_found : Def P w K mg base CX0 3 "_found" pFo spFo)
    (F : Fun K "doubt" "doubt" sDoubt f fd) : FnOk P w K mg base (L2.CX P w) 6 f fd nCk spDo := by
  have nd := scDoubt.nd
  refine F.okX scDoubt (fun vs H Q E h => ?_) (fun cdv A outer s H vs Q E hr h => ?_)
  · obtain ⟨n, a, lo, xs, cs, ls, k, rfl, _⟩ := h
    rfl
  · obtain ⟨n, a, lo, xs, cs, ls, k, rfl, hn, ha, hA, okc, l8, hlo, l1, l40, hck, q⟩ := h
    refine ⟨_, (pss_cons (ps_expr (pe_def D_check (hr.mono (by decide)) rfl (passes_call (takes_of rfl rfl rfl rfl) (fun _ _ _ _ h => h)) (pa_cons (pv 0) (pa_cons (pv 1) (pa_cons (pv 2) (pa_cons (pv 3) pa_nil))))))
 (pss_cons (ps_set (i := 4) nd rfl (Or.inl rfl) (pe_def D_found (hr.mono (by decide)) rfl pass0 (pa_cons (pv 0) (pa_cons (pv 1) (pa_cons (pe_tup pa_nil) pa_nil)))))
 (pss_cons (ps_set (i := 5) nd rfl (Or.inl rfl) (pe_def D_fates (hr.mono (by decide)) rfl pass0 (pa_cons (pv 1) (pa_cons (pv 2) (pa_cons (pv 3) pa_nil)))))
 (pss_cons (ps_setLc (i := 6) (own := [("fate", 9)]) (g := gName 9) (tt := tYes) rfl nd rfl rfl (sw_true rfl rfl rfl (by decide +kernel)) (pi_listK (K := K) rfl (pv 5)) (blkOk_by (own := [("fate", 9)]) (N := nDoubt) (sc := defScope sDoubt) (by decide +kernel)) (fun _ _ _ _ _ => pg_name (i := 9) nd rfl (Or.inl rfl)) (fun _ _ _ _ _ => pts_nil) (fun _ _ _ _ _ => (pe_def D_found (hr.mono (by decide)) rfl pass0 (pa_cons (pv 0) (pa_cons (pv 1) (pa_cons (pv 9) pa_nil))))))
 (pss_cons (ps_for (passes_of rfl) rfl (pi_enumSK (K := K) rfl (by rfl) T.enumerate (pa_cons (pv 4) pa_nil)) (pg_tup rfl (pgs_cons (pg_name (i := 7) nd rfl (Or.inl rfl)) (pgs_cons (pg_name (i := 8) nd rfl (Or.inl rfl)) pgs_nil)))
  (pss_cons (ps_if (pt_cmpR (op_eqD2 (K := K) rfl (Room.u65 hr)) (pv 8) (pe_tup (pa_cons pe_str pa_nil)) (nomark _))
  (pss_one (ps_ret (pe_tup (pa_cons (pv 7) (pa_cons (pe_tup pa_nil) pa_nil)))))
  pss_nil)
 (pss_one (ps_if (pt_cmpR op_notN (pv 8) pe_non (nomark _))
  (pss_one (ps_for (passes_of rfl) rfl (pi_zipSK (K := K) rfl (by rfl) T.zip (pa_cons (pv 5) (pa_cons (pv 6) pa_nil))) (pg_tup rfl (pgs_cons (pg_name (i := 9) nd rfl (Or.inl rfl)) (pgs_cons (pg_name (i := 10) nd rfl (Or.inl rfl)) pgs_nil)))
  (pss_one (ps_if (pt_cmpR (op_neD2 (K := K) rfl (Room.u65 hr)) (pe_slice (sl_tupAK (K := K) rfl) (pe_ix (ix_listK (K := K) rfl) (pv 10) (pv 7) (fun _ _ => rfl)) (po_some pe_int) po_none) (pe_slice (sl_tupAK (K := K) rfl) (pv 8) (po_some pe_int) po_none) (nomark _))
  (pss_one (ps_ret (pe_tup (pa_cons (pv 7) (pa_cons (pv 9) pa_nil)))))
  pss_nil))))
  pss_nil))))
 (pss_one (ps_ret pe_non))))))), ?_⟩
    have lx : xs.length = cs.length := A2.len hA
    refine ⟨_, rfl, _, rfl, _, rfl, _, rfl, .int n, .ref a, .ref lo, .int k, _, _, _, _, rfl, four_of ha hA hlo l1, fun _ H1 s1 => ?_, fun e he => by rw [hck] at he; cases he⟩
    refine ⟨_, rfl, _, rfl, Nat.zero_le _, fun t0 nt0 => ?_⟩
    have k0 := same_new nt0 (o := .tup [])
    have s2 := s1.trans k0
    have ht0 : (upd H1 t0 (.tup [])) t0 = some (.tup []) := upd_same
    generalize upd H1 t0 (.tup []) = H2 at k0 s2 ht0
    refine ⟨n, a, t0, xs, [], cs, [], rfl, hn, .inl (s2 _ _ ha), CmA.tu hA (TU.of s2), okc, l8, ht0, .nil, Nat.zero_le _, fun H3 Al as s3 nAl hAl hAs => ?_⟩
    have s23 := s2.trans s3
    refine ⟨_, rfl, _, rfl, _, rfl, a, lo, xs, ls, k, rfl, .inl (s23 _ _ ha), s23 _ _ hlo, by rw [lx]; exact l40, by omega, fun H4 D ys fs s4 nD hD hF pf ho => ?_⟩
    rw [lx] at pf
    have s24 := s23.trans s4
    have hAl4 := s4 _ _ hAl
    have hAs4 := ThA.tu hAs (TU.of s4)
    have lfs : fs.length ≤ 1000 := by rw [pf.length_eq]; exact fates_len _ _ _ l40
    have lys : ys.length = fs.length := A2.len hF
    have fin := q fs pf ho
    refine ⟨_, rfl, D, rfl, ⟨_, sq hD⟩, fun R nR => ?_⟩
    refine lc_it walk_list (fun i G => Same H4 G ∧ ∃ acc, G R = some (.lst acc) ∧ A2 (fun x (f : List Pr) => ∃ l zs, x = .ref l ∧ hid R G l = some (.lst zs) ∧ ThA (hid R G) zs (foundD f cs 0 (rowsN n) [])) acc (fs.take i)) ⟨same_new nR, [], upd_same, .nil⟩ (fun i G _ h => sq (h.1 _ _ hD)) ?_ ?_
    · rintro i x G G' hi ⟨sG, acc, hR, hacc⟩ ⟨rfl, hx⟩
      obtain ⟨f, hf, tf, zs, rfl, htf, hpf⟩ := A2.get hF hx
      have sG4 := s24.trans sG
      have lac := A2.len hacc
      rw [List.length_take] at lac
      refine ⟨rfl, tyes ⟨_, rfl, _, rfl, _, rfl, n, a, tf, xs, zs, cs, f, rfl, hn, .inl (sG4 _ _ ha), CmA.tu hA (TU.of sG4), okc, l8, sG _ _ htf, PrA.tu hpf (TU.of sG), fate_len (pf.mem_iff.mp (List.mem_of_getElem? hf)), fun G2 l ws sl nl hl hTh => ?_⟩⟩
      have hR2 := sl _ _ hR
      have nlR : l ≠ R := fun z => by rw [z, hR] at nl; cases nl
      refine ⟨acc, hR2, lt2 _ (by omega), (sG.trans sl).mut nR, _, upd_same, ?_⟩
      rw [take_more hf]
      have hs : Same (hid R G') (hid R (upd G2 R (.lst (acc ++ [.ref l])))) := hid_of fun b o nb hb => by rw [upd_ne nb]; exact sl _ _ hb
      refine (A2.imp (fun _ _ ⟨l2, z2, e2, h2, t2⟩ => ⟨l2, z2, e2, hs _ _ h2, ThA.tu t2 (TU.of hs)⟩) hacc).app (.cons ⟨l, ws, rfl, ?_, ?_⟩ .nil)
      · unfold hid
        rw [if_neg nlR, upd_ne nlR]; exact hl
      · exact ThA.tu hTh ((TU.kp (G := upd G2 R (.lst (acc ++ [.ref l]))) Kp.upd hR2 fun _ z => by cases z).trans (hid_tu (D := R) upd_same fun _ z => by cases z))
    · rintro G ⟨sG, rs, hR, hRs⟩
      rw [lys, List.take_length] at hRs
      have hRs2 : A2 (fun x (f : List Pr) => ∃ l zs, x = .ref l ∧ G l = some (.lst zs) ∧ ThA G zs (foundD f cs 0 (rowsN n) [])) rs fs := A2.imp (fun _ _ ⟨l2, z2, e2, h2, t2⟩ => ⟨l2, z2, e2, hid_same _ _ h2, ThA.tu t2 (TU.of hid_same)⟩) hRs
      clear hRs
      have sH := s24.trans sG
      have hAlG := sG _ _ hAl4
      have hAsG := ThA.tu hAs4 (TU.of sG)
      have hDG := sG _ _ hD
      have hFG := FtA.tu hF (TU.of sG)
      have las : as.length = cs.length := by rw [A2.len hAsG, found_len]
      refine ⟨_, rfl, Al, as, rfl, for_enumS (H0 := G) (.inl (sq hAlG)) (fun i σ M => ∃ v7 v8 v9 v10, σ = [some (.int n), some (.ref a), some (.ref lo), some (.int k), some (.ref Al), some (.ref D), some (.ref R), v7, v8, v9, v10] ∧ Same G M ∧ doubtD cs n fs = doubtG cs n fs i ((foundD [] cs 0 (rowsN n) []).drop i)) ⟨_, _, _, _, rfl, fun _ _ z => z, rfl⟩ ?_ ?_ ?_⟩
      · rintro i σ' M ⟨_, _, _, _, _, h, _⟩
        exact h
      · rintro i x σ M Tt hx ⟨v7, v8, v9, v10, rfl, sM, hdo⟩ nT
        obtain ⟨o, ho2, hox⟩ := A2.get hAsG hx
        have hxi : i < cs.length := by have := lt_of_get hx; omega
        rw [drop_get ho2] at hdo
        have k5 := same_new nT (o := .tup [.int (i : Nat), x])
        have hTt : (upd M Tt (.tup [.int (i : Nat), x])) Tt = some (.tup [.int (i : Nat), x]) := upd_same
        have s5 := sM.trans k5
        have hox5 := thO.tu hox (TU.of s5)
        generalize upd M Tt (.tup [.int (i : Nat), x]) = M1 at k5 hTt s5 hox5
        refine ⟨Tt, _, rfl, st hTt, rfl, _, _, rfl, _, _, rfl, rfl, _, rfl, by show 1 ≤ sizeLine; decide, fun t2 nt2 => ?_⟩
        have k6 := same_new nt2 (o := .tup [.str "none"])
        have hn2 : Dv (upd M1 t2 (.tup [.str "none"])) (.ref t2) (.tuple [.str "none"]) := .tup upd_same (.cons (.str _) .nil)
        have s6 := s5.trans k6
        have hox6 := thO.tu hox5 (TU.of k6)
        generalize upd M1 t2 (.tup [.str "none"]) = M2 at hn2 s6 hox6
        cases o with
        | none =>
          have hx0 : x = .non := hox6
          subst hx0
          refine ⟨.none, _, .non, hn2.dp rfl, by decide +kernel, th_shaped .no, _, rfl, itbF rfl ?_⟩
          exact ⟨_, rfl, rfl, _, rfl, itbF rfl ⟨_, _, _, _, rfl, s6, hdo⟩⟩
        | some th =>
          have hth := thK_dv hox6
          obtain ⟨tx, rfl, htx⟩ := hox6
          refine ⟨thD th, _, hth.dp (th_nodic th), hn2.dp rfl, th_shaped th, th_shaped .no, _, rfl, ?_⟩
          by_cases hno : th = .no
          · subst hno
            refine itbT (by decide +kernel) ⟨_, rfl, Nat.zero_le _, fun t3 nt3 => ⟨by show 2 ≤ sizeLine; decide, fun t4 nt4 => ?_⟩⟩
            have e1 : doubtD cs n fs = some (i, []) := hdo
            rw [e1] at fin
            refine fin _ t4 (sH.trans ((s6.new nt3).new nt4)) (.tup upd_same (.cons (.int _) (.cons ?_ .nil)))
            exact (Dv.tup (upd_same (H := M2)) .nil : Dv (upd M2 t3 (.tup [])) (.ref t3) (.tuple [])).same (same_new nt4)
          · refine itbF (th_ne th hno) ?_
            refine ⟨_, rfl, rfl, _, rfl, itbT rfl ?_⟩
            have hDM := s6 _ _ hDG
            have hRM := s6 _ _ hR
            have lrs : rs.length = fs.length := A2.len hRs2
            refine ⟨_, rfl, _, rfl, D, R, ys, rs, rfl, zip_walkL hDM hRM fun J Gd wk kp => ?_⟩
            refine for_it wk (fun j σ N => ∃ v9 v10, σ = [some (.int n), some (.ref a), some (.ref lo), some (.int k), some (.ref Al), some (.ref D), some (.ref R), some (.int (i : Nat)), some (.ref tx), v9, v10] ∧ Same M2 N ∧ ∀ f ∈ fs.take j, badAt cs n i th f = false) ⟨_, _, rfl, fun _ _ z => z, by simp⟩ (fun j σ N _ h => by obtain ⟨_, _, _, z, _⟩ := h; exact kp _ z) ?_ ?_
            · rintro j y σ N N' hj ⟨v9, v10, rfl, sN, hb⟩ ⟨T2, y1, y2, rfl, nT2, rfl, hy1, hy2⟩
              obtain ⟨f, hf, tf, zs, rfl, htf, hpf⟩ := A2.get hFG hy1
              obtain ⟨f', hf', l2, ws, rfl, hl2, hws⟩ := A2.get hRs2 hy2
              obtain rfl : f' = f := Option.some.inj (hf'.symm.trans hf)
              have sG2 := (s6.trans sN).new nT2 (o := .tup [.ref tf, .ref l2])
              have hws2 := ThA.tu hws (TU.of sG2)
              have lws : ws.length = cs.length := by rw [A2.len hws2, found_len]
              have hwi : ws[i]? = some (ws[i]'(by omega)) := List.getElem?_eq_getElem _
              generalize ws[i]'(by omega) = y3 at hwi
              obtain ⟨o3, ho3, hy3⟩ := A2.get hws2 hwi
              refine ⟨T2, _, rfl, st upd_same, rfl, _, _, rfl, _, _, rfl, rfl, _, rfl, _, rfl, l2, ws, i, y3, rfl, rfl, sq (sG2 _ _ hl2), at_of (j := i) rfl hwi, ?_⟩
              cases o3 with
              | none =>
                have h1 := found_ask f' cs 0 (rowsN n) [] i ho3
                have h2 := found_ask2 [] cs 0 (rowsN n) [] i h1
                rw [ho2] at h2; cases h2
              | some u =>
                obtain ⟨tu, rfl, htu⟩ := hy3
                have htx2 := (sN.new nT2 (o := .tup [.ref tf, .ref l2])) _ _ htx
                have sN2 := sN.new nT2 (o := .tup [.ref tf, .ref l2])
                have ebad : badAt cs n i th f' = decide (tailT u ≠ tailT th) := by unfold badAt; rw [ho3]
                refine ⟨1, rfl, ?_⟩
                dsimp only [tNoPart]
                refine slA_go htu fun b1 J1 k1 hb1 => ?_
                refine ⟨_, rfl, 1, rfl, ?_⟩
                dsimp only [tNoPart]
                refine slA_go (k1 _ _ htx2) fun b2 J2 k2 hb2 => ?_
                have hd1 : Dv J2 (.ref b1) (.tuple ((tailT u).map PyData.int)) := by
                  have := k2 _ _ hb1
                  rw [cut_th] at this
                  exact .tup this (dv_int _)
                have hd2 : Dv J2 (.ref b2) (.tuple ((tailT th).map PyData.int)) := by
                  rw [cut_th] at hb2
                  exact .tup hb2 (dv_int _)
                refine ⟨_, _, hd1.dp (tl_nodic u), hd2.dp (tl_nodic th), tl_shaped u, tl_shaped th, _, rfl, ?_⟩
                rw [tl_eqv]
                by_cases he : tailT u = tailT th
                · refine itbF (by rw [decide_eq_true he]; rfl) ⟨_, _, rfl, (sN2.trans k1).trans k2, fun g hg => ?_⟩
                  rw [take_more hf] at hg
                  rcases List.mem_append.mp hg with hg | hg
                  · exact hb g hg
                  · rw [List.mem_singleton.mp hg, ebad]
                    exact decide_eq_false fun z => z he
                · refine itbT (by rw [decide_eq_false he]; rfl) ⟨_, rfl, _, rfl, by show 2 ≤ sizeLine; decide, fun t4 nt4 => ?_⟩
                  have hj2 : j < fs.length := lt_of_get hf
                  have e1 : fs.find? (badAt cs n i th) = some f' := by
                    refine List.find?_eq_some_iff_append.mpr ⟨by rw [ebad]; exact decide_eq_true he, fs.take j, fs.drop (j + 1), ?_, fun g hg => by rw [hb g hg]; rfl⟩
                    rw [← drop_get hf, List.take_append_drop]
                  have e2 : doubtD cs n fs = some (i, f') := by
                    rw [hdo]
                    cases th with
                    | no => exact absurd rfl hno
                    | gone l => show (match fs.find? _ with | some f => some (i, f) | none => _) = _; rw [e1]
                    | here l => show (match fs.find? _ with | some f => some (i, f) | none => _) = _; rw [e1]
                  rw [e2] at fin
                  have sJ := (s6.trans sN2).trans (k1.trans k2)
                  refine fin _ t4 (sH.trans (sJ.new nt4)) (.tup upd_same (.cons (.int _) (.cons ?_ .nil)))
                  exact (Dv.tup (sJ _ _ htf) (PrA.dv (PrA.tu hpf (TU.of sJ))) : Dv J2 (.ref tf) (fateD f')).same (same_new nt4)
            · rintro σ N ⟨v9, v10, rfl, sN, hb⟩
              refine ⟨_, _, _, _, rfl, s6.trans sN, ?_⟩
              rw [hdo]
              have e1 : fs.find? (badAt cs n i th) = none := by
                refine List.find?_eq_none.mpr fun f hf => ?_
                have := hb f (by rw [lys, lrs, Nat.min_self, List.take_length]; exact hf)
                rw [this]; exact Bool.false_ne_true
              cases th with
              | no => exact absurd rfl hno
              | gone l => show (match fs.find? _ with | some f => some (i, f) | none => _) = _; rw [e1]
              | here l => show (match fs.find? _ with | some f => some (i, f) | none => _) = _; rw [e1]
      · rintro σ M ⟨v7, v8, v9, v10, rfl, sM, hdo⟩
        have e1 : (foundD [] cs 0 (rowsN n) []).drop as.length = [] := List.drop_of_length_le (by rw [las, found_len]; exact Nat.le_refl _)
        rw [e1] at hdo
        rw [hdo] at fin
        exact fin M (sH.trans sM)
end
end K1


set_option Elab.async false
set_option linter.all false
set_option maxRecDepth 100000
set_option maxHeartbeats 4000000
/-! k30: turned and played. -/
namespace K1
open PySem PySem.Spec PyProof.Rows L2 RZ
def spTg : Sp := fun vs H Q _ => ∃ (n : Nat) (a : Addr) (xs : List V) (cs : List Cm), vs = [.int n, .ref a] ∧ n ≤ 10 ∧ H a = some (.lst xs) ∧ CmA H xs cs ∧ cs.length ≤ 8 ∧ numOk (.int n) = true ∧ rowErr (some (n : Int)) (.list (cs.map cmD)) = none ∧
  ∀ H' D ys, Same H H' → H D = none → H' D = some (.lst ys) → OcA H' ys (turnD cs (rowsN n) []) → Q (.ref D) H'
def spPg : Sp := fun vs H Q _ => ∃ (n : Nat) (a lo f : Addr) (xs fs : List V) (cs : List Cm) (ls : List Int) (k : Int) (fate : List Pr), vs = [.int n, .ref a, .ref lo, .int k, .ref f] ∧ n ≤ 10 ∧ H a = some (.lst xs) ∧ CmA H xs cs ∧ (∀ c ∈ cs, cmOk c) ∧ cs.length ≤ 8 ∧ H lo = some (.tup (ls.map V.int)) ∧ ls.length ≤ 1000 ∧ chkG n cs ls k ∧ k ≤ 1000 ∧
  H f = some (.tup fs) ∧ PrA H fs fate ∧ fate.length ≤ 2 ∧ fateOk cs.length ls k (fateD fate) = true ∧ ∀ H' D ys, Same H H' → H D = none → H' D = some (.lst ys) → ThA H' ys (foundD fate cs 0 (rowsN n) []) → Q (.ref D) H'
section
variable {P : Program} {w : World} {K : PySem.W.Frag} {mg : Str → Option Value} {base : Heap} {C CN CR CV fV : Addr}
theorem ok_tg {f : Addr} {fd : FuncData} (D_check_number : Def P w K mg base (L2.CX P w) 3 "_check_number" nCkNum (spCkNum CN)) (D_check_row : Def P w K mg base (L2.CX P w) 4 "_check_row" pCkRow (spCkRow CR)) (D_turned : Def P w K mg base CX0 3 "_turned" pTu spTu)
    (F : Fun K "turned" "turned" sTurned f fd) : FnOk P w K mg base (L2.CX P w) 5 f fd nTurned spTg := by
  refine F.okX scTurned (fun vs H Q E h => ?_) (fun cdv A outer s H vs Q E hr h => ?_)
  · obtain ⟨n, a, xs, cs, rfl, _⟩ := h
    rfl
  · obtain ⟨n, a, xs, cs, rfl, hn, ha, hA, l8, ok1, ok2, q⟩ := h
    refine ⟨_, pss_cons (ps_expr (pe_def D_check_number (hr.mono (by decide)) rfl (passes_call (takes_of rfl rfl rfl rfl) (fun _ _ _ _ h => h)) (pa_cons (pv 0) pa_nil)))
 (pss_cons (ps_expr (pe_def D_check_row (hr.mono (by decide)) rfl (passes_call (takes_of rfl rfl rfl rfl) (fun _ _ _ _ h => h)) (pa_cons (pv 1) (pa_cons (pv 0) pa_nil))))
 (pss_one (ps_ret (pe_def D_turned (hr.mono (by decide)) rfl pass0 (pa_cons (pv 0) (pa_cons (pv 1) pa_nil)))))), ?_⟩
    refine ⟨_, rfl, .int n, .int n, rfl, .int n, fun _ => ?_, fun z => by rw [ok1] at z; cases z⟩
    refine ⟨_, rfl, _, rfl, .ref a, _, some (n : Int), rfl, .lst ha hA.dv, fun _ H1 s1 => ?_, fun i z => by rw [ok2] at z; cases z⟩
    exact ⟨_, rfl, _, rfl, n, a, xs, cs, rfl, hn, .inl (s1 _ _ ha), CmA.tu hA (TU.of s1), l8, fun H' D ys s2 nD hD hO => q H' D ys (s1.trans s2) (s1.free nD) hD hO⟩
theorem ok_pg {f : Addr} {fd : FuncData} (D_check : Def P w K mg base (L2.CX P w) 5 "_check" nCk (spCk CN CR CV)) (D_is_fate : Def P w K mg base CX0 2 "_is_fate" pFate spFate) (D_found : Def P w K mg base CX0 3 "_found" pFo spFo)
    (F : Fun K "played" "played" sPlayed f fd) : FnOk P w K mg base (L2.CX P w) 6 f fd nPlayed spPg := by
  refine F.okX scPlayed (fun vs H Q E h => ?_) (fun cdv A outer s H vs Q E hr h => ?_)
  · obtain ⟨n, a, lo, f, xs, fs, cs, ls, k, fate, rfl, _⟩ := h
    rfl
  · obtain ⟨n, a, lo, fa, xs, fs, cs, ls, k, fate, rfl, hn, ha, hA, okc, l8, hlo, l1, hck, hk, hf, hF, l2, hfo, q⟩ := h
    have lx : xs.length = cs.length := A2.len hA
    refine ⟨_, pss_cons (ps_expr (pe_def D_check (hr.mono (by decide)) rfl (passes_call (takes_of rfl rfl rfl rfl) (fun _ _ _ _ h => h)) (pa_cons (pv 0) (pa_cons (pv 1) (pa_cons (pv 2) (pa_cons (pv 3) pa_nil))))))
 (pss_cons (ps_if (pt_not (pt_val (pe_def D_is_fate (hr.mono (by decide)) rfl pass0 (pa_cons (pv 4) (pa_cons (pv 1) (pa_cons (pv 2) (pa_cons (pv 3) pa_nil))))))) pss_any pss_nil)
 (pss_one (ps_ret (pe_def D_found (hr.mono (by decide)) rfl pass0 (pa_cons (pv 0) (pa_cons (pv 1) (pa_cons (pv 4) pa_nil))))))), ?_⟩
    refine ⟨_, rfl, _, rfl, _, rfl, _, rfl, .int n, .ref a, .ref lo, .int k, _, _, _, _, rfl, four_of ha hA hlo l1, fun _ H1 s1 => ?_, fun e he => by rw [hck] at he; cases he⟩
    refine ⟨_, rfl, _, rfl, _, rfl, _, rfl, .ref fa, fateD fate, a, lo, xs, ls, k, rfl, .tup (s1 _ _ hf) (PrA.dv (PrA.tu hF (TU.of s1))), .inl (s1 _ _ ha), s1 _ _ hlo, hk, fun H2 s2 => ?_⟩
    rw [lx, hfo]
    refine ⟨_, rfl, itbF rfl ?_⟩
    have s12 := s1.trans s2
    exact ⟨_, rfl, _, rfl, _, rfl, n, a, fa, xs, fs, cs, fate, rfl, hn, .inl (s12 _ _ ha), CmA.tu hA (TU.of s12), okc, l8, s12 _ _ hf, PrA.tu hF (TU.of s12), l2, fun H' D ys s3 nD hD hT => q H' D ys (s12.trans s3) (s12.free nD) hD hT⟩
end
end K1


set_option Elab.async false
set_option linter.all false
set_option maxRecDepth 100000
set_option maxHeartbeats 4000000
namespace K1
open PySem PySem.Spec PyProof.Rows L2 RZ
/-- name = {k: v for ..} on one line, the name a local, keys ints or strings -/
theorem ps_setDcK {X : Cx} {i : Nat} {y : Str} {py : Pos} {kx vx tg iter : Expr} {ifs : List Expr} {scope : Scope} {own : List (Str × Nat)} {pos spos : Pos} {wi : TI} {g : TG} {tt : TT} {tk tv : TE} (calm : X.calm = true) (hN : X.N.Nodup) (hy : X.N[i]? = some y) (hyl : X.env.scope.names.lookup y = some .local)
    (hsw : swapsWith (.DictComp kx vx [⟨tg, iter, ifs, 0⟩] scope pos) (some (.Name y py)) spos.line X.env = pure true) (hi : PI X tg iter wi) (ok : BlkOk X.N X.env.scope scope own)
    (hg : ∀ (s : Shared) (G : Hp) (C : Addr) (cl : List (Str × Addr)) (fp : List Addr), PG (X.blk s G scope (compEnvC scope cl C X.env) fp) tg g) (ht : ∀ (s : Shared) (G : Hp) (C : Addr) (cl : List (Str × Addr)) (fp : List Addr), PTs (X.blk s G scope (compEnvC scope cl C X.env) fp) ifs tt)
    (hk : ∀ (s : Shared) (G : Hp) (C : Addr) (cl : List (Str × Addr)) (fp : List Addr), PE (X.blk s G scope (compEnvC scope cl C X.env) fp) kx tk) (hv : ∀ (s : Shared) (G : Hp) (C : Addr) (cl : List (Str × Addr)) (fp : List Addr), PE (X.blk s G scope (compEnvC scope cl C X.env) fp) vx tv)
    (hs : ∀ x, foldedSetIterable iter X.env x = pure x := by intro _; rfl) : PS X (.Assign [.Name y py] (.DictComp kx vx [⟨tg, iter, ifs, 0⟩] scope pos) spos) (tAsg (tDc wi g tt tk tv (own.map (·.2))) (gName i)) := by
  refine ⟨fun pins s σ H D I h => ?_⟩
  rw [exec_Assign_Name_used _ _ _ _ hsw]
  refine wpAny_bind (wpAny_standAt (wpAny_bind ?_)); show wpAny _ X.A (do let _ ← comprehension (.DictComp kx vx [⟨tg, iter, ifs, 0⟩] scope pos) scope X.env (firstIterPos [⟨tg, iter, ifs, 0⟩] pos) newDict false (eval iter X.env) (some (assign (.Name y py) X.env))) _ _ s
  have h : tDc wi g tt tk tv (own.map (·.2)) σ H (fun x G => gName i x σ G D.nx) := h
  refine wpAny_bind (thn (dc_core (Qf := fun _ s' => SP X pins D .next s') calm hN I hi ok hg ht hk hv hs h fun L C s' m G I' q hn ⟨k0, k1, k2, k3, k4, k5⟩ => ?_) fun _ s' z => wpAny_pure (wpAny_pure z))
  show wpAny _ _ (assign (.Name y py) X.env (.ref L)) _ _ _; refine wpAny_assign_Name (store_ok2 (v := V.ref L) I' hN hy (.inl hyl) rfl (fun s2 I2 ⟨a, sb, ha⟩ => ?_) (.inr hyl))
  have apart : C ≠ a := ha.elim (fun z => by rw [z]; exact k1) fun z e => k4 y a z e.symm
  exact ⟨m, hn.sameBut sb apart, fun h3 sb3 => ⟨_, G, I2.turned (t' := s2.toks) (fun b o hb z => (sb3.2 b hb).trans z) k0 k1 k3 k4 k5, q⟩⟩
theorem sw_trueD {kx vx : Expr} {gs : List Comprehension} {scope : Scope} {pos py : Pos} {y : Str} {l : Nat} {env : Env} (hk : env.scope.kind = .function) (hy : env.scope.names.lookup y = some .local) (hl : (py.line == pos.line) = true)
    (ha : (scope.names.any fun (n, k) => n == y && (k == .local || k == .cell)) = false) : swapsWith (.DictComp kx vx gs scope pos) (some (.Name y py)) l env = pure true := by
  have e1 : env.kindOf y = some .local := hy
  have e2 : env.blockKind = .function := by unfold Env.blockKind; rw [hk]; rfl
  unfold swapsWith
  simp only [e2, e1, ha, Expr.pos, hl]; rfl
theorem dc_it {J : It} {n : Nat} {Gd : Hp → Prop} {Y : Nat → Hp → V → Hp → Prop} (w : Walk J n Gd Y) {g : TG} {tt : TT} {tk tv : TE} {vs : List Nat} {σ : L2.St} {H1 : Hp} {D : Addr} {Qd : Hp → Prop} (Pv : Nat → Hp → Prop) (h0 : Pv 0 (upd H1 D (.dK []))) (hG : ∀ i H, i ≤ n → Pv i H → Gd H)
    (hs : ∀ i x H H', i < n → Pv i H → Y i H x H' → g x (wipe σ vs) H' fun σ2 H2 => wipe σ2 vs = wipe σ vs ∧ tt σ2 H2 fun b H3 =>
      if b = true then tk σ2 H3 fun y H4 => tv σ2 H4 fun z H5 => ∃ kvs k, y = kV k ∧ H5 D = some (.dK kvs) ∧ kvs.length < sizeLine ∧ Pv (i + 1) (upd H5 D (.dK (putK kvs k z))) else Pv (i + 1) H3) (hd : ∀ H, Pv n H → Qd H) :
    ∃ W : Nat → Nat → Hp → Prop, (∃ m, W 0 m (upd H1 D (.dK []))) ∧ ∀ i m H, W i m H →
      (J.stop i H ∧ Qd H) ∨ (J.go i H ∧ ∃ Nx : Hp → Prop, (∀ H', Nx H' → ∃ m', m' < m ∧ W (i + 1) m' H') ∧ ∀ x H', J.yld i H x H' → g x (wipe σ vs) H' fun σ2 H2 => wipe σ2 vs = wipe σ vs ∧ tt σ2 H2 fun b H3 =>
        if b = true then tk σ2 H3 fun y H4 => tv σ2 H4 fun z H5 => ∃ kvs k, y = kV k ∧ H5 D = some (.dK kvs) ∧ kvs.length < sizeLine ∧ Nx (upd H5 D (.dK (putK kvs k z))) else Nx H3) := by
  refine ⟨fun i m H => m = n - i ∧ i ≤ n ∧ Pv i H, ⟨n, by simp, Nat.zero_le _, h0⟩, ?_⟩
  rintro i m H ⟨rfl, hi, p⟩
  have q := hG i H hi p
  by_cases hlt : i < n
  · exact .inr ⟨w.goes i H hlt q, Pv (i + 1), fun H' p' => ⟨n - (i + 1), by omega, rfl, hlt, p'⟩, fun x H' y => hs i x H H' hlt p (w.yields i H x H' hlt q y)⟩
  · have e : i = n := by omega
    subst e
    exact .inl ⟨w.stops H q, hd H p⟩
end K1


set_option Elab.async false
set_option linter.all false
set_option maxRecDepth 100000
set_option maxHeartbeats 4000000
/-! k30: by_number. -/
namespace K1
open PySem PySem.Spec PyProof.Rows L2 RZ
def tailC : Cm → List Int
  | .ask => []
  | .look k => [k]
  | .take k => [k]
theorem cut_cm (u : Cm) : cutV (cmV u) (some 1) none = (tailC u).map V.int := by cases u <;> rfl
theorem tc_nodic (u : Cm) : noDic (.tuple ((tailC u).map PyData.int)) = true := by cases u <;> rfl
theorem tc_shaped (u : Cm) : PySem.SeqAt.shaped (.tuple ((tailC u).map PyData.int)) = true := by
  cases u <;> exact shaped_of (by simp [tailC, PyData.canLay0, PyData.canLayAll0]) (by decide : (1 : Nat) ≤ 64)
theorem tc_eqv (u : Th) (v : Cm) : PyData.eqv (.tuple ((tailT u).map PyData.int)) (.tuple ((tailC v).map PyData.int)) = decide (tailT u = tailC v) := by
  cases u <;> cases v <;> simp [tailT, tailC, PyData.eqv, PyData.eqvAll] <;> rfl
/-- what one thing adds to the named -/
def nmT (cs : List Cm) (ns : List Int) (p : Option Th × Nat) : List Int := match p.1 with | none => ns | some th => if tailT th ≠ tailC (cs.getD p.2 .ask) then putG ns p.2 else ns
def nmO (ns : List Int) (p : Option Cm × Nat) : List Int := match p.1 with | none => putG ns p.2 | some _ => ns
def nm0 (os : List (Option Cm)) : List Int := os.zipIdx.foldl nmO []
def nmF (cs : List Cm) (os : List (Option Cm)) (n : Nat) (fs : List (List Pr)) : List Int := fs.foldl (fun ns f => (fblD f cs os 0 (rowsN n) []).zipIdx.foldl (nmT cs) ns) (nm0 os)
def chkB (n : Int) (cs : List Cm) (ls : List Int) (k : Int) : Prop := numOk (.int n) = true ∧ rowErr (some n) (.list (cs.map cmD)) = none ∧ looseOk n (.tuple (ls.map PyData.int)) = true ∧ kOk (.int k) = true
def spBy : Sp := fun vs H Q _ => ∃ (n : Nat) (a lo : Addr) (xs : List V) (cs : List Cm) (ls : List Int) (k : Int), vs = [.int n, .ref a, .ref lo, .int k] ∧ n ≤ 10 ∧ SeqH H a xs ∧ CmA H xs cs ∧ cs.length ≤ 8 ∧ (∀ o ∈ turnD cs (rowsN n) [], ocOk o) ∧ H lo = some (.tup (ls.map V.int)) ∧ ls.length ≤ 1000 ∧ (singlesD ls cs.length).length ≤ 42 ∧ chkB n cs ls k ∧
  ∀ fs : List (List Pr), fs.Perm (fatesD ls cs.length k) → ∀ H' R (ys : List Int), Same H H' → H' R = some (.lst (ys.map V.int)) → ys.Perm (nmF cs (turnD cs (rowsN n) []) n fs) → ys.Pairwise (· ≤ ·) → Q (.ref R) H'
theorem turn_len : ∀ (cs : List Cm) (rows gone : List Int), (turnD cs rows gone).length = cs.length
  | [], _, _ => rfl
  | .ask :: r, rows, gone => by show _ + 1 = _ + 1; rw [turn_len r]
  | .look k :: r, rows, gone => by show _ + 1 = _ + 1; rw [turn_len r]
  | .take k :: r, rows, gone => by show _ + 1 = _ + 1; rw [turn_len r]
theorem fbl_len (f : List Pr) : ∀ (cs : List Cm) (os : List (Option Cm)) (m : Nat) (rows gone : List Int), os.length = cs.length → (fblD f cs os m rows gone).length = cs.length
  | [], [], _, _, _, _ => rfl
  | c :: r, o :: t, m, rows, gone, h => by show _ + 1 = _ + 1; rw [fbl_len f r t _ _ _ (by simpa using h)]
  | [], _ :: _, _, _, _, h => by simp at h
  | _ :: _, [], _, _, _, h => by simp at h
theorem nd_len : ∀ (L ns : List Int), ns.Nodup → (∀ x ∈ ns, x ∈ L) → ns.length ≤ L.length
  | [], [], _, _ => Nat.le_refl _
  | [], x :: r, _, h => by have := h x (by simp); cases this
  | a :: L, ns, nd, h => by
    have h1 := nd_len L (ns.erase a) (nd.erase a) fun x hx => by
      have h2 := (List.Nodup.mem_erase_iff nd).mp hx
      rcases List.mem_cons.mp (h x h2.2) with e | e
      · exact absurd e h2.1
      · exact e
    rw [List.length_erase] at h1
    rw [List.length_cons]
    split at h1 <;> omega
def NmOk (ns : List Int) : Prop := ns.Nodup ∧ ∀ x ∈ ns, x ∈ rowsN' where
  rowsN' : List Int := [0, 1, 2, 3, 4, 5, 6, 7]
theorem NmOk.put {ns : List Int} (h : NmOk ns) {j : Nat} (hj : j < 8) : NmOk (putG ns (j : Int)) := by
  have hm : ((j : Nat) : Int) ∈ NmOk.rowsN' := by
    have : ∀ j < 8, ((j : Nat) : Int) ∈ NmOk.rowsN' := by decide +kernel
    exact this j hj
  unfold putG
  split
  · exact h
  · rename_i n
    refine ⟨List.nodup_append.mpr ⟨h.1, by simp, fun a ha b hb e => n ?_⟩, fun x hx => ?_⟩
    · rw [List.mem_singleton.mp hb] at e
      rw [← e]; exact ha
    · rcases List.mem_append.mp hx with hx | hx
      · exact h.2 x hx
      · rw [List.mem_singleton.mp hx]; exact hm
theorem fold_ok {β : Type} {f : List Int → β × Nat → List Int} (l : List β) (l8 : l.length ≤ 8) (hf : ∀ ns p, p.2 < 8 → NmOk ns → NmOk (f ns p)) (ns : List Int) (h : NmOk ns) : NmOk (l.zipIdx.foldl f ns) := by
  have key : ∀ (L : List (β × Nat)), (∀ p ∈ L, p.2 < 8) → ∀ ns, NmOk ns → NmOk (L.foldl f ns) := fun L => by
    induction L with
    | nil => intro _ ns h; exact h
    | cons p r ih => intro hp ns h; exact ih (fun q hq => hp q (by simp [hq])) _ (hf ns p (hp p (by simp)) h)
  refine key _ (fun p hp => ?_) ns h
  obtain ⟨x, i⟩ := p
  have := lt_of_get (List.mem_zipIdx_iff_getElem?.mp hp)
  show i < 8
  omega
theorem nmF_ok {cs : List Cm} {os : List (Option Cm)} {n : Nat} (l8 : cs.length ≤ 8) (hl : os.length = cs.length) (fs : List (List Pr)) : NmOk (nmF cs os n fs) := by
  have h0 : NmOk (nm0 os) := fold_ok os (by omega) (fun ns p hp h => by
    unfold nmO
    split
    · exact h.put hp
    · exact h) [] ⟨.nil, fun x hx => by cases hx⟩
  have h1 : ∀ (fs : List (List Pr)) (ns : List Int), NmOk ns → NmOk (fs.foldl (fun ns f => (fblD f cs os 0 (rowsN n) []).zipIdx.foldl (nmT cs) ns) ns) := fun fs => by
    induction fs with
    | nil => intro ns h; exact h
    | cons f r ih =>
      intro ns h
      refine ih _ (fold_ok _ (by rw [fbl_len f cs os 0 _ _ hl]; exact l8) (fun ns p hp h => ?_) ns h)
      unfold nmT
      split
      · exact h
      · split
        · exact h.put hp
        · exact h
  exact h1 fs _ h0
theorem nmF_lt {cs : List Cm} {os : List (Option Cm)} {n : Nat} (l8 : cs.length ≤ 8) (hl : os.length = cs.length) (fs : List (List Pr)) : (nmF cs os n fs).length < 64 := by
  have h2 := nmF_ok (n := n) l8 hl fs
  have := nd_len _ _ h2.1 h2.2
  have e : NmOk.rowsN'.length = 8 := rfl
  omega
section
variable {P : Program} {w : World} {K : PySem.W.Frag} {mg : Str → Option Value} {base : Heap} {C CN CR CV : Addr}
theorem ok_by2 {f : Addr} {fd : FuncData} (T : Bj mg) (D_check_number : Def P w K mg base (L2.CX P w) 3 "_check_number" nCkNum (spCkNum CN)) (D_check_row : Def P w K mg base (L2.CX P w) 4 "_check_row" pCkRow (spCkRow CR))
    (D_check_others : Def P w K mg base (L2.CX P w) 4 "_check_others" nCkOth (spCkOth CV)) (D_turned : Def P w K mg base CX0 3 "_turned" pTu spTu) (D_fates : Def P w K mg base CX0 1 "_fates" pFt spFt) (D_fbl : Def P w K mg base CX0 3 "_found_by_letters" pFb spFb)
    (F : Fun K "by_number" "by_number" sBy f fd) : FnOk P w K mg base (L2.CX P w) 5 f fd pBy spBy := by
  have nd := scBy.nd
  refine F.okX scBy (fun vs H Q E h => ?_) (fun cdv A outer s H vs Q E hr h => ?_)
  · obtain ⟨n, a, lo, xs, cs, ls, k, rfl, _⟩ := h
    rfl
  · obtain ⟨n, a, lo, xs, cs, ls, k, rfl, hn, ha, hA, l8, oko, hlo, l1, l40, ⟨ck1, ck2, ck3, ck4⟩, q⟩ := h
    refine ⟨_, (pss_cons (ps_expr (pe_def D_check_number (hr.mono (by decide)) rfl (passes_call (takes_of rfl rfl rfl rfl) (fun _ _ _ _ h => h)) (pa_cons (pv 0) pa_nil)))
 (pss_cons (ps_expr (pe_def D_check_row (hr.mono (by decide)) rfl (passes_call (takes_of rfl rfl rfl rfl) (fun _ _ _ _ h => h)) (pa_cons (pv 1) (pa_cons (pv 0) pa_nil))))
 (pss_cons (ps_expr (pe_def D_check_others (hr.mono (by decide)) rfl (passes_call (takes_of rfl rfl rfl rfl) (fun _ _ _ _ h => h)) (pa_cons (pv 0) (pa_cons (pv 2) (pa_cons (pv 3) pa_nil)))))
 (pss_cons (ps_set (i := 4) nd rfl (Or.inl rfl) (pe_def D_turned (hr.mono (by decide)) rfl pass0 (pa_cons (pv 0) (pa_cons (pv 1) pa_nil))))
 (pss_cons (ps_setDcK (i := 5) (own := [("at", 6), ("command", 7)]) (g := gTup K 2 (gCons (gName 6) (gCons (gName 7) gNil))) rfl nd rfl rfl (sw_trueD rfl rfl rfl (by decide +kernel)) (pi_enumSK (K := K) rfl (by rfl) T.enumerate (pa_cons (pv 4) pa_nil)) (blkOk_by (own := [("at", 6), ("command", 7)]) (N := nBy) (sc := defScope sBy) (by decide +kernel)) (fun _ _ _ _ _ => pg_tup rfl (pgs_cons (pg_name (i := 6) nd rfl (Or.inl rfl)) (pgs_cons (pg_name (i := 7) nd rfl (Or.inl rfl)) pgs_nil))) (fun _ _ _ _ _ => pts_one (pt_cmpR op_isN (pv 7) pe_non (nomark _))) (fun _ _ _ _ _ => (pv 6)) (fun _ _ _ _ _ => pe_bl))
 (pss_cons (ps_for (passes_of rfl) rfl (pi_listK (K := K) rfl (pe_def D_fates (hr.mono (by decide)) rfl pass0 (pa_cons (pv 4) (pa_cons (pv 2) (pa_cons (pv 3) pa_nil))))) (pg_name (i := 8) nd rfl (Or.inl rfl))
  (pss_one (ps_for (passes_of rfl) rfl (pi_enumSK (K := K) rfl (by rfl) T.enumerate (pa_cons (pe_def D_fbl (hr.mono (by decide)) rfl pass0 (pa_cons (pv 0) (pa_cons (pv 1) (pa_cons (pv 4) (pa_cons (pv 8) pa_nil))))) pa_nil)) (pg_tup rfl (pgs_cons (pg_name (i := 6) nd rfl (Or.inl rfl)) (pgs_cons (pg_name (i := 9) nd rfl (Or.inl rfl)) pgs_nil)))
  (pss_one (ps_if (PW.pt (pw_and (pt_cmpR op_notN (pv 9) pe_non (nomark _)) (pw_and1 (pt_cmpR (op_neD2 (K := K) rfl (Room.u65 hr)) (pe_slice (sl_tupAK (K := K) rfl) (pv 9) (po_some pe_int) po_none) (pe_slice (sl_tupAK (K := K) rfl) (pe_ix (ix_seqK (K := K) rfl) (pv 1) (pv 6) (fun _ _ => rfl)) (po_some pe_int) po_none) (nomark _)))))
  (pss_one (ps_dput (hu_of hr) (pv 5) (pv 6) pe_bl (by rfl)))
  pss_nil)))))
 (pss_one (ps_ret (pe_callB (call_sortedDI rfl) (by rfl) T.sorted PyProof.Rows.boot_sorted (pa_cons (pv 5) pa_nil)))))))))), ?_⟩
    refine ⟨_, rfl, .int n, .int n, rfl, .int n, fun _ => ?_, fun z => by rw [ck1] at z; cases z⟩
    obtain ⟨dr, hdr, edr⟩ : ∃ dr, Dv H (.ref a) dr ∧ rowErr (some (n : Int)) dr = rowErr (some (n : Int)) (.list (cs.map cmD)) := by
      rcases ha with ha | ha
      · exact ⟨_, .lst ha hA.dv, rfl⟩
      · exact ⟨_, .tup ha hA.dv, rfl⟩
    refine ⟨_, rfl, _, rfl, .ref a, dr, some (n : Int), rfl, hdr, fun _ H1 s1 => ?_, fun i z => by rw [edr, ck2] at z; cases z⟩
    refine ⟨_, rfl, _, rfl, _, rfl, n, .ref lo, .int k, _, .int k, rfl, .tup (s1 _ _ hlo) (dv_int ls), .int k, by show (ls.map PyData.int).length ≤ 1000; rw [List.length_map]; exact l1, fun _ _ H2 s2 => ?_, (fun z => by rw [ck3] at z; cases z), (fun _ z => by rw [ck4] at z; cases z)⟩
    have s12 := s1.trans s2
    refine ⟨_, rfl, _, rfl, n, a, xs, cs, rfl, hn, ha.same s12, CmA.tu hA (TU.of s12), l8, fun H3 Rw os3 s3 nRw hRw hO => ?_⟩
    have s13 := s12.trans s3
    have los : os3.length = cs.length := by rw [A2.len hO, turn_len]
    have hlen := turn_len cs (rowsN n) []
    generalize htd : turnD cs (rowsN n) [] = os at hO oko q hlen
    refine ⟨_, rfl, Rw, os3, rfl, .inl ⟨sq hRw, fun Nd nNd => ?_⟩⟩
    refine dc_it walk_enum (fun i G => Same H3 G ∧ G Nd = some (.dK (gkV ((os.zipIdx.take i).foldl nmO []))) ∧ ((os.zipIdx.take i).foldl nmO []).length ≤ i) ⟨same_new nNd, upd_same, Nat.zero_le _⟩ (fun i G _ h => sq (h.1 _ _ hRw)) ?_ ?_
    · rintro i y G G' hi ⟨sG, hN, lN⟩ ⟨T2, y1, y2, rfl, nT2, rfl, hy1, hy2⟩
      cases hy1
      obtain ⟨o, ho, hox⟩ := A2.get hO hy2
      have k5 := same_new nT2 (o := .tup [.int (i : Nat), y2])
      have hT2 : (upd G T2 (.tup [.int (i : Nat), y2])) T2 = some (.tup [.int (i : Nat), y2]) := upd_same
      have sG5 := sG.trans k5
      have hN5 := k5 _ _ hN
      have hox5 := ocO.tu hox (TU.of sG5)
      generalize upd G T2 (.tup [.int (i : Nat), y2]) = G5 at k5 hT2 sG5 hN5 hox5
      have hz : os.zipIdx[i]? = some (o, i) := by rw [List.getElem?_zipIdx, ho]; simp
      have hfo : (os.zipIdx.take (i + 1)).foldl nmO [] = nmO ((os.zipIdx.take i).foldl nmO []) (o, i) := by rw [take_more hz, List.foldl_append]; rfl
      rw [hfo]
      refine ⟨T2, _, rfl, st hT2, rfl, _, _, rfl, _, _, rfl, rfl, rfl, _, rfl, rfl, _, rfl, ?_⟩
      cases o with
      | none =>
        have hx0 : y2 = .non := hox5
        subst hx0
        have l9 := putG_len ((os.zipIdx.take i).foldl nmO []) i
        refine itbT rfl ⟨_, rfl, _, Sum.inl (i : Int), rfl, hN5, by unfold gkV; rw [List.length_map]; exact lt2 _ (by omega), sG5.mut nNd, ?_, Nat.le_trans l9 (by omega)⟩
        rw [putK_gk]; exact upd_same
      | some c =>
        obtain ⟨tc, rfl, _⟩ := hox5
        exact itbF rfl ⟨sG5, hN5, by show ((os.zipIdx.take i).foldl nmO []).length ≤ i + 1; omega⟩
    · rintro G ⟨sG, hN, lN⟩
      have e0 : os.zipIdx.take os3.length = os.zipIdx := List.take_of_length_le (by rw [List.length_zipIdx]; omega)
      rw [e0] at hN lN
      have sHG := s13.trans sG
      have hRwG := sG _ _ hRw
      have hOG := OcA.tu hO (TU.of sG)
      have nNdH : H Nd = none := s13.free nNd
      refine ⟨_, rfl, _, rfl, _, rfl, Rw, lo, os3, ls, k, rfl, .inl hRwG, sHG _ _ hlo, by rw [los]; exact l40, by omega, fun G2 D ys fs s4 nD hD hF pf ho => ?_⟩
      rw [los] at pf
      have lys : ys.length = fs.length := A2.len hF
      have lfs : fs.length ≤ 1000 := by rw [pf.length_eq]; exact fates_len _ _ _ l40
      have sHG2 := sHG.trans s4
      refine ⟨D, rfl, ⟨_, sq hD⟩, for_list (K := K) (a := D) (xs := ys) (fun i σ M => ∃ v6 v7 v8 v9, σ = [some (.int n), some (.ref a), some (.ref lo), some (.int k), some (.ref Rw), some (.ref Nd), v6, v7, v8, v9] ∧ Kp Nd G2 M ∧ M Nd = some (.dK (gkV (nmF cs os n (fs.take i)))) ∧ (nmF cs os n (fs.take i)).length ≤ 8 + 8 * i) ⟨none, none, none, none, rfl, Kp.refl, s4 _ _ hN, by show (nm0 os).length ≤ 8 + 8 * 0; have : (nm0 os).length ≤ os3.length := lN; omega⟩ ?_ ?_ ?_⟩
      · rintro i σ M _ ⟨_, _, _, _, _, h, _⟩
        exact sq (h _ _ (fun z => by rw [z, s4 _ _ hN] at hD; cases hD) hD)
      · rintro i x σ M hx ⟨v6, v7, v8, v9, rfl, kM, hNM, lNM⟩
        have tuM : TU G2 M := TU.kp kM (s4 _ _ hN) fun _ z => by cases z
        obtain ⟨f, hf, tf, zs, rfl, htf, hpf⟩ := A2.get hF hx
        have hif : i < fs.length := lt_of_get hf
        have keepL : ∀ b ys, G2 b = some (.lst ys) → M b = some (.lst ys) := fun b ys z => kM _ _ (fun e => by rw [e, s4 _ _ hN] at z; cases z) z
        have keepS : ∀ b ys, SeqH G2 b ys → SeqH M b ys := fun b ys z => z.imp (keepL b ys) (tuM b ys)
        refine ⟨_, rfl, _, rfl, _, rfl, _, rfl, n, a, Rw, tf, xs, os3, zs, cs, os, f, rfl, hn, keepS _ _ (ha.same sHG2), CmA.tu (CmA.tu hA (TU.of sHG2)) tuM, l8, keepL _ _ (s4 _ _ hRwG), OcA.tu (OcA.tu hOG (TU.of s4)) tuM, hlen, oko, tuM _ _ htf, PrA.tu hpf tuM, fate_len (pf.mem_iff.mp (List.mem_of_getElem? hf)), fun G3 D3 ws s5 nD3 hD3 hTh => ?_⟩
        have lws : ws.length = cs.length := by rw [A2.len hTh, fbl_len f cs os 0 _ _ hlen]
        have k3 : Kp Nd G2 G3 := kM.trans (Kp.of s5)
        have hlf := fbl_len f cs os 0 (rowsN n) [] hlen
        have hst : nmF cs os n (fs.take (i + 1)) = (fblD f cs os 0 (rowsN n) []).zipIdx.foldl (nmT cs) (nmF cs os n (fs.take i)) := by
          unfold nmF
          rw [take_more hf, List.foldl_append]; rfl
        generalize fblD f cs os 0 (rowsN n) [] = tt at hTh hlf hst
        refine ⟨D3, ws, rfl, for_enumS (H0 := fun b => if b = D3 then some (.lst ws) else none) (.inl (sq (if_pos rfl))) (fun j σ N => ∃ v6 v7 v9, σ = [some (.int n), some (.ref a), some (.ref lo), some (.int k), some (.ref Rw), some (.ref Nd), v6, v7, some (.ref tf), v9] ∧ Kp Nd G2 N ∧ N Nd = some (.dK (gkV ((tt.zipIdx.take j).foldl (nmT cs) (nmF cs os n (fs.take i))))) ∧ ((tt.zipIdx.take j).foldl (nmT cs) (nmF cs os n (fs.take i))).length ≤ 8 + 8 * i + j ∧ N D3 = some (.lst ws) ∧ ThA N ws tt) ⟨_, _, _, rfl, k3, s5 _ _ hNM, lNM, hD3, hTh⟩ ?_ ?_ ?_⟩
        · rintro j σ' N ⟨_, _, _, _, _, _, _, h, _⟩ b o hb
          split at hb
          · rename_i e
            rw [e, h]; exact hb
          · cases hb
        · rintro j y σ N Tt hyj ⟨v6, v7, v9, rfl, kN, hNj, lNj, hD3j, hThj⟩ nT
          obtain ⟨o, hoj, hox⟩ := A2.get hThj hyj
          have hjl : j < cs.length := by have := lt_of_get hyj; omega
          have k5 := same_new nT (o := .tup [.int (j : Nat), y])
          have hTt : (upd N Tt (.tup [.int (j : Nat), y])) Tt = some (.tup [.int (j : Nat), y]) := upd_same
          have kN5 := kN.trans (Kp.of k5)
          have hN5 := k5 _ _ hNj
          have hD35 := k5 _ _ hD3j
          have hTh5 := ThA.tu hThj (TU.of k5)
          have hox5 := thO.tu hox (TU.of k5)
          generalize upd N Tt (.tup [.int (j : Nat), y]) = N1 at hTt kN5 hN5 hD35 hTh5 hox5
          have hz : tt.zipIdx[j]? = some (o, j) := by rw [List.getElem?_zipIdx, hoj]; simp
          have hfo : (tt.zipIdx.take (j + 1)).foldl (nmT cs) (nmF cs os n (fs.take i)) = nmT cs ((tt.zipIdx.take j).foldl (nmT cs) (nmF cs os n (fs.take i))) (o, j) := by
            rw [take_more hz, List.foldl_append]; rfl
          generalize (tt.zipIdx.take j).foldl (nmT cs) (nmF cs os n (fs.take i)) = ns at hfo hN5 lNj
          refine ⟨Tt, _, rfl, st hTt, rfl, _, _, rfl, _, _, rfl, rfl, _, rfl, rfl, _, rfl, ?_⟩
          cases o with
          | none =>
            have hx0 : y = .non := hox5
            subst hx0
            exact itbF rfl (itbF rfl ⟨_, _, _, rfl, kN5, by rw [hfo]; exact hN5, by rw [hfo]; show ns.length ≤ _; omega, hD35, hTh5⟩)
          | some th =>
            obtain ⟨tx, rfl, htx⟩ := hox5
            have tuN : TU G2 N1 := TU.kp kN5 (s4 _ _ hN) fun _ z => by cases z
            have haN : SeqH N1 a xs := by
              rcases ha with ha | ha
              · exact .inl (kN5 _ _ (fun e => by rw [e] at ha; rw [ha] at nNdH; cases nNdH) (sHG2 _ _ ha))
              · exact .inr (kN5 _ _ (fun e => by rw [e] at ha; rw [ha] at nNdH; cases nNdH) (sHG2 _ _ ha))
            have hxj : xs[j]? = some (xs[j]'(by have := A2.len hA; omega)) := List.getElem?_eq_getElem _
            generalize xs[j]'(by have := A2.len hA; omega) = x2 at hxj
            obtain ⟨c, hc, tc, rfl, htc⟩ := A2.get hA hxj
            have htcN := (TU.trans (TU.of sHG2) tuN) _ _ htc
            have hgd : cs.getD j .ask = c := by rw [List.getD_eq_getElem?_getD, hc]; rfl
            refine itbT rfl ⟨_, rfl, 1, rfl, ?_⟩
            dsimp only [tNoPart]
            refine slA_go htx fun b1 J1 k1 hb1 => ?_
            refine ⟨_, rfl, _, rfl, rIx_go (haN.same k1) hxj ⟨1, rfl, ?_⟩⟩
            dsimp only [tNoPart]
            refine slA_go (k1 _ _ htcN) fun b2 J2 k2 hb2 => ?_
            have hd1 : Dv J2 (.ref b1) (.tuple ((tailT th).map PyData.int)) := by
              have := k2 _ _ hb1
              rw [cut_th] at this
              exact .tup this (dv_int _)
            have hd2 : Dv J2 (.ref b2) (.tuple ((tailC c).map PyData.int)) := by
              rw [cut_cm] at hb2
              exact .tup hb2 (dv_int _)
            have k12 := k1.trans k2
            have hNJ := k12 _ _ hN5
            refine ⟨_, _, hd1.dp (tl_nodic th), hd2.dp (tc_nodic c), tl_shaped th, tc_shaped c, _, rfl, ?_⟩
            rw [tc_eqv]
            by_cases he : tailT th = tailC c
            · have e2 : nmT cs ns (some th, j) = ns := by
                show (if tailT th ≠ tailC (cs.getD j .ask) then _ else _) = _
                rw [hgd, if_neg fun z => z he]
              rw [e2] at hfo
              exact itbF (by rw [decide_eq_true he]; rfl) ⟨_, _, _, rfl, kN5.trans (Kp.of k12), by rw [hfo]; exact hNJ, by rw [hfo]; omega, k12 _ _ hD35, ThA.tu hTh5 (TU.of k12)⟩
            · have e2 : nmT cs ns (some th, j) = putG ns j := by
                show (if tailT th ≠ tailC (cs.getD j .ask) then _ else _) = _
                rw [hgd, if_pos he]
              rw [e2] at hfo
              have l9 := putG_len ns j
              refine itbT (by rw [decide_eq_false he]; rfl) ⟨_, rfl, _, rfl, Nd, _, rfl, .inl ⟨_, Sum.inl (j : Int), hNJ, rfl, by unfold gkV; rw [List.length_map]; exact lt2 _ (by omega), rfl⟩, ?_⟩
              have tuJ : TU J2 (upd J2 Nd (.dK (putK (gkV ns) (Sum.inl (j : Int)) (.bl true)))) := TU.kp Kp.upd hNJ fun _ z => by cases z
              refine ⟨_, _, _, rfl, (kN5.trans (Kp.of k12)).trans Kp.upd, ?_, by rw [hfo]; omega, ?_, ThA.tu (ThA.tu hTh5 (TU.of k12)) tuJ⟩
              · rw [hfo, ← putK_gk]; exact upd_same
              · rw [upd_ne fun z => by have := k12 _ _ hD35; rw [z, hNJ] at this; cases this]
                exact k12 _ _ hD35
        · rintro σ N ⟨v6, v7, v9, rfl, kN, hNj, lNj, hD3j, hThj⟩
          have e1 : tt.zipIdx.take ws.length = tt.zipIdx := List.take_of_length_le (by rw [List.length_zipIdx]; omega)
          rw [e1, ← hst] at hNj lNj
          exact ⟨_, _, _, _, rfl, kN, hNj, by omega⟩
      · rintro σ M ⟨v6, v7, v8, v9, rfl, kM, hNM, lNM⟩
        rw [lys, List.take_length] at hNM lNM
        have lb : (nmF cs os n fs).length < 64 := nmF_lt l8 hlen fs
        refine ⟨_, rfl, Nd, gkV (nmF cs os n fs), nmF cs os n fs, rfl, .inl hNM, by unfold gkV; rw [List.map_map]; rfl, lb, fun zs p pz so np => ?_⟩
        refine q fs pf _ p zs (fun b o hb => ?_) upd_same pz so
        have hbM : M b = some o := kM _ _ (fun e => by rw [e, nNdH] at hb; cases hb) (sHG2 _ _ hb)
        rw [upd_ne fun z => by rw [z, np] at hbM; cases hbM]
        exact hbM
end
end K1


set_option Elab.async false
set_option linter.all false
set_option maxRecDepth 100000
set_option maxHeartbeats 4000000
/-! k30: the facts of turned, by_number and played, by kernel. -/
namespace K1
open PySem PySem.Spec PyProof.Rows L2 RZ
theorem putG_mem {ns : List Int} {l x : Int} : x ∈ putG ns l ↔ x ∈ ns ∨ x = l := by
  unfold putG
  split
  · exact ⟨.inl, fun h => h.elim id fun e => e ▸ ‹_›⟩
  · rw [List.mem_append, List.mem_singleton]
/-- what one fate names -/
def bnP (cs : List Cm) (p : Option Th × Nat) : Option Int := match p.1 with | none => none | some th => if tailT th ≠ tailC (cs.getD p.2 .ask) then some (p.2 : Int) else none
def bnF (cs : List Cm) (os : List (Option Cm)) (n : Nat) (f : List Pr) : List Int := (fblD f cs os 0 (rowsN n) []).zipIdx.filterMap (bnP cs)
theorem nmT_mem (cs : List Cm) (x : Int) : ∀ (l : List (Option Th × Nat)) (ns : List Int), x ∈ l.foldl (nmT cs) ns ↔ x ∈ ns ∨ x ∈ l.filterMap (bnP cs)
  | [], ns => by simp
  | p :: r, ns => by
    rw [List.foldl_cons, nmT_mem cs x r]
    obtain ⟨o, j⟩ := p
    cases o with
    | none => rw [List.filterMap_cons_none (by rfl)]; exact Iff.rfl
    | some th =>
      by_cases h : tailT th ≠ tailC (cs.getD j .ask)
      · have e1 : nmT cs ns (some th, j) = putG ns j := if_pos h
        have e2 : bnP cs (some th, j) = some (j : Int) := if_pos h
        rw [e1, List.filterMap_cons_some e2, putG_mem, List.mem_cons, or_assoc]
      · have e1 : nmT cs ns (some th, j) = ns := if_neg h
        have e2 : bnP cs (some th, j) = none := if_neg h
        rw [e1, List.filterMap_cons_none e2]
theorem nmF_mem (cs : List Cm) (os : List (Option Cm)) (n : Nat) (x : Int) (fs : List (List Pr)) : x ∈ nmF cs os n fs ↔ x ∈ nm0 os ∨ ∃ f ∈ fs, x ∈ bnF cs os n f := by
  have key : ∀ (fs : List (List Pr)) (ns : List Int), x ∈ fs.foldl (fun ns f => (fblD f cs os 0 (rowsN n) []).zipIdx.foldl (nmT cs) ns) ns ↔ x ∈ ns ∨ ∃ f ∈ fs, x ∈ bnF cs os n f := fun fs => by
    induction fs with
    | nil => intro ns; simp
    | cons f r ih =>
      intro ns
      rw [List.foldl_cons, ih, nmT_mem, or_assoc]
      simp only [List.mem_cons, exists_eq_or_imp]
      exact Iff.rfl
  exact key fs _
end K1


set_option Elab.async false
set_option linter.all false
set_option maxRecDepth 100000
set_option maxHeartbeats 4000000
/-! k29: the mathematics: what stands ahead of each command. -/
namespace K1
open PySem PySem.Spec PyProof.Rows L2 RZ
/-- list and gone letters ahead of command i -/
def stG (f : List Pr) : List Cm → Nat → List Int → List Int → Nat → List Int × List Int
  | _, _, r, g, 0 => (r, g)
  | [], _, r, g, _ + 1 => (r, g)
  | c :: cs, m, r, g, i + 1 => stG f cs (m + 1) (wiR r (goBy f m g) c) (wiG (goBy f m g) c) i
theorem stG_nil (f : List Pr) (m : Nat) (r g : List Int) (i : Nat) : stG f [] m r g i = (r, g) := by cases i <;> rfl
theorem stG_succ (f : List Pr) : ∀ (cs : List Cm) (m : Nat) (r g : List Int) (i : Nat) (c : Cm), cs[i]? = some c →
    stG f cs m r g (i + 1) = (wiR (stG f cs m r g i).1 (goBy f ((m + i : Nat) : Int) (stG f cs m r g i).2) c, wiG (goBy f ((m + i : Nat) : Int) (stG f cs m r g i).2) c)
  | [], _, _, _, _, _, h => by simp at h
  | d :: cs, m, r, g, 0, c, h => by
    have e : d = c := Option.some.inj h
    subst e
    cases cs <;> rfl
  | d :: cs, m, r, g, i + 1, c, h => by
    have h' : cs[i]? = some c := by simpa using h
    have := stG_succ f cs (m + 1) (wiR r (goBy f m g) d) (wiG (goBy f m g) d) i c h'
    show stG f cs (m + 1) _ _ (i + 1) = _
    rw [this, show m + 1 + i = m + (i + 1) by omega]
    rfl
theorem fbl_at (f : List Pr) : ∀ (cs : List Cm) (os : List (Option Cm)) (m : Nat) (r g : List Int) (i : Nat) (o : Option Cm), os.length = cs.length → os[i]? = some o →
    (fblD f cs os m r g)[i]? = some (thC (stG f cs m r g i).1 (goBy f ((m + i : Nat) : Int) (stG f cs m r g i).2) o)
  | [], [], _, _, _, i, o, _, h => by simp at h
  | c :: cs, p :: os, m, r, g, 0, o, _, h => by
    have e : p = o := Option.some.inj h
    subst e; rfl
  | c :: cs, p :: os, m, r, g, i + 1, o, hl, h => by
    have h' : os[i]? = some o := by simpa using h
    have := fbl_at f cs os (m + 1) (wiR r (goBy f m g) c) (wiG (goBy f m g) c) i o (by simpa using hl) h'
    show (fblD f cs os (m + 1) _ _)[i]? = _
    rw [this, show m + 1 + i = m + (i + 1) by omega]
    rfl
  | [], _ :: _, _, _, _, _, _, hl, _ => by simp at hl
  | _ :: _, [], _, _, _, _, _, hl, _ => by simp at hl
def tnC (r : List Int) : Cm → Option Cm
  | .ask => some .ask
  | .look k => tnO .look (placeD r k)
  | .take k => tnO .take (placeD r k)
theorem turn_at : ∀ (cs : List Cm) (m : Nat) (r g : List Int) (i : Nat) (c : Cm), cs[i]? = some c → (turnD cs r g)[i]? = some (tnC (stG [] cs m r g i).1 c)
  | [], _, _, _, _, _, h => by simp at h
  | d :: cs, m, r, g, 0, c, h => by
    have e : d = c := Option.some.inj h
    subst e
    cases d <;> rfl
  | d :: cs, m, r, g, i + 1, c, h => by
    have h' : cs[i]? = some c := by simpa using h
    cases d with
    | ask => exact turn_at cs (m + 1) (forgetD r g) g i c h'
    | look k => exact turn_at cs (m + 1) r g i c h'
    | take k => exact turn_at cs (m + 1) r (putG g k) i c h'
theorem goBy_mem (m x : Int) : ∀ (f : List Pr) (g : List Int), x ∈ goBy f m g ↔ x ∈ g ∨ ∃ p ∈ f, p.2 = m ∧ p.1 = x
  | [], g => by simp [goBy]
  | p :: f, g => by
    show x ∈ goBy f m (if p.2 = m then putG g p.1 else g) ↔ _
    rw [goBy_mem m x f]
    split
    · rename_i h
      rw [putG_mem]
      simp only [List.mem_cons, exists_eq_or_imp]
      constructor
      · rintro ((z | z) | z)
        · exact .inl z
        · exact .inr (.inl ⟨h, z.symm⟩)
        · exact .inr (.inr z)
      · rintro (z | ⟨_, z⟩ | z)
        · exact .inl (.inl z)
        · exact .inl (.inr z.symm)
        · exact .inr z
    · rename_i h
      simp only [List.mem_cons, exists_eq_or_imp]
      constructor
      · rintro (z | z)
        · exact .inl z
        · exact .inr (.inr z)
      · rintro (z | ⟨z, _⟩ | z)
        · exact .inl z
        · exact absurd z h
        · exact .inr z
theorem stG_rows (f : List Pr) : ∀ (cs : List Cm) (m : Nat) (r g : List Int) (i : Nat), (stG f cs m r g i).1.length ≤ r.length
  | [], _, _, _, i => by rw [stG_nil]; exact Nat.le_refl _
  | _ :: _, _, _, _, 0 => Nat.le_refl _
  | c :: cs, m, r, g, i + 1 => by
    refine Nat.le_trans (stG_rows f cs (m + 1) _ _ i) ?_
    cases c with
    | ask => exact List.length_filter_le _ _
    | look k => exact Nat.le_refl _
    | take k => exact Nat.le_refl _
/-- the letter of a place -/
theorem found_tail (rows gone : List Int) (p : Int) (hp : 1 ≤ p) : tailT (foundA rows gone p) = (rows.drop (p - 1).toNat).take 1 := by
  unfold foundA
  split
  · rename_i h
    rw [List.drop_of_length_le (by omega)]; rfl
  · rename_i h
    have hlt : (p - 1).toNat < rows.length := by omega
    have e1 : p.toNat - 1 = (p - 1).toNat := by omega
    have e2 : (rows.drop (p - 1).toNat).take 1 = [rows.getD (p.toNat - 1) 0] := by
      rw [e1, List.getD_eq_getElem?_getD, List.getElem?_eq_getElem hlt, List.drop_eq_getElem_cons hlt]
      rfl
    rw [e2]
    dsimp only
    split <;> rfl
theorem cut_place (rows : List Int) (p : Int) (hp : 1 ≤ p) : cutV (rows.map V.int) (some (p - 1)) (some p) = ((rows.drop (p - 1).toNat).take 1).map V.int := by
  obtain ⟨k, rfl⟩ : ∃ k : Nat, p = (k : Int) + 1 := ⟨(p - 1).toNat, by omega⟩
  unfold cutV
  rw [show (k : Int) + 1 - 1 = ((k : Nat) : Int) by omega, show (k : Int) + 1 = ((k + 1 : Nat) : Int) by omega, HT.sIx_nat, HT.sIx_nat, List.length_map, Int.toNat_natCast, ← List.map_drop, ← List.map_take]
  congr 1
  by_cases h : k < rows.length
  · rw [Nat.min_eq_left (by omega), Nat.min_eq_left (by omega), show k + 1 - k = 1 by omega]
  · rw [Nat.min_eq_right (by omega), Nat.min_eq_right (by omega), List.drop_length, List.drop_of_length_le (by omega)]; simp
theorem place_ok (rows : List Int) (l : Int) (h : l ∈ rows) : placeD rows l = some ((rows.idxOf l : Nat) + 1 : Int) := if_pos h
theorem place_no (rows : List Int) (l : Int) (h : l ∉ rows) : placeD rows l = none := if_neg h
theorem place_pos {rows : List Int} {l p : Int} (h : placeD rows l = some p) : 1 ≤ p ∧ (rows.drop (p - 1).toNat).take 1 = [l] := by
  unfold placeD at h
  split at h
  · rename_i hm
    cases h
    refine ⟨by omega, ?_⟩
    rw [show ((rows.idxOf l : Nat) + 1 : Int) - 1 = ((rows.idxOf l : Nat) : Int) by omega, Int.toNat_natCast]
    have hlt := List.idxOf_lt_length_of_mem hm
    rw [List.drop_eq_getElem_cons hlt, List.getElem_idxOf]
    rfl
  · cases h
/-! ### a row without what is in doubt -/
def kndC : Cm → Nat
  | .ask => 0
  | .look _ => 1
  | .take _ => 2
theorem found_gone {rows gone : List Int} {p l : Int} (h : foundA rows gone p = .gone l) : l ∈ gone := by
  unfold foundA at h
  split at h
  · cases h
  · dsimp only at h
    split at h
    · cases h; assumption
    · cases h
theorem hereG_wi {rows gone : List Int} {p k : Int} (h : tailT (foundA rows gone p) = [k]) : hereG gone (foundA rows gone p) = putG gone k := by
  cases e : foundA rows gone p with
  | no => rw [e] at h; cases h
  | gone l =>
    rw [e] at h
    have e2 : l = k := by simpa [tailT] using h
    have := found_gone e
    show gone = putG gone k
    unfold putG
    rw [if_pos (e2 ▸ this)]
  | here l =>
    rw [e] at h
    have e2 : l = k := by simpa [tailT] using h
    rw [← e2]; rfl
theorem found_fbl (f : List Pr) : ∀ (cs cs' : List Cm) (m : Nat) (r g : List Int), cs'.length = cs.length → (∀ (i : Nat) (c c' : Cm), cs[i]? = some c → cs'[i]? = some c' → kndC c = kndC c') →
    (∀ (i : Nat) (c : Cm) (th : Th), cs[i]? = some c → (fblD f cs (cs'.map some) m r g)[i]? = some (some th) → tailT th = tailC c) → foundD f cs' m r g = fblD f cs (cs'.map some) m r g
  | [], [], _, _, _, _, _, _ => rfl
  | [], _ :: _, _, _, _, hl, _, _ => by simp at hl
  | _ :: _, [], _, _, _, hl, _, _ => by simp at hl
  | c :: cs, c' :: cs', m, r, g, hl, hk, ht => by
    have k0 := hk 0 c c' rfl rfl
    have rc0 := fun r' g' => found_fbl f cs cs' (m + 1) r' g' (by simpa using hl) (fun i a b ha hb => hk (i + 1) a b (by simpa using ha) (by simpa using hb))
    have t0 := fun th h => ht 0 c th rfl h
    have ts := fun (i : Nat) (a : Cm) (th : Th) ha h => ht (i + 1) a th (by simpa using ha) h
    cases c with
    | ask =>
      cases c' with
      | ask =>
        show none :: foundD f cs' (m + 1) (forgetD r (goBy f m g)) (goBy f m g) = none :: fblD f cs (cs'.map some) (m + 1) (forgetD r (goBy f m g)) (goBy f m g)
        rw [rc0 (forgetD r (goBy f m g)) (goBy f m g) ts]
      | look k => cases k0
      | take k => cases k0
    | look k =>
      cases c' with
      | ask => cases k0
      | look p =>
        show some (foundA r (goBy f m g) p) :: foundD f cs' (m + 1) r (goBy f m g) = some (foundA r (goBy f m g) p) :: fblD f cs (cs'.map some) (m + 1) r (goBy f m g)
        rw [rc0 r (goBy f m g) ts]
      | take p => cases k0
    | take k =>
      cases c' with
      | ask => cases k0
      | look p => cases k0
      | take p =>
        have e := t0 (foundA r (goBy f m g) p) rfl
        show some (foundA r (goBy f m g) p) :: foundD f cs' (m + 1) r (hereG (goBy f m g) (foundA r (goBy f m g) p)) = some (foundA r (goBy f m g) p) :: fblD f cs (cs'.map some) (m + 1) r (putG (goBy f m g) k)
        rw [hereG_wi e, rc0 r (putG (goBy f m g) k) ts]
theorem doubt_none (cs : List Cm) (n : Nat) (fs : List (List Pr)) : ∀ (al : List (Option Th)) (s : Nat), (∀ (i : Nat) (th : Th), al[i]? = some (some th) → th ≠ .no ∧ ∀ f ∈ fs, badAt cs n (s + i) th f = false) → doubtG cs n fs s al = none
  | [], _, _ => rfl
  | none :: r, s, h => by
    show doubtG cs n fs (s + 1) r = none
    exact doubt_none cs n fs r (s + 1) fun i th hi => by
      have := h (i + 1) th (by simpa using hi)
      rw [show s + 1 + i = s + (i + 1) by omega]; exact this
  | some th :: r, s, h => by
    obtain ⟨h1, h2⟩ := h 0 th rfl
    have e : fs.find? (badAt cs n s th) = none := List.find?_eq_none.mpr fun f hf => by
      have := h2 f hf
      rw [Nat.add_zero] at this
      rw [this]; decide
    have rc0 := doubt_none cs n fs r (s + 1) fun i th hi => by
      have := h (i + 1) th (by simpa using hi)
      rw [show s + 1 + i = s + (i + 1) by omega]; exact this
    cases th with
    | no => exact absurd rfl h1
    | gone l =>
      show (match fs.find? (badAt cs n s (.gone l)) with | some f => some (s, f) | none => doubtG cs n fs (s + 1) r) = none
      rw [e]; exact rc0
    | here l =>
      show (match fs.find? (badAt cs n s (.here l)) with | some f => some (s, f) | none => doubtG cs n fs (s + 1) r) = none
      rw [e]; exact rc0
end K1


set_option Elab.async false
set_option linter.all false
set_option maxRecDepth 100000
set_option maxHeartbeats 4000000
/-! k29: the mathematics: what the law names, its fates, checks. -/
namespace K1
open PySem PySem.Spec PyProof.Rows L2 RZ
def plC : Cm → Int
  | .look k => k
  | .take k => k
  | .ask => 0
def dueB (n : Nat) (cs : List Cm) (menu : List (List Pr)) (j : Nat) : Bool :=
  match cs[j]? with
  | none => false
  | some .ask => false
  | some c => match (turnD cs (rowsN n) [])[j]? with
    | some (some o) => menu.any fun f => decide (((stG f cs 0 (rowsN n) [] j).1.drop (plC o - 1).toNat).take 1 ≠ tailC c)
    | _ => true
def dueL (n : Nat) (cs : List Cm) (menu : List (List Pr)) : List Int := ((List.range cs.length).filter (dueB n cs menu)).map fun (j : Nat) => (j : Int)
theorem dueL_lt (n : Nat) (cs : List Cm) (menu : List (List Pr)) : (dueL n cs menu).Pairwise (· < ·) := by
  unfold dueL
  refine List.pairwise_map.mpr ((List.pairwise_lt_range.filter _).imp fun h => by omega)
theorem nmO_mem (x : Int) : ∀ (l : List (Option Cm × Nat)) (ns : List Int), x ∈ l.foldl nmO ns ↔ x ∈ ns ∨ ∃ p ∈ l, p.1 = none ∧ x = (p.2 : Int)
  | [], ns => by simp
  | (o, j) :: r, ns => by
    rw [List.foldl_cons, nmO_mem x r]
    cases o with
    | none =>
      show x ∈ putG ns (j : Int) ∨ _ ↔ _
      rw [putG_mem]
      simp only [List.mem_cons, exists_eq_or_imp, true_and, or_assoc]
    | some c =>
      show x ∈ ns ∨ _ ↔ _
      simp only [List.mem_cons, exists_eq_or_imp]
      constructor
      · rintro (z | z)
        · exact .inl z
        · exact .inr (.inr z)
      · rintro (z | ⟨z, _⟩ | z)
        · exact .inl z
        · cases z
        · exact .inr z
theorem nm0_mem (x : Int) (os : List (Option Cm)) : x ∈ nm0 os ↔ ∃ j : Nat, os[j]? = some none ∧ x = (j : Int) := by
  unfold nm0
  rw [nmO_mem]
  constructor
  · rintro (z | ⟨⟨o, j⟩, hp, h1, h2⟩)
    · cases z
    · dsimp only at h1 h2
      subst h1
      exact ⟨j, List.mem_zipIdx_iff_getElem?.mp hp, h2⟩
  · rintro ⟨j, h1, h2⟩
    exact .inr ⟨(none, j), List.mem_zipIdx_iff_getElem?.mpr h1, rfl, h2⟩
theorem bnF_mem (x : Int) (cs : List Cm) (os : List (Option Cm)) (n : Nat) (f : List Pr) : x ∈ bnF cs os n f ↔ ∃ (j : Nat) (th : Th), (fblD f cs os 0 (rowsN n) [])[j]? = some (some th) ∧ tailT th ≠ tailC (cs.getD j .ask) ∧ x = (j : Int) := by
  unfold bnF
  rw [List.mem_filterMap]
  constructor
  · rintro ⟨⟨o, j⟩, hp, h⟩
    have hj := List.mem_zipIdx_iff_getElem?.mp hp
    cases o with
    | none => cases h
    | some th =>
      unfold bnP at h
      dsimp only at h
      split at h
      · rename_i hne
        cases h
        exact ⟨j, th, hj, hne, rfl⟩
      · cases h
  · rintro ⟨j, th, h1, h2, rfl⟩
    refine ⟨(some th, j), List.mem_zipIdx_iff_getElem?.mpr h1, ?_⟩
    unfold bnP
    exact if_pos h2
theorem tn_some {r : List Int} {c o : Cm} (h : tnC r c = some o) (hc : c ≠ .ask) : kndC c = kndC o ∧ 1 ≤ plC o ∧ (r.drop (plC o - 1).toNat).take 1 = tailC c ∧ o ≠ .ask := by
  cases c with
  | ask => exact absurd rfl hc
  | look k =>
    replace h : tnO .look (placeD r k) = some o := h
    cases e : placeD r k with
    | none => rw [e] at h; cases h
    | some p =>
      rw [e] at h
      cases h
      exact ⟨rfl, (place_pos e).1, (place_pos e).2, fun z => by cases z⟩
  | take k =>
    replace h : tnO .take (placeD r k) = some o := h
    cases e : placeD r k with
    | none => rw [e] at h; cases h
    | some p =>
      rw [e] at h
      cases h
      exact ⟨rfl, (place_pos e).1, (place_pos e).2, fun z => by cases z⟩
theorem thC_some {r g : List Int} {o : Cm} (h : o ≠ .ask) : thC r g (some o) = some (foundA r g (plC o)) := by
  cases o with
  | ask => exact absurd rfl h
  | look k => rfl
  | take k => rfl
theorem due_mem (n : Nat) (cs : List Cm) (fs menu : List (List Pr)) (hm : ∀ f, f ∈ fs ↔ f ∈ menu) (x : Int) : x ∈ nmF cs (turnD cs (rowsN n) []) n fs ↔ x ∈ dueL n cs menu := by
  rw [nmF_mem, nm0_mem]
  unfold dueL
  rw [List.mem_map]
  simp only [List.mem_filter, List.mem_range]
  have hlen := turn_len cs (rowsN n) []
  constructor
  · rintro (⟨j, h1, rfl⟩ | ⟨f, hf, h⟩)
    · refine ⟨j, ⟨by have := lt_of_get h1; omega, ?_⟩, rfl⟩
      have hj : j < cs.length := by have := lt_of_get h1; omega
      unfold dueB
      rw [List.getElem?_eq_getElem hj]
      have h2 := turn_at cs 0 (rowsN n) [] j _ (List.getElem?_eq_getElem hj)
      rw [h1] at h2
      generalize cs[j] = c at h2
      rw [h1]
      cases c with
      | ask => cases h2
      | look k => rfl
      | take k => rfl
    · rw [bnF_mem] at h
      obtain ⟨j, th, h1, h2, rfl⟩ := h
      have hj : j < cs.length := by have := lt_of_get h1; rw [fbl_len f cs _ 0 _ _ hlen] at this; exact this
      refine ⟨j, ⟨hj, ?_⟩, rfl⟩
      have t1 := turn_at cs 0 (rowsN n) [] j _ (List.getElem?_eq_getElem hj)
      have t2 := fbl_at f cs _ 0 (rowsN n) [] j _ hlen t1
      rw [h1] at t2
      rw [List.getD_eq_getElem?_getD, List.getElem?_eq_getElem hj] at h2
      unfold dueB
      rw [List.getElem?_eq_getElem hj, t1]
      generalize cs[j] = c at t1 t2 h2
      change tailT th ≠ tailC c at h2
      by_cases hc : c = .ask
      · subst hc; cases t2
      · cases ho : tnC (stG [] cs 0 (rowsN n) [] j).1 c with
        | none => rw [ho] at t2; cases t2
        | some o =>
          rw [ho] at t2
          obtain ⟨k1, k2, k3, k4⟩ := tn_some ho hc
          rw [thC_some k4] at t2
          have e : th = foundA (stG f cs 0 (rowsN n) [] j).1 (goBy f ((0 + j : Nat) : Int) (stG f cs 0 (rowsN n) [] j).2) (plC o) := Option.some.inj (Option.some.inj t2)
          rw [e, found_tail _ _ _ k2] at h2
          have : (menu.any fun f => decide (((stG f cs 0 (rowsN n) [] j).1.drop (plC o - 1).toNat).take 1 ≠ tailC c)) = true := List.any_eq_true.mpr ⟨f, (hm f).mp hf, decide_eq_true h2⟩
          cases c with
          | ask => exact absurd rfl hc
          | look k => exact this
          | take k => exact this
  · rintro ⟨j, ⟨hj, h⟩, rfl⟩
    have t1 := turn_at cs 0 (rowsN n) [] j _ (List.getElem?_eq_getElem hj)
    unfold dueB at h
    rw [List.getElem?_eq_getElem hj, t1] at h
    have hgd : cs.getD j .ask = cs[j] := by rw [List.getD_eq_getElem?_getD, List.getElem?_eq_getElem hj]; rfl
    generalize cs[j] = c at t1 h hgd
    by_cases hc : c = .ask
    · subst hc; cases h
    · cases ho : tnC (stG [] cs 0 (rowsN n) [] j).1 c with
      | none => rw [ho] at t1; exact .inl ⟨j, t1, rfl⟩
      | some o =>
        rw [ho] at t1 h
        have h2 : (menu.any fun f => decide (((stG f cs 0 (rowsN n) [] j).1.drop (plC o - 1).toNat).take 1 ≠ tailC c)) = true := by
          cases c with
          | ask => exact absurd rfl hc
          | look k => exact h
          | take k => exact h
        obtain ⟨f, hf, h3⟩ := List.any_eq_true.mp h2
        obtain ⟨k1, k2, k3, k4⟩ := tn_some ho hc
        refine .inr ⟨f, (hm f).mpr hf, ?_⟩
        rw [bnF_mem]
        have t2 := fbl_at f cs _ 0 (rowsN n) [] j _ hlen t1
        rw [thC_some k4] at t2
        refine ⟨j, _, t2, ?_, rfl⟩
        rw [found_tail _ _ _ k2, hgd]
        exact of_decide_eq_true h3
theorem due_is {n : Nat} {cs : List Cm} (l8 : cs.length ≤ 8) {fs menu : List (List Pr)} (hm : ∀ f, f ∈ fs ↔ f ∈ menu) {ys : List Int} (py : ys.Perm (nmF cs (turnD cs (rowsN n) []) n fs)) (so : ys.Pairwise (· ≤ ·)) : ys = dueL n cs menu := by
  have nd := nmF_ok (n := n) l8 (turn_len cs (rowsN n) []) fs
  have pd : (nmF cs (turnD cs (rowsN n) []) n fs).Perm (dueL n cs menu) := (List.perm_ext_iff_of_nodup nd.1 ((dueL_lt n cs menu).imp fun h => Int.ne_of_lt h)).mpr fun x => due_mem n cs fs menu hm x
  exact (py.trans pd).eq_of_pairwise (fun a b _ _ h k => Int.le_antisymm h k) so ((dueL_lt n cs menu).imp fun h => Int.le_of_lt h)
/-! ### fates -/
theorem cmb0 (lo m : Nat) : Cmb.cmbFrom lo m 0 = [[]] := by cases m <;> rfl
theorem cmb1_mem : ∀ (m lo : Nat) (ix : List Nat), ix ∈ Cmb.cmbFrom lo m 1 ↔ ∃ u, ix = [u] ∧ lo ≤ u ∧ u < lo + m
  | 0, lo, ix => by
    show ix ∈ ([] : List (List Nat)) ↔ _
    constructor
    · intro h; cases h
    · rintro ⟨u, _, h1, h2⟩; omega
  | m + 1, lo, ix => by
    show ix ∈ (Cmb.cmbFrom (lo + 1) m 0).map (lo :: ·) ++ Cmb.cmbFrom (lo + 1) m 1 ↔ _
    rw [cmb0, List.mem_append, cmb1_mem m (lo + 1)]
    constructor
    · rintro (h | ⟨u, h1, h2, h3⟩)
      · exact ⟨lo, by simpa using h, by omega, by omega⟩
      · exact ⟨u, h1, by omega, by omega⟩
    · rintro ⟨u, rfl, h2, h3⟩
      by_cases e : u = lo
      · subst e; exact .inl (by simp)
      · exact .inr ⟨u, rfl, by omega, by omega⟩
theorem cmb2_mem : ∀ (m lo : Nat) (ix : List Nat), ix ∈ Cmb.cmbFrom lo m 2 ↔ ∃ u v, ix = [u, v] ∧ lo ≤ u ∧ u < v ∧ v < lo + m
  | 0, lo, ix => by
    show ix ∈ ([] : List (List Nat)) ↔ _
    constructor
    · intro h; cases h
    · rintro ⟨u, v, _, h1, h2, h3⟩; omega
  | m + 1, lo, ix => by
    show ix ∈ (Cmb.cmbFrom (lo + 1) m 1).map (lo :: ·) ++ Cmb.cmbFrom (lo + 1) m 2 ↔ _
    rw [List.mem_append, cmb2_mem m (lo + 1), List.mem_map]
    constructor
    · rintro (⟨a, ha, rfl⟩ | ⟨u, v, h1, h2, h3, h4⟩)
      · obtain ⟨u, rfl, h1, h2⟩ := (cmb1_mem m (lo + 1) a).mp ha
        exact ⟨lo, u, rfl, by omega, by omega, by omega⟩
      · exact ⟨u, v, h1, by omega, by omega, by omega⟩
    · rintro ⟨u, v, rfl, h2, h3, h4⟩
      by_cases e : u = lo
      · subst e; exact .inl ⟨[v], (cmb1_mem m (u + 1) [v]).mpr ⟨v, rfl, by omega, by omega⟩, rfl⟩
      · exact .inr ⟨u, v, rfl, by omega, h3, by omega⟩
theorem singles_mem (ls : List Int) (m : Nat) (x : Pr) : x ∈ singlesD ls m ↔ x.1 ∈ ls ∧ 0 ≤ x.2 ∧ x.2 < (m : Int) := by
  unfold singlesD
  rw [List.mem_flatMap]
  constructor
  · rintro ⟨a, ha, h⟩
    obtain ⟨j, hj, rfl⟩ := List.mem_map.mp h
    have := List.mem_range.mp hj
    exact ⟨ha, by show (0 : Int) ≤ (j : Int); omega, by show (j : Int) < m; omega⟩
  · rintro ⟨h1, h2, h3⟩
    obtain ⟨a, b⟩ := x
    exact ⟨a, h1, List.mem_map.mpr ⟨b.toNat, List.mem_range.mpr (by dsimp only at h2 h3; omega), by dsimp only at h2; rw [Int.toNat_of_nonneg h2]⟩⟩
theorem singles_le (m : Nat) : ∀ ls : List Int, ls.Pairwise (· < ·) → (singlesD ls m).Pairwise fun x y => x.1 ≤ y.1
  | [], _ => by simp [singlesD]
  | l :: r, h => by
    have h2 := List.pairwise_cons.mp h
    show ((List.range m).map (fun (j : Nat) => (l, (j : Int))) ++ singlesD r m).Pairwise fun x y => x.1 ≤ y.1
    refine List.pairwise_append.mpr ⟨?_, singles_le m r h2.2, fun a ha b hb => ?_⟩
    · refine List.pairwise_map.mpr (List.Pairwise.imp (R := fun _ _ => True) (fun _ => Int.le_refl _) ?_)
      exact List.pairwise_of_forall fun _ _ => trivial
    · obtain ⟨j, _, rfl⟩ := List.mem_map.mp ha
      have := h2.1 b.1 ((singles_mem r m b).mp hb).1
      show l ≤ b.1
      omega
theorem pairs_mem (ls : List Int) (m : Nat) (ha : ls.Pairwise (· < ·)) (f : List Pr) : f ∈ pairsD (singlesD ls m) ↔ ∃ x y : Pr, f = [x, y] ∧ x ∈ singlesD ls m ∧ y ∈ singlesD ls m ∧ x.1 < y.1 := by
  have hs := singles_le m ls ha
  unfold pairsD
  generalize singlesD ls m = S at hs
  rw [List.mem_filterMap]
  have ev : ∀ (u : Nat) (x : Pr), S[u]? = some x → S.getD u (0, 0) = x := fun u x h => by rw [List.getD_eq_getElem?_getD, h]; rfl
  constructor
  · rintro ⟨ix, hix, h⟩
    obtain ⟨u, v, rfl, _, h2, h3⟩ := (cmb2_mem S.length 0 ix).mp hix
    have hu : u < S.length := by omega
    have hv : v < S.length := by omega
    have h' : (if (S.getD u (0, 0)).1 < (S.getD v (0, 0)).1 then some [S.getD u (0, 0), S.getD v (0, 0)] else none) = some f := h
    rw [ev u _ (List.getElem?_eq_getElem hu), ev v _ (List.getElem?_eq_getElem hv)] at h'
    split at h'
    · rename_i hlt
      cases h'
      exact ⟨_, _, rfl, List.getElem_mem _, List.getElem_mem _, hlt⟩
    · cases h'
  · rintro ⟨x, y, rfl, hx, hy, hlt⟩
    obtain ⟨u, hu⟩ := List.mem_iff_getElem?.mp hx
    obtain ⟨v, hv⟩ := List.mem_iff_getElem?.mp hy
    have lu := lt_of_get hu
    have lv := lt_of_get hv
    have huv : u < v := by
      rcases Nat.lt_trichotomy u v with z | z | z
      · exact z
      · subst z
        rw [hu] at hv
        cases hv
        omega
      · have := List.pairwise_iff_getElem.mp hs v u lv lu z
        rw [List.getElem?_eq_getElem lu] at hu
        rw [List.getElem?_eq_getElem lv] at hv
        rw [Option.some.inj hu, Option.some.inj hv] at this
        omega
    refine ⟨[u, v], (cmb2_mem S.length 0 _).mpr ⟨u, v, rfl, by omega, huv, by omega⟩, ?_⟩
    show (if (S.getD u (0, 0)).1 < (S.getD v (0, 0)).1 then some [S.getD u (0, 0), S.getD v (0, 0)] else none) = _
    rw [ev u _ hu, ev v _ hv, if_pos hlt]
/-- the law's fates -/
def lawP (ls : List Int) (k : Int) (m : Nat) (a mo : Int) : List (List Pr) := (if 1 < k then ls else []).flatMap fun b => (List.range (if a < b then m else 0)).map fun (la : Nat) => [(a, mo), (b, (la : Int))]
def lawF (ls : List Int) (k : Int) (m : Nat) : List (List Pr) := [] :: (if 0 < k then ls else []).flatMap fun a => (List.range m).flatMap fun (mo : Nat) => [(a, (mo : Int))] :: lawP ls k m a (mo : Int)
theorem lawF_mem (ls : List Int) (k : Int) (m : Nat) (ha : ls.Pairwise (· < ·)) (f : List Pr) : f ∈ fatesD ls m k ↔ f ∈ lawF ls k m := by
  unfold fatesD lawF
  rw [List.mem_cons, List.mem_cons, List.mem_append]
  refine or_congr Iff.rfl ?_
  constructor
  · rintro (h | h)
    · split at h
      · rename_i hk
        obtain ⟨x, hx, rfl⟩ := List.mem_map.mp h
        obtain ⟨h1, h2, h3⟩ := (singles_mem ls m x).mp hx
        rw [if_pos (by omega)]
        refine List.mem_flatMap.mpr ⟨x.1, h1, List.mem_flatMap.mpr ⟨x.2.toNat, List.mem_range.mpr (by omega), List.mem_cons.mpr (.inl ?_)⟩⟩
        rw [Int.toNat_of_nonneg h2]
      · cases h
    · split at h
      · rename_i hk
        obtain ⟨x, y, rfl, hx, hy, hlt⟩ := (pairs_mem ls m ha f).mp h
        obtain ⟨h1, h2, h3⟩ := (singles_mem ls m x).mp hx
        obtain ⟨g1, g2, g3⟩ := (singles_mem ls m y).mp hy
        rw [if_pos (by omega)]
        refine List.mem_flatMap.mpr ⟨x.1, h1, List.mem_flatMap.mpr ⟨x.2.toNat, List.mem_range.mpr (by omega), List.mem_cons.mpr (.inr ?_)⟩⟩
        unfold lawP
        rw [if_pos (by omega)]
        refine List.mem_flatMap.mpr ⟨y.1, g1, List.mem_map.mpr ⟨y.2.toNat, ?_, ?_⟩⟩
        · rw [if_pos hlt]; exact List.mem_range.mpr (by omega)
        · rw [Int.toNat_of_nonneg h2, Int.toNat_of_nonneg g2]
      · cases h
  · intro h
    obtain ⟨a, h1, h⟩ := List.mem_flatMap.mp h
    split at h1
    · rename_i hk
      obtain ⟨mo, h2, h⟩ := List.mem_flatMap.mp h
      have hmo := List.mem_range.mp h2
      rcases List.mem_cons.mp h with rfl | h
      · left
        rw [if_pos (by omega)]
        exact List.mem_map.mpr ⟨(a, (mo : Int)), (singles_mem ls m _).mpr ⟨h1, by show (0 : Int) ≤ (mo : Int); omega, by show (mo : Int) < m; omega⟩, rfl⟩
      · right
        unfold lawP at h
        obtain ⟨b, h3, h⟩ := List.mem_flatMap.mp h
        split at h3
        · rename_i hk2
          obtain ⟨la, h4, rfl⟩ := List.mem_map.mp h
          have hla := List.mem_range.mp h4
          split at hla
          · rename_i hab
            rw [if_pos (by omega)]
            exact (pairs_mem ls m ha _).mpr ⟨_, _, rfl, (singles_mem ls m _).mpr ⟨h1, by show (0 : Int) ≤ (mo : Int); omega, by show (mo : Int) < m; omega⟩, (singles_mem ls m _).mpr ⟨h3, by show (0 : Int) ≤ (la : Int); omega, by show (la : Int) < m; omega⟩, hab⟩
          · omega
        · cases h3
    · cases h1
/-! ### checks -/
theorem first_none {p : PyData → Bool} : ∀ (ds : List PyData) (i : Int), (∀ d ∈ ds, p d = true) → firstBad p ds i = none
  | [], _, _ => rfl
  | d :: r, i, h => by
    show (if p d then firstBad p r (i + 1) else some i) = none
    rw [if_pos (h d (by simp)), first_none r (i + 1) fun x hx => h x (by simp [hx])]
theorem row_none {most : Option Int} {cs : List Cm} (l8 : cs.length ≤ 8) (h : ∀ c ∈ cs, isCmd most (cmD c) = true) : rowErr most (.list (cs.map cmD)) = none := by
  show (if isSeq (.list (cs.map cmD)) then (if 8 < (cs.map cmD).length then some (-1) else firstBad (isCmd most) (cs.map cmD) 0) else some (-1)) = none
  rw [if_pos (show isSeq (.list (cs.map cmD)) = true from rfl), if_neg (by rw [List.length_map]; omega)]
  exact first_none _ _ fun d hd => by
    obtain ⟨c, hc, rfl⟩ := List.mem_map.mp hd
    exact h c hc
theorem cmd_none {c : Cm} (h : cmOk c) : isCmd none (cmD c) = true := by
  cases c with
  | ask => rfl
  | look k =>
    have h1 : (1 : Int) ≤ k := h
    show (if ("look" : Str) = "ask" then ([PyData.int k] : List PyData).isEmpty else (decide (("look" : Str) = "look") || decide (("look" : Str) = "take")) && (decide (1 ≤ k) && true)) = true
    rw [if_neg (by decide +kernel), decide_eq_true h1]; decide +kernel
  | take k =>
    have h1 : (1 : Int) ≤ k := h
    show (if ("take" : Str) = "ask" then ([PyData.int k] : List PyData).isEmpty else (decide (("take" : Str) = "look") || decide (("take" : Str) = "take")) && (decide (1 ≤ k) && true)) = true
    rw [if_neg (by decide +kernel), decide_eq_true h1]; decide +kernel
def wiOk (n : Nat) : Cm → Prop
  | .ask => True
  | .look k => 1 ≤ k ∧ k ≤ (n : Int)
  | .take k => 1 ≤ k ∧ k ≤ (n : Int)
theorem cmd_some {n : Nat} {c : Cm} (h : wiOk n c) : isCmd (some (n : Int)) (cmD c) = true := by
  cases c with
  | ask => rfl
  | look k =>
    obtain ⟨h1, h2⟩ : (1 : Int) ≤ k ∧ k ≤ n := h
    show (if ("look" : Str) = "ask" then ([PyData.int k] : List PyData).isEmpty else (decide (("look" : Str) = "look") || decide (("look" : Str) = "take")) && (decide (1 ≤ k) && decide (k ≤ (n : Int)))) = true
    rw [if_neg (by decide +kernel), decide_eq_true h1, decide_eq_true h2]; decide +kernel
  | take k =>
    obtain ⟨h1, h2⟩ : (1 : Int) ≤ k ∧ k ≤ n := h
    show (if ("take" : Str) = "ask" then ([PyData.int k] : List PyData).isEmpty else (decide (("take" : Str) = "look") || decide (("take" : Str) = "take")) && (decide (1 ≤ k) && decide (k ≤ (n : Int)))) = true
    rw [if_neg (by decide +kernel), decide_eq_true h1, decide_eq_true h2]; decide +kernel
end K1


set_option Elab.async false
set_option linter.all false
set_option maxRecDepth 100000
set_option maxHeartbeats 4000000
/-! k30: what expressions tell as data. -/
namespace K1
open PySem PySem.Spec PyProof.Rows L2 RZ
theorem op_notInD2 {X : Cx} {K : PySem.W.Frag} (h : X.K = K) (hu : X.A.units + 65 < cLine) : OpR X (compareOp .NotIn) (rNotInD K) := by subst h; exact op_notInD hu
theorem sl_listK {X : Cx} {K : PySem.W.Frag} (h : X.K = K) : SlR X (rSlL K) := by subst h; exact sl_list
theorem same_r {H : Hp} : Same H H := fun _ _ z => z
theorem asg_go {te : TE} {g : TG} {tb : TS} {D : Ends} {σ : L2.St} {H : Hp} (h : te σ H fun x H1 => g x σ H1 (tb D)) : tSeq (tAsg te g) tb D σ H := h
theorem name_gc {i : Nat} {v : V} {σ : L2.St} {H : Hp} {Q : L2.St → Hp → Prop} (h : Q (σ.set i (some v)) H) : gName i v σ H Q := h
def okD (d : PyData) : Bool := noDic d && SeqAt.shaped d
def Gh (M : Hp) (te : TE) (σ : L2.St) (d : PyData) : Prop := ∀ G, Same M G → ∀ Q : VK, (∀ v J, Same G J → Dv J v d → Q v J) → te σ G Q
def GhA (M : Hp) (ta : TA) (σ : L2.St) (ds : List PyData) : Prop := ∀ G, Same M G → ∀ Q : List V → Hp → Prop, (∀ vs J, Same G J → DvA J vs ds → Q vs J) → ta σ G Q
/-- a list of one's own -/
def GhL (M : Hp) (te : TE) (σ : L2.St) (ds : List PyData) : Prop := ∀ G, Same M G → ∀ Q : VK, (∀ L xs G1 J, Same G G1 → DvA G1 xs ds → G1 L = none → Same G1 J → J L = some (.lst xs) → Q (.ref L) J) → te σ G Q
def Tf (M : Hp) (tt : TT) (σ : L2.St) : Prop := ∀ G, Same M G → ∀ Q : Bool → Hp → Prop, (∀ J, Same G J → Q false J) → tt σ G Q
theorem dv_lst {H : Hp} {v : V} {ds : List PyData} (h : Dv H v (.list ds)) : ∃ a xs, v = .ref a ∧ H a = some (.lst xs) ∧ DvA H xs ds := by
  cases h with
  | lst e r => exact ⟨_, _, rfl, e, r⟩
theorem dv_tup {H : Hp} {v : V} {ds : List PyData} (h : Dv H v (.tuple ds)) : ∃ a xs, v = .ref a ∧ H a = some (.tup xs) ∧ DvA H xs ds := by
  cases h with
  | tup e r => exact ⟨_, _, rfl, e, r⟩
theorem dva_take {H : Hp} : ∀ {vs : List V} {ds : List PyData} (k : Nat), DvA H vs ds → DvA H (vs.take k) (ds.take k)
  | _, _, 0, _ => .nil
  | _, _, _ + 1, .nil => .nil
  | _, _, k + 1, .cons h r => .cons h (dva_take k r)
theorem dva_drop {H : Hp} : ∀ {vs : List V} {ds : List PyData} (k : Nat), DvA H vs ds → DvA H (vs.drop k) (ds.drop k)
  | _, _, 0, h => h
  | _, _, _ + 1, .nil => .nil
  | _, _, k + 1, .cons _ r => dva_drop k r
theorem dva_get2 {H : Hp} : ∀ {vs : List V} {ds : List PyData}, DvA H vs ds → ∀ {i : Nat} {d : PyData}, ds[i]? = some d → ∃ v, vs[i]? = some v ∧ Dv H v d
  | _, _, .nil, i, d, h => by simp at h
  | _, _, .cons hd r, 0, d, h => ⟨_, rfl, by simp at h; exact h ▸ hd⟩
  | _, _, .cons hd r, i + 1, d, h => by simpa using dva_get2 r (i := i) (d := d) (by simpa using h)
theorem cm_of {H : Hp} : ∀ {cs : List Cm} {xs : List V}, DvA H xs (cs.map cmD) → CmA H xs cs
  | [], _, h => by cases h; exact .nil
  | c :: r, _, h => by
    cases h with
    | cons h1 h2 =>
      refine .cons ?_ (cm_of h2)
      cases c with
      | ask => obtain ⟨a, xs, rfl, ha, hA⟩ := dv_tup h1; cases hA with | cons k1 k2 => cases k1; cases k2; exact ⟨a, rfl, ha⟩
      | look n => obtain ⟨a, xs, rfl, ha, hA⟩ := dv_tup h1; cases hA with | cons k1 k2 => cases k1; cases k2 with | cons k3 k4 => cases k3; cases k4; exact ⟨a, rfl, ha⟩
      | take n => obtain ⟨a, xs, rfl, ha, hA⟩ := dv_tup h1; cases hA with | cons k1 k2 => cases k1; cases k2 with | cons k3 k4 => cases k3; cases k4; exact ⟨a, rfl, ha⟩
theorem ints_of {H : Hp} : ∀ {ls : List Int} {xs : List V}, DvA H xs (ls.map PyData.int) → xs = ls.map V.int
  | [], _, h => by cases h; rfl
  | l :: r, _, h => by
    cases h with
    | cons h1 h2 => cases h1; rw [ints_of h2]; rfl
theorem pr_of {H : Hp} : ∀ {f : List Pr} {xs : List V}, DvA H xs (f.map prD) → PrA H xs f
  | [], _, h => by cases h; exact .nil
  | c :: r, _, h => by
    cases h with
    | cons h1 h2 =>
      refine .cons ?_ (pr_of h2)
      obtain ⟨a, xs, rfl, ha, hA⟩ := dv_tup h1
      cases hA with | cons k1 k2 => cases k1; cases k2 with | cons k3 k4 => cases k3; cases k4; exact ⟨a, rfl, ha⟩
def thOD : Option Th → PyData | none => .none | some t => thD t
theorem ThA.dv {H : Hp} : ∀ {xs : List V} {ts : List (Option Th)}, ThA H xs ts → DvA H xs (ts.map thOD)
  | _, _, .nil => .nil
  | _, _, .cons (b := o) h r => by
    refine .cons ?_ (ThA.dv r)
    cases o with
    | none => cases (show _ = V.non from h); exact .non
    | some t => exact thK_dv h
def ocOD : Option Cm → PyData | none => .none | some c => cmD c
theorem OcA.dv {H : Hp} : ∀ {xs : List V} {ts : List (Option Cm)}, OcA H xs ts → DvA H xs (ts.map ocOD)
  | _, _, .nil => .nil
  | _, _, .cons (b := o) h r => by
    refine .cons ?_ (OcA.dv r)
    cases o with
    | none => cases (show _ = V.non from h); exact .non
    | some c =>
      have h1 : CmA H [_] [c] := .cons h .nil
      cases CmA.dv h1 with | cons a b => exact a
section
variable {M : Hp} {σ : L2.St} {te tf : TE} {ta : TA} {tt tu : TT} {d e : PyData} {ds es : List PyData} {K : PySem.W.Frag}
theorem gh_c {v : V} (h : ∀ G, Dv G v d) : Gh M (tC v) σ d := fun G _ Q q => q v G same_r (h G)
theorem gh_str (z : Str) : Gh M (tC (.str z)) σ (.str z) := gh_c fun _ => .str z
theorem gh_int (z : Int) : Gh M (tC (.int z)) σ (.int z) := gh_c fun _ => .int z
theorem gh_non : Gh M (tC .non) σ .none := gh_c fun _ => .non
theorem gh_var {i : Nat} {v : V} (hi : σ[i]? = some (some v)) (h : Dv M v d) : Gh M (tVar i) σ d := fun G s Q q => ⟨v, hi, q v G same_r (h.same s)⟩
theorem gh_nil : GhA M tNil σ [] := fun G _ Q q => q [] G same_r .nil
theorem gh_cons (h : Gh M te σ d) (k : GhA M ta σ ds) : GhA M (tCons te ta) σ (d :: ds) := fun G s Q q => h G s _ fun v J s1 dv => k J (s.trans s1) _ fun vs J2 s2 da => q (v :: vs) J2 (s1.trans s2) (.cons (dv.same s2) da)
theorem gh_tup (h : GhA M ta σ ds) (hl : ds.length ≤ 1000 := by exact Nat.le_of_ble_eq_true rfl) : Gh M (tTup ta) σ (.tuple ds) := fun G s Q q => h G s _ fun vs J s1 da => ⟨Nat.le_trans (by rw [da.len]; exact hl) (by decide), fun b nb => q _ _ (s1.new nb) (.tup upd_same (da.same (same_new nb)))⟩
theorem gh_lst (h : GhA M ta σ ds) (hl : ds.length ≤ 1000 := by exact Nat.le_of_ble_eq_true rfl) : Gh M (tLst ta) σ (.list ds) := fun G s Q q => h G s _ fun vs J s1 da => ⟨Nat.le_trans (by rw [da.len]; exact hl) (by decide), fun b nb => q _ _ (s1.new nb) (.lst upd_same (da.same (same_new nb)))⟩
theorem gh_own (h : GhA M ta σ ds) (hl : ds.length ≤ 1000 := by exact Nat.le_of_ble_eq_true rfl) : GhL M (tLst ta) σ ds := fun G s Q q => h G s _ fun vs J s1 da => ⟨Nat.le_trans (by rw [da.len]; exact hl) (by decide), fun b nb => q b vs J _ s1 da nb (same_new nb) upd_same⟩
theorem gh_add {a b : Int} (h : Gh M te σ (.int a)) (k : Gh M tf σ (.int b)) : Gh M (tOp (rI0 fun i j => .int (i + j)) te tf) σ (.int (a + b)) := fun G s Q q => h G s _ fun v J s1 dv => k J (s.trans s1) _ fun u J2 s2 du => by
  cases dv; cases du
  exact ⟨a, b, rfl, rfl, q _ J2 (s1.trans s2) (.int _)⟩
theorem gh_sub {a b : Int} (h : Gh M te σ (.int a)) (k : Gh M tf σ (.int b)) : Gh M (tOp (rI0 fun i j => .int (i - j)) te tf) σ (.int (a - b)) := fun G s Q q => h G s _ fun v J s1 dv => k J (s.trans s1) _ fun u J2 s2 du => by
  cases dv; cases du
  exact ⟨a, b, rfl, rfl, q _ J2 (s1.trans s2) (.int _)⟩
theorem cut_take (xs : List V) (n : Nat) : cutV xs none (some (n : Int)) = xs.take n := by
  unfold cutV
  have c1 : HT.sIx xs.length 0 none = 0 := rfl
  rw [c1, HT.sIx_nat, List.drop_zero, Nat.sub_zero]
  by_cases h : n ≤ xs.length
  · rw [Nat.min_eq_left h]
  · rw [Nat.min_eq_right (by omega), List.take_length, List.take_of_length_le (by omega)]
theorem cut_drop (xs : List V) (n : Nat) : cutV xs (some (n : Int)) none = xs.drop n := by
  unfold cutV
  have c2 : HT.sIx xs.length xs.length none = xs.length := rfl
  rw [HT.sIx_nat, c2]
  by_cases h : n ≤ xs.length
  · rw [Nat.min_eq_left h, List.take_of_length_le (by rw [List.length_drop]; omega)]
  · rw [Nat.min_eq_right (by omega), List.drop_length, List.drop_of_length_le (by omega)]; simp
theorem gh_take (k : Nat) (h : Gh M te σ (.list ds)) : Gh M (tSl (rSlL K) te tNoPart (tPart (tC (.int (k : Int))))) σ (.list (ds.take k)) := fun G s Q q => h G s _ fun v J s1 dv => by
  obtain ⟨a, xs, rfl, ha, hA⟩ := dv_lst dv
  refine ⟨_, rfl, a, xs, rfl, sq ha, fun p np => ?_⟩
  rw [cut_take]
  exact q _ _ (s1.new np) (.lst upd_same ((dva_take k hA).same (same_new np)))
theorem gh_drop (k : Nat) (h : Gh M te σ (.list ds)) : Gh M (tSl (rSlL K) te (tPart (tC (.int (k : Int)))) tNoPart) σ (.list (ds.drop k)) := fun G s Q q => h G s _ fun v J s1 dv => by
  obtain ⟨a, xs, rfl, ha, hA⟩ := dv_lst dv
  refine ⟨_, rfl, a, xs, rfl, sq ha, fun p np => ?_⟩
  rw [cut_drop]
  exact q _ _ (s1.new np) (.lst upd_same ((dva_drop k hA).same (same_new np)))
theorem gh_ix (k : Nat) (h : Gh M te σ (.list ds)) (hk : ds[k]? = some d) : Gh M (tOp (rIxL K) te (tC (.int (k : Int)))) σ d := fun G s Q q => h G s _ fun v J s1 dv => by
  obtain ⟨a, xs, rfl, ha, hA⟩ := dv_lst dv
  obtain ⟨v, hv, hd⟩ := dva_get2 hA hk
  exact ⟨a, xs, k, v, rfl, rfl, sq ha, atI_nat hv, q v J s1 hd⟩
theorem gh_ixg {k : Nat} (h : Gh M te σ (.list ds)) (h2 : Gh M tf σ (.int (k : Int))) (hk : ds[k]? = some d) : Gh M (tOp (rIxL K) te tf) σ d := fun G s Q q => h G s _ fun v J s1 dv => h2 J (s.trans s1) _ fun u J2 s2 du => by
  cases du
  obtain ⟨a, xs, rfl, ha, hA⟩ := dv_lst (dv.same s2)
  obtain ⟨v, hv, hd⟩ := dva_get2 hA hk
  exact ⟨a, xs, k, v, rfl, rfl, sq ha, atI_nat hv, q v J2 (s1.trans s2) hd⟩
theorem gh_cat (h1 : Gh M te σ (.list ds)) (h2 : Gh M tf σ (.list es)) (hl : ds.length + es.length ≤ 1000) : Gh M (tOp rCat te tf) σ (.list (ds ++ es)) := fun G s Q q =>
  h1 G s _ fun x J s1 hx => h2 J (s.trans s1) _ fun y J2 s2 hy => by
    obtain ⟨a, xs, rfl, ha, hA⟩ := dv_lst (hx.same s2)
    obtain ⟨b, ys, rfl, hb, hB⟩ := dv_lst hy
    exact ⟨a, b, xs, ys, rfl, rfl, ha, hb, Nat.le_trans (by rw [hA.len, hB.len]; exact hl) (by decide), fun p np => q _ _ ((s1.trans s2).new np) (.lst upd_same ((hA.app hB).same (same_new np)))⟩
theorem gh_is {d2 : PyData} (h : Gh M te σ d) (z : d = d2) : Gh M te σ d2 := z ▸ h
theorem gl_run {G : Hp} {Q : VK} (h : GhL M te σ ds) (s : Same M G) (q : ∀ L xs G1 J, Same G G1 → DvA G1 xs ds → G1 L = none → Same G1 J → J L = some (.lst xs) → Q (.ref L) J) : te σ G Q := h G s Q q
theorem gh_run {G : Hp} {Q : VK} (h : Gh M te σ d) (s : Same M G) (q : ∀ v J, Same G J → Dv J v d → Q v J) : te σ G Q := h G s Q q
theorem gh_call2 {sp : Sp} {E : XK} {t1 t2 : TE} {d1 d2 : PyData} (h1 : Gh M t1 σ d1) (h2 : Gh M t2 σ d2)
    (q : ∀ G v1 v2 (Q : VK), Same M G → Dv G v1 d1 → Dv G v2 d2 → (∀ v J, Same G J → Dv J v d → Q v J) → sp [v1, v2] G Q E) : Gh M (tCall sp [] E (tCons t1 (tCons t2 tNil))) σ d := fun G s Q k =>
  h1 G s _ fun v1 G1 s1 e1 => h2 G1 (s.trans s1) _ fun v2 G2 s2 e2 => q G2 v1 v2 Q (s.trans (s1.trans s2)) (e1.same s2) e2 fun v J sJ dv => k v J ((s1.trans s2).trans sJ) dv
theorem gh_call4 {sp : Sp} {E : XK} {t1 t2 t3 t4 : TE} {d1 d2 d3 d4 : PyData} (h1 : Gh M t1 σ d1) (h2 : Gh M t2 σ d2) (h3 : Gh M t3 σ d3) (h4 : Gh M t4 σ d4)
    (q : ∀ G v1 v2 v3 v4 (Q : VK), Same M G → Dv G v1 d1 → Dv G v2 d2 → Dv G v3 d3 → Dv G v4 d4 → (∀ v J, Same G J → Dv J v d → Q v J) → sp [v1, v2, v3, v4] G Q E) : Gh M (tCall sp [] E (tCons t1 (tCons t2 (tCons t3 (tCons t4 tNil))))) σ d := fun G s Q k =>
  h1 G s _ fun v1 G1 s1 e1 => h2 G1 (s.trans s1) _ fun v2 G2 s2 e2 => h3 G2 (s.trans (s1.trans s2)) _ fun v3 G3 s3 e3 => h4 G3 (s.trans (s1.trans (s2.trans s3))) _ fun v4 G4 s4 e4 =>
    q G4 v1 v2 v3 v4 Q (s.trans (s1.trans (s2.trans (s3.trans s4)))) (e1.same (s2.trans (s3.trans s4))) (e2.same (s3.trans s4)) (e3.same s4) e4 fun v J sJ dv => k v J ((s1.trans (s2.trans (s3.trans s4))).trans sJ) dv
theorem gh_call5 {sp : Sp} {E : XK} {t1 t2 t3 t4 t5 : TE} {d1 d2 d3 d4 d5 : PyData} (h1 : Gh M t1 σ d1) (h2 : Gh M t2 σ d2) (h3 : Gh M t3 σ d3) (h4 : Gh M t4 σ d4) (h5 : Gh M t5 σ d5)
    (q : ∀ G v1 v2 v3 v4 v5 (Q : VK), Same M G → Dv G v1 d1 → Dv G v2 d2 → Dv G v3 d3 → Dv G v4 d4 → Dv G v5 d5 → (∀ v J, Same G J → Dv J v d → Q v J) → sp [v1, v2, v3, v4, v5] G Q E) : Gh M (tCall sp [] E (tCons t1 (tCons t2 (tCons t3 (tCons t4 (tCons t5 tNil)))))) σ d := fun G s Q k =>
  h1 G s _ fun v1 G1 s1 e1 => h2 G1 (s.trans s1) _ fun v2 G2 s2 e2 => h3 G2 (s.trans (s1.trans s2)) _ fun v3 G3 s3 e3 => h4 G3 (s.trans (s1.trans (s2.trans s3))) _ fun v4 G4 s4 e4 => h5 G4 (s.trans (s1.trans (s2.trans (s3.trans s4)))) _ fun v5 G5 s5 e5 =>
    q G5 v1 v2 v3 v4 v5 Q (s.trans (s1.trans (s2.trans (s3.trans (s4.trans s5))))) (e1.same (s2.trans (s3.trans (s4.trans s5)))) (e2.same (s3.trans (s4.trans s5))) (e3.same (s4.trans s5)) (e4.same s5) e5 fun v J sJ dv => k v J ((s1.trans (s2.trans (s3.trans (s4.trans s5)))).trans sJ) dv
theorem eqv_same {d : PyData} (h : okD d = true) : PyData.eqv d d = true := SeqAt.eqv_refl _ (SeqAt.canLay_of_shaped ((Bool.and_eq_true _ _).mp h).2)
theorem ts_ne (h : Gh M te σ d) (k : Gh M tf σ d) (o : okD d = true) : Tf M (tTest (tOp (rNeD K) te tf)) σ := fun G s Q q => h G s _ fun x J s1 hx => k J (s.trans s1) _ fun y J2 s2 hy => by
  have o2 := (Bool.and_eq_true _ _).mp o
  refine ⟨d, d, (hx.same s2).dp o2.1, hy.dp o2.1, o2.2, o2.2, _, rfl, ?_⟩
  rw [eqv_same o]
  exact q J2 (s1.trans s2)
theorem gh_eq (h : Gh M te σ d) (k : Gh M tf σ d) (o : okD d = true) : Gh M (tOp (rEqD K) te tf) σ (.bool true) := fun G s Q q => h G s _ fun x J s1 hx => k J (s.trans s1) _ fun y J2 s2 hy => by
  have o2 := (Bool.and_eq_true _ _).mp o
  refine ⟨d, d, (hx.same s2).dp o2.1, hy.dp o2.1, o2.2, o2.2, ?_⟩
  rw [eqv_same o]
  exact q _ J2 (s1.trans s2) (.bl true)
theorem ts_notN (h : Gh M te σ .none) : Tf M (tTest (tOp (fun x y H Q => y = V.non ∧ Q (V.bl !decide (x = V.non)) H) te (tC .non))) σ := fun G s Q q => h G s _ fun x J s1 hx => by
  cases hx
  exact ⟨rfl, _, rfl, q J s1⟩
theorem ts_or (h : Tf M tt σ) (k : Tf M tu σ) : Tf M (tOr tt tu) σ := fun G s Q q => h G s _ fun J s1 => itbF rfl (k J (s.trans s1) _ fun J2 s2 => q J2 (s1.trans s2))
theorem cut_go {tb u : TS} {D : Ends} {G : Hp} (h : Tf M tt σ) (s : Same M G) (q : ∀ J, Same M J → u D σ J) : C8.tCut (tIfS tt tb tNext) u D σ G :=
  ⟨fun σ' J => σ' = σ ∧ Same M J, h G s _ fun J s1 => itbF rfl ⟨rfl, s.trans s1⟩, fun σ' J ⟨e, sJ⟩ => by subst e; exact q J sJ⟩
end
end K1


set_option Elab.async false
set_option linter.all false
set_option maxRecDepth 100000
set_option maxHeartbeats 4000000
/-! k29: _law_wishes. -/
namespace K1
open PySem PySem.Spec PyProof.Rows L2 RZ
theorem WellT.mono {H : Hp} {p : Addr} {k k' : Nat} (w : WellT H p k) (h : k ≤ k') : WellT H p k' := let ⟨c, m, t, e, h1, h2⟩ := w; ⟨c, m, t, e, h1, by omega⟩
theorem WellT.same {H H' : Hp} {p : Addr} {k : Nat} (w : WellT H p k) (s : Same H H') : WellT H' p k := w.keep fun o h => s _ _ h
theorem WellT.ne {H : Hp} {p q : Addr} {k : Nat} (w : WellT H p k) (n : H q = none) : q ≠ p := fun z => by obtain ⟨c, m, t, e, _⟩ := w; rw [z, e] at n; cases n
theorem TU.w {p : Addr} {k : Nat} {H G : Hp} (w : WellT H p k) (e : Ext p H G) : TU H G := fun x xs h => e _ _ (fun z => by obtain ⟨c, m, t, e, _⟩ := w; rw [z, e] at h; cases h) h
theorem wiOk.cm {n : Nat} {c : Cm} (h : wiOk n c) : cmOk c := by
  cases c with
  | ask => trivial
  | look k => exact h.1
  | take k => exact h.1
abbrev sWi : Stmt := st__law_wishes
abbrev nWi : List Str := ["_law_well_here", "_law_n", "_law_found", "_law_k", "_law_letter"]
abbrev pWi : List Str := ["_law_well_here", "_law_n"]
theorem scWi : FnScope nWi pWi (defScope sWi) := ⟨rfl, rfl, rfl, by decide +kernel, rfl, by decide +kernel, by decide +kernel⟩
def spWi : Sp := fun vs H Q _ => ∃ (p : Addr) (n k : Nat), vs = [.ref p, .int n] ∧ WellT H p k ∧ k ≤ 80000 ∧ 1 ≤ n ∧ n ≤ 10 ∧ ∀ L xs cs H', Ext p H H' → WellT H' p (k + 20) → H L = none → H' L = some (.lst xs) → CmA H' xs cs → (∀ c ∈ cs, wiOk n c) → cs.length ≤ 6 → Q (.ref L) H'
section
variable {P : Program} {w : World} {K : PySem.W.Frag} {mg : Str → Option Value} {base : Heap}
theorem ok_wi {f : Addr} {fd : FuncData} (T : Bj mg) (D_draw : Def P w K mg base CX0 1 "_law_draw" pDraw spDraw) (D_one : Def P w K mg base CX0 2 "_law_one" nOne spOne) (F : Fun K "_law_wishes" "_law_wishes" sWi f fd) : FnOk P w K mg base CX0 3 f fd pWi spWi := by
  have nd := scWi.nd
  refine F.ok scWi (fun vs H Q E h => ?_) (fun cdv A outer s H vs Q E hr h => ?_)
  · obtain ⟨p, n, k, rfl, _⟩ := h
    rfl
  · obtain ⟨p, n, k, rfl, hw, hk, hn1, hn, q⟩ := h
    refine ⟨_, (pss_cons (ps_set (i := 2) nd rfl (Or.inl rfl) (pe_lst pa_nil))
 (pss_cons (ps_for PassesOwn.never rfl (pi_range1 rfl T.range (pa_cons (pe_def D_draw (hr.mono (by decide)) rfl pass0 (pa_cons (pv 0) (pa_cons pe_int pa_nil))) pa_nil)) (pg_name (i := 3) nd rfl (Or.inl rfl))
  (pss_cons (ps_set (i := 4) nd rfl (Or.inl rfl) (pe_op op_add pe_int (pe_def D_draw (hr.mono (by decide)) rfl pass0 (pa_cons (pv 0) (pa_cons (pv 1) pa_nil)))))
 (pss_one (ps_expr (pe_bm PySem.F.plainAttrs_list PySem.F.slot_list_append PySem.F.type_list_append mt_append (pv 2) (pa_cons (pe_def D_one (hr.mono (by decide)) rfl pass0 (pa_cons (pv 0) (pa_cons (pe_lst (pa_cons (pe_tup (pa_cons pe_str pa_nil)) (pa_cons (pe_tup (pa_cons pe_str (pa_cons (pv 4) pa_nil))) (pa_cons (pe_tup (pa_cons pe_str (pa_cons (pv 4) pa_nil))) pa_nil)))) pa_nil))) pa_nil))))))
 (pss_one (ps_ret (pv 2))))), ?_⟩
    refine asg_go ⟨Nat.zero_le _, fun L nL => name_gc ?_⟩
    have s1 := same_new nL (o := .lst ([] : List V))
    have nLp := hw.ne nL
    have hL : (upd H L (.lst ([] : List V))) L = some (.lst []) := upd_same
    have hw1 := hw.same s1
    generalize upd H L (.lst ([] : List V)) = H1 at s1 hL hw1
    refine ⟨_, rfl, p, 7, k, rfl, hw1, by omega, by decide, by decide, fun m H2 m0 m1 e2 w2 => ?_⟩
    refine ⟨m, rfl, by omega, by omega, for_range (lo := 0) (n := m.toNat) (fun i σ G => ∃ (v3 v4 : Option V) (xs : List V) (cs : List Cm), σ = [some (.ref p), some (.int n), some (.ref L), v3, v4] ∧ Ext p H G ∧ WellT G p (k + 1 + 2 * i) ∧ G L = some (.lst xs) ∧ CmA G xs cs ∧ (∀ c ∈ cs, wiOk n c) ∧ cs.length = i) ?_ ?_ ?_⟩
    · exact ⟨none, none, [], [], rfl, (same_ext s1).trans e2, w2, e2 _ _ nLp hL, .nil, (fun c h => by cases h), rfl⟩
    · rintro i σ G hi ⟨v3, v4, xs, cs, rfl, eG, wG, hG, hA, okA, lA⟩
      refine ⟨_, rfl, _, rfl, p, (n : Int), _, rfl, wG, by omega, by omega, by omega, fun d G1 d0 d1 e1 w1 => ⟨_, _, rfl, rfl, ?_⟩⟩
      refine name_gc ?_
      have hG1 := e1 _ _ nLp hG
      refine ⟨_, rfl, .inl ⟨rfl, _, sq hG1⟩, _, rfl, ?_⟩
      refine gl_run (M := G1) (ds := ([.ask, .look (1 + d), .take (1 + d)] : List Cm).map cmD) (gh_own (gh_cons (gh_tup (gh_cons (gh_str _) gh_nil)) (gh_cons (gh_tup (gh_cons (gh_str _) (gh_cons (gh_var rfl (.int _)) gh_nil))) (gh_cons (gh_tup (gh_cons (gh_str _) (gh_cons (gh_var rfl (.int _)) gh_nil))) gh_nil)))) same_r fun B ys G2 G3 s2 hB nB s3 hB3 => ?_
      have s23 := s2.trans s3
      have w3 := w1.same s23
      have lB : ys.length = 3 := hB.len
      refine ⟨p, B, ys, _, rfl, w3, by omega, hB3, by omega, by omega, (w1.same s2).ne nB, fun j y G4 hj e4 w4 => ?_⟩
      have hG4 := e4 _ _ nLp (s23 _ _ hG1)
      refine ⟨L, xs, y, rfl, rfl, hG4, lt2 _ (by have := A2.len hA; omega), ?_⟩
      obtain ⟨c, hc, hy⟩ := A2.get (cm_of (hB.same s3)) hj
      have hcw : wiOk n c := by
        have hm := List.mem_of_getElem? hc
        simp only [List.mem_cons, List.not_mem_nil, or_false] at hm
        rcases hm with rfl | rfl | rfl
        · trivial
        · exact ⟨by omega, by omega⟩
        · exact ⟨by omega, by omega⟩
      have t5 : TU G4 (upd G4 L (.lst (xs ++ [y]))) := TU.kp Kp.upd hG4 fun _ z => by cases z
      have t14 : TU G G4 := ((TU.w wG e1).trans (TU.of s23)).trans (TU.w w3 e4)
      refine ⟨_, _, _, cs ++ [c], rfl, ((eG.trans (e1.trans ((same_ext s23).trans e4))).mut nL), ?_, upd_same, (CmA.tu hA (t14.trans t5)).app (.cons ((hy.tu (TU.w w3 e4)).tu t5) .nil), fun x hx => ?_, by rw [List.length_append, lA]; rfl⟩
      · refine WellT.mono (WellT.keep w4 fun o ho => ?_) (k := k + 1 + 2 * i + 1 + 1) (by omega)
        rw [upd_ne nLp.symm]; exact ho
      · rcases List.mem_append.mp hx with hx | hx
        · exact okA x hx
        · rw [List.mem_singleton.mp hx]; exact hcw
    · rintro σ G ⟨v3, v4, xs, cs, rfl, eG, wG, hG, hA, okA, lA⟩
      exact ⟨_, rfl, q L xs cs G eG (wG.mono (by omega)) nL hG hA okA (by omega)⟩
end
end K1


set_option Elab.async false
set_option linter.all false
set_option maxRecDepth 100000
set_option maxHeartbeats 4000000
/-! k29: _law_place. -/
namespace K1
open PySem PySem.Spec PyProof.Rows L2 RZ
section
variable {K : PySem.W.Frag} {G : Hp} {σ : L2.St} {te tf : TE} {d e : PyData} {Q : VK}
theorem eqD_go (h : Gh G te σ d) (k : Gh G tf σ e) (o1 : okD d = true) (o2 : okD e = true) (q : ∀ J, Same G J → Q (.bl (PyData.eqv d e)) J) : tOp (rEqD K) te tf σ G Q := h G same_r _ fun x J s1 hx => k J s1 _ fun y J2 s2 hy => by
  have p1 := (Bool.and_eq_true _ _).mp o1
  have p2 := (Bool.and_eq_true _ _).mp o2
  exact ⟨d, e, (hx.same s2).dp p1.1, hy.dp p2.1, p1.2, p2.2, q J2 (s1.trans s2)⟩
theorem neD_go (h : Gh G te σ d) (k : Gh G tf σ e) (o1 : okD d = true) (o2 : okD e = true) (q : ∀ J, Same G J → Q (.bl (!PyData.eqv d e)) J) : tOp (rNeD K) te tf σ G Q := h G same_r _ fun x J s1 hx => k J s1 _ fun y J2 s2 hy => by
  have p1 := (Bool.and_eq_true _ _).mp o1
  have p2 := (Bool.and_eq_true _ _).mp o2
  exact ⟨d, e, (hx.same s2).dp p1.1, hy.dp p2.1, p1.2, p2.2, q J2 (s1.trans s2)⟩
end
theorem cm_okD (c : Cm) : okD (cmD c) = true := by
  unfold okD
  rw [Bool.and_eq_true]
  constructor
  · cases c <;> rfl
  · cases c <;> exact shaped_of (by simp [cmD, PyData.canLay0, PyData.canLayAll0]; try decide +kernel) (by decide : (1 : Nat) ≤ 64)
theorem cm_ask (c : Cm) : PyData.eqv (cmD c) (.tuple [.str "ask"]) = decide (c = .ask) := by
  cases c with
  | ask => decide +kernel
  | look k => simp [cmD, PyData.eqv, PyData.eqvAll]
  | take k => simp [cmD, PyData.eqv, PyData.eqvAll]
def wdC : Cm → Str
  | .ask => "ask"
  | .look _ => "look"
  | .take _ => "take"
theorem cm_wd (c : Cm) : (cmV c)[0]? = some (V.str (wdC c)) := by cases c <;> rfl
theorem cm_let {c : Cm} (h : c ≠ .ask) : (cmV c)[1]? = some (V.int (plC c)) := by
  cases c with
  | ask => exact absurd rfl h
  | look k => rfl
  | take k => rfl
theorem forget_eq {rows g ds : List Int} (h : ∀ x, x ∈ ds ↔ x ∈ g) : (rows.filterMap fun l => if l ∈ ds then none else some l) = forgetD rows g := by
  unfold forgetD
  induction rows with
  | nil => rfl
  | cons a t ih =>
    by_cases e : a ∈ ds
    · rw [List.filterMap_cons_none (by rw [if_pos e]), List.filter_cons_of_neg (by simp [(h a).mp e])]; exact ih
    · rw [List.filterMap_cons_some (by rw [if_neg e]), List.filter_cons_of_pos (by rw [decide_eq_false fun z => e ((h a).mpr z)]; decide), ih]
abbrev sPc : Stmt := st__law_place
abbrev nPc : List Str := ["_law_n", "_law_wishes_here", "_law_at", "_law_fate", "_law_shown", "_law_departed", "_law_k", "_law_letter", "_law_moment"]
abbrev pPc : List Str := ["_law_n", "_law_wishes_here", "_law_at", "_law_fate"]
theorem scPc : FnScope nPc pPc (defScope sPc) := ⟨rfl, rfl, rfl, by decide +kernel, rfl, by decide +kernel, by decide +kernel⟩
def spPc : Sp := fun vs H Q _ => ∃ (n : Nat) (a f : Addr) (xs fs : List V) (cs : List Cm) (i : Nat) (fate : List Pr), vs = [.int n, .ref a, .int (i : Int), .ref f] ∧ n ≤ 10 ∧ H a = some (.lst xs) ∧ CmA H xs cs ∧ cs.length ≤ 8 ∧ i < cs.length ∧ H f = some (.tup fs) ∧ PrA H fs fate ∧ fate.length ≤ 2 ∧
  ∀ H' D, Same H H' → H D = none → H' D = some (.lst ((stG fate cs 0 (rowsN n) [] i).1.map V.int)) → Q (.ref D) H'
theorem rg_rows (n : Nat) : rgV 1 ((n : Int) + 1) = (rowsN n).map V.int := by
  unfold rgV rowsN
  rw [show ((n : Int) + 1 - 1).toNat = n by omega, List.map_map]
  refine List.map_congr_left fun i _ => ?_
  show V.int (1 + (i : Int)) = V.int ((i : Int) + 1)
  rw [Int.add_comm]
section
variable {P : Program} {w : World} {K : PySem.W.Frag} {mg : Str → Option Value} {base : Heap}
theorem ok_pc {f : Addr} {fd : FuncData} (T : Bj mg) (F : Fun K "_law_place" "_law_place" sPc f fd) : FnOk P w K mg base CX0 1 f fd pPc spPc := by
  have nd := scPc.nd
  refine F.ok scPc (fun vs H Q E h => ?_) (fun cdv A outer s H vs Q E hr h => ?_)
  · obtain ⟨n, a, f, xs, fs, cs, i, fate, rfl, _⟩ := h
    rfl
  · obtain ⟨n, a, fa, xs, fs, cs, at_, fate, rfl, hn, ha, hA, l8, hi, hf, hF, l2, q⟩ := h
    refine ⟨_, (pss_cons (ps_asg (pe_tup (pa_cons (pe_listRg rfl rfl T.list (prg_2 rfl T.range pe_int (pe_op op_add (pv 0) pe_int))) (pa_cons (pe_lst pa_nil) pa_nil))) (pg_tup rfl (pgs_cons (pg_name (i := 4) nd rfl (Or.inl rfl)) (pgs_cons (pg_name (i := 5) nd rfl (Or.inr rfl)) pgs_nil))))
 (pss_cons (ps_for PassesOwn.never rfl (pi_range1 rfl T.range (pa_cons (pe_op op_add (pv 2) pe_int) pa_nil)) (pg_name (i := 6) nd rfl (Or.inr rfl))
  (pss_cons (ps_set (i := 5) nd rfl (Or.inr rfl) (pe_op op_cat (pv 5) (pe_lc (own := [("_law_letter", 7), ("_law_moment", 8)]) (g := gTup K 2 (gCons (gName 7) (gCons (gName 8) gNil))) rfl nd (pi_tupK (K := K) rfl (pv 3)) (blkOk_by (own := [("_law_letter", 7), ("_law_moment", 8)]) (N := nPc) (sc := defScope sPc) (by decide +kernel)) (fun _ _ _ _ _ => pg_tup rfl (pgs_cons (pg_name (i := 7) nd rfl (Or.inl rfl)) (pgs_cons (pg_name (i := 8) nd rfl (Or.inl rfl)) pgs_nil))) (fun _ _ _ _ _ => pts_one (pt_cmpR op_eq (pv 8) (pv 6) (nomark _))) (fun _ _ _ _ _ => (pv 7)))))
 (pss_one (ps_if (PW.pt (pw_and (pt_cmpR op_lt (pv 6) (pv 2) (nomark _)) (pw_and1 (pt_cmpR (op_eqD2 (K := K) rfl (Room.u65 hr)) (pe_ix (ix_listK (K := K) rfl) (pv 1) (pv 6) (fun _ _ => rfl)) (pe_tup (pa_cons pe_str pa_nil)) (nomark _)))))
  (pss_one (ps_setLc (i := 4) (own := [("_law_letter", 7)]) (g := gName 7) rfl nd rfl rfl (sw_true rfl rfl rfl (by decide +kernel)) (pi_listK (K := K) rfl (pv 4)) (blkOk_by (own := [("_law_letter", 7)]) (N := nPc) (sc := defScope sPc) (by decide +kernel)) (fun _ _ _ _ _ => pg_name (i := 7) nd rfl (Or.inl rfl)) (fun _ _ _ _ _ => pts_one (pt_cmpR (op_notIn_seqK (K := K) rfl) (pv 7) (pv 5) (by rfl))) (fun _ _ _ _ _ => (pv 7))))
  (pss_one (ps_if (PW.pt (pw_and (pt_cmpR op_lt (pv 6) (pv 2) (nomark _)) (pw_and1 (pt_cmpR op_eq (pe_ix (ix_tupK (K := K) rfl) (pe_ix (ix_listK (K := K) rfl) (pv 1) (pv 6) (fun _ _ => rfl)) pe_int (fun _ _ => rfl)) pe_str (nomark _)))))
  (pss_one (ps_set (i := 5) nd rfl (Or.inr rfl) (pe_op op_cat (pv 5) (pe_lst (pa_cons (pe_ix (ix_tupK (K := K) rfl) (pe_ix (ix_listK (K := K) rfl) (pv 1) (pv 6) (fun _ _ => rfl)) pe_int (fun _ _ => rfl)) pa_nil)))))
  pss_nil))))))
 (pss_one (ps_ret (pv 4))))), ?_⟩
    refine asg_go ?_
    refine ⟨_, rfl, _, _, rfl, rfl, 1, (n : Int) + 1, rfl, rfl, ⟨by decide, by decide, by omega, by omega, by omega⟩, fun S nS => ⟨Nat.zero_le _, fun Dp nDp => ⟨by show 2 ≤ sizeLine; decide, fun tt nt => ?_⟩⟩⟩
    have e0 : (upd H S (.lst (rgV 1 ((n : Int) + 1)))) S = some (.lst ((rowsN n).map V.int)) := by rw [upd_same, rg_rows]
    have s1 := same_new nS (o := .lst (rgV 1 ((n : Int) + 1)))
    generalize upd H S (.lst (rgV 1 ((n : Int) + 1))) = H1 at e0 s1 nDp nt ⊢
    have s2 := same_new nDp (o := .lst ([] : List V))
    have d2 : (upd H1 Dp (.lst ([] : List V))) Dp = some (.lst []) := upd_same
    generalize upd H1 Dp (.lst ([] : List V)) = H2 at s2 d2 nt ⊢
    have s3 := same_new nt (o := .tup [.ref S, .ref Dp])
    have t3 : (upd H2 tt (.tup [.ref S, .ref Dp])) tt = some (.tup [.ref S, .ref Dp]) := upd_same
    generalize upd H2 tt (.tup [.ref S, .ref Dp]) = H3 at s3 t3 ⊢
    refine ⟨tt, _, rfl, st t3, rfl, _, _, rfl, _, _, rfl, rfl, ?_⟩
    have hlr : (rowsN n).length ≤ 10 := by unfold rowsN; rw [List.length_map, List.length_range]; exact hn
    have lcs : ∀ j, (stG fate cs 0 (rowsN n) [] j).1.length ≤ 10 := fun j => Nat.le_trans (stG_rows fate cs 0 _ _ j) hlr
    have lx : xs.length = cs.length := A2.len hA
    refine ⟨_, rfl, _, _, rfl, rfl, _, rfl, by omega, by omega, for_range (lo := 0) (n := at_ + 1) (fun i σ G => ∃ (S Dp : Addr) (ds : List Int) (v6 : Option V), σ = [some (.int n), some (.ref a), some (.int at_), some (.ref fa), some (.ref S), some (.ref Dp), v6, none, none] ∧ Same H G ∧ G S = some (.lst ((stG fate cs 0 (rowsN n) [] (min i at_)).1.map V.int)) ∧ G Dp = some (.lst (ds.map V.int)) ∧ (i ≤ at_ → ∀ x, x ∈ ds ↔ x ∈ (stG fate cs 0 (rowsN n) [] i).2) ∧ ds.length ≤ 3 * i ∧ H S = none) ?_ ?_ ?_⟩
    · have e1 : stG fate cs 0 (rowsN n) [] (min 0 at_) = (rowsN n, []) := by rw [Nat.zero_min]; cases cs <;> rfl
      refine ⟨S, Dp, [], none, rfl, (s1.trans s2).trans s3, ?_, s3 _ _ d2, fun _ x => ?_, Nat.zero_le _, nS⟩
      · rw [e1]; exact s3 _ _ (s2 _ _ e0)
      · have e2 : stG fate cs 0 (rowsN n) [] 0 = (rowsN n, []) := by cases cs <;> rfl
        rw [e2]
    · rintro i σ G hi2 ⟨S, Dp, ds, v6, rfl, sG, hS, hD, hm, ld, nSH⟩
      have e0 : (0 + (i : Int)) = (i : Int) := by omega
      rw [e0]
      refine name_gc (asg_go ?_)
      have hFG := PrA.tu hF (TU.of sG)
      refine ⟨_, rfl, _, rfl, fa, rfl, ⟨_, st (sG _ _ hf)⟩, fun N nN => lc_sel walk_tup (hA := hFG) nN (fun G s => st (s _ _ (sG _ _ hf))) (by have := A2.len hF; omega) (fun (pr : Pr) => if pr.2 = (i : Int) then some pr.1 else none) (out := fun y l => y = V.int l) ?_ ?_⟩
      · rintro x pr J Tt S' ⟨t, rfl, ht⟩ _ s4 hT hS'
        refine ⟨t, _, rfl, st (s4 _ _ ht), rfl, _, _, rfl, _, _, rfl, rfl, rfl, _, rfl, _, rfl, rfl, _, rfl, ?_⟩
        by_cases e : pr.2 = (i : Int)
        · refine itbT ?_ ⟨_, rfl, hT _ pr.1 J same_r (if_pos e) rfl⟩
          rw [dec_int, e]; exact beq_self_eq_true _
        · refine itbF ?_ (hS' J same_r (if_neg e))
          rw [dec_int]
          exact beq_eq_false_iff_ne.mpr e
      · intro J acc s4 hacc hAcc
        have ea := A2.vals hAcc
        have la : (fate.filterMap fun (pr : Pr) => if pr.2 = (i : Int) then some pr.1 else none).length ≤ 2 := Nat.le_trans (List.length_filterMap_le _ _) l2
        have hmm : ∀ x, x ∈ (fate.filterMap fun (pr : Pr) => if pr.2 = (i : Int) then some pr.1 else none) ↔ ∃ p ∈ fate, p.2 = (i : Int) ∧ p.1 = x := fun x => by
          rw [List.mem_filterMap]
          constructor
          · rintro ⟨p, hp, h⟩
            split at h
            · rename_i h1
              exact ⟨p, hp, h1, Option.some.inj h⟩
            · cases h
          · rintro ⟨p, hp, h1, h2⟩
            exact ⟨p, hp, by rw [if_pos h1, h2]⟩
        generalize (fate.filterMap fun (pr : Pr) => if pr.2 = (i : Int) then some pr.1 else none) = nw at ea la hmm
        subst ea
        have hDJ := s4 _ _ hD
        refine ⟨Dp, N, _, _, rfl, rfl, hDJ, hacc, lt1 _ (by rw [List.length_map, List.length_map]; omega), fun D2 nD2 => name_gc ?_⟩
        have s5 := same_new nD2 (o := .lst (ds.map V.int ++ nw.map V.int))
        have hD2 : (upd J D2 (.lst (ds.map V.int ++ nw.map V.int))) D2 = some (.lst ((ds ++ nw).map V.int)) := by rw [upd_same, List.map_append]
        have sG5 := sG.trans (s4.trans s5)
        have hS5 := s5 _ _ (s4 _ _ hS)
        generalize upd J D2 (.lst (ds.map V.int ++ nw.map V.int)) = J1 at hD2 sG5 hS5
        have hm2 : i ≤ at_ → ∀ x, x ∈ ds ++ nw ↔ x ∈ goBy fate (i : Int) (stG fate cs 0 (rowsN n) [] i).2 := fun hle x => by
          rw [List.mem_append, hm hle x, hmm x, goBy_mem]
        have ld2 : (ds ++ nw).length ≤ 3 * i + 2 := by rw [List.length_append]; omega
        generalize ds ++ nw = ds2 at hD2 hm2 ld2
        clear hDJ hacc hAcc hmm la s4 s5 nN hm ld hD
        by_cases hlt : i < at_
        · have hic : i < cs.length := by omega
          obtain ⟨c, hc⟩ : ∃ c, cs[i]? = some c := ⟨_, List.getElem?_eq_getElem hic⟩
          have hsu := stG_succ fate cs 0 (rowsN n) [] i c hc
          rw [Nat.zero_add] at hsu
          have hst : min i at_ = i := Nat.min_eq_left (by omega)
          have hst2 : min (i + 1) at_ = i + 1 := Nat.min_eq_left (by omega)
          rw [hst] at hS5
          have hro : Dv J1 (.ref a) (.list (cs.map cmD)) := .lst (sG5 _ _ ha) (CmA.tu hA (TU.of sG5)).dv
          have hcd : (cs.map cmD)[i]? = some (cmD c) := by rw [List.getElem?_map, hc]; rfl
          have hxi : xs[i]? = some (xs[i]'(by omega)) := List.getElem?_eq_getElem _
          generalize xs[i]'(by omega) = x0 at hxi
          obtain ⟨c', hc', tc, rfl, htc⟩ := A2.get hA hxi
          obtain rfl : c' = c := Option.some.inj (hc'.symm.trans hc)
          refine ⟨_, rfl, _, rfl, _, _, rfl, rfl, _, rfl, itbT (decide_eq_true (by omega)) ?_⟩
          refine eqD_go (gh_ixg (gh_var rfl hro) (gh_var rfl (.int _)) hcd) (gh_tup (gh_cons (gh_str _) gh_nil)) (cm_okD c') (by decide +kernel) fun J2 s6 => ⟨_, rfl, ?_⟩
          rw [cm_ask]
          have sG6 := sG5.trans s6
          have hS6 := s6 _ _ hS5
          have hD6 := s6 _ _ hD2
          by_cases hask : c' = .ask
          · subst hask
            refine itbT (decide_eq_true rfl) ?_
            refine ⟨_, rfl, S, rfl, ⟨_, sq hS6⟩, fun M nM => lc_sel walk_list (ls := (stG fate cs 0 (rowsN n) [] i).1) (A2_int _) nM (fun G s => sq (s _ _ hS6)) (by rw [List.length_map]; have := lcs i; omega) (fun l => if l ∈ ds2 then none else some l) (out := fun y l => y = V.int l) ?_ ?_⟩
            · rintro x l J3 Tt S' rfl _ s7 hT hS'
              refine ⟨rfl, _, rfl, _, rfl, D2, _, rfl, .inl (sq (s7 _ _ hD6)), rfl, by rw [List.all_map]; exact List.all_eq_true.mpr fun _ _ => rfl, _, rfl, ?_⟩
              rw [inV_ints]
              by_cases e : l ∈ ds2
              · exact itbF (by rw [decide_eq_true e]; rfl) (hS' J3 same_r (if_pos e))
              · exact itbT (by rw [decide_eq_false e]; rfl) ⟨_, rfl, hT _ l J3 same_r (if_neg e) rfl⟩
            · intro J3 acc s7 hacc hAcc
              have ea := A2.vals hAcc
              rw [forget_eq (hm2 (by omega))] at ea
              subst ea
              refine name_gc ⟨M, D2, ds2, _, rfl, sG6.trans s7, ?_, s7 _ _ hD6, fun _ x => ?_, by omega, sG6.free nM⟩
              · rw [hst2, hsu]; exact hacc
              · rw [hsu]; exact hm2 (by omega) x
          · refine itbF (decide_eq_false hask) ?_
            refine ⟨_, rfl, _, rfl, _, _, rfl, rfl, _, rfl, itbT (decide_eq_true (by omega)) ?_⟩
            have htc6 := sG6 _ _ htc
            refine ⟨_, rfl, _, rfl, a, xs, i, .ref tc, rfl, rfl, sq (sG6 _ _ ha), atI_nat hxi, tc, _, 0, _, rfl, rfl, st htc6, atI_nat (j := 0) (cm_wd c'), rfl, _, rfl, ?_⟩
            cases c' with
            | ask => exact absurd rfl hask
            | look k =>
              refine itbF (show decide (V.str "look" = V.str "take") = false by decide +kernel) ⟨S, D2, ds2, _, rfl, sG6, ?_, hD6, fun _ x => ?_, by omega, nSH⟩
              · rw [hst2, hsu]; exact hS6
              · rw [hsu]; exact hm2 (by omega) x
            | take k =>
              refine itbT (show decide (V.str "take" = V.str "take") = true by decide +kernel) ?_
              refine ⟨_, rfl, _, rfl, _, rfl, a, xs, i, .ref tc, rfl, rfl, sq (sG6 _ _ ha), atI_nat hxi, tc, _, 1, .int k, rfl, rfl, st htc6, atI_nat (j := 1) rfl, by show 1 ≤ sizeLine; decide, fun M nM => ?_⟩
              have s7 := same_new nM (o := .lst [V.int k])
              refine ⟨D2, M, _, _, rfl, rfl, s7 _ _ hD6, upd_same, lt1 _ (by rw [List.length_map]; show _ + 1 ≤ _; omega), fun D3 nD3 => name_gc ?_⟩
              have s8 := same_new nD3 (o := .lst (ds2.map V.int ++ [V.int k]))
              refine ⟨S, D3, ds2 ++ [k], _, rfl, sG6.trans (s7.trans s8), ?_, ?_, fun _ x => ?_, by rw [List.length_append]; show _ + 1 ≤ _; omega, nSH⟩
              · rw [hst2, hsu]; exact s8 _ _ (s7 _ _ hS6)
              · rw [upd_same, List.map_append]; rfl
              · rw [hsu]
                show x ∈ ds2 ++ [k] ↔ x ∈ putG _ k
                rw [putG_mem, List.mem_append, List.mem_singleton, hm2 (by omega) x]
        · have hst : min i at_ = at_ := Nat.min_eq_right (by omega)
          have hst2 : min (i + 1) at_ = at_ := Nat.min_eq_right (by omega)
          rw [hst] at hS5
          refine ⟨_, rfl, _, rfl, _, _, rfl, rfl, _, rfl, itbF (decide_eq_false (by omega)) (itbF rfl ?_)⟩
          refine ⟨_, rfl, _, rfl, _, _, rfl, rfl, _, rfl, itbF (decide_eq_false (by omega)) (itbF rfl ?_)⟩
          exact ⟨S, D2, ds2, _, rfl, sG5, by rw [hst2]; exact hS5, hD2, (fun z => by omega), by omega, nSH⟩
    · rintro σ G ⟨S, Dp, ds, v6, rfl, sG, hS, hD, hm, ld, nSH⟩
      rw [Nat.min_eq_right (by omega)] at hS
      exact ⟨_, rfl, q G S sG nSH hS⟩
end
end K1


set_option Elab.async false
set_option linter.all false
set_option maxRecDepth 100000
set_option maxHeartbeats 4000000
/-! k29: _law_fates. -/
namespace K1
open PySem PySem.Spec PyProof.Rows L2 RZ
abbrev sLf : Stmt := st__law_fates
abbrev nLf : List Str := ["_law_loose", "_law_k", "_law_moments", "_law_found", "_law_one_here", "_law_moment", "_law_other", "_law_later"]
abbrev pLf : List Str := ["_law_loose", "_law_k", "_law_moments"]
theorem scLf : FnScope nLf pLf (defScope sLf) := ⟨rfl, rfl, rfl, by decide +kernel, rfl, by decide +kernel, by decide +kernel⟩
def spLf : Sp := fun vs H Q _ => ∃ (lo : Addr) (ls : List Int) (k : Int) (m : Nat), vs = [.ref lo, .int k, .int (m : Int)] ∧ H lo = some (.tup (ls.map V.int)) ∧ ls.length ≤ 10 ∧ m ≤ 8 ∧
  ∀ H' D xs, Same H H' → H' D = some (.lst xs) → xs.length ≤ 9000 → FtA H' xs (lawF ls k m) → Q (.ref D) H'
/-- loose if k > c else () -/
theorem sel_go {G : Hp} {σ : L2.St} {i : Nat} {j : Nat} {lo : Addr} {ls : List Int} {k c : Int} {Q : VK} (hk : σ[i]? = some (some (.int k))) (hj : σ[j]? = some (some (.ref lo))) (hl : G lo = some (.tup (ls.map V.int)))
    (q : ∀ A J, Same G J → J A = some (.tup ((if c < k then ls else []).map V.int)) → Q (.ref A) J) : tIf (tTest (tOp (rI0 fun i j => .bl (decide (i > j))) (tVar i) (tC (.int c)))) (tVar j) (tTup tNil) σ G Q := by
  refine ⟨_, hk, _, _, rfl, rfl, _, rfl, ?_⟩
  by_cases h : c < k
  · refine itbT (decide_eq_true h) ⟨_, hj, q lo G same_r (by rw [if_pos h]; exact hl)⟩
  · refine itbF (decide_eq_false h) ⟨Nat.zero_le _, fun A nA => q A _ (same_new nA) (by rw [if_neg h]; exact upd_same)⟩
theorem if_len {p : Prop} [Decidable p] {ls : List Int} {b : Nat} (h : ls.length ≤ b) : (if p then ls else []).length ≤ b := by
  split
  · exact h
  · exact Nat.zero_le _
theorem flat_more {α β : Type} {l : List α} {g : α → List β} {i : Nat} {x : α} (h : l[i]? = some x) : (l.take (i + 1)).flatMap g = (l.take i).flatMap g ++ g x := by
  rw [take_more h, List.flatMap_append, List.flatMap_cons, List.flatMap_nil, List.append_nil]
section
variable {P : Program} {w : World} {K : PySem.W.Frag} {mg : Str → Option Value} {base : Heap}
theorem ok_lf {f : Addr} {fd : FuncData} (T : Bj mg) (F : Fun K "_law_fates" "_law_fates" sLf f fd) : FnOk P w K mg base CX0 1 f fd pLf spLf := by
  have nd := scLf.nd
  refine F.ok scLf (fun vs H Q E h => ?_) (fun cdv A outer s H vs Q E hr h => ?_)
  · obtain ⟨lo, ls, k, m, rfl, _⟩ := h
    rfl
  · obtain ⟨lo, ls, k, m, rfl, hlo, ll, lm, q⟩ := h
    refine ⟨_, (pss_cons (ps_set (i := 3) nd rfl (Or.inl rfl) (pe_lst (pa_cons (pe_tup pa_nil) pa_nil)))
 (pss_cons (ps_for PassesOwn.never rfl (pi_tupK (K := K) rfl (pe_ifExp (pt_cmpR op_gt (pv 1) pe_int (nomark _)) (pv 0) (pe_tup pa_nil))) (pg_name (i := 4) nd rfl (Or.inr rfl))
  (pss_one (ps_for PassesOwn.never rfl (pi_range1 rfl T.range (pa_cons (pv 2) pa_nil)) (pg_name (i := 5) nd rfl (Or.inr rfl))
  (pss_cons (ps_expr (pe_bm PySem.F.plainAttrs_list PySem.F.slot_list_append PySem.F.type_list_append mt_append (pv 3) (pa_cons (pe_tup (pa_cons (pe_tup (pa_cons (pv 4) (pa_cons (pv 5) pa_nil))) pa_nil)) pa_nil)))
 (pss_one (ps_for PassesOwn.never rfl (pi_tupK (K := K) rfl (pe_ifExp (pt_cmpR op_gt (pv 1) pe_int (nomark _)) (pv 0) (pe_tup pa_nil))) (pg_name (i := 6) nd rfl (Or.inr rfl))
  (pss_one (ps_set (i := 3) nd rfl (Or.inl rfl) (pe_op op_cat (pv 3) (pe_lc (own := [("_law_later", 7)]) (g := gName 7) (tt := tYes) rfl nd (pi_range1 rfl T.range (pa_cons (pe_op op_mul (pv 2) (pe_callTy call_int1 (by rfl) T.int PyProof.Rows.boot_int (pa_cons (pe_cmpR op_gt (pv 6) (pv 4) (nomark _)) pa_nil))) pa_nil)) (blkOk_by (own := [("_law_later", 7)]) (N := nLf) (sc := defScope sLf) (by decide +kernel)) (fun _ _ _ _ _ => pg_name (i := 7) nd rfl (Or.inl rfl)) (fun _ _ _ _ _ => pts_nil) (fun _ _ _ _ _ => (pe_tup (pa_cons (pe_tup (pa_cons (pv 4) (pa_cons (pv 5) pa_nil))) (pa_cons (pe_tup (pa_cons (pv 6) (pa_cons (pv 7) pa_nil))) pa_nil))))))))))))))
 (pss_one (ps_ret (pv 3))))), ?_⟩
    refine asg_go ⟨Nat.zero_le _, fun e0 ne0 => ⟨by show 1 ≤ sizeLine; decide, fun D0 nD0 => name_gc ?_⟩⟩
    have s1 := same_new ne0 (o := .tup [])
    have he0 : (upd H e0 (.tup [])) e0 = some (.tup []) := upd_same
    generalize upd H e0 (.tup []) = H1 at s1 he0 nD0 ⊢
    have s2 := same_new nD0 (o := .lst [.ref e0])
    have hD0 : (upd H1 D0 (.lst [.ref e0])) D0 = some (.lst [.ref e0]) := upd_same
    have nDH : H D0 = none := s1.free nD0
    generalize upd H1 D0 (.lst [.ref e0]) = H2 at s2 hD0 ⊢
    have s12 := s1.trans s2
    refine sel_go (G := H2) rfl rfl (s12 _ _ hlo) fun A H3 s3 hAA => ?_
    have lz := if_len (p := 0 < k) ll
    have hz : lawF ls k m = [] :: (if 0 < k then ls else []).flatMap fun a => (List.range m).flatMap fun (mo : Nat) => [(a, (mo : Int))] :: lawP ls k m a (mo : Int) := rfl
    generalize (if 0 < k then ls else []) = zs at hAA lz hz
    rw [hz] at q
    clear hz
    refine ⟨A, rfl, ⟨_, st hAA⟩, for_it (walk_tup (K := K) (a := A) (xs := zs.map V.int)) (fun i σ G => ∃ (D : Addr) (v4 v5 v6 : Option V) (xs : List V), σ = [some (.ref lo), some (.int k), some (.int m), some (.ref D), v4, v5, v6, none] ∧ Same H G ∧ TU H3 G ∧ H D = none ∧ G D = some (.lst xs) ∧ xs.length ≤ 1 + 648 * i ∧ FtA G xs ([] :: (zs.take i).flatMap fun a => (List.range m).flatMap fun (mo : Nat) => [(a, (mo : Int))] :: lawP ls k m a (mo : Int))) ?_ ?_ ?_ ?_⟩
    · exact ⟨D0, none, none, none, [.ref e0], rfl, s12.trans s3, TU.refl, nDH, s3 _ _ hD0, Nat.le_refl _, .cons ⟨e0, [], rfl, s3 _ _ (s2 _ _ he0), .nil⟩ .nil⟩
    · rintro i σ G _ ⟨_, _, _, _, _, _, _, tG, _⟩
      exact st (tG _ _ hAA)
    · rintro i x σ G G' hi ⟨D, v4, v5, v6, xs, rfl, sG, tG, nD, hD, lxs, hFt⟩ ⟨rfl, hx⟩
      rw [List.getElem?_map] at hx
      cases hzi : zs[i]? with
      | none => rw [hzi] at hx; cases hx
      | some a =>
      rw [hzi] at hx
      cases hx
      have hi10 : i < 10 := by have := lt_of_get hzi; omega
      refine name_gc ?_
      rw [flat_more hzi]
      generalize (zs.take i).flatMap (fun a => (List.range m).flatMap fun (mo : Nat) => [(a, (mo : Int))] :: lawP ls k m a (mo : Int)) = pre at hFt
      refine ⟨_, rfl, _, rfl, by omega, by omega, for_range (lo := 0) (n := m) (fun j σ G => ∃ (D : Addr) (v5 v6 : Option V) (xs : List V), σ = [some (.ref lo), some (.int k), some (.int m), some (.ref D), some (.int a), v5, v6, none] ∧ Same H G ∧ TU H3 G ∧ H D = none ∧ G D = some (.lst xs) ∧ xs.length ≤ 1 + 648 * i + 81 * j ∧ FtA G xs ([] :: (pre ++ (List.range j).flatMap fun (mo : Nat) => [(a, (mo : Int))] :: lawP ls k m a (mo : Int)))) ?_ ?_ ?_⟩
      · exact ⟨D, _, _, xs, rfl, sG, tG, nD, hD, by omega, by simpa using hFt⟩
      · rintro j σ G1 hj ⟨D, v5, v6, xs, rfl, sG, tG, nD, hD, lxs, hFt⟩
        have e0 : (0 + (j : Int)) = (j : Int) := by omega
        rw [e0]
        refine name_gc ?_
        have hrj : (List.range (j + 1)).flatMap (fun (mo : Nat) => [(a, (mo : Int))] :: lawP ls k m a (mo : Int)) = (List.range j).flatMap (fun (mo : Nat) => [(a, (mo : Int))] :: lawP ls k m a (mo : Int)) ++ ([(a, (j : Int))] :: lawP ls k m a (j : Int)) := by
          rw [List.range_succ, List.flatMap_append, List.flatMap_cons, List.flatMap_nil, List.append_nil]
        rw [hrj, ← List.append_assoc]
        generalize pre ++ (List.range j).flatMap (fun (mo : Nat) => [(a, (mo : Int))] :: lawP ls k m a (mo : Int)) = pre2 at hFt
        refine ⟨_, rfl, .inl ⟨rfl, _, sq hD⟩, _, rfl, _, rfl, by show 2 ≤ sizeLine; decide, fun t1 n1 => ⟨by show 1 ≤ sizeLine; decide, fun t2 n2 => ?_⟩⟩
        have k1 := same_new n1 (o := .tup [.int a, .int (j : Int)])
        have h1 : (upd G1 t1 (.tup [.int a, .int (j : Int)])) t1 = some (.tup [.int a, .int (j : Int)]) := upd_same
        generalize upd G1 t1 (.tup [.int a, .int (j : Int)]) = G2 at k1 h1 n2 ⊢
        have k2 := same_new n2 (o := .tup [.ref t1])
        have h2 : (upd G2 t2 (.tup [.ref t1])) t2 = some (.tup [.ref t1]) := upd_same
        have h12 := k2 _ _ h1
        generalize upd G2 t2 (.tup [.ref t1]) = G3 at k2 h2 h12 ⊢
        have hD3 := k2 _ _ (k1 _ _ hD)
        refine ⟨D, xs, .ref t2, rfl, rfl, hD3, lt2 _ (by omega), ?_⟩
        have tu3 : TU G3 (upd G3 D (.lst (xs ++ [.ref t2]))) := TU.kp Kp.upd hD3 fun _ z => by cases z
        have tu1 : TU G1 (upd G3 D (.lst (xs ++ [.ref t2]))) := (TU.of (k1.trans k2)).trans tu3
        have sG4 : Same H (upd G3 D (.lst (xs ++ [.ref t2]))) := (sG.trans (k1.trans k2)).mut nD
        have hD4 : (upd G3 D (.lst (xs ++ [.ref t2]))) D = some (.lst (xs ++ [.ref t2])) := upd_same
        have hF4 : FtA (upd G3 D (.lst (xs ++ [.ref t2]))) (xs ++ [.ref t2]) (([] :: pre2) ++ [[(a, (j : Int))]]) := (FtA.tu hFt tu1).app (.cons ⟨t2, _, rfl, tu3 _ _ h2, .cons ⟨t1, rfl, tu3 _ _ h12⟩ .nil⟩ .nil)
        have tG4 := tG.trans tu1
        have lx4 : (xs ++ [V.ref t2]).length ≤ 1 + 648 * i + 81 * j + 1 := by rw [List.length_append]; show _ + 1 ≤ _; omega
        generalize upd G3 D (.lst (xs ++ [.ref t2])) = G4 at sG4 hD4 hF4 tG4
        generalize xs ++ [V.ref t2] = xs4 at hD4 hF4 lx4
        clear tu3 tu1 k1 k2 h1 h2 h12 hD3 hD hFt lxs
        refine sel_go (G := G4) rfl rfl (sG4 _ _ hlo) fun A2' J s5 hA2 => ?_
        have lz2 := if_len (p := 1 < k) ll
        have hlp : lawP ls k m a (j : Int) = (if 1 < k then ls else []).flatMap fun b => (List.range (if a < b then m else 0)).map fun (la : Nat) => [(a, (j : Int)), (b, (la : Int))] := rfl
        generalize (if 1 < k then ls else []) = zs2 at hA2 lz2 hlp
        rw [hlp]
        clear hlp
        refine ⟨A2', rfl, ⟨_, st hA2⟩, for_it (walk_tup (K := K) (a := A2') (xs := zs2.map V.int)) (fun r σ G => ∃ (D : Addr) (v6 : Option V) (xs : List V), σ = [some (.ref lo), some (.int k), some (.int m), some (.ref D), some (.int a), some (.int (j : Int)), v6, none] ∧ Same H G ∧ TU J G ∧ H D = none ∧ G D = some (.lst xs) ∧ xs.length ≤ 1 + 648 * i + 81 * j + 1 + 8 * r ∧ FtA G xs ((([] :: pre2) ++ [[(a, (j : Int))]]) ++ (zs2.take r).flatMap fun b => (List.range (if a < b then m else 0)).map fun (la : Nat) => [(a, (j : Int)), (b, (la : Int))])) ?_ ?_ ?_ ?_⟩
        · exact ⟨D, _, xs4, rfl, sG4.trans s5, TU.refl, nD, s5 _ _ hD4, lx4, by simpa using FtA.tu hF4 (TU.of s5)⟩
        · rintro r σ G _ ⟨_, _, _, _, _, tJ, _⟩
          exact st (tJ _ _ hA2)
        · rintro r x σ G G' hr2 ⟨D, v6, xs, rfl, sG, tJ, nD, hD, lxs, hFt⟩ ⟨rfl, hx⟩
          rw [List.getElem?_map] at hx
          cases hzr : zs2[r]? with
          | none => rw [hzr] at hx; cases hx
          | some b =>
          rw [hzr] at hx
          cases hx
          have hr10 : r < 10 := by have := lt_of_get hzr; omega
          refine name_gc ?_
          rw [flat_more hzr, ← List.append_assoc]
          generalize (([] :: pre2) ++ [[(a, (j : Int))]]) ++ (zs2.take r).flatMap (fun b => (List.range (if a < b then m else 0)).map fun (la : Nat) => [(a, (j : Int)), (b, (la : Int))]) = pre3 at hFt
          obtain ⟨cnt, hcnt, hN⟩ : ∃ cnt : Nat, cnt = (if a < b then m else 0) ∧ (m : Int) * (if decide (b > a) = true then 1 else 0) = (cnt : Int) := by
            by_cases h : a < b
            · exact ⟨m, (if_pos h).symm, by rw [if_pos (decide_eq_true h), Int.mul_one]⟩
            · exact ⟨0, (if_neg h).symm, by rw [if_neg (by rw [decide_eq_true_eq]; exact h), Int.mul_zero]; rfl⟩
          have lc8 : cnt ≤ 8 := by rw [hcnt]; split <;> omega
          rw [← hcnt]
          refine ⟨_, rfl, _, rfl, _, rfl, _, rfl, b, a, rfl, rfl, .inr ⟨_, rfl, (m : Int), _, rfl, rfl, .inl ⟨by omega, by omega⟩, _, rfl, ?_⟩⟩
          rw [hN]
          refine ⟨by omega, by omega, fun N nN => ?_⟩
          refine lc_it walk_range (fun c G2 => Same G' G2 ∧ ∃ acc, G2 N = some (.lst acc) ∧ acc.length = c ∧ FtA G2 acc ((List.range c).map fun (la : Nat) => [(a, (j : Int)), (b, (la : Int))])) ⟨same_new nN, [], upd_same, rfl, .nil⟩ (fun _ _ _ _ => trivial) ?_ ?_
          · rintro c y N1 N' hc ⟨s6, acc, hL, lac, hAc⟩ ⟨rfl, rfl⟩
            have e1 : (0 + (c : Int)) = (c : Int) := by omega
            dsimp only
            rw [e1]
            refine ⟨rfl, tyes ⟨_, rfl, _, rfl, by show 2 ≤ sizeLine; decide, fun u1 m1 => ⟨_, rfl, _, rfl, by show 2 ≤ sizeLine; decide, fun u2 m2 => ⟨by show 2 ≤ sizeLine; decide, fun u3 m3 => ?_⟩⟩⟩⟩
            have q1 := same_new m1 (o := .tup [.int a, .int (j : Int)])
            have g1 : (upd N' u1 (.tup [.int a, .int (j : Int)])) u1 = some (.tup [.int a, .int (j : Int)]) := upd_same
            generalize upd N' u1 (.tup [.int a, .int (j : Int)]) = N2 at q1 g1 m2 m3 ⊢
            have q2 := same_new m2 (o := .tup [.int b, .int (c : Int)])
            have g2 : (upd N2 u2 (.tup [.int b, .int (c : Int)])) u2 = some (.tup [.int b, .int (c : Int)]) := upd_same
            generalize upd N2 u2 (.tup [.int b, .int (c : Int)]) = N3 at q2 g2 m3 ⊢
            have q3 := same_new m3 (o := .tup [.ref u1, .ref u2])
            have g3 : (upd N3 u3 (.tup [.ref u1, .ref u2])) u3 = some (.tup [.ref u1, .ref u2]) := upd_same
            generalize upd N3 u3 (.tup [.ref u1, .ref u2]) = N4 at q3 g3 ⊢
            have q13 := q1.trans (q2.trans q3)
            have hL4 := q13 _ _ hL
            have t5 : TU N4 (upd N4 N (.lst (acc ++ [.ref u3]))) := TU.kp Kp.upd hL4 fun _ z => by cases z
            refine ⟨acc, hL4, lt2 _ (by omega), (s6.trans q13).mut nN, _, upd_same, by rw [List.length_append, lac]; rfl, ?_⟩
            rw [List.range_succ, List.map_append]
            exact (FtA.tu hAc ((TU.of q13).trans t5)).app (.cons ⟨u3, _, rfl, t5 _ _ g3, .cons ⟨u1, rfl, t5 _ _ (q3 _ _ (q2 _ _ g1))⟩ (.cons ⟨u2, rfl, t5 _ _ (q3 _ _ g2)⟩ .nil)⟩ .nil)
          · rintro N1 ⟨s6, acc, hL, lac, hAc⟩
            rw [Int.toNat_natCast] at hAc lac
            have hDN := s6 _ _ hD
            refine ⟨D, N, _, _, rfl, rfl, hDN, hL, lt1 _ (by omega), fun D2 nD2 => name_gc ?_⟩
            have s7 := same_new nD2 (o := .lst (xs ++ acc))
            have s67 := s6.trans s7
            refine ⟨D2, _, _, rfl, sG.trans s67, tJ.trans (TU.of s67), (sG.trans s6).free nD2, upd_same, by rw [List.length_append]; omega, (FtA.tu hFt (TU.of s67)).app (FtA.tu hAc (TU.of s7))⟩
        · rintro σ G ⟨D, v6, xs, rfl, sG, tJ, nD, hD, lxs, hFt⟩
          rw [List.length_map] at lxs hFt
          rw [List.take_length] at hFt
          refine ⟨D, _, _, xs, rfl, sG, tG4.trans ((TU.of s5).trans tJ), nD, hD, by omega, ?_⟩
          simpa using hFt
      · rintro σ G1 ⟨D, v5, v6, xs, rfl, sG, tG, nD, hD, lxs, hFt⟩
        exact ⟨D, _, _, _, xs, rfl, sG, tG, nD, hD, by omega, hFt⟩
    · rintro σ G ⟨D, v4, v5, v6, xs, rfl, sG, tG, nD, hD, lxs, hFt⟩
      rw [List.length_map] at lxs
      rw [List.length_map, List.take_length] at hFt
      exact ⟨_, rfl, q G D xs sG hD (by omega) hFt⟩
end
end K1


set_option Elab.async false
set_option linter.all false
set_option maxRecDepth 100000
set_option maxHeartbeats 4000000
/-! k29: _law_turned. -/
namespace K1
open PySem PySem.Spec PyProof.Rows L2 RZ
abbrev sLt : Stmt := st__law_turned
abbrev nLt : List Str := ["_law_n", "_law_wishes_here", "_law_found", "_law_at", "_law_shown"]
abbrev pLt : List Str := ["_law_n", "_law_wishes_here"]
theorem scLt : FnScope nLt pLt (defScope sLt) := ⟨rfl, rfl, rfl, by decide +kernel, rfl, by decide +kernel, by decide +kernel⟩
def spLt : Sp := fun vs H Q _ => ∃ (n : Nat) (a : Addr) (xs : List V) (cs : List Cm), vs = [.int n, .ref a] ∧ n ≤ 10 ∧ H a = some (.lst xs) ∧ CmA H xs cs ∧ cs.length ≤ 8 ∧
  ∀ H' D ys, Same H H' → H' D = some (.lst ys) → OcA H' ys (turnD cs (rowsN n) []) → Q (.ref D) H'
/-- a command with a letter, with another number -/
def setC (p : Int) : Cm → Cm
  | .ask => .ask
  | .look _ => .look p
  | .take _ => .take p
theorem tn_place {c : Cm} (h : c ≠ .ask) (rows : List Int) : tnC rows c = (placeD rows (plC c)).map fun p => setC p c := by
  cases c with
  | ask => exact absurd rfl h
  | look k => show tnO .look (placeD rows k) = (placeD rows k).map fun p => .look p; cases placeD rows k <;> rfl
  | take k => show tnO .take (placeD rows k) = (placeD rows k).map fun p => .take p; cases placeD rows k <;> rfl
theorem setC_v {c : Cm} (h : c ≠ .ask) (p : Int) : cmV (setC p c) = [.str (wdC c), .int p] := by
  cases c with
  | ask => exact absurd rfl h
  | look k => rfl
  | take k => rfl
section
variable {P : Program} {w : World} {K : PySem.W.Frag} {mg : Str → Option Value} {base : Heap}
theorem ok_lt {f : Addr} {fd : FuncData} (T : Bj mg) (D_place : Def P w K mg base CX0 1 "_law_place" pPc spPc) (F : Fun K "_law_turned" "_law_turned" sLt f fd) : FnOk P w K mg base CX0 2 f fd pLt spLt := by
  have nd := scLt.nd
  refine F.ok scLt (fun vs H Q E h => ?_) (fun cdv A outer s H vs Q E hr h => ?_)
  · obtain ⟨n, a, xs, cs, rfl, _⟩ := h
    rfl
  · obtain ⟨n, a, xs, cs, rfl, hn, ha, hA, l8, q⟩ := h
    refine ⟨_, (pss_cons (ps_set (i := 2) nd rfl (Or.inl rfl) (pe_lst pa_nil))
 (pss_cons (ps_for PassesOwn.never rfl (pi_range1 rfl T.range (pa_cons (pe_callB (call_lenK (K := K) rfl) (by rfl) T.len PySem.boot_len (pa_cons (pv 1) pa_nil)) pa_nil)) (pg_name (i := 3) nd rfl (Or.inl rfl))
  (pss_cons (ps_set (i := 4) nd rfl (Or.inl rfl) (pe_def D_place (hr.mono (by decide)) rfl pass0 (pa_cons (pv 0) (pa_cons (pv 1) (pa_cons (pv 3) (pa_cons (pe_tup pa_nil) pa_nil))))))
 (pss_one (ps_if (pt_cmpR (op_eqD2 (K := K) rfl (Room.u65 hr)) (pe_ix (ix_listK (K := K) rfl) (pv 1) (pv 3) (fun _ _ => rfl)) (pe_tup (pa_cons pe_str pa_nil)) (nomark _))
  (pss_one (ps_expr (pe_bm PySem.F.plainAttrs_list PySem.F.slot_list_append PySem.F.type_list_append mt_append (pv 2) (pa_cons (pe_tup (pa_cons pe_str pa_nil)) pa_nil))))
  (pss_one (ps_if (pt_cmpR (op_in_seqK (K := K) rfl) (pe_ix (ix_tupK (K := K) rfl) (pe_ix (ix_listK (K := K) rfl) (pv 1) (pv 3) (fun _ _ => rfl)) pe_int (fun _ _ => rfl)) (pv 4) (by rfl))
  (pss_one (ps_expr (pe_bm PySem.F.plainAttrs_list PySem.F.slot_list_append PySem.F.type_list_append mt_append (pv 2) (pa_cons (pe_tup (pa_cons (pe_ix (ix_tupK (K := K) rfl) (pe_ix (ix_listK (K := K) rfl) (pv 1) (pv 3) (fun _ _ => rfl)) pe_int (fun _ _ => rfl)) (pa_cons (pe_op op_add (pe_bm PySem.F.plainAttrs_list PySem.F.slot_list_index PySem.F.type_list_index mt_index (pv 4) (pa_cons (pe_ix (ix_tupK (K := K) rfl) (pe_ix (ix_listK (K := K) rfl) (pv 1) (pv 3) (fun _ _ => rfl)) pe_int (fun _ _ => rfl)) pa_nil)) pe_int) pa_nil))) pa_nil))))
  (pss_one (ps_expr (pe_bm PySem.F.plainAttrs_list PySem.F.slot_list_append PySem.F.type_list_append mt_append (pv 2) (pa_cons pe_non pa_nil))))))))))
 (pss_one (ps_ret (pv 2))))), ?_⟩
    refine asg_go ⟨Nat.zero_le _, fun D nD => name_gc ?_⟩
    have s1 := same_new nD (o := .lst ([] : List V))
    have hD : (upd H D (.lst ([] : List V))) D = some (.lst []) := upd_same
    generalize upd H D (.lst ([] : List V)) = H1 at s1 hD
    have lx : xs.length = cs.length := A2.len hA
    refine ⟨_, rfl, a, xs, rfl, .inl (sq (s1 _ _ ha)), _, rfl, by omega, by omega, for_range (lo := 0) (n := xs.length) (fun i σ G => ∃ (v3 v4 : Option V) (acc : List V), σ = [some (.int n), some (.ref a), some (.ref D), v3, v4] ∧ Same H G ∧ G D = some (.lst acc) ∧ acc.length = i ∧ OcA G acc ((turnD cs (rowsN n) []).take i)) ?_ ?_ ?_⟩
    · exact ⟨none, none, [], rfl, s1, hD, rfl, .nil⟩
    · rintro i σ G hi ⟨v3, v4, acc, rfl, sG, hDG, la, hO⟩
      have e0 : (0 + (i : Int)) = (i : Int) := by omega
      rw [e0]
      refine name_gc (asg_go ?_)
      refine ⟨_, rfl, _, rfl, _, rfl, Nat.zero_le _, fun t0 nt0 => ?_⟩
      have k0 := same_new nt0 (o := .tup [])
      refine ⟨n, a, t0, xs, [], cs, i, [], rfl, hn, k0 _ _ (sG _ _ ha), CmA.tu hA (TU.of (sG.trans k0)), l8, by omega, upd_same, .nil, Nat.zero_le _, fun G1 S k1 _ hS => name_gc ?_⟩
      have s2 := sG.trans (k0.trans k1)
      have hD1 := k1 _ _ (k0 _ _ hDG)
      have hO1 := OcA.tu hO (TU.of (k0.trans k1))
      have hic : i < cs.length := by omega
      obtain ⟨c, hc⟩ : ∃ c, cs[i]? = some c := ⟨_, List.getElem?_eq_getElem hic⟩
      have hta := turn_at cs 0 (rowsN n) [] i c hc
      have hro : Dv G1 (.ref a) (.list (cs.map cmD)) := .lst (s2 _ _ ha) (CmA.tu hA (TU.of s2)).dv
      have hcd : (cs.map cmD)[i]? = some (cmD c) := by rw [List.getElem?_map, hc]; rfl
      have hxi : xs[i]? = some (xs[i]'hi) := List.getElem?_eq_getElem _
      generalize xs[i]'hi = x0 at hxi
      obtain ⟨c', hc', tc, rfl, htc⟩ := A2.get hA hxi
      obtain rfl : c' = c := Option.some.inj (hc'.symm.trans hc)
      generalize hrows : (stG [] cs 0 (rowsN n) [] i).1 = rows at hS hta
      have fin : ∀ (o : Option Cm) (x : V) (J : Hp), tnC rows c' = o → Same G1 J → ocO J x o → ∃ (v3 v4 : Option V) (acc' : List V), [some (V.int n), some (V.ref a), some (V.ref D), some (V.int (i : Int)), some (V.ref S)] = [some (.int n), some (.ref a), some (.ref D), v3, v4] ∧ Same H (upd J D (.lst (acc ++ [x]))) ∧ (upd J D (.lst (acc ++ [x]))) D = some (.lst acc') ∧ acc'.length = i + 1 ∧ OcA (upd J D (.lst (acc ++ [x]))) acc' ((turnD cs (rowsN n) []).take (i + 1)) := fun o x J ho sJ hx => by
        have t5 : TU J (upd J D (.lst (acc ++ [x]))) := TU.kp Kp.upd (sJ _ _ hD1) fun _ z => by cases z
        refine ⟨_, _, _, rfl, (s2.trans sJ).mut nD, upd_same, by rw [List.length_append, la]; rfl, ?_⟩
        rw [take_more hta, ho]
        exact (OcA.tu hO1 ((TU.of sJ).trans t5)).app (.cons (hx.tu t5) .nil)
      refine eqD_go (gh_ixg (gh_var rfl hro) (gh_var rfl (.int _)) hcd) (gh_tup (gh_cons (gh_str _) gh_nil)) (cm_okD c') (by decide +kernel) fun J s3 => ⟨_, rfl, ?_⟩
      rw [cm_ask]
      have hDJ := s3 _ _ hD1
      by_cases hask : c' = .ask
      · subst hask
        refine itbT (decide_eq_true rfl) ?_
        refine ⟨_, rfl, .inl ⟨rfl, _, sq hDJ⟩, by show 1 ≤ sizeLine; decide, fun t1 nt1 => ?_⟩
        have k4 := same_new nt1 (o := .tup [V.str "ask"])
        exact ⟨D, acc, .ref t1, rfl, rfl, k4 _ _ hDJ, lt2 _ (by omega), fin (some .ask) _ _ rfl (s3.trans k4) ⟨t1, rfl, upd_same⟩⟩
      · refine itbF (decide_eq_false hask) ?_
        have haJ := s3 _ _ (s2 _ _ ha)
        have htcJ := s3 _ _ (s2 _ _ htc)
        have hSJ := s3 _ _ hS
        refine ⟨_, rfl, _, rfl, a, xs, i, .ref tc, rfl, rfl, sq haJ, atI_nat hxi, tc, _, 1, _, rfl, rfl, st htcJ, atI_nat (j := 1) (cm_let hask), _, rfl, S, _, rfl, .inl (sq hSJ), rfl, flat_ints rows, ?_⟩
        rw [if_neg (by decide), inV_ints]
        refine ⟨_, rfl, ?_⟩
        have hrw := tn_place hask rows
        by_cases hm : plC c' ∈ rows
        · refine itbT (decide_eq_true hm) ?_
          rw [place_ok rows _ hm] at hrw
          have hix := List.idxOf_lt_length_of_mem hm
          refine ⟨_, rfl, .inl ⟨rfl, _, sq hDJ⟩, _, rfl, _, rfl, a, xs, i, .ref tc, rfl, rfl, sq haJ, atI_nat hxi, tc, _, 0, _, rfl, rfl, st htcJ, atI_nat (j := 0) (cm_wd c'), _, rfl, .inl ⟨rfl, _, sq hSJ⟩, _, rfl, _, rfl, a, xs, i, .ref tc, rfl, rfl, sq haJ, atI_nat hxi, tc, _, 1, _, rfl, rfl, st htcJ, atI_nat (j := 1) (cm_let hask), ?_⟩
          refine ⟨S, _, .int (plC c'), rows.idxOf (plC c'), .int (plC c'), rfl, rfl, sq hSJ, rfl, flat_ints rows, ?_, ?_, fun m z hm2 hz => ?_, _, _, rfl, rfl, by show 2 ≤ sizeLine; decide, fun t1 nt1 => ?_⟩
          · rw [List.getElem?_map, List.getElem?_eq_getElem hix, List.getElem_idxOf hix]; rfl
          · show (plC c' == plC c') = true
            exact beq_self_eq_true _
          · rw [List.getElem?_map] at hz
            have hm3 : m < rows.length := Nat.lt_trans hm2 hix
            rw [List.getElem?_eq_getElem hm3] at hz
            cases hz
            show (rows[m] == plC c') = false
            have := List.not_of_lt_findIdx (p := fun x => x == plC c') (xs := rows) hm2
            simpa using this
          · have k4 := same_new nt1 (o := .tup [V.str (wdC c'), V.int ((rows.idxOf (plC c') : Nat) + 1)])
            refine ⟨D, acc, .ref t1, rfl, rfl, k4 _ _ hDJ, lt2 _ (by omega), fin _ _ _ hrw (s3.trans k4) ⟨t1, rfl, ?_⟩⟩
            rw [setC_v hask]
            exact upd_same
        · refine itbF (decide_eq_false hm) ?_
          rw [place_no rows _ hm] at hrw
          exact ⟨_, rfl, .inl ⟨rfl, _, sq hDJ⟩, D, acc, .non, rfl, rfl, hDJ, lt2 _ (by omega), fin none _ _ hrw s3 rfl⟩
    · rintro σ G ⟨v3, v4, acc, rfl, sG, hDG, la, hO⟩
      refine ⟨_, rfl, q G D acc sG hDG ?_⟩
      rwa [List.take_of_length_le (by rw [turn_len]; omega)] at hO
end
end K1


set_option Elab.async false
set_option linter.all false
set_option maxRecDepth 100000
set_option maxHeartbeats 4000000
/-! k29: _law_by_number. -/
namespace K1
open PySem PySem.Spec PyProof.Rows L2 RZ
def cutI (rows : List Int) (lo hi : Option Int) : List Int := (rows.drop (HT.sIx rows.length 0 lo)).take (HT.sIx rows.length rows.length hi - HT.sIx rows.length 0 lo)
theorem cutI_v (rows : List Int) (lo hi : Option Int) : cutV (rows.map V.int) lo hi = (cutI rows lo hi).map V.int := by
  unfold cutV cutI
  rw [List.length_map, ← List.map_drop, ← List.map_take]
theorem int_inj {a b : List Int} (h : a.map V.int = b.map V.int) : a = b := by
  have := congrArg (List.map fun v => match v with | V.int n => n | _ => 0) h
  rw [List.map_map, List.map_map] at this
  simpa [Function.comp_def] using this
theorem cutI_place (rows : List Int) (p : Int) (hp : 1 ≤ p) : cutI rows (some (p - 1)) (some p) = (rows.drop (p - 1).toNat).take 1 := int_inj ((cutI_v rows _ _).symm.trans (cut_place rows p hp))
theorem ints_lay : ∀ r : List Int, PyData.canLayAll0 (r.map PyData.int) = true
  | [] => by simp [PyData.canLayAll0]
  | a :: r => by simp [PyData.canLayAll0, PyData.canLay0, ints_lay r]
theorem ints_depth : ∀ r : List Int, PyData.depthAll (r.map PyData.int) ≤ 1
  | [] => by decide
  | a :: r => by
    have := ints_depth r
    show max 0 (PyData.depthAll (r.map PyData.int)) ≤ 1
    omega
theorem ints_nodic : ∀ r : List Int, noDicA (r.map PyData.int) = true
  | [] => rfl
  | a :: r => by show (true && noDicA (r.map PyData.int)) = true; rw [ints_nodic r]; rfl
theorem ints_ok (r : List Int) : okD (.list (r.map PyData.int)) = true := by
  unfold okD
  rw [Bool.and_eq_true]
  refine ⟨ints_nodic r, shaped_of (by simp [PyData.canLay0, ints_lay]) ?_⟩
  have := ints_depth r
  show PyData.depthAll (r.map PyData.int) + 1 ≤ 64
  omega
theorem ints_eqvA : ∀ a b : List Int, PyData.eqvAll (a.map PyData.int) (b.map PyData.int) = decide (a = b)
  | [], [] => by simp [PyData.eqvAll]
  | [], _ :: _ => by simp [PyData.eqvAll]
  | _ :: _, [] => by simp [PyData.eqvAll]
  | x :: a, y :: b => by
    rw [List.map_cons, List.map_cons, PyData.eqvAll, ints_eqvA a b]
    by_cases h : x = y
    · subst h; simp [PyData.eqv]
    · simp [PyData.eqv, h]
theorem ints_eqv (a b : List Int) : PyData.eqv (.list (a.map PyData.int)) (.list (b.map PyData.int)) = decide (a = b) := by
  rw [PyData.eqv, ints_eqvA]
def llD (L : List (List Int)) : PyData := .list (L.map fun r => .list (r.map PyData.int))
theorem ll_ok (L : List (List Int)) : okD (llD L) = true := by
  have h1 : noDicA (L.map fun r => PyData.list (r.map PyData.int)) = true := by
    induction L with
    | nil => rfl
    | cons a r ih => show (noDicA (a.map PyData.int) && noDicA (r.map fun r => PyData.list (r.map PyData.int))) = true; rw [ints_nodic, ih]; rfl
  have h2 : PyData.canLayAll0 (L.map fun r => PyData.list (r.map PyData.int)) = true := by
    induction L with
    | nil => simp [PyData.canLayAll0]
    | cons a r ih => rw [List.map_cons, PyData.canLayAll0, ih (by simpa [noDicA, ints_nodic] using (Bool.and_eq_true _ _).mp h1 |>.2), PyData.canLay0, ints_lay]; rfl
  have h3 : PyData.depthAll (L.map fun r => PyData.list (r.map PyData.int)) ≤ 2 := by
    clear h1 h2
    induction L with
    | nil => decide
    | cons a r ih =>
      have := ints_depth a
      show max (PyData.depthAll (a.map PyData.int) + 1) (PyData.depthAll (r.map fun r => PyData.list (r.map PyData.int))) ≤ 2
      omega
  unfold okD
  rw [Bool.and_eq_true]
  refine ⟨h1, shaped_of (by rw [llD, PyData.canLay0, h2]) ?_⟩
  show PyData.depthAll (L.map fun r => PyData.list (r.map PyData.int)) + 1 ≤ 64
  omega
theorem ll_nil (L : List (List Int)) : PyData.eqv (llD L) (.list []) = decide (L = []) := by
  cases L with
  | nil => simp [llD, PyData.eqv, PyData.eqvAll]
  | cons a r => simp [llD, PyData.eqv, PyData.eqvAll]
/-- a list of lists that stands at its place -/
theorem ll_dv {H : Hp} {α : Type} {g : α → List Int} : ∀ {xs : List V} {fs : List α}, A2 (fun x f => ∃ l, x = V.ref l ∧ H l = some (.lst ((g f).map V.int))) xs fs → DvA H xs ((fs.map g).map fun r => .list (r.map PyData.int))
  | _, _, .nil => .nil
  | _, _, .cons ⟨l, e, h⟩ r => by subst e; exact .cons (.lst h (dv_int _)) (ll_dv r)
theorem lc_selL {J : It} {xs : List V} {Gd : Hp → Prop} (wk : Walk J xs.length Gd (YAt xs)) {α β : Type} {R : V → α → Prop} {out : V → β → Prop} {ls : List α} (hA : A2 R xs ls) {H1 : Hp} {D : Addr} (hD : H1 D = none) (hG : ∀ G, Same H1 G → Gd G) (hl : xs.length ≤ 90000) (φ : α → Option β)
    {g : TG} {tt : TT} {te : TE} {vs : List Nat} {σ : L2.St} {Qd : Hp → Prop}
    (hs : ∀ x a G (T : V → Hp → Prop) (S : Hp → Prop), R x a → a ∈ ls → Same H1 G → (∀ y b G', Same G G' → φ a = some b → out y b → T y G') → (∀ G', Same G G' → φ a = none → S G') → g x (wipe σ vs) G fun σ2 H2 => wipe σ2 vs = wipe σ vs ∧ tt σ2 H2 fun b H3 => if b = true then te σ2 H3 T else S H3)
    (hd : ∀ G acc, Same H1 G → G D = some (.lst acc) → A2 out acc (ls.filterMap φ) → Qd G) :
    ∃ W : Nat → Nat → Hp → Prop, (∃ m, W 0 m (upd H1 D (.lst []))) ∧ ∀ i m H, W i m H →
      (J.stop i H ∧ Qd H) ∨ (J.go i H ∧ ∃ Nx : Hp → Prop, (∀ H', Nx H' → ∃ m', m' < m ∧ W (i + 1) m' H') ∧ ∀ x H', J.yld i H x H' → g x (wipe σ vs) H' fun σ2 H2 => wipe σ2 vs = wipe σ vs ∧ tt σ2 H2 fun b H3 =>
        if b = true then te σ2 H3 fun y H4 => ∃ acc, H4 D = some (.lst acc) ∧ acc.length < sizeLine ∧ Nx (upd H4 D (.lst (acc ++ [y]))) else Nx H3) := by
  refine lc_it wk (fun i G => Same H1 G ∧ ∃ acc, G D = some (.lst acc) ∧ acc.length ≤ i ∧ A2 out acc ((ls.take i).filterMap φ)) ⟨same_new hD, [], upd_same, Nat.zero_le _, .nil⟩ (fun i G _ h => hG _ h.1) ?_ ?_
  · rintro i x G G' hi ⟨s1, acc, hacc, hla, ha⟩ ⟨rfl, hx⟩
    obtain ⟨a, hai, hR⟩ := hA.get hx
    refine hs x a G' _ _ hR (List.mem_of_getElem? hai) s1 (fun y b G2 s2 e o => ?_) fun G2 s2 e => ?_
    · refine ⟨acc, s2 _ _ hacc, lt2 _ (by omega), (s1.trans s2).mut hD, _, upd_same, by rw [List.length_append]; show acc.length + 1 ≤ _; omega, ?_⟩
      rw [take_fm φ hai, e]
      exact ha.app (.cons o .nil)
    · refine ⟨s1.trans s2, acc, s2 _ _ hacc, by omega, ?_⟩
      rw [take_fm φ hai, e]
      show A2 out acc (_ ++ [])
      rw [List.append_nil]; exact ha
  · rintro G ⟨s1, acc, hacc, _, ha⟩
    refine hd G acc s1 hacc ?_
    rw [hA.len, List.take_length] at ha
    exact ha
abbrev sLb : Stmt := st__law_by_number
abbrev nLb : List Str := ["_law_n", "_law_wishes_here", "_law_row", "_law_menu", "_law_found", "_law_at", "_law_shown", "_law_place_here", "_law_unlike", "_law_fate", "_law_one_here"]
abbrev pLb : List Str := ["_law_n", "_law_wishes_here", "_law_row", "_law_menu"]
theorem scLb : FnScope nLb pLb (defScope sLb) := ⟨rfl, rfl, rfl, by decide +kernel, rfl, by decide +kernel, by decide +kernel⟩
def spLb : Sp := fun vs H Q _ => ∃ (n : Nat) (a r mu : Addr) (xs os ms : List V) (cs : List Cm) (menu : List (List Pr)), vs = [.int n, .ref a, .ref r, .ref mu] ∧ n ≤ 10 ∧ H a = some (.lst xs) ∧ CmA H xs cs ∧ cs.length ≤ 8 ∧ H r = some (.lst os) ∧ OcA H os (turnD cs (rowsN n) []) ∧
  H mu = some (.lst ms) ∧ FtA H ms menu ∧ menu.length ≤ 10000 ∧ (∀ f ∈ menu, f.length ≤ 2) ∧ ∀ H' D, Same H H' → H' D = some (.lst ((dueL n cs menu).map V.int)) → Q (.ref D) H'
section
variable {P : Program} {w : World} {K : PySem.W.Frag} {mg : Str → Option Value} {base : Heap}
theorem ok_lb {f : Addr} {fd : FuncData} (T : Bj mg) (D_place : Def P w K mg base CX0 1 "_law_place" pPc spPc) (F : Fun K "_law_by_number" "_law_by_number" sLb f fd) : FnOk P w K mg base CX0 2 f fd pLb spLb := by
  have nd := scLb.nd
  refine F.ok scLb (fun vs H Q E h => ?_) (fun cdv A outer s H vs Q E hr h => ?_)
  · obtain ⟨n, a, r, mu, xs, os, ms, cs, menu, rfl, _⟩ := h
    rfl
  · obtain ⟨n, a, r, mu, xs, os, ms, cs, menu, rfl, hn, ha, hA, l8, hr1, hO, hmu, hM, lmu, l2, q⟩ := h
    refine ⟨_, (pss_cons (ps_set (i := 4) nd rfl (Or.inl rfl) (pe_lst pa_nil))
 (pss_cons (ps_for PassesOwn.never rfl (pi_range1 rfl T.range (pa_cons (pe_callB (call_lenK (K := K) rfl) (by rfl) T.len PySem.boot_len (pa_cons (pv 1) pa_nil)) pa_nil)) (pg_name (i := 5) nd rfl (Or.inr rfl))
  (pss_one (ps_if (pt_cmpR (op_neD2 (K := K) rfl (Room.u65 hr)) (pe_ix (ix_listK (K := K) rfl) (pv 1) (pv 5) (fun _ _ => rfl)) (pe_tup (pa_cons pe_str pa_nil)) (nomark _))
  (pss_cons (ps_setLc (i := 6) (own := [("_law_fate", 9)]) (g := gName 9) (tt := tYes) rfl nd rfl rfl (sw_true rfl rfl rfl (by decide +kernel)) (pi_listK (K := K) rfl (pv 3)) (blkOk_by (own := [("_law_fate", 9)]) (N := nLb) (sc := defScope sLb) (by decide +kernel)) (fun _ _ _ _ _ => pg_name (i := 9) nd rfl (Or.inl rfl)) (fun _ _ _ _ _ => pts_nil) (fun _ _ _ _ _ => (pe_def D_place (hr.mono (by decide)) rfl pass0 (pa_cons (pv 0) (pa_cons (pv 1) (pa_cons (pv 5) (pa_cons (pv 9) pa_nil)))))))
 (C8.pss_cut (ps_set (i := 7) nd rfl (Or.inr rfl) (pe_ifExp (pt_cmpR op_isN (pe_ix (ix_listK (K := K) rfl) (pv 2) (pv 5) (fun _ _ => rfl)) pe_non (nomark _)) pe_int (pe_ix (ix_tupK (K := K) rfl) (pe_ix (ix_listK (K := K) rfl) (pv 2) (pv 5) (fun _ _ => rfl)) pe_int (fun _ _ => rfl))))
 (pss_cons (ps_setLc (i := 8) (own := [("_law_one_here", 10)]) (g := gName 10) rfl nd rfl rfl (sw_true rfl rfl rfl (by decide +kernel)) (pi_listK (K := K) rfl (pv 6)) (blkOk_by (own := [("_law_one_here", 10)]) (N := nLb) (sc := defScope sLb) (by decide +kernel)) (fun _ _ _ _ _ => pg_name (i := 10) nd rfl (Or.inl rfl)) (fun _ _ _ _ _ => pts_one (pt_cmpR (op_neD2 (K := K) rfl (Room.u65 hr)) (pe_slice (sl_listK (K := K) rfl) (pv 10) (po_some (pe_op op_sub (pv 7) pe_int)) (po_some (pv 7))) (pe_lst (pa_cons (pe_ix (ix_tupK (K := K) rfl) (pe_ix (ix_listK (K := K) rfl) (pv 1) (pv 5) (fun _ _ => rfl)) pe_int (fun _ _ => rfl)) pa_nil)) (by rfl))) (fun _ _ _ _ _ => (pv 10)))
 (pss_one (ps_if (PW.pt (pw_or (pt_cmpR op_eq (pv 7) pe_int (nomark _)) (pw_or1 (pt_cmpR (op_neD2 (K := K) rfl (Room.u65 hr)) (pv 8) (pe_lst pa_nil) (nomark _)))))
  (pss_one (ps_expr (pe_bm PySem.F.plainAttrs_list PySem.F.slot_list_append PySem.F.type_list_append mt_append (pv 4) (pa_cons (pv 5) pa_nil))))
  pss_nil)))))
  pss_nil)))
 (pss_one (ps_ret (pv 4))))), ?_⟩
    refine asg_go ⟨Nat.zero_le _, fun D nD => name_gc ?_⟩
    have s1 := same_new nD (o := .lst ([] : List V))
    have hD : (upd H D (.lst ([] : List V))) D = some (.lst []) := upd_same
    generalize upd H D (.lst ([] : List V)) = H1 at s1 hD
    have lx : xs.length = cs.length := A2.len hA
    have lms : ms.length = menu.length := A2.len hM
    refine ⟨_, rfl, a, xs, rfl, .inl (sq (s1 _ _ ha)), _, rfl, by omega, by omega, for_range (lo := 0) (n := xs.length) (fun i σ G => ∃ (v5 v6 v7 v8 : Option V), σ = [some (.int n), some (.ref a), some (.ref r), some (.ref mu), some (.ref D), v5, v6, v7, v8, none, none] ∧ Same H G ∧ G D = some (.lst ((((List.range i).filter (dueB n cs menu)).map fun (j : Nat) => (j : Int)).map V.int))) ?_ ?_ ?_⟩
    · exact ⟨none, none, none, none, rfl, s1, hD⟩
    · rintro i σ G hi ⟨v5, v6, v7, v8, rfl, sG, hDG⟩
      have e0 : (0 + (i : Int)) = (i : Int) := by omega
      rw [e0]
      refine name_gc ?_
      have hic : i < cs.length := by omega
      obtain ⟨c, hc⟩ : ∃ c, cs[i]? = some c := ⟨_, List.getElem?_eq_getElem hic⟩
      have hta := turn_at cs 0 (rowsN n) [] i c hc
      have hro : Dv G (.ref a) (.list (cs.map cmD)) := .lst (sG _ _ ha) (CmA.tu hA (TU.of sG)).dv
      have hcd : (cs.map cmD)[i]? = some (cmD c) := by rw [List.getElem?_map, hc]; rfl
      have hxi : xs[i]? = some (xs[i]'hi) := List.getElem?_eq_getElem _
      generalize xs[i]'hi = x0 at hxi
      obtain ⟨c', hc', tc, rfl, htc⟩ := A2.get hA hxi
      obtain rfl : c' = c := Option.some.inj (hc'.symm.trans hc)
      have lacc : (((List.range i).filter (dueB n cs menu)).map fun (j : Nat) => (j : Int)).length ≤ i := by
        rw [List.length_map]
        exact Nat.le_trans (List.length_filter_le _ _) (by rw [List.length_range]; exact Nat.le_refl _)
      have hmore : (List.range (i + 1)).filter (dueB n cs menu) = (List.range i).filter (dueB n cs menu) ++ (if dueB n cs menu i = true then [i] else []) := by
        rw [List.range_succ, List.filter_append]
        congr 1
        split
        · rename_i h; rw [List.filter_cons_of_pos h]; rfl
        · rename_i h; rw [List.filter_cons_of_neg h]; rfl
      refine neD_go (gh_ixg (gh_var rfl hro) (gh_var rfl (.int _)) hcd) (gh_tup (gh_cons (gh_str _) gh_nil)) (cm_okD c') (by decide +kernel) fun J s3 => ⟨_, rfl, ?_⟩
      rw [cm_ask]
      have sJ := sG.trans s3
      have hDJ := s3 _ _ hDG
      by_cases hask : c' = .ask
      · subst hask
        refine itbF (by rw [decide_eq_true rfl]; rfl) ⟨_, _, _, _, rfl, sJ, ?_⟩
        have : dueB n cs menu i = false := by unfold dueB; rw [hc]
        rw [hmore, this, if_neg (by decide), List.append_nil]
        exact hDJ
      · refine itbT (by rw [decide_eq_false hask]; rfl) ?_
        refine asg_go ⟨_, rfl, mu, rfl, ⟨_, sq (sJ _ _ hmu)⟩, fun M nM => ?_⟩
        have hMJ := FtA.tu hM (TU.of sJ)
        refine lc_it walk_list (fun j G1 => Same J G1 ∧ ∃ acc, G1 M = some (.lst acc) ∧ acc.length = j ∧ A2 (fun x (f : List Pr) => ∃ l, x = V.ref l ∧ hid M G1 l = some (.lst ((stG f cs 0 (rowsN n) [] i).1.map V.int))) acc (menu.take j)) ⟨same_new nM, [], upd_same, rfl, .nil⟩ (fun j G1 _ h => sq (h.1 _ _ (sJ _ _ hmu))) ?_ ?_
        · rintro j x G1 G2 hj ⟨s4, acc, hMG, lac, hAc⟩ ⟨rfl, hx⟩
          obtain ⟨f, hf, tf, zs, rfl, htf, hpf⟩ := A2.get hMJ hx
          have sH1 := sJ.trans s4
          refine ⟨rfl, tyes ⟨_, rfl, _, rfl, _, rfl, _, rfl, n, a, tf, xs, zs, cs, i, f, rfl, hn, sH1 _ _ ha, CmA.tu hA (TU.of sH1), l8, hic, s4 _ _ htf, PrA.tu hpf (TU.of s4), l2 f (List.mem_of_getElem? hf), fun G3 l s5 nl hl => ?_⟩⟩
          have hM3 := s5 _ _ hMG
          have nlM : l ≠ M := fun z => by rw [z, hMG] at nl; cases nl
          refine ⟨acc, hM3, lt2 _ (by omega), (s4.trans s5).mut nM, _, upd_same, by rw [List.length_append, lac]; rfl, ?_⟩
          rw [take_more hf]
          have hs : Same (hid M G2) (hid M (upd G3 M (.lst (acc ++ [.ref l])))) := hid_of fun b o nb hb => by rw [upd_ne nb]; exact s5 _ _ hb
          refine (A2.imp (fun _ _ ⟨l3, e3, h3⟩ => ⟨l3, e3, hs _ _ h3⟩) hAc).app (.cons ⟨l, rfl, ?_⟩ .nil)
          unfold hid
          rw [if_neg nlM, upd_ne nlM]; exact hl
        · rintro G1 ⟨s4, acc, hMG, lac, hAc⟩
          rw [lms, List.take_length] at hAc
          have hAc2 : A2 (fun x (f : List Pr) => ∃ l, x = V.ref l ∧ G1 l = some (.lst ((stG f cs 0 (rowsN n) [] i).1.map V.int))) acc menu := A2.imp (fun _ _ ⟨l3, e3, h3⟩ => ⟨l3, e3, hid_same _ _ h3⟩) hAc
          clear hAc
          have sH1 := sJ.trans s4
          have hD1 := s4 _ _ hDJ
          refine name_gc ?_
          have hOG := OcA.tu hO (TU.of sH1)
          have hri : os[i]? = some (os[i]'(by have := A2.len hO; rw [turn_len] at this; omega)) := List.getElem?_eq_getElem _
          generalize os[i]'(by have := A2.len hO; rw [turn_len] at this; omega) = y0 at hri
          obtain ⟨o, ho, hoy⟩ := A2.get hOG hri
          rw [hta] at ho
          have ho2 : tnC (stG [] cs 0 (rowsN n) [] i).1 c' = o := Option.some.inj ho
          refine ⟨fun σ' H' => ∃ p : Int, σ' = [some (.int n), some (.ref a), some (.ref r), some (.ref mu), some (.ref D), some (.int (i : Int)), some (.ref M), some (.int p), v8, none, none] ∧ H' = G1 ∧ ((o = none ∧ p = 0) ∨ ∃ c2, o = some c2 ∧ p = plC c2), ?_, ?_⟩
          · refine ⟨_, rfl, _, rfl, r, os, i, y0, rfl, rfl, sq (sH1 _ _ hr1), atI_nat hri, rfl, _, rfl, ?_⟩
            cases o with
            | none =>
              cases (show y0 = V.non from hoy)
              exact itbT rfl ⟨0, rfl, rfl, .inl ⟨rfl, rfl⟩⟩
            | some c2 =>
              obtain ⟨ty, rfl, hty⟩ := hoy
              have hne := (tn_some ho2 hask).2.2.2
              exact itbF rfl ⟨_, rfl, _, rfl, r, os, i, _, rfl, rfl, sq (sH1 _ _ hr1), atI_nat hri, ty, _, 1, _, rfl, rfl, st hty, atI_nat (j := 1) (cm_let hne), plC c2, rfl, rfl, .inr ⟨c2, rfl, rfl⟩⟩
          · rintro σ' H' ⟨p, rfl, rfl, hp⟩
            have hcut : dueB n cs menu i = (decide (p = 0) || decide (menu.filter (fun f => decide (cutI (stG f cs 0 (rowsN n) [] i).1 (some (p - 1)) (some p) ≠ [plC c'])) ≠ [])) := by
              unfold dueB
              rw [hc, hta, ho2]
              have htl : tailC c' = [plC c'] := by
                cases c' with
                | ask => exact absurd rfl hask
                | look k => rfl
                | take k => rfl
              rcases hp with ⟨rfl, rfl⟩ | ⟨c2, rfl, rfl⟩
              · cases c' with
                | ask => exact absurd rfl hask
                | look k => rfl
                | take k => rfl
              · have hpos := (tn_some ho2 hask).2.1
                rw [decide_eq_false (show ¬ plC c2 = 0 by omega), Bool.false_or]
                have e1 : (menu.any fun f => decide (((stG f cs 0 (rowsN n) [] i).1.drop (plC c2 - 1).toNat).take 1 ≠ tailC c')) = decide (menu.filter (fun f => decide (cutI (stG f cs 0 (rowsN n) [] i).1 (some (plC c2 - 1)) (some (plC c2)) ≠ [plC c'])) ≠ []) := by
                  have e2 : (fun (f : List Pr) => decide (cutI (stG f cs 0 (rowsN n) [] i).1 (some (plC c2 - 1)) (some (plC c2)) ≠ [plC c'])) = fun f => decide (((stG f cs 0 (rowsN n) [] i).1.drop (plC c2 - 1).toNat).take 1 ≠ tailC c') := funext fun f => by rw [cutI_place _ _ hpos, htl]
                  rw [e2, Bool.eq_iff_iff, List.any_eq_true, decide_eq_true_eq, Ne, List.filter_eq_nil_iff]
                  constructor
                  · rintro ⟨f, hf, h⟩ hall
                    exact hall f hf h
                  · intro h
                    exact Classical.byContradiction fun hno => h fun f hf hb => hno ⟨f, hf, hb⟩
                cases c' with
                | ask => exact absurd rfl hask
                | look k => exact e1
                | take k => exact e1
            refine asg_go ⟨_, rfl, M, rfl, ⟨_, sq hMG⟩, fun U nU => lc_selL walk_list (hA := hAc2) nU (fun G2 s => sq (s _ _ hMG)) (by omega) (fun (f : List Pr) => if cutI (stG f cs 0 (rowsN n) [] i).1 (some (p - 1)) (some p) ≠ [plC c'] then some f else none) (out := fun y (f : List Pr) => ∃ l, y = V.ref l ∧ H' l = some (.lst ((stG f cs 0 (rowsN n) [] i).1.map V.int))) ?_ ?_⟩
            · rintro x f J2 Tt S' ⟨l, rfl, hl⟩ hfm s6 hT hS'
              have sH2 := sH1.trans s6
              refine ⟨rfl, _, rfl, _, rfl, _, _, rfl, rfl, _, rfl, _, rfl, _, rfl, l, _, rfl, sq (s6 _ _ hl), fun b nb => ?_⟩
              have s7 := same_new nb (o := .lst (cutV ((stG f cs 0 (rowsN n) [] i).1.map V.int) (some (p - 1)) (some p)))
              have hb : (upd J2 b (.lst (cutV ((stG f cs 0 (rowsN n) [] i).1.map V.int) (some (p - 1)) (some p)))) b = some (.lst ((cutI (stG f cs 0 (rowsN n) [] i).1 (some (p - 1)) (some p)).map V.int)) := by rw [upd_same, cutI_v]
              generalize upd J2 b (.lst (cutV ((stG f cs 0 (rowsN n) [] i).1.map V.int) (some (p - 1)) (some p))) = J3 at s7 hb
              have sH3 := sH2.trans s7
              have htc3 := sH3 _ _ htc
              refine ⟨_, rfl, _, rfl, a, xs, i, .ref tc, rfl, rfl, sq (sH3 _ _ ha), atI_nat hxi, tc, _, 1, _, rfl, rfl, st htc3, atI_nat (j := 1) (cm_let hask), by show 1 ≤ sizeLine; decide, fun b2 nb2 => ?_⟩
              have s8 := same_new nb2 (o := .lst [V.int (plC c')])
              have hb2 : (upd J3 b2 (.lst [V.int (plC c')])) b2 = some (.lst (([plC c'] : List Int).map V.int)) := upd_same
              have d1 : Dv (upd J3 b2 (.lst [V.int (plC c')])) (.ref b) (.list ((cutI (stG f cs 0 (rowsN n) [] i).1 (some (p - 1)) (some p)).map PyData.int)) := .lst (s8 _ _ hb) (dv_int _)
              have d2 : Dv (upd J3 b2 (.lst [V.int (plC c')])) (.ref b2) (.list (([plC c'] : List Int).map PyData.int)) := .lst hb2 (dv_int _)
              have o1 := (Bool.and_eq_true _ _).mp (ints_ok (cutI (stG f cs 0 (rowsN n) [] i).1 (some (p - 1)) (some p)))
              have o2 := (Bool.and_eq_true _ _).mp (ints_ok [plC c'])
              refine ⟨_, _, d1.dp o1.1, d2.dp o2.1, o1.2, o2.2, _, rfl, ?_⟩
              rw [ints_eqv]
              by_cases e : cutI (stG f cs 0 (rowsN n) [] i).1 (some (p - 1)) (some p) = [plC c']
              · exact itbF (by rw [decide_eq_true e]; rfl) (hS' _ (s7.trans s8) (if_neg fun z => z e))
              · exact itbT (by rw [decide_eq_false e]; rfl) ⟨_, rfl, hT _ f _ (s7.trans s8) (if_pos e) ⟨l, rfl, hl⟩⟩
            · intro J2 acc2 s6 hacc hAcc
              have hfl : (menu.filterMap fun (f : List Pr) => if cutI (stG f cs 0 (rowsN n) [] i).1 (some (p - 1)) (some p) ≠ [plC c'] then some f else none) = menu.filter (fun f => decide (cutI (stG f cs 0 (rowsN n) [] i).1 (some (p - 1)) (some p) ≠ [plC c'])) := by
                rw [← List.filterMap_eq_filter]
                congr 1
                funext f
                by_cases e : cutI (stG f cs 0 (rowsN n) [] i).1 (some (p - 1)) (some p) ≠ [plC c']
                · rw [if_pos e]; simp [Option.guard, e]
                · rw [if_neg e]; simp [Option.guard, e]
              rw [hfl] at hAcc
              generalize menu.filter (fun f => decide (cutI (stG f cs 0 (rowsN n) [] i).1 (some (p - 1)) (some p) ≠ [plC c'])) = fl at hAcc hcut
              have dU : Dv J2 (.ref U) (llD (fl.map fun f => (stG f cs 0 (rowsN n) [] i).1)) := .lst hacc (ll_dv (A2.imp (fun _ _ ⟨l3, e3, h3⟩ => ⟨l3, e3, s6 _ _ h3⟩) hAcc))
              have sH2 := sH1.trans s6
              have hD2 := s6 _ _ hD1
              have finT : ∀ J3, Same J2 J3 → dueB n cs menu i = true → ∃ (v5 v6 v7 v8 : Option V), [some (V.int n), some (V.ref a), some (V.ref r), some (V.ref mu), some (V.ref D), some (V.int (i : Int)), some (V.ref M), some (V.int p), some (V.ref U), none, none] = [some (.int n), some (.ref a), some (.ref r), some (.ref mu), some (.ref D), v5, v6, v7, v8, none, none] ∧ Same H (upd J3 D (.lst (((((List.range i).filter (dueB n cs menu)).map fun (j : Nat) => (j : Int)).map V.int) ++ [V.int (i : Int)]))) ∧ (upd J3 D (.lst (((((List.range i).filter (dueB n cs menu)).map fun (j : Nat) => (j : Int)).map V.int) ++ [V.int (i : Int)]))) D = some (.lst ((((List.range (i + 1)).filter (dueB n cs menu)).map fun (j : Nat) => (j : Int)).map V.int)) := fun J3 s9 hdb => by
                refine ⟨_, _, _, _, rfl, (sH2.trans s9).mut nD, ?_⟩
                rw [upd_same, hmore, hdb, if_pos rfl, List.map_append, List.map_append]
                rfl
              refine name_gc ?_
              refine ⟨_, rfl, rfl, _, rfl, ?_⟩
              rw [dec_int]
              by_cases hp0 : p = 0
              · rw [decide_eq_true hp0, Bool.true_or] at hcut
                refine itbT (by rw [hp0]; exact beq_self_eq_true _) (itbT rfl ?_)
                exact ⟨_, rfl, .inl ⟨rfl, _, sq hD2⟩, _, rfl, D, _, _, rfl, rfl, hD2, lt2 _ (by rw [List.length_map]; omega), finT J2 same_r hcut⟩
              · rw [decide_eq_false hp0, Bool.false_or] at hcut
                refine itbF (beq_eq_false_iff_ne.mpr hp0) ?_
                refine neD_go (gh_var rfl dU) (gh_lst gh_nil) (ll_ok _) (by decide +kernel) fun J3 s9 => ⟨_, rfl, ?_⟩
                rw [ll_nil]
                have hD3 := s9 _ _ hD2
                by_cases hfe : fl = []
                · rw [decide_eq_false (fun z => z hfe)] at hcut
                  refine itbF (by rw [hfe]; rfl) ⟨_, _, _, _, rfl, sH2.trans s9, ?_⟩
                  rw [hmore, hcut, if_neg (by decide), List.append_nil]
                  exact hD3
                · rw [decide_eq_true hfe] at hcut
                  refine itbT (by rw [decide_eq_false (by simpa using hfe)]; rfl) ?_
                  exact ⟨_, rfl, .inl ⟨rfl, _, sq hD3⟩, _, rfl, D, _, _, rfl, rfl, hD3, lt2 _ (by rw [List.length_map]; omega), finT J3 s9 hcut⟩
    · rintro σ G ⟨v5, v6, v7, v8, rfl, sG, hDG⟩
      rw [lx] at hDG
      exact ⟨_, rfl, q G D sG hDG⟩
end
end K1


set_option Elab.async false
set_option linter.all false
set_option maxRecDepth 100000
set_option maxHeartbeats 4000000
/-! k29: the mathematics of the law. -/
namespace K1
open PySem PySem.Spec PyProof.Rows L2 RZ
theorem all_some {α : Type} : ∀ (os : List (Option α)), (∀ o ∈ os, o ≠ none) → ∃ cs : List α, os = cs.map some
  | [], _ => ⟨[], rfl⟩
  | none :: r, h => absurd rfl (h none (by simp))
  | some c :: r, h => by
    obtain ⟨cs, e⟩ := all_some r fun o ho => h o (by simp [ho])
    exact ⟨c :: cs, by rw [e]; rfl⟩
section
variable {n : Nat} {cs cs' : List Cm}
theorem knd_ok (he : turnD cs (rowsN n) [] = cs'.map some) (i : Nat) (c c' : Cm) (h : cs[i]? = some c) (h' : cs'[i]? = some c') : kndC c = kndC c' := by
  have t := turn_at cs 0 (rowsN n) [] i c h
  rw [he, List.getElem?_map, h'] at t
  have t2 : tnC (stG [] cs 0 (rowsN n) [] i).1 c = some c' := (Option.some.inj t).symm
  by_cases hc : c = .ask
  · subst hc
    cases t2; rfl
  · exact (tn_some t2 hc).1
theorem len_ok (he : turnD cs (rowsN n) [] = cs'.map some) : cs'.length = cs.length := by
  have := congrArg List.length he
  rw [turn_len, List.length_map] at this
  exact this.symm
theorem cmOk_ok (he : turnD cs (rowsN n) [] = cs'.map some) : ∀ c ∈ cs', cmOk c := fun c' hc' => by
  obtain ⟨i, hi⟩ := List.mem_iff_getElem?.mp hc'
  have hl := len_ok he
  have hic : i < cs.length := by have := lt_of_get hi; omega
  have t := turn_at cs 0 (rowsN n) [] i _ (List.getElem?_eq_getElem hic)
  rw [he, List.getElem?_map, hi] at t
  have t2 : tnC (stG [] cs 0 (rowsN n) [] i).1 cs[i] = some c' := (Option.some.inj t).symm
  generalize cs[i] = c at t2
  by_cases hc : c = .ask
  · subst hc
    cases t2; trivial
  · have h1 := (tn_some t2 hc).2.1
    cases c' with
    | ask => trivial
    | look k => exact h1
    | take k => exact h1
/-- what a fate finds where nothing else can be found -/
theorem fbl_tail (he : turnD cs (rowsN n) [] = cs'.map some) (f : List Pr) (hf : ∀ (j : Nat) (c o : Cm), cs[j]? = some c → c ≠ .ask → cs'[j]? = some o → ((stG f cs 0 (rowsN n) [] j).1.drop (plC o - 1).toNat).take 1 = tailC c)
    (i : Nat) (c : Cm) (th : Th) (h : cs[i]? = some c) (ht : (fblD f cs (cs'.map some) 0 (rowsN n) [])[i]? = some (some th)) : tailT th = tailC c := by
  have hl := len_ok he
  have hic := lt_of_get h
  have ho : cs'[i]? = some (cs'[i]'(by omega)) := List.getElem?_eq_getElem _
  generalize cs'[i]'(by omega) = o at ho
  have t := turn_at cs 0 (rowsN n) [] i c h
  rw [he, List.getElem?_map, ho] at t
  have t2 : tnC (stG [] cs 0 (rowsN n) [] i).1 c = some o := (Option.some.inj t).symm
  have t3 := fbl_at f cs (cs'.map some) 0 (rowsN n) [] i (some o) (by rw [List.length_map]; exact hl) (by rw [List.getElem?_map, ho]; rfl)
  rw [t3] at ht
  by_cases hc : c = .ask
  · subst hc
    cases t2
    cases ht
  · obtain ⟨k1, k2, k3, k4⟩ := tn_some t2 hc
    rw [thC_some k4] at ht
    have e : foundA (stG f cs 0 (rowsN n) [] i).1 (goBy f ((0 + i : Nat) : Int) (stG f cs 0 (rowsN n) [] i).2) (plC o) = th := Option.some.inj (Option.some.inj ht)
    rw [← e, found_tail _ _ _ k2]
    exact hf i c o h hc ho
theorem none_ok (he : turnD cs (rowsN n) [] = cs'.map some) (j : Nat) (c o : Cm) (h : cs[j]? = some c) (hc : c ≠ .ask) (ho : cs'[j]? = some o) : ((stG [] cs 0 (rowsN n) [] j).1.drop (plC o - 1).toNat).take 1 = tailC c := by
  have t := turn_at cs 0 (rowsN n) [] j c h
  rw [he, List.getElem?_map, ho] at t
  exact (tn_some (Option.some.inj t).symm hc).2.2.1
theorem found_eq (he : turnD cs (rowsN n) [] = cs'.map some) (f : List Pr) (hf : ∀ (j : Nat) (c o : Cm), cs[j]? = some c → c ≠ .ask → cs'[j]? = some o → ((stG f cs 0 (rowsN n) [] j).1.drop (plC o - 1).toNat).take 1 = tailC c) :
    foundD f cs' 0 (rowsN n) [] = fblD f cs (cs'.map some) 0 (rowsN n) [] := found_fbl f cs cs' 0 (rowsN n) [] (len_ok he) (knd_ok he) (fbl_tail he f hf)
/-- without others each wish is fulfilled -/
theorem alone_at (he : turnD cs (rowsN n) [] = cs'.map some) (i : Nat) (c : Cm) (h : cs[i]? = some c) (hc : c ≠ .ask) : ∃ th, (foundD [] cs' 0 (rowsN n) [])[i]? = some (some th) ∧ tailT th = tailC c := by
  have hl := len_ok he
  have hic := lt_of_get h
  have ho : cs'[i]? = some (cs'[i]'(by omega)) := List.getElem?_eq_getElem _
  generalize cs'[i]'(by omega) = o at ho
  have t := turn_at cs 0 (rowsN n) [] i c h
  rw [he, List.getElem?_map, ho] at t
  obtain ⟨k1, k2, k3, k4⟩ := tn_some (Option.some.inj t).symm hc
  have t3 := fbl_at [] cs (cs'.map some) 0 (rowsN n) [] i (some o) (by rw [List.length_map]; exact hl) (by rw [List.getElem?_map, ho]; rfl)
  rw [thC_some k4] at t3
  refine ⟨_, by rw [found_eq he [] (none_ok he)]; exact t3, fbl_tail he [] (none_ok he) i c _ h t3⟩
theorem sure_ok (he : turnD cs (rowsN n) [] = cs'.map some) {fs menu : List (List Pr)} (hm : ∀ f ∈ fs, f ∈ menu) (hd : dueL n cs menu = []) : doubtD cs' n fs = none := by
  have hB : ∀ j, j < cs.length → dueB n cs menu j = false := fun j hj => by
    unfold dueL at hd
    have h1 := List.map_eq_nil_iff.mp hd
    have h2 := List.filter_eq_nil_iff.mp h1 j (List.mem_range.mpr hj)
    simpa using h2
  have hF : ∀ f ∈ fs, ∀ (j : Nat) (c o : Cm), cs[j]? = some c → c ≠ .ask → cs'[j]? = some o → ((stG f cs 0 (rowsN n) [] j).1.drop (plC o - 1).toNat).take 1 = tailC c := fun f hf j c o h hc ho => by
    have hb := hB j (lt_of_get h)
    have t := turn_at cs 0 (rowsN n) [] j c h
    have t' : (turnD cs (rowsN n) [])[j]? = some (some o) := by rw [he, List.getElem?_map, ho]; rfl
    unfold dueB at hb
    rw [h, t'] at hb
    have hb2 : (menu.any fun f => decide (((stG f cs 0 (rowsN n) [] j).1.drop (plC o - 1).toNat).take 1 ≠ tailC c)) = false := by
      cases c with
      | ask => exact absurd rfl hc
      | look k => exact hb
      | take k => exact hb
    have := List.any_eq_false.mp hb2 f (hm f hf)
    simpa using this
  refine doubt_none cs' n fs _ 0 fun i th hi => ?_
  rw [found_eq he [] (none_ok he)] at hi
  have hic : i < cs.length := by
    have := lt_of_get hi
    rwa [fbl_len [] cs _ 0 _ _ (by rw [List.length_map]; exact len_ok he)] at this
  have h := List.getElem?_eq_getElem hic
  have hth := fbl_tail he [] (none_ok he) i _ th h hi
  have hc : cs[i] ≠ .ask := fun z => by
    have ho : cs'[i]? = some (cs'[i]'(by have := len_ok he; omega)) := List.getElem?_eq_getElem _
    have hk := knd_ok he i _ _ h ho
    have t3 := fbl_at [] cs (cs'.map some) 0 (rowsN n) [] i (some (cs'[i]'(by have := len_ok he; omega))) (by rw [List.length_map]; exact len_ok he) (by rw [List.getElem?_map, ho]; rfl)
    rw [hi] at t3
    rw [z] at hk
    generalize cs'[i]'(by have := len_ok he; omega) = o at hk t3
    cases o with
    | ask => cases t3
    | look k => cases hk
    | take k => cases hk
  generalize cs[i] = c at h hth hc
  refine ⟨fun z => ?_, fun f hf => ?_⟩
  · rw [z] at hth
    cases c with
    | ask => exact hc rfl
    | look k => cases hth
    | take k => cases hth
  · rw [Nat.zero_add]
    unfold badAt
    rw [found_eq he f (hF f hf)]
    cases e : (fblD f cs (cs'.map some) 0 (rowsN n) [])[i]? with
    | none => rfl
    | some o =>
      cases o with
      | none => rfl
      | some u =>
        have hu := fbl_tail he f (hF f hf) i c u h e
        show decide (tailT u ≠ tailT th) = false
        rw [hu, hth]
        exact decide_eq_false fun z => z rfl
end
/-! ### checks of loose letters -/
theorem asc_ok : ∀ ns : List Int, ns.Pairwise (· < ·) → ascB ns = true
  | [], _ => rfl
  | [_], _ => rfl
  | a :: b :: r, h => by
    have h2 := List.pairwise_cons.mp h
    have h3 := asc_ok (b :: r) h2.2
    have h4 := h2.1 b (by simp)
    show (decide (a < b) && ascB (b :: r)) = true
    rw [h3, decide_eq_true h4]; rfl
theorem dI_ints (ls : List Int) : intsD (.tuple (ls.map PyData.int)) = ls := by
  show (ls.map PyData.int).map dI = ls
  rw [List.map_map]
  exact List.map_id'' (fun _ => rfl) ls
theorem loose_ok {n : Nat} {ls : List Int} (ha : ls.Pairwise (· < ·)) (h : ∀ x ∈ ls, 1 ≤ x ∧ x ≤ (n : Int)) : looseOk n (.tuple (ls.map PyData.int)) = true := by
  unfold looseOk
  rw [dI_ints, asc_ok ls ha]
  have h1 : isNums (.tuple (ls.map PyData.int)) = true := by
    show (true && (ls.map PyData.int).all isNum) = true
    rw [Bool.true_and, List.all_map, List.all_eq_true]
    intro x hx
    exact decide_eq_true (h x hx).1
  have h2 : lastOk n ls = true := by
    unfold lastOk
    cases e : ls.getLast? with
    | none => rfl
    | some z => exact decide_eq_true (h z (List.mem_of_getLast? e)).2
  rw [h1, h2]; rfl
theorem num_ok {n : Nat} (h1 : 1 ≤ n) (h2 : n ≤ 10) : numOk (.int (n : Int)) = true := by
  show (decide ((1 : Int) ≤ n) && decide ((n : Int) ≤ 10)) = true
  rw [decide_eq_true (by omega), decide_eq_true (by omega)]; rfl
theorem k_ok {k : Int} (h1 : 0 ≤ k) (h2 : k ≤ 2) : kOk (.int k) = true := by
  show (decide (0 ≤ k) && decide (k ≤ 2)) = true
  rw [decide_eq_true h1, decide_eq_true h2]; rfl
theorem chk_ok {n : Nat} {cs : List Cm} {ls : List Int} {k : Int} (hn1 : 1 ≤ n) (hn : n ≤ 10) (l8 : cs.length ≤ 8) (okc : ∀ c ∈ cs, cmOk c) (ha : ls.Pairwise (· < ·)) (h : ∀ x ∈ ls, 1 ≤ x ∧ x ≤ (n : Int)) (k0 : 0 ≤ k) (k2 : k ≤ 2) : chkG n cs ls k := by
  unfold chkG chk chkN chkR chkO
  rw [if_pos (num_ok hn1 hn), row_none l8 fun c hc => cmd_none (okc c hc), if_pos (show looseOk (dI (PyData.int (n : Int))) (.tuple (ls.map PyData.int)) = true from loose_ok ha h), if_pos (k_ok k0 k2)]
  rfl
theorem chkB_ok {n : Nat} {cs : List Cm} {ls : List Int} {k : Int} (hn1 : 1 ≤ n) (hn : n ≤ 10) (l8 : cs.length ≤ 8) (okc : ∀ c ∈ cs, wiOk n c) (ha : ls.Pairwise (· < ·)) (h : ∀ x ∈ ls, 1 ≤ x ∧ x ≤ (n : Int)) (k0 : 0 ≤ k) (k2 : k ≤ 2) : chkB n cs ls k :=
  ⟨num_ok hn1 hn, row_none l8 fun c hc => cmd_some (okc c hc), loose_ok ha h, k_ok k0 k2⟩
theorem oc_ok {n : Nat} {cs : List Cm} : ∀ o ∈ turnD cs (rowsN n) [], ocOk o := fun o ho => by
  obtain ⟨i, hi⟩ := List.mem_iff_getElem?.mp ho
  have hic : i < cs.length := by have := lt_of_get hi; rwa [turn_len] at this
  have t := turn_at cs 0 (rowsN n) [] i _ (List.getElem?_eq_getElem hic)
  rw [hi] at t
  have t2 := (Option.some.inj t).symm
  generalize cs[i] = c at t2
  cases o with
  | none => trivial
  | some o =>
    by_cases hc : c = .ask
    · subst hc
      cases t2; trivial
    · have h1 := (tn_some t2 hc).2.1
      cases o with
      | ask => trivial
      | look k => exact h1
      | take k => exact h1
theorem ocs_ok (os : List (Option Cm)) : okD (.list (os.map ocOD)) = true := by
  have h1 : noDicA (os.map ocOD) = true := by
    induction os with
    | nil => rfl
    | cons o r ih =>
      show (noDic (ocOD o) && noDicA (r.map ocOD)) = true
      rw [ih]
      cases o with
      | none => rfl
      | some c => exact (by have := (Bool.and_eq_true _ _).mp (cm_okD c); rw [show ocOD (some c) = cmD c from rfl, this.1]; rfl)
  have h2 : PyData.canLayAll0 (os.map ocOD) = true := by
    clear h1
    induction os with
    | nil => simp [PyData.canLayAll0]
    | cons o r ih =>
      rw [List.map_cons, PyData.canLayAll0, ih]
      cases o with
      | none => simp [ocOD, PyData.canLay0]
      | some c =>
        have := (Bool.and_eq_true _ _).mp (cm_okD c)
        have h := SeqAt.canLay_of_shaped this.2
        rw [show ocOD (some c) = cmD c from rfl, h]; rfl
  have h3 : PyData.depthAll (os.map ocOD) ≤ 1 := by
    clear h1 h2
    induction os with
    | nil => decide
    | cons o r ih =>
      show max (ocOD o).depth (PyData.depthAll (r.map ocOD)) ≤ 1
      have : (ocOD o).depth ≤ 1 := by
        cases o with
        | none => exact Nat.zero_le _
        | some c => cases c <;> exact Nat.le_refl _
      omega
  unfold okD
  rw [Bool.and_eq_true]
  refine ⟨h1, shaped_of (by rw [PyData.canLay0, h2]) ?_⟩
  show PyData.depthAll (os.map ocOD) + 1 ≤ 64
  omega
theorem ocs_cm {H : Hp} {xs : List V} {cs : List Cm} (h : OcA H xs (cs.map some)) : CmA H xs cs := by
  induction cs generalizing xs with
  | nil => cases h; exact .nil
  | cons c r ih => cases h with | cons a b => exact .cons a (ih b)
end K1


set_option Elab.async false
set_option linter.all false
set_option maxRecDepth 100000
set_option maxHeartbeats 8000000
/-! k29: the law. -/
namespace K1
open PySem PySem.Spec PyProof.Rows L2 RZ
theorem fnOk_low {P : Program} {w : World} {K : PySem.W.Frag} {mg : Str → Option Value} {base : Heap} {k : Nat} {f : Addr} {fd : FuncData} {ps : List Str} {sp : Sp} (hs : ∀ vs H Q E E', sp vs H Q E → sp vs H Q E') (F : FnOk P w K mg base (L2.CX P w) k f fd ps sp) : FnOk P w K mg base CX0 k f fd ps sp :=
  ⟨F.len, fun A outer s H args us vs Q E hr he hb hv h => codeAny_mono (F.run A outer s H args us vs Q (fun _ _ _ => False) hr he hb hv (hs _ _ _ _ _ h)) fun r s' h => by
    cases r with
    | error e =>
      obtain ⟨_, _, _, _, _, _, _, _, _, _, _, _, z⟩ := h
      exact z
    | ok fl => cases fl <;> exact h⟩
theorem def_low {P : Program} {w : World} {K : PySem.W.Frag} {mg : Str → Option Value} {base : Heap} {k : Nat} {x : Str} {ps : List Str} {sp : Sp} (hs : ∀ vs H Q E E', sp vs H Q E → sp vs H Q E') (D : Def P w K mg base (L2.CX P w) k x ps sp) : Def P w K mg base CX0 k x ps sp := by
  obtain ⟨f, fd, h1, h2, h3, h4⟩ := D
  exact ⟨f, fd, h1, h2, h3, fnOk_low hs h4⟩
theorem gh_tg {M : Hp} {σ : L2.St} {E : XK} {t1 t2 : TE} {n : Nat} {cs : List Cm} (hn1 : 1 ≤ n) (hn : n ≤ 10) (l8 : cs.length ≤ 8) (okc : ∀ c ∈ cs, wiOk n c) (h1 : Gh M t1 σ (.int n)) (h2 : Gh M t2 σ (.list (cs.map cmD))) : Gh M (tCall spTg [] E (tCons t1 (tCons t2 tNil))) σ (.list ((turnD cs (rowsN n) []).map ocOD)) := gh_call2 h1 h2 fun G v1 v2 Q s e1 e2 q => by
  cases e1
  obtain ⟨a, xs, rfl, ha, hA⟩ := dv_lst e2
  exact ⟨n, a, xs, cs, rfl, hn, ha, cm_of hA, l8, num_ok hn1 hn, row_none l8 fun c hc => cmd_some (okc c hc), fun H' D ys sH nD hD hO => q _ _ sH (.lst hD hO.dv)⟩
theorem gh_by {M : Hp} {σ : L2.St} {E : XK} {t1 t2 t3 t4 : TE} {n : Nat} {cs : List Cm} {ls : List Int} {k : Int} (hn1 : 1 ≤ n) (hn : n ≤ 10) (l8 : cs.length ≤ 8) (okc : ∀ c ∈ cs, wiOk n c) (ha : ls.Pairwise (· < ·)) (hl : ∀ x ∈ ls, 1 ≤ x ∧ x ≤ (n : Int)) (k0 : 0 ≤ k) (k2 : k ≤ 2) (l42 : (singlesD ls cs.length).length ≤ 42) (ll : ls.length ≤ 1000)
    (h1 : Gh M t1 σ (.int n)) (h2 : Gh M t2 σ (.tuple (cs.map cmD))) (h3 : Gh M t3 σ (.tuple (ls.map PyData.int))) (h4 : Gh M t4 σ (.int k)) : Gh M (tCall spBy [] E (tCons t1 (tCons t2 (tCons t3 (tCons t4 tNil))))) σ (.list ((dueL n cs (lawF ls k cs.length)).map PyData.int)) := gh_call4 h1 h2 h3 h4 fun G v1 v2 v3 v4 Q s e1 e2 e3 e4 q => by
  cases e1; cases e4
  obtain ⟨a, xs, rfl, hx, hA⟩ := dv_tup e2
  obtain ⟨lo, zs, rfl, hz, hL⟩ := dv_tup e3
  rw [ints_of hL] at hz
  refine ⟨n, a, lo, xs, cs, ls, k, rfl, hn, .inr hx, cm_of hA, l8, oc_ok, hz, ll, l42, chkB_ok hn1 hn l8 okc ha hl k0 k2, fun fs p H' R ys sH hR py so => ?_⟩
  rw [due_is l8 (fun f => p.mem_iff.trans (lawF_mem ls k cs.length ha f)) py so] at hR
  exact q _ _ sH (.lst hR (dv_int _))
theorem gh_tuple {M : Hp} {σ : L2.St} {te : TE} {K : PySem.W.Frag} {ds : List PyData} (h : Gh M te σ (.list ds)) : Gh M (tCB (fun xs H Q => ∃ p ys, xs = [V.ref p] ∧ ((SqL K H p ys ∧ ∀ l, H l = none → Q (V.ref l) (upd H l (.tup ys))) ∨ (SqT K H p ys ∧ Q (V.ref p) H))) (tCons te tNil)) σ (.tuple ds) := fun G s Q q => h G s _ fun v J s1 dv => by
  obtain ⟨a, xs, rfl, ha, hA⟩ := dv_lst dv
  exact ⟨a, xs, rfl, .inl ⟨sq ha, fun l nl => q _ _ (s1.new nl) (.tup upd_same (hA.same (same_new nl)))⟩⟩
theorem nn_dv {H : Hp} : ∀ {xs : List V} {rs : List Unit}, A2 (fun y (_ : Unit) => y = V.non) xs rs → DvA H xs (rs.map fun _ => .none)
  | _, _, .nil => .nil
  | _, _, .cons e r => by subst e; exact .cons .non (nn_dv r)
theorem nn_ok (rs : List Unit) : okD (.list (rs.map fun _ => PyData.none)) = true := by
  have h1 : noDicA (rs.map fun _ => PyData.none) = true := by
    induction rs with
    | nil => rfl
    | cons a r ih => show (true && noDicA (r.map fun _ => PyData.none)) = true; rw [ih]; rfl
  have h2 : PyData.canLayAll0 (rs.map fun _ => PyData.none) = true := by
    clear h1
    induction rs with
    | nil => simp [PyData.canLayAll0]
    | cons a r ih => rw [List.map_cons, PyData.canLayAll0, ih]; simp [PyData.canLay0]
  have h3 : PyData.depthAll (rs.map fun _ => PyData.none) ≤ 1 := by
    clear h1 h2
    induction rs with
    | nil => decide
    | cons a r ih => show max 0 (PyData.depthAll (r.map fun _ => PyData.none)) ≤ 1; omega
  unfold okD
  rw [Bool.and_eq_true]
  refine ⟨h1, shaped_of (by rw [PyData.canLay0, h2]) ?_⟩
  show PyData.depthAll (rs.map fun _ => PyData.none) + 1 ≤ 64
  omega
theorem nn_eqv (rs : List Unit) : PyData.eqv (.list (rs.map fun _ => PyData.none)) (.list []) = decide (rs = []) := by
  cases rs with
  | nil => simp [PyData.eqv, PyData.eqvAll]
  | cons a r => simp [PyData.eqv, PyData.eqvAll]
theorem th_last {th : Th} {l : Int} (h : tailT th = [l]) : atI (thV th) (-1) = some (V.int l) := by
  cases th with
  | no => cases h
  | gone k => cases h; rfl
  | here k => cases h; rfl
theorem tail_pl {c : Cm} (h : c ≠ .ask) : tailC c = [plC c] := by
  cases c with
  | ask => exact absurd rfl h
  | look k => rfl
  | take k => rfl
abbrev sLw : Stmt := st_law
abbrev nLw : List Str := ["_law_script", "_law_cell", "_law_well_here", "_law_n", "_law_wishes_here", "_law_loose", "_law_k", "_law_row", "_law_due", "_law_found", "_law_at", "_law_letter", "_law_one_here"]
abbrev pLw : List Str := ["_law_script"]
theorem scLw : FnScope nLw pLw (defScope sLw) := ⟨rfl, rfl, rfl, by decide +kernel, rfl, by decide +kernel, by decide +kernel⟩
def spLaw (K : PySem.W.Frag) : Sp := fun vs H Q _ => ∃ (a : Addr) (xs : List Int), vs = [.ref a] ∧ SqL K H a (xs.map V.int) ∧ xs.length ≤ 63 ∧ ∀ H', Q (.bl true) H'
section
variable {P : Program} {w : World} {K : PySem.W.Frag} {mg : Str → Option Value} {base : Heap}
theorem ok_law {f : Addr} {fd : FuncData} (T : Bj mg) (D_cell : Def P w K mg base CX0 1 "_law_cell_at" nCell (spCell K)) (D_well : Def P w K mg base CX0 1 "_law_well" nWell spWell) (D_draw : Def P w K mg base CX0 1 "_law_draw" pDraw spDraw)
    (D_wishes : Def P w K mg base CX0 3 "_law_wishes" pWi spWi) (D_fates : Def P w K mg base CX0 1 "_law_fates" pLf spLf) (D_lturned : Def P w K mg base CX0 2 "_law_turned" pLt spLt) (D_lby : Def P w K mg base CX0 2 "_law_by_number" pLb spLb)
    (D_turned : Def P w K mg base CX0 5 "turned" nTurned spTg) (D_by_number : Def P w K mg base CX0 5 "by_number" pBy spBy) (D_played : Def P w K mg base CX0 6 "played" nPlayed spPg) (D_doubt : Def P w K mg base CX0 6 "doubt" nCk spDo)
    (F : Fun K "law" "law" sLw f fd) : FnOk P w K mg base CX0 7 f fd pLw (spLaw K) := by
  have nd := scLw.nd
  refine F.ok scLw (fun vs H Q E h => ?_) (fun cdv A outer s H vs Q E hr h => ?_)
  · obtain ⟨a, ns, rfl, _⟩ := h
    rfl
  · obtain ⟨a, ns, rfl, hS, hl, q⟩ := h
    refine ⟨_, (pss_cons (ps_for PassesOwn.never rfl (pi_listK (K := K) rfl (pe_op op_cat (pe_lst (pa_cons (pe_def D_cell (hr.mono (by decide)) rfl pass0 (pa_cons (pv 0) (pa_cons pe_int pa_nil))) pa_nil)) (pe_slice (sl_listK (K := K) rfl) (pv 0) (po_some pe_int) (po_some pe_int)))) (pg_name (i := 1) nd rfl (Or.inl rfl))
  (pss_cons (ps_set (i := 2) nd rfl (Or.inr rfl) (pe_def D_well (hr.mono (by decide)) rfl pass0 (pa_cons (pv 1) pa_nil)))
 (pss_cons (ps_set (i := 3) nd rfl (Or.inl rfl) (pe_op op_add pe_int (pe_def D_draw (hr.mono (by decide)) rfl pass0 (pa_cons (pv 2) (pa_cons pe_int pa_nil)))))
 (pss_cons (ps_set (i := 4) nd rfl (Or.inl rfl) (pe_def D_wishes (hr.mono (by decide)) rfl pass0 (pa_cons (pv 2) (pa_cons (pv 3) pa_nil))))
 (C8.pss_cut (ps_set (i := 5) nd rfl (Or.inl rfl) (pe_callTy (call_tuple_ofK (K := K) rfl) (by rfl) T.tuple PyProof.Rows.boot_tuple (pa_cons (pe_lc (own := [("_law_letter", 11)]) (g := gName 11) rfl nd (pi_range2 rfl T.range (pa_cons pe_int (pa_cons (pe_op op_add (pv 3) pe_int) pa_nil))) (blkOk_by (own := [("_law_letter", 11)]) (N := nLw) (sc := defScope sLw) (by decide +kernel)) (fun _ _ _ _ _ => pg_name (i := 11) nd rfl (Or.inl rfl)) (fun _ _ _ _ _ => pts_one (pt_cmpR op_eq (pe_def D_draw (hr.mono (by decide)) rfl pass0 (pa_cons (pv 2) (pa_cons pe_int pa_nil))) pe_int (nomark _))) (fun _ _ _ _ _ => (pv 11))) pa_nil)))
 (pss_cons (ps_set (i := 6) nd rfl (Or.inl rfl) (pe_def D_draw (hr.mono (by decide)) rfl pass0 (pa_cons (pv 2) (pa_cons pe_int pa_nil))))
 (pss_cons (ps_set (i := 7) nd rfl (Or.inl rfl) (pe_def D_lturned (hr.mono (by decide)) rfl pass0 (pa_cons (pv 3) (pa_cons (pv 4) pa_nil))))
 (C8.pss_cut (ps_if (pt_cmpR (op_neD2 (K := K) rfl (Room.u65 hr)) (pe_def D_turned (hr.mono (by decide)) rfl pass0 (pa_cons (pv 3) (pa_cons (pv 4) pa_nil))) (pv 7) (nomark _))
  (pss_one (ps_ret pe_bl))
  pss_nil)
 (pss_cons (ps_set (i := 8) nd rfl (Or.inl rfl) (pe_def D_lby (hr.mono (by decide)) rfl pass0 (pa_cons (pv 3) (pa_cons (pv 4) (pa_cons (pv 7) (pa_cons (pe_def D_fates (hr.mono (by decide)) rfl pass0 (pa_cons (pv 5) (pa_cons (pv 6) (pa_cons (pe_callB (call_lenK (K := K) rfl) (by rfl) T.len PySem.boot_len (pa_cons (pv 4) pa_nil)) pa_nil)))) pa_nil))))))
 (C8.pss_cut (ps_if (pt_cmpR (op_neD2 (K := K) rfl (Room.u65 hr)) (pe_def D_by_number (hr.mono (by decide)) rfl pass0 (pa_cons (pv 3) (pa_cons (pe_callTy (call_tuple_ofK (K := K) rfl) (by rfl) T.tuple PyProof.Rows.boot_tuple (pa_cons (pv 4) pa_nil)) (pa_cons (pv 5) (pa_cons (pv 6) pa_nil))))) (pv 8) (nomark _))
  (pss_one (ps_ret pe_bl))
  pss_nil)
 (pss_one (ps_if (pt_cmpR (op_eqD2 (K := K) rfl (Room.u65 hr)) (pe_lc (own := [("_law_one_here", 12)]) (g := gName 12) rfl nd (pi_listK (K := K) rfl (pv 7)) (blkOk_by (own := [("_law_one_here", 12)]) (N := nLw) (sc := defScope sLw) (by decide +kernel)) (fun _ _ _ _ _ => pg_name (i := 12) nd rfl (Or.inl rfl)) (fun _ _ _ _ _ => pts_one (pt_cmpR op_isN (pv 12) pe_non (nomark _))) (fun _ _ _ _ _ => (pv 12))) (pe_lst pa_nil) (nomark _))
  (pss_cons (ps_set (i := 9) nd rfl (Or.inl rfl) (pe_def D_played (hr.mono (by decide)) rfl pass0 (pa_cons (pv 3) (pa_cons (pv 7) (pa_cons (pv 5) (pa_cons (pv 6) (pa_cons (pe_tup pa_nil) pa_nil)))))))
 (C8.pss_cut (ps_for PassesOwn.never rfl (pi_range1 rfl T.range (pa_cons (pe_callB (call_lenK (K := K) rfl) (by rfl) T.len PySem.boot_len (pa_cons (pv 4) pa_nil)) pa_nil)) (pg_name (i := 10) nd rfl (Or.inl rfl))
  (pss_one (ps_if (PW.pt (pw_and (pt_cmpR (op_neD2 (K := K) rfl (Room.u65 hr)) (pe_ix (ix_listK (K := K) rfl) (pv 4) (pv 10) (fun _ _ => rfl)) (pe_tup (pa_cons pe_str pa_nil)) (nomark _)) (pw_and1 (pt_cmpR op_ne (pe_ix (ix_tupK (K := K) rfl) (pe_ix (ix_listK (K := K) rfl) (pv 9) (pv 10) (fun _ _ => rfl)) (pe_un un_neg pe_int) (fun _ _ => rfl)) (pe_ix (ix_tupK (K := K) rfl) (pe_ix (ix_listK (K := K) rfl) (pv 4) (pv 10) (fun _ _ => rfl)) pe_int (fun _ _ => rfl)) (nomark _)))))
  (pss_one (ps_ret pe_bl))
  pss_nil)))
 (pss_one (ps_if (PW.pt (pw_and (pt_cmpR (op_eqD2 (K := K) rfl (Room.u65 hr)) (pv 8) (pe_lst pa_nil) (nomark _)) (pw_and1 (pt_cmpR op_notN (pe_def D_doubt (hr.mono (by decide)) rfl pass0 (pa_cons (pv 3) (pa_cons (pv 7) (pa_cons (pv 5) (pa_cons (pv 6) pa_nil))))) pe_non (nomark _)))))
  (pss_one (ps_ret pe_bl))
  pss_nil))))
  pss_nil))))))))))))
 (pss_one (ps_ret pe_bl))), ?_⟩
    have sqS : ∀ {G G' : Hp} {b : Addr} {xs : List V}, SqL K G b xs → Same G G' → SqL K G' b xs := fun h s => by
      rcases h with (h | ⟨o, h⟩) | h
      · exact .inl (.inl (s _ _ h))
      · exact .inl (.inr ⟨o, s _ _ h⟩)
      · exact .inr h
    refine ⟨_, rfl, a, ns, 0, rfl, hS, by decide, fun c0 => ⟨lt1 _ (by show 1 ≤ 100000; decide), fun l1 nl1 => ?_⟩⟩
    have s1 := same_new (o := .lst [.int c0]) nl1
    have hl1 : (upd H l1 (.lst [.int c0])) l1 = some (.lst [.int c0]) := upd_same
    generalize upd H l1 (.lst [.int c0]) = H1 at s1 hl1
    refine ⟨_, rfl, 1, rfl, 3, rfl, a, _, rfl, sqS hS s1, fun l2 nl2 => ?_⟩
    have s2 := same_new nl2 (o := .lst (cutV (ns.map V.int) (some 1) (some 3)))
    have hl2 : (upd H1 l2 (.lst (cutV (ns.map V.int) (some 1) (some 3)))) l2 = some (.lst (cutV (ns.map V.int) (some 1) (some 3))) := upd_same
    generalize upd H1 l2 (.lst (cutV (ns.map V.int) (some 1) (some 3))) = H2 at s2 hl2
    have hints : ∀ x ∈ cutV (ns.map V.int) (some 1) (some 3), ∃ n, x = .int n := fun x hx => by
      unfold cutV at hx
      obtain ⟨n, _, rfl⟩ := List.mem_map.mp (List.mem_of_mem_drop (List.mem_of_mem_take hx))
      exact ⟨n, rfl⟩
    have hlen : (cutV (ns.map V.int) (some 1) (some 3)).length ≤ 63 := Nat.le_trans (cutV_length _ _ _) (by rw [List.length_map]; exact hl)
    generalize cutV (ns.map V.int) (some 1) (some 3) = cells at hl2 hints hlen
    refine ⟨l1, l2, _, _, rfl, rfl, s2 _ _ hl1, hl2, lt1 _ (by show 1 + cells.length ≤ 100000; omega), fun M nM => ?_⟩
    have hM : (upd H2 M (.lst ([.int c0] ++ cells))) M = some (.lst ([.int c0] ++ cells)) := upd_same
    generalize upd H2 M (.lst ([.int c0] ++ cells)) = H3 at hM
    refine ⟨M, rfl, ⟨_, sq hM⟩, for_list (K := K) (a := M) (xs := [.int c0] ++ cells) (fun i σ G => (∃ v1 v2 v3 v4 v5 v6 v7 v8 v9 v10 : Option V, σ = [some (.ref a), v1, v2, v3, v4, v5, v6, v7, v8, v9, v10, none, none]) ∧ G M = some (.lst ([.int c0] ++ cells))) ?_ ?_ ?_ ?_⟩
    · exact ⟨⟨_, _, _, _, _, _, _, _, _, _, rfl⟩, hM⟩
    · rintro i σ G _ ⟨_, h⟩
      exact sq h
    · rintro i y σ G0 hy ⟨⟨v1, v2, v3, v4, v5, v6, v7, v8, v9, v10, rfl⟩, hM0⟩
      obtain ⟨cc, rfl⟩ : ∃ n, y = V.int n := by
        rcases List.mem_append.mp (List.mem_of_getElem? hy) with h | h
        · exact ⟨_, List.mem_singleton.mp h⟩
        · exact hints y h
      refine name_gc (asg_go ⟨_, rfl, cc, rfl, fun p G1 np sG1 w1 => name_gc ?_⟩)
      have nMp : M ≠ p := fun z => by rw [z, np] at hM0; cases hM0
      have hM1 := sG1 _ _ hM0
      refine asg_go ⟨_, rfl, p, 7, 0, rfl, w1, by decide, by decide, by decide, fun d G2 d0 d1 e2 w2 => ⟨_, _, rfl, rfl, name_gc ?_⟩⟩
      obtain ⟨n, hn⟩ : ∃ n : Nat, (1 + d : Int) = (n : Int) := ⟨(1 + d).toNat, by omega⟩
      dsimp only
      rw [hn]
      have hn1 : 1 ≤ n := by omega
      have hn7 : n ≤ 7 := by omega
      have hM2 := e2 _ _ nMp hM1
      refine asg_go ⟨_, rfl, _, rfl, p, n, 1, rfl, w2, by decide, hn1, by omega, fun L xs cs G3 e3 w3 nL hL hA okc l6 => name_gc ?_⟩
      have hM3 := e3 _ _ nMp hM2
      have nLp := w2.ne nL
      have lx : xs.length = cs.length := A2.len hA
      refine ⟨fun σ' G => ∃ (lo : Addr) (ls : List Int) (k0 : Nat), σ' = [some (.ref a), some (.int cc), some (.ref p), some (.int n), some (.ref L), some (.ref lo), v6, v7, v8, v9, v10, none, none] ∧ G M = some (.lst ([.int c0] ++ cells)) ∧ WellT G p k0 ∧ k0 ≤ 1000 ∧ G L = some (.lst xs) ∧ CmA G xs cs ∧ G lo = some (.tup (ls.map V.int)) ∧ ls.Pairwise (· < ·) ∧ (∀ x ∈ ls, 1 ≤ x ∧ x ≤ (n : Int)) ∧ ls.length ≤ n, ?_, ?_⟩
      · refine ⟨_, rfl, _, _, rfl, rfl, 1, (n : Int) + 1, rfl, ⟨by omega, by omega, by omega, by omega⟩, fun N nN => ?_⟩
        have nNp := w3.ne nN
        have hMN : M ≠ N := fun z => by rw [z, nN] at hM3; cases hM3
        refine lc_it walk_range (fun j G => Ext p G3 G ∧ WellT G p (1 + 20 + j) ∧ ∃ ls : List Int, G N = some (.lst (ls.map V.int)) ∧ ls.Pairwise (· < ·) ∧ (∀ x ∈ ls, 1 ≤ x ∧ x ≤ (j : Int)) ∧ ls.length ≤ j) ⟨same_ext (same_new nN), w3.same (same_new nN), [], upd_same, .nil, (fun x h => by cases h), Nat.le_refl _⟩ (fun _ _ _ _ => trivial) ?_ ?_
        · rintro j x G G' hj ⟨eG, wG, ls, hN, la, lb, lc⟩ ⟨rfl, rfl⟩
          refine ⟨rfl, _, rfl, p, 3, _, rfl, wG, by omega, by decide, by decide, fun dd G4 dd0 dd1 e4 w4 => ⟨rfl, _, rfl, ?_⟩⟩
          have hN4 := e4 _ _ nNp hN
          rw [dec_int]
          by_cases hz : dd = 0
          · refine itbT (by rw [hz]; exact beq_self_eq_true _) ⟨_, rfl, _, hN4, lt2 _ (by rw [List.length_map]; omega), ?_, ?_, ls ++ [1 + (j : Int)], by rw [upd_same, List.map_append]; rfl, ?_, fun x hx => ?_, by rw [List.length_append]; show _ + 1 ≤ _; omega⟩
            · exact (eG.trans e4).mut nN
            · exact WellT.mono (WellT.keep w4 fun o ho => by rw [upd_ne nNp.symm]; exact ho) (by omega)
            · refine List.pairwise_append.mpr ⟨la, by simp, fun u hu v hv => ?_⟩
              have := lb u hu
              rw [List.mem_singleton.mp hv]; omega
            · rcases List.mem_append.mp hx with hx | hx
              · have := lb x hx; omega
              · rw [List.mem_singleton.mp hx]; omega
          · exact itbF (beq_eq_false_iff_ne.mpr hz) ⟨eG.trans e4, w4.mono (by omega), ls, hN4, la, (fun x hx => by have := lb x hx; omega), by omega⟩
        · rintro G ⟨eG, wG, ls, hN, la, lb, lc⟩
          have en : ((n : Int) + 1 - 1).toNat = n := by omega
          rw [en] at wG lb lc
          refine ⟨N, _, rfl, .inl ⟨sq hN, fun lo nlo => name_gc ⟨lo, ls, 1 + 20 + n, rfl, ?_, wG.same (same_new nlo), by omega, ?_, ?_, upd_same, la, lb, lc⟩⟩⟩
          · exact same_new nlo _ _ (eG _ _ nMp hM3)
          · exact same_new nlo _ _ (eG _ _ nLp hL)
          · exact CmA.tu hA ((TU.w w3 eG).trans (TU.of (same_new nlo)))
      · rintro σ' G4 ⟨lo, ls, k0, rfl, hM4, w4, hk0, hL4, hA4, hlo, lsA, lsB, lsn⟩
        refine asg_go ⟨_, rfl, p, 3, k0, rfl, w4, by omega, by decide, by decide, fun kk G5 kk0 kk1 e5 w5 => name_gc ?_⟩
        have hM5 := e5 _ _ nMp hM4
        have hL5 := e5 _ _ nLp hL4
        have hA5 := CmA.tu hA4 (TU.w w4 e5)
        have hlo5 := TU.w w4 e5 _ _ hlo
        clear w5 e5 hlo hA4 hL4 hM4 w4 hA hL e3 w3 e2 w2 w1 sG1 hM3 hM2 hM1
        have l42 : (singlesD ls cs.length).length ≤ 42 := by
          rw [singles_len]
          exact Nat.le_trans (Nat.mul_le_mul (Nat.le_trans lsn hn7) l6) (by decide)
        refine asg_go ⟨_, rfl, _, rfl, n, L, xs, cs, rfl, by omega, hL5, hA5, by omega, fun G6 R ys s6 hR hO => name_gc ?_⟩
        have hL6 := s6 _ _ hL5
        have hA6 := CmA.tu hA5 (TU.of s6)
        have hlo6 := s6 _ _ hlo5
        have hM6 := s6 _ _ hM5
        have dL : Dv G6 (.ref L) (.list (cs.map cmD)) := .lst hL6 hA6.dv
        have dR : Dv G6 (.ref R) (.list ((turnD cs (rowsN n) []).map ocOD)) := .lst hR hO.dv
        have dlo : Dv G6 (.ref lo) (.tuple (ls.map PyData.int)) := .tup hlo6 (dv_int _)
        clear s6 hL5 hA5 hlo5 hM5
        refine cut_go (M := G6) (ts_ne (gh_tg hn1 (by omega) (by omega) okc (gh_var rfl (.int _)) (gh_var rfl dL)) (gh_var rfl dR) (ocs_ok _)) same_r fun J sJ => ?_
        refine asg_go ⟨_, rfl, _, rfl, _, rfl, _, rfl, _, rfl, _, rfl, L, xs, rfl, .inl (sq (sJ _ _ hL6)), lo, ls, kk, xs.length, rfl, sJ _ _ hlo6, by omega, by omega, fun G7 Mu ms s7 hMu lms hMs => ?_⟩
        rw [lx] at hMs
        have s67 := sJ.trans s7
        refine ⟨n, L, R, Mu, xs, ys, ms, cs, lawF ls kk cs.length, rfl, by omega, s67 _ _ hL6, CmA.tu hA6 (TU.of s67), by omega, s67 _ _ hR, OcA.tu hO (TU.of s67), hMu, hMs, by have := A2.len hMs; omega, fun f hf => fate_len ((lawF_mem ls kk cs.length lsA f).mpr hf), fun G8 Du s8 hDu => name_gc ?_⟩
        have s68 := s67.trans s8
        have dDu : Dv G8 (.ref Du) (.list ((dueL n cs (lawF ls kk cs.length)).map PyData.int)) := .lst hDu (dv_int _)
        refine cut_go (M := G8) (ts_ne (gh_by hn1 (by omega) (by omega) okc lsA lsB kk0 (by omega) l42 (by omega) (gh_var rfl (.int _)) (gh_tuple (gh_var rfl (dL.same s68))) (gh_var rfl (dlo.same s68)) (gh_var rfl (.int _))) (gh_var rfl dDu) (ints_ok _)) same_r fun J8 sJ8 => ?_
        have s6J := s68.trans sJ8
        have hRJ := s6J _ _ hR
        have hOJ := OcA.tu hO (TU.of s6J)
        have hLJ := s6J _ _ hL6
        have hAJ := CmA.tu hA6 (TU.of s6J)
        have hloJ := s6J _ _ hlo6
        have hMJ := s6J _ _ hM6
        have dDJ := dDu.same sJ8
        have lys : ys.length = cs.length := by rw [A2.len hO, turn_len]
        clear s68 s67 s7 s8 sJ sJ8 hMu hMs hDu dDu dL dR dlo hL6 hA6 hlo6 hM6 hR hO
        refine ⟨_, rfl, R, rfl, ⟨_, sq hRJ⟩, fun U nU => lc_selL walk_list (hA := hOJ) nU (fun G s => sq (s _ _ hRJ)) (by omega) (fun (o : Option Cm) => if o = none then some () else none) (out := fun y (_ : Unit) => y = V.non) ?_ ?_⟩
        · rintro x o J2 Tt S' hx _ s9 hT hS'
          refine ⟨rfl, _, rfl, rfl, _, rfl, ?_⟩
          cases o with
          | none =>
            cases (show x = V.non from hx)
            exact itbT rfl ⟨_, rfl, hT _ () J2 same_r rfl rfl⟩
          | some c =>
            obtain ⟨tc, rfl, _⟩ := hx
            exact itbF rfl (hS' J2 same_r rfl)
        · intro J2 acc s9 hacc hAcc
          have dU : Dv J2 (.ref U) (.list (((turnD cs (rowsN n) []).filterMap fun (o : Option Cm) => if o = none then some () else none).map fun _ => .none)) := .lst hacc (nn_dv hAcc)
          generalize hrs : ((turnD cs (rowsN n) []).filterMap fun (o : Option Cm) => if o = none then some () else none) = rs at dU
          have o1 := (Bool.and_eq_true _ _).mp (nn_ok rs)
          refine ⟨Nat.zero_le _, fun Em nEm => ?_⟩
          have s10 := same_new nEm (o := .lst ([] : List V))
          have hEm : (upd J2 Em (.lst ([] : List V))) Em = some (.lst []) := upd_same
          generalize upd J2 Em (.lst ([] : List V)) = J3 at s10 hEm
          refine ⟨_, _, (dU.same s10).dp o1.1, (Dv.lst hEm .nil).dp rfl, o1.2, by decide +kernel, _, rfl, ?_⟩
          rw [nn_eqv]
          have sJ3 := s9.trans s10
          by_cases hnn : rs = []
          · refine itbT (decide_eq_true hnn) ?_
            obtain ⟨cs', he⟩ := all_some (turnD cs (rowsN n) []) fun o ho hoz => by
              have : () ∈ rs := by rw [← hrs]; exact List.mem_filterMap.mpr ⟨o, ho, if_pos hoz⟩
              rw [hnn] at this; cases this
            have hlc := len_ok he
            have okc' := cmOk_ok he
            have hC := ocs_cm (he ▸ hOJ)
            have hck := chk_ok hn1 (show n ≤ 10 by omega) (show cs'.length ≤ 8 by omega) okc' lsA lsB kk0 (show kk ≤ 2 by omega)
            have hR3 := sJ3 _ _ hRJ
            have hC3 := CmA.tu hC (TU.of sJ3)
            have hlo3 := sJ3 _ _ hloJ
            refine asg_go ⟨_, rfl, _, rfl, _, rfl, _, rfl, Nat.zero_le _, fun t0 nt0 => ?_⟩
            have s11 := same_new nt0 (o := .tup ([] : List V))
            have ht0 : (upd J3 t0 (.tup ([] : List V))) t0 = some (.tup []) := upd_same
            generalize upd J3 t0 (.tup ([] : List V)) = J4 at s11 ht0
            refine ⟨n, R, lo, t0, ys, [], cs', ls, kk, [], rfl, by omega, s11 _ _ hR3, CmA.tu hC3 (TU.of s11), okc', by omega, s11 _ _ hlo3, by omega, hck, by omega, ht0, .nil, Nat.zero_le _, ?_, fun G9 Fo zs s12 nFo hFo hTh => name_gc ?_⟩
            · show (decide (((0 : Nat) : Int) ≤ kk) && (true && ascB [])) = true
              rw [decide_eq_true (show ((0 : Nat) : Int) ≤ kk by omega)]; rfl
            have sJ9 := sJ3.trans (s11.trans s12)
            have hL9 := sJ9 _ _ hLJ
            have hA9 := CmA.tu hAJ (TU.of sJ9)
            have dL9 : Dv G9 (.ref L) (.list (cs.map cmD)) := .lst hL9 hA9.dv
            refine ⟨fun σ' G => ∃ v10 : Option V, σ' = [some (.ref a), some (.int cc), some (.ref p), some (.int n), some (.ref L), some (.ref lo), some (.int kk), some (.ref R), some (.ref Du), some (.ref Fo), v10, none, none] ∧ Same G9 G, ?_, ?_⟩
            · refine ⟨_, rfl, L, xs, rfl, .inl (sq hL9), _, rfl, by omega, by omega, for_range (lo := 0) (n := xs.length) (fun j σ G => ∃ v10 : Option V, σ = [some (.ref a), some (.int cc), some (.ref p), some (.int n), some (.ref L), some (.ref lo), some (.int kk), some (.ref R), some (.ref Du), some (.ref Fo), v10, none, none] ∧ Same G9 G) ⟨_, rfl, same_r⟩ ?_ ?_⟩
              · rintro j σ G hj ⟨v10, rfl, sG⟩
                have e0 : (0 + (j : Int)) = (j : Int) := by omega
                rw [e0]
                refine name_gc ?_
                obtain ⟨c, hc⟩ : ∃ c, cs[j]? = some c := ⟨_, List.getElem?_eq_getElem (by omega)⟩
                have hcd : (cs.map cmD)[j]? = some (cmD c) := by rw [List.getElem?_map, hc]; rfl
                refine neD_go (gh_ixg (gh_var rfl (dL9.same sG)) (gh_var rfl (.int _)) hcd) (gh_tup (gh_cons (gh_str _) gh_nil)) (cm_okD c) (by decide +kernel) fun J5 s13 => ⟨_, rfl, ?_⟩
                rw [cm_ask]
                have s95 := sG.trans s13
                by_cases hask : c = .ask
                · exact itbF (by rw [decide_eq_true hask]; rfl) (itbF rfl ⟨_, rfl, s95⟩)
                · refine itbT (by rw [decide_eq_false hask]; rfl) ?_
                  obtain ⟨th, hth, htl⟩ := alone_at he j c hc hask
                  rw [tail_pl hask] at htl
                  have lzs : zs.length = cs.length := by
                    have := congrArg List.length (found_eq he [] (none_ok he))
                    rw [A2.len hTh, this, fbl_len [] cs _ 0 _ _ (by rw [List.length_map]; exact hlc)]
                  have hzj : zs[j]? = some (zs[j]'(by omega)) := List.getElem?_eq_getElem _
                  generalize zs[j]'(by omega) = z0 at hzj
                  obtain ⟨o, ho, hoz⟩ := A2.get hTh hzj
                  rw [hth] at ho
                  cases ho
                  obtain ⟨tz, rfl, htz⟩ := hoz
                  have hxj : xs[j]? = some (xs[j]'hj) := List.getElem?_eq_getElem _
                  generalize xs[j]'hj = x0 at hxj
                  obtain ⟨c', hc', tc, rfl, htc⟩ := A2.get hA9 hxj
                  obtain rfl : c' = c := Option.some.inj (hc'.symm.trans hc)
                  refine ⟨_, rfl, _, rfl, Fo, zs, j, _, rfl, rfl, sq (s95 _ _ hFo), atI_nat hzj, 1, rfl, tz, _, -1, _, rfl, rfl, st (s95 _ _ htz), th_last htl, ?_⟩
                  refine ⟨_, rfl, _, rfl, L, xs, j, _, rfl, rfl, sq (s95 _ _ hL9), atI_nat hxj, tc, _, 1, _, rfl, rfl, st (s95 _ _ htc), atI_nat (j := 1) (cm_let hask), rfl, _, rfl, ?_⟩
                  exact itbF (by rw [decide_eq_true rfl]; rfl) ⟨_, rfl, s95⟩
              · rintro σ G ⟨v10, rfl, sG⟩
                exact ⟨_, rfl, sG⟩
            · rintro σ' G ⟨v10, rfl, sG⟩
              have sJG := sJ9.trans sG
              refine eqD_go (gh_var rfl (dDJ.same sJG)) (gh_lst gh_nil) (ints_ok _) (by decide +kernel) fun J6 s14 => ⟨_, rfl, ?_⟩
              rw [show (PyData.list []) = .list (([] : List Int).map PyData.int) from rfl, ints_eqv]
              have sJ6 := sJG.trans s14
              by_cases hd : dueL n cs (lawF ls kk cs.length) = []
              · refine itbT (decide_eq_true hd) ?_
                refine ⟨_, rfl, _, rfl, _, rfl, _, rfl, n, R, lo, ys, cs', ls, kk, rfl, by omega, sJ6 _ _ hRJ, CmA.tu hC (TU.of sJ6), okc', by omega, sJ6 _ _ hloJ, by omega, by rw [hlc]; exact l42, hck, fun fs pf _ => ?_⟩
                rw [sure_ok he (fun f hf => (lawF_mem ls kk cs.length lsA f).mp (hlc ▸ pf.mem_iff.mp hf)) hd]
                exact fun G' s15 => ⟨rfl, _, rfl, itbF rfl ⟨⟨_, _, _, _, _, _, _, _, _, _, rfl⟩, s15 _ _ (sJ6 _ _ hMJ)⟩⟩
              · exact itbF (decide_eq_false hd) (itbF rfl ⟨⟨_, _, _, _, _, _, _, _, _, _, rfl⟩, sJ6 _ _ hMJ⟩)
          · exact itbF (decide_eq_false hnn) ⟨⟨_, _, _, _, _, _, _, _, _, _, rfl⟩, sJ3 _ _ hMJ⟩
    · rintro σ G ⟨⟨v1, v2, v3, v4, v5, v6, v7, v8, v9, v10, rfl⟩, _⟩
      exact q G
end
end K1


set_option Elab.async false
set_option linter.all false
set_option maxRecDepth 100000
set_option maxHeartbeats 4000000
/-! For the end: own errors, defs whose lambdas stand in a table (taken from k31's F11 and F15). -/
namespace K1
open PySem PySem.Spec PyProof.Rows L2
def AtC (K : PySem.W.Frag) (mg : Str → Option Value) (x : Str) (st : Stmt) (c : Addr) : Prop := ∃ (f : Addr) (oc : Value) (od : Option Addr) (kV doc pm : Value) (an : Option Addr) (ct : Value) (osl : Array (Option Value)),
  mg x = some (.ref f) ∧ PySem.W.keepIn K (.ref f) = true ∧ K.lookup f = some ⟨oc, od, .func (PySem.W.fnOf x x (defArgs st) (defBody st) (defScope st) .none kV doc pm an (.ref c) ct), osl⟩ ∧ PySem.W.codeIn K (.ref c) x = true
section
variable {K : PySem.W.Frag} {h : Heap} {mg : Str → Option Value}
theorem atC_mk {x : Str} {st : Stmt} {f co : Addr} {oc : Value} {od an : Option Addr} {osl : Array (Option Value)} {kV doc pm ct : Value} (X : K.In h) (G : h.Ns mainGlobals mg) (a : PySem.W.nsIn K mainGlobals x = some (some (.ref f)))
    (l : K.lookup f = some ⟨oc, od, .func (PySem.W.fnOf x x (defArgs st) (defBody st) (defScope st) .none kV doc pm an (.ref co) ct), osl⟩) (c : PySem.W.codeIn K (.ref co) x = true) (k : PySem.W.keepIn K (.ref f) = true) : AtC K mg x st co :=
  ⟨f, oc, od, kV, doc, pm, an, ct, osl, PySem.W.mg_of X G a, k, l, c⟩
theorem exm_own {S : Addr} (h1 : PySem.W.subIn K (.ref S) (.type "BaseException") = some true) (h2 : PySem.W.isClsIn K S = true) (h3 : PySem.W.typeIn K (.ref S) = some (.type "type")) (h4 : PySem.W.subIn K (.ref S) (.ref S) = some true) :
    PySem.W.exmOne K (.ref S) (.ref S) = some true := by
  unfold PySem.W.exmOne
  unfold PySem.W.kitCls
  unfold PySem.W.isClsIn at h2
  simp only [h1, h2, h3, h4]
  simp
theorem exm_other {R S : Addr} (h1 : PySem.W.subIn K (.ref S) (.type "BaseException") = some true) (h2 : PySem.W.isClsIn K S = true) (h3 : PySem.W.typeIn K (.ref S) = some (.type "type")) (h4 : PySem.W.subIn K (.ref R) (.ref S) = some false) :
    PySem.W.exmOne K (.ref R) (.ref S) = some false := by
  unfold PySem.W.exmOne
  unfold PySem.W.kitCls
  unfold PySem.W.isClsIn at h2
  simp only [h1, h2, h3, h4]
  simp
theorem tide_mk {prog : Program} {x fl qual tx : Str} {C fI cda cc : Addr} {nm q : Str} {N : Addr} {bs BM : List Value} {sn : List Str} {sub : List Value} {ab : Bool} {col : Option Bool} {dd : Option Addr} {m0 m1 m2 m3 m5 : Option Value}
    {oc doc pm ct ccl cl : Value} {od an cdd cld : Option Addr} {osl ccs csl : Array (Option Value)} {j : Nat} {p1 p2 q1 q2 q3 q4 q5 q6 q7 q8 q9 q10 : Pos} {vs : Array Value} {file : Str} {tf : Tok} (X : K.In h) (G : h.Ns mainGlobals mg) (ok : PySem.Tide.FlOk fl)
    (ci : PySem.Tide.CallIs tx j q1 q2 q3 q4 q5) (htop : (prog.main.scope.names.lookup ("super" : Str)).isSome = false)
    (aC : PySem.W.nsIn K mainGlobals x = some (some (.ref C))) (xL : K.lookup C = some (PySem.excClassObj nm q C N bs BM true sn sub ab col dd m0 m1 m2 m3 m5 "ValueError.__new__")) (bm : PySem.HandSPX.refsVE BM = true)
    (sa : PySem.W.findIn K (.ref C) "__setattr__" = some (some (.builtin "object.__setattr__"))) (ga : PySem.W.findIn K (.ref C) "__getattribute__" = some (some (.builtin "BaseException.__getattribute__"))) (gg : PySem.W.findIn K (.ref C) "__getattr__" = some none) (nb : PySem.W.findIn K (.ref C) fl = some none)
    (a1 : PySem.W.findIn K (.ref C) "__init__" = some (some (.ref fI))) (t1 : PySem.W.typeIn K (.ref fI) = some (.type "function"))
    (l1 : K.lookup fI = some ⟨oc, od, .func (PySem.W.ksFn "__init__" qual (PySem.Tide.iA fl p1 p2) (PySem.Tide.iB fl tx j q1 q2 q3 q4 q5 q6 q7 q8 q9 q10) (PySem.Tide.iS fl) .none .none doc pm an (.ref cda) ct cc), osl⟩) (c1 : PySem.W.codeIn K (.ref cda) qual = true)
    (n1 : K.lookup cda = some ⟨ccl, cdd, .fields vs, ccs⟩) (n2 : vs[2]? = some (.str file tf)) (n3 : ((prog.main.file : Str) == file) = true) (n4 : K.lookup cc = some ⟨cl, cld, .cell (some (.ref C)), csl⟩)
    (kC : PySem.W.keepIn K (.ref C) = true) (eC : PySem.W.subIn K (.ref C) (.type "BaseException") = some true) (tC : PySem.W.typeIn K (.ref C) = some (.type "type")) (hC : PySem.W.hasDictIn K C = true) (iC : PySem.W.isClsIn K C = true) (sC : PySem.W.subIn K (.ref C) (.ref C) = some true)
    (su : PySem.W.ks_superIn K C C "__init__" = some (some (.builtin "ValueError.__init__"))) (vC : PySem.W.subIn K (.ref C) (.type "ValueError") = some true) (mC : PySem.W.mroIn K C (.ref C) = some true) (tpa : PySem.W.nsIn K PySem.cStatics "thirdparty.any" = some none)
    (ns : PySem.W.nsIn K mainGlobals "super" = some none) : PySem.Tide.TideTxt prog K mg x C fI fl :=
  { gC := PySem.W.mg_of X G aC, ok := ok, cls := ⟨nm, q, N, bs, BM, sn, sub, ab, col, dd, m0, m1, m2, m3, m5, xL, bm⟩, sa := sa, ga := ga, gg := gg, noN := nb, iC := a1, tC := t1, kC := kC, exC := eC, tyC := tC, hdC := hC, te := exm_own eC iC tC sC, sup := su, isV := vC, self_ := mC, tpa := tpa,
    nsu := PySem.W.mg_none_of X G ns, htop := htop,
    fn := ⟨oc, od, doc, pm, ct, an, osl, qual, tx, j, p1, p2, q1, q2, q3, q4, q5, q6, q7, q8, q9, q10, cda, cc, l1, c1, ci, ⟨ccl, cdd, vs, ccs, file, tf, n1, n2, n3⟩, ⟨cl, cld, csl, n4⟩⟩ }
end
end K1


set_option Elab.async false
set_option linter.all false
set_option maxRecDepth 100000
set_option maxHeartbeats 4000000
namespace K1
open PySem PySem.Spec PyProof.Rows L2 RZ
theorem len1 {α : Type _} {us : List α} (h : us.length = 1) : ∃ x0, us = [x0] := match us, h with | [x0], _ => ⟨_, rfl⟩
theorem len2 {α : Type _} {us : List α} (h : us.length = 2) : ∃ x0 x1, us = [x0, x1] := match us, h with | [x0, x1], _ => ⟨_, _, rfl⟩
theorem len3 {α : Type _} {us : List α} (h : us.length = 3) : ∃ x0 x1 x2, us = [x0, x1, x2] := match us, h with | [x0, x1, x2], _ => ⟨_, _, _, rfl⟩
theorem len4 {α : Type _} {us : List α} (h : us.length = 4) : ∃ x0 x1 x2 x3, us = [x0, x1, x2, x3] := match us, h with | [x0, x1, x2, x3], _ => ⟨_, _, _, _, rfl⟩
theorem len5 {α : Type _} {us : List α} (h : us.length = 5) : ∃ x0 x1 x2 x3 x4, us = [x0, x1, x2, x3, x4] := match us, h with | [x0, x1, x2, x3, x4], _ => ⟨_, _, _, _, _, rfl⟩
theorem len6 {α : Type _} {us : List α} (h : us.length = 6) : ∃ x0 x1 x2 x3 x4 x5, us = [x0, x1, x2, x3, x4, x5] := match us, h with | [x0, x1, x2, x3, x4, x5], _ => ⟨_, _, _, _, _, _, rfl⟩
/-! ### the end -/
def AtM (K : PySem.W.Frag) (C : Addr) (m q : Str) (st : Stmt) : Prop := ∃ (f : Addr) (fd : FuncData), Meth K C m f ∧ Fun K m q st f fd
def AtMC (K : PySem.W.Frag) (C : Addr) (m q : Str) (st : Stmt) (c : Addr) : Prop := ∃ (f : Addr) (oc : Value) (od : Option Addr) (kV doc pm : Value) (an : Option Addr) (ct : Value) (osl : Array (Option Value)),
  Meth K C m f ∧ K.lookup f = some ⟨oc, od, .func (PySem.W.fnOf m q (defArgs st) (defBody st) (defScope st) .none kV doc pm an (.ref c) ct), osl⟩ ∧ PySem.W.codeIn K (.ref c) q = true
section
variable {K : PySem.W.Frag} {h : Heap} {mg : Str → Option Value}
theorem cs_mk {x : Str} {n : Int} {t : Tok} {v : Value} (X : K.In h) (G : h.Ns mainGlobals mg) (a : PySem.W.nsIn K mainGlobals x = some (some v)) (e : v = .int n t) : ∃ t, mg x = some (.int n t) := ⟨t, by rw [PySem.W.mg_of X G a, e]⟩
theorem at_mk {x : Str} {st : Stmt} {f : Addr} {oc : Value} {od an : Option Addr} {osl : Array (Option Value)} {kV doc pm cdv ct : Value} (X : K.In h) (G : h.Ns mainGlobals mg) (a : PySem.W.nsIn K mainGlobals x = some (some (.ref f)))
    (l : K.lookup f = some ⟨oc, od, .func (PySem.W.fnOf x x (defArgs st) (defBody st) (defScope st) .none kV doc pm an cdv ct), osl⟩) (c : PySem.W.codeIn K cdv x = true) (k : PySem.W.keepIn K (.ref f) = true) : At K mg x st :=
  ⟨f, _, PySem.W.mg_of X G a, fun_mk l c k⟩
theorem atM_mk {C : Addr} {m q : Str} {st : Stmt} {f : Addr} {oc : Value} {od an : Option Addr} {osl : Array (Option Value)} {kV doc pm cdv ct : Value} (a : PySem.W.findIn K (.ref C) m = some (some (.ref f))) (n : PySem.W.isFn K (.ref f) = true)
    (l : K.lookup f = some ⟨oc, od, .func (PySem.W.fnOf m q (defArgs st) (defBody st) (defScope st) .none kV doc pm an cdv ct), osl⟩) (c : PySem.W.codeIn K cdv q = true) (k : PySem.W.keepIn K (.ref f) = true) : AtM K C m q st :=
  ⟨f, _, ⟨a, n, k⟩, fun_mk l c k⟩
theorem atMC_mk {C : Addr} {m q : Str} {st : Stmt} {f co : Addr} {oc : Value} {od an : Option Addr} {osl : Array (Option Value)} {kV doc pm ct : Value} (a : PySem.W.findIn K (.ref C) m = some (some (.ref f))) (n : PySem.W.isFn K (.ref f) = true)
    (l : K.lookup f = some ⟨oc, od, .func (PySem.W.fnOf m q (defArgs st) (defBody st) (defScope st) .none kV doc pm an (.ref co) ct), osl⟩) (c : PySem.W.codeIn K (.ref co) q = true) (k : PySem.W.keepIn K (.ref f) = true) : AtMC K C m q st co :=
  ⟨f, oc, od, kV, doc, pm, an, ct, osl, ⟨a, n, k⟩, l, c⟩
theorem AtM.mdef {P : Program} {w : World} {base : Heap} {CX : CXT} {k : Nat} {C : Addr} {m q : Str} {ps : List Str} {sp : Sp} {st : Stmt} (a : AtM K C m q st)
    (hb : ∀ (kV doc pm : Value) (an : Option Addr) (cdv ct : Value) (us : List Value), us.length = ps.length → bindArgs (PySem.W.fnOf m q (defArgs st) (defBody st) (defScope st) .none kV doc pm an cdv ct) ⟨us, []⟩ = pure (ps.zip us))
    (ok : ∀ (f : Addr) (fd : FuncData), Fun K m q st f fd → FnOk P w K mg base CX k f fd ps sp) : MDef P w K mg base CX k C m ps sp := by
  obtain ⟨f, fd, hm, F⟩ := a
  refine ⟨f, fd, hm, ?_, ok f fd F⟩
  obtain ⟨oc, od, kV, doc, pm, an, cdv, ct, osl, rfl, lk, hcd⟩ := F.ex
  exact F.binds hb
theorem AtMC.mdef {P : Program} {w : World} {base : Heap} {CX : CXT} {k : Nat} {C c : Addr} {m q : Str} {ps : List Str} {sp : Sp} {st : Stmt} (a : AtMC K C m q st c)
    (hb : ∀ (kV doc pm : Value) (an : Option Addr) (cdv ct : Value) (us : List Value), us.length = ps.length → bindArgs (PySem.W.fnOf m q (defArgs st) (defBody st) (defScope st) .none kV doc pm an cdv ct) ⟨us, []⟩ = pure (ps.zip us))
    (ok : ∀ {f : Addr} {oc : Value} {od : Option Addr} {kV doc pm : Value} {an : Option Addr} {ct : Value} {osl : Array (Option Value)}, K.lookup f = some ⟨oc, od, .func (PySem.W.fnOf m q (defArgs st) (defBody st) (defScope st) .none kV doc pm an (.ref c) ct), osl⟩ → PySem.W.codeIn K (.ref c) q = true → FnOk P w K mg base CX k f (PySem.W.fnOf m q (defArgs st) (defBody st) (defScope st) .none kV doc pm an (.ref c) ct) ps sp) : MDef P w K mg base CX k C m ps sp := by
  obtain ⟨f, oc, od, kV, doc, pm, an, ct, osl, hm, lk, hcd⟩ := a
  have F : Fun K m q st f _ := ⟨⟨oc, od, kV, doc, pm, an, .ref c, ct, osl, rfl, lk, hcd⟩, hm.kp⟩
  exact ⟨f, _, hm, F.binds hb, ok lk hcd⟩
end
def AtQ (K : PySem.W.Frag) (mg : Str → Option Value) (x q : Str) (st : Stmt) : Prop := ∃ (f : Addr) (fd : FuncData), mg x = some (.ref f) ∧ Fun K q q st f fd
theorem AtQ.def {P : Program} {w : World} {K : PySem.W.Frag} {mg : Str → Option Value} {base : Heap} {CX : CXT} {k : Nat} {x q : Str} {ps : List Str} {sp : Sp} {st : Stmt} (a : AtQ K mg x q st)
    (hb : ∀ (kV doc pm : Value) (an : Option Addr) (cdv ct : Value) (us : List Value), us.length = ps.length → bindArgs (PySem.W.fnOf q q (defArgs st) (defBody st) (defScope st) .none kV doc pm an cdv ct) ⟨us, []⟩ = pure (ps.zip us))
    (h : ∀ f fd, Fun K q q st f fd → FnOk P w K mg base CX k f fd ps sp) : Def P w K mg base CX k x ps sp := by
  obtain ⟨f, fd, hm, F⟩ := a
  exact ⟨f, fd, hm, F.kp, F.binds hb, h f fd F⟩
theorem atQ_mk {K : PySem.W.Frag} {h : Heap} {mg : Str → Option Value} {x q : Str} {st : Stmt} {f : Addr} {oc : Value} {od an : Option Addr} {osl : Array (Option Value)} {kV doc pm cdv ct : Value} (X : K.In h) (G : h.Ns mainGlobals mg) (a : PySem.W.nsIn K mainGlobals x = some (some (.ref f)))
    (l : K.lookup f = some ⟨oc, od, .func (PySem.W.fnOf q q (defArgs st) (defBody st) (defScope st) .none kV doc pm an cdv ct), osl⟩) (c : PySem.W.codeIn K cdv q = true) (k : PySem.W.keepIn K (.ref f) = true) : AtQ K mg x q st :=
  ⟨f, _, PySem.W.mg_of X G a, fun_mk l c k⟩
abbrev sLaw : Stmt := st_law
def LiF (K : PySem.W.Frag) (C : Addr) : Prop := ∃ (f : Addr) (fd : FuncData), L2.Mk K C f ∧ Fun K "__init__" "Listed.__init__" sLi f fd
theorem li_mk {K : PySem.W.Frag} {f C : Addr} {oc : Value} {od an : Option Addr} {osl : Array (Option Value)} {kV doc pm cdv ct : Value} (mk : L2.Mk K C f)
    (l : K.lookup f = some ⟨oc, od, .func (PySem.W.fnOf "__init__" "Listed.__init__" (defArgs sLi) (defBody sLi) (defScope sLi) .none kV doc pm an cdv ct), osl⟩) (c : PySem.W.codeIn K cdv "Listed.__init__" = true) (k : PySem.W.keepIn K (.ref f) = true) : LiF K C := ⟨f, _, mk, fun_mk l c k⟩
theorem all_mk {l : PySem.W.OpenLaw} {w : World} {K : PySem.W.Frag} {h : Heap} {mg : Str → Option Value} {fa f C CN CR CV fN fR fV : Addr} {oc kV dc pm cdv ct : Value} {od an : Option Addr} {sl : Array (Option Value)} (X : K.In h) (G : h.Ns mainGlobals mg) (hfa : mg "law" = some (.ref fa))
    (T : Bj mg) (Co : Cs mg)
    (t : ClL K mg C) (li : LiF K C)
    (TN : PySem.Tide.TideTxt l.prog K mg "BadNumber" CN fN "value") (TR : PySem.Tide.TideTxt l.prog K mg "BadRow" CR fR "at") (TV : PySem.Tide.TideTxt l.prog K mg "BadValue" CV fV "why")
    (PM : mg "combinations" = some (.type "itertools.combinations"))
    (q0 : AtM K C "go" "Listed.go" sGo)
    (q1 : AtM K C "go_by" "Listed.go_by" sGb)
    (q2 : AtM K C "forget" "Listed.forget" sFg)
    (q3 : AtM K C "place_of" "Listed.place_of" sPl)
    (q4 : AtM K C "found_at" "Listed.found_at" sFa)
    (a0 : At K mg "is_integer" sIsInt)
    (a1 : At K mg "is_number" sIsNum)
    (a2 : At K mg "is_numbers" sIsNums)
    (a3 : At K mg "is_ascending" sIsAsc)
    (a4 : At K mg "_is_command" sCmd)
    (a5 : At K mg "_check_number" sCkNum)
    (a6 : At K mg "_check_row" sCkRow)
    (a7 : At K mg "_check_others" sCkOth)
    (a8 : At K mg "_check" sCk)
    (a9 : At K mg "_is_fate" sFate)
    (a10 : At K mg "_found" sFo)
    (a11 : At K mg "_turned" sTu)
    (a12 : At K mg "_found_by_letters" sFb)
    (a13 : At K mg "_fates" sFt)
    (a14 : At K mg "doubt" sDoubt)
    (a15 : At K mg "turned" sTurned)
    (a16 : At K mg "played" sPlayed)
    (a17 : At K mg "by_number" sBy)
    (a18 : At K mg "_law_cell_at" sCell)
    (a19 : At K mg "_law_well" sWell)
    (a20 : At K mg "_law_draw" sDraw)
    (a21 : At K mg "_law_one" sOne)
    (a22 : At K mg "_law_wishes" sWi)
    (a23 : At K mg "_law_place" sPc)
    (a24 : At K mg "_law_fates" sLf)
    (a25 : At K mg "_law_turned" sLt)
    (a26 : At K mg "_law_by_number" sLb)
    (aL : PySem.W.nsIn K mainGlobals "law" = some (some (.ref f))) (lL : K.lookup f = some ⟨oc, od, .func (PySem.W.fnOf "law" "law" (defArgs sLaw) (defBody sLaw) (defScope sLaw) .none kV dc pm an cdv ct), sl⟩) (cL' : PySem.W.codeIn K cdv "law" = true) (kL : PySem.W.keepIn K (.ref f) = true)
    (hP : ∀ p ∈ ([] : List (Addr × Addr)), h.get? p.2 = some { cls := .none, data := .fields #[] }) (nP : ∀ p ∈ ([] : List (Addr × Addr)), K.lookup p.2 = none) (hC : ∀ p ∈ ([] : List (Addr × Addr)), PySem.W.CodeHd h p.1 p.2) :
    LamX.LawAtS l w K CX0 7 63 "_law_script" mg fa h := by
  have e := hfa.symm.trans (PySem.W.mg_of X G aL)
  cases e
  refine ⟨PySem.W.fnOf "law" "law" (defArgs sLaw) (defBody sLaw) (defScope sLaw) .none kV dc pm an cdv ct, [], spLaw K, hP, nP, hC, fun s u => .of_eq rfl,
    fun H a ns hl _ hH hS => ⟨a, ns, rfl, hS, hl, fun _ => rfl⟩, fun base hb _ hTB => ?_⟩
  have n_is_integer : Def l.prog w K mg base CX0 1 "is_integer" pV (spB1 isInt) := a0.def (fun _ _ _ _ _ _ us hl => by obtain ⟨x0, rfl⟩ := len1 hl; rfl) fun f fd F => ok_isInt T F
  have n_is_number : Def l.prog w K mg base CX0 2 "is_number" pV (spB1 isNum) := a1.def (fun _ _ _ _ _ _ us hl => by obtain ⟨x0, rfl⟩ := len1 hl; rfl) fun f fd F => ok_isNum T n_is_integer F
  have n_is_numbers : Def l.prog w K mg base CX0 3 "is_numbers" pV spIsNums := a2.def (fun _ _ _ _ _ _ us hl => by obtain ⟨x0, rfl⟩ := len1 hl; rfl) fun f fd F => ok_isNums T n_is_number F
  have n_is_ascending : Def l.prog w K mg base CX0 1 "is_ascending" pIsAsc spIsAsc := a3.def (fun _ _ _ _ _ _ us hl => by obtain ⟨x0, rfl⟩ := len1 hl; rfl) fun f fd F => ok_isAsc T F
  have n_is_command : Def l.prog w K mg base CX0 3 "_is_command" pCmd spCmd := a4.def (fun _ _ _ _ _ _ us hl => by obtain ⟨x0, x1, rfl⟩ := len2 hl; rfl) fun f fd F => ok_cmd T n_is_number F
  have n_check_number : Def l.prog w K mg base (L2.CX l.prog w) 3 "_check_number" nCkNum (spCkNum CN) := a5.def (fun _ _ _ _ _ _ us hl => by obtain ⟨x0, rfl⟩ := len1 hl; rfl) fun f fd F => ok_ckNum T Co TN n_is_number F
  have n_check_row : Def l.prog w K mg base (L2.CX l.prog w) 4 "_check_row" pCkRow (spCkRow CR) := a6.def (fun _ _ _ _ _ _ us hl => by obtain ⟨x0, x1, rfl⟩ := len2 hl; rfl) fun f fd F => ok_ckRow T Co TR n_is_command F
  have n_check_others : Def l.prog w K mg base (L2.CX l.prog w) 4 "_check_others" nCkOth (spCkOth CV) := a7.def (fun _ _ _ _ _ _ us hl => by obtain ⟨x0, x1, x2, rfl⟩ := len3 hl; rfl) fun f fd F => ok_ckOth T Co TV n_is_integer n_is_numbers n_is_ascending F
  have n_check : Def l.prog w K mg base (L2.CX l.prog w) 5 "_check" nCk (spCk CN CR CV) := a8.def (fun _ _ _ _ _ _ us hl => by obtain ⟨x0, x1, x2, x3, rfl⟩ := len4 hl; rfl) fun f fd F => ok_ck n_check_number n_check_row n_check_others F
  have n_is_fate : Def l.prog w K mg base CX0 2 "_is_fate" pFate spFate := a9.def (fun _ _ _ _ _ _ us hl => by obtain ⟨x0, x1, x2, x3, rfl⟩ := len4 hl; rfl) fun f fd F => ok_fate T n_is_integer n_is_ascending F
  have dL : MkL l.prog w K mg base C := by
    obtain ⟨f, fd, hm, F⟩ := li
    exact ⟨f, fd, hm, F.binds (fun _ _ _ _ _ _ us hl => by obtain ⟨x0, x1, rfl⟩ := len2 hl; rfl), ok_li T t F⟩
  have n_go : MDef l.prog w K mg base CX0 1 C "go" nGo (spGo C) := q0.mdef (fun _ _ _ _ _ _ us hl => by obtain ⟨x0, x1, rfl⟩ := len2 hl; rfl) fun f fd F => ok_go t F
  have n_go_by : MDef l.prog w K mg base CX0 2 C "go_by" pGb (spGb C) := q1.mdef (fun _ _ _ _ _ _ us hl => by obtain ⟨x0, x1, x2, rfl⟩ := len3 hl; rfl) fun f fd F => ok_gb t n_go F
  have n_forget : MDef l.prog w K mg base CX0 1 C "forget" pFg (spFg C) := q2.mdef (fun _ _ _ _ _ _ us hl => by obtain ⟨x0, rfl⟩ := len1 hl; rfl) fun f fd F => ok_fg t F
  have n_place_of : MDef l.prog w K mg base CX0 1 C "place_of" nGo (spPl C) := q3.mdef (fun _ _ _ _ _ _ us hl => by obtain ⟨x0, x1, rfl⟩ := len2 hl; rfl) fun f fd F => ok_pl t F
  have n_found_at : MDef l.prog w K mg base CX0 1 C "found_at" pFa (spFa C) := q4.mdef (fun _ _ _ _ _ _ us hl => by obtain ⟨x0, x1, rfl⟩ := len2 hl; rfl) fun f fd F => ok_fa T t F
  have n_found : Def l.prog w K mg base CX0 3 "_found" pFo spFo := a10.def (fun _ _ _ _ _ _ us hl => by obtain ⟨x0, x1, x2, rfl⟩ := len3 hl; rfl) fun f fd F => ok_fo T t dL n_go n_go_by n_forget n_found_at F
  have n_turned : Def l.prog w K mg base CX0 3 "_turned" pTu spTu := a11.def (fun _ _ _ _ _ _ us hl => by obtain ⟨x0, x1, rfl⟩ := len2 hl; rfl) fun f fd F => ok_tu T t dL n_go n_forget n_place_of F
  have n_fbl : Def l.prog w K mg base CX0 3 "_found_by_letters" pFb spFb := a12.def (fun _ _ _ _ _ _ us hl => by obtain ⟨x0, x1, x2, x3, rfl⟩ := len4 hl; rfl) fun f fd F => ok_fb T t dL n_go n_go_by n_forget n_found_at F
  have n_fates : Def l.prog w K mg base CX0 1 "_fates" pFt spFt := a13.def (fun _ _ _ _ _ _ us hl => by obtain ⟨x0, x1, x2, rfl⟩ := len3 hl; rfl) fun f fd F => ok_ft T PM F
  have n_doubt : Def l.prog w K mg base (L2.CX l.prog w) 6 "doubt" nCk spDo := a14.def (fun _ _ _ _ _ _ us hl => by obtain ⟨x0, x1, x2, x3, rfl⟩ := len4 hl; rfl) fun f fd F => ok_do T n_check n_fates n_found F
  have n_tg : Def l.prog w K mg base (L2.CX l.prog w) 5 "turned" nTurned spTg := a15.def (fun _ _ _ _ _ _ us hl => by obtain ⟨x0, x1, rfl⟩ := len2 hl; rfl) fun f fd F => ok_tg n_check_number n_check_row n_turned F
  have n_by : Def l.prog w K mg base (L2.CX l.prog w) 5 "by_number" pBy spBy := a17.def (fun _ _ _ _ _ _ us hl => by obtain ⟨x0, x1, x2, x3, rfl⟩ := len4 hl; rfl) fun f fd F => ok_by2 T n_check_number n_check_row n_check_others n_turned n_fates n_fbl F
  have n_pg : Def l.prog w K mg base (L2.CX l.prog w) 6 "played" nPlayed spPg := a16.def (fun _ _ _ _ _ _ us hl => by obtain ⟨x0, x1, x2, x3, x4, rfl⟩ := len5 hl; rfl) fun f fd F => ok_pg n_check n_is_fate n_found F
  have l_cell : Def l.prog w K mg base CX0 1 "_law_cell_at" nCell (spCell K) := a18.def (fun _ _ _ _ _ _ us hl => by obtain ⟨x0, x1, rfl⟩ := len2 hl; rfl) fun f fd F => ok_cell T F
  have l_well : Def l.prog w K mg base CX0 1 "_law_well" nWell spWell := a19.def (fun _ _ _ _ _ _ us hl => by obtain ⟨x0, rfl⟩ := len1 hl; rfl) fun f fd F => ok_well T F
  have l_draw : Def l.prog w K mg base CX0 1 "_law_draw" pDraw spDraw := a20.def (fun _ _ _ _ _ _ us hl => by obtain ⟨x0, x1, rfl⟩ := len2 hl; rfl) fun f fd F => ok_draw T F
  have l_one : Def l.prog w K mg base CX0 2 "_law_one" nOne spOne := a21.def (fun _ _ _ _ _ _ us hl => by obtain ⟨x0, x1, rfl⟩ := len2 hl; rfl) fun f fd F => ok_one T l_draw F
  have l_wishes : Def l.prog w K mg base CX0 3 "_law_wishes" pWi spWi := a22.def (fun _ _ _ _ _ _ us hl => by obtain ⟨x0, x1, rfl⟩ := len2 hl; rfl) fun f fd F => ok_wi T l_draw l_one F
  have l_place : Def l.prog w K mg base CX0 1 "_law_place" pPc spPc := a23.def (fun _ _ _ _ _ _ us hl => by obtain ⟨x0, x1, x2, x3, rfl⟩ := len4 hl; rfl) fun f fd F => ok_pc T F
  have l_fates : Def l.prog w K mg base CX0 1 "_law_fates" pLf spLf := a24.def (fun _ _ _ _ _ _ us hl => by obtain ⟨x0, x1, x2, rfl⟩ := len3 hl; rfl) fun f fd F => ok_lf T F
  have l_turned : Def l.prog w K mg base CX0 2 "_law_turned" pLt spLt := a25.def (fun _ _ _ _ _ _ us hl => by obtain ⟨x0, x1, rfl⟩ := len2 hl; rfl) fun f fd F => ok_lt T l_place F
  have l_by : Def l.prog w K mg base CX0 2 "_law_by_number" pLb spLb := a26.def (fun _ _ _ _ _ _ us hl => by obtain ⟨x0, x1, x2, x3, rfl⟩ := len4 hl; rfl) fun f fd F => ok_lb T l_place F
  have w_tg := def_low (fun _ _ _ _ _ h => h) n_tg
  have w_by := def_low (fun _ _ _ _ _ h => h) n_by
  have w_pg := def_low (fun _ _ _ _ _ h => h) n_pg
  have w_do := def_low (fun _ _ _ _ _ h => h) n_doubt
  exact ok_law T l_cell l_well l_draw l_wishes l_fates l_turned l_by w_tg w_by w_pg w_do (fun_mk lL cL' kL)

theorem walk_tops {l : PySem.W.OpenLaw} {n k : Nat} {q : Program} {loose : List Str} {XP : (Str → Option Value) → Heap → Prop} {YP : World → Heap → Prop} {d : DefRec} {K : Params → PySem.W.Frag} {x : Str}
    (hn : l.most = some n) (hn2 : n ≤ sizeLine) (hdf : d.params.defaults = []) (hr : Room k callerA) (hY : ∀ (w : World) (h : Heap), YP w h → (K w.params).In h)
    (F : ∀ (w : World) (s : Shared) (mg mb : Str → Option Value) (fa : Addr) (h : Heap), (K w.params).In h → YP w h → PyProof.Rows.Top q (PySem.W.looseW q loose) (ExcName.means s.heap) mg mb h → mg d.name = some (.ref fa) → LamX.LawAtS l w (K w.params) CX0 k n x mg fa h) :
    PySem.W.WalkO q loose XP YP l.row.toRowW d [] (fun f vs => PySem.call f vs) := by
  refine Att.attach_callB hn hdf fun w s0 s1 mg mb fa o pm cd doc a vs ns G Y ho hd hcd hmg hobj hints hlen hbits hg => ?_
  have KX := hY w _ Y
  obtain ⟨fd, cs, sp, hT, nT, C, hb, hsp, hF⟩ := F w s0 mg mb fa _ KX Y G.T hmg
  exact LamX.law_callTs KX G.T.g G.T.b G.T.builtins G.T.nolimit hg hT nT C G.T.bmain hobj hints (Nat.le_trans hlen hn2) hr hF hb (fun H hH hS => hsp H a ns hlen hbits hH hS) fun _ _ _ z => z
end K1


open PySem PySem.W PyProof.Rows
set_option Elab.async false
set_option linter.all false
set_option maxRecDepth 100000 in
set_option maxHeartbeats 0 in
theorem PySem.Challenge.cw_mailtide_k29_whole_rows_that_mean_letter_holds : PySem.Challenge.rw_mailtide_k29_whole_rows_that_mean_letter.Holds := by
  w_on; o_law; k_head; (case hw => w_witness2)
  k_fill
  refine K1.walk_tops (l := PySem.Challenge.rw_mailtide_k29_whole_rows_that_mean_letter) (n := 63) (k := 7) (x := "_law_script") rfl (by decide) rfl ⟨rfl, by decide, by decide⟩ (fun w h Y => PySem.W.kIn_of Y) ?F
  intro w s mg mb fa h KX Y G hmg
  refine' K1.all_mk  KX G.g hmg ?T ?Co ?t ?li ?TN ?TR ?TV ?PM ?q0 ?q1 ?q2 ?q3 ?q4 ?a0 ?a1 ?a2 ?a3 ?a4 ?a5 ?a6 ?a7 ?a8 ?a9 ?a10 ?a11 ?a12 ?a13 ?a14 ?a15 ?a16 ?a17 ?a18 ?a19 ?a20 ?a21 ?a22 ?a23 ?a24 ?a25 ?a26 ?aL ?lL ?cL ?kL (fun _ z => nomatch z) (fun _ z => nomatch z) (fun _ z => nomatch z)
  case T =>
    refine' ⟨⟨PySem.W.mg_none_of KX G.g ?z0, PySem.W.mg_none_of KX G.g ?z1, PySem.W.mg_none_of KX G.g ?z2, PySem.W.mg_none_of KX G.g ?z3, PySem.W.mg_none_of KX G.g ?z4, PySem.W.mg_none_of KX G.g ?z5, PySem.W.mg_none_of KX G.g ?z6, PySem.W.mg_none_of KX G.g ?z7, PySem.W.mg_none_of KX G.g ?z8, PySem.W.mg_none_of KX G.g ?z9, PySem.W.mg_none_of KX G.g ?z10, PySem.W.mg_none_of KX G.g ?z11⟩, PySem.W.mg_none_of KX G.g ?z12, PySem.W.mg_none_of KX G.g ?z13⟩
    (case z0 => k_is); (case z1 => k_is); (case z2 => k_is); (case z3 => k_is); (case z4 => k_is); (case z5 => k_is); (case z6 => k_is); (case z7 => k_is); (case z8 => k_is); (case z9 => k_is); (case z10 => k_is); (case z11 => k_is); (case z12 => k_is); (case z13 => k_is)
  case Co =>
    refine' ⟨K1.cs_mk KX G.g ?v0 ?w0, K1.cs_mk KX G.g ?v1 ?w1, K1.cs_mk KX G.g ?v2 ?w2⟩
    (case v0 => k_is); (case w0 => rfl); (case v1 => k_is); (case w1 => rfl); (case v2 => k_is); (case w2 => rfl)
  case t =>
    refine' ⟨⟨?c0, ?c1, ?c2, ?c3⟩, PySem.W.mg_of KX G.g ?c4, ?n0, ?n1⟩
    (case c4 => k_is); (case c0 => k_is); (case c1 => k_is); (case c2 => k_is); (case c3 => k_is)
    (case n0 => show PySem.W.findIn _ _ _ = some none; k_is); (case n1 => show PySem.W.findIn _ _ _ = some none; k_is)
  case li =>
    refine' K1.li_mk ⟨?e0, ?e1, ?e2, ?e3⟩ ?l ?c ?k
    (case e0 => k_is); (case e1 => k_is); (case e2 => k_is); (case e3 => k_is)
    (case l => k_is); (case c => k_is); (case k => k_is)
  case PM =>
    refine' PySem.W.mg_of KX G.g ?pm0
    (case pm0 => k_is)
  case TN =>
    refine' K1.tide_mk (tx := "no number that can stand here") (j := 0) (p1 := ⟨7, 17, 7, 21⟩) (p2 := ⟨7, 23, 7, 28⟩) (q1 := ⟨8, 8, 8, 13⟩) (q2 := ⟨8, 8, 8, 15⟩) (q3 := ⟨8, 8, 8, 24⟩) (q4 := ⟨8, 25, 8, 56⟩) (q5 := ⟨8, 8, 8, 57⟩) (q6 := ⟨8, 8, 8, 57⟩) (q7 := ⟨9, 8, 9, 12⟩) (q8 := ⟨9, 8, 9, 18⟩) (q9 := ⟨9, 21, 9, 26⟩) (q10 := ⟨9, 8, 9, 26⟩) KX G.g PySem.Tide.ok_value ⟨_, fun env => by rfl⟩ (by decide +kernel) ?tnaC ?tnxL ?tnbm ?tnsa ?tnga ?tngg ?tnnb ?tna1 ?tnt1 ?tnl1 ?tnc1 ?tnn1 ?tnn2 ?tnn3 ?tnn4 ?tnkC ?tneC ?tntC ?tnhC ?tniC ?tnsC ?tnsu ?tnvC ?tnmC ?tntpa ?tnns
    (case tnaC => k_is)
    (case tnxL => k_is)
    (case tnbm => decide +kernel)
    (case tnsa => k_is)
    (case tnga => k_is)
    (case tngg => k_is)
    (case tnnb => k_is)
    (case tna1 => k_is)
    (case tnt1 => k_is)
    (case tnl1 => k_is)
    (case tnc1 => k_is)
    (case tnn1 => k_is)
    (case tnn2 => rfl)
    (case tnn3 => decide +kernel)
    (case tnn4 => k_is)
    (case tnkC => k_is)
    (case tneC => k_is)
    (case tntC => k_is)
    (case tnhC => k_is)
    (case tniC => k_is)
    (case tnsC => k_is)
    (case tnsu => ks_is)
    (case tnvC => k_is)
    (case tnmC => k_is)
    (case tntpa => k_is)
    (case tnns => k_is)
  case TR =>
    refine' K1.tide_mk (tx := "a row with a wrong item, or no row") (j := 0) (p1 := ⟨12, 17, 12, 21⟩) (p2 := ⟨12, 23, 12, 25⟩) (q1 := ⟨13, 8, 13, 13⟩) (q2 := ⟨13, 8, 13, 15⟩) (q3 := ⟨13, 8, 13, 24⟩) (q4 := ⟨13, 25, 13, 61⟩) (q5 := ⟨13, 8, 13, 62⟩) (q6 := ⟨13, 8, 13, 62⟩) (q7 := ⟨14, 8, 14, 12⟩) (q8 := ⟨14, 8, 14, 15⟩) (q9 := ⟨14, 18, 14, 20⟩) (q10 := ⟨14, 8, 14, 20⟩) KX G.g PySem.Tide.ok_at ⟨_, fun env => by rfl⟩ (by decide +kernel) ?traC ?trxL ?trbm ?trsa ?trga ?trgg ?trnb ?tra1 ?trt1 ?trl1 ?trc1 ?trn1 ?trn2 ?trn3 ?trn4 ?trkC ?treC ?trtC ?trhC ?triC ?trsC ?trsu ?trvC ?trmC ?trtpa ?trns
    (case traC => k_is)
    (case trxL => k_is)
    (case trbm => decide +kernel)
    (case trsa => k_is)
    (case trga => k_is)
    (case trgg => k_is)
    (case trnb => k_is)
    (case tra1 => k_is)
    (case trt1 => k_is)
    (case trl1 => k_is)
    (case trc1 => k_is)
    (case trn1 => k_is)
    (case trn2 => rfl)
    (case trn3 => decide +kernel)
    (case trn4 => k_is)
    (case trkC => k_is)
    (case treC => k_is)
    (case trtC => k_is)
    (case trhC => k_is)
    (case triC => k_is)
    (case trsC => k_is)
    (case trsu => ks_is)
    (case trvC => k_is)
    (case trmC => k_is)
    (case trtpa => k_is)
    (case trns => k_is)
  case TV =>
    refine' K1.tide_mk (tx := "a wrong value") (j := 0) (p1 := ⟨17, 17, 17, 21⟩) (p2 := ⟨17, 23, 17, 26⟩) (q1 := ⟨18, 8, 18, 13⟩) (q2 := ⟨18, 8, 18, 15⟩) (q3 := ⟨18, 8, 18, 24⟩) (q4 := ⟨18, 25, 18, 40⟩) (q5 := ⟨18, 8, 18, 41⟩) (q6 := ⟨18, 8, 18, 41⟩) (q7 := ⟨19, 8, 19, 12⟩) (q8 := ⟨19, 8, 19, 16⟩) (q9 := ⟨19, 19, 19, 22⟩) (q10 := ⟨19, 8, 19, 22⟩) KX G.g PySem.Tide.ok_why ⟨_, fun env => by rfl⟩ (by decide +kernel) ?tvaC ?tvxL ?tvbm ?tvsa ?tvga ?tvgg ?tvnb ?tva1 ?tvt1 ?tvl1 ?tvc1 ?tvn1 ?tvn2 ?tvn3 ?tvn4 ?tvkC ?tveC ?tvtC ?tvhC ?tviC ?tvsC ?tvsu ?tvvC ?tvmC ?tvtpa ?tvns
    (case tvaC => k_is)
    (case tvxL => k_is)
    (case tvbm => decide +kernel)
    (case tvsa => k_is)
    (case tvga => k_is)
    (case tvgg => k_is)
    (case tvnb => k_is)
    (case tva1 => k_is)
    (case tvt1 => k_is)
    (case tvl1 => k_is)
    (case tvc1 => k_is)
    (case tvn1 => k_is)
    (case tvn2 => rfl)
    (case tvn3 => decide +kernel)
    (case tvn4 => k_is)
    (case tvkC => k_is)
    (case tveC => k_is)
    (case tvtC => k_is)
    (case tvhC => k_is)
    (case tviC => k_is)
    (case tvsC => k_is)
    (case tvsu => ks_is)
    (case tvvC => k_is)
    (case tvmC => k_is)
    (case tvtpa => k_is)
    (case tvns => k_is)
  case q0 =>
    refine' K1.atM_mk ?b ?n ?l ?c ?k
    (case b => k_is); (case n => k_is); (case l => k_is); (case c => k_is); (case k => k_is)
  case q1 =>
    refine' K1.atM_mk ?b ?n ?l ?c ?k
    (case b => k_is); (case n => k_is); (case l => k_is); (case c => k_is); (case k => k_is)
  case q2 =>
    refine' K1.atM_mk ?b ?n ?l ?c ?k
    (case b => k_is); (case n => k_is); (case l => k_is); (case c => k_is); (case k => k_is)
  case q3 =>
    refine' K1.atM_mk ?b ?n ?l ?c ?k
    (case b => k_is); (case n => k_is); (case l => k_is); (case c => k_is); (case k => k_is)
  case q4 =>
    refine' K1.atM_mk ?b ?n ?l ?c ?k
    (case b => k_is); (case n => k_is); (case l => k_is); (case c => k_is); (case k => k_is)
  case a0 =>
    refine' K1.at_mk KX G.g ?b ?l ?c ?k
    (case b => k_is); (case l => k_is); (case c => k_is); (case k => k_is)
  case a1 =>
    refine' K1.at_mk KX G.g ?b ?l ?c ?k
    (case b => k_is); (case l => k_is); (case c => k_is); (case k => k_is)
  case a2 =>
    refine' K1.at_mk KX G.g ?b ?l ?c ?k
    (case b => k_is); (case l => k_is); (case c => k_is); (case k => k_is)
  case a3 =>
    refine' K1.at_mk KX G.g ?b ?l ?c ?k
    (case b => k_is); (case l => k_is); (case c => k_is); (case k => k_is)
  case a4 =>
    refine' K1.at_mk KX G.g ?b ?l ?c ?k
    (case b => k_is); (case l => k_is); (case c => k_is); (case k => k_is)
  case a5 =>
    refine' K1.at_mk KX G.g ?b ?l ?c ?k
    (case b => k_is); (case l => k_is); (case c => k_is); (case k => k_is)
  case a6 =>
    refine' K1.at_mk KX G.g ?b ?l ?c ?k
    (case b => k_is); (case l => k_is); (case c => k_is); (case k => k_is)
  case a7 =>
    refine' K1.at_mk KX G.g ?b ?l ?c ?k
    (case b => k_is); (case l => k_is); (case c => k_is); (case k => k_is)
  case a8 =>
    refine' K1.at_mk KX G.g ?b ?l ?c ?k
    (case b => k_is); (case l => k_is); (case c => k_is); (case k => k_is)
  case a9 =>
    refine' K1.at_mk KX G.g ?b ?l ?c ?k
    (case b => k_is); (case l => k_is); (case c => k_is); (case k => k_is)
  case a10 =>
    refine' K1.at_mk KX G.g ?b ?l ?c ?k
    (case b => k_is); (case l => k_is); (case c => k_is); (case k => k_is)
  case a11 =>
    refine' K1.at_mk KX G.g ?b ?l ?c ?k
    (case b => k_is); (case l => k_is); (case c => k_is); (case k => k_is)
  case a12 =>
    refine' K1.at_mk KX G.g ?b ?l ?c ?k
    (case b => k_is); (case l => k_is); (case c => k_is); (case k => k_is)
  case a13 =>
    refine' K1.at_mk KX G.g ?b ?l ?c ?k
    (case b => k_is); (case l => k_is); (case c => k_is); (case k => k_is)
  case a14 =>
    refine' K1.at_mk KX G.g ?b ?l ?c ?k
    (case b => k_is); (case l => k_is); (case c => k_is); (case k => k_is)
  case a15 =>
    refine' K1.at_mk KX G.g ?b ?l ?c ?k
    (case b => k_is); (case l => k_is); (case c => k_is); (case k => k_is)
  case a16 =>
    refine' K1.at_mk KX G.g ?b ?l ?c ?k
    (case b => k_is); (case l => k_is); (case c => k_is); (case k => k_is)
  case a17 =>
    refine' K1.at_mk KX G.g ?b ?l ?c ?k
    (case b => k_is); (case l => k_is); (case c => k_is); (case k => k_is)
  case a18 =>
    refine' K1.at_mk KX G.g ?b ?l ?c ?k
    (case b => k_is); (case l => k_is); (case c => k_is); (case k => k_is)
  case a19 =>
    refine' K1.at_mk KX G.g ?b ?l ?c ?k
    (case b => k_is); (case l => k_is); (case c => k_is); (case k => k_is)
  case a20 =>
    refine' K1.at_mk KX G.g ?b ?l ?c ?k
    (case b => k_is); (case l => k_is); (case c => k_is); (case k => k_is)
  case a21 =>
    refine' K1.at_mk KX G.g ?b ?l ?c ?k
    (case b => k_is); (case l => k_is); (case c => k_is); (case k => k_is)
  case a22 =>
    refine' K1.at_mk KX G.g ?b ?l ?c ?k
    (case b => k_is); (case l => k_is); (case c => k_is); (case k => k_is)
  case a23 =>
    refine' K1.at_mk KX G.g ?b ?l ?c ?k
    (case b => k_is); (case l => k_is); (case c => k_is); (case k => k_is)
  case a24 =>
    refine' K1.at_mk KX G.g ?b ?l ?c ?k
    (case b => k_is); (case l => k_is); (case c => k_is); (case k => k_is)
  case a25 =>
    refine' K1.at_mk KX G.g ?b ?l ?c ?k
    (case b => k_is); (case l => k_is); (case c => k_is); (case k => k_is)
  case a26 =>
    refine' K1.at_mk KX G.g ?b ?l ?c ?k
    (case b => k_is); (case l => k_is); (case c => k_is); (case k => k_is)
  (case aL => k_is); (case lL => k_is); (case cL => k_is); (case kL => k_is)

