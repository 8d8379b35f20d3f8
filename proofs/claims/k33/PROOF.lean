import PyProof.Rows.All
import Wide.All
import OpenK.AllK
import Wide.FinOn
import PySem.Challenge.RW_mailtide_k33_copies_without_a_line
import HandS.ForMost
import HandS.Exc
import HandS.TryOnly
import HandS.TryMany
import HandS.Lambda
import HandS.EndTab
import HandS.IsInst
import HandS.SortRule
import HandS.SortInts
import HandS.StrMore
import HandS.Conv
import HandS.Wide
import HandS.Flow
import HandS.Walk
import HandS.TupAny
import HandS.ListEq
import HandS.DeepEq
import KE.KExcSuper
import KE.GoesMore
import PyProof.Draws
import HandS.ForExc
import HandS.Zip
import HandS.Strs
import HandS.SetFor
import HandS.Star
import HandS.SortKw
import HandS.Deep
import KE.DataMinMax
import KE.DatumOrd
import PyProof.P3In
import PyProof.Rows.SetFrom
import HandS.Codes
import HandS.OwnEq
import PyProof.NeKinds
import HandS.Defaults
import HandS.Small
import HandS.Style
import HandS.Dict
set_option Elab.async false
set_option linter.all false
set_option maxRecDepth 100000
namespace K1
open PySem PySem.Spec PyProof.Rows L2
def topS (i : Nat) : Stmt := PySem.Challenge.pw_mailtide_k33_copies_without_a_line.main.body.getD i (.Pass ⟨0, 0, 0, 0⟩)
abbrev st__wall : Stmt := topS 0
abbrev st_TideError : Stmt := topS 2
abbrev st_BadFolder : Stmt := topS 3
abbrev st_BadNumber : Stmt := topS 4
abbrev st_BadSigns : Stmt := topS 5
abbrev st_BadDeed : Stmt := topS 6
abbrev st_BadCopy : Stmt := topS 7
abbrev st_BadValue : Stmt := topS 8
abbrev st_is_integer : Stmt := topS 12
abbrev st_is_number : Stmt := topS 13
abbrev st_is_body : Stmt := topS 14
abbrev st_is_mark : Stmt := topS 15
abbrev st_is_sign : Stmt := topS 16
abbrev st_is_signs : Stmt := topS 17
abbrev st_is_numbers : Stmt := topS 18
abbrev st_is_ascending : Stmt := topS 19
abbrev st_Folder : Stmt := topS 21
abbrev st__check_numbers : Stmt := topS 22
abbrev st__with_sign : Stmt := topS 23
abbrev st__without_sign : Stmt := topS 24
abbrev st_played : Stmt := topS 26
abbrev st_is_deed : Stmt := topS 27
abbrev st_can_be_done : Stmt := topS 28
abbrev st_done : Stmt := topS 29
abbrev st_Copy : Stmt := topS 31
abbrev st_copy_of : Stmt := topS 32
abbrev st__check_folder : Stmt := topS 33
abbrev st__are_letters : Stmt := topS 34
abbrev st__are_made : Stmt := topS 35
abbrev st__law_cell_at : Stmt := topS 37
abbrev st__law_mixed : Stmt := topS 38
abbrev st__law_source : Stmt := topS 39
abbrev st__law_next : Stmt := topS 40
abbrev st__law_one : Stmt := topS 41
abbrev st__law_signs : Stmt := topS 42
abbrev st__law_deed : Stmt := topS 43
abbrev st__law_folder : Stmt := topS 44
abbrev st__law_unlike_ones : Stmt := topS 45
abbrev st__law_apart_right : Stmt := topS 46
abbrev st__law_right : Stmt := topS 47
abbrev st_law : Stmt := topS 48
end K1


set_option Elab.async false
set_option linter.all false
set_option maxRecDepth 100000
set_option maxHeartbeats 4000000
namespace K1
open PySem PySem.Spec PyProof.Rows L2
/-! ### a def by its name -/
structure Def (P : Program) (w : World) (K : PySem.W.Frag) (mg : Str → Option Value) (base : Heap) (CX : CXT) (k : Nat) (x : Str) (ps : List Str) (sp : Sp) : Prop where
  ex : ∃ (f : Addr) (fd : FuncData), mg x = some (.ref f) ∧ PySem.W.keepIn K (.ref f) = true ∧ Binds K fd ps [] ∧ FnOk P w K mg base CX k f fd ps sp
section
variable {X : Cx} {CX : CXT} {k : Nat} {ps : List Str} {sp : Sp} {E : XK} {x : Str} {p pos : Pos} {e : Expr} {es : List Expr} {t : TA}
theorem pe_def (D : Def X.prog X.w X.K X.mg X.base CX k x ps sp) (hr : Room k X.A) (hg : Gl X x) (hx : Passes CX X E)
    (ha : PA X (e :: es) t) (hdb : (x == ("__debug__" : Str)) = false := by decide) (he : starEach (e :: es) X.env = (false, eval e X.env) :: starEach es X.env := by rfl) (hpl : (backTo pos (starEach es X.env)).any (·.1) = false := by rfl) :
    PE X (.Call (.Name x p) (e :: es) [] pos) (tCall sp [] E t) := by
  obtain ⟨f, fd, hm, hk, hb, F⟩ := D.ex
  exact pe_call F hr hg hm hk hb .nil hx ha hdb he hpl
theorem pe_def0 (D : Def X.prog X.w X.K X.mg X.base CX k x ps sp) (hr : Room k X.A) (hg : Gl X x) (hx : Passes CX X E)
    (hdb : (x == ("__debug__" : Str)) = false := by decide) : PE X (.Call (.Name x p) [] [] pos) (tCall sp [] E tNil) := by
  obtain ⟨f, fd, hm, hk, hb, F⟩ := D.ex
  exact pe_call0 F hr hg hm hk hb .nil hx hdb
end
/-! ### heaps: all that is tracked but p stays -/
def Ext (p : Addr) (H H' : Hp) : Prop := ∀ b o, b ≠ p → H b = some o → H' b = some o
theorem Ext.refl {p : Addr} (H : Hp) : Ext p H H := fun _ _ _ h => h
theorem Ext.trans {p : Addr} {H H1 H2 : Hp} (a : Ext p H H1) (b : Ext p H1 H2) : Ext p H H2 := fun c o n h => b c o n (a c o n h)
theorem Ext.self {p : Addr} {H H' : Hp} {o : HO} (a : Ext p H H') : Ext p H (upd H' p o) := fun c u n h => by rw [upd_ne n]; exact a c u n h
theorem Ext.new {p q : Addr} {H H' : Hp} {o : HO} (a : Ext p H H') (h : H' q = none) : Ext p H (upd H' q o) := fun c u n e => by
  have e' := a c u n e
  rw [upd_ne (ne_of_none e' h)]; exact e'
theorem Ext.mut {p q : Addr} {H H' : Hp} {o : HO} (a : Ext p H H') (h : H q = none) : Ext p H (upd H' q o) := fun c u n e => by
  rw [upd_ne (ne_of_none e h)]; exact a c u n e
theorem Ext.free {p q : Addr} {H H' : Hp} (a : Ext p H H') (h : H' q = none) (n : q ≠ p) : H q = none := by
  cases e : H q with
  | none => rfl
  | some o => rw [a q o n e] at h; cases h
theorem same_ext {p : Addr} {H H' : Hp} (a : Same H H') : Ext p H H' := fun b o _ h => a b o h
theorem same_new {q : Addr} {H : Hp} {o : HO} (h : H q = none) : Same H (upd H q o) := fun c u e => by
  rw [upd_ne (ne_of_none e h)]; exact e
theorem _root_.L2.Same.new {q : Addr} {H H' : Hp} {o : HO} (a : Same H H') (h : H' q = none) : Same H (upd H' q o) := a.trans (same_new h)
theorem _root_.L2.Same.mut {q : Addr} {H H' : Hp} {o : HO} (a : Same H H') (h : H q = none) : Same H (upd H' q o) := fun c u e => by
  rw [upd_ne (ne_of_none e h)]; exact a c u e
theorem lt1 (n : Nat) (h : n ≤ 100000) : n ≤ sizeLine := Nat.le_trans h (by decide)
theorem lt2 (n : Nat) (h : n ≤ 100000) : n < sizeLine := Nat.lt_of_le_of_lt h (by decide)
/-- a well: three ints -/
def WellAt (H : Hp) (p : Addr) : Prop := ∃ c m t : Int, H p = some (.lst [.int c, .int m, .int t])
theorem WellAt.new {H : Hp} {p q : Addr} {o : HO} (w : WellAt H p) (h : H q = none) : WellAt (upd H q o) p := by
  obtain ⟨c, m, t, e⟩ := w
  exact ⟨c, m, t, by rw [upd_ne (ne_of_none e h)]; exact e⟩
theorem WellAt.ne {H : Hp} {p q : Addr} (w : WellAt H p) (h : H q = none) : q ≠ p := by
  obtain ⟨c, m, t, e⟩ := w
  exact (ne_of_none e h).symm
theorem WellAt.upd {H : Hp} {p q : Addr} {o : HO} (w : WellAt H p) (h : q ≠ p) : WellAt (upd H q o) p := by
  obtain ⟨c, m, t, e⟩ := w
  exact ⟨c, m, t, by rw [upd_ne h.symm]; exact e⟩
theorem sq {K : PySem.W.Frag} {H : Hp} {a : Addr} {xs : List V} (h : H a = some (.lst xs)) : SqL K H a xs := .inl (.inl h)
theorem st {K : PySem.W.Frag} {H : Hp} {a : Addr} {xs : List V} (h : H a = some (.tup xs)) : SqT K H a xs := .inl (.inl h)
/-- names that the top leaves to the built-ins -/
structure Bi (mg : Str → Option Value) : Prop where
  int : mg "int" = none
  len : mg "len" = none
  str : mg "str" = none
  range : mg "range" = none
  max : mg "max" = none
  min : mg "min" = none
  sorted : mg "sorted" = none
  tuple : mg "tuple" = none
  list : mg "list" = none
  enumerate : mg "enumerate" = none
  isinstance : mg "isinstance" = none
  bool : mg "bool" = none
end K1
namespace K1
open PySem PySem.Spec PyProof.Rows L2
/-- a def of the text stands at its name -/
def At (K : PySem.W.Frag) (mg : Str → Option Value) (x : Str) (st : Stmt) : Prop := ∃ (f : Addr) (fd : FuncData), mg x = some (.ref f) ∧ Fun K x x st f fd
theorem At.def {P : Program} {w : World} {K : PySem.W.Frag} {mg : Str → Option Value} {base : Heap} {CX : CXT} {k : Nat} {x : Str} {ps : List Str} {sp : Sp} {st : Stmt} (a : At K mg x st)
    (hb : ∀ (kV doc pm : Value) (an : Option Addr) (cdv ct : Value) (us : List Value), us.length = ps.length → bindArgs (PySem.W.fnOf x x (defArgs st) (defBody st) (defScope st) .none kV doc pm an cdv ct) ⟨us, []⟩ = pure (ps.zip us))
    (h : ∀ f fd, Fun K x x st f fd → FnOk P w K mg base CX k f fd ps sp) : Def P w K mg base CX k x ps sp := by
  obtain ⟨f, fd, hm, F⟩ := a
  exact ⟨f, fd, hm, F.kp, F.binds hb, h f fd F⟩
end K1
namespace K1
open PySem PySem.Spec PyProof.Rows L2
def G : Int := 999999999999999999999999999999
/-- numbers that are there -/
structure There (ns : List Int) : Prop where
  asc : ns.Pairwise (· < ·)
  rng : ∀ n ∈ ns, 1 ≤ n ∧ n ≤ G
  len : ns.length ≤ 200
theorem getD_map {ns : List Int} {i : Nat} {y : V} (h : (ns.map V.int)[i]? = some y) : ∃ z, ns[i]? = some z ∧ y = .int z := by
  rw [List.getElem?_map] at h
  cases e : ns[i]? with
  | none => rw [e] at h; cases h
  | some z => rw [e] at h; exact ⟨z, rfl, (Option.some.inj h).symm⟩
theorem take_more {α : Type} {l : List α} {i : Nat} {x : α} (h : l[i]? = some x) : l.take (i + 1) = l.take i ++ [x] := by
  rw [List.take_add_one, h]; rfl
theorem lt_of_get {α : Type} {l : List α} {i : Nat} {x : α} (h : l[i]? = some x) : i < l.length := (List.getElem?_eq_some_iff.mp h).1
end K1
namespace K1
open PySem PySem.Spec PyProof.Rows L2
/-- a comprehension without a test -/
theorem tyes {σ : L2.St} {H : Hp} {A B : Hp → Prop} (h : A H) : tYes σ H (fun b H3 => if b = true then A H3 else B H3) := by
  show (if true = true then A H else B H)
  rw [if_pos rfl]
  exact h
/-- a test whose answer is known -/
theorem itbT {c : Bool} {A B : Prop} (hc : c = true) (h : A) : if c = true then A else B := by
  rw [if_pos hc]
  exact h
theorem itbF {c : Bool} {A B : Prop} (hc : c = false) (h : B) : if c = true then A else B := by
  rw [hc, if_neg Bool.false_ne_true]
  exact h
end K1
namespace K1
open PySem PySem.Spec PyProof.Rows L2
/-! ### rules with the written part by its name (for blocks) -/
section
variable {X : Cx} {K : PySem.W.Frag}
theorem call_lenK (h : X.K = K) : CallR X (.builtin "len") (fun xs H Q => ∃ p ys, xs = [.ref p] ∧ (SqL K H p ys ∨ SqT K H p ys) ∧ Q (.int ys.length) H) := by
  subst h; exact call_len_seq
theorem ix_listK (h : X.K = K) : IxR X (rIxL K) := by subst h; exact ix_list
theorem ix_tupK (h : X.K = K) : IxR X (rIxT K) := by subst h; exact ix_tup
theorem op_in_seqK (h : X.K = K) : OpR X (compareOp .In) (rIn K false) := by subst h; exact op_in_seq
theorem op_notIn_seqK (h : X.K = K) : OpR X (compareOp .NotIn) (rIn K true) := by subst h; exact op_notIn_seq
theorem op_eqDK (h : X.K = K) (hu : X.A.units + 64 < cLine) : OpR X (compareOp .Eq) (rEqD K) := by subst h; exact op_eqD hu
theorem op_neDK (h : X.K = K) (hu : X.A.units + 64 < cLine) : OpR X (compareOp .NotEq) (rNeD K) := by subst h; exact op_neD hu
theorem pi_listK {tg l : Expr} {tl : TE} (h : X.K = K) (hl : PE X l tl) : PI X tg l (iList K tl) := by subst h; exact pi_list hl
theorem pi_tupK {tg l : Expr} {tl : TE} (h : X.K = K) (hl : PE X l tl) : PI X tg l (iTup K tl) := by subst h; exact pi_tup hl
theorem call_list_ofK (h : X.K = K) : CallR X (.type "list") (fun xs H Q => ∃ p ys, xs = [.ref p] ∧ (SqL K H p ys ∨ SqT K H p ys) ∧ ∀ l, H l = none → Q (.ref l) (upd H l (.lst ys))) := by
  subst h; exact call_list_of
theorem call_tuple_ofK (h : X.K = K) : CallR X (.type "tuple") (fun xs H Q => ∃ p ys, xs = [.ref p] ∧ ((SqL K H p ys ∧ ∀ l, H l = none → Q (.ref l) (upd H l (.tup ys))) ∨ (SqT K H p ys ∧ Q (.ref p) H))) := by
  subst h; exact call_tuple_of
theorem pe_joinK {o e : Expr} {to te : TE} {apos pos : Pos} (h : X.K = K) (ho : PE X o to) (he : PE X e te) (hs : starEach [e] X.env = [(false, eval e X.env)] := by rfl) (hbase : attributeBase o "join" X.env (eval o X.env) = eval o X.env := by rfl) (hline : (apos.endLine == pos.line) = true := by rfl) :
    PE X (.Call (.Attribute o "join" apos) [e] [] pos) (tM1 (fun x xs H Q => ∃ a p, ∃ ys : List Str, x = .str a ∧ xs = [.ref p] ∧ (SqL K H p (ys.map V.str) ∨ SqT K H p (ys.map V.str)) ∧
      (ys.map (·.length)).sum + ys.length * a.length ≤ 16777216 ∧ Q (.str (Txt.join a ys)) H) to te) := by
  subst h; exact pe_join ho he hs hbase hline
end
end K1
namespace K1
open PySem PySem.Spec PyProof.Rows L2
section
variable {X : Cx} {K : PySem.W.Frag}
theorem cr_minK (h : X.K = K) (hc : X.calm = true) : CallR X (.builtin "min") (rMin K) := by subst h; exact cr_min hc
theorem cr_maxK (h : X.K = K) (hc : X.calm = true) : CallR X (.builtin "max") (rMax K) := by subst h; exact cr_max hc
end
/-! ### data that are compared -/
theorem dp_ints {K : PySem.W.Frag} {H : Hp} : ∀ ns : List Int, DpAll K H (ns.map V.int) (ns.map PyData.int)
  | [] => .nil
  | n :: r => .cons (.int n) (dp_ints r)
theorem dp_list {K : PySem.W.Frag} {H : Hp} {a : Addr} {ns : List Int} (h : SqL K H a (ns.map V.int)) : Dp K H (.ref a) (.list (ns.map PyData.int)) := .lst h (dp_ints ns)
theorem lay_ints : ∀ ns : List Int, PyData.canLayAll0 (ns.map PyData.int) = true
  | [] => by rfl
  | n :: r => by
    show (PyData.canLay0 (.int n) && PyData.canLayAll0 (r.map PyData.int)) = true
    rw [lay_ints r]; rfl
theorem depth_ints : ∀ ns : List Int, PyData.depthAll (ns.map PyData.int) = 0
  | [] => by rfl
  | n :: r => by
    show max (PyData.depth (.int n)) (PyData.depthAll (r.map PyData.int)) = 0
    rw [depth_ints r]; rfl
theorem shaped_ints (ns : List Int) : SeqAt.shaped (.list (ns.map PyData.int)) = true := by
  unfold SeqAt.shaped
  have h1 : PyData.canLay0 (.list (ns.map PyData.int)) = true := lay_ints ns
  have h2 : PyData.depth (.list (ns.map PyData.int)) = 1 := by
    show PyData.depthAll (ns.map PyData.int) + 1 = 1
    rw [depth_ints]
  rw [h1, h2]; rfl
theorem eqv_ints : ∀ xs ys : List Int, PyData.eqv (.list (xs.map PyData.int)) (.list (ys.map PyData.int)) = decide (xs = ys) := by
  have h : ∀ xs ys : List Int, PyData.eqvAll (xs.map PyData.int) (ys.map PyData.int) = decide (xs = ys) := by
    intro xs
    induction xs with
    | nil => intro ys; cases ys <;> simp [PyData.eqvAll]
    | cons x r ih =>
      intro ys
      cases ys with
      | nil => simp [PyData.eqvAll]
      | cons y t =>
        show (PyData.eqv (.int x) (.int y) && PyData.eqvAll (r.map PyData.int) (t.map PyData.int)) = decide (x :: r = y :: t)
        rw [ih, show PyData.eqv (.int x) (.int y) = (x == y) by simp [PyData.eqv]]
        by_cases e : x = y <;> by_cases e2 : r = t <;> simp [e, e2]
  intro xs ys
  show PyData.eqvAll (xs.map PyData.int) (ys.map PyData.int) = _
  exact h xs ys
theorem inV_ints (n : Int) : ∀ ns : List Int, inV (.int n) (ns.map V.int) = decide (n ∈ ns)
  | [] => by simp [inV]
  | m :: r => by
    have ih := inV_ints n r
    unfold inV at ih ⊢
    rw [List.map_cons, List.any_cons, ih]
    by_cases e : m = n
    · subst e; simp [eqV]
    · have e' : ¬ n = m := fun h => e h.symm
      simp [eqV, e, e']
theorem flat_ints : ∀ ns : List Int, (ns.map V.int).all flatV = true
  | [] => rfl
  | m :: r => by rw [List.map_cons, List.all_cons, flat_ints r]; rfl
/-- a list by a filter -/
def FiltBy (ns : List Int) (P : Int → Prop) (rs : List Int) : Prop := ∃ p : Int → Bool, (∀ n ∈ ns, (p n = true ↔ P n)) ∧ rs = ns.filter p
theorem FiltBy.eq {ns rs ts : List Int} {P R : Int → Prop} (h1 : FiltBy ns P rs) (h2 : FiltBy ns R ts) (h : ∀ n ∈ ns, (P n ↔ R n)) : rs = ts := by
  obtain ⟨p, hp, rfl⟩ := h1
  obtain ⟨q, hq, rfl⟩ := h2
  refine List.filter_congr fun n hn => ?_
  have a := hp n hn
  have b := hq n hn
  have c := h n hn
  cases e : p n <;> cases e2 : q n <;> simp_all
end K1


set_option Elab.async false
set_option linter.all false
set_option maxRecDepth 100000
set_option maxHeartbeats 4000000
/-! Own errors below an own error below ValueError, whose __init__ says super().__init__(a text) and then stores its one argument. -/
namespace PySem
namespace Tide
open PySem.W PySem.Calls PyProof.Rows PySem.HandSPX
def iA (fl : Str) (p1 p2 : Pos) : Arguments := { posonlyargs := [], args := [{ arg := "self", annotation := none, pos := p1 }, { arg := fl, annotation := none, pos := p2 }], vararg := none, kwonlyargs := [], kw_defaults := [], kwarg := none, defaults := [] }
def iB (fl tx : Str) (j : Nat) (q1 q2 q3 q4 q5 q6 q7 q8 q9 q10 : Pos) : List Stmt :=
  [.Expr (.Call (.Attribute (.Call (.Name "super" q1) [] [] q2) "__init__" q3) [.Constant (.str tx) j q4] [] q5) q6, .Assign [.Attribute (.Name "self" q7) fl q8] (.Name fl q9) q10]
def iS (fl : Str) : Scope := { kind := .function, names := [(PySem.Str.ofString "self", .local), (fl, .local), (PySem.Str.ofString "__class__", .free), (PySem.Str.ofString "super", .globalImplicit)], isGenerator := false, isCoroutine := false, more := [] }
/-- how the call of super().__init__ is run (shown at the text's own places) -/
def CallIs (tx : Str) (j : Nat) (q1 q2 q3 q4 q5 : Pos) : Prop := ∃ pl : Sem Bool, ∀ env : Env, eval (.Call (.Attribute (.Call (.Name "super" q1) [] [] q2) "__init__" q3) [.Constant (.str tx) j q4] [] q5) env = (do
      let ov ← attributeBase (.Call (.Name "super" q1) [] [] q2) "__init__" env (eval (.Call (.Name "super" q1) [] [] q2) env)
      standAt q3.atName
      let (f, first) ← holding [ov] (getMethod ov "__init__" pl)
      callWith q5 f first (backTo q5 (starEach [.Constant (.str tx) j q4] env)) [])
example : CallIs "no set text" 0 ⟨7, 8, 7, 13⟩ ⟨7, 8, 7, 15⟩ ⟨7, 8, 7, 24⟩ ⟨7, 25, 7, 38⟩ ⟨7, 8, 7, 39⟩ := ⟨_, fun env => by rfl⟩
/-- the fields' names -/
def FlOk (fl : Str) : Prop := ¬ fl = ("self" : Str) ∧ ¬ fl = ("__class__" : Str) ∧ ¬ fl = ("super" : Str) ∧ (fl == ("__debug__" : Str)) = false ∧
  ∀ (qual : Str) (body : List Stmt) (p1 p2 : Pos) (doc pm ct cd : Value) (an : Option Addr) (cc : Addr) (a b : Value), bindArgs (ksFn "__init__" qual (iA fl p1 p2) body (iS fl) .none .none doc pm an cd ct cc) ⟨[a, b], []⟩ = pure [(("self" : Str), a), (fl, b)]
theorem ok_value : FlOk "value" := ⟨by decide +kernel, by decide +kernel, by decide +kernel, by decide +kernel, fun _ _ _ _ _ _ _ _ _ _ _ _ => rfl⟩
theorem ok_at : FlOk "at" := ⟨by decide +kernel, by decide +kernel, by decide +kernel, by decide +kernel, fun _ _ _ _ _ _ _ _ _ _ _ _ => rfl⟩
theorem ok_why : FlOk "why" := ⟨by decide +kernel, by decide +kernel, by decide +kernel, by decide +kernel, fun _ _ _ _ _ _ _ _ _ _ _ _ => rfl⟩
theorem ok_limit : FlOk "limit" := ⟨by decide +kernel, by decide +kernel, by decide +kernel, by decide +kernel, fun _ _ _ _ _ _ _ _ _ _ _ _ => rfl⟩
/-- what the written part says of the class at C, of its __init__ at fI -/
structure TideTxt (prog : Program) (K : Frag) (mg : Str → Option Value) (x : Str) (C fI : Addr) (fl : Str) : Prop where
  gC : mg x = some (.ref C)
  ok : FlOk fl
  cls : ∃ nm q N bs bm sn sub ab col dd k0 k1 k2 k3 k5, K.lookup C = some (excClassObj nm q C N bs bm true sn sub ab col dd k0 k1 k2 k3 k5 "ValueError.__new__") ∧ refsVE bm = true
  sa : findIn K (.ref C) "__setattr__" = some (some (.builtin "object.__setattr__"))
  ga : findIn K (.ref C) "__getattribute__" = some (some (.builtin "BaseException.__getattribute__"))
  gg : findIn K (.ref C) "__getattr__" = some none
  noN : findIn K (.ref C) fl = some none
  iC : findIn K (.ref C) "__init__" = some (some (.ref fI))
  tC : typeIn K (.ref fI) = some (.type "function")
  kC : keepIn K (.ref C) = true
  exC : subIn K (.ref C) (.type "BaseException") = some true
  tyC : typeIn K (.ref C) = some (.type "type")
  hdC : hasDictIn K C = true
  te : exmOne K (.ref C) (.ref C) = some true
  sup : ks_superIn K C C "__init__" = some (some (.builtin "ValueError.__init__"))
  isV : subIn K (.ref C) (.type "ValueError") = some true
  self_ : mroIn K C (.ref C) = some true
  tpa : nsIn K cStatics "thirdparty.any" = some none
  nsu : mg "super" = none
  htop : (prog.main.scope.names.lookup ("super" : Str)).isSome = false
  fn : ∃ (oc : Value) (od : Option Addr) (doc pm ct : Value) (an : Option Addr) (osl : Array (Option Value)) (qual tx : Str) (j : Nat) (p1 p2 q1 q2 q3 q4 q5 q6 q7 q8 q9 q10 : Pos) (cda cc : Addr),
    K.lookup fI = some ⟨oc, od, .func (ksFn "__init__" qual (iA fl p1 p2) (iB fl tx j q1 q2 q3 q4 q5 q6 q7 q8 q9 q10) (iS fl) .none .none doc pm an (.ref cda) ct cc), osl⟩ ∧ codeIn K (.ref cda) qual = true ∧ CallIs tx j q1 q2 q3 q4 q5 ∧
    (∃ ccl cdd vs ccs file tf, K.lookup cda = some ⟨ccl, cdd, .fields vs, ccs⟩ ∧ vs[2]? = some (.str file tf) ∧ ((prog.main.file : Str) == file) = true) ∧ ∃ cl cld csl, K.lookup cc = some ⟨cl, cld, .cell (some (.ref C)), csl⟩
section
variable {fl : Str}
theorem lkT {β : Type} {a b : Str} {v : β} {l : List (Str × β)} (h : (a == b) = true) : List.lookup a ((b, v) :: l) = some v := by
  rw [List.lookup_cons, h]
theorem lkF {β : Type} {a b : Str} {v : β} {l : List (Str × β)} (h : (a == b) = false) : List.lookup a ((b, v) :: l) = List.lookup a l := by
  rw [List.lookup_cons, h]
theorem neB {a b : Str} (h : ¬ a = b) : (a == b) = false := beq_eq_false_iff_ne.mpr h
theorem lk_self : (iS fl).names.lookup ("self" : Str) = some .local := lkT (by decide +kernel)
theorem lk_fl (ok : FlOk fl) : (iS fl).names.lookup fl = some .local := (lkF (neB ok.1)).trans (lkT (beq_self_eq_true _))
theorem lk_cls (ok : FlOk fl) : (iS fl).names.lookup ("__class__" : Str) = some .free := (lkF (by decide +kernel)).trans ((lkF (neB fun h => ok.2.1 h.symm)).trans (lkT (by decide +kernel)))
theorem lk_super (ok : FlOk fl) : (iS fl).names.lookup ("super" : Str) = some .globalImplicit :=
  (lkF (by decide +kernel)).trans ((lkF (neB fun h => ok.2.2.1 h.symm)).trans ((lkF (by decide +kernel)).trans (lkT (by decide +kernel))))
end
theorem one_size (v : Value) : [v].length ≤ sizeLine := by
  rw [sizeLine_eq]
  exact (by decide : 1 ≤ 16777216)
/-- what __init__ leaves of a fresh exception at x -/
structure InitEnd (fl : Str) (h h' : Heap) (x C dx t1 : Addr) (v : Value) : Prop where
  keep : ∀ b o, b ≠ x → h.get? b = some o → h'.get? b = some o
  obj : h'.get? x = some { cls := .ref C, dict := some dx, data := .fields #[.ref t1, .none, .none, .none, .bool false, .none] }
  dbig : h.objs.size ≤ dx
  dne : dx ≠ x
  ns : h'.Ns1 dx (fun y => if y = fl then some v else none)
/-- a made one -/
structure OwnMade (fl : Str) (h h' : Heap) (e C d : Addr) (v : Value) : Prop where
  keep : ∀ b o, h.get? b = some o → h'.get? b = some o
  new : h.objs.size ≤ e
  obj : ∃ oe vs, h'.get? e = some oe ∧ oe.cls = .ref C ∧ oe.dict = some d ∧ oe.data = .fields vs ∧ vs[1]? = some .none
  dbig : h.objs.size ≤ d
  dne : d ≠ e
  ns : h'.Ns1 d (fun y => if y = fl then some v else none)
section
variable {prog : Program} {w : World} {A : Around} {E : Value → Shared → Prop} {R : Result → Shared → Prop} {s : Shared} {K : Frag} {mg mb : Str → Option Value} {C fI : Addr} {fl xn : Str}
theorem ldC {M : Model} {s : Shared} {env : Env} {m : Str → Option Value} {x : Str} {pos : Pos} {v : Value} {Q : Value → Shared → Prop} {A : Around} {E : Value → Shared → Prop} (hn : s.heap.Ns env.locals m) (hv : m x = some v) (h : Q v s)
    (hk : env.scope.kind = .function) (hl : env.kindOf x = some .local) (hd : (x == ("__debug__" : Str)) = false) :
    wpAny M A (eval (.Name x pos) env) Q E s := wpAny_Name (wpAny_loadName_local hk hl hn hv h) hd
/-- the built-in __init__ bound to the object, called -/
theorem call_mw {u e t0 : Addr} {rest : List Value} {Q : Value → Shared → Prop} {nm q : Str} {N : Addr} {bs bm : List Value} {hdct : Bool} {sn : List Str} {sub : List Value} {ab : Bool} {col : Option Bool} {dd : Option Addr} {k0 k1 k2 k3 k5 : Option Value}
    (hC : s.heap.get? C = some (excClassObj nm q C N bs bm hdct sn sub ab col dd k0 k1 k2 k3 k5 "ValueError.__new__")) (he : s.heap.get? e = some (excO C t0)) (hu : s.heap.get? u = some (kxs_mw "ValueError.__init__" e)) (hrest : rest.length ≤ sizeLine)
    (hq : ∀ h', (∀ b o, b ≠ e → s.heap.get? b = some o → h'.get? b = some o) → h'.get? e = some (excO C s.heap.objs.size) → Q .none { s with heap := h' }) :
    wpAny (model prog w) A (call (.ref u) rest) Q E s := by
  have FB := F.excBase_ValueError
  obtain ⟨hh, g, d, tk, os⟩ := s
  refine wpAny_call (codeAny_of_tree ?_)
  show wpAny _ A.in1 (callAny (.ref u) ⟨rest, []⟩) _ _ _
  simp only [callAny]
  refine wpAny_bind (wpAny_load hu ?_)
  simp only [kxs_mw, show (Value.type "method-wrapper" == Value.type "method" || Value.type "method-wrapper" == Value.type "builtin_function_or_method" || Value.type "method-wrapper" == Value.type "method-wrapper") = true by decide, if_true]
  refine KFB.if_so (by decide) ?_
  refine wpAny_bind (check_bound_init FB.toExcCallFacts hC he rfl ?_)
  refine wpAny_bind (wpAny_pure (wpAny_pure ?_))
  refine ⟨plainId_quiet FB.init.plain _, codeAny_builtin FB.initEntry ?_⟩
  exact exc_init_tree (cls := .ref C) (t0 := t0) (dv := none) (c2 := .none) (c3 := .none) (b4 := .bool false) he hrest fun h' k e' _ => hq h' k e'
theorem tide_init (T : TideTxt prog K mg xn C fI fl) {x t0 : Addr} {v : Value} (X : K.In s.heap) (hG : s.heap.Ns mainGlobals mg) (hB : s.heap.Ns builtinsNs mb) (hmb : mb "super" = some (.type "super")) (hlim : s.heap.NoLimit) (hx : s.heap.get? x = some (excO C t0)) (hnx : K.lookup x = none) (hroom : A.depth < recursionLimit)
    (hq : ∀ h' tk dx t1, InitEnd fl s.heap h' x C dx t1 v → R (.ok (.ret .none)) { s with heap := h', toks := tk }) :
    codeAny (model prog w) A (.call (.ref fI) ⟨[.ref x, v], []⟩) R s := by
  obtain ⟨oc, od, doc, pm, ct, an, osl, qual, tx, j, p1, p2, q1, q2, q3, q4, q5, q6, q7, q8, q9, q10, cda, cc, ho, hcd, ⟨pl, hpl⟩, ⟨ccl, cdd, vs, ccs, file, tf, hcda, hvs, hfile⟩, cl, cld, csl, hcell⟩ := T.fn
  obtain ⟨nm, q, N, bs, bm, sn, sub, ab, col, dd, k0, k1, k2, k3, k5, hC, hbm⟩ := T.cls
  obtain ⟨n1, n2, n3, n4, n5⟩ := T.ok
  have hcl : clsIn K C = some { name := nm, bases := bs, mro := .ref C :: bm, ns := N, qualname := q, hasDict := true, slotNames := sn, subclasses := sub, abstract := ab, collection := col, hasDel := false } := by unfold clsIn; rw [hC] <;> rfl
  have e1 : (("self" : Str) == fl) = false := by rw [beq_eq_false_iff_ne]; exact fun h => n1 h.symm
  have e1' : (fl == ("self" : Str)) = false := by rw [beq_eq_false_iff_ne]; exact n1
  have X₀ := X
  refine ks_codeAny_call_defAt (fd := ksFn "__init__" qual (iA fl p1 p2) (iB fl tx j q1 q2 q3 q4 q5 q6 q7 q8 q9 q10) (iS fl) .none .none doc pm an (.ref cda) ct cc) (body := iB fl tx j q1 q2 q3 q4 q5 q6 q7 q8 q9 q10) (binds := [("self", .ref x), (fl, v)]) hroom (X _ _ ho) rfl hlim (codeRec_of X hcd) rfl (BindsTo.of_eq ?_) ?_ ?_ (fun h₁ hns k => ?_) rfl rfl rfl
  · exact n5 _ _ _ _ _ _ _ _ _ _ _ _
  · intro y hy
    have hy : y ∈ [(PySem.Str.ofString "self", NameKind.local), (fl, .local), (PySem.Str.ofString "__class__", .free), (PySem.Str.ofString "super", .globalImplicit)] := hy
    simp only [List.mem_cons, List.not_mem_nil, or_false] at hy
    rcases hy with rfl | rfl | rfl | rfl <;> exact fun h => nomatch h
  · intro y hy
    simp only [List.mem_cons, List.not_mem_nil, or_false] at hy
    rcases hy with rfl | rfl
    · exact lk_self
    · exact lk_fl T.ok
  · have hxL : s.heap.objs.size ≠ x := Nat.ne_of_gt (Heap.lt_size hx)
    have X₁ : K.In h₁ := X.keeps k
    have hx₁ := k _ _ hx
    have I : InstAt h₁ x (excO C t0) C none := ⟨hx₁, rfl, rfl, trivial⟩
    refine ks_wpAt_execs_cons (ks_wpAt_Expr_any (ks_wpAt_MethodCall (ks_wpAt_super_base (f := fI) (cc := cda) (lk_super T.ok) (lk_cls T.ok) (by decide) rfl (X₁ _ _ ho) rfl rfl rfl (X₁ _ _ hcda) rfl hvs hfile T.htop ?_) (hpl _)))
    refine ks_loadName_global rfl (lk_super T.ok) (loadGlobal_builtin (hG.keeps k) T.nsu (hB.keeps k) hmb ⟨rfl, ?_⟩)
    refine wpAny_loadName_free rfl (lk_cls T.ok) rfl ⟨_, X₁ _ _ hcell, rfl⟩ ?_
    refine wpAny_loadName_local (v := .ref x) rfl lk_self hns ?_ ?_
    · exact (lkF (neB fun h => T.ok.1 h.symm)).trans (lkT (by decide +kernel))
    refine ks_wpAny_isType_cls (X₁ _ _ hC) rfl ⟨rfl, ?_⟩
    refine ks_wpAny_call_super (X₁ _ _ hC) rfl I.at_ I.cls (fun c e => by cases e) (looks_mroIn X₁ T.self_) (fun h₂ e₂ k₂ => ?_)
    have X₂ : K.In h₂ := X₁.keeps k₂
    have I₂ : InstAt h₂ x (excO C t0) C none := ⟨k₂ _ _ hx₁, rfl, rfl, trivial⟩
    have hsup : alongIn K "__init__" (((.ref C :: bm).dropWhile (· != .ref C)).drop 1) = some (some (.builtin "ValueError.__init__")) := by
      have h := T.sup
      unfold ks_superIn at h
      rw [hcl] at h
      exact h
    have hxC : x ≠ C := ks_ne X₂ I₂ hcl
    have hI : Looks (model prog w) h₂ (isInstance (.ref x) (.type "ValueError")) true := I₂.type.andThen (looks_subIn X₂ T.isV)
    refine kxs_getMethod kxs_ValueError e₂ (looks_opaque X₂ T.tpa) (l₀ := .ref C :: bm) (fun A Q E s k q => wpAny_bind ((looks_clsIn X₂ hcl) A _ E s k (wpAny_pure q))) rfl X₂ hsup hI hxC (by decide) ?_
    refine kxs_callWith (i := "ValueError.__init__") (x := x) rfl (evalArgs_plain ?_)
    show wpAny _ _ (spliced ((false, eval (.Constant (.str tx) j q4) _) :: backTo q5 (starEach [] _))) _ _ _
    refine Calls.spliced_cons ?_
    refine Calls.Constant_str (Calls.spliced_nil ⟨?_, ?_⟩)
    · exact Heap.get?_push_at rfl rfl
    refine call_mw (C := C) (t0 := t0) (Heap.get?_push_of_some _ (X₂ _ _ hC)) (Heap.get?_push_of_some _ I₂.at_) (Heap.get?_push_at rfl rfl) (one_size _) (fun h₃ k₃ e₃ => ?_)
    -- self.fl = fl
    have keep : ∀ b o, b ≠ x → s.heap.get? b = some o → h₃.get? b = some o := fun b o hb e => k₃ b o hb (Heap.get?_push_of_some _ (k₂ _ _ (k _ _ e)))
    have keep1 : ∀ b o, b ≠ x → h₁.get? b = some o → h₃.get? b = some o := fun b o hb e => k₃ b o hb (Heap.get?_push_of_some _ (k₂ _ _ e))
    have X₃ : K.In h₃ := fun a o e => keep a o (fun z => by rw [z, hnx] at e; cases e) (X a o e)
    have hns₃ : h₃.Ns s.heap.objs.size (fun y => [(("self" : Str), Value.ref x), (fl, v)].reverse.lookup y) := by
      obtain ⟨oL, es, ep, hL, r⟩ := hns
      exact ⟨oL, es, ep, keep1 _ _ hxL hL, r⟩
    show wpAt _ _ _ (execs _ _) _ _ _
    refine wpAt_of_wpAny (wpAny_execs_cons (plainObj_wpAny_Assign_Attribute ?_))
    refine ldC (v := v) hns₃ ?_ (ldC (v := .ref x) hns₃ ?_ ?_ rfl lk_self (by decide)) rfl (lk_fl T.ok) T.ok.2.2.2.1
    · exact lkT (beq_self_eq_true _)
    · exact (lkF (neB fun h => T.ok.1 h.symm)).trans (lkT (by decide +kernel))
    refine set_plain X₃ (ox := excO C _) (od := none) ⟨e₃, rfl, rfl, trivial⟩ T.sa ?_
    refine exc_osa X₃ e₃ hcl (show refsVE (.ref C :: bm) = true from hbm) rfl T.noN (fun h₄ tk₄ dx k₄ dn dne hx₄ hn₄ => ?_)
    show wpAny _ _ (execs _ _) _ _ _
    have z : s.heap.objs.size ≤ h₃.objs.size := by
      exact Nat.le_of_lt hns₃.lt
    refine wpAny_execs_nil (hq h₄ tk₄ dx _ ⟨fun b o hb e => k₄ b o hb (keep b o hb e), hx₄, Nat.le_trans z dn, dne, hn₄⟩)
theorem tide_made (T : TideTxt prog K mg xn C fI fl) {v : Value} (X : K.In s.heap) (hG : s.heap.Ns mainGlobals mg) (hB : s.heap.Ns builtinsNs mb) (hmb : mb "super" = some (.type "super")) (hlim : s.heap.NoLimit) (hroom : A.depth + 1 < recursionLimit)
    (hq : ∀ h' tk e d, OwnMade fl s.heap h' e C d v → R (.ok (.ret (.ref e))) { s with heap := h', toks := tk }) :
    codeAny (model prog w) A (.call (.ref C) ⟨[v], []⟩) R s := by
  obtain ⟨nm, q, N, bs, bm, sn, sub, ab, col, dd, k0, k1, k2, k3, k5, hC, hbm⟩ := T.cls
  obtain ⟨hp, g, dr, tk, os⟩ := s
  have k : ∀ b o, hp.get? b = some o → ((hp.push (kdv_tup [v])).push (excO C hp.objs.size)).get? b = some o := fun b o e => Heap.get?_push_of_some _ (Heap.get?_push_of_some _ e)
  have hget : ((hp.push (kdv_tup [v])).push (excO C hp.objs.size)).get? (hp.objs.size + 1) = some (excO C hp.objs.size) := by heap_get
  have hnx : K.lookup (hp.objs.size + 1) = none := by
    cases e : K.lookup (hp.objs.size + 1) with
    | none => rfl
    | some o =>
      have z : hp.get? (hp.objs.size + 1) = some o := X _ _ e
      exact absurd (Nat.lt_of_succ_lt (Heap.lt_size z)) (Nat.lt_irrefl _)
  refine call_own F.excBase_ValueError (fun X => refsVE_contains X bm hbm) (X _ _ hC) (looks_findIn X T.iC) (fun self => bind_fn X self T.tC) (one_size v) ?_
  refine tide_init (s := ⟨(hp.push (kdv_tup [v])).push (excO C hp.objs.size), g, dr, tk, os⟩) T (X.keeps k) (hG.keeps k) (hB.keeps k) hmb (hlim.keeps k) hget hnx ?_ fun h' tk' dx t1 ⟨k', hx, dn, dne, hns⟩ => ?_
  · show A.depth + 1 < recursionLimit
    exact hroom
  · have old : ∀ b o, hp.get? b = some o → h'.get? b = some o := fun b o e => k' b o (Nat.ne_of_lt (Nat.lt_succ_of_lt (Heap.lt_size e))) (k b o e)
    have z : hp.objs.size + 1 + 1 ≤ dx := by
      first
        | (simpa only [Heap.size_push] using dn)
        | exact dn
        | (have q := dn; rw [Heap.size_push, Heap.size_push] at q; exact q)
    exact ⟨rfl, hq h' tk' (hp.objs.size + 1) dx ⟨old, Nat.le_succ _, ⟨_, _, hx, rfl, rfl, rfl, rfl⟩, Nat.le_trans (Nat.le_trans (Nat.le_succ _) (Nat.le_succ _)) z, dne, hns⟩⟩
end
end Tide
end PySem
namespace L2
open PySem PySem.Spec PyProof.Rows
theorem relO_tide {fl : Str} {v : V} {v' : Value} (r : RelV v v') (f : Str) : RelO (List.lookup f [(fl, v)]) (if f = fl then some v' else none) := by
  by_cases hw : f = fl
  · subst hw
    rw [if_pos rfl]
    have q : List.lookup f [(f, v)] = some v := by simp [List.lookup]
    rw [q]
    exact r
  · rw [if_neg hw]
    have qw : (f == fl) = false := by simpa using hw
    have q2 : List.lookup f [(fl, v)] = none := by simp [List.lookup, qw]
    rw [q2]
    trivial
section
variable {X : Cx} {C fI : Addr} {fl xn : Str}
/-- E(e) -/
def tMkTide (C : Addr) (fl : Str) (ta : TA) : St → Hp → XK → Prop := fun σ H Q => ta σ H fun vs H1 => ∃ v, vs = [v] ∧ ∀ d, H1 d = none → Q (.ref C) (some d) (upd H1 d (.xd [(fl, v)]))
theorem pmk_tide {a : Expr} {ta : TA} {p pos : Pos} {k : Nat} (T : PySem.Tide.TideTxt X.prog X.K X.mg xn C fI fl) (hr : Room k X.A) (ha : PA X [a] ta) (hg : Gl X xn := by rfl) (hdb : (xn == ("__debug__" : Str)) = false := by decide)
    (he : starEach (a :: []) X.env = (false, eval a X.env) :: starEach [] X.env := by rfl) (hpl : (backTo pos (starEach [] X.env)).any (·.1) = false := by rfl) :
    PMk X (.Call (.Name xn p) [a] [] pos) (tMkTide C fl ta) := by
  intro pins s σ H Q I h
  refine wpAny_Call_Name_kw (ld_glob I hg T.gC ?_ hdb)
  refine PySem.W.callWith_K (h₀ := X.base) I.ok.mod.kin T.kC (thn (ha.run pos pins s σ H _ I h) fun us s1 hh => ?_) he hpl
  obtain ⟨vs, H1, I1, r1, v, ev, q1⟩ := hh
  subst ev
  refine ⟨I1.kIn, ?_⟩
  cases r1 with
  | cons rv rn =>
    rename_i v' us'
    cases rn
    show wpAny _ _ (call (.ref C) [v']) _ _ _
    have hlim := I1.nolimit
    have hG := I1.mod.glob.keeps I1.bk
    obtain ⟨mb, hB0, hmb0⟩ := I1.mod.blt
    have hB := hB0.keeps I1.bk
    have hmb : mb "super" = some (.type "super") := (hmb0 _ (by decide +kernel)).trans (by decide +kernel)
    obtain ⟨hp, g, dr, tk, os⟩ := s1
    refine wpAny_call (PySem.Tide.tide_made T I1.kIn hG hB hmb hlim (by have := hr.dp; omega) fun h' tk' e d M => ?_)
    show MkP X pins σ Q (.ref e) ⟨h', g, dr, tk', os⟩
    obtain ⟨oe, fv, hoe, hc, hd, hdat, h1⟩ := M.obj
    have hns := M.ns
    obtain ⟨G', g1, g2⟩ := restrict h' fun b => decide (b ≠ e)
    have gk : ∀ b, b ≠ e → G'.get? b = h'.get? b := fun b hb => g1 b (decide_eq_true hb)
    have ge : G'.get? e = none := g2 e (by simp)
    have old : ∀ b o, hp.get? b = some o → G'.get? b = some o := fun b o q => (gk b (Nat.ne_of_lt (Nat.lt_of_lt_of_le (Heap.lt_size q) M.new))).trans (M.keep b o q)
    have ob : ObjOk X.prog X.w (upd H1 d (.xd [(fl, v)])) G' d (.xd [(fl, v)]) :=
      ⟨_, hns.at (fun o q => (gk d M.dne).trans q), fun f => relO_tide rv f⟩
    have J : Inv X pins σ (upd H1 d (.xd [(fl, v)])) ⟨G', g, dr, tk', os⟩ := I1.laid (t' := tk') old M.dbig ob
    refine ⟨e, oe, fv, ⟨G', g, dr, tk', os⟩, _, .ref C, some d, rfl, J, fun b o q => ?_, ge, hoe, ⟨hc, hd⟩, hdat, h1, ?_, rfl, I1.bare, raises_own T.exC T.tyC, q1 d (I1.hok.fresh M.dbig)⟩
    · by_cases hb : b = e
      · have q' : G'.get? b = some o := q
        rw [hb, ge] at q'; cases q'
      · exact (gk b hb).symm.trans q
    · rw [upd_ne (Ne.symm M.dne)]
      exact I1.hok.fresh M.new
/-- raise E(e) -/
def tRaiseTide (C : Addr) (fl : Str) (W : WX) (ta : TA) : TS := fun _ σ H => tMkTide C fl ta σ H fun cls d H' => W cls d σ H'
theorem ps_raiseTide {a : Expr} {ta : TA} {W : WX} {p pos pos2 : Pos} {k : Nat} (hc : X.calm = true) (T : PySem.Tide.TideTxt X.prog X.K X.mg xn C fI fl) (hr : Room k X.A) (tk : Takes X W) (ha : PA X [a] ta) (hg : Gl X xn := by rfl) (hdb : (xn == ("__debug__" : Str)) = false := by decide)
    (he : starEach (a :: []) X.env = (false, eval a X.env) :: starEach [] X.env := by rfl) (hpl : (backTo pos (starEach [] X.env)).any (·.1) = false := by rfl) :
    PS X (.Raise (some (.Call (.Name xn p) [a] [] pos)) none pos2) (tRaiseTide C fl W ta) := ps_raise hc tk (pmk_tide T hr ha hg hdb he hpl)
/-- e.fl, e the exception that the suite holds (at a; its class cls, its dict d) -/
def tByTide (C : Addr) (fl : Str) (a : Addr) (cls : Value) (d : Option Addr) (te : TE) : TE := fun σ H Q => te σ H fun x H1 => x = .ref a ∧ cls = .ref C ∧ ∃ (dd : Addr) (v : V), d = some dd ∧ H1 dd = some (.xd [(fl, v)]) ∧ Q v H1
theorem pe_byTide {a : Addr} {oe : Obj} {cls : Value} {d : Option Addr} {pn : List (Addr × Obj)} {e : Expr} {te : TE} {pos : Pos} (T : PySem.Tide.TideTxt X.prog X.K X.mg xn C fI fl) (hz : Zc cls d oe) (hf : ∃ vs, oe.data = .fields vs) (he : PE (X.suite a ((a, oe) :: pn)) e te)
    (hb : attributeBase e fl X.env (eval e X.env) = eval e X.env) :
    PE (X.suite a ((a, oe) :: pn)) (.Attribute e fl pos) (tByTide C fl a cls d te) := by
  refine ⟨fun pins s σ H Q I h => ?_⟩
  refine attr_of hb (thn (he.run pins s σ H _ I h) fun u s1 hh => ?_)
  obtain ⟨x, H1, I1, rx, ex, ec, dd, v, ed, ea, q⟩ := hh
  subst ex
  obtain rfl : u = Value.ref a := rx
  subst ec
  subst ed
  obtain ⟨ha, _⟩ := I1.pin (a, oe) (List.mem_append_left _ List.mem_cons_self)
  obtain ⟨vs, hd⟩ := hf
  have hx : ObjOk X.prog X.w H1 s1.heap dd (.xd [(fl, v)]) := I1.hok dd _ ea
  obtain ⟨mA, hns, hr⟩ := hx
  obtain ⟨od, ho, hl⟩ := lookIn_ns hns
  have l : List.lookup fl [(fl, v)] = some v := by simp [List.lookup]
  obtain ⟨u, hu, ru⟩ := RelO.some_of (v := v) (o := mA fl) (by rw [← l]; exact hr fl)
  have J : PySem.W.InstAt s1.heap a oe C (some od) := ⟨ha, hz.1, by unfold PySem.W.notCls; rw [hd] <;> rfl, by rw [hz.2]; exact ho⟩
  exact HandSPX.exc_get I1.kIn J T.ga T.gg T.exC (PySem.W.findObj_own T.hdC T.noN rfl (by rw [hl, hu])) (handed_of ru) ⟨v, H1, I1.tok _, ru, q⟩
end
end L2


set_option Elab.async false
set_option linter.all false
set_option maxRecDepth 100000
set_option maxHeartbeats 4000000
/-! enumerate over a list or a tuple -/
namespace PySem
open Sem (wp)
open AutoSeq1 (wpAny_loadPart')
theorem my_enumerate_newT (l : Addr) (items : Array Value) (n : Nat) (dct : Option Addr) (sl : Array (Option Value)) :
    Meets (Builtin.«enumerate.__new__» ⟨[.type "enumerate", .ref l], []⟩) (fun _ R s => s.heap.get? l = some { cls := .type "tuple", dict := dct, data := .seq items n, slots := sl } ∧
      R (.ok (.ret (.ref (s.heap.push { cls := .type "tuple_iterator", data := .fields #[.ref l, .int 0 0] }).objs.size)))
        { s with heap := (s.heap.push { cls := .type "tuple_iterator", data := .fields #[.ref l, .int 0 0] }).push { cls := .type "enumerate", data := .fields #[.none, .bool false, .ref s.heap.objs.size, rawInt 0, .none, .none] } }) :=
  .of_wp fun prog w A R s h => by
    obtain ⟨hp, g, d, tk, os⟩ := s; obtain ⟨hl, h⟩ := h
    have hsub := sub_enumerate
    have hL : Heap.IsTuple (Shared.heap ⟨hp, g, d, tk, os⟩) l items := ⟨_, hl, rfl, n, rfl⟩
    wp_walk using wpAny_loadPart' hl
    refine wpAny_stack_any fun st => wpAny_pure ?_
    split
    · rename_i c _ _ _ _ _
      cases (c == Value.type "enumerate")
      · wp_walk using wpAny_loadPart' hl, wpAny_pyIter_tuple hL
        exact ⟨_, rfl, h⟩
      · wp_walk using wpAny_loadPart' hl, wpAny_pyIter_tuple hL
        exact ⟨_, rfl, h⟩
    · wp_walk using wpAny_loadPart' hl, wpAny_pyIter_tuple hL
      exact ⟨_, rfl, h⟩
section
variable {prog : Program} {w : World} {A : Around} {E : Value → Shared → Prop} {s : Shared}
theorem my_enumerate_tuple {l : Addr} {items : Array Value} {Q : Value → Shared → Prop} (hL : s.heap.IsTuple l items)
    (h : ∀ h', IsEnum h' (s.heap.objs.size + 1) s.heap.objs.size 0 .none → h'.IsTupleIter s.heap.objs.size l 0 → h'.objs.size = s.heap.objs.size + 2 →
      (∀ b o, s.heap.get? b = some o → h'.get? b = some o) → Q (.ref (s.heap.objs.size + 1)) { s with heap := h' }) :
    wpAny (model prog w) A (call (.type "enumerate") [.ref l]) Q E s := by
  obtain ⟨⟨c, dct, dt, sl⟩, hl, hc, n, hd⟩ := hL
  replace hc : c = .type "tuple" := hc
  replace hd : dt = .seq items n := hd
  subst hc hd
  refine callType_new F.called_enumerate (by decide) (F.typeCall_enumerate_1 _) (F.newCall_enumerate_1 _) (fun obj => F.args_object_init_2 obj _) F.entry_enumerate_new
    (my_enumerate_newT l items n dct sl) ⟨hl, ?_⟩
  have hz : (s.heap.push { cls := .type "tuple_iterator", data := .fields #[.ref l, .int 0 0] }).objs.size = s.heap.objs.size + 1 := Heap.size_push ..
  show _ ∧ _
  rw [hz]
  have he : IsEnum ((s.heap.push { cls := .type "tuple_iterator", data := .fields #[.ref l, .int 0 0] }).push
      { cls := .type "enumerate", data := .fields #[.none, .bool false, .ref s.heap.objs.size, rawInt 0, .none, .none] }) (s.heap.objs.size + 1) s.heap.objs.size 0 .none := by
    have := Heap.get?_push_size (s.heap.push { cls := .type "tuple_iterator", data := .fields #[.ref l, .int 0 0] })
      (o := { cls := .type "enumerate", data := .fields #[.none, .bool false, .ref s.heap.objs.size, rawInt 0, .none, .none] }) rfl
    rw [hz] at this; exact this
  refine ⟨⟨_, he, rfl⟩, h _ he ⟨_, Heap.get?_push_of_some _ (Heap.get?_push_size _ rfl), rfl, rfl⟩ (by rw [Heap.size_push, hz]) fun b o x => Heap.get?_push_of_some _ (Heap.get?_push_of_some _ x)⟩
end
end PySem
namespace L2
open PySem PySem.Spec PyProof.Rows
def IteT (K : PySem.W.Frag) (a : Addr) : It :=
  ⟨fun i H => ∃ (xs : List V) (x : V), SqT K H a xs ∧ xs[i]? = some x, fun i H v H' => ∃ T x, v = .ref T ∧ H T = none ∧ H' = upd H T (.tup [.int (i : Nat), x]) ∧ ∀ xs, SqT K H a xs → xs[i]? = some x, fun i H => ∃ xs : List V, SqT K H a xs ∧ i = xs.length⟩
theorem turn_enumT {P : Program} {w : World} {K : PySem.W.Frag} {elts : List Expr} {kk : Nat} {tpos : Pos} (a e it : Addr) :
    Turn P w K (.Tuple elts kk tpos) (IteT K a) [e, it] e (fun i h => (∃ old, IsEnum h e it ((i : Nat) : Int) old) ∧ h.IsTupleIter it a i ∧ e ≠ it ∧ e ≠ a ∧ it ≠ a) where
  mem := by simp
  obj := fun i h st b hb => by
    obtain ⟨⟨old, he⟩, ⟨o, ho, hc, hd⟩, _⟩ := st
    have e' : b = e ∨ b = it := by simpa using hb
    rcases e' with z | z
    · rw [z]; exact ⟨_, he, fun v q => nomatch q⟩
    · rw [z]; exact ⟨o, ho, fun v q => by rw [hd] at q; cases q⟩
  keep := fun i h h' st k => let ⟨⟨old, he⟩, hi, hne⟩ := st; ⟨⟨old, k e (by simp) _ he⟩, hi.at fun o q => k it (by simp) o q, hne⟩
  item := by
    intro X hP hw hK hc i pins s σ H E I hf st hg
    subst hP hw hK
    obtain ⟨⟨old, he⟩, hit, hne, hea, hia⟩ := st
    obtain ⟨xs, x, hq, hx⟩ := hg
    obtain ⟨its, rv, p, hz⟩ := I.tuple hq
    have p' : s.heap.IsTuple a its.toArray := p
    obtain ⟨u, hu, ru⟩ := rv.get hx
    have hel : e < s.heap.objs.size := Heap.lt_size he
    have hil : it < s.heap.objs.size := by obtain ⟨_, q, _⟩ := hit; exact Heap.lt_size q
    have D := Draws.tuple (prog := X.prog) (w := X.w) (A := X.A.in1) (I.ok.hd hc) it a hia.symm its.toArray
    refine wpAny_pyNext_enum_itemD D he ⟨hit, p'⟩ (by have := (List.getElem?_eq_some_iff.mp hu).1; simpa using this) hne (by simp [hne, hea]) fun x' h' tk hx' ho hit' hT hsz hk => ?_
    have hxu : x' = u := by
      have e1 : its[i]? = some x' := by simpa using hx'
      rw [hu] at e1
      exact (Option.some.inj e1).symm
    subst hxu
    obtain ⟨hit', _⟩ := hit'
    refine ⟨_, rfl, wpAny_letOwnedTupleGo_enum (s := { s with heap := h', toks := tk + 1 }) ho fun h'' he' sb => ?_⟩
    have hT2 : h''.get? s.heap.objs.size = some { cls := .type "tuple", data := .seq #[.int i tk, x'] } := (sb.2 _ (Nat.ne_of_gt hel)).trans hT
    have new : ObjOk X.prog X.w (upd H s.heap.objs.size (.tup [.int (i : Nat), x])) h'' s.heap.objs.size (.tup [.int (i : Nat), x]) :=
      ⟨by show 2 ≤ sizeLine; decide, [.int i tk, x'], .cons ⟨_, rfl⟩ (.cons ru .nil), ⟨_, hT2, rfl, _, rfl⟩⟩
    have I1 : Inv X pins σ (upd H s.heap.objs.size (.tup [.int (i : Nat), x])) { s with heap := h'', toks := tk + 1 } :=
      I.turnedNew (ch := [e, it]) (fun b ob hb q => (sb.2 b (fun z => hb (by simp [z]))).trans (hk b ob (fun z => hb (by simp [z])) (fun z => hb (by simp [z])) q)) hf (Nat.le_refl _) new
    refine ⟨.ref s.heap.objs.size, _, I1, rfl, ⟨_, x, rfl, I.hok.fresh (Nat.le_refl _), rfl, fun ys hy => by rw [I.tuple_inj hy hq]; exact hx⟩, ⟨⟨x', ?_⟩, hit'.at fun o q => (sb.2 it (Ne.symm hne)).trans q, hne, hea, hia⟩, fun b hb => ?_⟩
    · have e1 : ((i + 1 : Nat) : Int) = (i : Int) + 1 := by omega
      rw [e1]; exact he'
    · have hb' : b < s.heap.objs.size := by
        have e' : b = e ∨ b = it := by simpa using hb
        rcases e' with z | z
        · rw [z]; exact hel
        · rw [z]; exact hil
      rw [upd_ne (Nat.ne_of_lt hb')]
      exact (hf b hb).1
  done := by
    intro X hP hw hK hc i pins s σ H E I hf st hg
    subst hP hw hK
    obtain ⟨⟨old, he⟩, hit, hne, hea, hia⟩ := st
    obtain ⟨xs, hq, hx⟩ := hg
    obtain ⟨its, rv, p, hz⟩ := I.tuple hq
    have p' : s.heap.IsTuple a its.toArray := p
    obtain ⟨f0, f1, f2, f3, f4, f5⟩ := hf it (by simp)
    have hl := rv.length
    have D := Draws.tuple (prog := X.prog) (w := X.w) (A := X.A.in1) (I.ok.hd hc) it a hia.symm its.toArray
    have hn : i = its.toArray.size := by rw [hx, hl]; simp
    refine wpAny_pyNext_enum_endD D he ⟨hn ▸ hit, p'⟩ fun h' eb => ⟨rfl, I.turned (t' := s.toks) (fun b o hb q => eb b o hb q) f0 f1 f3 f4 f5⟩
  self := fun A i s Q E st h => let ⟨⟨_, he⟩, _⟩ := st; wpAny_pyIter_enum he h
/-- enumerate(list | tuple) -/
def iEnumS (K : PySem.W.Frag) (ta : TA) : TI := fun σ H R => ta σ H fun vs H1 => ∃ a xs, vs = [.ref a] ∧ ((SqL K H1 a xs ∧ R (Ite K a) H1) ∨ (SqT K H1 a xs ∧ R (IteT K a) H1))
theorem pi_enumS {X : Cx} {e : Expr} {ta : TA} {p pos tpos : Pos} {elts : List Expr} {kk : Nat} (hg : Gl X "enumerate") (hm : X.mg "enumerate" = none) (ha : PA X [e] ta) (hs : starEach [e] X.env = [(false, eval e X.env)] := by rfl) :
    PI X (.Tuple elts kk tpos) (.Call (.Name "enumerate" p) [e] [] pos) (iEnumS X.K ta) := by
  refine ⟨fun pins s σ H R I h => ?_⟩
  refine Call_ (ld_blt I hg hm boot_enumerate (PyProof.Rows.callWith_type1 (thn (ha.run pos pins s σ H _ I h) fun us s1 ⟨vs, H1, I1, r1, q1⟩ => ?_) hs rfl))
  obtain ⟨a, xs, ex, q1⟩ := q1
  subst ex
  cases r1 with
  | cons r rr =>
    cases rr
    cases r
    have fpk : ∀ b ∈ [s1.heap.objs.size + 1, s1.heap.objs.size], FpOk X pins H1 b := fun b hb => by
      have e' : b = s1.heap.objs.size + 1 ∨ b = s1.heap.objs.size := by simpa using hb
      have hle : s1.heap.objs.size ≤ b := by
        rcases e' with z | z
        · rw [z]; exact Nat.le_add_right _ _
        · rw [z]; exact Nat.le_refl _
      exact I1.fpOk hle (I1.hok.fresh hle)
    rcases q1 with ⟨hq, q⟩ | ⟨hq, q⟩
    · obtain ⟨its, rv, p', hz⟩ := I1.list hq
      refine call_enumerate_list p'.isList fun h' he hit hsz hk => wpAny_pyIter_enum he ?_
      have I2 : Inv X pins σ H1 { s1 with heap := h' } := I1.kept (t' := s1.toks) hk
      exact ⟨s1.heap.objs.size + 1, [s1.heap.objs.size + 1, s1.heap.objs.size], _, _, H1, rfl, I2, turn_enum a (s1.heap.objs.size + 1) s1.heap.objs.size, ⟨⟨.none, he⟩, hit, Nat.succ_ne_self _⟩, fpk, q⟩
    · obtain ⟨its, rv, p', hz⟩ := I1.tuple hq
      have hla : a < s1.heap.objs.size := by obtain ⟨o, ho, _⟩ := p'; exact Heap.lt_size ho
      refine my_enumerate_tuple (show s1.heap.IsTuple a its.toArray from p') fun h' he hit hsz hk => wpAny_pyIter_enum he ?_
      have I2 : Inv X pins σ H1 { s1 with heap := h' } := I1.kept (t' := s1.toks) hk
      exact ⟨s1.heap.objs.size + 1, [s1.heap.objs.size + 1, s1.heap.objs.size], _, _, H1, rfl, I2, turn_enumT a (s1.heap.objs.size + 1) s1.heap.objs.size, ⟨⟨.none, he⟩, hit, Nat.succ_ne_self _, Nat.ne_of_gt (Nat.lt_succ_of_lt hla), Nat.ne_of_gt hla⟩, fpk, q⟩
theorem pi_enumSK {X : Cx} {K : PySem.W.Frag} {e : Expr} {ta : TA} {p pos tpos : Pos} {elts : List Expr} {kk : Nat} (h : X.K = K) (hg : Gl X "enumerate") (hm : X.mg "enumerate" = none) (ha : PA X [e] ta) (hs : starEach [e] X.env = [(false, eval e X.env)] := by rfl) :
    PI X (.Tuple elts kk tpos) (.Call (.Name "enumerate" p) [e] [] pos) (iEnumS K ta) := by subst h; exact pi_enumS hg hm ha hs
/-- a for over it: the pair's own tuple is new; Pv by the turn -/
theorem for_enumS {K : PySem.W.Frag} {a : Addr} {xs : List V} {g : TG} {tb : TS} {D : Ends} {σ : St} {H0 H : Hp} (hq : SqL K H0 a xs ∨ SqT K H0 a xs) (Pv : Nat → St → Hp → Prop) (h0 : Pv 0 σ H) (hm : ∀ i σ' H', Pv i σ' H' → ∀ b o, H0 b = some o → H' b = some o)
    (hs : ∀ i x σ H T, xs[i]? = some x → Pv i σ H → H T = none → g (.ref T) σ (upd H T (.tup [.int (i : Nat), x])) fun σ2 H2 => tb { D with nx := Pv (i + 1), ct := Pv (i + 1), bk := D.nx } σ2 H2) (hd : ∀ σ H, Pv xs.length σ H → D.nx σ H) :
    ((SqL K H a xs ∧ ∃ W : Nat → Nat → St → Hp → Prop, (∃ m, W 0 m σ H) ∧ ∀ i m σ H, W i m σ H →
      ((Ite K a).stop i H ∧ D.nx σ H) ∨ ((Ite K a).go i H ∧ ∃ N : St → Hp → Prop, (∀ σ' H', N σ' H' → ∃ m', m' < m ∧ W (i + 1) m' σ' H') ∧ ∀ x H', (Ite K a).yld i H x H' → g x σ H' fun σ2 H2 => tb { D with nx := N, ct := N, bk := D.nx } σ2 H2)) ∨
     (SqT K H a xs ∧ ∃ W : Nat → Nat → St → Hp → Prop, (∃ m, W 0 m σ H) ∧ ∀ i m σ H, W i m σ H →
      ((IteT K a).stop i H ∧ D.nx σ H) ∨ ((IteT K a).go i H ∧ ∃ N : St → Hp → Prop, (∀ σ' H', N σ' H' → ∃ m', m' < m ∧ W (i + 1) m' σ' H') ∧ ∀ x H', (IteT K a).yld i H x H' → g x σ H' fun σ2 H2 => tb { D with nx := N, ct := N, bk := D.nx } σ2 H2))) := by
  have mL : ∀ {i σ' H'}, SqL K H0 a xs → Pv i σ' H' → SqL K H' a xs := fun {i σ' H'} h p => by
    have k := hm i σ' H' p
    rcases h with (h | ⟨o, h⟩) | h
    · exact .inl (.inl (k _ _ h))
    · exact .inl (.inr ⟨o, k _ _ h⟩)
    · exact .inr h
  have mT : ∀ {i σ' H'}, SqT K H0 a xs → Pv i σ' H' → SqT K H' a xs := fun {i σ' H'} h p => by
    have k := hm i σ' H' p
    rcases h with (h | ⟨o, h⟩) | h
    · exact .inl (.inl (k _ _ h))
    · exact .inl (.inr ⟨o, k _ _ h⟩)
    · exact .inr h
  rcases hq with h | h
  · refine .inl ⟨mL h h0, fun i m σ H => m = xs.length - i ∧ i ≤ xs.length ∧ Pv i σ H, ⟨xs.length, by simp, Nat.zero_le _, h0⟩, ?_⟩
    rintro i m σ H ⟨rfl, hi, p⟩
    have q := mL h p
    by_cases hlt : i < xs.length
    · refine .inr ⟨⟨xs, xs[i], q, by simp [hlt]⟩, Pv (i + 1), fun σ' H' p' => ⟨xs.length - (i + 1), by omega, rfl, hlt, p'⟩, fun x H' y => ?_⟩
      obtain ⟨T, z, rfl, nT, rfl, hz⟩ := y
      exact hs i z σ H T (hz xs q) p nT
    · have e : i = xs.length := by omega
      subst e
      exact .inl ⟨⟨xs, q, Nat.le_refl _⟩, hd σ H p⟩
  · refine .inr ⟨mT h h0, fun i m σ H => m = xs.length - i ∧ i ≤ xs.length ∧ Pv i σ H, ⟨xs.length, by simp, Nat.zero_le _, h0⟩, ?_⟩
    rintro i m σ H ⟨rfl, hi, p⟩
    have q := mT h p
    by_cases hlt : i < xs.length
    · refine .inr ⟨⟨xs, xs[i], q, by simp [hlt]⟩, Pv (i + 1), fun σ' H' p' => ⟨xs.length - (i + 1), by omega, rfl, hlt, p'⟩, fun x H' y => ?_⟩
      obtain ⟨T, z, rfl, nT, rfl, hz⟩ := y
      exact hs i z σ H T (hz xs q) p nT
    · have e : i = xs.length := by omega
      subst e
      exact .inl ⟨⟨xs, q, rfl⟩, hd σ H p⟩
end L2


set_option Elab.async false
set_option linter.all false
set_option maxRecDepth 100000
set_option maxHeartbeats 4000000
namespace K1
open PySem PySem.Spec PyProof.Rows L2 RZ
/-! ### values as data: what stands at a place, found in the call's own objects -/
mutual
inductive Dv (H : Hp) : V → PyData → Prop
  | non : Dv H .non .none
  | bl (b : Bool) : Dv H (.bl b) (.bool b)
  | int (i : Int) : Dv H (.int i) (.int i)
  | str (x : Str) : Dv H (.str x) (.str x)
  | lst {a : Addr} {xs : List V} {ds : List PyData} : H a = some (.lst xs) → DvA H xs ds → Dv H (.ref a) (.list ds)
  | tup {a : Addr} {xs : List V} {ds : List PyData} : H a = some (.tup xs) → DvA H xs ds → Dv H (.ref a) (.tuple ds)
  | dic {a : Addr} : H a = some (.dK []) → Dv H (.ref a) (.dict [])
inductive DvA (H : Hp) : List V → List PyData → Prop
  | nil : DvA H [] []
  | cons {v : V} {vs : List V} {d : PyData} {ds : List PyData} : Dv H v d → DvA H vs ds → DvA H (v :: vs) (d :: ds)
end
mutual
theorem Dv.ext {H H' : Hp} (e : LamX.ExtN H H') : ∀ {v : V} {d : PyData}, Dv H v d → Dv H' v d
  | _, _, .non => .non
  | _, _, .bl b => .bl b
  | _, _, .int i => .int i
  | _, _, .str x => .str x
  | _, _, .lst h a => .lst (e _ _ h fun _ z => by cases z) (DvA.ext e a)
  | _, _, .tup h a => .tup (e _ _ h fun _ z => by cases z) (DvA.ext e a)
  | _, _, .dic h => .dic (e _ _ h fun _ z => by cases z)
theorem DvA.ext {H H' : Hp} (e : LamX.ExtN H H') : ∀ {vs : List V} {ds : List PyData}, DvA H vs ds → DvA H' vs ds
  | _, _, .nil => .nil
  | _, _, .cons h r => .cons (Dv.ext e h) (DvA.ext e r)
end
theorem Dv.same {H H' : Hp} {v : V} {d : PyData} (h : Dv H v d) (s : Same H H') : Dv H' v d := h.ext (LamX.ExtN.of s)
theorem DvA.same {H H' : Hp} {v : List V} {d : List PyData} (h : DvA H v d) (s : Same H H') : DvA H' v d := h.ext (LamX.ExtN.of s)
mutual
def noDic : PyData → Bool
  | .list xs => noDicA xs
  | .tuple xs => noDicA xs
  | .dict _ => false
  | _ => true
def noDicA : List PyData → Bool
  | [] => true
  | x :: r => noDic x && noDicA r
end
mutual
theorem Dv.dp {K : PySem.W.Frag} {H : Hp} : ∀ {v : V} {d : PyData}, Dv H v d → noDic d = true → Dp K H v d
  | _, _, .non, _ => .non
  | _, _, .bl b, _ => .bl b
  | _, _, .int i, _ => .int i
  | _, _, .str x, _ => .str x
  | _, _, .lst h a, n => .lst (sq h) (DvA.dp a n)
  | _, _, .tup h a, n => .tup (st h) (DvA.dp a n)
  | _, _, .dic h, n => by cases n
theorem DvA.dp {K : PySem.W.Frag} {H : Hp} : ∀ {vs : List V} {ds : List PyData}, DvA H vs ds → noDicA ds = true → DpAll K H vs ds
  | _, _, .nil, _ => .nil
  | _, _, .cons h r, n => .cons (Dv.dp h ((Bool.and_eq_true _ _).mp n).1) (DvA.dp r ((Bool.and_eq_true _ _).mp n).2)
end
theorem DvA.len {H : Hp} : ∀ {vs : List V} {ds : List PyData}, DvA H vs ds → vs.length = ds.length
  | _, _, .nil => rfl
  | _, _, .cons _ r => congrArg (· + 1) (DvA.len r)
theorem DvA.get {H : Hp} : ∀ {vs : List V} {ds : List PyData}, DvA H vs ds → ∀ {i : Nat} {v : V}, vs[i]? = some v → ∃ d, ds[i]? = some d ∧ Dv H v d
  | _, _, .nil, i, v, h => by simp at h
  | _, _, .cons hd r, 0, v, h => ⟨_, rfl, by simp at h; exact h ▸ hd⟩
  | _, _, .cons hd r, i + 1, v, h => by simpa using DvA.get r (i := i) (v := v) (by simpa using h)
theorem DvA.app {H : Hp} : ∀ {vs : List V} {ds : List PyData} {us : List V} {es : List PyData}, DvA H vs ds → DvA H us es → DvA H (vs ++ us) (ds ++ es)
  | _, _, _, _, .nil, h => h
  | _, _, _, _, .cons hd r, h => .cons hd (DvA.app r h)
def tyN : PyData → String
  | .none => "NoneType"
  | .bool _ => "bool"
  | .int _ => "int"
  | .str _ => "str"
  | .list _ => "list"
  | .tuple _ => "tuple"
  | .dict _ => "dict"
theorem Dv.ty {K : PySem.W.Frag} {H : Hp} {v : V} {d : PyData} (h : Dv H v d) : TyX K H v (.type (tyN d)) := by
  cases h with
  | non => exact .base .non
  | bl b => exact .base (.bl b)
  | int i => exact .base (.int i)
  | str x => exact .base (.str x)
  | lst e _ => exact .base (.lst e)
  | tup e _ => exact .base (.tup e)
  | dic e => exact .base (.dK e)
/-! ### what the checks say of data -/
def isInt : PyData → Bool | .int _ => true | _ => false
def isNum : PyData → Bool | .int n => decide (1 ≤ n) | _ => false
def isStr : PyData → Bool | .str _ => true | _ => false
def isTup : PyData → Bool | .tuple _ => true | _ => false
def isSeq : PyData → Bool | .tuple _ => true | .list _ => true | _ => false
def itemsD : PyData → List PyData | .list xs => xs | .tuple xs => xs | _ => []
def dI : PyData → Int | .int n => n | _ => 0
def isNums (d : PyData) : Bool := isSeq d && (itemsD d).all isNum
def ascB (ns : List Int) : Bool := ((ns.zip (ns.drop 1)).map fun p => decide (p.1 < p.2)).all id
theorem kit_int (d : PyData) : ∃ b1 b2, kitB (tyN d) "int" = some b1 ∧ kitB (tyN d) "bool" = some b2 ∧ (b1 && !b2) = isInt d := by
  cases d with
  | none => exact ⟨false, false, (show kitB "NoneType" "int" = some false by decide +kernel), (show kitB "NoneType" "bool" = some false by decide +kernel), rfl⟩
  | bool b => exact ⟨true, true, (show kitB "bool" "int" = some true by decide +kernel), (show kitB "bool" "bool" = some true by decide +kernel), rfl⟩
  | int b => exact ⟨true, false, (show kitB "int" "int" = some true by decide +kernel), (show kitB "int" "bool" = some false by decide +kernel), rfl⟩
  | str b => exact ⟨false, false, (show kitB "str" "int" = some false by decide +kernel), (show kitB "str" "bool" = some false by decide +kernel), rfl⟩
  | list b => exact ⟨false, false, (show kitB "list" "int" = some false by decide +kernel), (show kitB "list" "bool" = some false by decide +kernel), rfl⟩
  | tuple b => exact ⟨false, false, (show kitB "tuple" "int" = some false by decide +kernel), (show kitB "tuple" "bool" = some false by decide +kernel), rfl⟩
  | dict b => exact ⟨false, false, (show kitB "dict" "int" = some false by decide +kernel), (show kitB "dict" "bool" = some false by decide +kernel), rfl⟩
theorem kit_str (d : PyData) : kitB (tyN d) "str" = some (isStr d) := by
  cases d with
  | none => exact (show kitB "NoneType" "str" = some false by decide +kernel)
  | bool b => exact (show kitB "bool" "str" = some false by decide +kernel)
  | int b => exact (show kitB "int" "str" = some false by decide +kernel)
  | str b => exact (show kitB "str" "str" = some true by decide +kernel)
  | list b => exact (show kitB "list" "str" = some false by decide +kernel)
  | tuple b => exact (show kitB "tuple" "str" = some false by decide +kernel)
  | dict b => exact (show kitB "dict" "str" = some false by decide +kernel)
theorem kit_tup (d : PyData) : kitB (tyN d) "tuple" = some (isTup d) := by
  cases d with
  | none => exact (show kitB "NoneType" "tuple" = some false by decide +kernel)
  | bool b => exact (show kitB "bool" "tuple" = some false by decide +kernel)
  | int b => exact (show kitB "int" "tuple" = some false by decide +kernel)
  | str b => exact (show kitB "str" "tuple" = some false by decide +kernel)
  | list b => exact (show kitB "list" "tuple" = some false by decide +kernel)
  | tuple b => exact (show kitB "tuple" "tuple" = some true by decide +kernel)
  | dict b => exact (show kitB "dict" "tuple" = some false by decide +kernel)
theorem kit_seq {K : PySem.W.Frag} (d : PyData) : PySem.W.kitAny K (.type (tyN d)) [.type "list", .type "tuple"] = some (isSeq d) := by
  have kt : ∀ {t : String} {b1 b2 : Bool}, kitB t "list" = some b1 → kitB t "tuple" = some b2 → PySem.W.kitAny K (.type t) [.type "list", .type "tuple"] = some (b1 || b2) := fun {t b1 b2} h1 h2 =>
    kitAny_cons (b := b1) (kit_ty h1) (fun e => by subst e; exact kitAny_cons (b := b2) (kit_ty h2) (fun e => by subst e; exact kitAny_nil) fun e => by subst e; rfl) fun e => by subst e; rfl
  cases d with
  | none => exact kt (t := "NoneType") (b1 := false) (b2 := false) (by decide +kernel) (by decide +kernel)
  | bool b => exact kt (t := "bool") (b1 := false) (b2 := false) (by decide +kernel) (by decide +kernel)
  | int b => exact kt (t := "int") (b1 := false) (b2 := false) (by decide +kernel) (by decide +kernel)
  | str b => exact kt (t := "str") (b1 := false) (b2 := false) (by decide +kernel) (by decide +kernel)
  | list b => exact kt (t := "list") (b1 := true) (b2 := false) (by decide +kernel) (by decide +kernel)
  | tuple b => exact kt (t := "tuple") (b1 := false) (b2 := true) (by decide +kernel) (by decide +kernel)
  | dict b => exact kt (t := "dict") (b1 := false) (b2 := false) (by decide +kernel) (by decide +kernel)
/-- a list or a tuple of the call's own -/
def SeqH (H : Hp) (a : Addr) (xs : List V) : Prop := H a = some (.lst xs) ∨ H a = some (.tup xs)
theorem SeqH.same {H H' : Hp} {a : Addr} {xs : List V} (h : SeqH H a xs) (s : Same H H') : SeqH H' a xs := h.imp (s _ _) (s _ _)
theorem SeqH.len {K : PySem.W.Frag} {H : Hp} {a : Addr} {xs : List V} (h : SeqH H a xs) : SqL K H a xs ∨ SqT K H a xs := h.imp sq st
theorem Dv.seq {H : Hp} {v : V} {d : PyData} (h : Dv H v d) (hs : isSeq d = true) : ∃ a xs, v = .ref a ∧ SeqH H a xs ∧ DvA H xs (itemsD d) := by
  cases h with
  | lst e r => exact ⟨_, _, rfl, .inl e, r⟩
  | tup e r => exact ⟨_, _, rfl, .inr e, r⟩
  | _ => cases hs
theorem Dv.tupD {H : Hp} {v : V} {d : PyData} (h : Dv H v d) (hs : isTup d = true) : ∃ a xs, v = .ref a ∧ H a = some (.tup xs) ∧ DvA H xs (itemsD d) ∧ d = .tuple (itemsD d) := by
  cases h with
  | tup e r => exact ⟨_, _, rfl, e, r, rfl⟩
  | _ => cases hs
/-- what a walk over a list or a tuple asks -/
def SeqR (K : PySem.W.Frag) (a : Addr) (H : Hp) (R : It → Hp → Prop) : Prop := ((∃ xs, SqL K H a xs) ∧ R (Itl K a) H) ∨ ((∃ xs, SqT K H a xs) ∧ R (Itt K a) H)
def ZipR (K : PySem.W.Frag) (a b : Addr) (xs ys : List V) (H : Hp) (R : It → Hp → Prop) : Prop := (SqL K H a xs ∧ SqL K H b ys ∧ R (Itz K a b) H) ∨ (SqT K H a xs ∧ SqT K H b ys ∧ R (ItzT K a b) H)
/-- a walk of a list or a tuple of the call's own -/
theorem seq_walk {K : PySem.W.Frag} {H : Hp} {a : Addr} {xs : List V} {R : It → Hp → Prop} (h : SeqH H a xs)
    (k : ∀ (J : It) (Gd : Hp → Prop), Walk J xs.length Gd (YAt xs) → (∀ H', Same H H' → Gd H') → R J H) : SeqR K a H R := by
  rcases h with h | h
  · exact .inl ⟨⟨xs, sq h⟩, k _ _ walk_list fun H' s => sq (s _ _ h)⟩
  · exact .inr ⟨⟨xs, st h⟩, k _ _ walk_tup fun H' s => st (s _ _ h)⟩
theorem walk_zipT {K : PySem.W.Frag} {a b : Addr} {xs ys : List V} {n : Nat} (hn : n = min xs.length ys.length) : Walk (ItzT K a b) n (fun H => SqT K H a xs ∧ SqT K H b ys) (YPair (fun i => xs[i]?) (fun i => ys[i]?)) := by
  subst hn
  refine ⟨fun i _ hi q => ?_, fun _ q => ⟨xs, ys, q.1, q.2, by omega⟩, fun i H v H' _ q y => ?_⟩
  · have h1 : i < xs.length := by omega
    have h2 : i < ys.length := by omega
    exact ⟨xs, ys, xs[i], ys[i], q.1, q.2, by simp [h1], by simp [h2]⟩
  · obtain ⟨T, x, z, h1, h2, h3, h4, h5⟩ := y
    exact ⟨T, x, z, h1, h2, h3, h4 xs q.1, h5 ys q.2⟩
theorem zip_walkL {K : PySem.W.Frag} {H : Hp} {a b : Addr} {xs ys : List V} {R : It → Hp → Prop} (h1 : H a = some (.lst xs)) (h2 : H b = some (.lst ys))
    (k : ∀ (J : It) (Gd : Hp → Prop), Walk J (min xs.length ys.length) Gd (YPair (fun i => xs[i]?) (fun i => ys[i]?)) → (∀ H', Same H H' → Gd H') → R J H) : ZipR K a b xs ys H R :=
  .inl ⟨sq h1, sq h2, k _ _ (walk_zip rfl) fun H' s => ⟨sq (s _ _ h1), sq (s _ _ h2)⟩⟩
theorem zip_walkT {K : PySem.W.Frag} {H : Hp} {a b : Addr} {xs ys : List V} {R : It → Hp → Prop} (h1 : H a = some (.tup xs)) (h2 : H b = some (.tup ys))
    (k : ∀ (J : It) (Gd : Hp → Prop), Walk J (min xs.length ys.length) Gd (YPair (fun i => xs[i]?) (fun i => ys[i]?)) → (∀ H', Same H H' → Gd H') → R J H) : ZipR K a b xs ys H R :=
  .inr ⟨st h1, st h2, k _ _ (walk_zipT rfl) fun H' s => ⟨st (s _ _ h1), st (s _ _ h2)⟩⟩
structure Bj (mg : Str → Option Value) : Prop extends Bi mg where
  all : mg "all" = none
  zip : mg "zip" = none
section
variable {X : Cx} {K : PySem.W.Frag}
theorem sl_seqK (h : X.K = K) : SlR X (fun x lo hi H Q => rSlL K x lo hi H Q ∨ rSlA K x lo hi H Q) := by subst h; exact SlR.or sl_list sl_tupA
theorem call_isiK1 (h : X.K = K) : CallR X (.builtin "isinstance") (rIsi K) := by subst h; exact call_isi
theorem call_isiTK (h : X.K = K) : CallR X (.builtin "isinstance") (rIsiT K) := by subst h; exact call_isiT
theorem cr_allK (h : X.K = K) (hc : X.calm = true) : CallR X (.builtin "all") (rAll K) := by subst h; exact cr_all hc
theorem ix_seqK (h : X.K = K) : IxR X (rIx K) := by subst h; exact ix_seq
theorem pe_const {x : Str} {pos : Pos} {n : Int} (hm : ∃ t, X.mg x = some (.int n t)) (hg : Gl X x) (hd : (x == ("__debug__" : Str)) = false := by decide) : PE X (.Name x pos) (tC (.int n)) := by
  obtain ⟨t, hm⟩ := hm
  exact pe_glob hg hm ⟨t, rfl⟩ hd
/-- a walk over a list or a tuple -/
def iSeq (K : PySem.W.Frag) (tl : TE) : TI := fun σ H R => tl σ H fun x H1 => ∃ a, x = .ref a ∧ SeqR K a H1 R
theorem pi_seqK {tg l : Expr} {tl : TE} (h : X.K = K) (hl : PE X l tl) : PI X tg l (iSeq K tl) := by
  subst h
  refine ⟨fun pins s σ H R I h => ?_⟩
  refine thn (hl.run pins s σ H _ I h) fun v s1 ⟨x, H1, I1, r1, q1⟩ => ?_
  obtain ⟨a, e, q1⟩ := q1
  subst e
  cases r1
  have fr : ∀ b ∈ [s1.heap.objs.size], FpOk X pins H1 b := fun b hb => by
    have e : b = s1.heap.objs.size := by simpa using hb
    subst e
    exact I1.fpOk (Nat.le_refl _) (I1.hok.fresh (Nat.le_refl _))
  rcases q1 with ⟨⟨xs, hq⟩, q⟩ | ⟨⟨xs, hq⟩, q⟩
  · obtain ⟨its, rv, p, hz⟩ := I1.list hq
    refine wpAny_pyIter_list p.isList ?_
    exact ⟨s1.heap.objs.size, [s1.heap.objs.size], _, _, H1, rfl, I1.kept (t' := s1.toks) fun b o e => Heap.get?_push_of_some _ e, turn_list a _, ⟨_, Heap.get?_push_size _ rfl, rfl, rfl⟩, fr, q⟩
  · obtain ⟨its, rv, p, hz⟩ := I1.tuple hq
    refine wpAny_pyIter_tuple (show s1.heap.IsTuple a its.toArray from p) ?_
    exact ⟨s1.heap.objs.size, [s1.heap.objs.size], _, _, H1, rfl, I1.kept (t' := s1.toks) fun b o e => Heap.get?_push_of_some _ e, turn_tuple a _, ⟨_, Heap.get?_push_size _ rfl, rfl, rfl⟩, fr, q⟩
def iZipS (K : PySem.W.Frag) (ta : TA) : TI := fun σ H R => ta σ H fun vs H1 => ∃ a b xs ys, vs = [.ref a, .ref b] ∧ ZipR K a b xs ys H1 R
theorem pi_zipSK {e e2 : Expr} {ta : TA} {p pos tpos : Pos} {elts : List Expr} {kk : Nat} (h : X.K = K) (hg : Gl X "zip") (hm : X.mg "zip" = none) (ha : PA X [e, e2] ta)
    (hs : starEach [e, e2] X.env = (false, eval e X.env) :: starEach [e2] X.env := by rfl) (hpl : (backTo pos (starEach [e2] X.env)).any (·.1) = false := by rfl) :
    PI X (.Tuple elts kk tpos) (.Call (.Name "zip" p) [e, e2] [] pos) (iZipS K ta) := by subst h; exact pi_zipA hg hm ha hs hpl
end
end K1


set_option Elab.async false
set_option linter.all false
set_option maxRecDepth 100000
set_option maxHeartbeats 400000
/-! a lambda with one parameter handed to a def or a method that calls it -/
namespace LamY
open PySem PySem.Spec PyProof.Rows L2 LamX
/-- one parameter xp, no other name of its own: captured ones and globals -/
structure LamS1 (sc scope : Scope) (xp : Str) : Prop where
  kind : scope.kind = .function
  co : scope.isCoroutine = false
  gen : scope.isGenerator = false
  own : ∀ y ∈ scope.names, y.2 ≠ .cell ∧ (y.2 = .local → y.1 = xp)
  par : scope.names.lookup xp = some .local
  free : ∀ y ∈ scope.names, y.2 = .free → sc.names.lookup y.1 = some .cell ∨ sc.names.lookup y.1 = some .free
def lamSB1 (sc scope : Scope) (xp : Str) : Bool :=
  decide (scope.kind = .function) && !scope.isCoroutine && !scope.isGenerator && decide (scope.names.lookup xp = some .local) && scope.names.all fun y => !decide (y.2 = .cell) && (!decide (y.2 = .local) || decide (y.1 = xp)) && (!decide (y.2 = .free) || decide (sc.names.lookup y.1 = some .cell) || decide (sc.names.lookup y.1 = some .free))
theorem lamS1_by {sc scope : Scope} {xp : Str} (h : lamSB1 sc scope xp = true) : LamS1 sc scope xp := by
  unfold lamSB1 at h
  simp only [Bool.and_eq_true, Bool.or_eq_true, Bool.not_eq_true', decide_eq_true_eq, decide_eq_false_iff_not, List.all_eq_true] at h
  obtain ⟨⟨⟨⟨h1, h2⟩, h3⟩, h5⟩, h4⟩ := h
  refine ⟨h1, h2, h3, fun y hy => ⟨(h4 y hy).1.1, fun e => (h4 y hy).1.2.elim (fun z => absurd e z) id⟩, h5, fun y hy e => ?_⟩
  rcases (h4 y hy).2 with (z | z) | z
  · exact absurd e z
  · exact .inl z
  · exact .inr z
theorem LamS1.has {X : Cx} {scope : Scope} {xp : Str} (L : LamS1 X.env.scope scope xp) (ok : X.Ok) : ∀ y ∈ scope.names, y.2 = .free → ∃ c, X.env.cells.lookup y.1 = some c := fun y hy e => by
  rcases L.free y hy e with k | k
  · exact ok.has _ (.inl k)
  · exact ok.has _ (.inr k)
/-- the context of the lambda's body, entered at s from the frames outer; its parameter is the last slot -/
def lamCx1 (X : Cx) (A : Around) (outer : List Env) (s : Shared) (H : Hp) (E : XK) (scope : Scope) (xp : Str) (f c' : Addr) : Cx := { lamCx X A outer s H E scope f c' with N := X.N ++ [xp] }
section
variable {X : Cx} {pins : List (Addr × Obj)} {σ : L2.St} {H HZ : Hp} {s s1 : Shared}
theorem lam_start1 {A : Around} {outer : List Env} {E : XK} {scope : Scope} {xp : Str} {f c' : Addr} {h₁ : Heap} {tk : Nat} {v : V} {u : Value} (I : Inv X pins σ H s) (L : LamS1 X.env.scope scope xp) (hxn : xp ∉ X.N) (rv : RelV v u) (e0 : Env0 X.prog X.w X.K X.mg X.base A outer s1 HZ) (hd : A.handled = none)
    (un : Un (frs X.stack) [] H HZ s.heap s1.heap) (hns : h₁.Ns s1.heap.objs.size fun y => ([(xp, u)] : List (Str × Value)).reverse.lookup y) (kp : ∀ b o, s1.heap.get? b = some o → h₁.get? b = some o) :
    Inv (lamCx1 X A outer s1 HZ E scope xp f c') [] (σ ++ [some v]) HZ { s1 with heap := h₁, toks := tk } := by
  have hfree := L.has I.ok
  have cm : ∀ {y c}, (cloFrom X.env.cells scope.names []).lookup y = some c → X.env.cells.lookup y = some c := fun {y c} e => by
    rcases cloFrom_mem (PySem.mem_of_lookup e) with hm | ⟨h1, h2⟩
    · cases hm
    · obtain ⟨c1, hc⟩ := hfree _ h1 rfl
      have hc : X.env.cells.lookup y = some c1 := hc
      have e2 : c = c1 := by
        rw [h2, hc] <;> rfl
      rw [e2]
      exact hc
  have look : ∀ {y}, scope.names.lookup y = some .free → ∃ c, (cloFrom X.env.cells scope.names []).lookup y = some c := fun {y} hl => by
    have hy : (y, NameKind.free) ∈ scope.names := PySem.mem_of_lookup hl
    exact mem_lookup (cloFrom_has (cells := X.env.cells) (acc := []) hy)
  have cellK : ∀ {c : Addr} {v : Option Value}, H c = none → s.heap.IsCell c v → h₁.IsCell c v := fun {c v} n ⟨o, ho, hd⟩ => by
    obtain ⟨sl, q⟩ := un.any ho n (by simp)
    exact ⟨_, kp _ _ q, hd⟩
  have noA : ∀ b : Addr, b ∉ (lamCx1 X A outer s1 HZ E scope xp f c').ex := fun b z => absurd (show b ∈ ([] : List Addr) from z) (by simp)
  refine ⟨⟨e0.mod, L.kind, rfl, rfl, Nat.le_refl _, fun y z c e1 e2 => I.ok.inj y z c (cm e1) (cm e2), fun y hy => ?_, fun y c z _ => ?_, fun _ => hd, Around.frames_deeper e0.frames, .inr ⟨rfl, rfl⟩, fun b z => absurd z (noA b), e0.bs, e0.bsz, fun b _ _ => noA b,
      fun b z => absurd z (noA b), e0.funs, e0.frf⟩,
    rfl, e0.bare, Un.kept kp, ⟨_, hns, fun i y v' e1 e2 e3 => ?_⟩, fun y c e => ?_, e0.hok.fresh (Nat.le_refl _), fun y c e => ?_, fun q hq => absurd (show q ∈ ([] : List (Addr × Obj)) ++ [] from hq) (by simp), e0.hok.kept kp, ?_⟩
  · have hy : scope.names.lookup y = some .cell ∨ scope.names.lookup y = some .free := hy
    rcases hy with hy | hy
    · exact absurd rfl (L.own _ (PySem.mem_of_lookup hy)).1
    · exact look hy
  · have z : false = true := z
    cases z
  · have e3 : Vis scope y := e3
    have e1 : (X.N ++ [xp])[i]? = some y := e1
    have hlen := I.len
    by_cases hi : i < X.N.length
    · have e1' : X.N[i]? = some y := by rw [List.getElem?_append_left hi] at e1; exact e1
      have e2' : σ[i]? = some (some v') := by rw [List.getElem?_append_left (by omega)] at e2; exact e2
      have hyN : y ∈ X.N := List.mem_of_getElem? e1'
      rcases e3 with k | k | k
      · exact absurd ((L.own _ (PySem.mem_of_lookup k)).2 rfl ▸ hyN) hxn
      · exact absurd rfl (L.own _ (PySem.mem_of_lookup k)).1
      · obtain ⟨m, hn, hl⟩ := I.loc
        have hvis : Vis X.env.scope y := (L.free _ (PySem.mem_of_lookup k) rfl).elim (fun k => .inr (.inl k)) (fun k => .inr (.inr k))
        obtain ⟨w', r, q⟩ := hl i y v' e1' e2' hvis
        obtain ⟨c2, h2⟩ := look k
        refine ⟨w', r, .inr ⟨.inr k, c2, h2, ?_⟩⟩
        have c1 := cm h2
        rcases q with ⟨k', _⟩ | ⟨_, c3, e', z⟩
        · have k' : X.env.scope.names.lookup y = some .local := k'
          rcases L.free _ (PySem.mem_of_lookup k) rfl with k2 | k2 <;> rw [show X.env.scope.names.lookup y = _ from k2] at k' <;> cases k'
        · rw [c1] at e'
          cases e'
          exact cellK (I.freeC y _ c1) z
    · have ei : i = X.N.length := by
        have := (List.getElem?_eq_some_iff.mp e1).1
        rw [List.length_append] at this
        have h1 : i < X.N.length + 1 := this
        omega
      subst ei
      have ey : xp = y := by
        rw [List.getElem?_append_right (Nat.le_refl _), Nat.sub_self] at e1
        exact Option.some.inj e1
      have ev : v = v' := by
        rw [List.getElem?_append_right (by omega), hlen, Nat.sub_self] at e2
        exact Option.some.inj (Option.some.inj e2)
      subst ey ev
      refine ⟨u, rv, .inl ⟨L.par, ?_⟩⟩
      show ([(xp, u)] : List (Str × Value)).reverse.lookup xp = some u
      simp [List.lookup]
  · obtain ⟨w', z⟩ := I.cell y c (cm e)
    exact ⟨w', cellK (I.freeC y c (cm e)) z⟩
  · obtain ⟨v, o, ho, hd⟩ := I.cell y c (cm e)
    exact un.free c o ho (I.freeC y c (cm e)) (by simp)
  · show (σ ++ [some v]).length = (X.N ++ [xp]).length
    rw [List.length_append, List.length_append, I.len]; rfl
/-- x(e), in the def that got the lambda, entered at s -/
theorem pe_act1 {Ng : List Str} {qg : Str} {sg : Scope} {g f c' : Addr} {cdg pm ctv : Value} {params : Arguments} {body : Expr} {scope : Scope} {xp : Str} {k i : Nat} {a : Str} {tb te : TE} {p1 p2 : Pos} {e : Expr}
    (I : Inv X pins σ H s) (L : LamS1 X.env.scope scope xp) (hxn : xp ∉ X.N) (hf : s.heap.get? f = some (PySem.W.kla_obj "<lambda>" (X.env.qual ++ "<lambda>") params body scope (cloFrom X.env.cells scope.names []) pm c' ctv)) (hfn : H f = none) (hfr : f ∉ frs X.stack)
    (hbind : ∀ u, bindArgs (PySem.W.kla_fn "<lambda>" (X.env.qual ++ "<lambda>") params body scope (cloFrom X.env.cells scope.names []) pm (.ref c') ctv) ⟨[u], []⟩ = pure [(xp, u)])
    (hr : Room (k + 1) (X.A.deeper (envOfC qg sg s.heap.objs.size g cdg)))
    (hbody : ∀ (A : Around) (outer : List Env) (s : Shared) (H : Hp), Room k (A.deeper (lamEnv X scope s.heap.objs.size f c')) → PE (lamCx1 X A outer s H C8.E0 scope xp f c') body tb)
    (hN : Ng[i]? = some a) (hv : Vis sg a) (he : PE (cxOf C8.CX0 X.prog X.w X.K X.mg X.base Ng qg sg g cdg X.A X.stack s H C8.E0).nox e te)
    (hd : (a == ("__debug__" : Str)) = false := by decide) (hcd : (a == ("__classdict__" : Str)) = false := by decide)
    (hst : starEach [e] (envOfC qg sg s.heap.objs.size g cdg) = [(false, eval e (envOfC qg sg s.heap.objs.size g cdg))] := by rfl) :
    PE (cxOf C8.CX0 X.prog X.w X.K X.mg X.base Ng qg sg g cdg X.A X.stack s H C8.E0).nox (.Call (.Name a p1) [e] [] p2)
      (fun σZ HZ Q => σZ[i]? = some (some (.ref f)) ∧ te σZ HZ fun v H2 => H2 c' = some (CodeO c' (X.env.qual ++ "<lambda>")) ∧ tb (σ ++ [some v]) H2 Q) := by
  refine ⟨fun pinsZ sZ σZ HZ Q IZ h => ?_⟩
  obtain ⟨hs, ht⟩ := h
  refine wpAny_Call_Name_kw (thn ((pe_var (pos := p1) (i := i) hN hv hd hcd).run pinsZ sZ σZ HZ (fun v H1 => v = .ref f ∧ H1 = HZ) IZ ⟨.ref f, hs, rfl, rfl⟩) fun u s1 ⟨v, H1, I1, r1, q1⟩ => ?_)
  obtain ⟨ev, eH⟩ := q1
  subst ev
  rw [eH] at I1
  obtain rfl : u = Value.ref f := r1
  have there : ∀ {H2 : Hp} {s2 : Shared}, Inv (cxOf C8.CX0 X.prog X.w X.K X.mg X.base Ng qg sg g cdg X.A X.stack s H C8.E0).nox pinsZ σZ H2 s2 → s2.heap.get? f = some (PySem.W.kla_obj "<lambda>" (X.env.qual ++ "<lambda>") params body scope (cloFrom X.env.cells scope.names []) pm c' ctv) := fun I2 => I2.base.keep f _ hf hfn hfr (fun z => nomatch (show f ∈ ([] : List Addr) from z))
  have ht' : tCons te tNil σZ HZ (fun vs H2 => match vs with | [v] => H2 c' = some (CodeO c' (X.env.qual ++ "<lambda>")) ∧ tb (σ ++ [some v]) H2 Q | _ => False) := ht
  refine PySem.W.callWith_F (e := e) (rest := []) ⟨_, _, _, _, there I1⟩ (thn ((pa_cons he pa_nil (hs := hst)).run p2 pinsZ s1 σZ HZ _ I1 ht') fun us s2 ⟨vs, H2, I2, r2, q2⟩ => ⟨⟨_, _, _, _, there I2⟩, ?_⟩) hst (by rfl)
  cases r2 with
  | nil => exact False.elim q2
  | cons rv rn =>
  cases rn with
  | cons _ _ => exact False.elim q2
  | nil =>
    rename_i v u2 hAP
    obtain ⟨hc, ht2⟩ := q2
    have of1 := there I2
    have un : Un (frs X.stack) [] H H2 s.heap s2.heap := I2.base
    obtain ⟨⟨oc, vs', t, hoc, hdc, hvc⟩, _, _⟩ := I2.hok c' _ hc
    have rc : codeAny (model X.prog X.w) (X.A.deeper (envOfC qg sg s.heap.objs.size g cdg)) (.call (.ref f) ⟨[u2], []⟩) (CR (L2.CX X.prog X.w) (envOfC qg sg s.heap.objs.size g cdg :: X.stack) X.prog X.w H2 s2 Q C8.E0) s2 := by
      refine PySem.W.kla_callFunE hr.depth of1 rfl L.co L.gen rfl ⟨c', oc, vs', t, rfl, hoc, hdc, hvc⟩ ?_
      rw [hbind]
      refine wpAny_pure (wpAny_newFunctionEnv (fun y hy => (L.own y hy).1) (fun y hy => ?_) (fun h₁ hns hsb => ⟨I2.nolimit.fresh _ hsb, ?_⟩) L.kind)
      · rw [List.mem_singleton.mp hy]; exact L.par
      show codeAny _ _ (.expr body (lamEnv X scope s2.heap.objs.size f c')) _ _
      have kp : ∀ b o, s2.heap.get? b = some o → h₁.get? b = some o := fun b o e => hsb.extBut b o (Nat.ne_of_lt (Heap.lt_size e)) (Heap.get?_push_of_some _ e)
      have J : L2.Inv (lamCx1 X (X.A.deeper (envOfC qg sg s.heap.objs.size g cdg)) (envOfC qg sg s.heap.objs.size g cdg :: X.stack) s2 H2 C8.E0 scope xp f c') [] (σ ++ [some v]) H2 { s2 with heap := h₁, toks := s2.toks + ([(xp, u2)] : List (Str × Value)).length } :=
        lam_start1 I L hxn rv I2.env0 hr.hd un hns kp
      refine PySem.W.kla_codeExpr (wpAny_mono ((hbody _ _ s2 H2 (hr.deeper _)).run [] _ _ H2 Q J ht2) (fun v s' hq => ?_) fun e s' hq => hq)
      obtain ⟨w', H', J', rv, q⟩ := hq
      exact ⟨w', H', J'.os, J'.bare, J'.base, J'.hok, rv, q⟩
    refine wpAny_call (codeAny_mono rc fun r s' hq => ?_)
    cases r with
    | error e =>
      obtain ⟨_, _, _, _, _, _, _, _, _, _, _, _, z⟩ := hq
      exact z.elim
    | ok fl =>
      cases fl with
      | ret u => exact I2.after hq
      | next => exact False.elim hq
      | brk => exact False.elim hq
      | cont => exact False.elim hq
end
/-- the method that calls what it got as its last argument: TT, what it makes of the lambda's reading -/
def GivesM (kk : Nat) (X : Cx) (Ng : List Str) (qg : Str) (sg : Scope) (g : Addr) (cdg : Value) (bg : List Stmt) (i : Nat) (a : Str) (q : Str) (TT : V → V → (V → Hp → VK → Prop) → Hp → VK → Prop) : Prop :=
  ∀ (f c' : Addr) (s : Shared) (H : Hp) (Q : VK) (x y : V) (tl : V → Hp → VK → Prop), Room kk (X.A.deeper (envOfC qg sg s.heap.objs.size g cdg)) →
    (∀ (e : Expr) (te : TE) (p1 p2 : Pos), PE (cxOf C8.CX0 X.prog X.w X.K X.mg X.base Ng qg sg g cdg X.A X.stack s H C8.E0).nox e te → starEach [e] (envOfC qg sg s.heap.objs.size g cdg) = [(false, eval e (envOfC qg sg s.heap.objs.size g cdg))] →
      PE (cxOf C8.CX0 X.prog X.w X.K X.mg X.base Ng qg sg g cdg X.A X.stack s H C8.E0).nox (.Call (.Name a p1) [e] [] p2) (fun σZ HZ Q => σZ[i]? = some (some (.ref f)) ∧ te σZ HZ fun v H2 => H2 c' = some (CodeO c' q) ∧ tl v H2 Q)) →
    H c' = some (CodeO c' q) → TT x y tl H Q →
    ∃ t, PSs (cxOf C8.CX0 X.prog X.w X.K X.mg X.base Ng qg sg g cdg X.A X.stack s H C8.E0).nox bg t ∧ t { nx := fun _ H' => Q .non H', rt := Q } (L2.start Ng [x, y, .ref f]) H
def tMethLam (T : List (Addr × Str)) (C : Addr) (m : Str) (TT : V → V → (V → Hp → VK → Prop) → Hp → VK → Prop) (ta te tb : TE) : TE := fun σ H Q => ta σ H fun x H1 => ∃ a dx fs, x = .ref a ∧ H1 a = some (.ins C dx fs) ∧ fs.lookup m = none ∧
  te σ H1 fun y H2 => Tabs T H2 ∧ ∀ H3, ExtN H2 H3 → Tabs T H3 → TT x y (fun v H' Q' => tb (σ ++ [some v]) H' Q') H3 Q
section
variable {X : Cx}
/-- o.m(e, lambda xp: body) -/
theorem pe_methlam {T : List (Addr × Str)} {TT : V → V → (V → Hp → VK → Prop) → Hp → VK → Prop} {C g c P : Addr} {m xp a1 a2 a : Str} {k : Nat} {qg : Str} {pg : Arguments} {bg : List Stmt} {sg : Scope} {dV kV doc pm cdv ct oc : Value} {an od : Option Addr} {osl : Array (Option Value)} {Ng : List Str}
    {o e : Expr} {params : Arguments} {body : Expr} {scope : Scope} {ta te tb : TE} {apos lpos pos : Pos} {pl : Sem Bool} (ho : PE X o ta) (cC : Cls X.K C) (hm : Meth X.K C m g) (he : PE X e te)
    (lk : X.K.lookup g = some ⟨oc, od, .func (PySem.W.fnOf m qg pg bg sg dV kV doc pm an cdv ct), osl⟩) (hcg : PySem.W.codeIn X.K cdv qg = true) (hb : L2.Binds X.K (PySem.W.fnOf m qg pg bg sg dV kV doc pm an cdv ct) [a1, a2, a] []) (Sg : FnScope Ng [a1, a2, a] sg) (hNg : Ng[2]? = some a) (hva : Vis sg a)
    (hG : GivesM (k + 1) X Ng qg sg g cdv bg 2 a (X.env.qual ++ "<lambda>") TT)
    (TB : TabB X.base X.mg c P) (hcode : X.env.code = .ref c) (hmT : (P, X.env.qual ++ "<lambda>") ∈ T) (hu : ∀ p ∈ T, p.1 = P → p.2 = X.env.qual ++ "<lambda>") (hr : Room (k + 2) X.A) (L : LamS1 X.env.scope scope xp) (hxn : xp ∉ X.N) (hdef : defaultsOf params X.env = ([], []))
    (hbind : ∀ (q : Str) (cl : List (Str × Addr)) (pm cv ctv u : Value), bindArgs (PySem.W.kla_fn "<lambda>" q params body scope cl pm cv ctv) ⟨[u], []⟩ = pure [(xp, u)])
    (hbody : ∀ (A : Around) (outer : List Env) (s : Shared) (H : Hp) (f c' : Addr), Room k (A.deeper (lamEnv X scope s.heap.objs.size f c')) → PE (lamCx1 X A outer s H C8.E0 scope xp f c') body tb)
    (hd : (a == ("__debug__" : Str)) = false := by decide) (hcd : (a == ("__classdict__" : Str)) = false := by decide)
    (hst : starEach [e, .Lambda params body scope lpos] X.env = (false, eval e X.env) :: starEach [.Lambda params body scope lpos] X.env := by rfl) (hpl : (backTo pos (starEach [.Lambda params body scope lpos] X.env)).any (·.1) = false := by rfl)
    (ht : eval (.Call (.Attribute o m apos) [e, .Lambda params body scope lpos] [] pos) X.env = (do
      let ov ← eval o X.env
      standAt apos.atName
      let (f, first) ← holding [ov] (getMethod ov m pl)
      callWith pos f first (backTo pos (starEach [e, .Lambda params body scope lpos] X.env)) (backToKw pos (keywordEach [] X.env))) := by rfl) :
    PE X (.Call (.Attribute o m apos) [e, .Lambda params body scope lpos] [] pos) (tMethLam T C m TT ta te tb) := by
  refine ⟨fun pins s σ H Q I h => ?_⟩
  refine PySem.W.methodCall_KW (pl := pl) (thn (ho.run pins s σ H _ I h) fun u s1 ⟨x, H1, I1, rx, a0, dx, fs, ex, ea, l, q⟩ => ?_) ht
  subst ex
  obtain rfl : u = Value.ref a0 := rx
  refine getmeth_ok I1 ea cC hm l ?_
  refine PySem.W.callWith_K (first := [.ref a0]) (h₀ := X.base) I.ok.mod.kin hm.kp ?_ hst hpl
  rw [hst]
  refine Calls.spliced_cons (thn (he.run pins s1 σ H1 _ I1 q) fun u2 s2 ⟨y, H2, I2, ry, hT, q2⟩ => ?_)
  show wpAny _ _ (spliced ((false, eval (.Lambda params body scope lpos) X.env) :: backTo pos (starEach [] X.env))) _ _ s2
  refine Calls.spliced_cons (lam_make2 I2 TB hcode hmT hu hT hdef (L.has I.ok) fun f c' pm' ctv H3 s' I3 eN T1 hf hfn hfr hco => ?_)
  refine Calls.spliced_nil ⟨I3.kIn, ?_⟩
  have rc : codeAny (model X.prog X.w) X.A (.call (.ref g) ⟨[.ref a0, u2, .ref f], []⟩) (CR C8.CX0 X.stack X.prog X.w H3 s' Q C8.E0) s' := by
    refine run_ofS (N := Ng) (ps := [a1, a2, a]) (us := [.ref a0, u2, .ref f]) (vs := [.ref a0, y, .ref f]) lk hcg Sg hr I3.env0 (hb s' [.ref a0, u2, .ref f] I3.kIn rfl) (.cons rfl (.cons ry (.cons rfl .nil))) rfl fun hr' => ?_
    obtain ⟨t', ht', hq'⟩ := hG f c' s' H3 Q (.ref a0) y (fun v H' Q' => tb (σ ++ [some v]) H' Q') hr' (fun e te p1 p2 he' hst' => pe_act1 (i := 2) I3 L hxn hf hfn hfr (fun u => hbind _ _ _ _ _ u) hr' (fun A outer s H hr2 => hbody A outer s H f c' hr2) hNg hva he' hd hcd hst') hco (q2 H3 eN T1)
    exact ⟨t', ht'.nox, hq'⟩
  refine wpAny_call (codeAny_mono rc fun r s2 hq => ?_)
  cases r with
  | error e => exact (show False from hq).elim
  | ok fl =>
    cases fl with
    | ret u => exact I3.after hq
    | next => exact False.elim hq
    | brk => exact False.elim hq
    | cont => exact False.elim hq
end
end LamY


set_option Elab.async false
set_option linter.all false
set_option maxRecDepth 100000
set_option maxHeartbeats 2000000
namespace K1
open PySem PySem.Spec PyProof.Rows L2 RZ
/-- what is never reached -/
theorem pss_any {X : Cx} {b : List Stmt} : PSs X b (fun _ _ _ => False) := ⟨fun _ _ _ _ _ _ h => h.elim⟩
structure Bk (mg : Str → Option Value) : Prop extends Bj mg where
  set : mg "set" = none
  dict : mg "dict" = none
structure Cs (mg : Str → Option Value) : Prop where
  MOST_SIGNS : ∃ t, mg "MOST_SIGNS" = some (.int 6 t)
  LONGEST_SIGN : ∃ t, mg "LONGEST_SIGN" = some (.int 8 t)
abbrev sIsInt : Stmt := st_is_integer
abbrev sIsNum : Stmt := st_is_number
abbrev sIsBody : Stmt := st_is_body
abbrev sIsSign : Stmt := st_is_sign
abbrev sIsSigns : Stmt := st_is_signs
abbrev sIsNums : Stmt := st_is_numbers
abbrev nV : List Str := ["value"]
abbrev pV : List Str := ["value"]
theorem scIsInt : FnScope nV pV (defScope sIsInt) := ⟨rfl, rfl, rfl, by decide +kernel, rfl, by decide +kernel, by decide +kernel⟩
theorem scIsNum : FnScope nV pV (defScope sIsNum) := ⟨rfl, rfl, rfl, by decide +kernel, rfl, by decide +kernel, by decide +kernel⟩
theorem scIsBody : FnScope nV pV (defScope sIsBody) := ⟨rfl, rfl, rfl, by decide +kernel, rfl, by decide +kernel, by decide +kernel⟩
abbrev nIsSign : List Str := ["value", "letter"]
theorem scIsSign : FnScope nIsSign pV (defScope sIsSign) := ⟨rfl, rfl, rfl, by decide +kernel, rfl, by decide +kernel, by decide +kernel⟩
abbrev nIsSigns : List Str := ["value", "ahead", "sign"]
theorem scIsSigns : FnScope nIsSigns pV (defScope sIsSigns) := ⟨rfl, rfl, rfl, by decide +kernel, rfl, by decide +kernel, by decide +kernel⟩
abbrev nIsNums : List Str := ["value", "number"]
theorem scIsNums : FnScope nIsNums pV (defScope sIsNums) := ⟨rfl, rfl, rfl, by decide +kernel, rfl, by decide +kernel, by decide +kernel⟩
/-! ### signs -/
def inAZ (c : Nat) : Bool := (!decide ([c] < ("a" : Str).cps.toList)) && !decide (("z" : Str).cps.toList < [c])
def okS (s : Str) : Bool := decide (1 ≤ s.length) && decide (s.length ≤ 8) && s.cps.toList.all inAZ
def goSs : Str → List Str → Bool
  | _, [] => true
  | a, s :: r => okS s && decide (a.cps.toList < s.cps.toList) && goSs s r
def okSs (ss : List Str) : Bool := decide (ss.length ≤ 6) && goSs "" ss
def spInt : Sp := fun vs H Q _ => ∃ n : Int, vs = [.int n] ∧ Q (.bl true) H
def spNum : Sp := fun vs H Q _ => ∃ n : Int, vs = [.int n] ∧ 1 ≤ n ∧ Q (.bl true) H
def spBody : Sp := fun vs H Q _ => ∃ n : Int, vs = [.int n] ∧ 0 ≤ n ∧ Q (.bl true) H
def spSign : Sp := fun vs H Q _ => ∃ s : Str, vs = [.str s] ∧ okS s = true ∧ ∀ H', Same H H' → Q (.bl true) H'
def spSigns : Sp := fun vs H Q _ => ∃ (a : Addr) (ss : List Str), vs = [.ref a] ∧ H a = some (.tup (ss.map V.str)) ∧ okSs ss = true ∧ ∀ H', Same H H' → Q (.bl true) H'
def spNums : Sp := fun vs H Q _ => ∃ (a : Addr) (ns : List Int), vs = [.ref a] ∧ SeqH H a (ns.map V.int) ∧ (∀ n ∈ ns, 1 ≤ n) ∧ ns.length ≤ 1000 ∧ ∀ H', Same H H' → Q (.bl true) H'
section
variable {P : Program} {w : World} {K : PySem.W.Frag} {mg : Str → Option Value} {base : Heap}
theorem ok_isInt {f : Addr} {fd : FuncData} (T : Bk mg) (F : Fun K "is_integer" "is_integer" sIsInt f fd) : FnOk P w K mg base CX0 1 f fd pV spInt := by
  refine F.ok scIsInt (fun vs H Q E h => ?_) (fun cdv A outer s H vs Q E hr h => ?_)
  · obtain ⟨n, rfl, _⟩ := h
    rfl
  · obtain ⟨n, rfl, q⟩ := h
    refine ⟨_, (pss_one (ps_ret (pe_and (pe_callB (call_isiK1 (K := K) rfl) (by rfl) T.isinstance PyProof.Rows.boot_isinstance (pa_cons (pv 0) (pa_cons (pe_bltn (v := .ty "int") rfl T.int PyProof.Rows.boot_int rfl) pa_nil))) (pe_one (pe_not (pe_callB (call_isiK1 (K := K) rfl) (by rfl) T.isinstance PyProof.Rows.boot_isinstance (pa_cons (pv 0) (pa_cons (pe_bltn (v := .ty "bool") rfl T.bool PyProof.Rows.boot_bool rfl) pa_nil)))))))), ?_⟩
    exact ⟨_, rfl, .int n, .ty "int", .type "int", .type "int", true, rfl, .ty _, .base (.int n), kit_ty (by decide +kernel), _, rfl, itbT rfl ⟨_, rfl, .int n, .ty "bool", .type "int", .type "bool", false, rfl, .ty _, .base (.int n), kit_ty (by decide +kernel), _, rfl, q⟩⟩
theorem ok_isNum {f : Addr} {fd : FuncData} (D_is_integer : Def P w K mg base CX0 1 "is_integer" pV spInt) (F : Fun K "is_number" "is_number" sIsNum f fd) : FnOk P w K mg base CX0 2 f fd pV spNum := by
  refine F.ok scIsNum (fun vs H Q E h => ?_) (fun cdv A outer s H vs Q E hr h => ?_)
  · obtain ⟨n, rfl, _⟩ := h
    rfl
  · obtain ⟨n, rfl, h1, q⟩ := h
    refine ⟨_, (pss_one (ps_ret (pe_and (pe_def D_is_integer (hr.mono (by decide)) rfl pass0 (pa_cons (pv 0) pa_nil)) (pe_one (pe_cmpR op_ge (pv 0) pe_int (nomark _)))))), ?_⟩
    refine ⟨_, rfl, n, rfl, _, rfl, itbT rfl ⟨_, rfl, _, _, rfl, rfl, ?_⟩⟩
    show Q (.bl (decide (1 ≤ n))) H
    rw [decide_eq_true h1]; exact q
theorem ok_isBody {f : Addr} {fd : FuncData} (D_is_integer : Def P w K mg base CX0 1 "is_integer" pV spInt) (F : Fun K "is_body" "is_body" sIsBody f fd) : FnOk P w K mg base CX0 2 f fd pV spBody := by
  refine F.ok scIsBody (fun vs H Q E h => ?_) (fun cdv A outer s H vs Q E hr h => ?_)
  · obtain ⟨n, rfl, _⟩ := h
    rfl
  · obtain ⟨n, rfl, h1, q⟩ := h
    refine ⟨_, (pss_one (ps_ret (pe_and (pe_def D_is_integer (hr.mono (by decide)) rfl pass0 (pa_cons (pv 0) pa_nil)) (pe_one (pe_cmpR op_ge (pv 0) pe_int (nomark _)))))), ?_⟩
    refine ⟨_, rfl, n, rfl, _, rfl, itbT rfl ⟨_, rfl, _, _, rfl, rfl, ?_⟩⟩
    show Q (.bl (decide (0 ≤ n))) H
    rw [decide_eq_true h1]; exact q
theorem ok_isSign {f : Addr} {fd : FuncData} (T : Bk mg) (C : Cs mg) (F : Fun K "is_sign" "is_sign" sIsSign f fd) : FnOk P w K mg base CX0 1 f fd pV spSign := by
  have nd := scIsSign.nd
  refine F.ok scIsSign (fun vs H Q E h => ?_) (fun cdv A outer s H vs Q E hr h => ?_)
  · obtain ⟨z, rfl, _⟩ := h
    rfl
  · obtain ⟨z, rfl, hz, q⟩ := h
    refine ⟨_, (pss_cons (ps_if (PW.pt (pw_or (pt_not (pt_val (pe_callB (call_isiK1 (K := K) rfl) (by rfl) T.isinstance PyProof.Rows.boot_isinstance (pa_cons (pv 0) (pa_cons (pe_bltn (v := .ty "str") rfl T.str PyProof.Rows.boot_str rfl) pa_nil))))) (pw_or1 (pt_not (pt_chain op_le op_le pe_int (pe_callB call_len_str (by rfl) T.len PySem.boot_len (pa_cons (pv 0) pa_nil)) (pe_const C.LONGEST_SIGN rfl))))))
  (pss_one (ps_ret pe_bl))
  pss_nil)
 (pss_one (ps_ret (pe_callB (cr_allK (K := K) rfl rfl) (by rfl) T.all PyProof.Rows.boot_all (pa_cons (pe_lc (own := [("letter", 1)]) (g := gName 1) (tt := tYes) rfl nd (pi_str (pv 0)) (blkOk_by (own := [("letter", 1)]) (N := nIsSign) (sc := defScope sIsSign) (by decide +kernel)) (fun _ _ _ _ _ => pg_name (i := 1) nd rfl (Or.inl rfl)) (fun _ _ _ _ _ => pts_nil) (fun _ _ _ _ _ => (pe_chain op_le_str op_le_str pe_str (pv 1) pe_str))) pa_nil))))), ?_⟩
    unfold okS at hz
    rw [Bool.and_eq_true, Bool.and_eq_true] at hz
    obtain ⟨⟨z1, z2⟩, z3⟩ := hz
    have z1 := of_decide_eq_true z1
    have z2 := of_decide_eq_true z2
    refine ⟨_, rfl, .str z, .ty "str", .type "str", .type "str", true, rfl, .ty _, .base (.str z), kit_ty (by decide +kernel), _, rfl, itbF rfl ?_⟩
    refine ⟨_, rfl, z, rfl, lt1 _ (by omega), _, _, rfl, rfl, _, rfl, itbT (decide_eq_true (show (1 : Int) ≤ z.length by omega)) ⟨_, _, rfl, rfl, _, rfl, itbF (by rw [decide_eq_true (show (z.length : Int) ≤ 8 by omega)]; rfl) ?_⟩⟩
    refine ⟨_, rfl, z, rfl, fun D hD => ?_⟩
    refine lc_it walk_str (fun i H2 => Same H H2 ∧ H2 D = some (.lst ((List.replicate i true).map V.bl))) ⟨same_new hD, upd_same⟩ (fun _ _ _ _ => True.intro) ?_ ?_
    · rintro i x H2 H3 hi ⟨s2, h2⟩ ⟨rfl, c, hc, rfl⟩
      have hcm : c ∈ z.cps.toList := Array.mem_toList_iff.mpr (Array.mem_of_getElem? hc)
      have haz := List.all_eq_true.mp z3 c hcm
      unfold inAZ at haz
      rw [Bool.and_eq_true] at haz
      have hi8 : i < z.length := hi
      have fin : ∃ acc, H3 D = some (.lst acc) ∧ acc.length < sizeLine ∧ (Same H (upd H3 D (.lst (acc ++ [V.bl true]))) ∧ (upd H3 D (.lst (acc ++ [V.bl true]))) D = some (.lst ((List.replicate (i + 1) true).map V.bl))) :=
        ⟨_, h2, lt2 _ (by rw [List.length_map, List.length_replicate]; omega), s2.mut hD, by rw [upd_same, List.replicate_succ', List.map_append]; rfl⟩
      refine ⟨rfl, tyes ⟨_, rfl, _, _, rfl, rfl, _, rfl, ?_⟩⟩
      refine itbT haz.1 ⟨_, _, rfl, rfl, ?_⟩
      rw [haz.2]
      exact fin
    · rintro H2 ⟨s2, h2⟩
      exact ⟨D, _, rfl, sq h2, by show Q (.bl ((List.replicate z.cps.size true).all id)) H2; rw [show (List.replicate z.cps.size true).all id = true by simp]; exact q _ s2⟩
theorem ok_isSigns {f : Addr} {fd : FuncData} (T : Bk mg) (C : Cs mg) (D_is_sign : Def P w K mg base CX0 1 "is_sign" pV spSign) (F : Fun K "is_signs" "is_signs" sIsSigns f fd) : FnOk P w K mg base CX0 2 f fd pV spSigns := by
  have nd := scIsSigns.nd
  refine F.ok scIsSigns (fun vs H Q E h => ?_) (fun cdv A outer s H vs Q E hr h => ?_)
  · obtain ⟨a, ss, rfl, _⟩ := h
    rfl
  · obtain ⟨a, ss, rfl, ha, ho, q⟩ := h
    refine ⟨_, (pss_cons (ps_if (PW.pt (pw_or (pt_not (pt_val (pe_callB (call_isiK1 (K := K) rfl) (by rfl) T.isinstance PyProof.Rows.boot_isinstance (pa_cons (pv 0) (pa_cons (pe_bltn (v := .ty "tuple") rfl T.tuple PyProof.Rows.boot_tuple rfl) pa_nil))))) (pw_or1 (pt_cmpR op_gt (pe_callB (call_lenK (K := K) rfl) (by rfl) T.len PySem.boot_len (pa_cons (pv 0) pa_nil)) (pe_const C.MOST_SIGNS rfl) (nomark _)))))
  (pss_one (ps_ret pe_bl))
  pss_nil)
 (pss_cons (ps_set (i := 1) nd rfl (Or.inl rfl) pe_str)
 (pss_cons (ps_for PassesOwn.never rfl (pi_tupK (K := K) rfl (pv 0)) (pg_name (i := 2) nd rfl (Or.inl rfl))
  (pss_cons (ps_if (PW.pt (pw_or (pt_not (pt_val (pe_def D_is_sign (hr.mono (by decide)) rfl pass0 (pa_cons (pv 2) pa_nil)))) (pw_or1 (pt_cmpR op_le_str (pv 2) (pv 1) (nomark _)))))
  (pss_one (ps_ret pe_bl))
  pss_nil)
 (pss_one (ps_set (i := 1) nd rfl (Or.inl rfl) (pv 2)))))
 (pss_one (ps_ret pe_bl))))), ?_⟩
    unfold okSs at ho
    rw [Bool.and_eq_true] at ho
    have h6 := of_decide_eq_true ho.1
    refine ⟨_, rfl, .ref a, .ty "tuple", .type "tuple", .type "tuple", true, rfl, .ty _, .base (.tup ha), kit_ty (by decide +kernel), _, rfl, itbF rfl ?_⟩
    refine ⟨_, rfl, a, _, rfl, .inr (st ha), _, _, rfl, rfl, _, rfl, itbF (decide_eq_false (by rw [List.length_map]; omega)) ?_⟩
    refine ⟨_, rfl, a, rfl, ⟨_, st ha⟩, for_tup (K := K) (a := a) (xs := ss.map V.str) (fun i σ H1 => ∃ ah v2, σ = [some (.ref a), some (.str ah), v2] ∧ Same H H1 ∧ goSs ah (ss.drop i) = true) ?_ ?_ ?_ ?_⟩
    · exact ⟨"", none, rfl, fun _ _ h => h, ho.2⟩
    · rintro i σ H1 _ ⟨ah, v2, rfl, s1, _⟩
      exact st (s1 _ _ ha)
    · rintro i y σ H1 hy ⟨ah, v2, rfl, s1, hg⟩
      rw [List.getElem?_map] at hy
      cases he : ss[i]? with
      | none => rw [he] at hy; cases hy
      | some z =>
        rw [he] at hy
        obtain rfl := (Option.some.inj hy).symm
        have hi := lt_of_get he
        have e1 : ss.drop i = z :: ss.drop (i + 1) := by
          rw [List.drop_eq_getElem_cons hi]
          congr 1
          rw [List.getElem?_eq_getElem hi] at he
          exact Option.some.inj he
        rw [e1] at hg
        have hg' : (okS z && decide (ah.cps.toList < z.cps.toList) && goSs z (ss.drop (i + 1))) = true := hg
        rw [Bool.and_eq_true, Bool.and_eq_true] at hg'
        refine ⟨_, rfl, z, rfl, hg'.1.1, fun H2 s2 => ⟨_, rfl, itbF rfl ⟨_, rfl, _, rfl, _, _, rfl, rfl, _, rfl, itbF ?_ ⟨_, rfl, z, _, rfl, s1.trans s2, hg'.2⟩⟩⟩⟩
        rw [hg'.1.2]; rfl
    · rintro σ H1 ⟨ah, v2, rfl, s1, _⟩
      exact q _ s1
theorem ok_isNums {f : Addr} {fd : FuncData} (T : Bk mg) (D_is_number : Def P w K mg base CX0 2 "is_number" pV spNum) (F : Fun K "is_numbers" "is_numbers" sIsNums f fd) : FnOk P w K mg base CX0 3 f fd pV spNums := by
  have nd := scIsNums.nd
  refine F.ok scIsNums (fun vs H Q E h => ?_) (fun cdv A outer s H vs Q E hr h => ?_)
  · obtain ⟨a, ns, rfl, _⟩ := h
    rfl
  · obtain ⟨a, ns, rfl, ha, h1, hl, q⟩ := h
    refine ⟨_, (pss_one (ps_ret (pe_and (pe_callB (call_isiTK (K := K) rfl) (by rfl) T.isinstance PyProof.Rows.boot_isinstance (pa_cons (pv 0) (pa_cons (pe_tup (pa_cons (pe_bltn (v := .ty "list") rfl T.list PyProof.Rows.boot_list rfl) (pa_cons (pe_bltn (v := .ty "tuple") rfl T.tuple PyProof.Rows.boot_tuple rfl) pa_nil))) pa_nil))) (pe_one (pe_callB (cr_allK (K := K) rfl rfl) (by rfl) T.all PyProof.Rows.boot_all (pa_cons (pe_lc (own := [("number", 1)]) (g := gName 1) (tt := tYes) rfl nd (pi_seqK (K := K) rfl (pv 0)) (blkOk_by (own := [("number", 1)]) (N := nIsNums) (sc := defScope sIsNums) (by decide +kernel)) (fun _ _ _ _ _ => pg_name (i := 1) nd rfl (Or.inl rfl)) (fun _ _ _ _ _ => pts_nil) (fun _ _ _ _ _ => (pe_def D_is_number (hr.mono (by decide)) rfl pass0 (pa_cons (pv 1) pa_nil)))) pa_nil)))))), ?_⟩
    refine ⟨_, rfl, (by show 2 ≤ sizeLine; decide), fun tp ntp => ?_⟩
    have s1 := same_new (o := .tup [.ty "list", .ty "tuple"]) ntp
    obtain ⟨tn, ty, kt⟩ : ∃ tn : String, TyX K (upd H tp (.tup [.ty "list", .ty "tuple"])) (.ref a) (.type tn) ∧ PySem.W.kitAny K (.type tn) [.type "list", .type "tuple"] = some true := by
      rcases ha.same s1 with h | h
      · exact ⟨"list", .base (.lst h), kit_seq (.list [])⟩
      · exact ⟨"tuple", .base (.tup h), kit_seq (.tuple [])⟩
    refine ⟨.ref a, tp, [.ty "list", .ty "tuple"], .type tn, [.type "list", .type "tuple"], true, rfl, upd_same, .cons (.ty _) (.cons (.ty _) .nil), ty, kt, _, rfl, itbT rfl ?_⟩
    refine ⟨_, rfl, a, rfl, seq_walk (ha.same s1) fun J Gd wk hG D hD => ?_⟩
    generalize upd H tp (.tup [.ty "list", .ty "tuple"]) = H1 at s1 hD hG
    refine lc_it wk (fun i H2 => Same H1 H2 ∧ H2 D = some (.lst ((List.replicate i true).map V.bl)) ∧ i ≤ ns.length) ⟨same_new hD, upd_same, Nat.zero_le _⟩ (fun i H2 _ h => hG _ h.1) ?_ ?_
    · rintro i y H2 H3 hi ⟨s2, h2, hi2⟩ ⟨rfl, hy⟩
      obtain ⟨n, hn, rfl⟩ := getD_map hy
      exact ⟨rfl, tyes ⟨_, rfl, n, rfl, h1 n (List.mem_of_getElem? hn), _, h2, lt2 _ (by rw [List.length_map, List.length_replicate]; omega), s2.mut hD, by rw [upd_same, List.replicate_succ', List.map_append]; rfl, lt_of_get hn⟩⟩
    · rintro H2 ⟨s2, h2, _⟩
      exact ⟨D, _, rfl, sq h2, by show Q (.bl ((List.replicate (ns.map V.int).length true).all id)) H2; rw [show (List.replicate (ns.map V.int).length true).all id = true by simp]; exact q _ (s1.trans s2)⟩
end
end K1


set_option Elab.async false
set_option linter.all false
set_option maxRecDepth 100000
set_option maxHeartbeats 2000000
namespace K1
open PySem PySem.Spec PyProof.Rows L2 RZ StX
theorem eqv_str (a b : Str) : PyData.eqv (.str a) (.str b) = (a == b) := by simp [PyData.eqv]
def nS (ss : List Str) (s : Str) : List Str := ss.filter fun x => !decide (x = s)
/-! ### signs -/
def ltS (a b : Str) : Prop := a.cps.toList < b.cps.toList
theorem ltS_trans {a b c : Str} (h : ltS a b) (k : ltS b c) : ltS a c := List.lt_trans (α := Nat) h k
theorem ltS_asymm {a b : Str} (h : ltS a b) : ¬ ltS b a := List.lt_asymm (α := Nat) h
theorem str_ext {a b : Str} (h : a.cps.toList = b.cps.toList) : a = b := by
  cases a with | mk x =>
  cases b with | mk y =>
  congr 1
  exact Array.toList_inj.mp h
theorem ltS_total {a b : Str} (h : ¬ ltS a b) (k : ¬ ltS b a) : a = b := str_ext (List.le_antisymm (List.not_lt.mp k) (List.not_lt.mp h))
theorem leS_trans {a b c : Str} (h : ¬ ltS b a) (k : ¬ ltS c b) : ¬ ltS c a := by
  unfold ltS at *
  rw [List.not_lt] at *
  exact List.le_trans h k
instance (a b : Str) : Decidable (ltS a b) := inferInstanceAs (Decidable (a.cps.toList < b.cps.toList))
def Asc (ss : List Str) : Prop := ss.Pairwise ltS
def insS (s : Str) : List Str → List Str
  | [] => [s]
  | x :: r => if ltS s x then s :: x :: r else x :: insS s r
theorem insS_perm (s : Str) : ∀ ss : List Str, (insS s ss).Perm (s :: ss)
  | [] => .refl _
  | x :: r => by
    unfold insS
    split
    · exact .refl _
    · exact ((insS_perm s r).cons x).trans (.swap s x r)
theorem insS_asc {s : Str} : ∀ {ss : List Str}, Asc ss → s ∉ ss → Asc (insS s ss)
  | [], _, _ => List.pairwise_singleton _ _
  | x :: r, h, hn => by
    unfold insS
    have h' := List.pairwise_cons.mp h
    split
    · rename_i c
      refine List.pairwise_cons.mpr ⟨fun y hy => ?_, h⟩
      rcases List.mem_cons.mp hy with rfl | hy
      · exact c
      · exact ltS_trans c (h'.1 y hy)
    · rename_i c
      refine List.pairwise_cons.mpr ⟨fun y hy => ?_, insS_asc h'.2 fun z => hn (List.mem_cons_of_mem _ z)⟩
      rcases List.mem_cons.mp ((insS_perm s r).mem_iff.mp hy) with rfl | hy
      · by_cases k : ltS x y
        · exact k
        · exact absurd (ltS_total k c) fun e => hn (by rw [e]; exact List.mem_cons_self)
      · exact h'.1 y hy
theorem rising_pw : ∀ (r : List Str) (x : Str), risingS x r = true → (x :: r).Pairwise fun a b => ¬ ltS b a
  | [], x, _ => List.pairwise_singleton _ _
  | y :: r, x, h => by
    have h : (!ltCps y.cps.toList x.cps.toList && risingS y r) = true := h
    rw [ltCps_eq, Bool.and_eq_true, Bool.not_eq_true', decide_eq_false_iff_not] at h
    have ih := rising_pw r y h.2
    refine List.pairwise_cons.mpr ⟨fun z hz => ?_, ih⟩
    rcases List.mem_cons.mp hz with rfl | hz
    · exact h.1
    · exact leS_trans h.1 ((List.pairwise_cons.mp ih).1 z hz)
theorem sorted_pw {ys : List Str} (h : sortedS ys = true) : ys.Pairwise fun a b => ¬ ltS b a := by
  cases ys with
  | nil => exact .nil
  | cons x r => exact rising_pw r x h
/-- what sorted tells of signs and a new one -/
theorem sorted_ins {ss ys : List Str} {s : Str} (ha : Asc ss) (hn : s ∉ ss) (hp : ys.Perm (ss ++ [s])) (h : sortedS ys = true) : ys = insS s ss := by
  have p2 : ys.Perm (insS s ss) := (hp.trans List.perm_append_comm).trans (insS_perm s ss).symm
  refine List.Perm.eq_of_pairwise (le := fun a b => decide (¬ ltS b a)) (fun a b _ _ x y => ?_) ?_ ?_ p2
  · exact ltS_total (of_decide_eq_true y) (of_decide_eq_true x)
  · exact (sorted_pw h).imp fun k => decide_eq_true k
  · exact (insS_asc ha hn).imp fun k => decide_eq_true (ltS_asymm k)
/-! what okSs says -/
theorem goSs_mem : ∀ {a : Str} {ss : List Str}, goSs a ss = true → (∀ s ∈ ss, okS s = true ∧ ltS a s) ∧ Asc ss
  | a, [], _ => ⟨fun s hs => (by cases hs), List.Pairwise.nil⟩
  | a, s :: r, h => by
    have h : (okS s && decide (ltS a s) && goSs s r) = true := h
    rw [Bool.and_eq_true, Bool.and_eq_true] at h
    obtain ⟨h1, h2⟩ := goSs_mem h.2
    have lt := of_decide_eq_true h.1.2
    refine ⟨fun x hx => ?_, List.pairwise_cons.mpr ⟨fun x hx => (h1 x hx).2, h2⟩⟩
    rcases List.mem_cons.mp hx with rfl | hx
    · exact ⟨h.1.1, lt⟩
    · exact ⟨(h1 x hx).1, ltS_trans lt (h1 x hx).2⟩
theorem goSs_of : ∀ {a : Str} {ss : List Str}, (∀ s ∈ ss, okS s = true ∧ ltS a s) → Asc ss → goSs a ss = true
  | a, [], _, _ => rfl
  | a, s :: r, h, k => by
    have h0 := h s List.mem_cons_self
    have k' := List.pairwise_cons.mp k
    show (okS s && decide (ltS a s) && goSs s r) = true
    rw [h0.1, decide_eq_true h0.2, goSs_of (fun x hx => ⟨(h x (List.mem_cons_of_mem _ hx)).1, k'.1 x hx⟩) k'.2]
    rfl
theorem okS_pos {s : Str} (h : okS s = true) : ltS "" s := by
  unfold okS at h
  rw [Bool.and_eq_true, Bool.and_eq_true] at h
  have h1 := of_decide_eq_true h.1.1
  show ([] : List Nat) < s.cps.toList
  cases e : s.cps.toList with
  | nil =>
    exfalso
    have : s.length = 0 := by
      show s.cps.size = 0
      rw [← Array.length_toList, e]; rfl
    omega
  | cons c r => exact List.nil_lt_cons c r
structure OkSs (ss : List Str) : Prop where
  len : ss.length ≤ 6
  ok : ∀ s ∈ ss, okS s = true
  asc : Asc ss
theorem okSs_iff {ss : List Str} : okSs ss = true ↔ OkSs ss := by
  unfold okSs
  rw [Bool.and_eq_true]
  constructor
  · rintro ⟨h1, h2⟩
    obtain ⟨a, b⟩ := goSs_mem h2
    exact ⟨of_decide_eq_true h1, fun s hs => (a s hs).1, b⟩
  · rintro ⟨h1, h2, h3⟩
    exact ⟨decide_eq_true h1, goSs_of (fun s hs => ⟨h2 s hs, okS_pos (h2 s hs)⟩) h3⟩
def wG (ss : List Str) (s : Str) : List Str := if s ∈ ss ∨ ss.length = 6 then ss else insS s ss
theorem wG_ok {ss : List Str} {s : Str} (h : OkSs ss) (hs : okS s = true) : OkSs (wG ss s) := by
  unfold wG
  split
  · exact h
  · rename_i c
    have c1 : s ∉ ss := fun z => c (.inl z)
    have c2 : ss.length ≠ 6 := fun z => c (.inr z)
    have p := insS_perm s ss
    refine ⟨by rw [p.length_eq]; have := h.len; simp only [List.length_cons]; omega, fun x hx => ?_, insS_asc h.asc c1⟩
    rcases List.mem_cons.mp (p.mem_iff.mp hx) with rfl | hx
    · exact hs
    · exact h.ok x hx
theorem nS_ok {ss : List Str} {s : Str} (h : OkSs ss) : OkSs (nS ss s) :=
  ⟨Nat.le_trans (List.length_filter_le _ _) h.len, fun x hx => h.ok x (List.mem_filter.mp hx).1, List.Pairwise.filter _ h.asc⟩
theorem strOk_of {s : Str} (h : okS s = true) : PyData.strOk s = true := by
  unfold okS at h
  rw [Bool.and_eq_true] at h
  show s.cps.all (fun c => decide (c < 1114112)) = true
  rw [← Array.all_toList, List.all_eq_true]
  intro c hc
  have := List.all_eq_true.mp h.2 c hc
  unfold inAZ at this
  rw [Bool.and_eq_true, Bool.not_eq_true', Bool.not_eq_true', decide_eq_false_iff_not, decide_eq_false_iff_not] at this
  refine decide_eq_true ?_
  have h2 : ¬ (122 < c) := fun z => this.2 (show ([122] : List Nat) < [c] from List.cons_lt_cons_iff.mpr (.inl z))
  omega
theorem g_lay : ∀ {ss : List Str}, (∀ s ∈ ss, okS s = true) → PyData.canLayAll0 (ss.map PyData.str) = true ∧ PyData.depthAll (ss.map PyData.str) = 0
  | [], _ => ⟨rfl, rfl⟩
  | s :: r, h => by
    obtain ⟨h1, h2⟩ := g_lay fun x hx => h x (List.mem_cons_of_mem _ hx)
    constructor
    · show (PyData.strOk s && PyData.canLayAll0 (r.map PyData.str)) = true
      rw [h1, strOk_of (h s List.mem_cons_self)]; rfl
    · show max 0 (PyData.depthAll (r.map PyData.str)) = 0
      rw [h2]; rfl
theorem g_shape {ss : List Str} (h : ∀ s ∈ ss, okS s = true) : SeqAt.shaped (.tuple (ss.map PyData.str)) = true := by
  obtain ⟨h1, h2⟩ := g_lay h
  unfold SeqAt.shaped
  have e1 : PyData.canLay0 (.tuple (ss.map PyData.str)) = true := h1
  have e2 : PyData.depth (.tuple (ss.map PyData.str)) ≤ 64 := by
    show PyData.depthAll (ss.map PyData.str) + 1 ≤ 64
    rw [h2]; omega
  rw [e1, decide_eq_true e2]; rfl
theorem g_eqv : ∀ xs ys : List Str, PyData.eqv (.tuple (xs.map PyData.str)) (.tuple (ys.map PyData.str)) = decide (xs = ys) := by
  have h : ∀ xs ys : List Str, PyData.eqvAll (xs.map PyData.str) (ys.map PyData.str) = decide (xs = ys) := by
    intro xs
    induction xs with
    | nil => intro ys; cases ys <;> simp [PyData.eqvAll]
    | cons x r ih =>
      intro ys
      cases ys with
      | nil => simp [PyData.eqvAll]
      | cons y t =>
        show (PyData.eqv (.str x) (.str y) && PyData.eqvAll (r.map PyData.str) (t.map PyData.str)) = decide (x :: r = y :: t)
        rw [ih, eqv_str]
        by_cases e : x = y
        · subst e; by_cases e2 : r = t <;> simp [e2]
        · rw [beq_eq_false_iff_ne.mpr e]; simp [e]
  intro xs ys
  exact h xs ys
end K1


set_option Elab.async false
set_option linter.all false
set_option maxRecDepth 100000
set_option maxHeartbeats 2000000
/-! Sets of ints made of a list or a tuple; x in a tuple of data; max with a default. -/
namespace K1
open PySem PySem.Spec PyProof.Rows L2 RZ StX
abbrev sCkNums : Stmt := st__check_numbers
abbrev nCkNums : List Str := ["numbers"]
theorem scCkNums : FnScope nCkNums nCkNums (defScope sCkNums) := ⟨rfl, rfl, rfl, by decide +kernel, rfl, by decide +kernel, by decide +kernel⟩
/-- a set of ints, however it was made -/
def SetI (P : Program) (w : World) (a : Addr) (S : Int → Bool) (n : Nat) : HO := .ext fun h => h.SetOf (intKind P w) a S n
theorem setI_new {P : Program} {w : World} {H : Hp} {h : Heap} {a : Addr} {S : Int → Bool} {n : Nat} (R : h.SetOf (intKind P w) a S n) : ObjOk P w H h a (SetI P w a S n) := by
  have ⟨o, es, ep, t, ho, r⟩ := R
  refine ⟨R, ⟨o, ho⟩, fun h1 h2 p k => ?_⟩
  have ⟨o', es', ep', t', ho', r'⟩ := p
  exact ⟨o', es', ep', t', k o' ho', r'⟩
theorem setI_get {X : Cx} {pins : List (Addr × Obj)} {σ : L2.St} {H : Hp} {s : Shared} {a : Addr} {S : Int → Bool} {n : Nat} (I : Inv X pins σ H s) (ha : H a = some (SetI X.prog X.w a S n)) : s.heap.SetOf (intKind X.prog X.w) a S n := (I.hok a _ ha).1
theorem range_getD (ns : List Int) : (List.range ns.length).map (fun i => ns.getD i 0) = ns := by
  refine List.ext_getElem (by rw [List.length_map, List.length_range]) fun i h1 h2 => ?_
  rw [List.getElem_map, List.getElem_range, List.getD_eq_getElem?_getD, List.getElem?_eq_getElem h2]; rfl
def rSetI (P : Program) (w : World) (neg : Bool) : R2 := fun x y H Q => ∃ k a S n, x = V.int k ∧ y = V.ref a ∧ H a = some (SetI P w a S n) ∧ Q (.bl (if neg then !S k else S k)) H
section
variable {X : Cx} {K : PySem.W.Frag} {P : Program} {w : World}
theorem or_sinI (hP : X.prog = P) (hw : X.w = w) : OpR X (compareOp .In) (rSetI P w false) := by
  subst hP hw
  intro pins s σ H x y v u Q I rx ry h
  obtain ⟨k, a, S, n, rfl, rfl, ha, q⟩ := h
  obtain rfl : u = Value.ref a := ry
  obtain ⟨t, rfl⟩ := rx
  exact wpAny_inSet_of (intKind_is _ _ _ _) rfl (setI_get I ha) ⟨.bl (S k), H, I.tok _, rfl, q⟩
theorem cr_setI (hP : X.prog = P) (hw : X.w = w) (hK : X.K = K) (hc : X.calm = true) : CallR X (.type "set") (fun xs H Q => ∃ (l : Addr) (ns : List Int), xs = [.ref l] ∧ SeqH H l (ns.map V.int) ∧ ns.length ≤ 1000 ∧ ∀ p n, H p = none → Q (.ref p) (upd H p (SetI P w p (fun j => decide (j ∈ ns)) n))) := by
  subst hP hw hK
  intro pins s σ H xs us Q I r h
  obtain ⟨l, ns, rfl, hq, hl, q⟩ := h
  cases r with
  | cons r rr =>
    cases rr
    cases r
    rcases hq with hq | hq
    · obtain ⟨its, rv, pt, hz⟩ := I.list (sq hq)
      have hi : IntsAre its.toArray.toList ns := ints_of_vals rv
      have hsz : its.toArray.size = ns.length := by
        have := IntsAre.length hi
        rw [Array.length_toList] at this
        exact this
      refine call_set_list (I.ok.hd hc) pt.isList hi (by unfold scanBound; omega) fun h' tk R1 k => ?_
      have R2 : h'.SetOf (intKind X.prog X.w) s.heap.objs.size (fun j => decide (j ∈ ns)) (PyProof.Rows.firstMet (fun i => ns.getD i 0) its.toArray.size).length := by
        refine PyProof.Rows.SetOf_congr R1 (fun j => ?_) rfl
        rw [PyProof.Rows.firstMet_any, hsz, range_getD]
        by_cases hj : j ∈ ns
        · rw [decide_eq_true hj]; exact List.any_eq_true.mpr ⟨j, hj, beq_self_eq_true j⟩
        · rw [decide_eq_false hj]; exact List.any_eq_false.mpr fun x hx e => hj (eq_of_beq e ▸ hx)
      exact ⟨.ref _, upd H s.heap.objs.size (SetI X.prog X.w s.heap.objs.size (fun j => decide (j ∈ ns)) _), I.laid (t' := tk) (fun b o e => k b o (Heap.lt_size e) e) (Nat.le_refl _) (setI_new R2), rfl, q _ _ (I.hok.fresh (Nat.le_refl _))⟩
    · obtain ⟨its, rv, pt, hz⟩ := I.tuple (st hq)
      have hi : IntsAre its.toArray.toList ns := ints_of_vals rv
      refine call_set_tupI ns (I.ok.hd hc) (show s.heap.IsTuple l its.toArray from pt) hi (by unfold scanBound; omega) fun h' tk c R1 hcn k => ?_
      exact ⟨.ref _, upd H s.heap.objs.size (SetI X.prog X.w s.heap.objs.size (fun j => decide (j ∈ ns)) c), I.laid (t' := tk) k (Nat.le_refl _) (setI_new R1.setOf), rfl, q _ _ (I.hok.fresh (Nat.le_refl _))⟩
/-- x not in a tuple of data -/
def rNotInT (K : PySem.W.Frag) : R2 := fun x y H Q => ∃ d ds, Dp K H x d ∧ Dp K H y (.tuple ds) ∧ SeqAt.shaped d = true ∧ SeqAt.shaped (.tuple ds) = true ∧ Q (.bl (!ds.any fun z => PyData.eqv z d)) H
theorem op_notInT (hK : X.K = K) (hu : X.A.units + 65 < cLine) : OpR X (compareOp .NotIn) (rNotInT K) := by
  subst hK
  intro pins s σ H x y v u Q I rx ry h
  obtain ⟨d, ds, hd, he, sd, se, q⟩ := h
  obtain ⟨as, r1⟩ := Dp.reads I d x v hd rx
  obtain ⟨bs, r2⟩ := Dp.reads I (.tuple ds) y u he ry
  exact SeqAt.notIn_tuple_reads r2 r1 (SeqAt.canLay_of_shaped se) (SeqAt.canLay_of_shaped sd) (room_in_shaped sd hu) ⟨.bl _, H, I, rfl, q⟩
theorem reads_ints {h : Heap} : ∀ {ns : List Int} {us : List Value}, Vals (ns.map V.int) us → ReadsAll h us (ns.map PyData.int) []
  | [], _, .nil => .nil
  | n :: ns, _, .cons r rs => by
    obtain ⟨t, rfl⟩ := r
    exact .cons (.int n t) (reads_ints rs)
theorem foldl_max : ∀ (ns : List Int) (n : Int), ns.foldl max n ∈ n :: ns ∧ ∀ y ∈ n :: ns, y ≤ ns.foldl max n
  | [], n => ⟨List.mem_cons_self, fun y hy => by rw [List.mem_singleton.mp hy]; exact Int.le_refl _⟩
  | k :: ns, n => by
    obtain ⟨h1, h2⟩ := foldl_max ns (max n k)
    show ns.foldl max (max n k) ∈ _ ∧ ∀ y ∈ _, y ≤ ns.foldl max (max n k)
    have h3 := h2 _ List.mem_cons_self
    refine ⟨?_, fun y hy => ?_⟩
    · rcases List.mem_cons.mp h1 with e | e
      · rw [e]
        rcases (by omega : max n k = n ∨ max n k = k) with z | z
        · rw [z]; exact List.mem_cons_self
        · rw [z]; exact List.mem_cons_of_mem _ List.mem_cons_self
      · exact List.mem_cons_of_mem _ (List.mem_cons_of_mem _ e)
    · rcases List.mem_cons.mp hy with rfl | hy
      · omega
      · rcases List.mem_cons.mp hy with rfl | hy
        · omega
        · exact h2 y (List.mem_cons_of_mem _ hy)
def rMaxD (K : PySem.W.Frag) : List V → List V → Hp → VK → Prop := fun xs zs H Q => ∃ (a : Addr) (ns : List Int) (d : V), xs = [.ref a] ∧ zs = [d] ∧ SqL K H a (ns.map V.int) ∧ (ns = [] → Q d H) ∧ ∀ m, m ∈ ns → (∀ y ∈ ns, y ≤ m) → Q (.int m) H
theorem cr_maxD (hK : X.K = K) (hc : X.calm = true) (hu : X.A.units + 64 < cLine) : CallRK X (.builtin "max") [(Str.ofString "default")] (rMaxD K) := by
  subst hK
  intro pins s σ H xs zs us ws Q I r rz h
  obtain ⟨a, ns, d, rfl, rfl, hs, h0, h1⟩ := h
  obtain ⟨its, rv, hl, _⟩ := I.list hs
  rw [Vals.ref1 r]
  obtain ⟨u, rfl, ru⟩ := vals1 rz
  have hd : PyData.depthAll (ns.map PyData.int) = 0 := depth_ints ns
  have ha : PySem.W.AlikeAll (ns.map PyData.int) := PySem.W.alikeAll_datum (α := Int) ns
  refine PySem.W.max_list_default (xs := ns.map PyData.int) (as := []) (I.ok.hd hc) hl.isList (reads_ints rv) ha (by rw [hd]; omega) (fun e h' tk hk => ?_) fun y ys i v h' tk bs e hi hr hk => ?_
  · exact ⟨d, H, I.kept hk, ru, h0 (List.map_eq_nil_iff.mp e)⟩
  · cases ns with
    | nil => cases e
    | cons n ns =>
      obtain ⟨e1, e2⟩ := List.cons.inj e
      subst e1 e2
      rw [PySem.W.maxD_ints] at hr
      cases hr with
      | int _ t => exact ⟨.int _, H, I.kept hk, ⟨_, rfl⟩, h1 _ (foldl_max ns n).1 (foldl_max ns n).2⟩
end
def spCkNums : Sp := fun vs H Q _ => ∃ (a : Addr) (ns : List Int), vs = [.ref a] ∧ SeqH H a (ns.map V.int) ∧ (∀ n ∈ ns, 1 ≤ n) ∧ ns.length ≤ 1000 ∧ ∀ H', Same H H' → Q .non H'
section
variable {P : Program} {w : World} {K : PySem.W.Frag} {mg : Str → Option Value} {base : Heap}
theorem ok_ckNums {f : Addr} {fd : FuncData} (D_is_numbers : Def P w K mg base CX0 3 "is_numbers" pV spNums) (F : Fun K "_check_numbers" "_check_numbers" sCkNums f fd) : FnOk P w K mg base CX0 4 f fd nCkNums spCkNums := by
  refine F.ok scCkNums (fun vs H Q E h => ?_) (fun cdv A outer s H vs Q E hr h => ?_)
  · obtain ⟨a, ns, rfl, _⟩ := h
    rfl
  · obtain ⟨a, ns, rfl, ha, h1, hl, q⟩ := h
    refine ⟨_, (pss_one (ps_if (pt_not (pt_val (pe_def D_is_numbers (hr.mono (by decide)) rfl pass0 (pa_cons (pv 0) pa_nil)))) pss_any pss_nil)), ?_⟩
    exact ⟨_, rfl, a, ns, rfl, ha, h1, hl, fun H' s' => ⟨_, rfl, itbF rfl (q H' s')⟩⟩
end
end K1


set_option Elab.async false
set_option linter.all false
set_option maxRecDepth 100000
set_option maxHeartbeats 2000000
namespace K1
open PySem PySem.Spec PyProof.Rows L2 RZ StX
/-! ### methods -/
structure MDef (P : Program) (w : World) (K : PySem.W.Frag) (mg : Str → Option Value) (base : Heap) (CX : CXT) (k : Nat) (C : Addr) (m : Str) (ps : List Str) (sp : Sp) : Prop where
  ex : ∃ (f : Addr) (fd : FuncData), Meth K C m f ∧ Binds K fd ps [] ∧ FnOk P w K mg base CX k f fd ps sp
section
variable {X : Cx} {CX : CXT} {k : Nat} {ps : List Str} {sp : Sp} {E : XK} {m : Str} {pos apos : Pos} {o e : Expr} {es : List Expr} {ta : TE} {t : TA} {C : Addr}
theorem pe_mdef {pl : Sem Bool} (D : MDef X.prog X.w X.K X.mg X.base CX k C m ps sp) (c : Cls X.K C) (hr : Room k X.A) (hx : Passes CX X E) (he : PE X o ta) (ha : PA X (e :: es) t)
    (hst : starEach (e :: es) X.env = (false, eval e X.env) :: starEach es X.env := by rfl) (hpl : (backTo pos (starEach es X.env)).any (·.1) = false := by rfl)
    (ht : eval (.Call (.Attribute o m apos) (e :: es) [] pos) X.env = (do
      let ov ← eval o X.env
      standAt apos.atName
      let (f, first) ← holding [ov] (getMethod ov m pl)
      callWith pos f first (backTo pos (starEach (e :: es) X.env)) (backToKw pos (keywordEach [] X.env))) := by rfl) :
    PE X (.Call (.Attribute o m apos) (e :: es) [] pos) (tMeth C m sp [] E ta t) := by
  obtain ⟨f, fd, hm, hb, F⟩ := D.ex
  exact pe_meth he c hm F hr hb .nil hx ha hst hpl ht
theorem pe_mdef0 {pl : Sem Bool} (D : MDef X.prog X.w X.K X.mg X.base CX k C m ps sp) (c : Cls X.K C) (hr : Room k X.A) (hx : Passes CX X E) (he : PE X o ta)
    (ht : eval (.Call (.Attribute o m apos) [] [] pos) X.env = (do
      let ov ← eval o X.env
      standAt apos.atName
      let (f, first) ← holding [ov] (getMethod ov m pl)
      callWith pos f first (backTo pos (starEach [] X.env)) (backToKw pos (keywordEach [] X.env))) := by rfl) :
    PE X (.Call (.Attribute o m apos) [] [] pos) (tMeth C m sp [] E ta tNil) := by
  obtain ⟨f, fd, hm, hb, F⟩ := D.ex
  exact pe_meth0 he c hm F hr hb .nil hx ht
end
/-! ### folders -/
def flds (a l n m g c : V) : List (Str × V) := [("_age", a), ("_letters", l), ("_next_number", n), ("_mark", m), ("_gone", g), ("_cut", c)]
section
variable {a l n m g c y : V}
theorem fl_age : (flds a l n m g c).lookup ("_age" : Str) = some a := by rfl
theorem fl_let : (flds a l n m g c).lookup ("_letters" : Str) = some l := by rfl
theorem fl_nx : (flds a l n m g c).lookup ("_next_number" : Str) = some n := by rfl
theorem fl_mk : (flds a l n m g c).lookup ("_mark" : Str) = some m := by rfl
theorem fl_gone : (flds a l n m g c).lookup ("_gone" : Str) = some g := by rfl
theorem fl_cut : (flds a l n m g c).lookup ("_cut" : Str) = some c := by rfl
theorem fl_no {x : Str} (h : (["_age", "_letters", "_next_number", "_mark", "_gone", "_cut"] : List Str).all (fun z => !(x == z)) = true) : (flds a l n m g c).lookup x = none := by
  simp only [List.all_cons, List.all_nil, Bool.and_eq_true, Bool.not_eq_true'] at h
  obtain ⟨h1, h2, h3, h4, h5, h6, _⟩ := h
  unfold flds
  simp only [List.lookup, h1, h2, h3, h4, h5, h6]
theorem pu_let : putF "_letters" y (flds a l n m g c) = flds a y n m g c := by rfl
theorem pu_nx : putF "_next_number" y (flds a l n m g c) = flds a l y m g c := by rfl
theorem pu_mk : putF "_mark" y (flds a l n m g c) = flds a l n y g c := by rfl
theorem pu_gone : putF "_gone" y (flds a l n m g c) = flds a l n m y c := by rfl
theorem pu_cut : putF "_cut" y (flds a l n m g c) = flds a l n m g y := by rfl
theorem pu_all : putF "_cut" c (putF "_gone" g (putF "_mark" m (putF "_next_number" n (putF "_letters" l (putF "_age" a []))))) = flds a l n m g c := by rfl
end
structure Lt where
  n : Int
  b : Int
  s : List Str
  m : Int
structure Fo where
  age : Int
  ls : List Lt
  nx : Int
  mr : Int
  go : List (Int × Int)
  ct : Int
def ltD (l : Lt) : PyData := .tuple [.int l.n, .int l.b, .tuple (l.s.map PyData.str), .int l.m]
def goD (g : Int × Int) : PyData := .tuple [.int g.1, .int g.2]
def lsD (ls : List Lt) : PyData := .tuple (ls.map ltD)
def gsD (go : List (Int × Int)) : PyData := .tuple (go.map goD)
def FoAt (C : Addr) (H : Hp) (p : Addr) (F : Fo) : Prop := ∃ dx tl tg, H p = some (.ins C dx (flds (.int F.age) (.ref tl) (.int F.nx) (.int F.mr) (.ref tg) (.int F.ct))) ∧ Dv H (.ref tl) (lsD F.ls) ∧ Dv H (.ref tg) (gsD F.go)
theorem FoAt.same {C p : Addr} {H H' : Hp} {F : Fo} (h : FoAt C H p F) (s : Same H H') : FoAt C H' p F := let ⟨dx, tl, tg, a, b, c⟩ := h; ⟨dx, tl, tg, s _ _ a, b.same s, c.same s⟩
/-- what the class must have -/
structure ClT (K : PySem.W.Frag) (mg : Str → Option Value) (C : Addr) : Prop where
  cl : Cls K C
  gC : mg "Folder" = some (.ref C)
  nA : NoAttr K C "_age"
  nL : NoAttr K C "_letters"
  nN : NoAttr K C "_next_number"
  nM : NoAttr K C "_mark"
  nG : NoAttr K C "_gone"
  nC : NoAttr K C "_cut"
def mS (i : Nat) : Stmt := inClass st_Folder i
abbrev sInit : Stmt := mS 0
abbrev sLetters : Stmt := mS 3
abbrev sNext : Stmt := mS 4
abbrev sMark : Stmt := mS 5
abbrev sGone : Stmt := mS 6
abbrev sApp : Stmt := mS 8
abbrev sCopied : Stmt := mS 14
abbrev nInit : List Str := ["self", "age"]
theorem scInit : FnScope nInit nInit (defScope sInit) := ⟨rfl, rfl, rfl, by decide +kernel, rfl, by decide +kernel, by decide +kernel⟩
abbrev nSelf : List Str := ["self"]
theorem scLetters : FnScope nSelf nSelf (defScope sLetters) := ⟨rfl, rfl, rfl, by decide +kernel, rfl, by decide +kernel, by decide +kernel⟩
theorem scNext : FnScope nSelf nSelf (defScope sNext) := ⟨rfl, rfl, rfl, by decide +kernel, rfl, by decide +kernel, by decide +kernel⟩
theorem scMark : FnScope nSelf nSelf (defScope sMark) := ⟨rfl, rfl, rfl, by decide +kernel, rfl, by decide +kernel, by decide +kernel⟩
theorem scGone : FnScope nSelf nSelf (defScope sGone) := ⟨rfl, rfl, rfl, by decide +kernel, rfl, by decide +kernel, by decide +kernel⟩
abbrev nApp : List Str := ["self", "body", "signs", "folder"]
abbrev pApp : List Str := ["self", "body", "signs"]
theorem scApp : FnScope nApp pApp (defScope sApp) := ⟨rfl, rfl, rfl, by decide +kernel, rfl, by decide +kernel, by decide +kernel⟩
abbrev nCopied : List Str := ["self", "folder"]
theorem scCopied : FnScope nCopied nSelf (defScope sCopied) := ⟨rfl, rfl, rfl, by decide +kernel, rfl, by decide +kernel, by decide +kernel⟩
def fNew (a : Int) : Fo := ⟨a, [], 1, 0, [], 0⟩
def spInit (C : Addr) : Sp := fun vs H Q _ => ∃ (p dx : Addr) (a : Int), vs = [.ref p, .int a] ∧ H p = some (.ins C dx []) ∧ 1 ≤ a ∧
  ∀ H' tl tg, (∀ b o, b ≠ p → H b = some o → H' b = some o) → H' p = some (.ins C dx (flds (.int a) (.ref tl) (.int 1) (.int 0) (.ref tg) (.int 0))) → H' tl = some (.tup []) → H' tg = some (.tup []) → Q .non H'
def spLetters (C : Addr) : Sp := fun vs H Q _ => ∃ (p : Addr) (F : Fo), vs = [.ref p] ∧ FoAt C H p F ∧ ∀ l H', Same H H' → H l = none → Dv H' (.ref l) (.list (F.ls.map ltD)) → Q (.ref l) H'
def spGone (C : Addr) : Sp := fun vs H Q _ => ∃ (p : Addr) (F : Fo), vs = [.ref p] ∧ FoAt C H p F ∧ ∀ l H', Same H H' → H l = none → Dv H' (.ref l) (.list (F.go.map goD)) → Q (.ref l) H'
def spNext (C : Addr) : Sp := fun vs H Q _ => ∃ (p : Addr) (F : Fo), vs = [.ref p] ∧ FoAt C H p F ∧ Q (.int F.nx) H
def spMark (C : Addr) : Sp := fun vs H Q _ => ∃ (p : Addr) (F : Fo), vs = [.ref p] ∧ FoAt C H p F ∧ Q (.int F.mr) H
def spCopied (C : Addr) : Sp := fun vs H Q _ => ∃ (p dx tl tg : Addr) (a n m c : Int), vs = [.ref p] ∧ H p = some (.ins C dx (flds (.int a) (.ref tl) (.int n) (.int m) (.ref tg) (.int c))) ∧ 1 ≤ a ∧
  ∀ q dq H', Same H H' → H q = none → H' q = some (.ins C dq (flds (.int a) (.ref tl) (.int n) (.int m) (.ref tg) (.int c))) → Q (.ref q) H'
def fApp (F : Fo) (b : Int) (s : List Str) : Fo := { F with ls := F.ls ++ [⟨F.nx, b, s, F.mr + 1⟩], nx := F.nx + 1, mr := F.mr + 1 }
def spApp (C : Addr) : Sp := fun vs H Q _ => ∃ (p sg : Addr) (F : Fo) (b : Int) (ss : List Str), vs = [.ref p, .int b, .ref sg] ∧ FoAt C H p F ∧ 1 ≤ F.age ∧ 0 ≤ b ∧ H sg = some (.tup (ss.map V.str)) ∧ OkSs ss ∧ F.ls.length ≤ 1000 ∧
  ∀ q H', Same H H' → H q = none → FoAt C H' q (fApp F b ss) → Q (.ref q) H'
theorem dv_strs {H : Hp} : ∀ ss : List Str, DvA H (ss.map V.str) (ss.map PyData.str)
  | [] => .nil
  | s :: r => .cons (.str s) (dv_strs r)
section
variable {P : Program} {w : World} {K : PySem.W.Frag} {mg : Str → Option Value} {base : Heap} {C : Addr}
theorem ok_init {f : Addr} {fd : FuncData} (t : ClT K mg C) (D_is_number : Def P w K mg base CX0 2 "is_number" pV spNum) (F : Fun K "__init__" "Folder.__init__" sInit f fd) : FnOk P w K mg base CX0 3 f fd nInit (spInit C) := by
  refine F.ok scInit (fun vs H Q E h => ?_) (fun cdv A outer s H vs Q E hr h => ?_)
  · obtain ⟨p, dx, a, rfl, _⟩ := h
    rfl
  · obtain ⟨p, dx, a, rfl, hp, ha, q⟩ := h
    refine ⟨_, pss_cons (ps_if (pt_not (pt_val (pe_def D_is_number (hr.mono (by decide)) rfl pass0 (pa_cons (pv 1) pa_nil)))) pss_any pss_nil)
 (pss_cons (ps_fld (pv 0) (pv 1) rfl)
 (pss_cons (ps_fld (pv 0) (pe_tup pa_nil) rfl)
 (pss_cons (ps_fld (pv 0) pe_int rfl)
 (pss_cons (ps_fld (pv 0) pe_int rfl)
 (pss_cons (ps_fld (pv 0) (pe_tup pa_nil) rfl)
 (pss_one (ps_fld (pv 0) pe_int rfl))))))), ?_⟩
    refine ⟨_, rfl, a, rfl, ha, _, rfl, itbF rfl ?_⟩
    refine ⟨_, rfl, _, rfl, p, C, dx, [], rfl, hp, t.cl, t.nA, by show 0 < 1000; decide, ?_⟩
    refine ⟨Nat.zero_le _, fun tl ntl => ?_⟩
    have n1 : p ≠ tl := ne_of_none (show (upd H p (.ins C dx (putF "_age" (.int a) []))) p = some _ from upd_same) ntl
    refine ⟨_, rfl, p, C, dx, _, rfl, (by rw [upd_ne n1]; exact upd_same), t.cl, t.nL, by show 1 < 1000; decide, ?_⟩
    refine ⟨_, rfl, p, C, dx, _, rfl, upd_same, t.cl, t.nN, by show 2 < 1000; decide, ?_⟩
    refine ⟨_, rfl, p, C, dx, _, rfl, upd_same, t.cl, t.nM, by show 3 < 1000; decide, ?_⟩
    refine ⟨Nat.zero_le _, fun tg ntg => ?_⟩
    have n2 : p ≠ tg := ne_of_none (by exact upd_same) ntg
    have n3 : tl ≠ tg := fun z => by
      subst z
      rw [upd_ne n1.symm, upd_ne n1.symm, upd_ne n1.symm, upd_same] at ntg
      cases ntg
    refine ⟨_, rfl, p, C, dx, _, rfl, (by rw [upd_ne n2]; exact upd_same), t.cl, t.nG, by show 4 < 1000; decide, ?_⟩
    refine ⟨_, rfl, p, C, dx, _, rfl, upd_same, t.cl, t.nC, by show 5 < 1000; decide, ?_⟩
    refine q _ tl tg (fun b o nb hb => ?_) upd_same ?_ ?_
    · have hb0 : (upd H p (.ins C dx (putF "_age" (.int a) []))) b = some o := by rw [upd_ne nb]; exact hb
      rw [upd_ne nb, upd_ne nb, upd_ne (fun z => by
        subst z
        rw [upd_ne nb, upd_ne nb, upd_ne nb, upd_ne (ne_of_none hb0 ntl), upd_ne nb] at ntg
        rw [hb] at ntg; cases ntg), upd_ne nb, upd_ne nb, upd_ne nb, upd_ne (ne_of_none hb0 ntl)]
      exact hb0
    · rw [upd_ne n1.symm, upd_ne n1.symm, upd_ne n3, upd_ne n1.symm, upd_ne n1.symm, upd_ne n1.symm, upd_same]
    · rw [upd_ne n2.symm, upd_ne n2.symm, upd_same]
theorem ok_letters {f : Addr} {fd : FuncData} (T : Bk mg) (t : ClT K mg C) (F : Fun K "letters" "Folder.letters" sLetters f fd) : FnOk P w K mg base CX0 1 f fd nSelf (spLetters C) := by
  refine F.ok scLetters (fun vs H Q E h => ?_) (fun cdv A outer s H vs Q E hr h => ?_)
  · obtain ⟨p, F, rfl, _⟩ := h
    rfl
  · obtain ⟨p, F, rfl, ⟨dx, tl, tg, hp, h1, h2⟩, q⟩ := h
    refine ⟨_, pss_one (ps_ret (pe_callTy (call_list_ofK (K := K) rfl) (by rfl) T.list PyProof.Rows.boot_list (pa_cons (pe_fld (pv 0) rfl) pa_nil))), ?_⟩
    cases h1 with
    | tup e r => exact ⟨_, rfl, p, C, dx, _, _, rfl, hp, t.cl, t.nL, fl_let, tl, _, rfl, .inr (st e), fun l nl => q l _ (same_new nl) nl (.lst upd_same (r.same (same_new nl)))⟩
theorem ok_gone {f : Addr} {fd : FuncData} (T : Bk mg) (t : ClT K mg C) (F : Fun K "gone" "Folder.gone" sGone f fd) : FnOk P w K mg base CX0 1 f fd nSelf (spGone C) := by
  refine F.ok scGone (fun vs H Q E h => ?_) (fun cdv A outer s H vs Q E hr h => ?_)
  · obtain ⟨p, F, rfl, _⟩ := h
    rfl
  · obtain ⟨p, F, rfl, ⟨dx, tl, tg, hp, h1, h2⟩, q⟩ := h
    refine ⟨_, pss_one (ps_ret (pe_callTy (call_list_ofK (K := K) rfl) (by rfl) T.list PyProof.Rows.boot_list (pa_cons (pe_fld (pv 0) rfl) pa_nil))), ?_⟩
    cases h2 with
    | tup e r => exact ⟨_, rfl, p, C, dx, _, _, rfl, hp, t.cl, t.nG, fl_gone, tg, _, rfl, .inr (st e), fun l nl => q l _ (same_new nl) nl (.lst upd_same (r.same (same_new nl)))⟩
theorem ok_mark {f : Addr} {fd : FuncData} (t : ClT K mg C) (F : Fun K "mark" "Folder.mark" sMark f fd) : FnOk P w K mg base CX0 1 f fd nSelf (spMark C) := by
  refine F.ok scMark (fun vs H Q E h => ?_) (fun cdv A outer s H vs Q E hr h => ?_)
  · obtain ⟨p, F, rfl, _⟩ := h
    rfl
  · obtain ⟨p, F, rfl, ⟨dx, tl, tg, hp, h1, h2⟩, q⟩ := h
    exact ⟨_, pss_one (ps_ret (pe_fld (pv 0) rfl)), ⟨_, rfl, p, C, dx, _, _, rfl, hp, t.cl, t.nM, fl_mk, q⟩⟩
end
end K1


set_option Elab.async false
set_option linter.all false
set_option maxRecDepth 100000
set_option maxHeartbeats 2000000
namespace K1
open PySem PySem.Spec PyProof.Rows L2 RZ StX
/-- the making of a folder -/
structure MkD (P : Program) (w : World) (K : PySem.W.Frag) (mg : Str → Option Value) (base : Heap) (C : Addr) : Prop where
  ex : ∃ (f : Addr) (fd : FuncData), Mk K C f ∧ Binds K fd nInit [] ∧ FnOk P w K mg base CX0 3 f fd nInit (spInit C)
theorem pe_new {X : Cx} {C : Addr} {e : Expr} {t : TA} {p pos : Pos} (D : MkD X.prog X.w X.K X.mg X.base C) (gC : X.mg "Folder" = some (.ref C)) (hr : Room 4 X.A) (hg : Gl X "Folder") (ha : PA X [e] t)
    (he : starEach [e] X.env = (false, eval e X.env) :: starEach [] X.env := by rfl) : PE X (.Call (.Name "Folder" p) [e] [] pos) (tMake C (spInit C) [] E0 t) := by
  obtain ⟨f, fd, hm, hb, F⟩ := D.ex
  exact pe_make hm F hr hg gC hb .nil pass0 ha (he := he)
theorem Dv.tups {H : Hp} {a : Addr} {ds : List PyData} (h : Dv H (.ref a) (.tuple ds)) : ∃ xs, H a = some (.tup xs) ∧ DvA H xs ds := by
  cases h with
  | tup e r => exact ⟨_, e, r⟩
/-- a heap behind which one new object may be changed -/
theorem same_but {H H' : Hp} {q : Addr} {o : HO} (s : Same H H') (n : H q = none) : Same H (upd H' q o) := s.mut n
section
variable {P : Program} {w : World} {K : PySem.W.Frag} {mg : Str → Option Value} {base : Heap} {C : Addr}
theorem ok_copied {f : Addr} {fd : FuncData} (t : ClT K mg C) (D_new : MkD P w K mg base C) (F : Fun K "_copied" "Folder._copied" sCopied f fd) : FnOk P w K mg base CX0 5 f fd nSelf (spCopied C) := by
  have nd := scCopied.nd
  refine F.ok scCopied (fun vs H Q E h => ?_) (fun cdv A outer s H vs Q E hr h => ?_)
  · obtain ⟨p, dx, tl, tg, a, n, m, c, rfl, _⟩ := h
    rfl
  · obtain ⟨p, dx, tl, tg, a, n, m, c, rfl, hp, ha, q⟩ := h
    refine ⟨_, pss_cons (ps_set (i := 1) nd rfl (Or.inl rfl) (pe_new D_new t.gC (hr.mono (by decide)) rfl (pa_cons (pe_fld (pv 0) rfl) pa_nil)))
 (pss_cons (ps_fld (pv 1) (pe_fld (pv 0) rfl) rfl)
 (pss_cons (ps_fld (pv 1) (pe_fld (pv 0) rfl) rfl)
 (pss_cons (ps_fld (pv 1) (pe_fld (pv 0) rfl) rfl)
 (pss_cons (ps_fld (pv 1) (pe_fld (pv 0) rfl) rfl)
 (pss_cons (ps_fld (pv 1) (pe_fld (pv 0) rfl) rfl)
 (pss_one (ps_ret (pv 1)))))))), ?_⟩
    refine ⟨_, rfl, p, C, dx, _, _, rfl, hp, t.cl, t.nA, fl_age, fun x dq nx ndq hne => ⟨x, dq, a, rfl, upd_same, ha, fun H' tl' tg' keep hx _ _ => ⟨rfl, ?_⟩⟩⟩
    have s1 : Same H H' := fun b o hb => keep b o (ne_of_none hb nx) (by rw [upd_ne (ne_of_none hb nx), upd_ne (ne_of_none hb ndq)]; exact hb)
    have npx : p ≠ x := ne_of_none hp nx
    have hp1 := s1 _ _ hp
    have step : ∀ (H1 : Hp), H1 p = some (.ins C dx (flds (.int a) (.ref tl) (.int n) (.int m) (.ref tg) (.int c))) → ∀ o, (upd H1 x o) p = some (.ins C dx (flds (.int a) (.ref tl) (.int n) (.int m) (.ref tg) (.int c))) := fun H1 h o => by rw [upd_ne npx]; exact h
    refine ⟨_, rfl, p, C, dx, _, _, rfl, hp1, t.cl, t.nL, fl_let, _, rfl, x, C, dq, _, rfl, hx, t.cl, t.nL, by show 6 < 1000; decide, ?_⟩
    rw [pu_let]
    refine ⟨_, rfl, p, C, dx, _, _, rfl, step _ hp1 _, t.cl, t.nN, fl_nx, _, rfl, x, C, dq, _, rfl, upd_same, t.cl, t.nN, by show 6 < 1000; decide, ?_⟩
    rw [pu_nx]
    refine ⟨_, rfl, p, C, dx, _, _, rfl, step _ (step _ hp1 _) _, t.cl, t.nM, fl_mk, _, rfl, x, C, dq, _, rfl, upd_same, t.cl, t.nM, by show 6 < 1000; decide, ?_⟩
    rw [pu_mk]
    refine ⟨_, rfl, p, C, dx, _, _, rfl, step _ (step _ (step _ hp1 _) _) _, t.cl, t.nG, fl_gone, _, rfl, x, C, dq, _, rfl, upd_same, t.cl, t.nG, by show 6 < 1000; decide, ?_⟩
    rw [pu_gone]
    refine ⟨_, rfl, p, C, dx, _, _, rfl, step _ (step _ (step _ (step _ hp1 _) _) _) _, t.cl, t.nC, fl_cut, _, rfl, x, C, dq, _, rfl, upd_same, t.cl, t.nC, by show 6 < 1000; decide, ?_⟩
    rw [pu_cut]
    exact ⟨_, rfl, q x dq _ (((((s1.mut nx).mut nx).mut nx).mut nx).mut nx) nx upd_same⟩
theorem ok_app {f : Addr} {fd : FuncData} (t : ClT K mg C) (D_is_body : Def P w K mg base CX0 2 "is_body" pV spBody) (D_is_signs : Def P w K mg base CX0 2 "is_signs" pV spSigns) (M_copied : MDef P w K mg base CX0 5 C "_copied" nSelf (spCopied C))
    (F : Fun K "appended" "Folder.appended" sApp f fd) : FnOk P w K mg base CX0 6 f fd pApp (spApp C) := by
  have nd := scApp.nd
  refine F.ok scApp (fun vs H Q E h => ?_) (fun cdv A outer s H vs Q E hr h => ?_)
  · obtain ⟨p, sg, F, b, ss, rfl, _⟩ := h
    rfl
  · obtain ⟨p, sg, F, b, ss, rfl, ⟨dx, tl, tg, hp, h1, h2⟩, ha, hb, hs, hu, hl, q⟩ := h
    refine ⟨_, pss_cons (ps_if (pt_not (pt_val (pe_def D_is_body (hr.mono (by decide)) rfl pass0 (pa_cons (pv 1) pa_nil)))) pss_any pss_nil)
 (pss_cons (ps_if (pt_not (pt_val (pe_def D_is_signs (hr.mono (by decide)) rfl pass0 (pa_cons (pv 2) pa_nil)))) pss_any pss_nil)
 (pss_cons (ps_set (i := 3) nd rfl (Or.inl rfl) (pe_mdef0 M_copied t.cl (hr.mono (by decide)) pass0 (pv 0)))
 (pss_cons (ps_fldaug (pv 3) pe_int in_add)
 (pss_cons (ps_fld (pv 3) (pe_tup (pa_star (pe_fld (pv 0) rfl) (pa_cons (pe_tup (pa_cons (pe_fld (pv 0) rfl) (pa_cons (pv 1) (pa_cons (pv 2) (pa_cons (pe_fld (pv 3) rfl) pa_nil))))) pa_nil))) rfl)
 (pss_cons (ps_fldaug (pv 3) pe_int in_add)
 (pss_one (ps_ret (pv 3)))))))), ?_⟩
    refine ⟨_, rfl, b, rfl, hb, _, rfl, itbF rfl ?_⟩
    refine ⟨_, rfl, sg, ss, rfl, hs, okSs_iff.mpr hu, fun H1 s1 => ⟨_, rfl, itbF rfl ?_⟩⟩
    refine ⟨_, rfl, p, dx, _, rfl, s1 _ _ hp, fl_no (by decide +kernel), p, dx, tl, tg, F.age, F.nx, F.mr, F.ct, rfl, s1 _ _ hp, ha, fun x dq H2 s2 nx hx => ?_⟩
    have s12 := s1.trans s2
    have nxH : H x = none := s1.free nx
    have npx : p ≠ x := ne_of_none (s1 _ _ hp) nx
    refine ⟨_, rfl, x, C, dq, _, _, rfl, hx, t.cl, t.nM, fl_mk, _, _, rfl, rfl, dq, _, hx, by show 6 < 1000; decide, ?_⟩
    rw [pu_mk]
    have sA : Same H (upd H2 x (.ins C dq (flds (.int F.age) (.ref tl) (.int F.nx) (.int (F.mr + 1)) (.ref tg) (.int F.ct)))) := s12.mut nxH
    have hxA : (upd H2 x (.ins C dq (flds (.int F.age) (.ref tl) (.int F.nx) (.int (F.mr + 1)) (.ref tg) (.int F.ct)))) x = _ := upd_same
    generalize upd H2 x (.ins C dq (flds (.int F.age) (.ref tl) (.int F.nx) (.int (F.mr + 1)) (.ref tg) (.int F.ct))) = HA at sA hxA
    obtain ⟨xs, e0, r0⟩ := Dv.tups h1
    refine ⟨_, rfl, p, C, dx, _, _, rfl, sA _ _ hp, t.cl, t.nL, fl_let, tl, xs, rfl, .inl (st (sA _ _ e0)), ?_⟩
    refine ⟨_, rfl, p, C, dx, _, _, rfl, sA _ _ hp, t.cl, t.nN, fl_nx, _, rfl, _, rfl, _, rfl, x, C, dq, _, _, rfl, hxA, t.cl, t.nM, fl_mk, by show 4 ≤ sizeLine; decide, fun lt nlt => ⟨?_, fun tn ntn => ?_⟩⟩
    · have hlen := r0.len
      rw [List.length_map] at hlen
      exact lt1 _ (by rw [List.length_append, hlen]; show F.ls.length + 1 ≤ 100000; omega)
    · have sB := (sA.new nlt (o := .tup [.int F.nx, .int b, .ref sg, .int (F.mr + 1)])).new ntn (o := .tup (xs ++ [.ref lt]))
      have nxl : x ≠ lt := ne_of_none hxA nlt
      have nxt : x ≠ tn := ne_of_none (by rw [upd_ne nxl]; exact hxA) ntn
      have hlt : (upd (upd HA lt (.tup [.int F.nx, .int b, .ref sg, .int (F.mr + 1)])) tn (.tup (xs ++ [.ref lt]))) lt = some (.tup [.int F.nx, .int b, .ref sg, .int (F.mr + 1)]) := same_new ntn _ _ upd_same
      refine ⟨_, rfl, x, C, dq, _, rfl, (by rw [upd_ne nxt, upd_ne nxl]; exact hxA), t.cl, t.nL, by show 6 < 1000; decide, ?_⟩
      rw [pu_let]
      refine ⟨_, rfl, x, C, dq, _, _, rfl, upd_same, t.cl, t.nN, fl_nx, _, _, rfl, rfl, dq, _, upd_same, by show 6 < 1000; decide, ?_⟩
      rw [pu_nx]
      have sC := (sB.mut nxH (o := .ins C dq (flds (.int F.age) (.ref tn) (.int F.nx) (.int (F.mr + 1)) (.ref tg) (.int F.ct)))).mut nxH (o := .ins C dq (flds (.int F.age) (.ref tn) (.int (F.nx + 1)) (.int (F.mr + 1)) (.ref tg) (.int F.ct)))
      refine ⟨_, rfl, q x _ sC nxH ⟨dq, tn, tg, upd_same, ?_, h2.same sC⟩⟩
      have rl := r0.same sC
      refine .tup (xs := xs ++ [.ref lt]) (by rw [upd_ne nxt.symm, upd_ne nxt.symm, upd_same]) ?_
      have em : (fApp F b ss).ls.map ltD = F.ls.map ltD ++ [ltD ⟨F.nx, b, ss, F.mr + 1⟩] := by unfold fApp; rw [List.map_append]; rfl
      rw [em]
      refine rl.app (.cons (.tup (by rw [upd_ne nxl.symm, upd_ne nxl.symm]; exact hlt) (.cons (.int _) (.cons (.int _) (.cons (.tup (sC _ _ hs) (dv_strs ss)) (.cons (.int _) .nil))))) .nil)
end
end K1


set_option Elab.async false
set_option linter.all false
set_option maxRecDepth 100000
set_option maxHeartbeats 2000000
namespace K1
open PySem PySem.Spec PyProof.Rows L2 RZ StX
/-! ### data of tuples alone -/
mutual
def tO : PyData → Bool
  | .list _ => false
  | .tuple xs => tOA xs
  | .dict _ => false
  | _ => true
def tOA : List PyData → Bool
  | [] => true
  | x :: r => tO x && tOA r
end
mutual
theorem Dv.mut {H : Hp} {a : Addr} {o o' : HO} (ha : H a = some o) (no : ∀ xs, o ≠ .tup xs) : ∀ {v : V} {d : PyData}, Dv H v d → tO d = true → Dv (upd H a o') v d
  | _, _, .non, _ => .non
  | _, _, .bl b, _ => .bl b
  | _, _, .int i, _ => .int i
  | _, _, .str x, _ => .str x
  | _, _, .lst h r, n => by cases n
  | _, _, .tup h r, n => .tup (by rw [upd_ne (fun z => by subst z; rw [h] at ha; cases ha; exact no _ rfl)]; exact h) (DvA.mut ha no r n)
  | _, _, .dic h, n => by cases n
theorem DvA.mut {H : Hp} {a : Addr} {o o' : HO} (ha : H a = some o) (no : ∀ xs, o ≠ .tup xs) : ∀ {vs : List V} {ds : List PyData}, DvA H vs ds → tOA ds = true → DvA (upd H a o') vs ds
  | _, _, .nil, _ => .nil
  | _, _, .cons h r, n => .cons (Dv.mut ha no h ((Bool.and_eq_true _ _).mp n).1) (DvA.mut ha no r ((Bool.and_eq_true _ _).mp n).2)
end
theorem tO_strs : ∀ ss : List Str, tOA (ss.map PyData.str) = true
  | [] => rfl
  | s :: r => by
    show (true && tOA (r.map PyData.str)) = true
    rw [tO_strs r]; rfl
theorem tO_lt (l : Lt) : tO (ltD l) = true := by
  show (true && (true && (tOA (l.s.map PyData.str) && (true && true)))) = true
  rw [tO_strs]; rfl
theorem tO_lts : ∀ ls : List Lt, tOA (ls.map ltD) = true
  | [] => rfl
  | l :: r => by
    show (tO (ltD l) && tOA (r.map ltD)) = true
    rw [tO_lt, tO_lts r]; rfl
theorem tO_gos : ∀ gs : List (Int × Int), tOA (gs.map goD) = true
  | [] => rfl
  | l :: r => by
    show (true && tOA (r.map goD)) = true
    rw [tO_gos r]; rfl
/-! ### what the deeds make -/
def remL (ns : List Int) : List Lt → Int → List Lt × List (Int × Int) × Int
  | [], m => ([], [], m)
  | l :: r, m => if l.n ∈ ns then ((remL ns r (m + 1)).1, (m + 1, l.n) :: (remL ns r (m + 1)).2.1, (remL ns r (m + 1)).2.2) else (l :: (remL ns r m).1, (remL ns r m).2.1, (remL ns r m).2.2)
def fRem (F : Fo) (ns : List Int) : Fo := { F with ls := (remL ns F.ls F.mr).1, go := F.go ++ (remL ns F.ls F.mr).2.1, mr := (remL ns F.ls F.mr).2.2 }
def newS (ns : List Int) (g : List Str → List Str) (l : Lt) : List Str := if l.n ∈ ns then g l.s else l.s
def sigL (ns : List Int) (g : List Str → List Str) : List Lt → Int → List Lt × Int
  | [], m => ([], m)
  | l :: r, m => if newS ns g l = l.s then (l :: (sigL ns g r m).1, (sigL ns g r m).2) else (⟨l.n, l.b, newS ns g l, m + 1⟩ :: (sigL ns g r (m + 1)).1, (sigL ns g r (m + 1)).2)
def fSig (F : Fo) (ns : List Int) (g : List Str → List Str) : Fo := { F with ls := (sigL ns g F.ls F.mr).1, mr := (sigL ns g F.ls F.mr).2 }
abbrev sRem : Stmt := mS 12
abbrev nRem : List Str := ["self", "numbers", "chosen", "folder", "letters", "gone", "letter"]
abbrev pRem : List Str := ["self", "numbers"]
theorem scRem : FnScope nRem pRem (defScope sRem) := ⟨rfl, rfl, rfl, by decide +kernel, rfl, by decide +kernel, by decide +kernel⟩
/-- what a deed on numbers wants -/
structure NumsAt (H : Hp) (a : Addr) (ns : List Int) : Prop where
  at_ : SeqH H a (ns.map V.int)
  one : ∀ n ∈ ns, 1 ≤ n
  len : ns.length ≤ 1000
def spRem (C : Addr) : Sp := fun vs H Q _ => ∃ (p na : Addr) (F : Fo) (ns : List Int), vs = [.ref p, .ref na] ∧ FoAt C H p F ∧ 1 ≤ F.age ∧ NumsAt H na ns ∧ F.ls.length ≤ 1000 ∧ F.go.length ≤ 1000 ∧ ∀ q H', Same H H' → H q = none → FoAt C H' q (fRem F ns) → Q (.ref q) H'
theorem drop_cons {α : Type} {l : List α} {i : Nat} {x : α} (h : l[i]? = some x) : l.drop i = x :: l.drop (i + 1) := by
  have hi := lt_of_get h
  rw [List.drop_eq_getElem_cons hi]
  congr 1
  rw [List.getElem?_eq_getElem hi] at h
  exact Option.some.inj h
section
variable {P : Program} {w : World} {K : PySem.W.Frag} {mg : Str → Option Value} {base : Heap} {C : Addr}
theorem ok_rem {f : Addr} {fd : FuncData} (T : Bk mg) (t : ClT K mg C) (D_check_numbers : Def P w K mg base CX0 4 "_check_numbers" nCkNums spCkNums) (M_copied : MDef P w K mg base CX0 5 C "_copied" nSelf (spCopied C))
    (F : Fun K "removed" "Folder.removed" sRem f fd) : FnOk P w K mg base CX0 6 f fd pRem (spRem C) := by
  have nd := scRem.nd
  refine F.ok scRem (fun vs H Q E h => ?_) (fun cdv A outer s H vs Q E hr h => ?_)
  · obtain ⟨p, na, F, ns, rfl, _⟩ := h
    rfl
  · obtain ⟨p, na, F, ns, rfl, ⟨dx, tl, tg, hp, h1, h2⟩, ha, hn, hl, hgl, q⟩ := h
    refine ⟨_, pss_cons (ps_expr (pe_def D_check_numbers (hr.mono (by decide)) rfl pass0 (pa_cons (pv 1) pa_nil)))
 (pss_cons (ps_set (i := 2) nd rfl (Or.inl rfl) (pe_callTy (cr_setI (P := P) (w := w) (K := K) rfl rfl rfl rfl) (by rfl) T.set PyProof.Rows.boot_set (pa_cons (pv 1) pa_nil)))
 (pss_cons (ps_set (i := 3) nd rfl (Or.inl rfl) (pe_mdef0 M_copied t.cl (hr.mono (by decide)) pass0 (pv 0)))
 (pss_cons (ps_set (i := 4) nd rfl (Or.inl rfl) (pe_lst pa_nil))
 (pss_cons (ps_set (i := 5) nd rfl (Or.inl rfl) (pe_lst pa_nil))
 (C8.pss_cut (ps_for PassesOwn.never rfl (pi_tupK (K := K) rfl (pe_fld (pv 0) rfl)) (pg_name (i := 6) nd rfl (Or.inl rfl))
   (pss_one (ps_if (pt_cmpR (or_sinI (P := P) (w := w) rfl rfl) (pe_ix (ix_tupK (K := K) rfl) (pv 6) pe_int (fun _ _ => rfl)) (pv 2) (by rfl))
     (pss_cons (ps_fldaug (pv 3) pe_int in_add) (pss_one (ps_expr (pe_bm PySem.F.plainAttrs_list PySem.F.slot_list_append PySem.F.type_list_append mt_append (pv 5) (pa_cons (pe_tup (pa_cons (pe_fld (pv 3) rfl) (pa_cons (pe_ix (ix_tupK (K := K) rfl) (pv 6) pe_int (fun _ _ => rfl)) pa_nil))) pa_nil)))))
     (pss_one (ps_expr (pe_bm PySem.F.plainAttrs_list PySem.F.slot_list_append PySem.F.type_list_append mt_append (pv 4) (pa_cons (pv 6) pa_nil)))))))
 (pss_cons (ps_fld (pv 3) (pe_callTy (call_tuple_ofK (K := K) rfl) (by rfl) T.tuple PyProof.Rows.boot_tuple (pa_cons (pv 4) pa_nil)) rfl)
 (pss_cons (ps_fld (pv 3) (pe_tup (pa_star (pe_fld (pv 0) rfl) (pa_star (pv 5) pa_nil))) rfl)
 (pss_one (ps_ret (pv 3)))))))))), ?_⟩
    obtain ⟨xs, e0, r0⟩ := Dv.tups h1
    obtain ⟨gs, g0, gr0⟩ := Dv.tups h2
    refine ⟨_, rfl, na, ns, rfl, hn.at_, hn.one, hn.len, fun H1 s1 => ?_⟩
    refine ⟨_, rfl, na, ns, rfl, hn.at_.same s1, hn.len, fun cs nn ncs => ?_⟩
    have s2 := s1.new ncs (o := SetI P w cs (fun j => decide (j ∈ ns)) nn)
    have hcs2 : (upd H1 cs (SetI P w cs (fun j => decide (j ∈ ns)) nn)) cs = _ := upd_same
    generalize upd H1 cs (SetI P w cs (fun j => decide (j ∈ ns)) nn) = H2 at s2 hcs2
    refine ⟨_, rfl, p, dx, _, rfl, s2 _ _ hp, fl_no (by decide +kernel), p, dx, tl, tg, F.age, F.nx, F.mr, F.ct, rfl, s2 _ _ hp, ha, fun x dq H3 s3 nx hx => ?_⟩
    have s23 := s2.trans s3
    have nxH : H x = none := s2.free nx
    have hcs3 := s3 _ _ hcs2
    refine ⟨Nat.zero_le _, fun lk nlk => ⟨Nat.zero_le _, fun lg nlg => ?_⟩⟩
    have s4 := (s23.new nlk (o := .lst [])).new nlg (o := .lst [])
    have nlkH : H lk = none := s23.free nlk
    have nlgH : H lg = none := (s23.new nlk (o := .lst [])).free nlg
    have xlk : x ≠ lk := ne_of_none hx nlk
    have xlg : x ≠ lg := ne_of_none (by rw [upd_ne xlk]; exact hx) nlg
    have lkg : lk ≠ lg := ne_of_none (show (upd H3 lk (.lst [])) lk = some (.lst []) from upd_same) nlg
    have csk : cs ≠ lk := ne_of_none hcs3 nlk
    have csg : cs ≠ lg := ne_of_none (by rw [upd_ne csk]; exact hcs3) nlg
    have csx : cs ≠ x := fun z => by rw [z] at hcs3; rw [hx] at hcs3; simp [SetI] at hcs3
    refine ⟨fun σ G => ∃ v6 ks kept gg gone m, σ = [some (.ref p), some (.ref na), some (.ref cs), some (.ref x), some (.ref lk), some (.ref lg), v6] ∧ Same H G ∧ G x = some (.ins C dq (flds (.int F.age) (.ref tl) (.int F.nx) (.int m) (.ref tg) (.int F.ct))) ∧ G lk = some (.lst ks) ∧ DvA G ks (kept.map ltD) ∧ G lg = some (.lst gg) ∧ DvA G gg (gone.map goD) ∧
      remL ns F.ls F.mr = (kept, gone, m) ∧ kept.length ≤ 1000 ∧ gone.length ≤ 1000, ?_, ?_⟩
    · refine ⟨_, rfl, p, C, dx, _, _, rfl, s4 _ _ hp, t.cl, t.nL, fl_let, tl, rfl, ⟨_, st (s4 _ _ e0)⟩, for_tup (K := K) (a := tl) (xs := xs) (fun i σ G => ∃ v6 ks kept gg gone m, σ = [some (.ref p), some (.ref na), some (.ref cs), some (.ref x), some (.ref lk), some (.ref lg), v6] ∧ Same H G ∧ G cs = some (SetI P w cs (fun j => decide (j ∈ ns)) nn) ∧ G x = some (.ins C dq (flds (.int F.age) (.ref tl) (.int F.nx) (.int m) (.ref tg) (.int F.ct))) ∧ G lk = some (.lst ks) ∧ DvA G ks (kept.map ltD) ∧ G lg = some (.lst gg) ∧ DvA G gg (gone.map goD) ∧
          remL ns F.ls F.mr = (kept ++ (remL ns (F.ls.drop i) m).1, gone ++ (remL ns (F.ls.drop i) m).2.1, (remL ns (F.ls.drop i) m).2.2) ∧ kept.length ≤ i ∧ gone.length ≤ i) ?_ ?_ ?_ ?_⟩
      · exact ⟨none, [], [], [], [], F.mr, rfl, s4, (by rw [upd_ne csg, upd_ne csk]; exact hcs3), (by rw [upd_ne xlg, upd_ne xlk]; exact hx), (by rw [upd_ne lkg]; exact upd_same), .nil, upd_same, .nil, rfl, Nat.le_refl _, Nat.le_refl _⟩
      · rintro i σ G _ ⟨v6, ks, kept, gg, gone, m, rfl, sG, _⟩
        exact st (sG _ _ e0)
      · rintro i y σ G hy ⟨v6, ks, kept, gg, gone, m, rfl, sG, hcs, hx, hk, dk, hg, dg, er, l1, l2⟩
        have hi := lt_of_get hy
        have hlen := r0.len
        rw [List.length_map] at hlen
        obtain ⟨e, he, hde⟩ := (r0.same sG).get hy
        rw [List.getElem?_map] at he
        cases hF : F.ls[i]? with
        | none => rw [hF] at he; cases he
        | some l =>
          rw [hF] at he
          obtain rfl := (Option.some.inj he).symm
          rw [drop_cons hF] at er
          obtain ⟨ta, us, rfl, hta, hus⟩ : ∃ ta us, y = .ref ta ∧ G ta = some (.tup us) ∧ DvA G us [.int l.n, .int l.b, .tuple (l.s.map PyData.str), .int l.m] := by
            cases hde with
            | tup h r => exact ⟨_, _, rfl, h, r⟩
          obtain ⟨u0, ur, rfl⟩ : ∃ u0 ur, us = u0 :: ur := by
            cases hus with
            | cons h r => exact ⟨_, _, rfl⟩
          have hu0 : u0 = .int l.n := by
            cases hus with
            | cons h r => cases h; rfl
          subst hu0
          refine ⟨_, rfl, ta, _, 0, .int l.n, rfl, rfl, st hta, atI_nat (j := 0) rfl, _, rfl, l.n, cs, _, nn, rfl, rfl, hcs, _, rfl, ?_⟩
          by_cases c : l.n ∈ ns
          · refine itbT (decide_eq_true c) ?_
            have er' : remL ns F.ls F.mr = ((kept ++ (remL ns (F.ls.drop (i + 1)) (m + 1)).1, (gone ++ [(m + 1, l.n)]) ++ (remL ns (F.ls.drop (i + 1)) (m + 1)).2.1, (remL ns (F.ls.drop (i + 1)) (m + 1)).2.2) : List Lt × List (Int × Int) × Int) := by
              rw [er]
              show (kept ++ (if l.n ∈ ns then _ else _ : List Lt × List (Int × Int) × Int).1, _, _) = _
              simp only [remL, if_pos c, List.append_assoc, List.singleton_append]
            refine ⟨_, rfl, x, C, dq, _, _, rfl, hx, t.cl, t.nM, fl_mk, _, _, rfl, rfl, dq, _, hx, by show 6 < 1000; decide, ?_⟩
            rw [pu_mk]
            have xk : x ≠ lk := fun z => by rw [z, hk] at hx; cases hx
            have xg : x ≠ lg := fun z => by rw [z, hg] at hx; cases hx
            have kg : lk ≠ lg := lkg
            have sA := sG.mut nxH (o := .ins C dq (flds (.int F.age) (.ref tl) (.int F.nx) (.int (m + 1)) (.ref tg) (.int F.ct)))
            have dkA := dk.mut (o' := .ins C dq (flds (.int F.age) (.ref tl) (.int F.nx) (.int (m + 1)) (.ref tg) (.int F.ct))) hx (fun _ z => by cases z) (tO_lts _)
            have dgA := dg.mut (o' := .ins C dq (flds (.int F.age) (.ref tl) (.int F.nx) (.int (m + 1)) (.ref tg) (.int F.ct))) hx (fun _ z => by cases z) (tO_gos _)
            have hxA : (upd G x (.ins C dq (flds (.int F.age) (.ref tl) (.int F.nx) (.int (m + 1)) (.ref tg) (.int F.ct)))) x = _ := upd_same
            have hkA : (upd G x (.ins C dq (flds (.int F.age) (.ref tl) (.int F.nx) (.int (m + 1)) (.ref tg) (.int F.ct)))) lk = some (.lst ks) := by rw [upd_ne xk.symm]; exact hk
            have hgA : (upd G x (.ins C dq (flds (.int F.age) (.ref tl) (.int F.nx) (.int (m + 1)) (.ref tg) (.int F.ct)))) lg = some (.lst gg) := by rw [upd_ne xg.symm]; exact hg
            have hcA : (upd G x (.ins C dq (flds (.int F.age) (.ref tl) (.int F.nx) (.int (m + 1)) (.ref tg) (.int F.ct)))) cs = some (SetI P w cs (fun j => decide (j ∈ ns)) nn) := by rw [upd_ne csx]; exact hcs
            have htA : (upd G x (.ins C dq (flds (.int F.age) (.ref tl) (.int F.nx) (.int (m + 1)) (.ref tg) (.int F.ct)))) ta = some (.tup (.int l.n :: ur)) := by rw [upd_ne (fun z => by rw [z, hx] at hta; cases hta)]; exact hta
            generalize upd G x (.ins C dq (flds (.int F.age) (.ref tl) (.int F.nx) (.int (m + 1)) (.ref tg) (.int F.ct))) = GA at sA dkA dgA hxA hkA hgA hcA htA
            refine ⟨_, rfl, .inl ⟨rfl, _, sq hgA⟩, _, rfl, x, C, dq, _, _, rfl, hxA, t.cl, t.nM, fl_mk, _, rfl, ta, _, 0, .int l.n, rfl, rfl, st htA, atI_nat (j := 0) rfl, by show 2 ≤ sizeLine; decide, fun gn ngn => ?_⟩
            have sB := same_new (o := .tup [.int (m + 1), .int l.n]) ngn
            refine ⟨lg, _, _, rfl, rfl, sB _ _ hgA, lt2 _ (by rw [dgA.len, List.length_map]; omega), ?_⟩
            have hgB := sB _ _ hgA
            refine ⟨some (.ref ta), ks, kept, gg ++ [.ref gn], gone ++ [(m + 1, l.n)], m + 1, rfl, (sA.trans sB).mut nlgH, (by rw [upd_ne csg]; exact sB _ _ hcA), (by rw [upd_ne xg]; exact sB _ _ hxA), (by rw [upd_ne kg]; exact sB _ _ hkA), (dkA.same sB).mut hgB (fun _ z => by cases z) (tO_lts _), upd_same, ?_, er', by omega, by rw [List.length_append]; show gone.length + 1 ≤ i + 1; omega⟩
            rw [List.map_append]
            exact ((dgA.same sB).app (.cons (.tup upd_same (.cons (.int _) (.cons (.int _) .nil))) .nil)).mut hgB (fun _ z => by cases z) (by rw [show gone.map goD ++ [PyData.tuple [.int (m + 1), .int l.n]] = (gone ++ [(m + 1, l.n)]).map goD by rw [List.map_append]; rfl]; exact tO_gos _)
          · refine itbF (decide_eq_false c) ?_
            have er' : remL ns F.ls F.mr = ((kept ++ [l]) ++ (remL ns (F.ls.drop (i + 1)) m).1, gone ++ (remL ns (F.ls.drop (i + 1)) m).2.1, (remL ns (F.ls.drop (i + 1)) m).2.2) := by
              rw [er]
              simp only [remL, if_neg c, List.append_assoc, List.singleton_append]
            refine ⟨_, rfl, .inl ⟨rfl, _, sq hk⟩, _, rfl, lk, _, _, rfl, rfl, hk, lt2 _ (by rw [dk.len, List.length_map]; omega), ?_⟩
            have xk : x ≠ lk := fun z => by rw [z, hk] at hx; cases hx
            refine ⟨some (.ref ta), ks ++ [.ref ta], kept ++ [l], gg, gone, m, rfl, sG.mut nlkH, (by rw [upd_ne csk]; exact hcs), (by rw [upd_ne xk]; exact hx), upd_same, ?_, (by rw [upd_ne lkg.symm]; exact hg), dg.mut hk (fun _ z => by cases z) (tO_gos _), er', by rw [List.length_append]; show kept.length + 1 ≤ i + 1; omega, by omega⟩
            rw [List.map_append]
            exact (dk.app (.cons (.tup hta hus) .nil)).mut hk (fun _ z => by cases z) (by rw [show kept.map ltD ++ [PyData.tuple [.int l.n, .int l.b, .tuple (l.s.map PyData.str), .int l.m]] = (kept ++ [l]).map ltD by rw [List.map_append]; rfl]; exact tO_lts _)
      · rintro σ G ⟨v6, ks, kept, gg, gone, m, rfl, sG, hcs, hx, hk, dk, hg, dg, er, l1, l2⟩
        have hlen := r0.len
        rw [List.length_map] at hlen
        rw [hlen, List.drop_length] at er
        refine ⟨v6, ks, kept, gg, gone, m, rfl, sG, hx, hk, dk, hg, dg, ?_, by omega, by omega⟩
        rw [er]
        simp [remL]
    · rintro σ G ⟨v6, ks, kept, gg, gone, m, rfl, sG, hx, hk, dk, hg, dg, er, l1, l2⟩
      refine ⟨_, rfl, lk, ks, rfl, .inl ⟨sq hk, fun tk ntk => ?_⟩⟩
      have sA := same_new (o := .tup ks) ntk
      refine ⟨_, rfl, x, C, dq, _, rfl, sA _ _ hx, t.cl, t.nL, by show 6 < 1000; decide, ?_⟩
      rw [pu_let]
      have nxt : x ≠ tk := ne_of_none hx ntk
      have sB := ((sG.trans sA).mut nxH (o := .ins C dq (flds (.int F.age) (.ref tk) (.int F.nx) (.int m) (.ref tg) (.int F.ct))))
      have hkB : (upd (upd G tk (.tup ks)) x (.ins C dq (flds (.int F.age) (.ref tk) (.int F.nx) (.int m) (.ref tg) (.int F.ct)))) tk = some (.tup ks) := by rw [upd_ne nxt.symm]; exact upd_same
      have hxB : (upd (upd G tk (.tup ks)) x (.ins C dq (flds (.int F.age) (.ref tk) (.int F.nx) (.int m) (.ref tg) (.int F.ct)))) x = _ := upd_same
      have xg : x ≠ lg := fun z => by rw [z, hg] at hx; cases hx
      have hgB : (upd (upd G tk (.tup ks)) x (.ins C dq (flds (.int F.age) (.ref tk) (.int F.nx) (.int m) (.ref tg) (.int F.ct)))) lg = some (.lst gg) := by rw [upd_ne xg.symm]; exact sA _ _ hg
      have dkB := (dk.same sA).mut (o' := .ins C dq (flds (.int F.age) (.ref tk) (.int F.nx) (.int m) (.ref tg) (.int F.ct))) (sA _ _ hx) (fun _ z => by cases z) (tO_lts _)
      have dgB := (dg.same sA).mut (o' := .ins C dq (flds (.int F.age) (.ref tk) (.int F.nx) (.int m) (.ref tg) (.int F.ct))) (sA _ _ hx) (fun _ z => by cases z) (tO_gos _)
      generalize upd (upd G tk (.tup ks)) x (.ins C dq (flds (.int F.age) (.ref tk) (.int F.nx) (.int m) (.ref tg) (.int F.ct))) = GB at sB hkB hxB hgB dkB dgB
      refine ⟨_, rfl, p, C, dx, _, _, rfl, sB _ _ hp, t.cl, t.nG, fl_gone, tg, gs, rfl, .inl (st (sB _ _ g0)), _, rfl, lg, gg, rfl, .inr (sq hgB), ?_, fun tn ntn => ?_⟩
      · rw [List.append_nil, List.length_append, gr0.len, dgB.len, List.length_map, List.length_map]
        exact lt1 _ (by omega)
      · rw [List.append_nil]
        have sC := same_new (o := .tup (gs ++ gg)) ntn
        have nxn : x ≠ tn := ne_of_none hxB ntn
        refine ⟨_, rfl, x, C, dq, _, rfl, sC _ _ hxB, t.cl, t.nG, by show 6 < 1000; decide, ?_⟩
        rw [pu_gone]
        have sD := (sB.trans sC).mut nxH (o := .ins C dq (flds (.int F.age) (.ref tk) (.int F.nx) (.int m) (.ref tn) (.int F.ct)))
        have hxC := sC _ _ hxB
        refine ⟨_, rfl, q x _ sD nxH ?_⟩
        have ef : fRem F ns = { F with ls := kept, go := F.go ++ gone, mr := m } := by unfold fRem; rw [er]
        rw [ef]
        refine ⟨dq, tk, tn, upd_same, .tup (by rw [upd_ne nxt.symm]; exact sC _ _ hkB) ((dkB.same sC).mut hxC (fun _ z => by cases z) (tO_lts _)), .tup (by rw [upd_ne nxn.symm]; exact upd_same) ?_⟩
        show DvA _ (gs ++ gg) ((F.go ++ gone).map goD)
        rw [List.map_append]
        exact (gr0.same sD).app ((dgB.same sC).mut hxC (fun _ z => by cases z) (tO_gos _))
end
end K1


set_option Elab.async false
set_option linter.all false
set_option maxRecDepth 100000
set_option maxHeartbeats 2000000
namespace K1
open PySem PySem.Spec PyProof.Rows L2 RZ StX
theorem nd_strs : ∀ ss : List Str, noDicA (ss.map PyData.str) = true
  | [] => rfl
  | s :: r => by
    show (true && noDicA (r.map PyData.str)) = true
    rw [nd_strs r]; rfl
theorem dva_strs {H : Hp} : ∀ {xs : List V} {ss : List Str}, DvA H xs (ss.map PyData.str) → xs = ss.map V.str
  | _, [], .nil => rfl
  | _, _ :: _, .cons (.str _) r => by rw [dva_strs r]; rfl
theorem dv_lt {H : Hp} {y : V} {l : Lt} (h : Dv H y (ltD l)) : ∃ ta sa, y = .ref ta ∧ H ta = some (.tup [.int l.n, .int l.b, .ref sa, .int l.m]) ∧ H sa = some (.tup (l.s.map V.str)) := by
  cases h with
  | tup h r =>
  cases r with
  | cons h1 r =>
  cases r with
  | cons h2 r =>
  cases r with
  | cons h3 r =>
  cases r with
  | cons h4 r =>
  cases r
  cases h1
  cases h2
  cases h4
  cases h3 with
  | tup e q => exact ⟨_, _, rfl, h, by rw [e, dva_strs q]⟩
theorem dv_lt_of {H : Hp} {l : Lt} {ta sa : Addr} (h : H ta = some (.tup [.int l.n, .int l.b, .ref sa, .int l.m])) (h2 : H sa = some (.tup (l.s.map V.str))) : Dv H (.ref ta) (ltD l) :=
  .tup h (.cons (.int _) (.cons (.int _) (.cons (.tup h2 (dv_strs _)) (.cons (.int _) .nil))))
abbrev sSig : Stmt := mS 15
abbrev nSig : List Str := ["self", "numbers", "renewed", "chosen", "folder", "letters", "number", "body", "signs", "mark", "wanted"]
abbrev pSig : List Str := ["self", "numbers", "renewed"]
theorem scSig : FnScope nSig pSig (defScope sSig) := ⟨rfl, rfl, rfl, by decide +kernel, rfl, by decide +kernel, by decide +kernel⟩
/-- what _signed makes of a lambda that makes g of the signs -/
def TSig (C : Addr) (g : List Str → List Str) : V → V → (V → Hp → VK → Prop) → Hp → VK → Prop := fun x y tl H Q => ∃ p na F ns, x = .ref p ∧ y = .ref na ∧ FoAt C H p F ∧ 1 ≤ F.age ∧ NumsAt H na ns ∧ F.ls.length ≤ 1000 ∧ (∀ l ∈ F.ls, OkSs l.s) ∧ (∀ ss, OkSs ss → OkSs (g ss)) ∧
  (∀ a ss H' Q', Same H H' → OkSs ss → H' a = some (.tup (ss.map V.str)) → (∀ b H'', Same H' H'' → H'' b = some (.tup ((g ss).map V.str)) → Q' (.ref b) H'') → tl (.ref a) H' Q') ∧
  ∀ q H', Same H H' → H q = none → FoAt C H' q (fSig F ns g) → Q (.ref q) H'
theorem newS_u {ns : List Int} {g : List Str → List Str} {l : Lt} (hl : OkSs l.s) (hg : ∀ ss, OkSs ss → OkSs (g ss)) : OkSs (newS ns g l) := by
  unfold newS
  by_cases c : l.n ∈ ns
  · rw [if_pos c]; exact hg _ hl
  · rw [if_neg c]; exact hl
theorem signed_gives {X : Cx} {C c0 : Addr} {cdg : Value} {q : Str} {g : List Str → List Str} (T : Bk X.mg) (t : ClT X.K X.mg C) (M_copied : MDef X.prog X.w X.K X.mg X.base CX0 5 C "_copied" nSelf (spCopied C)) :
    LamY.GivesM 6 X nSig "Folder._signed" (defScope sSig) c0 cdg (defBody sSig) 2 "renewed" q (TSig C g) := by
  intro f c' s H Q x0 y0 tl hr hcall hc h
  have nd := scSig.nd
  obtain ⟨p, na, F, ns, rfl, rfl, ⟨dx, tl', tg, hp, h1, h2⟩, ha, hn, hl, hu, hg, hlam, q⟩ := h
  refine ⟨_, pss_cons (ps_set (i := 3) nd rfl (Or.inl rfl) (pe_callTy (cr_setI (P := X.prog) (w := X.w) (K := X.K) rfl rfl rfl rfl) (by rfl) T.set PyProof.Rows.boot_set (pa_cons (pv 1) pa_nil)))
 (pss_cons (ps_set (i := 4) nd rfl (Or.inl rfl) (pe_mdef0 M_copied t.cl (hr.mono (by decide)) pass0 (pv 0)))
 (pss_cons (ps_set (i := 5) nd rfl (Or.inl rfl) (pe_lst pa_nil))
 (C8.pss_cut (ps_for PassesOwn.never rfl (pi_tupK (K := X.K) rfl (pe_fld (pv 0) rfl)) (pg_tup rfl (pgs_cons (pg_name (i := 6) nd rfl (Or.inl rfl)) (pgs_cons (pg_name (i := 7) nd rfl (Or.inl rfl)) (pgs_cons (pg_name (i := 8) nd rfl (Or.inl rfl)) (pgs_cons (pg_name (i := 9) nd rfl (Or.inl rfl)) pgs_nil)))))
   (C8.pss_cut (ps_set (i := 10) nd rfl (Or.inl rfl) (pe_ifExp (pt_cmpR (or_sinI (P := X.prog) (w := X.w) rfl rfl) (pv 6) (pv 3) (by rfl)) (hcall _ _ _ _ (pv 8) rfl) (pv 8)))
   (pss_cons (ps_if (pt_cmpR (op_neDK (K := X.K) rfl hr.units) (pv 10) (pv 8) (nomark _))
     (pss_cons (ps_fldaug (pv 4) pe_int in_add) (pss_one (ps_set (i := 9) nd rfl (Or.inl rfl) (pe_fld (pv 4) rfl))))
     pss_nil)
   (pss_one (ps_expr (pe_bm PySem.F.plainAttrs_list PySem.F.slot_list_append PySem.F.type_list_append mt_append (pv 5) (pa_cons (pe_tup (pa_cons (pv 6) (pa_cons (pv 7) (pa_cons (pv 10) (pa_cons (pv 9) pa_nil))))) pa_nil)))))))
 (pss_cons (ps_fld (pv 4) (pe_callTy (call_tuple_ofK (K := X.K) rfl) (by rfl) T.tuple PyProof.Rows.boot_tuple (pa_cons (pv 5) pa_nil)) rfl)
 (pss_one (ps_ret (pv 4))))))), ?_⟩
  obtain ⟨xs, e0, r0⟩ := Dv.tups h1
  refine ⟨_, rfl, na, ns, rfl, hn.at_, hn.len, fun cs nn ncs => ?_⟩
  have s2 := same_new (H := H) ncs (o := SetI X.prog X.w cs (fun j => decide (j ∈ ns)) nn)
  have hcs2 : (upd H cs (SetI X.prog X.w cs (fun j => decide (j ∈ ns)) nn)) cs = some (SetI X.prog X.w cs (fun j => decide (j ∈ ns)) nn) := upd_same
  generalize upd H cs (SetI X.prog X.w cs (fun j => decide (j ∈ ns)) nn) = H2 at s2 hcs2
  refine ⟨_, rfl, p, dx, _, rfl, s2 _ _ hp, fl_no (by decide +kernel), p, dx, tl', tg, F.age, F.nx, F.mr, F.ct, rfl, s2 _ _ hp, ha, fun x dq H3 s3 nx hx => ?_⟩
  have s23 := s2.trans s3
  have nxH : H x = none := s2.free nx
  have hcs3 := s3 _ _ hcs2
  refine ⟨Nat.zero_le _, fun lk nlk => ?_⟩
  have s4 := s23.new nlk (o := .lst [])
  have nlkH : H lk = none := s23.free nlk
  have xlk : x ≠ lk := ne_of_none hx nlk
  have csk : cs ≠ lk := ne_of_none hcs3 nlk
  have csx : cs ≠ x := fun z => by rw [z] at hcs3; rw [hx] at hcs3; simp [SetI] at hcs3
  refine ⟨fun σ G => ∃ v6 v7 v8 v9 v10 ks kept m, σ = [some (.ref p), some (.ref na), some (.ref f), some (.ref cs), some (.ref x), some (.ref lk), v6, v7, v8, v9, v10] ∧ Same H G ∧ G x = some (.ins C dq (flds (.int F.age) (.ref tl') (.int F.nx) (.int m) (.ref tg) (.int F.ct))) ∧ G lk = some (.lst ks) ∧ DvA G ks (kept.map ltD) ∧
      sigL ns g F.ls F.mr = (kept, m) ∧ kept.length ≤ 1000, ?_, ?_⟩
  · refine ⟨_, rfl, p, C, dx, _, _, rfl, s4 _ _ hp, t.cl, t.nL, fl_let, tl', rfl, ⟨_, st (s4 _ _ e0)⟩, for_tup (K := X.K) (a := tl') (xs := xs) (fun i σ G => ∃ v6 v7 v8 v9 v10 ks kept m, σ = [some (.ref p), some (.ref na), some (.ref f), some (.ref cs), some (.ref x), some (.ref lk), v6, v7, v8, v9, v10] ∧ Same H G ∧ G cs = some (SetI X.prog X.w cs (fun j => decide (j ∈ ns)) nn) ∧ G x = some (.ins C dq (flds (.int F.age) (.ref tl') (.int F.nx) (.int m) (.ref tg) (.int F.ct))) ∧ G lk = some (.lst ks) ∧ DvA G ks (kept.map ltD) ∧
          sigL ns g F.ls F.mr = (kept ++ (sigL ns g (F.ls.drop i) m).1, (sigL ns g (F.ls.drop i) m).2) ∧ kept.length ≤ i) ?_ ?_ ?_ ?_⟩
    · exact ⟨none, none, none, none, none, [], [], F.mr, rfl, s4, (by rw [upd_ne csk]; exact hcs3), (by rw [upd_ne xlk]; exact hx), upd_same, .nil, rfl, Nat.le_refl _⟩
    · rintro i σ G _ ⟨v6, v7, v8, v9, v10, ks, kept, m, rfl, sG, _⟩
      exact st (sG _ _ e0)
    · rintro i y σ G hy ⟨v6, v7, v8, v9, v10, ks, kept, m, rfl, sG, hcs, hx, hk, dk, er, l1⟩
      have hi := lt_of_get hy
      have hlen := r0.len
      rw [List.length_map] at hlen
      obtain ⟨e, he, hde⟩ := (r0.same sG).get hy
      rw [List.getElem?_map] at he
      cases hF : F.ls[i]? with
      | none => rw [hF] at he; cases he
      | some l =>
        rw [hF] at he
        obtain rfl := (Option.some.inj he).symm
        rw [drop_cons hF] at er
        have hlU : OkSs l.s := hu l (List.mem_of_getElem? hF)
        have hnU : OkSs (newS ns g l) := newS_u hlU hg
        obtain ⟨ta, sa, rfl, hta, hsa⟩ := dv_lt hde
        refine ⟨ta, _, rfl, st hta, rfl, _, _, rfl, _, _, rfl, _, _, rfl, _, _, rfl, rfl, ?_⟩
        refine ⟨fun σ2 G2 => ∃ b, σ2 = [some (.ref p), some (.ref na), some (.ref f), some (.ref cs), some (.ref x), some (.ref lk), some (.int l.n), some (.int l.b), some (.ref sa), some (.int l.m), some (.ref b)] ∧ Same G G2 ∧ G2 b = some (.tup ((newS ns g l).map V.str)), ?_, ?_⟩
        · refine ⟨_, rfl, _, rfl, l.n, cs, _, nn, rfl, rfl, hcs, _, rfl, ?_⟩
          by_cases c : l.n ∈ ns
          · refine itbT (decide_eq_true c) ⟨rfl, _, rfl, sG _ _ hc, hlam sa l.s G _ sG hlU hsa fun b G2 s2 hb => ?_⟩
            exact ⟨b, rfl, s2, by unfold newS; rw [if_pos c]; exact hb⟩
          · refine itbF (decide_eq_false c) ⟨_, rfl, ?_⟩
            exact ⟨sa, rfl, fun _ _ h => h, by unfold newS; rw [if_neg c]; exact hsa⟩
        · rintro σ2 G2 ⟨b, rfl, s2, hb⟩
          have sG2 := sG.trans s2
          have hsa2 := s2 _ _ hsa
          have hx2 := s2 _ _ hx
          have hk2 := s2 _ _ hk
          have hcs2 := s2 _ _ hcs
          have dk2 := dk.same s2
          refine ⟨_, rfl, _, rfl, .tuple ((newS ns g l).map PyData.str), .tuple (l.s.map PyData.str), (Dv.tup hb (dv_strs _)).dp (nd_strs _), (Dv.tup hsa2 (dv_strs _)).dp (nd_strs _), g_shape hnU.ok, g_shape hlU.ok, _, rfl, ?_⟩
          rw [g_eqv]
          have xk : x ≠ lk := fun z => by rw [z, hk] at hx; cases hx
          by_cases c : newS ns g l = l.s
          · refine itbF (by rw [decide_eq_true c]; rfl) ?_
            refine ⟨_, rfl, .inl ⟨rfl, _, sq hk2⟩, _, rfl, _, rfl, _, rfl, _, rfl, by show 4 ≤ sizeLine; decide, fun nt nnt => ?_⟩
            have sB := same_new (o := .tup [.int l.n, .int l.b, .ref b, .int l.m]) nnt
            have hkB := sB _ _ hk2
            refine ⟨lk, _, _, rfl, rfl, hkB, lt2 _ (by rw [dk2.len, List.length_map]; omega), ?_⟩
            have er' : sigL ns g F.ls F.mr = ((kept ++ [l]) ++ (sigL ns g (F.ls.drop (i + 1)) m).1, (sigL ns g (F.ls.drop (i + 1)) m).2) := by
              rw [er]
              simp only [sigL, if_pos c, List.append_assoc, List.singleton_append]
            refine ⟨_, _, _, _, _, ks ++ [.ref nt], kept ++ [l], m, rfl, (sG2.trans sB).mut nlkH, (by rw [upd_ne csk]; exact sB _ _ hcs2), (by rw [upd_ne xk]; exact sB _ _ hx2), upd_same, ?_, er', by rw [List.length_append]; show kept.length + 1 ≤ i + 1; omega⟩
            rw [List.map_append]
            refine ((dk2.same sB).app (.cons (dv_lt_of upd_same (sB _ _ ?_)) .nil)).mut hkB (fun _ z => by cases z) (by rw [show kept.map ltD ++ [ltD l] = (kept ++ [l]).map ltD by rw [List.map_append]; rfl]; exact tO_lts _)
            rw [← c]; exact hb
          · refine itbT (by rw [decide_eq_false c]; rfl) ?_
            refine ⟨_, rfl, x, C, dq, _, _, rfl, hx2, t.cl, t.nM, fl_mk, _, _, rfl, rfl, dq, _, hx2, by show 6 < 1000; decide, ?_⟩
            rw [pu_mk]
            have sA := sG2.mut nxH (o := .ins C dq (flds (.int F.age) (.ref tl') (.int F.nx) (.int (m + 1)) (.ref tg) (.int F.ct)))
            have dkA := dk2.mut (o' := .ins C dq (flds (.int F.age) (.ref tl') (.int F.nx) (.int (m + 1)) (.ref tg) (.int F.ct))) hx2 (fun _ z => by cases z) (tO_lts _)
            have hxA : (upd G2 x (.ins C dq (flds (.int F.age) (.ref tl') (.int F.nx) (.int (m + 1)) (.ref tg) (.int F.ct)))) x = some (.ins C dq (flds (.int F.age) (.ref tl') (.int F.nx) (.int (m + 1)) (.ref tg) (.int F.ct))) := upd_same
            have hkA : (upd G2 x (.ins C dq (flds (.int F.age) (.ref tl') (.int F.nx) (.int (m + 1)) (.ref tg) (.int F.ct)))) lk = some (.lst ks) := by rw [upd_ne xk.symm]; exact hk2
            have hcA : (upd G2 x (.ins C dq (flds (.int F.age) (.ref tl') (.int F.nx) (.int (m + 1)) (.ref tg) (.int F.ct)))) cs = some (SetI X.prog X.w cs (fun j => decide (j ∈ ns)) nn) := by rw [upd_ne csx]; exact hcs2
            have hbA : (upd G2 x (.ins C dq (flds (.int F.age) (.ref tl') (.int F.nx) (.int (m + 1)) (.ref tg) (.int F.ct)))) b = some (.tup ((newS ns g l).map V.str)) := by rw [upd_ne (fun z => by rw [z, hx2] at hb; cases hb)]; exact hb
            generalize upd G2 x (.ins C dq (flds (.int F.age) (.ref tl') (.int F.nx) (.int (m + 1)) (.ref tg) (.int F.ct))) = GA at sA dkA hxA hkA hcA hbA
            refine ⟨_, rfl, x, C, dq, _, _, rfl, hxA, t.cl, t.nM, fl_mk, ?_⟩
            refine ⟨_, rfl, .inl ⟨rfl, _, sq hkA⟩, _, rfl, _, rfl, _, rfl, _, rfl, by show 4 ≤ sizeLine; decide, fun nt nnt => ?_⟩
            have sB := same_new (o := .tup [.int l.n, .int l.b, .ref b, .int (m + 1)]) nnt
            have hkB := sB _ _ hkA
            refine ⟨lk, _, _, rfl, rfl, hkB, lt2 _ (by rw [dkA.len, List.length_map]; omega), ?_⟩
            have er' : sigL ns g F.ls F.mr = ((kept ++ [⟨l.n, l.b, newS ns g l, m + 1⟩]) ++ (sigL ns g (F.ls.drop (i + 1)) (m + 1)).1, (sigL ns g (F.ls.drop (i + 1)) (m + 1)).2) := by
              rw [er]
              simp only [sigL, if_neg c, List.append_assoc, List.singleton_append]
            refine ⟨_, _, _, _, _, ks ++ [.ref nt], kept ++ [⟨l.n, l.b, newS ns g l, m + 1⟩], m + 1, rfl, (sA.trans sB).mut nlkH, (by rw [upd_ne csk]; exact sB _ _ hcA), (by rw [upd_ne xk]; exact sB _ _ hxA), upd_same, ?_, er', by rw [List.length_append]; show kept.length + 1 ≤ i + 1; omega⟩
            rw [List.map_append]
            exact ((dkA.same sB).app (.cons (dv_lt_of (l := ⟨l.n, l.b, newS ns g l, m + 1⟩) upd_same (sB _ _ hbA)) .nil)).mut hkB (fun _ z => by cases z) (by rw [show kept.map ltD ++ [ltD (⟨l.n, l.b, newS ns g l, m + 1⟩ : Lt)] = (kept ++ [(⟨l.n, l.b, newS ns g l, m + 1⟩ : Lt)]).map ltD by rw [List.map_append]; rfl]; exact tO_lts _)
    · rintro σ G ⟨v6, v7, v8, v9, v10, ks, kept, m, rfl, sG, hcs, hx, hk, dk, er, l1⟩
      have hlen := r0.len
      rw [List.length_map] at hlen
      rw [hlen, List.drop_length] at er
      refine ⟨v6, v7, v8, v9, v10, ks, kept, m, rfl, sG, hx, hk, dk, ?_, by omega⟩
      rw [er]
      simp [sigL]
  · rintro σ G ⟨v6, v7, v8, v9, v10, ks, kept, m, rfl, sG, hx, hk, dk, er, l1⟩
    refine ⟨_, rfl, lk, ks, rfl, .inl ⟨sq hk, fun tk ntk => ?_⟩⟩
    have sA := same_new (o := .tup ks) ntk
    refine ⟨_, rfl, x, C, dq, _, rfl, sA _ _ hx, t.cl, t.nL, by show 6 < 1000; decide, ?_⟩
    rw [pu_let]
    have nxt : x ≠ tk := ne_of_none hx ntk
    have sB := ((sG.trans sA).mut nxH (o := .ins C dq (flds (.int F.age) (.ref tk) (.int F.nx) (.int m) (.ref tg) (.int F.ct))))
    refine ⟨_, rfl, q x _ sB nxH ?_⟩
    have ef : fSig F ns g = { F with ls := kept, mr := m } := by unfold fSig; rw [er]
    rw [ef]
    refine ⟨dq, tk, tg, upd_same, .tup (by rw [upd_ne nxt.symm]; exact upd_same) ((dk.same sA).mut (sA _ _ hx) (fun _ z => by cases z) (tO_lts _)), h2.same sB⟩
end K1


set_option Elab.async false
set_option linter.all false
set_option maxRecDepth 100000
set_option maxHeartbeats 2000000
namespace K1
open PySem PySem.Spec PyProof.Rows L2 RZ StX
abbrev sWith : Stmt := st__with_sign
abbrev sWout : Stmt := st__without_sign
abbrev nWith : List Str := ["signs", "sign"]
theorem scWith : FnScope nWith nWith (defScope sWith) := ⟨rfl, rfl, rfl, by decide +kernel, rfl, by decide +kernel, by decide +kernel⟩
abbrev nWout : List Str := ["signs", "sign", "old"]
theorem scWout : FnScope nWout nWith (defScope sWout) := ⟨rfl, rfl, rfl, by decide +kernel, rfl, by decide +kernel, by decide +kernel⟩
theorem inV_strs (s : Str) : ∀ ss : List Str, inV (.str s) (ss.map V.str) = decide (s ∈ ss)
  | [] => by simp [inV]
  | m :: r => by
    have ih := inV_strs s r
    unfold inV at ih ⊢
    rw [List.map_cons, List.any_cons, ih]
    show ((m == s) || _) = _
    by_cases e : m = s
    · subst e; simp
    · have e' : ¬ s = m := fun h => e h.symm
      rw [beq_eq_false_iff_ne.mpr e]; simp [e']
theorem flat_strs : ∀ ss : List Str, (ss.map V.str).all flatV = true
  | [] => rfl
  | m :: r => by rw [List.map_cons, List.all_cons, flat_strs r]; rfl
section
variable {X : Cx} {K : PySem.W.Frag}
theorem cr_sortedSK (h : X.K = K) : CallR X (.builtin "sorted") (rSortedS K) := by subst h; exact cr_sortedS
end
def spWith : Sp := fun vs H Q _ => ∃ (a : Addr) (ss : List Str) (s : Str), vs = [.ref a, .str s] ∧ H a = some (.tup (ss.map V.str)) ∧ OkSs ss ∧ okS s = true ∧ ∀ b H', Same H H' → H' b = some (.tup ((wG ss s).map V.str)) → Q (.ref b) H'
def spWout : Sp := fun vs H Q _ => ∃ (a : Addr) (ss : List Str) (s : Str), vs = [.ref a, .str s] ∧ H a = some (.tup (ss.map V.str)) ∧ OkSs ss ∧ okS s = true ∧ ∀ b H', Same H H' → H' b = some (.tup ((nS ss s).map V.str)) → Q (.ref b) H'
section
variable {P : Program} {w : World} {K : PySem.W.Frag} {mg : Str → Option Value} {base : Heap}
theorem ok_with {f : Addr} {fd : FuncData} (T : Bk mg) (C : Cs mg) (F : Fun K "_with_sign" "_with_sign" sWith f fd) : FnOk P w K mg base CX0 1 f fd nWith spWith := by
  have nd := scWith.nd
  refine F.ok scWith (fun vs H Q E h => ?_) (fun cdv A outer s H vs Q E hr h => ?_)
  · obtain ⟨a, ss, z, rfl, _⟩ := h
    rfl
  · obtain ⟨a, ss, z, rfl, ha, hu, hz, q⟩ := h
    have hl := hu.len
    refine ⟨_, (pss_cons (ps_if (PW.pt (pw_or (pt_cmpR (op_in_seqK (K := K) rfl) (pv 1) (pv 0) (by rfl)) (pw_or1 (pt_cmpR op_eq (pe_callB (call_lenK (K := K) rfl) (by rfl) T.len PySem.boot_len (pa_cons (pv 0) pa_nil)) (pe_const C.MOST_SIGNS rfl) (nomark _)))))
  (pss_one (ps_ret (pv 0)))
  pss_nil)
 (pss_one (ps_ret (pe_callTy (call_tuple_ofK (K := K) rfl) (by rfl) T.tuple PyProof.Rows.boot_tuple (pa_cons (pe_callB (cr_sortedSK (K := K) rfl) (by rfl) T.sorted PyProof.Rows.boot_sorted (pa_cons (pe_lst (pa_star (pv 0) (pa_cons (pv 1) pa_nil))) pa_nil)) pa_nil))))), ?_⟩
    refine ⟨_, rfl, _, rfl, a, _, rfl, .inr (st ha), rfl, flat_strs _, _, rfl, ?_⟩
    show (if inV (.str z) (ss.map V.str) = true then _ else _)
    rw [inV_strs]
    by_cases hm : z ∈ ss
    · refine itbT (decide_eq_true hm) (itbT rfl ⟨_, rfl, q a H (fun _ _ h => h) ?_⟩)
      rw [ha]
      unfold wG
      rw [if_pos (.inl hm)]
    · refine itbF (decide_eq_false hm) ⟨_, rfl, a, _, rfl, .inr (st ha), rfl, _, rfl, ?_⟩
      by_cases h6 : ss.length = 6
      · refine itbT (decide_eq_true (by rw [List.length_map, h6]; rfl)) ⟨_, rfl, q a H (fun _ _ h => h) ?_⟩
        rw [ha]
        unfold wG
        rw [if_pos (.inr h6)]
      refine itbF (decide_eq_false fun h => ?_) ?_
      · have := V.int.inj h
        rw [List.length_map] at this
        omega
      · refine ⟨_, rfl, a, _, rfl, .inl (st ha), .str z, rfl, lt1 _ (by rw [List.length_append, List.length_map]; show ss.length + 1 ≤ 100000; omega), fun l nl => ?_⟩
        have e : ss.map V.str ++ [V.str z] = (ss ++ [z]).map V.str := by rw [List.map_append]; rfl
        have s1 := same_new (o := .lst (ss.map V.str ++ [V.str z])) nl
        refine ⟨l, ss ++ [z], rfl, sq (by rw [upd_same, e]), by rw [List.length_append]; show ss.length + 1 < 64; omega, fun ys p hp hs np => ?_⟩
        have hy : ys = wG ss z := by
          unfold wG
          rw [if_neg (fun h => h.elim hm h6)]
          exact sorted_ins hu.asc hm hp hs
        refine ⟨p, _, rfl, .inl ⟨sq upd_same, fun b nb => ?_⟩⟩
        exact q b _ ((s1.new np).new nb) (by rw [upd_same, hy])
theorem ok_wout {f : Addr} {fd : FuncData} (T : Bk mg) (F : Fun K "_without_sign" "_without_sign" sWout f fd) : FnOk P w K mg base CX0 1 f fd nWith spWout := by
  have nd := scWout.nd
  refine F.ok scWout (fun vs H Q E h => ?_) (fun cdv A outer s H vs Q E hr h => ?_)
  · obtain ⟨a, ss, z, rfl, _⟩ := h
    rfl
  · obtain ⟨a, ss, z, rfl, ha, hu, hz, q⟩ := h
    have hl := hu.len
    refine ⟨_, (pss_one (ps_ret (pe_callTy (call_tuple_ofK (K := K) rfl) (by rfl) T.tuple PyProof.Rows.boot_tuple (pa_cons (pe_lc (own := [("old", 2)]) (g := gName 2) rfl nd (pi_tupK (K := K) rfl (pv 0)) (blkOk_by (own := [("old", 2)]) (N := nWout) (sc := defScope sWout) (by decide +kernel)) (fun _ _ _ _ _ => pg_name (i := 2) nd rfl (Or.inl rfl)) (fun _ _ _ _ _ => pts_one (pt_cmpR op_ne (pv 2) (pv 1) (nomark _))) (fun _ _ _ _ _ => (pv 2))) pa_nil)))), ?_⟩
    refine ⟨_, rfl, a, rfl, ⟨_, st ha⟩, fun D hD => ?_⟩
    refine lc_tup (K := K) (a := a) (xs := ss.map V.str) (fun i H2 => Same H H2 ∧ H2 D = some (.lst ((nS (ss.take i) z).map V.str))) ⟨same_new hD, upd_same⟩ (fun i H2 _ h => st (h.1 _ _ ha)) ?_ ?_
    · rintro i y H2 hy ⟨s2, h2⟩
      rw [List.getElem?_map] at hy
      cases he : ss[i]? with
      | none => rw [he] at hy; cases hy
      | some x =>
        rw [he] at hy
        obtain rfl := (Option.some.inj hy).symm
        refine ⟨rfl, _, rfl, _, rfl, rfl, _, rfl, ?_⟩
        have hlen : (nS (ss.take i) z).length ≤ 6 := Nat.le_trans (List.length_filter_le _ _) (by rw [List.length_take]; omega)
        have e1 : nS (ss.take (i + 1)) z = nS (ss.take i) z ++ (if x = z then [] else [x]) := by
          unfold nS
          rw [take_more he, List.filter_append]
          by_cases c : x = z <;> simp [c]
        by_cases c : x = z
        · refine itbF (by rw [c]; simp) ?_
          rw [if_pos c, List.append_nil] at e1
          exact ⟨s2, by rw [e1]; exact h2⟩
        · refine itbT (by rw [decide_eq_false (fun h => c (V.str.inj h))]; rfl) ⟨_, rfl, _, h2, lt2 _ (by rw [List.length_map]; omega), s2.mut hD, ?_⟩
          rw [upd_same, e1, if_neg c, List.map_append]; rfl
    · rintro H2 ⟨s2, h2⟩
      rw [List.length_map, List.take_length] at h2
      exact ⟨D, _, rfl, .inl ⟨sq h2, fun b nb => q b _ (s2.new nb) upd_same⟩⟩
end
end K1


set_option Elab.async false
set_option linter.all false
set_option maxRecDepth 100000
set_option maxHeartbeats 2000000
namespace K1
open PySem PySem.Spec PyProof.Rows L2 RZ StX
theorem Fo_ext {C p : Addr} {H H' : Hp} {F : Fo} (h : FoAt C H p F) (s : LamX.ExtN H H') : FoAt C H' p F := let ⟨dx, tl, tg, a, b, c⟩ := h; ⟨dx, tl, tg, s _ _ a fun _ z => (by cases z), b.ext s, c.ext s⟩
theorem NumsAt.ext {H H' : Hp} {a : Addr} {ns : List Int} (h : NumsAt H a ns) (s : LamX.ExtN H H') : NumsAt H' a ns := ⟨h.at_.imp (fun e => s _ _ e fun _ z => (by cases z)) (fun e => s _ _ e fun _ z => (by cases z)), h.one, h.len⟩
theorem tup_ext {H H' : Hp} {a : Addr} {xs : List V} (h : H a = some (.tup xs)) (s : LamX.ExtN H H') : H' a = some (.tup xs) := s _ _ h fun _ z => (by cases z)
/-- the method that gets the lambdas -/
structure SgD (K : PySem.W.Frag) (C : Addr) : Prop where
  ex : ∃ (f : Addr) (fd : FuncData), Meth K C "_signed" f ∧ Fun K "_signed" "Folder._signed" sSig f fd
theorem pe_signed {X : Cx} {C c P : Addr} {T : List (Addr × Str)} {xp : Str} {g : List Str → List Str} {o e : Expr} {params : Arguments} {body : Expr} {scope : Scope} {ta te tb : TE} {apos lpos pos : Pos} {pl : Sem Bool} (D : SgD X.K C) (Tb : Bk X.mg) (tC : ClT X.K X.mg C) (Mc : MDef X.prog X.w X.K X.mg X.base CX0 5 C "_copied" nSelf (spCopied C))
    (ho : PE X o ta) (he : PE X e te)
    (TB : LamX.TabB X.base X.mg c P) (hcode : X.env.code = .ref c) (hmT : (P, X.env.qual ++ "<lambda>") ∈ T) (hu : ∀ p ∈ T, p.1 = P → p.2 = X.env.qual ++ "<lambda>") (hr : Room 7 X.A) (L : LamY.LamS1 X.env.scope scope xp) (hxn : xp ∉ X.N) (hdef : defaultsOf params X.env = ([], []))
    (hbind : ∀ (q : Str) (cl : List (Str × Addr)) (pm cv ctv u : Value), bindArgs (PySem.W.kla_fn "<lambda>" q params body scope cl pm cv ctv) ⟨[u], []⟩ = pure [(xp, u)])
    (hbody : ∀ (A : Around) (outer : List Env) (s : Shared) (H : Hp) (f c' : Addr), Room 5 (A.deeper (LamX.lamEnv X scope s.heap.objs.size f c')) → PE (LamY.lamCx1 X A outer s H C8.E0 scope xp f c') body tb)
    (hst : starEach [e, .Lambda params body scope lpos] X.env = (false, eval e X.env) :: starEach [.Lambda params body scope lpos] X.env := by rfl) (hpl : (backTo pos (starEach [.Lambda params body scope lpos] X.env)).any (·.1) = false := by rfl)
    (ht : eval (.Call (.Attribute o "_signed" apos) [e, .Lambda params body scope lpos] [] pos) X.env = (do
      let ov ← eval o X.env
      standAt apos.atName
      let (f, first) ← holding [ov] (getMethod ov "_signed" pl)
      callWith pos f first (backTo pos (starEach [e, .Lambda params body scope lpos] X.env)) (backToKw pos (keywordEach [] X.env))) := by rfl) :
    PE X (.Call (.Attribute o "_signed" apos) [e, .Lambda params body scope lpos] [] pos) (LamY.tMethLam T C "_signed" (TSig C g) ta te tb) := by
  obtain ⟨f, fd, hm, F⟩ := D.ex
  obtain ⟨oc, od, kV, doc, pm, an, cdv, ct, osl, rfl, lk, hcd⟩ := F.ex
  exact LamY.pe_methlam (k := 5) (a := "renewed") ho tC.cl hm he lk hcd (F.binds (ps := pSig) fun _ _ _ _ _ _ us hl => match us, hl with | [_, _, _], _ => rfl) scSig rfl (.inl rfl) (signed_gives Tb tC Mc) TB hcode hmT hu hr L hxn hdef hbind hbody (hst := hst) (hpl := hpl) (ht := ht)
abbrev lamA : Str := "Folder.added" ++ ".<locals>." ++ "<lambda>"
abbrev lamT : Str := "Folder.taken" ++ ".<locals>." ++ "<lambda>"
abbrev lamS : Str := "Folder.set_to" ++ ".<locals>." ++ "<lambda>"
def T3 (PA PT PS : Addr) : List (Addr × Str) := [(PA, lamA), (PT, lamT), (PS, lamS)]
structure Ap (PA PT PS : Addr) : Prop where
  af : PA ≠ PT
  al : PA ≠ PS
  fl : PT ≠ PS
theorem Ap.a {PA PF PL : Addr} (h : Ap PA PF PL) : ∀ p ∈ T3 PA PF PL, p.1 = PA → p.2 = lamA := by
  intro p hp e
  simp only [T3, List.mem_cons, List.not_mem_nil, or_false] at hp
  rcases hp with rfl | rfl | rfl
  · rfl
  · exact absurd e.symm h.af
  · exact absurd e.symm h.al
theorem Ap.t {PA PF PL : Addr} (h : Ap PA PF PL) : ∀ p ∈ T3 PA PF PL, p.1 = PF → p.2 = lamT := by
  intro p hp e
  simp only [T3, List.mem_cons, List.not_mem_nil, or_false] at hp
  rcases hp with rfl | rfl | rfl
  · exact absurd e h.af
  · rfl
  · exact absurd e.symm h.fl
theorem Ap.s {PA PF PL : Addr} (h : Ap PA PF PL) : ∀ p ∈ T3 PA PF PL, p.1 = PL → p.2 = lamS := by
  intro p hp e
  simp only [T3, List.mem_cons, List.not_mem_nil, or_false] at hp
  rcases hp with rfl | rfl | rfl
  · exact absurd e h.al
  · exact absurd e h.fl
  · rfl
theorem mem_a {PA PF PL : Addr} : (PA, lamA) ∈ T3 PA PF PL := List.mem_cons_self
theorem mem_t {PA PF PL : Addr} : (PF, lamT) ∈ T3 PA PF PL := List.mem_cons_of_mem _ List.mem_cons_self
theorem mem_s {PA PF PL : Addr} : (PL, lamS) ∈ T3 PA PF PL := List.mem_cons_of_mem _ (List.mem_cons_of_mem _ List.mem_cons_self)
abbrev sAdd : Stmt := mS 9
abbrev sTake : Stmt := mS 10
abbrev sSet : Stmt := mS 11
abbrev nAdd : List Str := ["self", "numbers", "sign"]
theorem scAdd : FnScope nAdd nAdd (defScope sAdd) := ⟨rfl, rfl, rfl, by decide +kernel, rfl, by decide +kernel, by decide +kernel⟩
theorem scTake : FnScope nAdd nAdd (defScope sTake) := ⟨rfl, rfl, rfl, by decide +kernel, rfl, by decide +kernel, by decide +kernel⟩
abbrev nSet : List Str := ["self", "numbers", "signs"]
theorem scSet : FnScope nSet nSet (defScope sSet) := ⟨rfl, rfl, rfl, by decide +kernel, rfl, by decide +kernel, by decide +kernel⟩
/-- a deed that renews signs -/
def spSgn (C PA PT PS : Addr) (G : Str → List Str → List Str) : Sp := fun vs H Q _ => ∃ (p na : Addr) (F : Fo) (ns : List Int) (z : Str), vs = [.ref p, .ref na, .str z] ∧ FoAt C H p F ∧ 1 ≤ F.age ∧ NumsAt H na ns ∧ F.ls.length ≤ 1000 ∧ (∀ l ∈ F.ls, OkSs l.s) ∧ okS z = true ∧ LamX.Tabs (T3 PA PT PS) H ∧
  ∀ q H', LamX.ExtN H H' → LamX.Tabs (T3 PA PT PS) H' → FoAt C H' q (fSig F ns (G z)) → Q (.ref q) H'
def spSet (C PA PT PS : Addr) : Sp := fun vs H Q _ => ∃ (p na sa : Addr) (F : Fo) (ns : List Int) (zs : List Str), vs = [.ref p, .ref na, .ref sa] ∧ FoAt C H p F ∧ 1 ≤ F.age ∧ NumsAt H na ns ∧ F.ls.length ≤ 1000 ∧ (∀ l ∈ F.ls, OkSs l.s) ∧ OkSs zs ∧ H sa = some (.tup (zs.map V.str)) ∧ LamX.Tabs (T3 PA PT PS) H ∧
  ∀ q H', LamX.ExtN H H' → LamX.Tabs (T3 PA PT PS) H' → FoAt C H' q (fSig F ns (fun _ => zs)) → Q (.ref q) H'
section
variable {P : Program} {w : World} {K : PySem.W.Frag} {mg : Str → Option Value} {base : Heap} {C PA PT PS c : Addr}
theorem ok_add {f : Addr} {oc : Value} {od : Option Addr} {kV doc pm : Value} {an : Option Addr} {ct : Value} {osl : Array (Option Value)} (T : Bk mg) (t : ClT K mg C) (ap : Ap PA PT PS) (DS : SgD K C) (TB : LamX.TabB base mg c PA)
    (D_check_numbers : Def P w K mg base CX0 4 "_check_numbers" nCkNums spCkNums) (D_is_sign : Def P w K mg base CX0 1 "is_sign" pV spSign) (D_with : Def P w K mg base CX0 1 "_with_sign" nWith spWith) (M_copied : MDef P w K mg base CX0 5 C "_copied" nSelf (spCopied C))
    (lk : K.lookup f = some ⟨oc, od, .func (PySem.W.fnOf "added" "Folder.added" (defArgs sAdd) (defBody sAdd) (defScope sAdd) .none kV doc pm an (.ref c) ct), osl⟩) (hcd : PySem.W.codeIn K (.ref c) "Folder.added" = true) :
    FnOk P w K mg base CX0 8 f (PySem.W.fnOf "added" "Folder.added" (defArgs sAdd) (defBody sAdd) (defScope sAdd) .none kV doc pm an (.ref c) ct) nAdd (spSgn C PA PT PS (fun z ss => wG ss z)) := by
  have nd := scAdd.nd
  have hu1 := ap.a
  refine fn_of lk hcd scAdd (fun vs H Q E h => ?_) (fun A outer s H vs Q E hr h => ?_)
  · obtain ⟨p, na, F, ns, z, rfl, _⟩ := h
    rfl
  · obtain ⟨p, na, F, ns, z, rfl, hF, ha, hn, hl, hu, hz, hT, q⟩ := h
    refine ⟨_, PSs.nox (pss_cons (ps_expr (pe_def D_check_numbers (hr.mono (by decide)) rfl pass0 (pa_cons (pv 1) pa_nil)))
 (pss_cons (ps_if (pt_not (pt_val (pe_def D_is_sign (hr.mono (by decide)) rfl pass0 (pa_cons (pv 2) pa_nil)))) pss_any pss_nil)
 (pss_one (ps_ret (pe_signed (T := T3 PA PT PS) (g := fun ss => wG ss z) DS T t M_copied (pv 0) (pv 1) TB rfl mem_a hu1 hr (LamY.lamS1_by (by rfl)) (show ("signs" : Str) ∉ nAdd by decide +kernel) rfl (fun _ _ _ _ _ _ => rfl) (fun _ _ _ _ _ _ hr2 => pe_def D_with (hr2.mono (by decide)) rfl pass0 (pa_cons (pv 3) (pa_cons (pv 2) pa_nil)))))))), ?_⟩
    refine ⟨_, rfl, na, ns, rfl, hn.at_, hn.one, hn.len, fun H1 s1 => ?_⟩
    refine ⟨_, rfl, z, rfl, hz, fun H2 s2 => ⟨_, rfl, itbF rfl ?_⟩⟩
    have s12 := s1.trans s2
    obtain ⟨dx, tl, tg, hp, h1, h2⟩ := hF.same s12
    refine ⟨_, rfl, p, dx, _, rfl, hp, fl_no (by decide +kernel), _, rfl, hT.ext s12, fun H3 e3 t3 => ?_⟩
    refine ⟨p, na, F, ns, rfl, rfl, Fo_ext (hF.same s12) e3, ha, (hn.ext (LamX.ExtN.of s12)).ext e3, hl, hu, fun ss hs => wG_ok hs hz, fun a ss H' Q' s3 hs has k => ?_, fun q' H' s3 _ hF' => q q' H' (((LamX.ExtN.of s12).trans e3).trans (LamX.ExtN.of s3)) (t3.ext s3) hF'⟩
    exact ⟨_, rfl, _, rfl, a, ss, z, rfl, has, hs, hz, k⟩
theorem ok_take {f : Addr} {oc : Value} {od : Option Addr} {kV doc pm : Value} {an : Option Addr} {ct : Value} {osl : Array (Option Value)} (T : Bk mg) (t : ClT K mg C) (ap : Ap PA PT PS) (DS : SgD K C) (TB : LamX.TabB base mg c PT)
    (D_check_numbers : Def P w K mg base CX0 4 "_check_numbers" nCkNums spCkNums) (D_is_sign : Def P w K mg base CX0 1 "is_sign" pV spSign) (D_wout : Def P w K mg base CX0 1 "_without_sign" nWith spWout) (M_copied : MDef P w K mg base CX0 5 C "_copied" nSelf (spCopied C))
    (lk : K.lookup f = some ⟨oc, od, .func (PySem.W.fnOf "taken" "Folder.taken" (defArgs sTake) (defBody sTake) (defScope sTake) .none kV doc pm an (.ref c) ct), osl⟩) (hcd : PySem.W.codeIn K (.ref c) "Folder.taken" = true) :
    FnOk P w K mg base CX0 8 f (PySem.W.fnOf "taken" "Folder.taken" (defArgs sTake) (defBody sTake) (defScope sTake) .none kV doc pm an (.ref c) ct) nAdd (spSgn C PA PT PS (fun z ss => nS ss z)) := by
  have nd := scTake.nd
  have hu1 := ap.t
  refine fn_of lk hcd scTake (fun vs H Q E h => ?_) (fun A outer s H vs Q E hr h => ?_)
  · obtain ⟨p, na, F, ns, z, rfl, _⟩ := h
    rfl
  · obtain ⟨p, na, F, ns, z, rfl, hF, ha, hn, hl, hu, hz, hT, q⟩ := h
    refine ⟨_, PSs.nox (pss_cons (ps_expr (pe_def D_check_numbers (hr.mono (by decide)) rfl pass0 (pa_cons (pv 1) pa_nil)))
 (pss_cons (ps_if (pt_not (pt_val (pe_def D_is_sign (hr.mono (by decide)) rfl pass0 (pa_cons (pv 2) pa_nil)))) pss_any pss_nil)
 (pss_one (ps_ret (pe_signed (T := T3 PA PT PS) (g := fun ss => nS ss z) DS T t M_copied (pv 0) (pv 1) TB rfl mem_t hu1 hr (LamY.lamS1_by (by rfl)) (show ("signs" : Str) ∉ nAdd by decide +kernel) rfl (fun _ _ _ _ _ _ => rfl) (fun _ _ _ _ _ _ hr2 => pe_def D_wout (hr2.mono (by decide)) rfl pass0 (pa_cons (pv 3) (pa_cons (pv 2) pa_nil)))))))), ?_⟩
    refine ⟨_, rfl, na, ns, rfl, hn.at_, hn.one, hn.len, fun H1 s1 => ?_⟩
    refine ⟨_, rfl, z, rfl, hz, fun H2 s2 => ⟨_, rfl, itbF rfl ?_⟩⟩
    have s12 := s1.trans s2
    obtain ⟨dx, tl, tg, hp, h1, h2⟩ := hF.same s12
    refine ⟨_, rfl, p, dx, _, rfl, hp, fl_no (by decide +kernel), _, rfl, hT.ext s12, fun H3 e3 t3 => ?_⟩
    refine ⟨p, na, F, ns, rfl, rfl, Fo_ext (hF.same s12) e3, ha, (hn.ext (LamX.ExtN.of s12)).ext e3, hl, hu, fun ss hs => nS_ok hs, fun a ss H' Q' s3 hs has k => ?_, fun q' H' s3 _ hF' => q q' H' (((LamX.ExtN.of s12).trans e3).trans (LamX.ExtN.of s3)) (t3.ext s3) hF'⟩
    exact ⟨_, rfl, _, rfl, a, ss, z, rfl, has, hs, hz, k⟩
theorem ok_set {f : Addr} {oc : Value} {od : Option Addr} {kV doc pm : Value} {an : Option Addr} {ct : Value} {osl : Array (Option Value)} (T : Bk mg) (t : ClT K mg C) (ap : Ap PA PT PS) (DS : SgD K C) (TB : LamX.TabB base mg c PS)
    (D_check_numbers : Def P w K mg base CX0 4 "_check_numbers" nCkNums spCkNums) (D_is_signs : Def P w K mg base CX0 2 "is_signs" pV spSigns) (M_copied : MDef P w K mg base CX0 5 C "_copied" nSelf (spCopied C))
    (lk : K.lookup f = some ⟨oc, od, .func (PySem.W.fnOf "set_to" "Folder.set_to" (defArgs sSet) (defBody sSet) (defScope sSet) .none kV doc pm an (.ref c) ct), osl⟩) (hcd : PySem.W.codeIn K (.ref c) "Folder.set_to" = true) :
    FnOk P w K mg base CX0 8 f (PySem.W.fnOf "set_to" "Folder.set_to" (defArgs sSet) (defBody sSet) (defScope sSet) .none kV doc pm an (.ref c) ct) nSet (spSet C PA PT PS) := by
  have nd := scSet.nd
  have hu1 := ap.s
  refine fn_of lk hcd scSet (fun vs H Q E h => ?_) (fun A outer s H vs Q E hr h => ?_)
  · obtain ⟨p, na, sa, F, ns, z, rfl, _⟩ := h
    rfl
  · obtain ⟨p, na, sa, F, ns, zs, rfl, hF, ha, hn, hl, hu, hz, hsa, hT, q⟩ := h
    refine ⟨_, PSs.nox (pss_cons (ps_expr (pe_def D_check_numbers (hr.mono (by decide)) rfl pass0 (pa_cons (pv 1) pa_nil)))
 (pss_cons (ps_if (pt_not (pt_val (pe_def D_is_signs (hr.mono (by decide)) rfl pass0 (pa_cons (pv 2) pa_nil)))) pss_any pss_nil)
 (pss_one (ps_ret (pe_signed (T := T3 PA PT PS) (g := fun ss => zs) DS T t M_copied (pv 0) (pv 1) TB rfl mem_s hu1 hr (LamY.lamS1_by (by rfl)) (show ("old" : Str) ∉ nSet by decide +kernel) rfl (fun _ _ _ _ _ _ => rfl) (fun _ _ _ _ _ _ hr2 => pv 2)))))), ?_⟩
    refine ⟨_, rfl, na, ns, rfl, hn.at_, hn.one, hn.len, fun H1 s1 => ?_⟩
    refine ⟨_, rfl, sa, zs, rfl, s1 _ _ hsa, okSs_iff.mpr hz, fun H2 s2 => ⟨_, rfl, itbF rfl ?_⟩⟩
    have s12 := s1.trans s2
    obtain ⟨dx, tl, tg, hp, h1, h2⟩ := hF.same s12
    refine ⟨_, rfl, p, dx, _, rfl, hp, fl_no (by decide +kernel), _, rfl, hT.ext s12, fun H3 e3 t3 => ?_⟩
    refine ⟨p, na, F, ns, rfl, rfl, Fo_ext (hF.same s12) e3, ha, (hn.ext (LamX.ExtN.of s12)).ext e3, hl, hu, fun ss hs => hz, fun a ss H' Q' s3 hs has k => ?_, fun q' H' s3 _ hF' => q q' H' (((LamX.ExtN.of s12).trans e3).trans (LamX.ExtN.of s3)) (t3.ext s3) hF'⟩
    exact ⟨_, rfl, k sa H' (fun _ _ h => h) (s3 _ _ (tup_ext (s12 _ _ hsa) e3))⟩
end
end K1


set_option Elab.async false
set_option linter.all false
set_option maxRecDepth 100000
set_option maxHeartbeats 2000000
namespace K1
open PySem PySem.Spec PyProof.Rows L2 RZ StX
/-! is_mark and trimmed -/
theorem dv_go {H : Hp} {y : V} {g : Int × Int} (h : Dv H y (goD g)) : ∃ ta, y = .ref ta ∧ H ta = some (.tup [.int g.1, .int g.2]) := by
  cases h with
  | tup h r =>
  cases r with
  | cons h1 r =>
  cases r with
  | cons h2 r =>
  cases r
  cases h1
  cases h2
  exact ⟨_, rfl, h⟩
abbrev sIsMark : Stmt := st_is_mark
theorem scIsMark : FnScope nV pV (defScope sIsMark) := ⟨rfl, rfl, rfl, by decide +kernel, rfl, by decide +kernel, by decide +kernel⟩
abbrev sTrim : Stmt := mS 13
abbrev nTrim : List Str := ["self", "mark", "folder", "cut", "row"]
abbrev pTrim : List Str := ["self", "mark"]
theorem scTrim : FnScope nTrim pTrim (defScope sTrim) := ⟨rfl, rfl, rfl, by decide +kernel, rfl, by decide +kernel, by decide +kernel⟩
def mxI (i j : Int) : Int := if j > i then j else i
def fTrim (F : Fo) (m : Int) : Fo := { F with ct := mxI F.ct m, go := F.go.filter fun g => decide (mxI F.ct m < g.1) }
def spTrim (C : Addr) : Sp := fun vs H Q _ => ∃ (p : Addr) (F : Fo) (m : Int), vs = [.ref p, .int m] ∧ FoAt C H p F ∧ 1 ≤ F.age ∧ 0 ≤ m ∧ m ≤ F.mr ∧ F.go.length ≤ 1000 ∧ ∀ q H', Same H H' → H q = none → FoAt C H' q (fTrim F m) → Q (.ref q) H'
section
variable {P : Program} {w : World} {K : PySem.W.Frag} {mg : Str → Option Value} {base : Heap} {C : Addr}
theorem ok_isMark {f : Addr} {fd : FuncData} (D_is_integer : Def P w K mg base CX0 1 "is_integer" pV spInt) (F : Fun K "is_mark" "is_mark" sIsMark f fd) : FnOk P w K mg base CX0 2 f fd pV spBody := by
  refine F.ok scIsMark (fun vs H Q E h => ?_) (fun cdv A outer s H vs Q E hr h => ?_)
  · obtain ⟨n, rfl, _⟩ := h
    rfl
  · obtain ⟨n, rfl, h1, q⟩ := h
    refine ⟨_, (pss_one (ps_ret (pe_and (pe_def D_is_integer (hr.mono (by decide)) rfl pass0 (pa_cons (pv 0) pa_nil)) (pe_one (pe_cmpR op_ge (pv 0) pe_int (nomark _)))))), ?_⟩
    refine ⟨_, rfl, n, rfl, _, rfl, itbT rfl ⟨_, rfl, _, _, rfl, rfl, ?_⟩⟩
    show Q (.bl (decide (0 ≤ n))) H
    rw [decide_eq_true h1]; exact q
theorem ok_trim {f : Addr} {fd : FuncData} (T : Bk mg) (t : ClT K mg C) (D_is_mark : Def P w K mg base CX0 2 "is_mark" pV spBody) (M_copied : MDef P w K mg base CX0 5 C "_copied" nSelf (spCopied C))
    (F : Fun K "trimmed" "Folder.trimmed" sTrim f fd) : FnOk P w K mg base CX0 6 f fd pTrim (spTrim C) := by
  have nd := scTrim.nd
  refine F.ok scTrim (fun vs H Q E h => ?_) (fun cdv A outer s H vs Q E hr h => ?_)
  · obtain ⟨p, F, m, rfl, _⟩ := h
    rfl
  · obtain ⟨p, F, m, rfl, hF, ha, m0, m1, gl, q⟩ := h
    refine ⟨_, pss_cons (ps_if (PW.pt (pw_or (pt_not (pt_val (pe_def D_is_mark (hr.mono (by decide)) rfl pass0 (pa_cons (pv 1) pa_nil)))) (pw_or1 (pt_cmpR op_gt (pv 1) (pe_fld (pv 0) rfl) (nomark _)))))
  pss_any
  pss_nil)
 (pss_cons (ps_set (i := 2) nd rfl (Or.inl rfl) (pe_mdef0 M_copied t.cl (hr.mono (by decide)) pass0 (pv 0)))
 (pss_cons (ps_set (i := 3) nd rfl (Or.inr rfl) (pe_callB (call_max2 rfl) (by rfl) T.max PyProof.Rows.boot_max (pa_cons (pe_fld (pv 0) rfl) (pa_cons (pv 1) pa_nil))))
 (pss_cons (ps_fld (pv 2) (pv 3) rfl)
 (pss_cons (ps_fld (pv 2) (pe_callTy (call_tuple_ofK (K := K) rfl) (by rfl) T.tuple PyProof.Rows.boot_tuple (pa_cons (pe_lc (own := [("row", 4)]) (g := gName 4) rfl nd (pi_tupK (K := K) rfl (pe_fld (pv 0) rfl)) (blkOk_by (own := [("row", 4)]) (N := nTrim) (sc := defScope sTrim) (by decide +kernel)) (fun _ _ _ _ _ => pg_name (i := 4) nd rfl (Or.inl rfl)) (fun _ _ _ _ _ => pts_one (pt_cmpR op_gt (pe_ix (ix_tupK (K := K) rfl) (pv 4) pe_int (fun _ _ => rfl)) (pv 3) (nomark _))) (fun _ _ _ _ _ => (pv 4))) pa_nil)) rfl)
 (pss_one (ps_ret (pv 2))))))), ?_⟩
    obtain ⟨dx, tl, tg, hp, h1, h2⟩ := hF
    obtain ⟨gs, g0, gr0⟩ := Dv.tups h2
    refine ⟨_, rfl, m, rfl, m0, _, rfl, itbF rfl ?_⟩
    refine ⟨_, rfl, _, rfl, p, C, dx, _, _, rfl, hp, t.cl, t.nM, fl_mk, _, _, rfl, rfl, _, rfl, itbF (decide_eq_false (by omega)) ?_⟩
    refine ⟨_, rfl, p, dx, _, rfl, hp, fl_no (by decide +kernel), p, dx, tl, tg, F.age, F.nx, F.mr, F.ct, rfl, hp, ha, fun x dq H3 s3 nx hx => ?_⟩
    refine ⟨_, rfl, p, C, dx, _, _, rfl, s3 _ _ hp, t.cl, t.nC, fl_cut, _, rfl, _, _, rfl, ?_⟩
    refine ⟨_, rfl, _, rfl, x, C, dq, _, rfl, hx, t.cl, t.nC, by show 6 < 1000; decide, ?_⟩
    rw [pu_cut]
    generalize hc : (if m > F.ct then m else F.ct) = c
    have sA := s3.mut nx (o := .ins C dq (flds (.int F.age) (.ref tl) (.int F.nx) (.int F.mr) (.ref tg) (.int c)))
    have hxA : (upd H3 x (.ins C dq (flds (.int F.age) (.ref tl) (.int F.nx) (.int F.mr) (.ref tg) (.int c)))) x = some (.ins C dq (flds (.int F.age) (.ref tl) (.int F.nx) (.int F.mr) (.ref tg) (.int c))) := upd_same
    generalize upd H3 x (.ins C dq (flds (.int F.age) (.ref tl) (.int F.nx) (.int F.mr) (.ref tg) (.int c))) = HA at sA hxA
    have gr := gr0.same sA
    have hgl := gr.len
    rw [List.length_map] at hgl
    refine ⟨_, rfl, p, C, dx, _, _, rfl, sA _ _ hp, t.cl, t.nG, fl_gone, tg, rfl, ⟨_, st (sA _ _ g0)⟩, fun D hD => ?_⟩
    refine lc_tup (K := K) (a := tg) (xs := gs) (fun i H2 => Same HA H2 ∧ ∃ ks, H2 D = some (.lst ks) ∧ DvA H2 ks (((F.go.take i).filter fun g => decide (c < g.1)).map goD)) ⟨same_new hD, [], upd_same, .nil⟩ (fun i H2 _ h => st (h.1 _ _ (sA _ _ g0))) ?_ ?_
    · rintro i y H2 hy ⟨s2, ks, h2, hk⟩
      obtain ⟨e, he, hde⟩ := (gr.same s2).get hy
      rw [List.getElem?_map] at he
      cases hFi : F.go[i]? with
      | none => rw [hFi] at he; cases he
      | some g =>
        rw [hFi] at he
        obtain rfl := (Option.some.inj he).symm
        obtain ⟨ta, rfl, hta⟩ := dv_go hde
        have hlen := hk.len
        have hfl := List.length_filter_le (fun g : Int × Int => decide (c < g.1)) (F.go.take i)
        rw [List.length_map] at hlen
        rw [List.length_take] at hfl
        refine ⟨rfl, _, rfl, ta, _, 0, .int g.1, rfl, rfl, st hta, atI_nat (j := 0) rfl, _, rfl, _, _, rfl, rfl, _, rfl, ?_⟩
        rw [take_more hFi, List.filter_append, List.map_append]
        by_cases cc : c < g.1
        · refine itbT (decide_eq_true cc) ⟨_, rfl, _, h2, lt2 _ (by omega), s2.mut hD, ks ++ [.ref ta], upd_same, ?_⟩
          rw [show [g].filter (fun g => decide (c < g.1)) = [g] by simp [cc]]
          exact (hk.app (.cons hde .nil)).mut h2 (fun _ z => by cases z) (show tOA (((F.go.take i).filter fun g => decide (c < g.1)).map goD ++ [g].map goD) = true by rw [← List.map_append]; exact tO_gos _)
        · refine itbF (decide_eq_false cc) ?_
          rw [show [g].filter (fun g => decide (c < g.1)) = [] by simp [cc], List.map_nil, List.append_nil]
          exact ⟨s2, ks, h2, hk⟩
    · rintro H2 ⟨s2, ks, h2, hk⟩
      rw [hgl, List.take_length] at hk
      refine ⟨D, ks, rfl, .inl ⟨sq h2, fun tn ntn => ?_⟩⟩
      have s5 := same_new (o := .tup ks) ntn
      have hx5 := s5 _ _ (s2 _ _ hxA)
      have nxt : x ≠ tn := ne_of_none (s2 _ _ hxA) ntn
      refine ⟨_, rfl, x, C, dq, _, rfl, hx5, t.cl, t.nG, by show 6 < 1000; decide, ?_⟩
      rw [pu_gone]
      have sZ := ((sA.trans s2).trans s5).mut nx (o := .ins C dq (flds (.int F.age) (.ref tl) (.int F.nx) (.int F.mr) (.ref tn) (.int c)))
      refine ⟨_, rfl, q x _ sZ nx ?_⟩
      have ef : fTrim F m = { F with ct := c, go := F.go.filter fun g => decide (c < g.1) } := by unfold fTrim mxI; rw [hc]
      rw [ef]
      exact ⟨dq, tl, tn, upd_same, h1.same sZ, .tup (by rw [upd_ne nxt.symm]; exact upd_same) ((hk.same s5).mut hx5 (fun _ z => by cases z) (tO_gos _))⟩
end
end K1


set_option Elab.async false
set_option linter.all false
set_option maxRecDepth 100000
set_option maxHeartbeats 2000000
namespace K1
open PySem PySem.Spec PyProof.Rows L2 RZ StX
theorem pe_any {X : Cx} {e : Expr} : PE X e (fun _ _ _ => False) := ⟨fun _ _ _ _ _ _ h => h.elim⟩
/-! ### deeds -/
inductive Dd where
  | app (b : Int) (ss : List Str)
  | add (ns : List Int) (z : Str)
  | take (ns : List Int) (z : Str)
  | set (ns : List Int) (zs : List Str)
  | rem (ns : List Int)
  | trim (m : Int)
def DdAt (H : Hp) (a : Addr) : Dd → Prop
  | .app b ss => ∃ sa, H a = some (.tup [.str "append", .int b, .ref sa]) ∧ H sa = some (.tup (ss.map V.str)) ∧ 0 ≤ b ∧ OkSs ss
  | .add ns z => ∃ na, H a = some (.tup [.str "add", .ref na, .str z]) ∧ NumsAt H na ns ∧ okS z = true
  | .take ns z => ∃ na, H a = some (.tup [.str "take", .ref na, .str z]) ∧ NumsAt H na ns ∧ okS z = true
  | .set ns zs => ∃ na sa, H a = some (.tup [.str "set", .ref na, .ref sa]) ∧ NumsAt H na ns ∧ H sa = some (.tup (zs.map V.str)) ∧ OkSs zs
  | .rem ns => ∃ na, H a = some (.tup [.str "remove", .ref na]) ∧ NumsAt H na ns
  | .trim m => H a = some (.tup [.str "trim", .int m]) ∧ 0 ≤ m
def does : Dd → Fo → Fo
  | .app b ss, F => fApp F b ss
  | .add ns z, F => fSig F ns (fun ss => wG ss z)
  | .take ns z, F => fSig F ns (fun ss => nS ss z)
  | .set ns zs, F => fSig F ns (fun _ => zs)
  | .rem ns, F => fRem F ns
  | .trim m, F => fTrim F m
def wordD : Dd → Str
  | .app _ _ => "append"
  | .add _ _ => "add"
  | .take _ _ => "take"
  | .set _ _ => "set"
  | .rem _ => "remove"
  | .trim _ => "trim"
theorem DdAt.ext {H H' : Hp} {a : Addr} (s : LamX.ExtN H H') : ∀ {d : Dd}, DdAt H a d → DdAt H' a d
  | .app b ss, ⟨sa, h, h2, h3, h4⟩ => ⟨sa, tup_ext h s, tup_ext h2 s, h3, h4⟩
  | .add ns z, ⟨na, h, h2, h3⟩ => ⟨na, tup_ext h s, h2.ext s, h3⟩
  | .take ns z, ⟨na, h, h2, h3⟩ => ⟨na, tup_ext h s, h2.ext s, h3⟩
  | .set ns zs, ⟨na, sa, h, h2, h3, h4⟩ => ⟨na, sa, tup_ext h s, h2.ext s, tup_ext h3 s, h4⟩
  | .rem ns, ⟨na, h, h2⟩ => ⟨na, tup_ext h s, h2.ext s⟩
  | .trim m, ⟨h, h2⟩ => ⟨tup_ext h s, h2⟩
theorem DdAt.same {H H' : Hp} {a : Addr} {d : Dd} (h : DdAt H a d) (s : Same H H') : DdAt H' a d := h.ext (LamX.ExtN.of s)
theorem DdAt.word {H : Hp} {a : Addr} : ∀ {d : Dd}, DdAt H a d → ∃ u rest, H a = some (.tup (.str (wordD d) :: u :: rest)) ∧ rest.length ≤ 1
  | .app b ss, ⟨sa, h, _⟩ => ⟨_, _, h, Nat.le_refl _⟩
  | .add ns z, ⟨na, h, _⟩ => ⟨_, _, h, Nat.le_refl _⟩
  | .take ns z, ⟨na, h, _⟩ => ⟨_, _, h, Nat.le_refl _⟩
  | .set ns zs, ⟨na, sa, h, _⟩ => ⟨_, _, h, Nat.le_refl _⟩
  | .rem ns, ⟨na, h, _⟩ => ⟨_, _, h, Nat.zero_le _⟩
  | .trim m, ⟨h, _⟩ => ⟨_, _, h, Nat.zero_le _⟩
abbrev sIsDeed : Stmt := st_is_deed
abbrev sCan : Stmt := st_can_be_done
abbrev sDone : Stmt := st_done
abbrev sPlayed : Stmt := st_played
abbrev nIsDeed : List Str := ["value", "word", "first"]
theorem scIsDeed : FnScope nIsDeed pV (defScope sIsDeed) := ⟨rfl, rfl, rfl, by decide +kernel, rfl, by decide +kernel, by decide +kernel⟩
abbrev nCan : List Str := ["folder", "value"]
theorem scCan : FnScope nCan nCan (defScope sCan) := ⟨rfl, rfl, rfl, by decide +kernel, rfl, by decide +kernel, by decide +kernel⟩
abbrev nDone : List Str := ["folder", "deed", "word", "first"]
abbrev pDone : List Str := ["folder", "deed"]
theorem scDone : FnScope nDone pDone (defScope sDone) := ⟨rfl, rfl, rfl, by decide +kernel, rfl, by decide +kernel, by decide +kernel⟩
abbrev nPlayed : List Str := ["folder", "history", "at", "deed"]
abbrev pPlayed : List Str := ["folder", "history"]
theorem scPlayed : FnScope nPlayed pPlayed (defScope sPlayed) := ⟨rfl, rfl, rfl, by decide +kernel, rfl, by decide +kernel, by decide +kernel⟩
def spIsDeed : Sp := fun vs H Q _ => ∃ (a : Addr) (d : Dd), vs = [.ref a] ∧ DdAt H a d ∧ ∀ H', Same H H' → Q (.bl true) H'
def CanD (F : Fo) : Dd → Prop
  | .trim m => m ≤ F.mr
  | _ => True
def spCan (C : Addr) : Sp := fun vs H Q _ => ∃ (p a : Addr) (F : Fo) (d : Dd), vs = [.ref p, .ref a] ∧ FoAt C H p F ∧ CanD F d ∧ DdAt H a d ∧ ∀ H', Same H H' → Q (.bl true) H'
theorem shaped_str {s : Str} (h : PyData.strOk s = true) : SeqAt.shaped (.str s) = true := by
  unfold SeqAt.shaped
  simp [PyData.canLay0, PyData.depth, h]
theorem eq_str {K : PySem.W.Frag} {H : Hp} {a b : Str} {Q : VK} (c : Bool) (ha : PyData.strOk a = true) (e : (a == b) = c) (q : Q (.bl c) H) (hb : PyData.strOk b = true := by decide +kernel) : rEqD K (.str a) (.str b) H Q :=
  ⟨.str a, .str b, .str _, .str _, shaped_str ha, shaped_str hb, by rw [eqv_str, e]; exact q⟩
theorem ne_str {K : PySem.W.Frag} {H : Hp} {a b : Str} {Q : VK} (c : Bool) (ha : PyData.strOk a = true) (e : (a == b) = c) (q : Q (.bl !c) H) (hb : PyData.strOk b = true := by decide +kernel) : rNeD K (.str a) (.str b) H Q :=
  ⟨.str a, .str b, .str _, .str _, shaped_str ha, shaped_str hb, by rw [eqv_str, e]; exact q⟩
theorem word_ok : ∀ d : Dd, PyData.strOk (wordD d) = true
  | .app _ _ => (show PyData.strOk "append" = true by decide +kernel)
  | .add _ _ => (show PyData.strOk "add" = true by decide +kernel)
  | .take _ _ => (show PyData.strOk "take" = true by decide +kernel)
  | .set _ _ => (show PyData.strOk "set" = true by decide +kernel)
  | .rem _ => (show PyData.strOk "remove" = true by decide +kernel)
  | .trim _ => (show PyData.strOk "trim" = true by decide +kernel)
section
variable {P : Program} {w : World} {K : PySem.W.Frag} {mg : Str → Option Value} {base : Heap} {C : Addr}
theorem ok_isDeed {f : Addr} {fd : FuncData} (T : Bk mg) (D_is_body : Def P w K mg base CX0 2 "is_body" pV spBody) (D_is_sign : Def P w K mg base CX0 1 "is_sign" pV spSign) (D_is_signs : Def P w K mg base CX0 2 "is_signs" pV spSigns) (D_is_numbers : Def P w K mg base CX0 3 "is_numbers" pV spNums) (D_is_mark : Def P w K mg base CX0 2 "is_mark" pV spBody)
    (F : Fun K "is_deed" "is_deed" sIsDeed f fd) : FnOk P w K mg base CX0 4 f fd pV spIsDeed := by
  have nd := scIsDeed.nd
  refine F.ok scIsDeed (fun vs H Q E h => ?_) (fun cdv A outer s H vs Q E hr h => ?_)
  · obtain ⟨a, d, rfl, _⟩ := h
    rfl
  · obtain ⟨a, d, rfl, hd, q⟩ := h
    refine ⟨_, pss_cons (ps_if (PW.pt (pw_or (pt_not (pt_val (pe_callB (call_isiK1 (K := K) rfl) (by rfl) T.isinstance PyProof.Rows.boot_isinstance (pa_cons (pv 0) (pa_cons (pe_bltn (v := .ty "tuple") rfl T.tuple PyProof.Rows.boot_tuple rfl) pa_nil))))) (pw_or (pt_cmpR (op_notIn_seqK (K := K) rfl) (pe_callB (call_lenK (K := K) rfl) (by rfl) T.len PySem.boot_len (pa_cons (pv 0) pa_nil)) (pe_tup (pa_cons pe_int (pa_cons pe_int pa_nil))) (by rfl)) (pw_or1 (pt_not (pt_val (pe_callB (call_isiK1 (K := K) rfl) (by rfl) T.isinstance PyProof.Rows.boot_isinstance (pa_cons (pe_ix (ix_tupK (K := K) rfl) (pv 0) pe_int (fun _ _ => rfl)) (pa_cons (pe_bltn (v := .ty "str") rfl T.str PyProof.Rows.boot_str rfl) pa_nil)))))))))
  pss_any
  pss_nil)
 (pss_cons (ps_par (i := 1) (j := 2) (by rfl) nd rfl rfl (by decide) rfl rfl (pa_cons (pe_ix (ix_tupK (K := K) rfl) (pv 0) pe_int (fun _ _ => rfl)) (pa_cons (pe_ix (ix_tupK (K := K) rfl) (pv 0) pe_int (fun _ _ => rfl)) pa_nil)) (by rfl))
 (pss_cons (ps_if (pt_cmpR op_eq (pe_callB (call_lenK (K := K) rfl) (by rfl) T.len PySem.boot_len (pa_cons (pv 0) pa_nil)) pe_int (nomark _))
  (pss_one (ps_ret (pe_or (pe_and (pe_cmpR (op_eqDK (K := K) rfl hr.units) (pv 1) pe_str (nomark _)) (pe_one (pe_def D_is_numbers (hr.mono (by decide)) rfl pass0 (pa_cons (pv 2) pa_nil)))) (pe_one (pe_and (pe_cmpR (op_eqDK (K := K) rfl hr.units) (pv 1) pe_str (nomark _)) (pe_one (pe_def D_is_mark (hr.mono (by decide)) rfl pass0 (pa_cons (pv 2) pa_nil))))))))
  pss_nil)
 (pss_cons (ps_if (pt_cmpR (op_eqDK (K := K) rfl hr.units) (pv 1) pe_str (nomark _))
  (pss_one (ps_ret (pe_and (pe_def D_is_body (hr.mono (by decide)) rfl pass0 (pa_cons (pv 2) pa_nil)) (pe_one (pe_def D_is_signs (hr.mono (by decide)) rfl pass0 (pa_cons (pe_ix (ix_tupK (K := K) rfl) (pv 0) pe_int (fun _ _ => rfl)) pa_nil))))))
  pss_nil)
 (pss_cons (ps_if (pt_cmpR (op_in_seqK (K := K) rfl) (pv 1) (pe_tup (pa_cons pe_str (pa_cons pe_str pa_nil))) (by rfl))
  (pss_one (ps_ret (pe_and (pe_def D_is_numbers (hr.mono (by decide)) rfl pass0 (pa_cons (pv 2) pa_nil)) (pe_one (pe_def D_is_sign (hr.mono (by decide)) rfl pass0 (pa_cons (pe_ix (ix_tupK (K := K) rfl) (pv 0) pe_int (fun _ _ => rfl)) pa_nil))))))
  pss_nil)
 (pss_one (ps_ret (pe_and (pe_cmpR (op_eqDK (K := K) rfl hr.units) (pv 1) pe_str (nomark _)) (pe_and (pe_def D_is_numbers (hr.mono (by decide)) rfl pass0 (pa_cons (pv 2) pa_nil)) (pe_one (pe_def D_is_signs (hr.mono (by decide)) rfl pass0 (pa_cons (pe_ix (ix_tupK (K := K) rfl) (pv 0) pe_int (fun _ _ => rfl)) pa_nil))))))))))), ?_⟩
    obtain ⟨u, rest, ha, hl⟩ := hd.word
    refine ⟨_, rfl, .ref a, .ty "tuple", .type "tuple", .type "tuple", true, rfl, .ty _, .base (.tup ha), kit_ty (by decide +kernel), _, rfl, itbF rfl ?_⟩
    refine ⟨_, rfl, a, _, rfl, .inr (st ha), by show 2 ≤ sizeLine; decide, fun tp ntp => ?_⟩
    have s1 := same_new (o := .tup [.int 2, .int 3]) ntp
    refine ⟨tp, _, rfl, .inr (st upd_same), rfl, rfl, _, rfl, itbF ?_ ?_⟩
    · match rest, hl with
      | [], _ => rfl
      | [_], _ => rfl
      | _ :: _ :: _, hl => simp at hl
    have ha1 := s1 _ _ ha
    have hd1 := hd.same s1
    generalize upd H tp (.tup [.int 2, .int 3]) = H1 at s1 ha1 hd1
    refine ⟨_, rfl, a, _, 0, .str (wordD d), rfl, rfl, st ha1, atI_nat (j := 0) rfl, .str (wordD d), .ty "str", .type "str", .type "str", true, rfl, .ty _, .base (.str _), kit_ty (by decide +kernel), _, rfl, itbF rfl ?_⟩
    cases d with
    | app b ss =>
      obtain ⟨sa, h, hs, hb, hu⟩ := hd1
      refine ⟨_, rfl, a, _, 0, .str "append", rfl, rfl, st h, atI_nat (j := 0) rfl, _, rfl, a, _, 1, .int b, rfl, rfl, st h, atI_nat (j := 1) rfl, _, _, rfl, ?_⟩
      refine ⟨_, rfl, a, _, rfl, .inr (st h), rfl, _, rfl, itbF (decide_eq_false (fun z => absurd (V.int.inj z) (by simp))) ?_⟩
      refine ⟨_, rfl, ?_⟩
      delta tC; dsimp only
      refine eq_str true (by decide +kernel) (by decide +kernel) ⟨_, rfl, itbT rfl ?_⟩
      refine ⟨_, rfl, b, rfl, hb, _, rfl, itbT rfl ?_⟩
      exact ⟨_, rfl, a, _, 2, .ref sa, rfl, rfl, st h, atI_nat (j := 2) rfl, sa, ss, rfl, hs, okSs_iff.mpr hu, fun H2 s2 => q H2 (s1.trans s2)⟩
    | add ns z =>
      obtain ⟨na, h, hn, hz⟩ := hd1
      refine ⟨_, rfl, a, _, 0, .str "add", rfl, rfl, st h, atI_nat (j := 0) rfl, _, rfl, a, _, 1, .ref na, rfl, rfl, st h, atI_nat (j := 1) rfl, _, _, rfl, ?_⟩
      refine ⟨_, rfl, a, _, rfl, .inr (st h), rfl, _, rfl, itbF (decide_eq_false (fun z => absurd (V.int.inj z) (by simp))) ?_⟩
      refine ⟨_, rfl, ?_⟩
      delta tC; dsimp only
      refine eq_str false (by decide +kernel) (by decide +kernel) ⟨_, rfl, itbF rfl ?_⟩
      refine ⟨_, rfl, by show 2 ≤ sizeLine; decide, fun t2 n2 => ?_⟩
      have s2 := same_new (o := .tup [.str "add", .str "take"]) n2
      refine ⟨t2, _, rfl, .inr (st upd_same), rfl, rfl, _, rfl, itbT (by decide +kernel) ?_⟩
      refine ⟨_, rfl, na, ns, rfl, hn.at_.same s2, hn.one, hn.len, fun H3 s3 => ⟨_, rfl, itbT rfl ?_⟩⟩
      exact ⟨_, rfl, a, _, 2, .str z, rfl, rfl, st (s3 _ _ (s2 _ _ h)), atI_nat (j := 2) rfl, z, rfl, hz, fun H4 s4 => q H4 (((s1.trans s2).trans s3).trans s4)⟩
    | take ns z =>
      obtain ⟨na, h, hn, hz⟩ := hd1
      refine ⟨_, rfl, a, _, 0, .str "take", rfl, rfl, st h, atI_nat (j := 0) rfl, _, rfl, a, _, 1, .ref na, rfl, rfl, st h, atI_nat (j := 1) rfl, _, _, rfl, ?_⟩
      refine ⟨_, rfl, a, _, rfl, .inr (st h), rfl, _, rfl, itbF (decide_eq_false (fun z => absurd (V.int.inj z) (by simp))) ?_⟩
      refine ⟨_, rfl, ?_⟩
      delta tC; dsimp only
      refine eq_str false (by decide +kernel) (by decide +kernel) ⟨_, rfl, itbF rfl ?_⟩
      refine ⟨_, rfl, by show 2 ≤ sizeLine; decide, fun t2 n2 => ?_⟩
      have s2 := same_new (o := .tup [.str "add", .str "take"]) n2
      refine ⟨t2, _, rfl, .inr (st upd_same), rfl, rfl, _, rfl, itbT (by decide +kernel) ?_⟩
      refine ⟨_, rfl, na, ns, rfl, hn.at_.same s2, hn.one, hn.len, fun H3 s3 => ⟨_, rfl, itbT rfl ?_⟩⟩
      exact ⟨_, rfl, a, _, 2, .str z, rfl, rfl, st (s3 _ _ (s2 _ _ h)), atI_nat (j := 2) rfl, z, rfl, hz, fun H4 s4 => q H4 (((s1.trans s2).trans s3).trans s4)⟩
    | set ns zs =>
      obtain ⟨na, sa, h, hn, hs, hz⟩ := hd1
      refine ⟨_, rfl, a, _, 0, .str "set", rfl, rfl, st h, atI_nat (j := 0) rfl, _, rfl, a, _, 1, .ref na, rfl, rfl, st h, atI_nat (j := 1) rfl, _, _, rfl, ?_⟩
      refine ⟨_, rfl, a, _, rfl, .inr (st h), rfl, _, rfl, itbF (decide_eq_false (fun z => absurd (V.int.inj z) (by simp))) ?_⟩
      refine ⟨_, rfl, ?_⟩
      delta tC; dsimp only
      refine eq_str false (by decide +kernel) (by decide +kernel) ⟨_, rfl, itbF rfl ?_⟩
      refine ⟨_, rfl, by show 2 ≤ sizeLine; decide, fun t2 n2 => ?_⟩
      have s2 := same_new (o := .tup [.str "add", .str "take"]) n2
      refine ⟨t2, _, rfl, .inr (st upd_same), rfl, rfl, _, rfl, itbF (by decide +kernel) ?_⟩
      refine ⟨_, rfl, ?_⟩
      dsimp only
      refine eq_str true (by decide +kernel) (by decide +kernel) ⟨_, rfl, itbT rfl ?_⟩
      refine ⟨_, rfl, na, ns, rfl, hn.at_.same s2, hn.one, hn.len, fun H3 s3 => ⟨_, rfl, itbT rfl ?_⟩⟩
      exact ⟨_, rfl, a, _, 2, .ref sa, rfl, rfl, st (s3 _ _ (s2 _ _ h)), atI_nat (j := 2) rfl, sa, zs, rfl, s3 _ _ (s2 _ _ hs), okSs_iff.mpr hz, fun H4 s4 => q H4 (((s1.trans s2).trans s3).trans s4)⟩
    | rem ns =>
      obtain ⟨na, h, hn⟩ := hd1
      refine ⟨_, rfl, a, _, 0, .str "remove", rfl, rfl, st h, atI_nat (j := 0) rfl, _, rfl, a, _, 1, .ref na, rfl, rfl, st h, atI_nat (j := 1) rfl, _, _, rfl, ?_⟩
      refine ⟨_, rfl, a, _, rfl, .inr (st h), rfl, _, rfl, itbT (decide_eq_true rfl) ?_⟩
      refine ⟨_, rfl, ?_⟩
      delta tC; dsimp only
      refine eq_str true (by decide +kernel) (by decide +kernel) ⟨_, rfl, itbT rfl ?_⟩
      exact ⟨_, rfl, na, ns, rfl, hn.at_, hn.one, hn.len, fun H3 s3 => ⟨_, rfl, itbT rfl (q H3 (s1.trans s3))⟩⟩
    | trim m =>
      obtain ⟨h, h0⟩ := hd1
      refine ⟨_, rfl, a, _, 0, .str "trim", rfl, rfl, st h, atI_nat (j := 0) rfl, _, rfl, a, _, 1, .int m, rfl, rfl, st h, atI_nat (j := 1) rfl, _, _, rfl, ?_⟩
      refine ⟨_, rfl, a, _, rfl, .inr (st h), rfl, _, rfl, itbT (decide_eq_true rfl) ?_⟩
      refine ⟨_, rfl, ?_⟩
      delta tC; dsimp only
      refine eq_str false (by decide +kernel) (by decide +kernel) ⟨_, rfl, itbF rfl ⟨_, rfl, itbF rfl ⟨_, rfl, ?_⟩⟩⟩
      dsimp only
      refine eq_str true (by decide +kernel) (by decide +kernel) ⟨_, rfl, itbT rfl ?_⟩
      exact ⟨_, rfl, m, rfl, h0, q H1 s1⟩
theorem ok_can {f : Addr} {fd : FuncData} (t : ClT K mg C) (M_mark : MDef P w K mg base CX0 1 C "mark" nSelf (spMark C)) (D_is_deed : Def P w K mg base CX0 4 "is_deed" pV spIsDeed)
    (F : Fun K "can_be_done" "can_be_done" sCan f fd) : FnOk P w K mg base CX0 5 f fd nCan (spCan C) := by
  have nd := scCan.nd
  refine F.ok scCan (fun vs H Q E h => ?_) (fun cdv A outer s H vs Q E hr h => ?_)
  · obtain ⟨p, a, F, d, rfl, _⟩ := h
    rfl
  · obtain ⟨p, a, F, d, rfl, hF, hc, hd, q⟩ := h
    refine ⟨_, pss_cons (ps_if (pt_not (pt_val (pe_def D_is_deed (hr.mono (by decide)) rfl pass0 (pa_cons (pv 1) pa_nil)))) pss_any pss_nil)
 (pss_one (ps_ret (pe_or (pe_cmpR (op_neDK (K := K) rfl hr.units) (pe_ix (ix_tupK (K := K) rfl) (pv 1) pe_int (fun _ _ => rfl)) pe_str (nomark _)) (pe_one (pe_cmpR op_le (pe_ix (ix_tupK (K := K) rfl) (pv 1) pe_int (fun _ _ => rfl)) (pe_mdef0 M_mark t.cl (hr.mono (by decide)) pass0 (pv 0)) (nomark _)))))), ?_⟩
    refine ⟨_, rfl, a, d, rfl, hd, fun H1 s1 => ⟨_, rfl, itbF rfl ?_⟩⟩
    have hd1 := hd.same s1
    by_cases ht : ∃ m, d = .trim m
    · obtain ⟨m, rfl⟩ := ht
      obtain ⟨ha, h0⟩ := hd1
      have hF1 := hF.same s1
      obtain ⟨dx, tl, tg, hp, _⟩ := id hF1
      refine ⟨_, rfl, a, _, 0, .str "trim", rfl, rfl, st ha, atI_nat (j := 0) rfl, ?_⟩
      delta tC; dsimp only
      refine ne_str true (by decide +kernel) (by decide +kernel) ⟨_, rfl, itbF rfl ?_⟩
      refine ⟨_, rfl, a, _, 1, .int m, rfl, rfl, st ha, atI_nat (j := 1) rfl, _, rfl, p, dx, _, rfl, hp, fl_no (by decide +kernel), p, F, rfl, hF1, _, _, rfl, rfl, ?_⟩
      show Q (.bl (decide (m ≤ F.mr))) H1
      rw [decide_eq_true (show m ≤ F.mr from hc)]
      exact q H1 s1
    obtain ⟨u, rest, ha, hl⟩ := hd1.word
    refine ⟨_, rfl, a, _, 0, .str (wordD d), rfl, rfl, st ha, atI_nat (j := 0) rfl, ?_⟩
    delta tC; dsimp only
    refine ne_str false (word_ok d) ?_ ⟨_, rfl, itbT rfl (q H1 s1)⟩
    cases d with
    | app b ss => exact (show (("append" : Str) == "trim") = false by decide +kernel)
    | add b ss => exact (show (("add" : Str) == "trim") = false by decide +kernel)
    | take b ss => exact (show (("take" : Str) == "trim") = false by decide +kernel)
    | set b ss => exact (show (("set" : Str) == "trim") = false by decide +kernel)
    | rem b => exact (show (("remove" : Str) == "trim") = false by decide +kernel)
    | trim m => exact absurd ⟨m, rfl⟩ ht
end
end K1


set_option Elab.async false
set_option linter.all false
set_option maxRecDepth 100000
set_option maxHeartbeats 2000000
namespace K1
open PySem PySem.Spec PyProof.Rows L2 RZ StX
/-! ### what folders keep -/
structure Wf (n : Nat) (F : Fo) : Prop where
  age : 1 ≤ F.age
  len : F.ls.length + F.go.length ≤ n
  sg : ∀ l ∈ F.ls, OkSs l.s
def OkD : Dd → Prop
  | .app b ss => 0 ≤ b ∧ OkSs ss
  | .add _ z => okS z = true
  | .take _ z => okS z = true
  | .set _ zs => OkSs zs
  | .rem _ => True
  | .trim m => 0 ≤ m
theorem DdAt.ok {H : Hp} {a : Addr} : ∀ {d : Dd}, DdAt H a d → OkD d
  | .app b ss, ⟨sa, _, _, h3, h4⟩ => ⟨h3, h4⟩
  | .add ns z, ⟨na, _, _, h3⟩ => h3
  | .take ns z, ⟨na, _, _, h3⟩ => h3
  | .set ns zs, ⟨na, sa, _, _, _, h4⟩ => h4
  | .rem ns, ⟨na, _, _⟩ => trivial
  | .trim m, ⟨_, h⟩ => h
theorem sigL_len (ns : List Int) (g : List Str → List Str) : ∀ (ls : List Lt) (m : Int), (sigL ns g ls m).1.length = ls.length
  | [], m => rfl
  | l :: r, m => by
    unfold sigL
    split
    · show (sigL ns g r m).1.length + 1 = _
      rw [sigL_len ns g r m]; rfl
    · show (sigL ns g r (m + 1)).1.length + 1 = _
      rw [sigL_len ns g r (m + 1)]; rfl
theorem remL_len (ns : List Int) : ∀ (ls : List Lt) (m : Int), (remL ns ls m).1.length + (remL ns ls m).2.1.length = ls.length
  | [], m => rfl
  | l :: r, m => by
    unfold remL
    split
    · have := remL_len ns r (m + 1)
      simp only [List.length_cons]; omega
    · have := remL_len ns r m
      simp only [List.length_cons]; omega
theorem sigL_sg (ns : List Int) {g : List Str → List Str} (hg : ∀ ss, OkSs ss → OkSs (g ss)) : ∀ (ls : List Lt) (m : Int), (∀ l ∈ ls, OkSs l.s) → ∀ l ∈ (sigL ns g ls m).1, OkSs l.s
  | [], m, _, l, hl => by cases hl
  | x :: r, m, h, l, hl => by
    unfold sigL at hl
    split at hl
    · rcases List.mem_cons.mp hl with rfl | hl
      · exact h _ List.mem_cons_self
      · exact sigL_sg ns hg r m (fun y hy => h y (List.mem_cons_of_mem _ hy)) l hl
    · rcases List.mem_cons.mp hl with rfl | hl
      · exact newS_u (h _ List.mem_cons_self) hg
      · exact sigL_sg ns hg r (m + 1) (fun y hy => h y (List.mem_cons_of_mem _ hy)) l hl
theorem remL_mem (ns : List Int) : ∀ (ls : List Lt) (m : Int), ∀ l ∈ (remL ns ls m).1, l ∈ ls
  | [], m, l, hl => by cases hl
  | x :: r, m, l, hl => by
    unfold remL at hl
    split at hl
    · exact List.mem_cons_of_mem _ (remL_mem ns r (m + 1) l hl)
    · rcases List.mem_cons.mp hl with rfl | hl
      · exact List.mem_cons_self
      · exact List.mem_cons_of_mem _ (remL_mem ns r m l hl)
theorem wf_sig {n : Nat} {F : Fo} {ns : List Int} {g : List Str → List Str} (h : Wf n F) (hg : ∀ ss, OkSs ss → OkSs (g ss)) : Wf n (fSig F ns g) :=
  ⟨h.age, by show (sigL ns g F.ls F.mr).1.length + F.go.length ≤ n; rw [sigL_len]; exact h.len, sigL_sg ns hg _ _ h.sg⟩
theorem Wf.mono {n m : Nat} {F : Fo} (h : Wf n F) (k : n ≤ m) : Wf m F := ⟨h.age, Nat.le_trans h.len k, h.sg⟩
theorem wf_does {n : Nat} {F : Fo} : ∀ {d : Dd}, OkD d → Wf n F → Wf (n + 1) (does d F)
  | .app b ss, h, w => ⟨w.age, by have := w.len; show (F.ls ++ _).length + F.go.length ≤ n + 1; rw [List.length_append]; show F.ls.length + 1 + F.go.length ≤ n + 1; omega, fun l hl => by
      rcases List.mem_append.mp (show l ∈ F.ls ++ _ from hl) with hl | hl
      · exact w.sg l hl
      · rw [List.mem_singleton.mp hl]; exact h.2⟩
  | .add ns z, h, w => (wf_sig w fun ss hs => wG_ok hs h).mono (Nat.le_succ _)
  | .take ns z, h, w => (wf_sig w fun ss hs => nS_ok hs).mono (Nat.le_succ _)
  | .set ns zs, h, w => (wf_sig w fun ss hs => h).mono (Nat.le_succ _)
  | .rem ns, h, w => ⟨w.age, by have := w.len; have := remL_len ns F.ls F.mr; show (remL ns F.ls F.mr).1.length + (F.go ++ (remL ns F.ls F.mr).2.1).length ≤ n + 1; rw [List.length_append]; omega, fun l hl => w.sg l (remL_mem ns _ _ l hl)⟩
  | .trim m, h, w => ⟨w.age, by have := w.len; have := List.length_filter_le (fun g : Int × Int => decide (mxI F.ct m < g.1)) F.go; show F.ls.length + (F.go.filter fun g => decide (mxI F.ct m < g.1)).length ≤ n + 1; omega, w.sg⟩
def spDone (C PA PT PS : Addr) : Sp := fun vs H Q _ => ∃ (p a : Addr) (F : Fo) (d : Dd), vs = [.ref p, .ref a] ∧ FoAt C H p F ∧ Wf 1000 F ∧ DdAt H a d ∧ CanD F d ∧ LamX.Tabs (T3 PA PT PS) H ∧
  ∀ q H', LamX.ExtN H H' → LamX.Tabs (T3 PA PT PS) H' → FoAt C H' q (does d F) → Q (.ref q) H'
/-- the folder behind deeds -/
def doesL : List Dd → Fo → Fo
  | [], F => F
  | d :: r, F => doesL r (does d F)
inductive DdsAt (H : Hp) : List V → List Dd → Prop
  | nil : DdsAt H [] []
  | cons {a : Addr} {d : Dd} {xs : List V} {ds : List Dd} : DdAt H a d → DdsAt H xs ds → DdsAt H (.ref a :: xs) (d :: ds)
theorem DdsAt.get {H : Hp} : ∀ {xs : List V} {ds : List Dd}, DdsAt H xs ds → ∀ {i : Nat} {v : V}, xs[i]? = some v → ∃ a d, v = .ref a ∧ ds[i]? = some d ∧ DdAt H a d
  | _, _, .nil, i, v, h => by simp at h
  | _, _, .cons hd r, 0, v, h => ⟨_, _, by simpa using h.symm, rfl, hd⟩
  | _, _, .cons hd r, i + 1, v, h => by simpa using DdsAt.get r (i := i) (v := v) (by simpa using h)
theorem DdsAt.len {H : Hp} : ∀ {xs : List V} {ds : List Dd}, DdsAt H xs ds → xs.length = ds.length
  | _, _, .nil => rfl
  | _, _, .cons _ r => congrArg (· + 1) r.len
section
variable {P : Program} {w : World} {K : PySem.W.Frag} {mg : Str → Option Value} {base : Heap} {C PA PT PS : Addr}
theorem ok_done {f : Addr} {fd : FuncData} (t : ClT K mg C) (M_app : MDef P w K mg base CX0 6 C "appended" pApp (spApp C)) (M_add : MDef P w K mg base CX0 8 C "added" nAdd (spSgn C PA PT PS (fun z ss => wG ss z))) (M_take : MDef P w K mg base CX0 8 C "taken" nAdd (spSgn C PA PT PS (fun z ss => nS ss z)))
    (M_set : MDef P w K mg base CX0 8 C "set_to" nSet (spSet C PA PT PS)) (M_rem : MDef P w K mg base CX0 6 C "removed" pRem (spRem C)) (M_trim : MDef P w K mg base CX0 6 C "trimmed" pTrim (spTrim C)) (F : Fun K "done" "done" sDone f fd) : FnOk P w K mg base CX0 9 f fd pDone (spDone C PA PT PS) := by
  have nd := scDone.nd
  refine F.ok scDone (fun vs H Q E h => ?_) (fun cdv A outer s H vs Q E hr h => ?_)
  · obtain ⟨p, a, F, d, rfl, _⟩ := h
    rfl
  · obtain ⟨p, a, F, d, rfl, hF, hw, hd, hcan, hT, q⟩ := h
    refine ⟨_, pss_cons (ps_par (i := 2) (j := 3) (by rfl) nd rfl rfl (by decide) rfl rfl (pa_cons (pe_ix (ix_tupK (K := K) rfl) (pv 1) pe_int (fun _ _ => rfl)) (pa_cons (pe_ix (ix_tupK (K := K) rfl) (pv 1) pe_int (fun _ _ => rfl)) pa_nil)) (by rfl))
 (pss_cons (ps_if (pt_cmpR (op_eqDK (K := K) rfl hr.units) (pv 2) pe_str (nomark _))
  (pss_one (ps_ret (pe_mdef M_app t.cl (hr.mono (by decide)) pass0 (pv 0) (pa_cons (pv 3) (pa_cons (pe_ix (ix_tupK (K := K) rfl) (pv 1) pe_int (fun _ _ => rfl)) pa_nil)))))
  pss_nil)
 (pss_cons (ps_if (pt_cmpR (op_eqDK (K := K) rfl hr.units) (pv 2) pe_str (nomark _))
  (pss_one (ps_ret (pe_mdef M_add t.cl (hr.mono (by decide)) pass0 (pv 0) (pa_cons (pv 3) (pa_cons (pe_ix (ix_tupK (K := K) rfl) (pv 1) pe_int (fun _ _ => rfl)) pa_nil)))))
  pss_nil)
 (pss_cons (ps_if (pt_cmpR (op_eqDK (K := K) rfl hr.units) (pv 2) pe_str (nomark _))
  (pss_one (ps_ret (pe_mdef M_take t.cl (hr.mono (by decide)) pass0 (pv 0) (pa_cons (pv 3) (pa_cons (pe_ix (ix_tupK (K := K) rfl) (pv 1) pe_int (fun _ _ => rfl)) pa_nil)))))
  pss_nil)
 (pss_cons (ps_if (pt_cmpR (op_eqDK (K := K) rfl hr.units) (pv 2) pe_str (nomark _))
  (pss_one (ps_ret (pe_mdef M_set t.cl (hr.mono (by decide)) pass0 (pv 0) (pa_cons (pv 3) (pa_cons (pe_ix (ix_tupK (K := K) rfl) (pv 1) pe_int (fun _ _ => rfl)) pa_nil)))))
  pss_nil)
 (pss_cons (ps_if (pt_cmpR (op_eqDK (K := K) rfl hr.units) (pv 2) pe_str (nomark _))
  (pss_one (ps_ret (pe_mdef M_rem t.cl (hr.mono (by decide)) pass0 (pv 0) (pa_cons (pv 3) pa_nil))))
  pss_nil)
 (pss_one (ps_ret (pe_mdef M_trim t.cl (hr.mono (by decide)) pass0 (pv 0) (pa_cons (pv 3) pa_nil))))))))), ?_⟩
    have hwl := hw.len
    obtain ⟨dx, tl, tg, hp, h1, h2⟩ := hF
    have hF : FoAt C H p F := ⟨dx, tl, tg, hp, h1, h2⟩
    cases d with
    | app b ss =>
      obtain ⟨sa, h, hs, hb, hu⟩ := hd
      refine ⟨_, rfl, a, _, 0, .str "append", rfl, rfl, st h, atI_nat (j := 0) rfl, _, rfl, a, _, 1, .int b, rfl, rfl, st h, atI_nat (j := 1) rfl, _, _, rfl, ?_⟩
      refine ⟨_, rfl, ?_⟩
      delta tC; dsimp only
      refine eq_str true (by decide +kernel) (by decide +kernel) ⟨_, rfl, itbT rfl ?_⟩
      exact ⟨_, rfl, p, dx, _, rfl, hp, fl_no (by decide +kernel), _, rfl, _, rfl, a, _, 2, .ref sa, rfl, rfl, st h, atI_nat (j := 2) rfl, p, sa, F, b, ss, rfl, hF, hw.age, hb, hs, hu, by omega, fun q' H' s' _ hF' => q q' H' (LamX.ExtN.of s') (hT.ext s') hF'⟩
    | add ns z =>
      obtain ⟨na, h, hn, hz⟩ := hd
      refine ⟨_, rfl, a, _, 0, .str "add", rfl, rfl, st h, atI_nat (j := 0) rfl, _, rfl, a, _, 1, .ref na, rfl, rfl, st h, atI_nat (j := 1) rfl, _, _, rfl, ?_⟩
      refine ⟨_, rfl, ?_⟩
      delta tC; dsimp only
      refine eq_str false (by decide +kernel) (by decide +kernel) ⟨_, rfl, itbF rfl ⟨_, rfl, ?_⟩⟩
      dsimp only
      refine eq_str true (by decide +kernel) (by decide +kernel) ⟨_, rfl, itbT rfl ?_⟩
      exact ⟨_, rfl, p, dx, _, rfl, hp, fl_no (by decide +kernel), _, rfl, _, rfl, a, _, 2, .str z, rfl, rfl, st h, atI_nat (j := 2) rfl, p, na, F, ns, z, rfl, hF, hw.age, hn, by omega, hw.sg, hz, hT, q⟩
    | take ns z =>
      obtain ⟨na, h, hn, hz⟩ := hd
      refine ⟨_, rfl, a, _, 0, .str "take", rfl, rfl, st h, atI_nat (j := 0) rfl, _, rfl, a, _, 1, .ref na, rfl, rfl, st h, atI_nat (j := 1) rfl, _, _, rfl, ?_⟩
      refine ⟨_, rfl, ?_⟩
      delta tC; dsimp only
      refine eq_str false (by decide +kernel) (by decide +kernel) ⟨_, rfl, itbF rfl ⟨_, rfl, ?_⟩⟩
      dsimp only
      refine eq_str false (by decide +kernel) (by decide +kernel) ⟨_, rfl, itbF rfl ⟨_, rfl, ?_⟩⟩
      dsimp only
      refine eq_str true (by decide +kernel) (by decide +kernel) ⟨_, rfl, itbT rfl ?_⟩
      exact ⟨_, rfl, p, dx, _, rfl, hp, fl_no (by decide +kernel), _, rfl, _, rfl, a, _, 2, .str z, rfl, rfl, st h, atI_nat (j := 2) rfl, p, na, F, ns, z, rfl, hF, hw.age, hn, by omega, hw.sg, hz, hT, q⟩
    | set ns zs =>
      obtain ⟨na, sa, h, hn, hs, hz⟩ := hd
      refine ⟨_, rfl, a, _, 0, .str "set", rfl, rfl, st h, atI_nat (j := 0) rfl, _, rfl, a, _, 1, .ref na, rfl, rfl, st h, atI_nat (j := 1) rfl, _, _, rfl, ?_⟩
      refine ⟨_, rfl, ?_⟩
      delta tC; dsimp only
      refine eq_str false (by decide +kernel) (by decide +kernel) ⟨_, rfl, itbF rfl ⟨_, rfl, ?_⟩⟩
      dsimp only
      refine eq_str false (by decide +kernel) (by decide +kernel) ⟨_, rfl, itbF rfl ⟨_, rfl, ?_⟩⟩
      dsimp only
      refine eq_str false (by decide +kernel) (by decide +kernel) ⟨_, rfl, itbF rfl ⟨_, rfl, ?_⟩⟩
      dsimp only
      refine eq_str true (by decide +kernel) (by decide +kernel) ⟨_, rfl, itbT rfl ?_⟩
      exact ⟨_, rfl, p, dx, _, rfl, hp, fl_no (by decide +kernel), _, rfl, _, rfl, a, _, 2, .ref sa, rfl, rfl, st h, atI_nat (j := 2) rfl, p, na, sa, F, ns, zs, rfl, hF, hw.age, hn, by omega, hw.sg, hz, hs, hT, q⟩
    | rem ns =>
      obtain ⟨na, h, hn⟩ := hd
      refine ⟨_, rfl, a, _, 0, .str "remove", rfl, rfl, st h, atI_nat (j := 0) rfl, _, rfl, a, _, 1, .ref na, rfl, rfl, st h, atI_nat (j := 1) rfl, _, _, rfl, ?_⟩
      refine ⟨_, rfl, ?_⟩
      delta tC; dsimp only
      refine eq_str false (by decide +kernel) (by decide +kernel) ⟨_, rfl, itbF rfl ⟨_, rfl, ?_⟩⟩
      dsimp only
      refine eq_str false (by decide +kernel) (by decide +kernel) ⟨_, rfl, itbF rfl ⟨_, rfl, ?_⟩⟩
      dsimp only
      refine eq_str false (by decide +kernel) (by decide +kernel) ⟨_, rfl, itbF rfl ⟨_, rfl, ?_⟩⟩
      dsimp only
      refine eq_str false (by decide +kernel) (by decide +kernel) ⟨_, rfl, itbF rfl ⟨_, rfl, ?_⟩⟩
      dsimp only
      refine eq_str true (by decide +kernel) (by decide +kernel) ⟨_, rfl, itbT rfl ?_⟩
      exact ⟨_, rfl, p, dx, _, rfl, hp, fl_no (by decide +kernel), _, rfl, p, na, F, ns, rfl, hF, hw.age, hn, by omega, by omega, fun q' H' s' _ hF' => q q' H' (LamX.ExtN.of s') (hT.ext s') hF'⟩
    | trim m =>
      obtain ⟨h, h0⟩ := hd
      refine ⟨_, rfl, a, _, 0, .str "trim", rfl, rfl, st h, atI_nat (j := 0) rfl, _, rfl, a, _, 1, .int m, rfl, rfl, st h, atI_nat (j := 1) rfl, _, _, rfl, ?_⟩
      refine ⟨_, rfl, ?_⟩
      delta tC; dsimp only
      refine eq_str false (by decide +kernel) (by decide +kernel) ⟨_, rfl, itbF rfl ⟨_, rfl, ?_⟩⟩
      dsimp only
      refine eq_str false (by decide +kernel) (by decide +kernel) ⟨_, rfl, itbF rfl ⟨_, rfl, ?_⟩⟩
      dsimp only
      refine eq_str false (by decide +kernel) (by decide +kernel) ⟨_, rfl, itbF rfl ⟨_, rfl, ?_⟩⟩
      dsimp only
      refine eq_str false (by decide +kernel) (by decide +kernel) ⟨_, rfl, itbF rfl ⟨_, rfl, ?_⟩⟩
      dsimp only
      refine eq_str false (by decide +kernel) (by decide +kernel) ⟨_, rfl, itbF rfl ?_⟩
      exact ⟨_, rfl, p, dx, _, rfl, hp, fl_no (by decide +kernel), _, rfl, p, F, m, rfl, hF, hw.age, h0, hcan, by omega, fun q' H' s' _ hF' => q q' H' (LamX.ExtN.of s') (hT.ext s') hF'⟩
end
end K1


set_option Elab.async false
set_option linter.all false
set_option maxRecDepth 100000
set_option maxHeartbeats 1000000
/-! Good folders; what copying and moving make, letter by letter. -/
namespace K1
open PySem PySem.Spec PyProof.Rows L2 RZ
structure Gd (k : Nat) (F : Fo) : Prop where
  wf : Wf k F
  nd : (F.ls.map (·.n)).Nodup
  it : ∀ l ∈ F.ls, 1 ≤ l.n ∧ l.n < F.nx ∧ 0 ≤ l.b
  nx : 1 ≤ F.nx ∧ F.nx ≤ k + 1
  mr : 0 ≤ F.mr ∧ F.mr ≤ 1000 * k
theorem Gd.mono {k m : Nat} {F : Fo} (h : Gd k F) (e : k ≤ m) : Gd m F := ⟨h.wf.mono e, h.nd, h.it, ⟨h.nx.1, by have := h.nx.2; omega⟩, ⟨h.mr.1, by have := h.mr.2; omega⟩⟩
theorem sigL_it (ns : List Int) (g : List Str → List Str) : ∀ (ls : List Lt) (m : Int), (sigL ns g ls m).1.map (fun l => (l.n, l.b)) = ls.map (fun l => (l.n, l.b))
  | [], m => rfl
  | l :: r, m => by
    unfold sigL
    split
    · rw [List.map_cons, List.map_cons, sigL_it ns g r m]
    · rw [List.map_cons, List.map_cons, sigL_it ns g r (m + 1)]
theorem sigL_mr (ns : List Int) (g : List Str → List Str) : ∀ (ls : List Lt) (m : Int), m ≤ (sigL ns g ls m).2 ∧ (sigL ns g ls m).2 ≤ m + ls.length
  | [], m => ⟨Int.le_refl _, by show m ≤ m + 0; omega⟩
  | l :: r, m => by
    unfold sigL
    split
    · have := sigL_mr ns g r m
      rw [List.length_cons]
      exact ⟨this.1, by have := this.2; show _ ≤ m + ((r.length + 1 : Nat) : Int); dsimp only; omega⟩
    · have := sigL_mr ns g r (m + 1)
      rw [List.length_cons]
      exact ⟨by have := this.1; dsimp only; omega, by have := this.2; show _ ≤ m + ((r.length + 1 : Nat) : Int); dsimp only; omega⟩
theorem remL_sub (ns : List Int) : ∀ (ls : List Lt) (m : Int), (remL ns ls m).1.Sublist ls
  | [], m => .slnil
  | l :: r, m => by
    unfold remL
    split
    · exact (remL_sub ns r (m + 1)).cons l
    · exact (remL_sub ns r m).cons₂ l
theorem remL_mr (ns : List Int) : ∀ (ls : List Lt) (m : Int), m ≤ (remL ns ls m).2.2 ∧ (remL ns ls m).2.2 ≤ m + ls.length
  | [], m => ⟨Int.le_refl _, by show m ≤ m + 0; omega⟩
  | l :: r, m => by
    unfold remL
    split
    · have := remL_mr ns r (m + 1)
      rw [List.length_cons]
      exact ⟨by have := this.1; dsimp only; omega, by have := this.2; show _ ≤ m + ((r.length + 1 : Nat) : Int); dsimp only; omega⟩
    · have := remL_mr ns r m
      rw [List.length_cons]
      exact ⟨this.1, by have := this.2; show _ ≤ m + ((r.length + 1 : Nat) : Int); dsimp only; omega⟩
theorem it_of {xs ys : List Lt} (e : xs.map (fun l => (l.n, l.b)) = ys.map (fun l => (l.n, l.b))) {l : Lt} (h : l ∈ xs) : ∃ y ∈ ys, y.n = l.n ∧ y.b = l.b := by
  have : (l.n, l.b) ∈ ys.map (fun l => (l.n, l.b)) := by rw [← e]; exact List.mem_map.mpr ⟨l, h, rfl⟩
  obtain ⟨y, hy, ey⟩ := List.mem_map.mp this
  exact ⟨y, hy, congrArg Prod.fst ey, congrArg Prod.snd ey⟩
theorem nd_of {xs ys : List Lt} (e : xs.map (fun l => (l.n, l.b)) = ys.map (fun l => (l.n, l.b))) (h : (ys.map (·.n)).Nodup) : (xs.map (·.n)).Nodup := by
  have e1 := congrArg (List.map Prod.fst) e
  rw [List.map_map, List.map_map] at e1
  have e2 : xs.map (·.n) = ys.map (·.n) := e1
  rw [e2]; exact h
theorem gd_sig {k : Nat} {F : Fo} {ns : List Int} {g : List Str → List Str} (hk : k ≤ 1000) (h : Gd k F) (w : Wf (k + 1) (fSig F ns g)) : Gd (k + 1) (fSig F ns g) := by
  have e := sigL_it ns g F.ls F.mr
  have m := sigL_mr ns g F.ls F.mr
  have hl := h.wf.len
  refine ⟨w, nd_of e h.nd, fun l hl => ?_, ⟨h.nx.1, by have := h.nx.2; show F.nx ≤ _; omega⟩, ⟨by have := h.mr.1; show 0 ≤ (sigL ns g F.ls F.mr).2; omega, by have := h.mr.2; show (sigL ns g F.ls F.mr).2 ≤ _; omega⟩⟩
  obtain ⟨y, hy, e1, e2⟩ := it_of e hl
  have := h.it y hy
  rw [e1, e2] at this
  exact this
theorem gd_does {k : Nat} {F : Fo} (hk : k ≤ 1000) (h : Gd k F) : ∀ {d : Dd}, OkD d → Gd (k + 1) (does d F)
  | .app b ss, o => by
    have hx := h.nx
    have hm := h.mr
    refine ⟨wf_does (d := .app b ss) o h.wf, ?_, fun l hl => ?_, ⟨by show 1 ≤ F.nx + 1; omega, by show F.nx + 1 ≤ _; omega⟩, ⟨by show 0 ≤ F.mr + 1; omega, by show F.mr + 1 ≤ _; omega⟩⟩
    · show ((F.ls ++ [(⟨F.nx, b, ss, F.mr + 1⟩ : Lt)]).map (·.n)).Nodup
      rw [List.map_append]
      refine List.nodup_append.mpr ⟨h.nd, by simp, fun a ha b' hb e => ?_⟩
      obtain ⟨l, hl, rfl⟩ := List.mem_map.mp ha
      have h1 : b' = F.nx := by simpa using hb
      have := (h.it l hl).2.1
      omega
    · rcases List.mem_append.mp (show l ∈ F.ls ++ _ from hl) with z | z
      · have := h.it l z
        exact ⟨this.1, by show l.n < F.nx + 1; omega, this.2.2⟩
      · rw [List.mem_singleton.mp z]
        exact ⟨hx.1, by show F.nx < F.nx + 1; omega, o.1⟩
  | .add ns z, o => gd_sig hk h (wf_does (d := .add ns z) o h.wf)
  | .take ns z, o => gd_sig hk h (wf_does (d := .take ns z) o h.wf)
  | .set ns zs, o => gd_sig hk h (wf_does (d := .set ns zs) o h.wf)
  | .rem ns, o => by
    have s := remL_sub ns F.ls F.mr
    have m := remL_mr ns F.ls F.mr
    have hl := h.wf.len
    refine ⟨wf_does (d := .rem ns) o h.wf, List.Nodup.sublist (s.map _) h.nd, fun l hl => h.it l (s.subset hl), ⟨h.nx.1, by have := h.nx.2; show F.nx ≤ _; omega⟩, ⟨by have := h.mr.1; show 0 ≤ (remL ns F.ls F.mr).2.2; omega, by have := h.mr.2; show (remL ns F.ls F.mr).2.2 ≤ _; omega⟩⟩
  | .trim m, o => ⟨wf_does (d := .trim m) o h.wf, h.nd, h.it, ⟨h.nx.1, by have := h.nx.2; show F.nx ≤ _; omega⟩, ⟨h.mr.1, by have := h.mr.2; show F.mr ≤ _; omega⟩⟩
theorem gd_new {a : Int} (h : 1 ≤ a) : Gd 0 (fNew a) := ⟨⟨h, Nat.le_refl _, fun l hl => by cases hl⟩, List.nodup_nil, fun l hl => (by cases hl), ⟨by show (1 : Int) ≤ 1; decide, by show (1 : Int) ≤ _; decide⟩, ⟨by show (0 : Int) ≤ 0; decide, by show (0 : Int) ≤ _; decide⟩⟩
/-- how many of the letters are of these numbers -/
def cnt (ns : List Int) (ls : List Lt) : Nat := (ls.filter fun l => decide (l.n ∈ ns)).length
theorem sub_lenI {α : Type} [DecidableEq α] : ∀ (b l : List α), l.Nodup → (∀ x ∈ l, x ∈ b) → l.length ≤ b.length
  | [], [], _, _ => Nat.le_refl _
  | [], x :: l, _, h => by have := h x List.mem_cons_self; cases this
  | y :: b, l, d, h => by
    have ih := sub_lenI b (l.erase y) (d.erase _) fun x hx => by
      have m := (List.Nodup.mem_erase_iff d).mp hx
      rcases List.mem_cons.mp (h x m.2) with e | e
      · exact absurd e m.1
      · exact e
    rw [List.length_erase] at ih
    rw [List.length_cons]
    split at ih <;> omega
theorem cnt_le {ns : List Int} {ls : List Lt} (h : (ls.map (·.n)).Nodup) : cnt ns ls ≤ ns.length := by
  have := sub_lenI ns ((ls.filter fun l => decide (l.n ∈ ns)).map (·.n)) (List.Nodup.sublist ((List.filter_sublist).map _) h) fun x hx => by
    obtain ⟨l, hl, rfl⟩ := List.mem_map.mp hx
    simpa using (List.mem_filter.mp hl).2
  rwa [List.length_map] at this
theorem cnt_take (ns : List Int) {ls : List Lt} {i : Nat} {l : Lt} (h : ls[i]? = some l) : cnt ns (ls.take (i + 1)) = cnt ns (ls.take i) + (if l.n ∈ ns then 1 else 0) := by
  unfold cnt
  rw [List.take_add_one, h, List.filter_append, List.length_append]
  congr 1
  by_cases c : l.n ∈ ns <;> simp [c]
theorem cnt_tk (ns : List Int) (ls : List Lt) (i : Nat) : cnt ns (ls.take i) ≤ cnt ns ls := ((List.take_sublist i ls).filter _).length_le
structure St9 where
  f : Fo
  o : Option Fo
  ps : List (Int × Int)
def rmv (lv : Bool) (f : Fo) (n : Int) : Fo := if lv = true then fRem f [n] else f
def tgt (s : St9) : Fo := match s.o with | none => s.f | some g => g
def car1 (lv : Bool) (ns : List Int) (s : St9) (l : Lt) : St9 :=
  if l.n ∈ ns then
    match s.o with
    | none => ⟨rmv lv (fApp s.f l.b l.s) l.n, none, s.ps ++ [(l.n, s.f.nx)]⟩
    | some g => ⟨rmv lv s.f l.n, some (fApp g l.b l.s), s.ps ++ [(l.n, g.nx)]⟩
  else s
def carL (lv : Bool) (ns : List Int) (s : St9) (ls : List Lt) : St9 := ls.foldl (car1 lv ns) s
theorem carL_take (lv : Bool) (ns : List Int) (s : St9) {ls : List Lt} {i : Nat} {l : Lt} (h : ls[i]? = some l) : carL lv ns s (ls.take (i + 1)) = car1 lv ns (carL lv ns s (ls.take i)) l := by
  unfold carL; rw [List.take_add_one, h, List.foldl_append]; rfl
def Gd9 (k : Nat) (s : St9) : Prop := Gd k s.f ∧ ∀ g, s.o = some g → Gd k g
theorem Gd9.mono {k m : Nat} {s : St9} (h : Gd9 k s) (e : k ≤ m) : Gd9 m s := ⟨h.1.mono e, fun g hg => (h.2 g hg).mono e⟩
theorem gd_rmv {k : Nat} {f : Fo} (lv : Bool) (n : Int) (hk : k ≤ 1000) (h : Gd k f) : Gd (k + 1) (rmv lv f n) := by
  unfold rmv
  split
  · exact gd_does hk h (d := .rem [n]) trivial
  · exact h.mono (by omega)
theorem gd_car1 {k : Nat} {s : St9} (lv : Bool) (ns : List Int) {l : Lt} (hk : k ≤ 900) (h : Gd9 k s) (hb : 0 ≤ l.b) (hs : OkSs l.s) : Gd9 (k + (if l.n ∈ ns then 2 else 0)) (car1 lv ns s l) := by
  unfold car1
  by_cases c : l.n ∈ ns
  · rw [if_pos c, if_pos c]
    obtain ⟨f, o, ps⟩ := s
    cases o with
    | none =>
      refine ⟨gd_rmv lv _ (by omega) (gd_does (by omega) h.1 (d := .app l.b l.s) ⟨hb, hs⟩), fun g hg => (by cases hg)⟩
    | some g =>
      refine ⟨(gd_rmv lv _ (by omega) h.1).mono (by omega), fun g' hg => ?_⟩
      rw [← Option.some.inj hg]
      exact (gd_does (by omega) (h.2 g rfl) (d := .app l.b l.s) ⟨hb, hs⟩).mono (by omega)
  · rw [if_neg c, if_neg c]
    exact h.mono (by omega)
theorem gd_carT {k : Nat} {s : St9} (lv : Bool) (ns : List Int) {ls : List Lt} (hk : k + 2 * cnt ns ls ≤ 900) (h : Gd9 k s) (hl : ∀ l ∈ ls, 0 ≤ l.b ∧ OkSs l.s) : ∀ i, Gd9 (k + 2 * cnt ns (ls.take i)) (carL lv ns s (ls.take i))
  | 0 => h.mono (by omega)
  | i + 1 => by
    have ih := gd_carT lv ns hk h hl i
    cases e : ls[i]? with
    | none =>
      have : ls.take (i + 1) = ls.take i := by rw [List.take_add_one, e]; simp
      rw [this]; exact ih
    | some l =>
      rw [carL_take lv ns s e, cnt_take ns e]
      have h1 := cnt_tk ns ls i
      have hm := hl l (List.mem_of_getElem? e)
      refine (gd_car1 lv ns (l := l) (by omega) ih hm.1 hm.2).mono ?_
      split <;> omega
theorem or_snotI {X : Cx} {P : Program} {w : World} (hP : X.prog = P) (hw : X.w = w) : OpR X (compareOp .NotIn) (rSetI P w true) := by
  subst hP hw
  intro pins s σ H x y v u Q I rx ry h
  obtain ⟨k, a, S, n, rfl, rfl, ha, q⟩ := h
  obtain rfl : u = Value.ref a := ry
  obtain ⟨t, rfl⟩ := rx
  exact wpAny_notInSet_of (intKind_is _ _ _ _) rfl (setI_get I ha) ⟨.bl (!S k), H, I.tok _, rfl, q⟩
end K1


set_option Elab.async false
set_option linter.all false
set_option maxRecDepth 100000
set_option maxHeartbeats 1000000
/-! Letters ascend; marks are at most the folder's. -/
namespace K1
open PySem PySem.Spec PyProof.Rows L2 RZ
structure Asc2 (F : Fo) : Prop where
  up : (F.ls.map (·.n)).Pairwise (· < ·)
  mb : ∀ l ∈ F.ls, 0 ≤ l.m ∧ l.m ≤ F.mr
theorem sigL_mk (ns : List Int) (g : List Str → List Str) : ∀ (ls : List Lt) (m : Int), 0 ≤ m → (∀ l ∈ ls, 0 ≤ l.m ∧ l.m ≤ m) → ∀ l ∈ (sigL ns g ls m).1, 0 ≤ l.m ∧ l.m ≤ (sigL ns g ls m).2
  | [], m, _, _, l, hl => by cases hl
  | x :: r, m, m0, h, l, hl => by
    have hx := h x List.mem_cons_self
    unfold sigL at hl ⊢
    split at hl <;> rename_i c
    · rw [if_pos c]
      have k := sigL_mr ns g r m
      rcases List.mem_cons.mp hl with rfl | hl
      · exact ⟨hx.1, Int.le_trans hx.2 k.1⟩
      · exact sigL_mk ns g r m m0 (fun y hy => h y (List.mem_cons_of_mem _ hy)) l hl
    · rw [if_neg c]
      have k := sigL_mr ns g r (m + 1)
      rcases List.mem_cons.mp hl with rfl | hl
      · exact ⟨by show 0 ≤ m + 1; omega, k.1⟩
      · exact sigL_mk ns g r (m + 1) (by omega) (fun y hy => by have := h y (List.mem_cons_of_mem _ hy); exact ⟨this.1, by omega⟩) l hl
theorem nums_of {xs ys : List Lt} (e : xs.map (fun l => (l.n, l.b)) = ys.map (fun l => (l.n, l.b))) : xs.map (·.n) = ys.map (·.n) := by
  have e1 := congrArg (List.map Prod.fst) e
  rw [List.map_map, List.map_map] at e1
  exact e1
theorem asc_sig {k : Nat} {F : Fo} {ns : List Int} {g : List Str → List Str} (gd : Gd k F) (h : Asc2 F) : Asc2 (fSig F ns g) :=
  ⟨by show ((sigL ns g F.ls F.mr).1.map (·.n)).Pairwise _; rw [nums_of (sigL_it ns g F.ls F.mr)]; exact h.up, sigL_mk ns g F.ls F.mr gd.mr.1 h.mb⟩
theorem asc_does {k : Nat} {F : Fo} (gd : Gd k F) (h : Asc2 F) : ∀ d : Dd, Asc2 (does d F)
  | .app b ss => by
    refine ⟨?_, fun l hl => ?_⟩
    · show ((F.ls ++ [(⟨F.nx, b, ss, F.mr + 1⟩ : Lt)]).map (·.n)).Pairwise _
      rw [List.map_append]
      refine List.pairwise_append.mpr ⟨h.up, by simp, fun a ha b' hb => ?_⟩
      obtain ⟨l, hl, rfl⟩ := List.mem_map.mp ha
      have h1 : b' = F.nx := by simpa using hb
      rw [h1]
      exact (gd.it l hl).2.1
    · have m0 := gd.mr.1
      rcases List.mem_append.mp (show l ∈ F.ls ++ _ from hl) with z | z
      · have := h.mb l z
        exact ⟨this.1, by show l.m ≤ F.mr + 1; omega⟩
      · rw [List.mem_singleton.mp z]
        exact ⟨by show 0 ≤ F.mr + 1; omega, Int.le_refl _⟩
  | .add ns z => asc_sig gd h
  | .take ns z => asc_sig gd h
  | .set ns zs => asc_sig gd h
  | .rem ns => by
    have s := remL_sub ns F.ls F.mr
    have m := remL_mr ns F.ls F.mr
    exact ⟨List.Pairwise.sublist (s.map _) h.up, fun l hl => by have := h.mb l (s.subset hl); exact ⟨this.1, Int.le_trans this.2 m.1⟩⟩
  | .trim m => ⟨h.up, h.mb⟩
theorem asc_new (a : Int) : Asc2 (fNew a) := ⟨List.Pairwise.nil, fun l hl => by cases hl⟩
def w4 : List Str := ["a", "b", "done", "seen"]
def W4 (ss : List Str) : Prop := ∀ x ∈ ss, x ∈ w4
def W4D : Dd → Prop
  | .app _ ss => W4 ss
  | .add _ z => z ∈ w4
  | .take _ _ => True
  | .set _ zs => W4 zs
  | .rem _ => True
  | .trim _ => True
theorem sigL_P {Pr : List Str → Prop} (ns : List Int) {g : List Str → List Str} (hg : ∀ ss, Pr ss → Pr (g ss)) : ∀ (ls : List Lt) (m : Int), (∀ l ∈ ls, Pr l.s) → ∀ l ∈ (sigL ns g ls m).1, Pr l.s
  | [], m, _, l, hl => by cases hl
  | x :: r, m, h, l, hl => by
    unfold sigL at hl
    split at hl
    · rcases List.mem_cons.mp hl with rfl | hl
      · exact h _ List.mem_cons_self
      · exact sigL_P ns hg r m (fun y hy => h y (List.mem_cons_of_mem _ hy)) l hl
    · rcases List.mem_cons.mp hl with rfl | hl
      · show Pr (newS ns g x)
        unfold newS
        split
        · exact hg _ (h _ List.mem_cons_self)
        · exact h _ List.mem_cons_self
      · exact sigL_P ns hg r (m + 1) (fun y hy => h y (List.mem_cons_of_mem _ hy)) l hl
theorem w4_wG {ss : List Str} {z : Str} (h : W4 ss) (hz : z ∈ w4) : W4 (wG ss z) := by
  unfold wG
  split
  · exact h
  · intro x hx
    rcases List.mem_cons.mp ((insS_perm z ss).subset hx) with rfl | hx
    · exact hz
    · exact h x hx
theorem w4_does {F : Fo} (h : ∀ l ∈ F.ls, W4 l.s) : ∀ {d : Dd}, W4D d → ∀ l ∈ (does d F).ls, W4 l.s
  | .app b ss, hd, l, hl => (List.mem_append.mp (show l ∈ F.ls ++ _ from hl)).elim (h l) fun z => by rw [List.mem_singleton.mp z]; exact hd
  | .add ns z, hd, l, hl => sigL_P ns (fun ss hs => w4_wG hs hd) F.ls F.mr h l hl
  | .take ns z, hd, l, hl => sigL_P ns (fun ss hs x hx => hs x (List.mem_filter.mp hx).1) F.ls F.mr h l hl
  | .set ns zs, hd, l, hl => sigL_P ns (fun ss hs => hd) F.ls F.mr h l hl
  | .rem ns, hd, l, hl => h l (remL_mem ns F.ls F.mr l hl)
  | .trim m, hd, l, hl => h l hl
/-- good and ascending -/
structure GA (k : Nat) (F : Fo) : Prop where
  g : Gd k F
  a : Asc2 F
  z : ∀ l ∈ F.ls, W4 l.s
theorem GA.mono {k m : Nat} {F : Fo} (h : GA k F) (e : k ≤ m) : GA m F := ⟨h.g.mono e, h.a, h.z⟩
theorem ga_does {k : Nat} {F : Fo} {d : Dd} (hk : k ≤ 1000) (h : GA k F) (o : OkD d) (z : W4D d) : GA (k + 1) (does d F) := ⟨gd_does hk h.g o, asc_does h.g h.a d, w4_does h.z z⟩
theorem ga_doesL : ∀ {ds : List Dd} {k : Nat} {F : Fo}, k + ds.length ≤ 1000 → GA k F → (∀ d ∈ ds, OkD d ∧ W4D d) → GA (k + ds.length) (doesL ds F)
  | [], k, F, _, h, _ => h
  | d :: r, k, F, hk, h, o => by
    rw [List.length_cons] at hk
    have o1 := o d List.mem_cons_self
    have := ga_doesL (ds := r) (k := k + 1) (by omega) (ga_does (by omega) h o1.1 o1.2) fun x hx => o x (List.mem_cons_of_mem _ hx)
    rw [List.length_cons]
    have e : k + (r.length + 1) = k + 1 + r.length := by omega
    rw [e]; exact this
theorem ga_new {a : Int} (h : 1 ≤ a) : GA 0 (fNew a) := ⟨gd_new h, asc_new a, fun l hl => by cases hl⟩
end K1


set_option Elab.async false
set_option linter.all false
set_option maxRecDepth 100000
set_option maxHeartbeats 4000000
/-! draws of k38, k40 and their kind: _law_cell_at, _law_mixed, _law_source, _law_next, _law_one -/
namespace K1
open PySem PySem.Spec PyProof.Rows L2 RZ StX
abbrev sCat : Stmt := st__law_cell_at
abbrev sMix : Stmt := st__law_mixed
abbrev sSrc : Stmt := st__law_source
abbrev sNx : Stmt := st__law_next
abbrev sOne : Stmt := st__law_one
abbrev nCat : List Str := ["_law_script", "_law_k"]
abbrev nMix : List Str := ["_law_cell", "_law_k", "_law_low"]
abbrev pMix : List Str := ["_law_cell", "_law_k"]
abbrev nSrc : List Str := ["_law_script", "_law_k", "_law_cell"]
abbrev nNx : List Str := ["_law_source_here", "_law_many", "_law_found"]
abbrev pNx : List Str := ["_law_source_here", "_law_many"]
abbrev nOne : List Str := ["_law_source_here", "_law_things"]
theorem scCat : FnScope nCat nCat (defScope sCat) := ⟨rfl, rfl, rfl, by decide +kernel, rfl, by decide +kernel, by decide +kernel⟩
theorem scMix : FnScope nMix pMix (defScope sMix) := ⟨rfl, rfl, rfl, by decide +kernel, rfl, by decide +kernel, by decide +kernel⟩
theorem scSrc : FnScope nSrc nCat (defScope sSrc) := ⟨rfl, rfl, rfl, by decide +kernel, rfl, by decide +kernel, by decide +kernel⟩
theorem scNx : FnScope nNx pNx (defScope sNx) := ⟨rfl, rfl, rfl, by decide +kernel, rfl, by decide +kernel, by decide +kernel⟩
theorem scOne : FnScope nOne nOne (defScope sOne) := ⟨rfl, rfl, rfl, by decide +kernel, rfl, by decide +kernel, by decide +kernel⟩
def spCat (K : PySem.W.Frag) : Sp := fun vs H Q _ => ∃ (a : Addr) (ns : List Int) (k : Int), vs = [.ref a, .int k] ∧ SqL K H a (ns.map V.int) ∧ ns.length ≤ 63 ∧ 0 ≤ k ∧ k < 1000 ∧ ∀ c : Int, Q (.int c) H
def spMix : Sp := fun vs H Q _ => ∃ c k : Int, vs = [.int c, .int k] ∧ ∀ n : Int, 0 ≤ n → n < 2147483563 → Q (.int n) H
def spSrc (K : PySem.W.Frag) : Sp := fun vs H Q _ => ∃ (a : Addr) (ns : List Int) (k : Int), vs = [.ref a, .int k] ∧ SqL K H a (ns.map V.int) ∧ ns.length ≤ 63 ∧ 0 ≤ k ∧ k < 1000 ∧
  ∀ (p : Addr) (H' : Hp), H p = none → Same H H' → WellAt H' p → Q (.ref p) H'
def spNx : Sp := fun vs H Q _ => ∃ (p : Addr) (b : Int), vs = [.ref p, .int b] ∧ WellAt H p ∧ 0 < b ∧ b < 1073741824 ∧
  ∀ (d : Int) (H' : Hp), 0 ≤ d → d < b → Ext p H H' → WellAt H' p → Q (.int d) H'
/-- one of a tuple -/
def spOne : Sp := fun vs H Q _ => ∃ (p a : Addr) (xs : List V), vs = [.ref p, .ref a] ∧ WellAt H p ∧ H a = some (.tup xs) ∧ 0 < xs.length ∧ xs.length < 1073741824 ∧
  ∀ (i : Nat) (x : V) (H' : Hp), xs[i]? = some x → Ext p H H' → WellAt H' p → Q x H'
theorem wt_ne {H : Hp} {p a : Addr} {xs : List V} (w : WellAt H p) (h : H a = some (.tup xs)) : a ≠ p := fun z => by
  obtain ⟨c, m, t, e⟩ := w
  rw [z, e] at h; cases h
section
variable {P : Program} {w : World} {K : PySem.W.Frag} {mg : Str → Option Value} {base : Heap}
theorem ok_cat {f : Addr} {fd : FuncData} (T : Bi mg) (F : Fun K "_law_cell_at" "_law_cell_at" sCat f fd) : FnOk P w K mg base CX0 1 f fd nCat (spCat K) := by
  refine F.ok scCat (fun vs H Q E h => ?_) (fun cdv A outer s H vs Q E hr h => ?_)
  · obtain ⟨a, ns, k, rfl, _⟩ := h
    rfl
  · obtain ⟨a, ns, k, rfl, hS, hl, k0, k1, q⟩ := h
    refine ⟨_, (pss_one (ps_ret (pe_ifExp (pt_cmpR op_lt (pv 1) (pe_callB (call_lenK (K := K) rfl) (by rfl) T.len PySem.boot_len (pa_cons (pv 0) pa_nil)) (nomark _)) (pe_ix (ix_listK (K := K) rfl) (pv 0) (pv 1) (fun _ _ => rfl)) pe_int))), ?_⟩
    refine ⟨_, rfl, _, rfl, a, _, rfl, .inl hS, _, _, rfl, rfl, _, rfl, ite2 (fun c => ?_) (fun c => q 0)⟩
    have c' : k < ns.length := by simpa using c
    have hi : k.toNat < ns.length := by omega
    exact ⟨_, rfl, _, rfl, a, _, k, .int ns[k.toNat], rfl, rfl, hS, at_of (j := k.toNat) (by omega) (by simp [hi]), q _⟩
theorem ok_mix {f : Addr} {fd : FuncData} (T : Bi mg) (F : Fun K "_law_mixed" "_law_mixed" sMix f fd) : FnOk P w K mg base CX0 1 f fd pMix spMix := by
  have nd := scMix.nd
  refine F.ok scMix (fun vs H Q E h => ?_) (fun cdv A outer s H vs Q E hr h => ?_)
  · obtain ⟨c, k, rfl, _⟩ := h
    rfl
  · obtain ⟨c, k, rfl, q⟩ := h
    refine ⟨_, (pss_cons (ps_set (i := 2) nd rfl (Or.inl rfl) (pe_op op_add (pe_op op_mod (pe_callTy call_int1 (by rfl) T.int PyProof.Rows.boot_int (pa_cons (pv 0) pa_nil)) pe_int) (pe_op op_mul (pe_op op_fdivW (pv 0) pe_int) pe_int)))
 (pss_cons (ps_set (i := 2) nd rfl (Or.inl rfl) (pe_op op_mod (pe_callTy call_int1 (by rfl) T.int PyProof.Rows.boot_int (pa_cons (pe_op op_mul (pe_op op_add (pe_op op_add (pv 2) (pe_op op_mul pe_int (pv 1))) pe_int) pe_int) pa_nil)) pe_int))
 (pss_cons (ps_set (i := 2) nd rfl (Or.inl rfl) (pe_op op_mod (pe_callTy call_int1 (by rfl) T.int PyProof.Rows.boot_int (pa_cons (pe_op op_mul (pv 2) (pe_op op_add (pe_op op_add (pe_op op_fdiv (pv 2) pe_int) pe_int) (pv 1))) pa_nil)) pe_int))
 (pss_one (ps_ret (pe_op op_mod (pe_callTy call_int1 (by rfl) T.int PyProof.Rows.boot_int (pa_cons (pe_op op_mul (pv 2) (pe_op op_add (pe_op op_fdiv (pv 2) pe_int) pe_int)) pa_nil)) pe_int)))))), ?_⟩
    refine ⟨_, rfl, .inl ⟨_, rfl, _, _, rfl, rfl, (by show (0 : Int) < _; decide), _, rfl, _, _, rfl, rfl, ⟨by decide, by decide⟩, _, _, rfl, rfl, .inr ⟨by decide, by decide⟩, _, _, rfl, rfl, ?_⟩⟩
    refine ⟨_, rfl, _, rfl, _, _, rfl, rfl, .inl ⟨by decide, by decide⟩, _, _, rfl, rfl, _, _, rfl, rfl, _, _, rfl, rfl, .inr ⟨by decide, by decide⟩, .inl ⟨_, rfl, _, _, rfl, rfl, (by show (0 : Int) < _; decide), ?_⟩⟩
    dsimp only
    generalize hg : (c % 2147483629 + c / 2147483629 * 30011 + 69621 * k + 1) * 48271 % 2147483629 = g
    have g0 : 0 ≤ g ∧ g < 2147483629 := by rw [← hg]; exact ⟨Int.emod_nonneg _ (by decide), Int.emod_lt_of_pos _ (by decide)⟩
    refine ⟨_, rfl, _, rfl, _, _, rfl, rfl, ⟨by decide, by decide⟩, _, _, rfl, rfl, _, rfl, _, _, rfl, rfl, _, _, rfl, rfl, .inl ⟨by omega, by omega⟩, .inl ⟨_, rfl, _, _, rfl, rfl, (by show (0 : Int) < _; decide), ?_⟩⟩
    dsimp only
    generalize he : g * (g / 907 + 16831 + k) % 2147483587 = e
    have e0 : 0 ≤ e ∧ e < 2147483587 := by rw [← he]; exact ⟨Int.emod_nonneg _ (by decide), Int.emod_lt_of_pos _ (by decide)⟩
    refine ⟨_, rfl, _, rfl, _, _, rfl, rfl, ⟨by decide, by decide⟩, _, _, rfl, rfl, _, _, rfl, rfl, .inl ⟨by omega, by omega⟩, .inl ⟨_, rfl, _, _, rfl, rfl, (by show (0 : Int) < _; decide), ?_⟩⟩
    exact q _ (Int.emod_nonneg _ (by decide)) (Int.emod_lt_of_pos _ (by decide))
theorem ok_src {f : Addr} {fd : FuncData} (T : Bi mg) (D_cell_at : Def P w K mg base CX0 1 "_law_cell_at" nCat (spCat K)) (D_mixed : Def P w K mg base CX0 1 "_law_mixed" pMix spMix) (F : Fun K "_law_source" "_law_source" sSrc f fd) : FnOk P w K mg base CX0 2 f fd nCat (spSrc K) := by
  have nd := scSrc.nd
  refine F.ok scSrc (fun vs H Q E h => ?_) (fun cdv A outer s H vs Q E hr h => ?_)
  · obtain ⟨a, ns, k, rfl, _⟩ := h
    rfl
  · obtain ⟨a, ns, k, rfl, hS, hl, k0, k1, q⟩ := h
    refine ⟨_, (pss_cons (ps_if (pt_cmpR op_lt (pv 1) (pe_callB (call_lenK (K := K) rfl) (by rfl) T.len PySem.boot_len (pa_cons (pv 0) pa_nil)) (nomark _))
  (pss_one (ps_ret (pe_lst (pa_cons (pe_ix (ix_listK (K := K) rfl) (pv 0) (pv 1) (fun _ _ => rfl)) (pa_cons (pe_ix (ix_listK (K := K) rfl) (pv 0) (pv 1) (fun _ _ => rfl)) (pa_cons pe_int pa_nil))))))
  pss_nil)
 (pss_cons (ps_set (i := 2) nd rfl (Or.inl rfl) (pe_def D_mixed (hr.mono (by decide)) rfl pass0 (pa_cons (pe_def D_cell_at (hr.mono (by decide)) rfl pass0 (pa_cons (pv 0) (pa_cons pe_int pa_nil))) (pa_cons (pe_op op_add pe_int (pv 1)) pa_nil))))
 (pss_one (ps_ret (pe_lst (pa_cons (pv 2) (pa_cons (pv 2) (pa_cons pe_int pa_nil)))))))), ?_⟩
    refine ⟨_, rfl, _, rfl, a, _, rfl, .inl hS, _, _, rfl, rfl, _, rfl, ite2 (fun c => ?_) (fun c => ?_)⟩
    · have c' : k < ns.length := by simpa using c
      have hi : k.toNat < ns.length := by omega
      have hg : atI (ns.map V.int) k = some (.int ns[k.toNat]) := at_of (j := k.toNat) (by omega) (by simp [hi])
      refine ⟨_, rfl, _, rfl, a, _, k, _, rfl, rfl, hS, hg, _, rfl, _, rfl, a, _, k, _, rfl, rfl, hS, hg, (by show 3 ≤ sizeLine; decide), fun p np => ?_⟩
      exact q p _ np (same_new np) ⟨_, _, _, upd_same⟩
    · refine ⟨_, rfl, a, ns, 0, rfl, hS, hl, by decide, by decide, fun c1 => ⟨_, rfl, _, _, rfl, rfl, c1, _, rfl, fun n n0 n1 => ?_⟩⟩
      refine ⟨_, rfl, _, rfl, (by show 3 ≤ sizeLine; decide), fun p np => ?_⟩
      exact q p _ np (same_new np) ⟨_, _, _, upd_same⟩
theorem ok_nx {f : Addr} {fd : FuncData} (T : Bi mg) (D_mixed : Def P w K mg base CX0 1 "_law_mixed" pMix spMix) (F : Fun K "_law_next" "_law_next" sNx f fd) : FnOk P w K mg base CX0 2 f fd pNx spNx := by
  have nd := scNx.nd
  refine F.ok scNx (fun vs H Q E h => ?_) (fun cdv A outer s H vs Q E hr h => ?_)
  · obtain ⟨p, b, rfl, _⟩ := h
    rfl
  · obtain ⟨p, b, rfl, ⟨c, m, t, hp⟩, hb0, hb1, q'⟩ := h
    have q : ∀ (d c m t : Int), 0 ≤ d → d < b → Q (.int d) (upd H p (.lst [.int c, .int m, .int t])) := fun d c m t h1 h2 => q' d _ h1 h2 (Ext.refl H).self ⟨c, m, t, upd_same⟩
    refine ⟨_, (pss_cons (ps_if (pt_cmpR op_ge (pe_ix (ix_listK (K := K) rfl) (pv 0) pe_int (fun _ _ => rfl)) (pe_op op_pow pe_int pe_int) (nomark _))
  (pss_cons (ps_set (i := 2) nd rfl (Or.inl rfl) (pe_op op_mod (pe_callTy call_int1 (by rfl) T.int PyProof.Rows.boot_int (pa_cons (pe_ix (ix_listK (K := K) rfl) (pv 0) pe_int (fun _ _ => rfl)) pa_nil)) (pv 1)))
 (pss_cons (ps_asg (pe_op op_fdiv (pe_ix (ix_listK (K := K) rfl) (pv 0) pe_int (fun _ _ => rfl)) (pv 1)) (pg_sub (pv 0) pe_int set_list))
 (pss_one (ps_ret (pv 2)))))
  pss_nil)
 (pss_cons (ps_asg (pe_op op_add (pe_ix (ix_listK (K := K) rfl) (pv 0) pe_int (fun _ _ => rfl)) pe_int) (pg_sub (pv 0) pe_int set_list))
 (pss_one (ps_ret (pe_op op_mod (pe_callTy call_int1 (by rfl) T.int PyProof.Rows.boot_int (pa_cons (pe_def D_mixed (hr.mono (by decide)) rfl pass0 (pa_cons (pe_ix (ix_listK (K := K) rfl) (pv 0) pe_int (fun _ _ => rfl)) (pa_cons (pe_ix (ix_listK (K := K) rfl) (pv 0) pe_int (fun _ _ => rfl)) pa_nil))) pa_nil)) (pv 1)))))), ?_⟩
    have r0 : ∀ x y z : Int, SqL K (upd H p (.lst [.int x, .int y, .int z])) p [.int x, .int y, .int z] := fun x y z => .inl (.inl upd_same)
    have hS : SqL K H p [.int c, .int m, .int t] := .inl (.inl hp)
    have rg : ∀ z : Int, 0 ≤ z % b ∧ z % b < b := fun z => ⟨Int.emod_nonneg _ (by omega), Int.emod_lt_of_pos _ hb0⟩
    refine ⟨.ref p, rfl, p, _, 0, .int c, rfl, rfl, hS, atI_nat (j := 0) rfl, _, _, rfl, rfl, ⟨by decide, by decide, by decide⟩, _, _, rfl, rfl, _, rfl, ?_⟩
    refine ite2 (fun _ => ?_) (fun _ => ?_)
    · refine ⟨.ref p, rfl, p, _, 0, .int c, rfl, rfl, hS, atI_nat (j := 0) rfl, .inl ⟨c, rfl, _, rfl, c, b, rfl, rfl, hb0, ?_⟩⟩
      refine ⟨.ref p, rfl, p, _, 0, .int c, rfl, rfl, hS, atI_nat (j := 0) rfl, _, rfl, c, b, rfl, rfl, ⟨hb0, hb1⟩, ?_⟩
      refine ⟨.ref p, rfl, p, _, 0, 0, rfl, rfl, hp, rfl, ?_⟩
      exact ⟨_, rfl, q (c % b) (c / b) m t (rg c).1 (rg c).2⟩
    · refine ⟨.ref p, rfl, p, _, 2, .int t, rfl, rfl, hS, atI_nat (j := 2) rfl, _, _, rfl, rfl, ?_⟩
      refine ⟨.ref p, rfl, p, _, 2, 2, rfl, rfl, hp, rfl, ?_⟩
      refine ⟨.ref p, rfl, p, _, 1, .int m, rfl, rfl, r0 c m (t + 1), atI_nat (j := 1) rfl, ?_⟩
      refine ⟨.ref p, rfl, p, _, 2, .int (t + 1), rfl, rfl, r0 c m (t + 1), atI_nat (j := 2) rfl, m, t + 1, rfl, fun n n0 n1 => ?_⟩
      exact .inl ⟨n, rfl, _, rfl, _, _, rfl, rfl, hb0, q _ c m (t + 1) (rg _).1 (rg _).2⟩
theorem ok_one {f : Addr} {fd : FuncData} (T : Bi mg) (D_next : Def P w K mg base CX0 2 "_law_next" pNx spNx) (F : Fun K "_law_one" "_law_one" sOne f fd) : FnOk P w K mg base CX0 3 f fd nOne spOne := by
  refine F.ok scOne (fun vs H Q E h => ?_) (fun cdv A outer s H vs Q E hr h => ?_)
  · obtain ⟨p, a, xs, rfl, _⟩ := h
    rfl
  · obtain ⟨p, a, xs, rfl, hw, ha, h0, h1, q⟩ := h
    refine ⟨_, (pss_one (ps_ret (pe_ix (ix_tupK (K := K) rfl) (pv 1) (pe_def D_next (hr.mono (by decide)) rfl pass0 (pa_cons (pv 0) (pa_cons (pe_callB (call_lenK (K := K) rfl) (by rfl) T.len PySem.boot_len (pa_cons (pv 1) pa_nil)) pa_nil))) (fun _ _ => rfl)))), ?_⟩
    refine ⟨_, rfl, _, rfl, _, rfl, a, xs, rfl, .inr (st ha), ?_⟩
    refine ⟨p, xs.length, rfl, hw, by omega, by omega, fun d H' d0 d1 hx hw' => ?_⟩
    have hi : d.toNat < xs.length := by omega
    have hg : xs[d.toNat]? = some xs[d.toNat] := List.getElem?_eq_getElem hi
    exact ⟨a, xs, d, _, rfl, rfl, st (hx _ _ (wt_ne hw ha) ha), at_of (j := d.toNat) (by omega) hg, q _ _ _ hg hx hw'⟩
end
end K1


set_option Elab.async false
set_option linter.all false
set_option maxRecDepth 100000
set_option maxHeartbeats 2000000
namespace K1
open PySem PySem.Spec PyProof.Rows L2 RZ StX
theorem DdsAt.ext {H H' : Hp} (s : LamX.ExtN H H') : ∀ {xs : List V} {ds : List Dd}, DdsAt H xs ds → DdsAt H' xs ds
  | _, _, .nil => .nil
  | _, _, .cons h r => .cons (h.ext s) (r.ext s)
def CanL : List Dd → Fo → Prop
  | [], _ => True
  | d :: r, F => CanD F d ∧ CanL r (does d F)
theorem canL_take {ds : List Dd} {i : Nat} {d : Dd} {F : Fo} (h : ds[i]? = some d) (c : CanL (ds.drop i) F) : CanD F d ∧ CanL (ds.drop (i + 1)) (does d F) := by rw [drop_cons h] at c; exact c
theorem doesL_take {ds : List Dd} {i : Nat} {d : Dd} (F : Fo) (h : ds[i]? = some d) : doesL (ds.drop i) F = doesL (ds.drop (i + 1)) (does d F) := by rw [drop_cons h]; rfl
def spPlayed (C PA PT PS : Addr) : Sp := fun vs H Q _ => ∃ (p h : Addr) (F : Fo) (xs : List V) (ds : List Dd) (n : Nat), vs = [.ref p, .ref h] ∧ FoAt C H p F ∧ Wf n F ∧ n + ds.length ≤ 1000 ∧ H h = some (.lst xs) ∧ DdsAt H xs ds ∧ CanL ds F ∧ LamX.Tabs (T3 PA PT PS) H ∧
  ∀ q H', LamX.ExtN H H' → LamX.Tabs (T3 PA PT PS) H' → FoAt C H' q (doesL ds F) → Q (.ref q) H'
section
variable {P : Program} {w : World} {K : PySem.W.Frag} {mg : Str → Option Value} {base : Heap} {C PA PT PS : Addr}
theorem ok_played {f : Addr} {fd : FuncData} (T : Bk mg) (t : ClT K mg C) (iC : C8.InsC K C) (D_can : Def P w K mg base CX0 5 "can_be_done" nCan (spCan C)) (D_done : Def P w K mg base CX0 9 "done" pDone (spDone C PA PT PS)) (F : Fun K "played" "played" sPlayed f fd) : FnOk P w K mg base CX0 10 f fd pPlayed (spPlayed C PA PT PS) := by
  have nd := scPlayed.nd
  refine F.ok scPlayed (fun vs H Q E h => ?_) (fun cdv A outer s H vs Q E hr h => ?_)
  · obtain ⟨p, hh, F, xs, ds, n, rfl, _⟩ := h
    rfl
  · obtain ⟨p, hh, F, xs, ds, n, rfl, hF, hw, hn, hh1, hds, hcl, hT, q⟩ := h
    refine ⟨_, pss_cons (ps_if (pt_not (pt_val (pe_callB (C8.call_isC iC) (by rfl) T.isinstance PyProof.Rows.boot_isinstance (pa_cons (pv 0) (pa_cons (pe_glob (v := .ref C) rfl t.gC rfl) pa_nil)))))
  pss_any
  pss_nil)
 (pss_cons (ps_if (pt_not (pt_val (pe_callB (call_isiTK (K := K) rfl) (by rfl) T.isinstance PyProof.Rows.boot_isinstance (pa_cons (pv 1) (pa_cons (pe_tup (pa_cons (pe_bltn (v := .ty "list") rfl T.list PyProof.Rows.boot_list rfl) (pa_cons (pe_bltn (v := .ty "tuple") rfl T.tuple PyProof.Rows.boot_tuple rfl) pa_nil))) pa_nil)))))
  pss_any
  pss_nil)
 (C8.pss_cut (ps_for PassesOwn.never rfl (pi_enumSK (K := K) rfl (by rfl) T.enumerate (pa_cons (pv 1) pa_nil)) (pg_tup rfl (pgs_cons (pg_name (i := 2) nd rfl (Or.inl rfl)) (pgs_cons (pg_name (i := 3) nd rfl (Or.inl rfl)) pgs_nil)))
  (pss_cons (ps_if (pt_not (pt_val (pe_def D_can (hr.mono (by decide)) rfl pass0 (pa_cons (pv 0) (pa_cons (pv 3) pa_nil)))))
  pss_any
  pss_nil)
 (pss_one (ps_set (i := 0) nd rfl (Or.inl rfl) (pe_def D_done (hr.mono (by decide)) rfl pass0 (pa_cons (pv 0) (pa_cons (pv 3) pa_nil)))))))
 (pss_one (ps_ret (pv 0))))), ?_⟩
    obtain ⟨dx, tl, tg, hp, h1, h2⟩ := id hF
    refine ⟨_, rfl, p, dx, _, rfl, hp, _, rfl, itbF rfl ?_⟩
    refine ⟨_, rfl, (by show 2 ≤ sizeLine; decide), fun tp ntp => ?_⟩
    have s1 := same_new (o := .tup [.ty "list", .ty "tuple"]) ntp
    refine ⟨.ref hh, tp, [.ty "list", .ty "tuple"], .type "list", [.type "list", .type "tuple"], true, rfl, upd_same, .cons (.ty _) (.cons (.ty _) .nil), .base (.lst (s1 _ _ hh1)), kit_seq (.list []), _, rfl, itbF rfl ?_⟩
    refine ⟨fun σ G => ∃ q' v2 v3, σ = [some (.ref q'), some (.ref hh), v2, v3] ∧ LamX.ExtN H G ∧ LamX.Tabs (T3 PA PT PS) G ∧ FoAt C G q' (doesL ds F), ?_, ?_⟩
    · refine ⟨_, rfl, hh, xs, rfl, for_enumS (K := K) (H0 := fun b => if b = hh then H b else none) (a := hh) (xs := xs) (.inl (sq (by rw [if_pos rfl]; exact hh1))) (fun i σ G => ∃ q' v2 v3 F', σ = [some (.ref q'), some (.ref hh), v2, v3] ∧ LamX.ExtN H G ∧ LamX.Tabs (T3 PA PT PS) G ∧ FoAt C G q' F' ∧ Wf (n + i) F' ∧ CanL (ds.drop i) F' ∧ doesL ds F = doesL (ds.drop i) F') ?_ ?_ ?_ ?_⟩
      · exact ⟨p, none, none, F, rfl, LamX.ExtN.of s1, hT.ext s1, hF.same s1, hw, hcl, rfl⟩
      · rintro i σ G ⟨q', v2, v3, F', rfl, eG, _⟩ b o hb
        by_cases c : b = hh
        · subst c
          have hb : (if b = b then H b else none) = some o := hb
          rw [if_pos rfl, hh1] at hb
          cases hb
          exact eG _ _ hh1 fun _ z => by cases z
        · have hb : (if b = hh then H b else none) = some o := hb
          rw [if_neg c] at hb
          cases hb
      · rintro i y σ G Tt hy ⟨q', v2, v3, F', rfl, eG, tG, hF', hw', hcF, er⟩ nT
        obtain ⟨a, d, rfl, he, hd⟩ := hds.get hy
        have hi := lt_of_get he
        obtain ⟨hcd, hcn⟩ := canL_take he hcF
        have sT := same_new (H := G) nT (o := .tup [.int (i : Nat), .ref a])
        refine ⟨Tt, [.int (i : Nat), .ref a], rfl, st upd_same, rfl, .int (i : Nat), [.ref a], rfl, .ref a, [], rfl, rfl, ?_⟩
        have hd1 := (hd.ext eG).same sT
        refine ⟨_, rfl, _, rfl, q', a, F', d, rfl, hF'.same sT, hcd, hd1, fun H4 s4 => ⟨_, rfl, itbF rfl ?_⟩⟩
        refine ⟨_, rfl, _, rfl, q', a, F', d, rfl, (hF'.same sT).same s4, hw'.mono (by omega), hd1.same s4, hcd, (tG.ext sT).ext s4, fun q2 H5 e5 t5 hF5 => ?_⟩
        exact ⟨q2, _, _, does d F', rfl, ((eG.trans (LamX.ExtN.of sT)).trans (LamX.ExtN.of s4)).trans e5, t5, hF5, wf_does hd1.ok hw', hcn, by rw [er, doesL_take F' he]⟩
      · rintro σ G ⟨q', v2, v3, F', rfl, eG, tG, hF', hw', hcF, er⟩
        rw [hds.len, List.drop_length] at er
        exact ⟨q', v2, v3, rfl, eG, tG, by rw [er]; exact hF'⟩
    · rintro σ G ⟨q', v2, v3, rfl, eG, tG, hF'⟩
      exact ⟨_, rfl, q q' G eG tG hF'⟩
end
end K1


set_option Elab.async false
set_option linter.all false
set_option maxRecDepth 100000
set_option maxHeartbeats 2000000
namespace K1
open PySem PySem.Spec PyProof.Rows L2 RZ StX
/-! ### what is neither a list nor a table stays -/
def TK (H H' : Hp) : Prop := ∀ b o, H b = some o → (∀ xs, o ≠ .lst xs) → (∀ ps, o ≠ .tbl ps) → H' b = some o
theorem TK.of {H H' : Hp} (s : Same H H') : TK H H' := fun b o h _ _ => s b o h
theorem TK.lam {H H' : Hp} (s : LamX.ExtN H H') : TK H H' := fun b o h _ t => s b o h t
theorem TK.ext {H H' : Hp} {p : Addr} (w : WellAt H p) (s : Ext p H H') : TK H H' := fun b o h n _ => s b o (fun z => by
  obtain ⟨c, m, t, e⟩ := w
  rw [z, e] at h
  exact n _ (Option.some.inj h).symm) h
theorem TK.trans {H H1 H2 : Hp} (a : TK H H1) (b : TK H1 H2) : TK H H2 := fun c o h n t => b c o (a c o h n t) n t
theorem TK.tup {H H' : Hp} (s : TK H H') {a : Addr} {xs : List V} (h : H a = some (.tup xs)) : H' a = some (.tup xs) := s _ _ h (fun _ z => by cases z) fun _ z => by cases z
mutual
theorem Dv.tk {H H' : Hp} (s : TK H H') : ∀ {v : V} {d : PyData}, Dv H v d → tO d = true → Dv H' v d
  | _, _, .non, _ => .non
  | _, _, .bl b, _ => .bl b
  | _, _, .int i, _ => .int i
  | _, _, .str x, _ => .str x
  | _, _, .lst h r, n => by cases n
  | _, _, .tup h r, n => .tup (s.tup h) (DvA.tk s r n)
  | _, _, .dic h, n => by cases n
theorem DvA.tk {H H' : Hp} (s : TK H H') : ∀ {vs : List V} {ds : List PyData}, DvA H vs ds → tOA ds = true → DvA H' vs ds
  | _, _, .nil, _ => .nil
  | _, _, .cons h r, n => .cons (Dv.tk s h ((Bool.and_eq_true _ _).mp n).1) (DvA.tk s r ((Bool.and_eq_true _ _).mp n).2)
end
theorem FoAt.tk {C p : Addr} {H H' : Hp} {F : Fo} (h : FoAt C H p F) (s : TK H H') : FoAt C H' p F := let ⟨dx, tl, tg, a, b, c⟩ := h; ⟨dx, tl, tg, s _ _ a (fun _ z => by cases z) (fun _ z => by cases z), b.tk s (tO_lts _), c.tk s (tO_gos _)⟩
end K1


set_option Elab.async false
set_option linter.all false
set_option maxRecDepth 100000
set_option maxHeartbeats 2000000
namespace K1
open PySem PySem.Spec PyProof.Rows L2 RZ StX
theorem Dv.lsts {H : Hp} {a : Addr} {ds : List PyData} (h : Dv H (.ref a) (.list ds)) : ∃ xs, H a = some (.lst xs) ∧ DvA H xs ds := by
  cases h with
  | lst e r => exact ⟨_, e, r⟩
theorem dva_ints {H : Hp} : ∀ ns : List Int, DvA H (ns.map V.int) (ns.map PyData.int)
  | [] => .nil
  | n :: r => .cons (.int n) (dva_ints r)
end K1


set_option Elab.async false
set_option linter.all false
set_option maxRecDepth 100000
set_option maxHeartbeats 2000000
/-! Letters as a tuple of tuples; a comprehension that picks of what is there. -/
namespace K1
open PySem PySem.Spec PyProof.Rows L2 RZ StX
inductive A2 {β : Type} (R : V → β → Prop) : List V → List β → Prop where
  | nil : A2 R [] []
  | cons {x : V} {b : β} {xs : List V} {bs : List β} : R x b → A2 R xs bs → A2 R (x :: xs) (b :: bs)
section
variable {β : Type} {R R' : V → β → Prop}
theorem A2.len : ∀ {xs : List V} {bs : List β}, A2 R xs bs → xs.length = bs.length
  | _, _, .nil => rfl
  | _, _, .cons _ r => congrArg (· + 1) r.len
theorem A2.get : ∀ {xs : List V} {bs : List β}, A2 R xs bs → ∀ {i : Nat} {x : V}, xs[i]? = some x → ∃ b, bs[i]? = some b ∧ R x b
  | _, _, .cons h _, 0, _, e => ⟨_, rfl, by rw [← Option.some.inj e]; exact h⟩
  | _, _, .cons _ r, i + 1, _, e => r.get (i := i) e
  | _, _, .nil, i, _, e => by simp at e
theorem A2.imp (h : ∀ x b, R x b → R' x b) : ∀ {xs : List V} {bs : List β}, A2 R xs bs → A2 R' xs bs
  | _, _, .nil => .nil
  | _, _, .cons a r => .cons (h _ _ a) (r.imp h)
theorem A2.app : ∀ {xs : List V} {bs : List β} {ys : List V} {cs : List β}, A2 R xs bs → A2 R ys cs → A2 R (xs ++ ys) (bs ++ cs)
  | _, _, _, _, .nil, k => k
  | _, _, _, _, .cons a r, k => .cons a (r.app k)
theorem A2.vals {β : Type} {f : β → V} : ∀ {xs : List V} {ns : List β}, A2 (fun x n => x = f n) xs ns → xs = ns.map f
  | _, _, .nil => rfl
  | _, _, .cons rfl r => by rw [r.vals]; rfl
end
theorem take_fm {α β : Type} {ls : List α} {i : Nat} {a : α} (φ : α → Option β) (h : ls[i]? = some a) : (ls.take (i + 1)).filterMap φ = (ls.take i).filterMap φ ++ (φ a).toList := by
  rw [List.take_add_one, h, List.filterMap_append]
  cases e : φ a <;> simp [e]
theorem lc_sel {J : It} {xs : List V} {Gd : Hp → Prop} (wk : Walk J xs.length Gd (YAt xs)) {α β : Type} {R : V → α → Prop} {out : V → β → Prop} {ls : List α} (hA : A2 R xs ls) {H1 : Hp} {D : Addr} (hD : H1 D = none) (hG : ∀ G, Same H1 G → Gd G) (hl : xs.length ≤ 1000) (φ : α → Option β)
    {g : TG} {tt : TT} {te : TE} {vs : List Nat} {σ : L2.St} {Qd : Hp → Prop}
    (hs : ∀ x a G (T : V → Hp → Prop) (S : Hp → Prop), R x a → a ∈ ls → Same H1 G → (∀ y b G', Same G G' → φ a = some b → out y b → T y G') → (∀ G', Same G G' → φ a = none → S G') → g x (wipe σ vs) G fun σ2 H2 => wipe σ2 vs = wipe σ vs ∧ tt σ2 H2 fun b H3 => if b = true then te σ2 H3 T else S H3)
    (hd : ∀ G acc, Same H1 G → G D = some (.lst acc) → A2 out acc (ls.filterMap φ) → Qd G) :
    ∃ W : Nat → Nat → Hp → Prop, (∃ m, W 0 m (upd H1 D (.lst []))) ∧ ∀ i m H, W i m H →
      (J.stop i H ∧ Qd H) ∨ (J.go i H ∧ ∃ Nx : Hp → Prop, (∀ H', Nx H' → ∃ m', m' < m ∧ W (i + 1) m' H') ∧ ∀ x H', J.yld i H x H' → g x (wipe σ vs) H' fun σ2 H2 => wipe σ2 vs = wipe σ vs ∧ tt σ2 H2 fun b H3 =>
        if b = true then te σ2 H3 fun y H4 => ∃ acc, H4 D = some (.lst acc) ∧ acc.length < sizeLine ∧ Nx (upd H4 D (.lst (acc ++ [y]))) else Nx H3) := by
  refine lc_it wk (fun i G => Same H1 G ∧ ∃ acc, G D = some (.lst acc) ∧ acc.length ≤ i ∧ A2 out acc ((ls.take i).filterMap φ)) ⟨same_new hD, [], upd_same, Nat.zero_le _, .nil⟩ (fun i G _ h => hG _ h.1) ?_ ?_
  · rintro i x G G' hi ⟨s1, acc, hacc, hla, ha⟩ ⟨rfl, hx⟩
    obtain ⟨a, hai, hR⟩ := hA.get hx
    refine hs x a G' _ _ hR (List.mem_of_getElem? hai) s1 (fun y b G2 s2 e o => ?_) fun G2 s2 e => ?_
    · refine ⟨acc, s2 _ _ hacc, lt1 _ (by omega), (s1.trans s2).mut hD, _, upd_same, by rw [List.length_append]; show acc.length + 1 ≤ _; omega, ?_⟩
      rw [take_fm φ hai, e]
      exact ha.app (.cons o .nil)
    · refine ⟨s1.trans s2, acc, s2 _ _ hacc, by omega, ?_⟩
      rw [take_fm φ hai, e]
      show A2 out acc (_ ++ [])
      rw [List.append_nil]; exact ha
  · rintro G ⟨s1, acc, hacc, _, ha⟩
    refine hd G acc s1 hacc ?_
    rw [hA.len, List.take_length] at ha
    exact ha
end K1


set_option Elab.async false
set_option linter.all false
set_option maxRecDepth 100000
set_option maxHeartbeats 4000000
/-! Draws of k33 to k38: signs, deeds, a folder with a history. -/
namespace K1
open PySem PySem.Spec PyProof.Rows L2 RZ StX
def ENL (p : Addr) (H H' : Hp) : Prop := ∀ b o, b ≠ p → (∀ ps, o ≠ .tbl ps) → H b = some o → H' b = some o
theorem ENL.refl (p : Addr) (H : Hp) : ENL p H H := fun _ _ _ _ h => h
theorem ENL.same {p : Addr} {H H1 H2 : Hp} (a : ENL p H H1) (s : Same H1 H2) : ENL p H H2 := fun b o n t h => s b o (a b o n t h)
theorem ENL.ext {p : Addr} {H H1 H2 : Hp} (a : ENL p H H1) (s : LamX.ExtN H1 H2) : ENL p H H2 := fun b o n t h => s b o (a b o n t h) t
theorem ENL.of {p : Addr} {H H' : Hp} (e : Ext p H H') : ENL p H H' := fun b o n _ h => e b o n h
theorem ENL.trans {p : Addr} {H H1 H2 : Hp} (a : ENL p H H1) (b : ENL p H1 H2) : ENL p H H2 := fun c o n t h => b c o n t (a c o n t h)
theorem ENL.mutf {p D : Addr} {H H1 : Hp} {o : HO} (a : ENL p H H1) (n : H D = none) : ENL p H (upd H1 D o) := fun b u nb t h => by
  rw [upd_ne (fun z => by rw [z, n] at h; cases h)]; exact a b u nb t h
theorem tabs_mutL {T : List (Addr × Str)} {D : Addr} {H : Hp} {xs : List V} {o : HO} (hD : H D = some (.lst xs)) (hT : LamX.Tabs T H) : LamX.Tabs T (upd H D o) := fun x hx => by
  obtain ⟨ps, h1, h2, h3⟩ := hT x hx
  refine ⟨ps, by rw [upd_ne (fun z => by rw [z, hD] at h1; cases h1)]; exact h1, h2, fun pos cv hc => ?_⟩
  obtain ⟨c', g1, g2⟩ := h3 pos cv hc
  exact ⟨c', g1, by rw [upd_ne (fun z => by rw [z, hD] at g2; cases g2)]; exact g2⟩
theorem tabs_w {T : List (Addr × Str)} {p : Addr} {H H' : Hp} (w : WellAt H p) (e : Ext p H H') (h : LamX.Tabs T H) : LamX.Tabs T H' := fun x hx => by
  obtain ⟨ps, h1, h2, h3⟩ := h x hx
  obtain ⟨c, m, t, hp⟩ := w
  refine ⟨ps, e _ _ (fun z => by rw [z, hp] at h1; cases h1) h1, h2, fun pos cv hc => ?_⟩
  obtain ⟨c', g1, g2⟩ := h3 pos cv hc
  exact ⟨c', g1, e _ _ (fun z => by rw [z, hp] at g2; cases g2) g2⟩
theorem WellAt.sm {H H' : Hp} {p : Addr} (w : WellAt H p) (s : Same H H') : WellAt H' p := let ⟨c, m, t, e⟩ := w; ⟨c, m, t, s _ _ e⟩
theorem WellAt.en {H H' : Hp} {p : Addr} (w : WellAt H p) (e : LamX.ExtN H H') : WellAt H' p := let ⟨c, m, t, h⟩ := w; ⟨c, m, t, e _ _ h fun _ z => by cases z⟩
theorem foat_w {C p x : Addr} {H H' : Hp} {F : Fo} (h : FoAt C H x F) (w : WellAt H p) (e : Ext p H H') : FoAt C H' x F := h.tk (TK.ext w e)
theorem par_go' {i j : Nat} {ta : TA} {tb : TS} {D : Ends} {σ : L2.St} {H : Hp} (h : ta σ H fun vs H1 => ∃ v w, vs = [v, w] ∧ tb D ((σ.set i (some v)).set j (some w)) H1) : tSeq (tPar i j ta) tb D σ H := h
theorem name_go' {i : Nat} {v : V} {σ : L2.St} {H : Hp} {Q : L2.St → Hp → Prop} (h : Q (σ.set i (some v)) H) : gName i v σ H Q := h
theorem sl_tupAK {X : Cx} {K : PySem.W.Frag} (h : X.K = K) : SlR X (rSlA K) := by subst h; exact sl_tupA
theorem slA_go {K : PySem.W.Frag} {a : Addr} {xs : List V} {lo hi : Option Int} {H : Hp} {Q : VK} (h : H a = some (.tup xs)) (q : ∀ b H', Same H H' → H' b = some (.tup (cutV xs lo hi)) → Q (.ref b) H') : rSlA K (.ref a) lo hi H Q := by
  refine ⟨a, xs, rfl, st h, fun z => ?_, fun _ D nD => q D _ (same_new nD) upd_same⟩
  refine q a H (fun _ _ h => h) ?_
  unfold cutV
  rw [z.1, z.2, List.drop_zero, Nat.sub_zero, List.take_length]; exact h
theorem cut_take (xs : List V) (n : Nat) : cutV xs none (some (n : Int)) = xs.take n := by
  unfold cutV
  have c1 : HT.sIx xs.length 0 none = 0 := rfl
  rw [c1, HT.sIx_nat, List.drop_zero, Nat.sub_zero]
  by_cases h : n ≤ xs.length
  · rw [Nat.min_eq_left h]
  · rw [Nat.min_eq_right (by omega), List.take_length, List.take_of_length_le (by omega)]
theorem cut_drop (xs : List V) (n : Nat) : cutV xs (some (n : Int)) none = xs.drop n := by
  unfold cutV
  have c2 : HT.sIx xs.length xs.length none = xs.length := rfl
  rw [HT.sIx_nat, c2]
  by_cases h : n ≤ xs.length
  · rw [Nat.min_eq_left h, List.take_of_length_le (by rw [List.length_drop]; omega)]
  · rw [Nat.min_eq_right (by omega), List.drop_length, List.drop_of_length_le (by omega)]; simp
theorem seq_ixI {K : PySem.W.Frag} {H : Hp} {wa : Addr} {xs : List V} {j : Int} {i : Nat} {x : V} {Q : VK} (h : SeqH H wa xs) (e : j = i) (hx : xs[i]? = some x) (q : Q x H) : rIx K (.ref wa) (.int j) H Q := by
  subst e
  rcases h with h | h
  · exact .inl ⟨wa, xs, (i : Int), x, rfl, rfl, sq h, atI_nat hx, q⟩
  · exact .inr (.inl ⟨wa, xs, (i : Int), x, rfl, rfl, st h, atI_nat hx, q⟩)
/-- all tuples stay -/
def TU (H G : Hp) : Prop := ∀ b xs, H b = some (.tup xs) → G b = some (.tup xs)
theorem TU.trans {H G J : Hp} (a : TU H G) (b : TU G J) : TU H J := fun x xs h => b x xs (a x xs h)
theorem TU.same {H G : Hp} (s : Same H G) : TU H G := fun x xs h => s _ _ h
theorem TU.ext {H G : Hp} (s : LamX.ExtN H G) : TU H G := fun x xs h => s _ _ h fun _ z => by cases z
theorem TU.w {p : Addr} {H G : Hp} (w : WellAt H p) (e : Ext p H G) : TU H G := fun x xs h => e _ _ (wt_ne w h) h
theorem TU.mut {H : Hp} {D : Addr} {o u : HO} (hD : H D = some o) (ho : ∀ xs, o ≠ .tup xs) : TU H (upd H D u) := fun x xs h => by
  rw [upd_ne (fun z => by rw [z, hD] at h; exact ho xs (Option.some.inj h))]; exact h
mutual
theorem Dv.tu {H H' : Hp} (s : TU H H') : ∀ {v : V} {d : PyData}, Dv H v d → tO d = true → Dv H' v d
  | _, _, .non, _ => .non
  | _, _, .bl b, _ => .bl b
  | _, _, .int i, _ => .int i
  | _, _, .str x, _ => .str x
  | _, _, .lst h r, n => by cases n
  | _, _, .tup h r, n => .tup (s _ _ h) (DvA.tu s r n)
  | _, _, .dic h, n => by cases n
theorem DvA.tu {H H' : Hp} (s : TU H H') : ∀ {vs : List V} {ds : List PyData}, DvA H vs ds → tOA ds = true → DvA H' vs ds
  | _, _, .nil, _ => .nil
  | _, _, .cons h r, n => .cons (Dv.tu s h ((Bool.and_eq_true _ _).mp n).1) (DvA.tu s r ((Bool.and_eq_true _ _).mp n).2)
end
/-- a deed of tuples alone, that is no trim -/
def DdW (H : Hp) (a : Addr) (d : Dd) : Prop := (∀ G, TU H G → DdAt G a d) ∧ (∀ F, CanD F d) ∧ W4D d
theorem DdW.tu {H G : Hp} {a : Addr} {d : Dd} (h : DdW H a d) (q : TU H G) : DdW G a d := ⟨fun J r => h.1 J (q.trans r), h.2⟩
theorem DdW.at_ {H : Hp} {a : Addr} {d : Dd} (h : DdW H a d) : DdAt H a d := h.1 H fun _ _ h => h
theorem w4_ok : (∀ z ∈ w4, okS z = true) ∧ Asc w4 := ⟨by decide +kernel, by unfold Asc ltS w4; decide +kernel⟩
theorem w4_sub {ss : List Str} (h : List.Sublist ss w4) : OkSs ss := ⟨by have := h.length_le; have : w4.length = 4 := rfl; omega, fun x hx => w4_ok.1 x (h.subset hx), List.Pairwise.sublist h w4_ok.2⟩
def spOneS : Sp := fun vs H Q _ => ∃ (p a : Addr) (xs : List V), vs = [.ref p, .ref a] ∧ WellAt H p ∧ SeqH H a xs ∧ a ≠ p ∧ 0 < xs.length ∧ xs.length < 1073741824 ∧
  ∀ (i : Nat) (x : V) (H' : Hp), xs[i]? = some x → Ext p H H' → WellAt H' p → Q x H'
abbrev sSg : Stmt := st__law_signs
abbrev sDe : Stmt := st__law_deed
abbrev sLf : Stmt := st__law_folder
abbrev nSg : List Str := ["_law_source_here", "_law_many", "_law_sign"]
abbrev pSg : List Str := ["_law_source_here", "_law_many"]
theorem scSg : FnScope nSg pSg (defScope sSg) := ⟨rfl, rfl, rfl, by decide +kernel, rfl, by decide +kernel, by decide +kernel⟩
abbrev nDe : List Str := ["_law_source_here", "_law_top", "_law_way", "_law_number", "_law_sign"]
abbrev pDe : List Str := ["_law_source_here", "_law_top"]
theorem scDe : FnScope nDe pDe (defScope sDe) := ⟨rfl, rfl, rfl, by decide +kernel, rfl, by decide +kernel, by decide +kernel⟩
abbrev nLf : List Str := ["_law_source_here", "_law_many", "_law_folder_here", "_law_turn"]
abbrev pLf : List Str := ["_law_source_here", "_law_many"]
theorem scLf : FnScope nLf pLf (defScope sLf) := ⟨rfl, rfl, rfl, by decide +kernel, rfl, by decide +kernel, by decide +kernel⟩
def spSg4 : Sp := fun vs H Q _ => ∃ p : Addr, vs = [.ref p, .int 4] ∧ WellAt H p ∧ ∀ a ss H', Ext p H H' → WellAt H' p → H' a = some (.tup (ss.map V.str)) → OkSs ss → W4 ss → Q (.ref a) H'
def spDe : Sp := fun vs H Q _ => ∃ (p : Addr) (top : Int), vs = [.ref p, .int top] ∧ WellAt H p ∧ 0 ≤ top ∧ top < 1000 ∧ ∀ a d H', Ext p H H' → WellAt H' p → DdW H' a d → Q (.ref a) H'
def spLf (C PA PT PS : Addr) : Sp := fun vs H Q _ => ∃ (p : Addr) (m : Int), vs = [.ref p, .int m] ∧ WellAt H p ∧ 0 ≤ m ∧ m ≤ 10 ∧ LamX.Tabs (T3 PA PT PS) H ∧ ∀ x F H', ENL p H H' → WellAt H' p → LamX.Tabs (T3 PA PT PS) H' → FoAt C H' x F → GA 20 F → Q (.ref x) H'
section
variable {P : Program} {w : World} {K : PySem.W.Frag} {mg : Str → Option Value} {base : Heap} {C PA PT PS : Addr}
theorem ok_oneS {f : Addr} {fd : FuncData} (T : Bi mg) (D_next : Def P w K mg base CX0 2 "_law_next" pNx spNx) (F : Fun K "_law_one" "_law_one" sOne f fd) : FnOk P w K mg base CX0 3 f fd nOne spOneS := by
  have nd := scOne.nd
  refine F.ok scOne (fun vs H Q E h => ?_) (fun cdv A outer s H vs Q E hr h => ?_)
  · obtain ⟨p, a, xs, rfl, _⟩ := h
    rfl
  · obtain ⟨p, a, xs, rfl, hw, ha, nap, h0, h1, q⟩ := h
    refine ⟨_, (pss_one (ps_ret (pe_ix (ix_seqK (K := K) rfl) (pv 1) (pe_def D_next (hr.mono (by decide)) rfl pass0 (pa_cons (pv 0) (pa_cons (pe_callB (call_lenK (K := K) rfl) (by rfl) T.len PySem.boot_len (pa_cons (pv 1) pa_nil)) pa_nil))) (fun _ _ => rfl)))), ?_⟩
    refine ⟨_, rfl, _, rfl, _, rfl, a, xs, rfl, ha.len, p, _, rfl, hw, by omega, by omega, fun d H' d0 d1 e w' => ?_⟩
    have hd : d.toNat < xs.length := by omega
    exact seq_ixI (i := d.toNat) (xs := xs) (ha.imp (fun z => e _ _ nap z) (fun z => e _ _ nap z)) (by omega) (List.getElem?_eq_getElem hd) (q d.toNat _ H' (List.getElem?_eq_getElem hd) e w')
set_option maxHeartbeats 8000000 in
theorem ok_sg {f : Addr} {fd : FuncData} (T : Bk mg) (D_next : Def P w K mg base CX0 2 "_law_next" pNx spNx) (F : Fun K "_law_signs" "_law_signs" sSg f fd) : FnOk P w K mg base CX0 3 f fd pSg spSg4 := by
  have nd := scSg.nd
  refine F.ok scSg (fun vs H Q E h => ?_) (fun cdv A outer s H vs Q E hr h => ?_)
  · obtain ⟨p, rfl, _⟩ := h
    rfl
  · obtain ⟨p, rfl, hw, q⟩ := h
    refine ⟨_, (pss_one (ps_ret (pe_callTy (call_tuple_ofK (K := K) rfl) (by rfl) T.tuple PyProof.Rows.boot_tuple (pa_cons (pe_lc (own := [("_law_sign", 2)]) (g := gName 2) rfl nd (pi_tupK (K := K) rfl (pe_slice (sl_tupAK (K := K) rfl) (pe_tup (pa_cons pe_str (pa_cons pe_str (pa_cons pe_str (pa_cons pe_str pa_nil))))) po_none (po_some (pv 1)))) (blkOk_by (own := [("_law_sign", 2)]) (N := nSg) (sc := defScope sSg) (by decide +kernel)) (fun _ _ _ _ _ => pg_name (i := 2) nd rfl (Or.inl rfl)) (fun _ _ _ _ _ => pts_one (pt_cmpR op_eq (pe_def D_next (hr.mono (by decide)) rfl pass0 (pa_cons (pv 0) (pa_cons pe_int pa_nil))) pe_int (nomark _))) (fun _ _ _ _ _ => (pv 2))) pa_nil)))), ?_⟩
    refine ⟨by show 4 ≤ sizeLine; decide, fun T4 nT => ?_⟩
    have s1 := same_new nT (o := .tup [.str "a", .str "b", .str "done", .str "seen"])
    have hT : (upd H T4 (.tup [.str "a", .str "b", .str "done", .str "seen"])) T4 = some (.tup (w4.map V.str)) := upd_same
    have w1 := hw.sm s1
    generalize upd H T4 (.tup [.str "a", .str "b", .str "done", .str "seen"]) = G at s1 hT w1
    refine ⟨_, rfl, 4, rfl, ?_⟩
    refine slA_go hT fun b G1 s2 hb => ?_
    have eb : cutV (w4.map V.str) none (some 4) = w4.map V.str := cut_take _ 4
    rw [eb] at hb
    have w2 := w1.sm s2
    have Tp : b ≠ p := wt_ne w2 hb
    refine ⟨b, rfl, ⟨_, st hb⟩, fun D hD => ?_⟩
    have Dp : D ≠ p := w2.ne hD
    refine lc_it (walk_tup (K := K) (a := b) (xs := w4.map V.str)) (fun i G2 => Ext p G1 G2 ∧ WellAt G2 p ∧ ∃ ss : List Str, G2 D = some (.lst (ss.map V.str)) ∧ List.Sublist ss (w4.take i)) ⟨same_ext (same_new hD), w2.new hD, [], upd_same, by simp⟩ (fun i G2 _ h => st (h.1 _ _ Tp hb)) ?_ ?_
    · rintro i x G2 G3 hi ⟨e2, w3, ss, hD2, hs⟩ ⟨rfl, hx⟩
      rw [List.getElem?_map] at hx
      cases hz : w4[i]? with
      | none => rw [hz] at hx; cases hx
      | some z =>
        rw [hz] at hx
        obtain rfl := (Option.some.inj hx).symm
        have tk : w4.take (i + 1) = w4.take i ++ [z] := by rw [List.take_add_one, hz]; rfl
        refine ⟨rfl, _, rfl, p, 2, rfl, w3, by decide, by decide, fun d G4 d0 d2 e4 w4' => ⟨rfl, _, rfl, ?_⟩⟩
        have hD4 := e4 _ _ Dp hD2
        have ls : ss.length ≤ 4 := by
          have h1 := hs.length_le
          rw [List.length_take] at h1
          exact Nat.le_trans h1 (Nat.le_trans (Nat.min_le_right _ _) (by decide))
        by_cases c : d = 0
        · refine itbT (by simp [c]) ⟨_, rfl, _, hD4, lt2 _ (by rw [List.length_map]; omega), (e2.trans e4).mut hD, w4'.upd Dp, ss ++ [z], by rw [upd_same, List.map_append]; rfl, ?_⟩
          rw [tk]
          exact hs.append (List.Sublist.refl [z])
        · refine itbF (by simp [c]) ⟨e2.trans e4, w4', ss, hD4, ?_⟩
          rw [tk]
          exact hs.trans (List.sublist_append_left _ _)
    · rintro G2 ⟨e2, w3, ss, hD2, hs⟩
      rw [List.length_map, List.take_length] at hs
      refine ⟨D, _, rfl, .inl ⟨sq hD2, fun l nl => ?_⟩⟩
      have s3 := same_new (o := .tup (ss.map V.str)) nl
      exact q l ss _ (((same_ext (s1.trans s2)).trans e2).trans (same_ext s3)) (w3.new nl) upd_same (w4_sub hs) (fun x hx => hs.subset hx)
theorem nums_tu {H G : Hp} {a : Addr} {ns : List Int} (h : H a = some (.tup (ns.map V.int))) (q : TU H G) (o : ∀ n ∈ ns, 1 ≤ n) (l : ns.length ≤ 1000) : NumsAt G a ns := ⟨.inr (q _ _ h), o, l⟩
set_option maxHeartbeats 8000000 in
theorem ok_de {f : Addr} {fd : FuncData} (T : Bk mg) (D_next : Def P w K mg base CX0 2 "_law_next" pNx spNx) (D_one : Def P w K mg base CX0 3 "_law_one" nOne spOneS) (D_signs : Def P w K mg base CX0 3 "_law_signs" pSg spSg4) (F : Fun K "_law_deed" "_law_deed" sDe f fd) : FnOk P w K mg base CX0 4 f fd pDe spDe := by
  have nd := scDe.nd
  refine F.ok scDe (fun vs H Q E h => ?_) (fun cdv A outer s H vs Q E hr h => ?_)
  · obtain ⟨p, top, rfl, _⟩ := h
    rfl
  · obtain ⟨p, top, rfl, hw, t1, t2, q⟩ := h
    refine ⟨_, (C8.pss_cut (ps_par (i := 2) (j := 3) (by rfl) nd rfl rfl (by decide) rfl rfl (pa_cons (pe_def D_next (hr.mono (by decide)) rfl pass0 (pa_cons (pv 0) (pa_cons pe_int pa_nil))) (pa_cons (pe_op op_add pe_int (pe_def D_next (hr.mono (by decide)) rfl pass0 (pa_cons (pv 0) (pa_cons (pe_op op_add (pv 1) pe_int) pa_nil)))) pa_nil)) (by rfl))
 (C8.pss_cut (ps_set (i := 4) nd rfl (Or.inl rfl) (pe_def D_one (hr.mono (by decide)) rfl pass0 (pa_cons (pv 0) (pa_cons (pe_tup (pa_cons pe_str (pa_cons pe_str (pa_cons pe_str (pa_cons pe_str pa_nil))))) pa_nil))))
 (pss_cons (ps_if (pt_cmpR op_eq (pv 2) pe_int (nomark _))
  (pss_one (ps_ret (pe_tup (pa_cons pe_str (pa_cons (pe_def D_next (hr.mono (by decide)) rfl pass0 (pa_cons (pv 0) (pa_cons pe_int pa_nil))) (pa_cons (pe_def D_signs (hr.mono (by decide)) rfl pass0 (pa_cons (pv 0) (pa_cons pe_int pa_nil))) pa_nil))))))
  pss_nil)
 (pss_cons (ps_if (pt_cmpR op_eq (pv 2) pe_int (nomark _))
  (pss_one (ps_ret (pe_tup (pa_cons pe_str (pa_cons (pe_tup (pa_cons (pv 3) pa_nil)) pa_nil)))))
  pss_nil)
 (pss_cons (ps_if (pt_cmpR op_eq (pv 2) pe_int (nomark _))
  (pss_one (ps_ret (pe_tup (pa_cons pe_str (pa_cons (pe_tup (pa_cons (pv 3) pa_nil)) (pa_cons (pe_def D_signs (hr.mono (by decide)) rfl pass0 (pa_cons (pv 0) (pa_cons pe_int pa_nil))) pa_nil))))))
  pss_nil)
 (pss_one (ps_ret (pe_tup (pa_cons (pe_ifExp (pt_cmpR op_lt (pv 2) pe_int (nomark _)) pe_str pe_str) (pa_cons (pe_tup (pa_cons (pv 3) (pa_cons (pe_op op_add pe_int (pe_def D_next (hr.mono (by decide)) rfl pass0 (pa_cons (pv 0) (pa_cons (pe_op op_add (pv 1) pe_int) pa_nil)))) pa_nil))) (pa_cons (pv 4) pa_nil))))))))))), ?_⟩
    refine ⟨fun σ G => ∃ d n : Int, σ = [some (.ref p), some (.int top), some (.int d), some (.int n), none] ∧ 1 ≤ n ∧ Ext p H G ∧ WellAt G p, ?_, ?_⟩
    · refine ⟨_, rfl, p, 6, rfl, hw, by decide, by decide, fun d H1 d0 d9 e1 w1 => ?_⟩
      refine ⟨_, rfl, _, rfl, _, _, rfl, rfl, p, top + 1, rfl, w1, by omega, by omega, fun m H2 m0 m1 e2 w2 => ⟨_, _, rfl, rfl, ?_⟩⟩
      exact ⟨_, _, rfl, d, 1 + m, rfl, by omega, e1.trans e2, w2⟩
    rintro σ G ⟨d, n, rfl, n1, eG, wG'⟩
    refine ⟨fun σ G2 => ∃ z : Str, σ = [some (.ref p), some (.int top), some (.int d), some (.int n), some (.str z)] ∧ z ∈ w4 ∧ Ext p H G2 ∧ WellAt G2 p, ?_, ?_⟩
    · refine ⟨_, rfl, by show 4 ≤ sizeLine; decide, fun T4 nT => ?_⟩
      have s1 := same_new nT (o := .tup [.str "a", .str "b", .str "done", .str "seen"])
      have hT : (upd G T4 (.tup [.str "a", .str "b", .str "done", .str "seen"])) T4 = some (.tup (w4.map V.str)) := upd_same
      have w1 := wG'.sm s1
      generalize upd G T4 (.tup [.str "a", .str "b", .str "done", .str "seen"]) = G1 at s1 hT w1
      refine ⟨p, T4, _, rfl, w1, .inr hT, wt_ne w1 hT, by decide, by decide, fun i x G2 hx e2 w2 => ?_⟩
      rw [List.getElem?_map] at hx
      cases hz : w4[i]? with
      | none => rw [hz] at hx; cases hx
      | some z =>
        rw [hz] at hx
        obtain rfl := (Option.some.inj hx).symm
        exact ⟨z, rfl, List.mem_of_getElem? hz, (eG.trans (same_ext s1)).trans e2, w2⟩
    rintro σ G2 ⟨z, rfl, hzw, e2, w2⟩
    have hz := w4_ok.1 z hzw
    refine ⟨_, rfl, rfl, _, rfl, ?_⟩
    by_cases c0 : d = 0
    · refine itbT (by simp [c0]) ?_
      refine ⟨_, rfl, p, 4, rfl, w2, by decide, by decide, fun b G4 b0 b4 e4 w4 => ?_⟩
      refine ⟨_, rfl, p, rfl, w4, fun sa ss G5 e5 w5 hs ok hz4 => ⟨by show 3 ≤ sizeLine; decide, fun R nR => ?_⟩⟩
      have sR := same_new nR (o := .tup [.str "append", .int b, .ref sa])
      exact q R (.app b ss) _ (((e2.trans e4).trans e5).trans (same_ext sR)) (w5.sm sR) ⟨fun J t => ⟨sa, t _ _ upd_same, t _ _ (sR _ _ hs), b0, ok⟩, fun _ => trivial, hz4⟩
    refine itbF (by simp [c0]) ⟨_, rfl, rfl, _, rfl, ?_⟩
    by_cases c1 : d = 1
    · refine itbT (by simp [c1]) ?_
      refine ⟨_, rfl, by show 1 ≤ sizeLine; decide, fun N nN => ⟨by show 2 ≤ sizeLine; decide, fun R nR => ?_⟩⟩
      have sN := same_new nN (o := .tup [.int n])
      have sR := same_new nR (o := .tup [.str "remove", .ref N])
      have hN := sR N _ upd_same
      exact q R (.rem [n]) _ ((e2.trans (same_ext sN)).trans (same_ext sR)) ((w2.sm sN).sm sR) ⟨fun J t => ⟨N, t _ _ upd_same, nums_tu (ns := [n]) hN t (fun m hm => by rw [List.mem_singleton.mp hm]; exact n1) (by show 1 ≤ 1000; decide)⟩, fun _ => trivial, trivial⟩
    refine itbF (by simp [c1]) ⟨_, rfl, rfl, _, rfl, ?_⟩
    by_cases c2 : d = 2
    · refine itbT (by simp [c2]) ?_
      refine ⟨_, rfl, by show 1 ≤ sizeLine; decide, fun N nN => ?_⟩
      have sN := same_new nN (o := .tup [.int n])
      have hN : (upd G2 N (.tup [.int n])) N = some (.tup ([n].map V.int)) := upd_same
      have w3 := w2.sm sN
      generalize upd G2 N (.tup [.int n]) = G3 at sN hN w3
      refine ⟨_, rfl, p, rfl, w3, fun sa ss G5 e5 w5 hs ok hz4 => ⟨by show 3 ≤ sizeLine; decide, fun R nR => ?_⟩⟩
      have sR := same_new nR (o := .tup [.str "set", .ref N, .ref sa])
      have hN5 := sR N _ (e5 _ _ (wt_ne w3 hN) hN)
      exact q R (.set [n] ss) _ (((e2.trans (same_ext sN)).trans e5).trans (same_ext sR)) (w5.sm sR) ⟨fun J t => ⟨N, sa, t _ _ upd_same, nums_tu (ns := [n]) hN5 t (fun m hm => by rw [List.mem_singleton.mp hm]; exact n1) (by show 1 ≤ 1000; decide), t _ _ (sR _ _ hs), ok⟩, fun _ => trivial, hz4⟩
    refine itbF (by simp [c2]) ⟨_, rfl, _, _, rfl, rfl, _, rfl, ?_⟩
    have fin : ∀ (wd : Str) (dd : List Int → Dd) (G3 : Hp), G3 = G2 → (∀ J R N ns, J R = some (.tup [.str wd, .ref N, .str z]) → NumsAt J N ns → DdAt J R (dd ns)) → (∀ ns, (∀ F, CanD F (dd ns)) ∧ W4D (dd ns)) →
        tCons (tTup (tCons (tVar 3) (tCons (tOp rAdd (tC (.int 1)) (tCall spNx [] E0 (tCons (tVar 0) (tCons (tOp rAdd (tVar 1) (tC (.int 1))) tNil)))) tNil))) (tCons (tVar 4) tNil) [some (.ref p), some (.int top), some (.int d), some (.int n), some (.str z)] G3 (fun vs H => (V.str wd :: vs).length ≤ sizeLine ∧ ∀ R, H R = none → Q (.ref R) (upd H R (.tup (V.str wd :: vs)))) := fun wd dd G3 e h1 h2 => ?_
    · refine ite2 (fun c3 => ?_) (fun c3 => ?_)
      · exact fin "add" (fun ns => .add ns z) _ rfl (fun J R N ns h1 h2 => ⟨N, h1, h2, hz⟩) (fun _ => ⟨fun _ => trivial, hzw⟩)
      · exact fin "take" (fun ns => .take ns z) _ rfl (fun J R N ns h1 h2 => ⟨N, h1, h2, hz⟩) (fun _ => ⟨fun _ => trivial, trivial⟩)
    subst e
    refine ⟨_, rfl, _, rfl, _, rfl, _, _, rfl, rfl, p, top + 1, rfl, w2, by omega, by omega, fun m G4 m0 m1 e4 w4 => ⟨_, _, rfl, rfl, by show 2 ≤ sizeLine; decide, fun N nN => ?_⟩⟩
    have sN := same_new nN (o := .tup [.int n, .int (1 + m)])
    have hN : (upd G4 N (.tup [.int n, .int (1 + m)])) N = some (.tup ([n, 1 + m].map V.int)) := upd_same
    have w5 := w4.sm sN
    generalize upd G4 N (.tup [.int n, .int (1 + m)]) = G5 at sN hN w5
    refine ⟨_, rfl, by show 3 ≤ sizeLine; decide, fun R nR => ?_⟩
    have sR := same_new nR (o := .tup [.str wd, .ref N, .str z])
    refine q R (dd [n, 1 + m]) _ (((e2.trans e4).trans (same_ext sN)).trans (same_ext sR)) (w5.sm sR) ⟨fun J t => h1 J R N _ (t _ _ upd_same) (nums_tu (sR _ _ hN) t (fun k hk => ?_) (by show 2 ≤ 1000; decide)), h2 _⟩
    rcases (show k = n ∨ k = 1 + m by simpa using hk) with rfl | rfl <;> omega
end
end K1


set_option Elab.async false
set_option linter.all false
set_option maxRecDepth 100000
set_option maxHeartbeats 4000000
namespace K1
open PySem PySem.Spec PyProof.Rows L2 RZ StX
def DdV (H : Hp) (x : V) (d : Dd) : Prop := ∃ a, x = V.ref a ∧ DdW H a d
theorem DdV.tu {H G : Hp} {x : V} {d : Dd} (h : DdV H x d) (q : TU H G) : DdV G x d := let ⟨a, e, k⟩ := h; ⟨a, e, k.tu q⟩
theorem dds_of {H : Hp} : ∀ {xs : List V} {ds : List Dd}, A2 (DdV H) xs ds → DdsAt H xs ds
  | _, _, .nil => .nil
  | _, _, .cons ⟨a, e, h⟩ r => by subst e; exact .cons h.at_ (dds_of r)
theorem dds_ok {H : Hp} : ∀ {xs : List V} {ds : List Dd}, A2 (DdV H) xs ds → ∀ d ∈ ds, OkD d ∧ W4D d
  | _, _, .nil, d, h => by cases h
  | _, _, .cons ⟨a, e, h⟩ r, d, hd => by
    rcases List.mem_cons.mp hd with rfl | hd
    · exact ⟨h.at_.ok, h.2.2⟩
    · exact dds_ok r d hd
theorem dds_can {H : Hp} : ∀ {xs : List V} {ds : List Dd}, A2 (DdV H) xs ds → ∀ F, CanL ds F
  | _, _, .nil, _ => trivial
  | _, _, .cons ⟨a, e, h⟩ r, F => ⟨h.2.1 F, dds_can r _⟩
section
variable {P : Program} {w : World} {K : PySem.W.Frag} {mg : Str → Option Value} {base : Heap} {C PA PT PS : Addr}
set_option maxHeartbeats 8000000 in
theorem ok_lf {f : Addr} {fd : FuncData} (T : Bk mg) (t : ClT K mg C) (D_new : MkD P w K mg base C) (D_next : Def P w K mg base CX0 2 "_law_next" pNx spNx) (D_signs : Def P w K mg base CX0 3 "_law_signs" pSg spSg4) (D_deed : Def P w K mg base CX0 4 "_law_deed" pDe spDe) (M_app : MDef P w K mg base CX0 6 C "appended" pApp (spApp C)) (D_played : Def P w K mg base CX0 10 "played" pPlayed (spPlayed C PA PT PS))
    (F : Fun K "_law_folder" "_law_folder" sLf f fd) : FnOk P w K mg base CX0 11 f fd pLf (spLf C PA PT PS) := by
  have nd := scLf.nd
  refine F.ok scLf (fun vs H Q E h => ?_) (fun cdv A outer s H vs Q E hr h => ?_)
  · obtain ⟨p, m, rfl, _⟩ := h
    rfl
  · obtain ⟨p, m, rfl, hw, m0, m10, hT, q⟩ := h
    refine ⟨_, (pss_cons (ps_set (i := 2) nd rfl (Or.inl rfl) (pe_new D_new t.gC (hr.mono (by decide)) rfl (pa_cons (pe_op op_add pe_int (pe_def D_next (hr.mono (by decide)) rfl pass0 (pa_cons (pv 0) (pa_cons pe_int pa_nil)))) pa_nil)))
 (pss_cons (ps_for PassesOwn.never rfl (pi_range1 rfl T.range (pa_cons (pv 1) pa_nil)) (pg_name (i := 3) nd rfl (Or.inl rfl))
  (pss_one (ps_set (i := 2) nd rfl (Or.inl rfl) (pe_mdef M_app t.cl (hr.mono (by decide)) pass0 (pv 2) (pa_cons (pe_def D_next (hr.mono (by decide)) rfl pass0 (pa_cons (pv 0) (pa_cons pe_int pa_nil))) (pa_cons (pe_def D_signs (hr.mono (by decide)) rfl pass0 (pa_cons (pv 0) (pa_cons pe_int pa_nil))) pa_nil))))))
 (pss_one (ps_ret (pe_def D_played (hr.mono (by decide)) rfl pass0 (pa_cons (pv 2) (pa_cons (pe_lc (own := [("_law_turn", 3)]) (g := gName 3) (tt := tYes) rfl nd (pi_range1 rfl T.range (pa_cons (pe_def D_next (hr.mono (by decide)) rfl pass0 (pa_cons (pv 0) (pa_cons pe_int pa_nil))) pa_nil)) (blkOk_by (own := [("_law_turn", 3)]) (N := nLf) (sc := defScope sLf) (by decide +kernel)) (fun _ _ _ _ _ => pg_name (i := 3) nd rfl (Or.inl rfl)) (fun _ _ _ _ _ => pts_nil) (fun _ _ _ _ _ => (pe_def D_deed (hr.mono (by decide)) rfl pass0 (pa_cons (pv 0) (pa_cons (pv 1) pa_nil))))) pa_nil))))))), ?_⟩
    refine ⟨_, rfl, p, 3, rfl, hw, by decide, by decide, fun a0 H1 a1 a2 e1 w1 => ⟨_, _, rfl, rfl, fun x dx nx ndx nxd => ?_⟩⟩
    refine ⟨x, dx, 1 + a0, rfl, upd_same, by omega, fun G tl tg k0 hx htl htg => ⟨rfl, ?_⟩⟩
    have sG : Same H1 G := fun b o hb => k0 b o (fun e => by rw [e, nx] at hb; cases hb) (by
      rw [upd_ne (fun e => by rw [e, nx] at hb; cases hb), upd_ne (fun e => by rw [e, ndx] at hb; cases hb)]; exact hb)
    have hF0 : FoAt C G x (fNew (1 + a0)) := ⟨dx, tl, tg, hx, .tup htl .nil, .tup htg .nil⟩
    have eG : ENL p H G := (ENL.of e1).same sG
    have tG := (tabs_w hw e1 hT).ext sG
    refine ⟨_, rfl, _, rfl, by omega, by omega, for_range (lo := 0) (n := m.toNat) (fun i σ G => ∃ (y : Addr) (v3 : Option V) (F' : Fo), σ = [some (.ref p), some (.int m), some (.ref y), v3] ∧ ENL p H G ∧ WellAt G p ∧ LamX.Tabs (T3 PA PT PS) G ∧ FoAt C G y F' ∧ GA i F') ?_ ?_ ?_⟩
    · exact ⟨x, none, _, rfl, eG, w1.sm sG, tG, hF0, ga_new (by omega)⟩
    · rintro i σ G3 hi ⟨y, v2, F', rfl, e3, w3, t3, f3, g3⟩
      obtain ⟨dy, tl', tg', hy, _⟩ := id f3
      refine ⟨_, rfl, y, dy, _, rfl, hy, fl_no (by decide +kernel), _, rfl, p, 4, rfl, w3, by decide, by decide, fun b G4 b0 b3 e4 w4 => ?_⟩
      have f4 := foat_w f3 w3 e4
      refine ⟨_, rfl, p, rfl, w4, fun sa ss G5 e5 w5 hs ok hz4 => ?_⟩
      have f5 := foat_w f4 w4 e5
      have wl := g3.g.wf.len
      refine ⟨y, sa, F', b, ss, rfl, f5, g3.g.wf.age, b0, hs, ok, by omega, fun z G6 s6 nz f6 => ?_⟩
      exact ⟨z, _, fApp F' b ss, rfl, (e3.trans ((ENL.of e4).trans (ENL.of e5))).same s6, w5.sm s6, (tabs_w w4 e5 (tabs_w w3 e4 t3)).ext s6, f6, ga_does (by omega) g3 (d := .app b ss) ⟨b0, ok⟩ hz4⟩
    · rintro σ G3 ⟨y, v2, F', rfl, e3, w3, t3, f3, g3⟩
      have hm : m.toNat ≤ 10 := by omega
      refine ⟨_, rfl, _, rfl, p, 4, rfl, w3, by decide, by decide, fun k G4 k0 k4 e4 w4 => ⟨_, rfl, by omega, by omega, fun D nD => ?_⟩⟩
      have Dp := w4.ne nD
      have f4 := foat_w f3 w3 e4
      refine lc_range (lo := 0) (n := k.toNat) (fun i G5 => ∃ (xs : List V) (ds : List Dd), Ext p G4 G5 ∧ WellAt G5 p ∧ G5 D = some (.lst xs) ∧ A2 (DdV G5) xs ds ∧ ds.length = i) ?_ ?_ ?_
      · exact ⟨[], [], same_ext (same_new nD), w4.new nD, upd_same, .nil, rfl⟩
      · rintro i G5 hi ⟨xs, ds, e5, w5, hD, hA, hl⟩
        refine ⟨rfl, tyes ⟨_, rfl, _, rfl, p, m, rfl, w5, m0, by omega, fun a d G6 e6 w6 hd => ?_⟩⟩
        have tu := TU.w w5 e6
        have hD6 := e6 _ _ Dp hD
        have lx := hA.len
        have tm : TU G6 (upd G6 D (.lst (xs ++ [.ref a]))) := TU.mut hD6 fun _ z => by cases z
        refine ⟨xs, hD6, lt2 _ (by omega), xs ++ [.ref a], ds ++ [d], (e5.trans e6).mut nD, w6.upd Dp, upd_same, (hA.imp fun _ _ h => (h.tu tu).tu tm).app (.cons ⟨a, rfl, hd.tu tm⟩ .nil), by rw [List.length_append, hl]; rfl⟩
      · rintro G5 ⟨xs, ds, e5, w5, hD, hA, hl⟩
        have e35 := e4.trans e5
        have hk : k.toNat ≤ 3 := by omega
        refine ⟨y, D, F', xs, ds, 10, rfl, foat_w f4 w4 e5, g3.g.wf.mono hm, by omega, hD, dds_of hA, dds_can hA F', tabs_w w4 e5 (tabs_w w3 e4 t3), fun z G6 e6 t6 f6 => ?_⟩
        exact q z (doesL ds F') G6 ((e3.trans (ENL.of e35)).ext e6) (w5.en e6) t6 f6 ((ga_doesL (by omega) g3 (dds_ok hA)).mono (by omega))
end
end K1


set_option Elab.async false
set_option linter.all false
set_option maxRecDepth 100000
set_option maxHeartbeats 4000000
namespace K1
open PySem PySem.Spec PyProof.Rows L2 RZ StX
abbrev sIsAsc : Stmt := st_is_ascending
abbrev nIsAsc : List Str := ["numbers", "one", "other"]
abbrev pIsAsc : List Str := ["numbers"]
theorem scIsAsc : FnScope nIsAsc pIsAsc (defScope sIsAsc) := ⟨rfl, rfl, rfl, by decide +kernel, rfl, by decide +kernel, by decide +kernel⟩
def spIsAsc : Sp := fun vs H Q _ => ∃ (a : Addr) (ns : List Int), vs = [.ref a] ∧ SeqH H a (ns.map V.int) ∧ ns.length ≤ 1000 ∧ ∀ H', Same H H' → Q (.bl (ascB ns)) H'
section
variable {P : Program} {w : World} {K : PySem.W.Frag} {mg : Str → Option Value} {base : Heap}
theorem cut1 (xs : List V) : cutV xs (some 1) none = xs.drop 1 := by
  unfold cutV
  rw [show (1 : Int) = ((1 : Nat) : Int) from rfl, HT.sIx_nat, HT.sIx_none]
  cases xs with
  | nil => rfl
  | cons x r =>
    rw [show min 1 (x :: r).length = 1 by rw [List.length_cons]; omega]
    exact List.take_of_length_le (by simp)
theorem ok_isAsc {f : Addr} {fd : FuncData} (T : Bk mg) (F : Fun K "is_ascending" "is_ascending" sIsAsc f fd) : FnOk P w K mg base CX0 1 f fd pIsAsc spIsAsc := by
  have nd := scIsAsc.nd
  refine F.ok scIsAsc (fun vs H Q E h => ?_) (fun cdv A outer s H vs Q E hr h => ?_)
  · obtain ⟨a, ns, rfl, _⟩ := h
    rfl
  · obtain ⟨a, ns, rfl, hS, hl, q⟩ := h
    refine ⟨_, (pss_one (ps_ret (pe_callB (cr_allK (K := K) rfl rfl) (by rfl) T.all PyProof.Rows.boot_all (pa_cons (pe_lc (own := [("one", 1), ("other", 2)]) (g := gTup K 2 (gCons (gName 1) (gCons (gName 2) gNil))) (tt := tYes) rfl nd (pi_zipSK (K := K) rfl (by rfl) T.zip (pa_cons (pv 0) (pa_cons (pe_slice (sl_seqK (K := K) rfl) (pv 0) (po_some pe_int) po_none) pa_nil))) (blkOk_by (own := [("one", 1), ("other", 2)]) (N := nIsAsc) (sc := defScope sIsAsc) (by decide +kernel)) (fun _ _ _ _ _ => pg_tup rfl (pgs_cons (pg_name (i := 1) nd rfl (Or.inl rfl)) (pgs_cons (pg_name (i := 2) nd rfl (Or.inl rfl)) pgs_nil))) (fun _ _ _ _ _ => pts_nil) (fun _ _ _ _ _ => (pe_cmpR op_lt (pv 1) (pv 2) (nomark _)))) pa_nil)))), ?_⟩
    have hz : (ns.zip (ns.drop 1)).length = min (ns.map V.int).length ((ns.map V.int).drop 1).length := by simp
    have hget : ∀ i < (ns.zip (ns.drop 1)).length, ∃ x y, (ns.zip (ns.drop 1))[i]? = some (x, y) ∧ (ns.map V.int)[i]? = some (.int x) ∧ ((ns.map V.int).drop 1)[i]? = some (.int y) := fun i hi => by
      have h1 : i < ns.length := by rw [List.length_zip] at hi; omega
      have h2 : i < (ns.drop 1).length := by rw [List.length_zip] at hi; omega
      refine ⟨ns[i], (ns.drop 1)[i], ?_, ?_, ?_⟩
      · rw [List.getElem?_eq_getElem hi, List.getElem_zip]
      · simp [h1]
      · rw [← List.map_drop, List.getElem?_map, List.getElem?_eq_getElem h2]; rfl
    have e0 : ascB ns = ((ns.zip (ns.drop 1)).map fun p => decide (p.1 < p.2)).all id := rfl
    have P0 : ∀ {H1 : Hp} {J : It} {Gd : Hp → Prop} {D : Addr}, Same H H1 → Walk J (min (ns.map V.int).length ((ns.map V.int).drop 1).length) Gd (YPair (fun i => (ns.map V.int)[i]?) (fun i => ((ns.map V.int).drop 1)[i]?)) → (∀ H', Same H1 H' → Gd H') → H1 D = none →
        ∀ (i : Nat) (y : V) (H2 H3 : Hp), i < min (ns.map V.int).length ((ns.map V.int).drop 1).length → (Same H1 H2 ∧ H2 D = some (.lst ((((ns.zip (ns.drop 1)).take i).map fun p => decide (p.1 < p.2)).map V.bl))) →
        YPair (fun i => (ns.map V.int)[i]?) (fun i => ((ns.map V.int).drop 1)[i]?) i H2 y H3 → ∃ (T : Addr) (u v : Int), y = .ref T ∧ H3 T = some (.tup [.int u, .int v]) ∧ H3 D = some (.lst ((((ns.zip (ns.drop 1)).take i).map fun p => decide (p.1 < p.2)).map V.bl)) ∧
          (Same H1 (upd H3 D (.lst ((((ns.zip (ns.drop 1)).take i).map fun p => decide (p.1 < p.2)).map V.bl ++ [V.bl (decide (u < v))]))) ∧ (upd H3 D (.lst ((((ns.zip (ns.drop 1)).take i).map fun p => decide (p.1 < p.2)).map V.bl ++ [V.bl (decide (u < v))]))) D =
            some (.lst ((((ns.zip (ns.drop 1)).take (i + 1)).map fun p => decide (p.1 < p.2)).map V.bl))) := by
      intro H1 J Gd D s1 wk hG hD i y H2 H3 hi ⟨s2, h2⟩ ⟨T, x', y', e1, nT, e2, e3, e4⟩
      obtain ⟨u, v, g1, g2, g3⟩ := hget i (by rw [hz]; exact hi)
      obtain rfl := (Option.some.inj (g2.symm.trans e3)).symm
      obtain rfl := (Option.some.inj (g3.symm.trans e4)).symm
      subst e1 e2
      have nTD : T ≠ D := (ne_of_none h2 nT).symm
      refine ⟨T, u, v, rfl, upd_same, by rw [upd_ne nTD.symm]; exact h2, (s2.new nT).mut hD, ?_⟩
      rw [upd_same, take_more g1]
      simp
    have len2 : ns.length ≤ 1000 := hl
    rcases hS with hS | hS
    · refine ⟨.ref a, rfl, .ref a, rfl, 1, rfl, .inl ⟨a, _, rfl, sq hS, fun b nb => ?_⟩⟩
      rw [cut1]
      have s1 := same_new (o := .lst ((ns.map V.int).drop 1)) nb
      refine ⟨a, b, _, _, rfl, zip_walkL (s1 _ _ hS) upd_same fun J Gd wk hG D hD => lc_it wk (fun i H2 => Same (upd H b (.lst ((ns.map V.int).drop 1))) H2 ∧ H2 D = some (.lst ((((ns.zip (ns.drop 1)).take i).map fun p => decide (p.1 < p.2)).map V.bl))) ⟨same_new hD, upd_same⟩ (fun i H2 _ h => hG _ h.1) ?_ ?_⟩
      · rintro i y H2 H3 hi h2 hy
        obtain ⟨T, u, v, rfl, hT, h3, fin⟩ := P0 s1 wk hG hD i y H2 H3 hi h2 hy
        refine ⟨T, _, rfl, st hT, rfl, _, _, rfl, _, _, rfl, rfl, rfl, tyes ⟨_, rfl, _, rfl, _, _, rfl, rfl, _, h3, lt2 _ ?_, fin⟩⟩
        rw [List.length_map, List.length_map, List.length_take, List.length_zip]; omega
      · rintro H2 ⟨s2, h2⟩
        rw [← hz, List.take_length] at h2
        exact ⟨D, _, rfl, sq h2, q _ (s1.trans s2)⟩
    · refine ⟨.ref a, rfl, .ref a, rfl, 1, rfl, .inr ⟨a, _, rfl, st hS, fun hw => ?_, fun _ b nb => ?_⟩⟩
      · have en : ns = [] := by
          have h1 := hw.1
          rw [show (1 : Int) = ((1 : Nat) : Int) from rfl, HT.sIx_nat, List.length_map] at h1
          exact List.eq_nil_of_length_eq_zero (by omega)
        subst en
        refine ⟨a, a, _, _, rfl, zip_walkT hS hS fun J Gd wk hG D hD => lc_it wk (fun i H2 => Same H H2 ∧ H2 D = some (.lst [])) ⟨same_new hD, upd_same⟩ (fun i H2 _ h => hG _ h.1) ?_ ?_⟩
        · rintro i y H2 H3 hi
          simp at hi
        · rintro H2 ⟨s2, h2⟩
          exact ⟨D, [], rfl, sq h2, q _ s2⟩
      · rw [cut1]
        have s1 := same_new (o := .tup ((ns.map V.int).drop 1)) nb
        refine ⟨a, b, _, _, rfl, zip_walkT (s1 _ _ hS) upd_same fun J Gd wk hG D hD => lc_it wk (fun i H2 => Same (upd H b (.tup ((ns.map V.int).drop 1))) H2 ∧ H2 D = some (.lst ((((ns.zip (ns.drop 1)).take i).map fun p => decide (p.1 < p.2)).map V.bl))) ⟨same_new hD, upd_same⟩ (fun i H2 _ h => hG _ h.1) ?_ ?_⟩
        · rintro i y H2 H3 hi h2 hy
          obtain ⟨T, u, v, rfl, hT, h3, fin⟩ := P0 s1 wk hG hD i y H2 H3 hi h2 hy
          refine ⟨T, _, rfl, st hT, rfl, _, _, rfl, _, _, rfl, rfl, rfl, tyes ⟨_, rfl, _, rfl, _, _, rfl, rfl, _, h3, lt2 _ ?_, fin⟩⟩
          rw [List.length_map, List.length_map, List.length_take, List.length_zip]; omega
        · rintro H2 ⟨s2, h2⟩
          rw [← hz, List.take_length] at h2
          exact ⟨D, _, rfl, sq h2, q _ (s1.trans s2)⟩
end
theorem ascB_cons {x y : Int} {r : List Int} : ascB (x :: y :: r) = (decide (x < y) && ascB (y :: r)) := by
  unfold ascB
  rw [List.drop_one, List.tail_cons, List.zip_cons_cons, List.map_cons, List.all_cons, List.drop_one, List.tail_cons]
  rfl
theorem ascB_of : ∀ {ns : List Int}, ns.Pairwise (· < ·) → ascB ns = true
  | [], _ => rfl
  | [_], _ => rfl
  | x :: y :: r, h => by
    rw [ascB_cons, ascB_of (List.pairwise_cons.mp h).2, Bool.and_true]
    exact decide_eq_true ((List.pairwise_cons.mp h).1 y List.mem_cons_self)
end K1


set_option Elab.async false
set_option linter.all false
set_option maxRecDepth 100000
set_option maxHeartbeats 4000000
/-! Copies as data; _are_letters, _are_made. -/
namespace K1
open PySem PySem.Spec PyProof.Rows L2 RZ StX
/-- the empty tuple that stands as a default -/
def KEmp (K : PySem.W.Frag) (a : Addr) : Prop := ∃ (o : Obj) (n : Nat), K.lookup a = some o ∧ o.cls = .type "tuple" ∧ o.data = .seq #[] n
def SqK (K : PySem.W.Frag) (H : Hp) (a : Addr) (xs : List V) : Prop := SeqH H a xs ∨ (xs = [] ∧ KEmp K a)
theorem SqK.ext {K : PySem.W.Frag} {H H' : Hp} {a : Addr} {xs : List V} (h : SqK K H a xs) (s : LamX.ExtN H H') : SqK K H' a xs := h.imp (fun h => h.imp (fun e => s _ _ e fun _ z => by cases z) (fun e => s _ _ e fun _ z => by cases z)) id
theorem kemp_st {K : PySem.W.Frag} {H : Hp} {a : Addr} (h : KEmp K a) : SqT K H a [] := let ⟨o, n, h1, h2, h3⟩ := h; .inr ⟨o, #[], n, h1, h2, h3, Nat.zero_le _, .nil⟩
theorem SqK.len {K : PySem.W.Frag} {H : Hp} {a : Addr} {xs : List V} (h : SqK K H a xs) : SqL K H a xs ∨ SqT K H a xs := by
  rcases h with h | ⟨rfl, h⟩
  · exact SeqH.len h
  · exact .inr (kemp_st h)
theorem SqK.ty {K : PySem.W.Frag} {H : Hp} {a : Addr} {xs : List V} (h : SqK K H a xs) : ∃ tn : String, TyX K H (.ref a) (.type tn) ∧ PySem.W.kitAny K (.type tn) [.type "list", .type "tuple"] = some true := by
  rcases h with (h | h) | ⟨rfl, o, n, h1, h2, h3⟩
  · exact ⟨"list", .base (.lst h), kit_seq (.list [])⟩
  · exact ⟨"tuple", .base (.tup h), kit_seq (.tuple [])⟩
  · exact ⟨"tuple", .kTuple h1 h2, kit_seq (.tuple [])⟩
theorem seqK_walk {K : PySem.W.Frag} {H : Hp} {a : Addr} {xs : List V} {R : It → Hp → Prop} (h : SqK K H a xs)
    (k : ∀ (J : It) (Gd : Hp → Prop), Walk J xs.length Gd (YAt xs) → (∀ H', Same H H' → Gd H') → R J H) : SeqR K a H R := by
  rcases h with h | ⟨rfl, h⟩
  · exact seq_walk h k
  · exact .inr ⟨⟨[], kemp_st h⟩, k _ _ walk_tup fun H' _ => kemp_st h⟩
structure CL where
  n : Int
  b : Int
  s : List Str
  w : Option (List Str)
  deriving DecidableEq
structure Cp where
  age : Int
  mr : Int
  ls : List CL
  md : List (Int × List Str)
  deriving DecidableEq
def wD : Option (List Str) → PyData
  | none => .none
  | some ss => .tuple (ss.map PyData.str)
def clD (l : CL) : PyData := .tuple [.int l.n, .int l.b, .tuple (l.s.map PyData.str), wD l.w]
def mdD (m : Int × List Str) : PyData := .tuple [.int m.1, .tuple (m.2.map PyData.str)]
structure OkCL (l : CL) : Prop where
  n : 1 ≤ l.n
  b : 0 ≤ l.b
  s : OkSs l.s
  w : ∀ ss, l.w = some ss → OkSs ss
def OkMd (m : Int × List Str) : Prop := 0 ≤ m.1 ∧ OkSs m.2
structure OkLs (ls : List CL) : Prop where
  ok : ∀ l ∈ ls, OkCL l
  up : (ls.map (·.n)).Pairwise (· < ·)
  len : ls.length ≤ 900
structure OkMs (md : List (Int × List Str)) : Prop where
  ok : ∀ m ∈ md, OkMd m
  len : md.length ≤ 900
/-- a wanted value -/
def WV (H : Hp) (v : V) : Option (List Str) → Prop
  | none => v = .non
  | some ss => ∃ a, v = .ref a ∧ H a = some (.tup (ss.map V.str))
theorem strs_of : ∀ {H : Hp} {xs : List V} {ss : List Str}, DvA H xs (ss.map PyData.str) → xs = ss.map V.str
  | _, _, [], .nil => rfl
  | _, _, s :: r, .cons (.str _) t => by rw [strs_of t]; rfl
theorem dv_ss {H : Hp} {v : V} {ss : List Str} (h : Dv H v (.tuple (ss.map PyData.str))) : ∃ a, v = .ref a ∧ H a = some (.tup (ss.map V.str)) := by
  cases h with
  | tup e r => exact ⟨_, rfl, by rw [e, strs_of r]⟩
theorem dv_w {H : Hp} {v : V} : ∀ {w : Option (List Str)}, Dv H v (wD w) → WV H v w
  | none, .non => rfl
  | some ss, h => dv_ss h
theorem wv_dv {H : Hp} {v : V} : ∀ {w : Option (List Str)}, WV H v w → Dv H v (wD w)
  | none, h => by rw [show v = .non from h]; exact .non
  | some ss, ⟨a, e, h⟩ => by subst e; exact .tup h (dv_strs ss)
theorem WV.tu {H G : Hp} {v : V} (t : TU H G) : ∀ {w : Option (List Str)}, WV H v w → WV G v w
  | none, h => h
  | some ss, ⟨a, e, h⟩ => ⟨a, e, t _ _ h⟩
theorem dv_cl {H : Hp} {v : V} {l : CL} (h : Dv H v (clD l)) : ∃ ta sa wv, v = .ref ta ∧ H ta = some (.tup [.int l.n, .int l.b, .ref sa, wv]) ∧ H sa = some (.tup (l.s.map V.str)) ∧ WV H wv l.w := by
  cases h with
  | tup e r =>
  cases r with
  | cons h1 r =>
  cases r with
  | cons h2 r =>
  cases r with
  | cons h3 r =>
  cases r with
  | cons h4 r =>
  cases r
  cases h1
  cases h2
  obtain ⟨sa, rfl, hs⟩ := dv_ss h3
  exact ⟨_, sa, _, rfl, e, hs, dv_w h4⟩
theorem cl_dv {H : Hp} {ta sa : Addr} {wv : V} {l : CL} (h : H ta = some (.tup [.int l.n, .int l.b, .ref sa, wv])) (hs : H sa = some (.tup (l.s.map V.str))) (hw : WV H wv l.w) : Dv H (.ref ta) (clD l) :=
  .tup h (.cons (.int _) (.cons (.int _) (.cons (.tup hs (dv_strs _)) (.cons (wv_dv hw) .nil))))
theorem dv_md {H : Hp} {v : V} {m : Int × List Str} (h : Dv H v (mdD m)) : ∃ ta sa, v = .ref ta ∧ H ta = some (.tup [.int m.1, .ref sa]) ∧ H sa = some (.tup (m.2.map V.str)) := by
  cases h with
  | tup e r =>
  cases r with
  | cons h1 r =>
  cases r with
  | cons h2 r =>
  cases r
  cases h1
  obtain ⟨sa, rfl, hs⟩ := dv_ss h2
  exact ⟨_, sa, rfl, e, hs⟩
theorem md_dv {H : Hp} {ta sa : Addr} {m : Int × List Str} (h : H ta = some (.tup [.int m.1, .ref sa])) (hs : H sa = some (.tup (m.2.map V.str))) : Dv H (.ref ta) (mdD m) := .tup h (.cons (.int _) (.cons (.tup hs (dv_strs _)) .nil))
/-- values that tell data one by one -/
theorem DvA.getD' {H : Hp} {α : Type} {f : α → PyData} {xs : List V} {ls : List α} (h : DvA H xs (ls.map f)) {i : Nat} {x : V} (hx : xs[i]? = some x) : ∃ l, ls[i]? = some l ∧ Dv H x (f l) := by
  obtain ⟨d, hd, hv⟩ := h.get hx
  rw [List.getElem?_map] at hd
  cases hl : ls[i]? with
  | none => rw [hl] at hd; cases hd
  | some l => rw [hl] at hd; exact ⟨l, rfl, by rw [Option.some.inj hd]; exact hv⟩
theorem a2_of {H : Hp} {α : Type} {f : α → PyData} : ∀ {xs : List V} {ls : List α}, DvA H xs (ls.map f) → A2 (fun x l => Dv H x (f l)) xs ls
  | _, [], .nil => .nil
  | _, _ :: _, .cons h r => .cons h (a2_of r)
theorem of_a2 {H : Hp} {α : Type} {f : α → PyData} : ∀ {xs : List V} {ls : List α}, A2 (fun x l => Dv H x (f l)) xs ls → DvA H xs (ls.map f)
  | _, [], .nil => .nil
  | _, _ :: _, .cons h r => .cons h (of_a2 r)
abbrev sAl : Stmt := st__are_letters
abbrev sAm : Stmt := st__are_made
abbrev nAl : List Str := ["value", "row"]
theorem scAl : FnScope nAl pV (defScope sAl) := ⟨rfl, rfl, rfl, by decide +kernel, rfl, by decide +kernel, by decide +kernel⟩
theorem scAm : FnScope nAl pV (defScope sAm) := ⟨rfl, rfl, rfl, by decide +kernel, rfl, by decide +kernel, by decide +kernel⟩
def spAl (K : PySem.W.Frag) : Sp := fun vs H Q _ => ∃ (a : Addr) (xs : List V) (ls : List CL), vs = [.ref a] ∧ SqK K H a xs ∧ DvA H xs (ls.map clD) ∧ OkLs ls ∧ ∀ H', Same H H' → Q (.bl true) H'
def spAm (K : PySem.W.Frag) : Sp := fun vs H Q _ => ∃ (a : Addr) (xs : List V) (md : List (Int × List Str)), vs = [.ref a] ∧ SqK K H a xs ∧ DvA H xs (md.map mdD) ∧ OkMs md ∧ ∀ H', Same H H' → Q (.bl true) H'
section
variable {P : Program} {w : World} {K : PySem.W.Frag} {mg : Str → Option Value} {base : Heap}
theorem notN_non {H : Hp} {Q : VK} (q : Q (.bl false) H) : ∃ x y, x = V.non ∧ y = V.non ∧ Q (.bl (!decide (x = .non))) H := ⟨_, _, rfl, rfl, q⟩
theorem okss {ss : List Str} (h : OkSs ss) : okSs ss = true := okSs_iff.mpr h
set_option maxHeartbeats 8000000 in
theorem ok_al {f : Addr} {fd : FuncData} (T : Bk mg) (D_is_number : Def P w K mg base CX0 2 "is_number" pV spNum) (D_is_body : Def P w K mg base CX0 2 "is_body" pV spBody) (D_is_signs : Def P w K mg base CX0 2 "is_signs" pV spSigns) (D_is_ascending : Def P w K mg base CX0 1 "is_ascending" pIsAsc spIsAsc)
    (F : Fun K "_are_letters" "_are_letters" sAl f fd) : FnOk P w K mg base CX0 3 f fd pV (spAl K) := by
  have nd := scAl.nd
  refine F.ok scAl (fun vs H Q E h => ?_) (fun cdv A outer s H vs Q E hr h => ?_)
  · obtain ⟨a, xs, ls, rfl, _⟩ := h
    rfl
  · obtain ⟨a, xs, ls, rfl, hS, hA, ok, q⟩ := h
    refine ⟨_, (pss_cons (ps_if (pt_not (pt_val (pe_callB (call_isiTK (K := K) rfl) (by rfl) T.isinstance PyProof.Rows.boot_isinstance (pa_cons (pv 0) (pa_cons (pe_tup (pa_cons (pe_bltn (v := .ty "list") rfl T.list PyProof.Rows.boot_list rfl) (pa_cons (pe_bltn (v := .ty "tuple") rfl T.tuple PyProof.Rows.boot_tuple rfl) pa_nil))) pa_nil)))))
  pss_any
  pss_nil)
 (pss_cons (ps_for PassesOwn.never rfl (pi_seqK (K := K) rfl (pv 0)) (pg_name (i := 1) nd rfl (Or.inl rfl))
  (pss_cons (ps_if (PW.pt (pw_or (pt_not (pt_val (pe_callB (call_isiK1 (K := K) rfl) (by rfl) T.isinstance PyProof.Rows.boot_isinstance (pa_cons (pv 1) (pa_cons (pe_bltn (v := .ty "tuple") rfl T.tuple PyProof.Rows.boot_tuple rfl) pa_nil))))) (pw_or (pt_cmpR op_ne (pe_callB (call_lenK (K := K) rfl) (by rfl) T.len PySem.boot_len (pa_cons (pv 1) pa_nil)) pe_int (nomark _)) (pw_or (pt_not (pt_val (pe_def D_is_number (hr.mono (by decide)) rfl pass0 (pa_cons (pe_ix (ix_tupK (K := K) rfl) (pv 1) pe_int (fun _ _ => rfl)) pa_nil)))) (pw_or1 (pt_not (pt_val (pe_def D_is_body (hr.mono (by decide)) rfl pass0 (pa_cons (pe_ix (ix_tupK (K := K) rfl) (pv 1) pe_int (fun _ _ => rfl)) pa_nil)))))))))
  pss_any
  pss_nil)
 (pss_one (ps_if (PW.pt (pw_or (pt_not (pt_val (pe_def D_is_signs (hr.mono (by decide)) rfl pass0 (pa_cons (pe_ix (ix_tupK (K := K) rfl) (pv 1) pe_int (fun _ _ => rfl)) pa_nil)))) (pw_or1 (PW.pt (pw_and (pt_cmpR op_notN (pe_ix (ix_tupK (K := K) rfl) (pv 1) pe_int (fun _ _ => rfl)) pe_non (nomark _)) (pw_and1 (pt_not (pt_val (pe_def D_is_signs (hr.mono (by decide)) rfl pass0 (pa_cons (pe_ix (ix_tupK (K := K) rfl) (pv 1) pe_int (fun _ _ => rfl)) pa_nil))))))))))
  pss_any
  pss_nil))))
 (pss_one (ps_ret (pe_def D_is_ascending (hr.mono (by decide)) rfl pass0 (pa_cons (pe_lc (own := [("row", 1)]) (g := gName 1) (tt := tYes) rfl nd (pi_seqK (K := K) rfl (pv 0)) (blkOk_by (own := [("row", 1)]) (N := nAl) (sc := defScope sAl) (by decide +kernel)) (fun _ _ _ _ _ => pg_name (i := 1) nd rfl (Or.inl rfl)) (fun _ _ _ _ _ => pts_nil) (fun _ _ _ _ _ => (pe_ix (ix_tupK (K := K) rfl) (pv 1) pe_int (fun _ _ => rfl)))) pa_nil)))))), ?_⟩
    have lx := hA.len
    rw [List.length_map] at lx
    have lm := ok.len
    refine ⟨_, rfl, (by show 2 ≤ sizeLine; decide), fun tp ntp => ?_⟩
    have s1 := same_new (o := .tup [.ty "list", .ty "tuple"]) ntp
    have hS1 := hS.ext (LamX.ExtN.of s1)
    obtain ⟨tn, ty, kt⟩ := hS1.ty
    refine ⟨.ref a, tp, [.ty "list", .ty "tuple"], .type tn, [.type "list", .type "tuple"], true, rfl, upd_same, .cons (.ty _) (.cons (.ty _) .nil), ty, kt, _, rfl, itbF rfl ?_⟩
    generalize upd H tp (.tup [.ty "list", .ty "tuple"]) = H1 at s1 hS1
    refine ⟨_, rfl, a, rfl, seqK_walk hS1 fun J Gd wk hG => for_it wk (fun i σ G => ∃ v1, σ = [some (.ref a), v1] ∧ Same H1 G) ⟨none, rfl, fun _ _ h => h⟩ (fun i σ G _ ⟨_, _, h⟩ => hG _ h) ?_ ?_⟩
    · rintro i x σ G G' hi ⟨v1, rfl, s2⟩ ⟨rfl, hx⟩
      obtain ⟨l, hl, hv⟩ := hA.getD' hx
      obtain ⟨ta, sa, wv, rfl, hta, hsa, hw⟩ := dv_cl hv
      have okl := ok.ok l (List.mem_of_getElem? hl)
      have s12 := s1.trans s2
      have h1 := s12 _ _ hta
      refine ⟨_, rfl, .ref ta, .ty "tuple", .type "tuple", .type "tuple", true, rfl, .ty _, .base (.tup h1), kit_ty (by decide +kernel), _, rfl, itbF rfl ?_⟩
      refine ⟨_, rfl, ta, _, rfl, .inr (st h1), rfl, _, rfl, itbF rfl ?_⟩
      refine ⟨_, rfl, ta, _, 0, .int l.n, rfl, rfl, st h1, atI_nat (j := 0) rfl, l.n, rfl, okl.n, _, rfl, itbF rfl ?_⟩
      refine ⟨_, rfl, ta, _, 1, .int l.b, rfl, rfl, st h1, atI_nat (j := 1) rfl, l.b, rfl, okl.b, _, rfl, itbF rfl ?_⟩
      refine ⟨_, rfl, ta, _, 2, .ref sa, rfl, rfl, st h1, atI_nat (j := 2) rfl, sa, l.s, rfl, s12 _ _ hsa, okss okl.s, fun G2 s3 => ⟨_, rfl, itbF rfl ?_⟩⟩
      have h3 := s3 _ _ h1
      refine ⟨_, rfl, ta, _, 3, wv, rfl, rfl, st h3, atI_nat (j := 3) rfl, rfl, _, rfl, ?_⟩
      cases hw0 : l.w with
      | none =>
        rw [hw0] at hw
        obtain rfl : wv = .non := hw
        exact itbF rfl (itbF rfl ⟨_, rfl, s2.trans s3⟩)
      | some ws =>
        rw [hw0] at hw
        obtain ⟨wa, rfl, hwa⟩ := hw
        refine itbT rfl ?_
        exact ⟨_, rfl, ta, _, 3, .ref wa, rfl, rfl, st h3, atI_nat (j := 3) rfl, wa, ws, rfl, (s12.trans s3) _ _ hwa, okss (okl.w ws hw0), fun G3 s4 => ⟨_, rfl, itbF rfl ⟨_, rfl, (s2.trans s3).trans s4⟩⟩⟩
    · rintro σ G ⟨v1, rfl, s2⟩
      have s12 := s1.trans s2
      have hSG := hS.ext (LamX.ExtN.of s12)
      refine ⟨_, rfl, a, rfl, seqK_walk hSG fun J2 Gd2 wk2 hG2 D nD => ?_⟩
      refine lc_sel wk2 (R := fun x (l : CL) => Dv G x (clD l)) (ls := ls) (out := fun y (n : Int) => y = V.int n) ?_ nD hG2 (by omega) (fun l => some l.n) ?_ ?_
      · exact a2_of (hA.same s12)
      · rintro x l G2 T S hx hm s3 hT hS'
        obtain ⟨ta, sa, wv, rfl, hta, hsa, hw⟩ := dv_cl hx
        exact ⟨rfl, tyes ⟨_, rfl, ta, _, 0, .int l.n, rfl, rfl, st (s3 _ _ hta), atI_nat (j := 0) rfl, hT _ l.n G2 (fun _ _ h => h) rfl rfl⟩⟩
      · intro G2 acc s3 hacc h4
        rw [h4.vals] at hacc
        have ef : ls.filterMap (fun l => some l.n) = ls.map (·.n) := by rw [← List.filterMap_eq_map]; rfl
        rw [ef] at hacc
        refine ⟨D, _, rfl, .inl hacc, by rw [List.length_map]; omega, fun H' s4 => ?_⟩
        rw [ascB_of ok.up]
        exact q H' ((s12.trans s3).trans s4)
set_option maxHeartbeats 8000000 in
theorem ok_am {f : Addr} {fd : FuncData} (T : Bk mg) (D_is_body : Def P w K mg base CX0 2 "is_body" pV spBody) (D_is_signs : Def P w K mg base CX0 2 "is_signs" pV spSigns)
    (F : Fun K "_are_made" "_are_made" sAm f fd) : FnOk P w K mg base CX0 3 f fd pV (spAm K) := by
  have nd := scAm.nd
  refine F.ok scAm (fun vs H Q E h => ?_) (fun cdv A outer s H vs Q E hr h => ?_)
  · obtain ⟨a, xs, ls, rfl, _⟩ := h
    rfl
  · obtain ⟨a, xs, md, rfl, hS, hA, ok, q⟩ := h
    refine ⟨_, (pss_cons (ps_if (pt_not (pt_val (pe_callB (call_isiTK (K := K) rfl) (by rfl) T.isinstance PyProof.Rows.boot_isinstance (pa_cons (pv 0) (pa_cons (pe_tup (pa_cons (pe_bltn (v := .ty "list") rfl T.list PyProof.Rows.boot_list rfl) (pa_cons (pe_bltn (v := .ty "tuple") rfl T.tuple PyProof.Rows.boot_tuple rfl) pa_nil))) pa_nil)))))
  pss_any
  pss_nil)
 (pss_cons (ps_for PassesOwn.never rfl (pi_seqK (K := K) rfl (pv 0)) (pg_name (i := 1) nd rfl (Or.inl rfl))
  (pss_one (ps_if (PW.pt (pw_or (pt_not (pt_val (pe_callB (call_isiK1 (K := K) rfl) (by rfl) T.isinstance PyProof.Rows.boot_isinstance (pa_cons (pv 1) (pa_cons (pe_bltn (v := .ty "tuple") rfl T.tuple PyProof.Rows.boot_tuple rfl) pa_nil))))) (pw_or (pt_cmpR op_ne (pe_callB (call_lenK (K := K) rfl) (by rfl) T.len PySem.boot_len (pa_cons (pv 1) pa_nil)) pe_int (nomark _)) (pw_or (pt_not (pt_val (pe_def D_is_body (hr.mono (by decide)) rfl pass0 (pa_cons (pe_ix (ix_tupK (K := K) rfl) (pv 1) pe_int (fun _ _ => rfl)) pa_nil)))) (pw_or1 (pt_not (pt_val (pe_def D_is_signs (hr.mono (by decide)) rfl pass0 (pa_cons (pe_ix (ix_tupK (K := K) rfl) (pv 1) pe_int (fun _ _ => rfl)) pa_nil)))))))))
  pss_any
  pss_nil)))
 (pss_one (ps_ret pe_bl)))), ?_⟩
    refine ⟨_, rfl, (by show 2 ≤ sizeLine; decide), fun tp ntp => ?_⟩
    have s1 := same_new (o := .tup [.ty "list", .ty "tuple"]) ntp
    have hS1 := hS.ext (LamX.ExtN.of s1)
    obtain ⟨tn, ty, kt⟩ := hS1.ty
    refine ⟨.ref a, tp, [.ty "list", .ty "tuple"], .type tn, [.type "list", .type "tuple"], true, rfl, upd_same, .cons (.ty _) (.cons (.ty _) .nil), ty, kt, _, rfl, itbF rfl ?_⟩
    generalize upd H tp (.tup [.ty "list", .ty "tuple"]) = H1 at s1 hS1
    refine ⟨_, rfl, a, rfl, seqK_walk hS1 fun J Gd wk hG => for_it wk (fun i σ G => ∃ v1, σ = [some (.ref a), v1] ∧ Same H1 G) ⟨none, rfl, fun _ _ h => h⟩ (fun i σ G _ ⟨_, _, h⟩ => hG _ h) ?_ ?_⟩
    · rintro i x σ G G' hi ⟨v1, rfl, s2⟩ ⟨rfl, hx⟩
      obtain ⟨l, hl, hv⟩ := hA.getD' hx
      obtain ⟨ta, sa, rfl, hta, hsa⟩ := dv_md hv
      have okl := ok.ok l (List.mem_of_getElem? hl)
      have s12 := s1.trans s2
      have h1 := s12 _ _ hta
      refine ⟨_, rfl, .ref ta, .ty "tuple", .type "tuple", .type "tuple", true, rfl, .ty _, .base (.tup h1), kit_ty (by decide +kernel), _, rfl, itbF rfl ?_⟩
      refine ⟨_, rfl, ta, _, rfl, .inr (st h1), rfl, _, rfl, itbF rfl ?_⟩
      refine ⟨_, rfl, ta, _, 0, .int l.1, rfl, rfl, st h1, atI_nat (j := 0) rfl, l.1, rfl, okl.1, _, rfl, itbF rfl ?_⟩
      exact ⟨_, rfl, ta, _, 1, .ref sa, rfl, rfl, st h1, atI_nat (j := 1) rfl, sa, l.2, rfl, s12 _ _ hsa, okss okl.2, fun G2 s3 => ⟨_, rfl, itbF rfl ⟨_, rfl, s2.trans s3⟩⟩⟩
    · rintro σ G ⟨v1, rfl, s2⟩
      exact q G (s1.trans s2)
end
end K1


set_option Elab.async false
set_option linter.all false
set_option maxRecDepth 100000
/-! != of two lists whose items are equal by an own == : False. -/
namespace K1
open PySem PySem.SeqAt PySem.Spec PyProof.Rows L2
open AutoSeq1 (wpAny_loadPart')
open MeetsSeq MeetsSeq2 MeetsSeq3 SeqRoads2
section
variable {prog : Program} {w : World} {A : Around} {R : Result → Shared → Prop}
theorem neLoop {l b : Addr} {N : Nat} {J : Nat → Shared → Prop} (tn : GQ.ListI prog w A (fun e z => R (.error e) z) l b N J) (fin : ∀ z, J N z → R (.ok (.ret (.bool false))) z) : ∀ (left i : Nat), N - i = left → i ≤ N → ∀ z, J i z →
    wpAny (model prog w) A.in1 (Builtin.«list.__eq__.loop» ⟨[.ref l, .ref b, rawInt i, rawInt 3], []⟩) (GQ.FinOf prog w A R) (fun e y => R (.error e) y) z
  | 0, i, hk, hi, z, q => by
    obtain ⟨xs, ys, n, m, gl, gb, zx, zy, _⟩ := tn _ _ q
    have e : i = N := by omega
    have fR := fin z (e ▸ q)
    obtain ⟨z1, z2, z3, z4, z5⟩ := z
    wp_walk using wpAny_loadPart' gl, wpAny_loadPart' gb
    have nx : xs[((i : Nat) : Int).toNat]? = none := by simp; omega
    have ny : ys[((i : Nat) : Int).toNat]? = none := by simp; omega
    rw [nx, ny]
    wp_walk using wpAny_loadPart' gl, wpAny_loadPart' gb
    show R (.ok (.ret (.bool (xs.size != ys.size)))) _
    rw [zx, zy]
    simpa using fR
  | left + 1, i, hk, hi, z, q => by
    obtain ⟨xs, ys, n, m, gl, gb, zx, zy, one⟩ := tn _ _ q
    have lx : i < xs.size := by omega
    have ly : i < ys.size := by omega
    have step := one lx ly
    obtain ⟨z1, z2, z3, z4, z5⟩ := z
    wp_walk using wpAny_loadPart' gl, wpAny_loadPart' gb
    have nx : xs[((i : Nat) : Int).toNat]? = some xs[i] := by simp [lx]
    have ny : ys[((i : Nat) : Int).toNat]? = some ys[i] := by simp [ly]
    have c1 : ((i : Int) + 1) = ((i + 1 : Nat) : Int) := by omega
    rw [nx, ny]
    refine wpAny_bind (wpAny_mono step (fun r y q2 => ?_) fun _ _ x => x)
    obtain ⟨rfl, q2⟩ := q2
    have again := neLoop tn fin left (i + 1) (by omega) (by omega) y q2
    obtain ⟨y1, y2, y3, y4, y5⟩ := y
    wp_walk
    rw [c1]
    refine ⟨plainId_quiet plain_eq_loop _, codeAny_builtin entry_eq_loop ?_⟩
    rw [Around.under_plainId plain_eq_loop _]
    exact again
theorem neList {l b : Addr} {N : Nat} {J : Nat → Shared → Prop} (tn : GQ.ListI prog w A (fun e z => R (.error e) z) l b N J) (fin : ∀ z, J N z → R (.ok (.ret (.bool false))) z) {z : Shared} (q : J 0 z) :
    wpAny (model prog w) A.in1 (Builtin.«list.__ne__» ⟨[.ref l, .ref b], []⟩) (GQ.FinOf prog w A R) (fun e y => R (.error e) y) z := by
  obtain ⟨xs, ys, n, m, gl, gb, zx, zy, _⟩ := tn _ _ q
  have again := neLoop tn fin _ 0 rfl (Nat.zero_le _) z q
  obtain ⟨z1, z2, z3, z4, z5⟩ := z
  have f3 := AutoSeq1.sub_list_list
  have same : ¬ (xs.size != ys.size) = true := by simp [zx, zy]
  wp_walk using wpAny_loadPart' gl, wpAny_loadPart' gb
  refine ⟨plainId_quiet plain_eq_loop _, codeAny_builtin entry_eq_loop ?_⟩
  rw [Around.under_plainId plain_eq_loop _]
  exact again
end
theorem rcNe {prog : Program} {w : World} {A : Around} {E : Value → Shared → Prop} {z : Shared} {l b : Addr} {N : Nat} {Q : Value → Shared → Prop} (hu : A.units < cLine) (J : Nat → Shared → Prop) (tn : GQ.ListI prog w A E l b N J) (fin : ∀ z, J N z → Q (.bool false) z) (q : J 0 z) :
    wpAny (model prog w) A (richCompare .NotEq (.ref l) (.ref b)) Q E z := by
  obtain ⟨xs, ys, n, m, gl, gb, _, _, _⟩ := tn _ _ q
  refine wpAny_richCompare_same_room (op := .NotEq) ⟨_, gl, rfl⟩ ⟨_, gb, rfl⟩ F.slot_list_ne (GQ.call_here F.slot_list_ne ⟨_, gl, rfl⟩ F.entry_list_ne (F.args_list_ne_2 _ _) ?_) hu
  exact neList (R := wants (fun v y => v ≠ .notImplemented ∧ Q v y) E) tn (fun y h => ⟨(fun x => nomatch x), fin y h⟩) q
/-- x != y, as lists of equal items: False -/
def rNeG (D : Eqv) : R2 := fun x y H Q => DList D x y H ∧ ∀ H', L2.Ext H H' → Q (.bl false) H'
theorem op_neG {X : Cx} {n : Nat} {D : Eqv} (hD : Mon D) (h : EqG X n D) (hr : Room (n + 1) X.A) : OpR X (compareOp .NotEq) (rNeG D) := by
  intro pins s σ H x y v u Q I rx ry hq
  obtain ⟨⟨a, b, xs, ys, rfl, rfl, ha, hb, p⟩, q⟩ := hq
  cases rx
  cases ry
  show wpAny (model X.prog X.w) X.A (richCompare .NotEq (.ref a) (.ref b)) (EP X pins σ Q) X.xe s
  have sb : Sub X (n + 1) X.A := ⟨hr, rfl⟩
  refine rcNe (N := xs.length) sb.room.units0 (fun _ z => LoopI X pins σ H z) (fun i z k => ?_) (fun z k => ?_) ⟨H, I, L2.Ext.rfl'⟩
  · obtain ⟨H1, I1, e1⟩ := id k
    obtain ⟨z1, us, k1, r1, g1⟩ := I1.hok a _ (e1 _ _ ha)
    obtain ⟨z2, ws, k2, r2, g2⟩ := I1.hok b _ (e1 _ _ hb)
    exact ⟨us.toArray, ws.toArray, k1, k2, g1, g2, by rw [List.size_toArray, ← r1.length], by rw [List.size_toArray, ← r2.length, ← p.1], fun h1 h2 => turnG hD h sb p r1 r2 i h1 h2 z k⟩
  · obtain ⟨H1, I1, e1⟩ := k
    exact ⟨.bl false, H1, I1, rfl, q H1 e1⟩
end K1


set_option Elab.async false
set_option linter.all false
set_option maxRecDepth 100000
set_option maxHeartbeats 2000000
/-! == and != of instances by an own __eq__, whatever it tells. -/
namespace K1
open PySem PySem.W PySem.SeqAt PySem.Spec PyProof.Rows L2 Builtin
section
variable {prog : Program} {w : World} {A : Around} {E : Value → Shared → Prop} {s : Shared} {K : PySem.W.Frag} {x C L f : Addr} {h₀ : Heap} {m : Str → Option Value} {ox : Obj} {od : Option Obj} {name : Str} {b tb : Value}
theorem ifBoundB {M : Model} {id : String} {args : List Value} {Q : Option Value → Shared → Prop} (X : K.In s.heap) (I : InstAt s.heap x ox C od) (hs : findIn K (.ref C) name = some (some (.builtin id))) (hb : ∀ v, bindSpecial (.builtin id) v = pure (.builtin id, [v]))
    (h : wpAny M A (call (.builtin id) (.ref x :: args)) (fun v => Q (some v)) E s) : wpAny M A (callSpecialIfBound? (.ref x) name args) Q E s := by
  simp only [callSpecialIfBound?, bindSpecialIfBound?]
  refine wpAny_holding (wpAny_bind (wpAny_bind (wpAny_bind (I.type.here ((looks_findIn X hs).here ?_)))))
  refine wpAny_bind (wpAny_askSetting (wpAny_ite ?_))
  have fin : wpAny M A (call (.builtin id) ([.ref x] ++ args) >>= fun v => pure (some v)) Q E s := wpAny_bind (wpAny_mono h (fun v s' h' => wpAny_pure h') fun _ _ h' => h')
  split
  · rw [hb]
    exact wpAny_bind (wpAny_pure (wpAny_pure (by exact fin)))
  · rw [hb]
    exact wpAny_tryCatch (wpAny_bind (wpAny_pure (wpAny_pure (by exact fin))))
theorem objNe_K {hh : Heap} {g : Array GenState} {d : Drawn} {t : Nat} {os : OsState} {Q : Fin → Shared → Prop} (hu : A.units < cLine) (X : K.In hh) (I : InstAt hh x ox C od) (hs : findIn K (.ref C) "__eq__" = some (some (.ref f))) (hf : isFn K (.ref f) = true)
    (h : wpAny (model prog w) A (call (.ref f) [.ref x, b]) (fun v s' => ∃ r, v = .bool r ∧ Q (.done (.ret (.bool (!r)))) s') E ⟨hh, g, d, t, os⟩) :
    wpAny (model prog w) A (Builtin.«object.__ne__» ⟨[.ref x, b], []⟩) Q E ⟨hh, g, d, t, os⟩ := by
  unfold Builtin.«object.__ne__»
  repeat (first
    | with_reducible refine wpAny_cRoomFor hu ?_
    | (refine wpAny_bind (m := callSpecialIfBound? (.ref x) (Str.ofString "__eq__") [b]) (ifBound_K X I hs hf (wpAny_mono h (fun r s' hr => by
        obtain ⟨r, rfl, hq⟩ := hr
        repeat (first | exact hq | exact wpAny_pure hq | exact wpAny_truthy_bool hq | (refine wpAny_bind (m := truthy (.bool _)) (wpAny_truthy_bool ?_)) | wp_step)) fun _ _ e => e)))
    | wp_step)
theorem cmpNe_K {Q : Value → Shared → Prop} (hu : A.units + 1 < cLine) (F : Fr h₀ L s.heap m) (X₀ : K.In h₀) (I : InstAt s.heap x ox C od) (hb : Looks (model prog w) s.heap (typeOf b) tb) (hn : notFirst K C tb = true)
    (hne : findIn K (.ref C) "__ne__" = some (some (.builtin "object.__ne__"))) (ho : mroIn K C (.type "object") = some true) (hs : findIn K (.ref C) "__eq__" = some (some (.ref f))) (hf : isFn K (.ref f) = true)
    (h : wpAny (model prog w) A.in1 (call (.ref f) [.ref x, b]) (fun v s' => ∃ r, v = .bool r ∧ Q (.bool (!r)) s') E s) : wpAny (model prog w) A (richCompare .NotEq (.ref x) b) Q E s := by
  have X := X₀.keeps F.keep
  have ent : wpAny (model prog w) A.in1 (Builtin.«object.__ne__» ⟨[.ref x, b], []⟩) (GQ.FinOf prog w A (wants (fun v s' => (∃ r, v = .bool r) ∧ Q v s') E)) (fun e s' => wants (fun v s' => (∃ r, v = .bool r) ∧ Q v s') E (.error e) s') s := by
    obtain ⟨hh, g, d, t, os⟩ := s
    refine objNe_K hu X I hs hf (wpAny_mono h (fun v s' hv => ?_) fun _ _ e => e)
    obtain ⟨r, rfl, hq⟩ := hv
    exact ⟨r, rfl, ⟨_, rfl⟩, hq⟩
  have one : wpAny (model prog w) A (tryCompare (.ref x) "__ne__" b) (fun r s' => ∃ v, r = some v ∧ Q v s') E s := by
    unfold tryCompare
    refine wpAny_bind (ifBoundB X I hne (fun v => PySem.F.cmp_object.ne.bind v) (wpAny_mono (Q := fun v s' => (∃ r, v = .bool r) ∧ Q v s') (wpAny_call (codeAny_call_builtin PySem.F.cmp_object.ne.plain PySem.F.cmpEntry_ne
      (check_slot PySem.F.cmpKind_ne PySem.F.cmpSplit_ne (I.type.andThen (looks_mroIn X ho)) (PySem.F.cmpArgs_ne _ _) ent))) (fun v s' hv => ?_) fun _ _ e => e))
    obtain ⟨⟨r, rfl⟩, hq⟩ := hv
    exact wpAny_pure ⟨_, rfl, hq⟩
  unfold richCompare
  simp only [oneThing_ref]
  refine wpAny_holding (wpAny_bind (wpAny_cRoomFor (Nat.lt_of_succ_lt hu) ?_))
  refine wpAny_bind (I.type.here (wpAny_bind (hb.here ?_)))
  split
  · rename_i q
    have e : subIn K tb (.ref C) = some false := by
      rcases Bool.or_eq_true_iff.mp hn with e | e
      · rw [beq_iff_eq.mp e] at q; simp at q
      · exact beq_iff_eq.mp e
    refine wpAny_bind ((looks_subIn X e).here ?_)
    simp only [Bool.false_eq_true, if_false]
    refine wpAny_bind (wpAny_mono one (fun r s' z => ?_) fun _ _ e => e)
    obtain ⟨v, rfl, hq⟩ := z
    exact wpAny_pure hq
  · refine wpAny_bind (wpAny_pure ?_)
    simp only [Bool.false_eq_true, if_false]
    refine wpAny_bind (wpAny_mono one (fun r s' z => ?_) fun _ _ e => e)
    obtain ⟨v, rfl, hq⟩ := z
    exact wpAny_pure hq
end
/-- what an own == promises: R tells the answer -/
def spEqB (R : Addr → Addr → Bool → Hp → Prop) : Sp := fun vs H Q _ => ∃ a b r, vs = [.ref a, .ref b] ∧ R a b r H ∧ ∀ H', L2.Ext H H' → Q (.bl r) H'
/-- the own == of a class -/
structure EqM (P : Program) (w : World) (K : PySem.W.Frag) (mg : Str → Option Value) (base : Heap) (n : Nat) (C : Addr) (R : Addr → Addr → Bool → Hp → Prop) : Prop where
  ex : ∃ (f : Addr) (fd : FuncData) (ps : List Str), FnOk P w K mg base CX0 n f fd ps (spEqB R) ∧ PySem.W.findIn K (.ref C) "__eq__" = some (some (.ref f)) ∧ PySem.W.isFn K (.ref f) = true ∧ Binds K fd ps []
  ne : PySem.W.findIn K (.ref C) "__ne__" = some (some (.builtin "object.__ne__"))
  ob : PySem.W.mroIn K C (.type "object") = some true
/-- two instances of the class -/
def TwoI (C : Addr) (R : Addr → Addr → Bool → Hp → Prop) (x y : V) (r : Bool) (H : Hp) : Prop := ∃ a b dx dy fs gs, x = .ref a ∧ y = .ref b ∧ H a = some (.ins C dx fs) ∧ H b = some (.ins C dy gs) ∧ R a b r H
def rEqI (C : Addr) (R : Addr → Addr → Bool → Hp → Prop) : R2 := fun x y H Q => ∃ r, TwoI C R x y r H ∧ ∀ H', L2.Ext H H' → Q (.bl r) H'
def rNeI (C : Addr) (R : Addr → Addr → Bool → Hp → Prop) : R2 := fun x y H Q => ∃ r, TwoI C R x y r H ∧ ∀ H', L2.Ext H H' → Q (.bl !r) H'
section
variable {X : Cx} {n : Nat} {C : Addr} {R : Addr → Addr → Bool → Hp → Prop}
theorem eqI_call (M : EqM X.prog X.w X.K X.mg X.base n C R) {A : Around} (sb : Sub X n A) {pins : List (Addr × Obj)} {s : Shared} {σ : L2.St} {H : Hp} {a b : Addr} {r : Bool} (I : Inv X pins σ H s) (hr : R a b r H) :
    ∃ f, PySem.W.findIn X.K (.ref C) "__eq__" = some (some (.ref f)) ∧ PySem.W.isFn X.K (.ref f) = true ∧ wpAny (model X.prog X.w) A (call (.ref f) [.ref a, .ref b]) (fun v s' => v = .bool r ∧ ∃ H', Inv X pins σ H' s' ∧ L2.Ext H H') X.xe s := by
  obtain ⟨f, fd, ps, F, hs, hf, hb⟩ := M.ex
  refine ⟨f, hs, hf, ?_⟩
  have hsp : spEqB R [.ref a, .ref b] H (fun v H' => v = .bl r ∧ L2.Ext H H') E0 := ⟨a, b, r, rfl, hr, fun H' e => ⟨rfl, e⟩⟩
  have e0 : Env0 X.prog X.w X.K X.mg X.base A X.stack s H := by
    have e := I.env0
    exact ⟨by rw [sb.fr]; exact e.frames, e.mod, e.bs, e.bsz, e.funs, e.frf, e.hok, e.bare⟩
  have hl := F.len _ _ _ _ hsp
  have r2 : Vals [V.ref a, V.ref b] [Value.ref a, Value.ref b] := .cons rfl (.cons rfl .nil)
  refine wpAny_call (codeAny_mono (F.run A X.stack s H ⟨[.ref a, .ref b], []⟩ [.ref a, .ref b] [.ref a, .ref b] _ E0 sb.room e0 (by
    have := hb s [.ref a, .ref b] I.kIn (by simpa using hl)
    simpa using this) r2 hsp) fun q s' hq => ?_)
  cases q with
  | error e => exact (pass0 (X := X)) pins σ H s e s' I hq
  | ok fl =>
    cases fl with
    | ret w =>
      obtain ⟨z, H', I', rz, ez, ex⟩ := I.after hq
      subst ez
      cases rz
      exact ⟨rfl, H', I', ex⟩
    | next => exact False.elim hq
    | brk => exact False.elim hq
    | cont => exact False.elim hq
theorem op_eqI (M : EqM X.prog X.w X.K X.mg X.base n C R) (hr : Room n X.A) : OpR X (compareOp .Eq) (rEqI C R) := by
  intro pins s σ H x y v u Q I rx ry hq
  obtain ⟨r, ⟨a, b, dx, dy, fs, gs, rfl, rfl, ha, hb', hR⟩, q⟩ := hq
  cases rx
  cases ry
  obtain ⟨mA, J, _⟩ := ins_get I.hok ha
  obtain ⟨mB, J', _⟩ := ins_get I.hok hb'
  obtain ⟨od, J, _⟩ := J.look
  obtain ⟨od', J', _⟩ := J'.look
  obtain ⟨m, hF⟩ := I.fr
  have sb : Sub X n X.A := ⟨hr, rfl⟩
  obtain ⟨f, hs, hf, hc⟩ := eqI_call M sb I hR
  show wpAny (model X.prog X.w) X.A (richCompare .Eq (.ref a) (.ref b)) (EP X pins σ Q) X.xe s
  refine PySem.W.cmp_K (op := .Eq) (tb := .ref C) sb.room.units0 hF I.ok.mod.kin J J'.type (by simp [PySem.W.notFirst]) hs hf (wpAny_mono hc (fun v s' z => ?_) fun _ _ e => e)
  obtain ⟨rfl, H', I', e⟩ := z
  exact ⟨.bl r, H', I', rfl, q H' e⟩
theorem op_neI (M : EqM X.prog X.w X.K X.mg X.base n C R) (hr : Room (n + 1) X.A) : OpR X (compareOp .NotEq) (rNeI C R) := by
  intro pins s σ H x y v u Q I rx ry hq
  obtain ⟨r, ⟨a, b, dx, dy, fs, gs, rfl, rfl, ha, hb', hR⟩, q⟩ := hq
  cases rx
  cases ry
  obtain ⟨mA, J, _⟩ := ins_get I.hok ha
  obtain ⟨mB, J', _⟩ := ins_get I.hok hb'
  obtain ⟨od, J, _⟩ := J.look
  obtain ⟨od', J', _⟩ := J'.look
  obtain ⟨m, hF⟩ := I.fr
  have sb : Sub X (n + 1) X.A := ⟨hr, rfl⟩
  obtain ⟨f, hs, hf, hc⟩ := eqI_call M sb.in1 I hR
  show wpAny (model X.prog X.w) X.A (richCompare .NotEq (.ref a) (.ref b)) (EP X pins σ Q) X.xe s
  refine cmpNe_K (tb := .ref C) (by have := sb.in1.room.units0; exact this) hF I.ok.mod.kin J J'.type (by simp [PySem.W.notFirst]) M.ne M.ob hs hf (wpAny_mono hc (fun v s' z => ?_) fun _ _ e => e)
  obtain ⟨rfl, H', I', e⟩ := z
  exact ⟨r, rfl, .bl !r, H', I', rfl, q H' e⟩
end
end K1


set_option Elab.async false
set_option linter.all false
set_option maxRecDepth 100000
set_option maxHeartbeats 4000000
/-! Data that may be compared; copies and their equality. -/
namespace K1
open PySem PySem.Spec PyProof.Rows L2 RZ StX
structure LayD (k : Nat) (d : PyData) : Prop where
  lay : PyData.canLay0 d = true
  dep : PyData.depth d ≤ k
  nd : noDic d = true
structure LayA (k : Nat) (ds : List PyData) : Prop where
  lay : PyData.canLayAll0 ds = true
  dep : PyData.depthAll ds ≤ k
  nd : noDicA ds = true
theorem LayA.nil {k : Nat} : LayA k [] := ⟨rfl, Nat.zero_le _, rfl⟩
theorem LayA.cons {k : Nat} {d : PyData} {ds : List PyData} (h : LayD k d) (r : LayA k ds) : LayA k (d :: ds) :=
  ⟨by show (PyData.canLay0 d && PyData.canLayAll0 ds) = true; rw [h.lay, r.lay]; rfl, Nat.max_le.mpr ⟨h.dep, r.dep⟩, by show (noDic d && noDicA ds) = true; rw [h.nd, r.nd]; rfl⟩
theorem LayA.map {α : Type} {k : Nat} {f : α → PyData} : ∀ {xs : List α}, (∀ x ∈ xs, LayD k (f x)) → LayA k (xs.map f)
  | [], _ => .nil
  | x :: r, h => .cons (h x List.mem_cons_self) (LayA.map fun y hy => h y (List.mem_cons_of_mem _ hy))
theorem LayD.int {k : Nat} (i : Int) : LayD k (.int i) := ⟨rfl, Nat.zero_le _, rfl⟩
theorem LayD.non {k : Nat} : LayD k .none := ⟨rfl, Nat.zero_le _, rfl⟩
theorem LayD.bl {k : Nat} (b : Bool) : LayD k (.bool b) := ⟨rfl, Nat.zero_le _, rfl⟩
theorem LayD.str {k : Nat} {s : Str} (h : PyData.strOk s = true) : LayD k (.str s) := ⟨h, Nat.zero_le _, rfl⟩
theorem LayD.tup {k : Nat} {ds : List PyData} (h : LayA k ds) : LayD (k + 1) (.tuple ds) := ⟨h.lay, Nat.succ_le_succ h.dep, h.nd⟩
theorem LayD.lst {k : Nat} {ds : List PyData} (h : LayA k ds) : LayD (k + 1) (.list ds) := ⟨h.lay, Nat.succ_le_succ h.dep, h.nd⟩
theorem LayD.mono {k m : Nat} {d : PyData} (h : LayD k d) (e : k ≤ m) : LayD m d := ⟨h.lay, Nat.le_trans h.dep e, h.nd⟩
theorem LayD.sh {k : Nat} {d : PyData} (h : LayD k d) (e : k ≤ 64 := by decide) : SeqAt.shaped d = true := by
  unfold SeqAt.shaped
  rw [h.lay, decide_eq_true (Nat.le_trans h.dep e)]; rfl
theorem lay_ss {ss : List Str} (h : ∀ s ∈ ss, okS s = true) : LayD 1 (.tuple (ss.map PyData.str)) := .tup (LayA.map (k := 0) fun s hs => .str (strOk_of (h s hs)))
theorem lay_w {w : Option (List Str)} (h : ∀ ss, w = some ss → OkSs ss) : LayD 1 (wD w) := by
  cases w with
  | none => exact .non
  | some ss => exact lay_ss (h ss rfl).ok
theorem lay_cl {l : CL} (h : OkCL l) : LayD 2 (clD l) := .tup (.cons (.int _) (.cons (.int _) (.cons (lay_ss h.s.ok) (.cons (lay_w h.w) .nil))))
theorem lay_md {m : Int × List Str} (h : OkMd m) : LayD 2 (mdD m) := .tup (.cons (.int _) (.cons (lay_ss h.2.ok) .nil))
def clsD (ls : List CL) : PyData := .tuple (ls.map clD)
def mdsD (md : List (Int × List Str)) : PyData := .tuple (md.map mdD)
theorem lay_cls {ls : List CL} (h : ∀ l ∈ ls, OkCL l) : LayD 3 (clsD ls) := .tup (LayA.map fun l hl => lay_cl (h l hl))
theorem lay_mds {md : List (Int × List Str)} (h : ∀ m ∈ md, OkMd m) : LayD 3 (mdsD md) := .tup (LayA.map fun l hl => lay_md (h l hl))
theorem eqvAll_map {α : Type} [DecidableEq α] {f : α → PyData} (h : ∀ x y, PyData.eqv (f x) (f y) = decide (x = y)) : ∀ xs ys : List α, PyData.eqvAll (xs.map f) (ys.map f) = decide (xs = ys)
  | [], [] => by simp [PyData.eqvAll]
  | [], _ :: _ => by simp [PyData.eqvAll]
  | _ :: _, [] => by simp [PyData.eqvAll]
  | x :: xs, y :: ys => by
    show (PyData.eqv (f x) (f y) && PyData.eqvAll (xs.map f) (ys.map f)) = _
    rw [h, eqvAll_map h xs ys]
    by_cases e : x = y
    · subst e; by_cases e2 : xs = ys <;> simp [e2]
    · simp [e]
theorem eqv_ss (xs ys : List Str) : PyData.eqv (.tuple (xs.map PyData.str)) (.tuple (ys.map PyData.str)) = decide (xs = ys) := g_eqv xs ys
theorem eqv_w (x y : Option (List Str)) : PyData.eqv (wD x) (wD y) = decide (x = y) := by
  cases x with
  | none =>
    cases y with
    | none => simp [wD, PyData.eqv]
    | some ys => simp [wD, PyData.eqv]
  | some xs =>
    cases y with
    | none => simp [wD, PyData.eqv]
    | some ys => rw [show wD (some xs) = .tuple (xs.map PyData.str) from rfl, show wD (some ys) = .tuple (ys.map PyData.str) from rfl, eqv_ss]; simp
theorem eqv_int (i j : Int) : PyData.eqv (.int i) (.int j) = decide (i = j) := by
  show (i == j) = _
  by_cases e : i = j <;> simp [e]
theorem eqv_cl (x y : CL) : PyData.eqv (clD x) (clD y) = decide (x = y) := by
  show (PyData.eqv (.int x.n) (.int y.n) && (PyData.eqv (.int x.b) (.int y.b) && (PyData.eqv (.tuple (x.s.map PyData.str)) (.tuple (y.s.map PyData.str)) && (PyData.eqv (wD x.w) (wD y.w) && true)))) = _
  rw [eqv_int, eqv_int, eqv_ss, eqv_w, Bool.and_true]
  obtain ⟨n, b, s, w⟩ := x
  obtain ⟨n', b', s', w'⟩ := y
  by_cases e1 : n = n' <;> by_cases e2 : b = b' <;> by_cases e3 : s = s' <;> by_cases e4 : w = w' <;> simp [e1, e2, e3, e4]
theorem eqv_md (x y : Int × List Str) : PyData.eqv (mdD x) (mdD y) = decide (x = y) := by
  show (PyData.eqv (.int x.1) (.int y.1) && (PyData.eqv (.tuple (x.2.map PyData.str)) (.tuple (y.2.map PyData.str)) && true)) = _
  rw [eqv_int, eqv_ss, Bool.and_true]
  obtain ⟨b, s⟩ := x
  obtain ⟨b', s'⟩ := y
  by_cases e2 : b = b' <;> by_cases e3 : s = s' <;> simp [e2, e3]
theorem eqv_cls (xs ys : List CL) : PyData.eqv (clsD xs) (clsD ys) = decide (xs = ys) := eqvAll_map eqv_cl xs ys
theorem eqv_mds (xs ys : List (Int × List Str)) : PyData.eqv (mdsD xs) (mdsD ys) = decide (xs = ys) := eqvAll_map eqv_md xs ys
theorem eqvL_cls (xs ys : List CL) : PyData.eqv (.list (xs.map clD)) (.list (ys.map clD)) = decide (xs = ys) := eqvAll_map eqv_cl xs ys
theorem eqvL_mds (xs ys : List (Int × List Str)) : PyData.eqv (.list (xs.map mdD)) (.list (ys.map mdD)) = decide (xs = ys) := eqvAll_map eqv_md xs ys
theorem tO_w (w : Option (List Str)) : tO (wD w) = true := by
  cases w with
  | none => rfl
  | some ss => exact tO_strs ss
theorem tO_cls : ∀ ls : List CL, tOA (ls.map clD) = true
  | [] => rfl
  | l :: r => by
    show ((true && (true && (tOA (l.s.map PyData.str) && (tO (wD l.w) && true)))) && tOA (r.map clD)) = true
    rw [tO_strs, tO_w, tO_cls r]; rfl
theorem tO_mds : ∀ md : List (Int × List Str), tOA (md.map mdD) = true
  | [] => rfl
  | m :: r => by
    show ((true && (tOA (m.2.map PyData.str) && true)) && tOA (r.map mdD)) = true
    rw [tO_strs, tO_mds r]; rfl
/-! ### copies -/
def flC (a m l d : V) : List (Str × V) := [("_age", a), ("_mark", m), ("_letters", l), ("_made", d)]
/-- a tuple of the call's own, or the empty one of the text -/
def MT (K : PySem.W.Frag) (H : Hp) (t : Addr) (ys : List V) : Prop := H t = some (.tup ys) ∨ (ys = [] ∧ KEmp K t)
theorem MT.st {K : PySem.W.Frag} {H : Hp} {t : Addr} {ys : List V} (h : MT K H t ys) : SqT K H t ys := h.elim (fun h => K1.st h) fun ⟨e, k⟩ => by subst e; exact kemp_st k
theorem MT.tu {K : PySem.W.Frag} {H G : Hp} {t : Addr} {ys : List V} (h : MT K H t ys) (s : TU H G) : MT K G t ys := h.imp (s _ _) id
theorem MT.sq {K : PySem.W.Frag} {H : Hp} {t : Addr} {ys : List V} (h : MT K H t ys) : SqK K H t ys := h.imp .inr id
structure CpP (K : PySem.W.Frag) (CC : Addr) (H : Hp) (p : Addr) (c : Cp) (dx tl tm : Addr) (xs ys : List V) : Prop where
  at_ : H p = some (.ins CC dx (flC (.int c.age) (.int c.mr) (.ref tl) (.ref tm)))
  tl : MT K H tl xs
  xs : DvA H xs (c.ls.map clD)
  tm : MT K H tm ys
  ys : DvA H ys (c.md.map mdD)
def CpAt (K : PySem.W.Frag) (CC : Addr) (H : Hp) (p : Addr) (c : Cp) : Prop := ∃ dx tl tm xs ys, CpP K CC H p c dx tl tm xs ys
structure OkCp (c : Cp) : Prop where
  age : 1 ≤ c.age
  mr : 0 ≤ c.mr
  ls : OkLs c.ls
  md : OkMs c.md
/-- all but lists, dicts and tables stay: what copies want -/
theorem CpAt.same {K : PySem.W.Frag} {CC p : Addr} {H H' : Hp} {c : Cp} (h : CpAt K CC H p c) (s : Same H H') : CpAt K CC H' p c :=
  let ⟨dx, tl, tm, xs, ys, h⟩ := h; ⟨dx, tl, tm, xs, ys, s _ _ h.at_, h.tl.tu (TU.same s), h.xs.same s, h.tm.tu (TU.same s), h.ys.same s⟩
theorem CpAt.ext {K : PySem.W.Frag} {CC p : Addr} {H H' : Hp} {c : Cp} (h : CpAt K CC H p c) (s : LamX.ExtN H H') : CpAt K CC H' p c :=
  let ⟨dx, tl, tm, xs, ys, h⟩ := h; ⟨dx, tl, tm, xs, ys, s _ _ h.at_ (fun _ z => by cases z), h.tl.tu (TU.ext s), h.xs.ext s, h.tm.tu (TU.ext s), h.ys.ext s⟩
/-- instances and tuples stay -/
theorem CpAt.tk {K : PySem.W.Frag} {CC p : Addr} {H H' : Hp} {c : Cp} (h : CpAt K CC H p c) (s : TK H H') : CpAt K CC H' p c := by
  obtain ⟨dx, tl, tm, xs, ys, h⟩ := h
  have t : TU H H' := fun b xs hb => s.tup hb
  exact ⟨dx, tl, tm, xs, ys, s _ _ h.at_ (fun _ z => by cases z) (fun _ z => by cases z), h.tl.tu t, h.xs.tu t (tO_cls _), h.tm.tu t, h.ys.tu t (tO_mds _)⟩
theorem CpAt.w {K : PySem.W.Frag} {CC p q : Addr} {H H' : Hp} {c : Cp} (h : CpAt K CC H p c) (w : WellAt H q) (e : Ext q H H') : CpAt K CC H' p c := h.tk (TK.ext w e)
theorem CpAt.ins {K : PySem.W.Frag} {CC p : Addr} {H : Hp} {c : Cp} (h : CpAt K CC H p c) : ∃ dx fs, H p = some (.ins CC dx fs) := let ⟨dx, _, _, _, _, h⟩ := h; ⟨dx, _, h.at_⟩
structure CcT (K : PySem.W.Frag) (mg : Str → Option Value) (CC : Addr) : Prop where
  cl : Cls K CC
  gC : mg "Copy" = some (.ref CC)
  nA : NoAttr K CC "_age"
  nM : NoAttr K CC "_mark"
  nL : NoAttr K CC "_letters"
  nD : NoAttr K CC "_made"
end K1


set_option Elab.async false
set_option linter.all false
set_option maxRecDepth 100000
set_option maxHeartbeats 4000000
/-! The class Copy: made, compared, read. -/
namespace K1
open PySem PySem.Spec PyProof.Rows L2 RZ StX
def mC (i : Nat) : Stmt := inClass st_Copy i
abbrev sCI : Stmt := mC 0
abbrev sCE : Stmt := mC 1
abbrev sCAge : Stmt := mC 2
abbrev sCMark : Stmt := mC 3
abbrev sCLet : Stmt := mC 4
abbrev sCMade : Stmt := mC 5
abbrev nCI : List Str := ["self", "age", "mark", "letters", "made"]
theorem scCI : FnScope nCI nCI (defScope sCI) := ⟨rfl, rfl, rfl, by decide +kernel, rfl, by decide +kernel, by decide +kernel⟩
abbrev nCE : List Str := ["self", "other"]
theorem scCE : FnScope nCE nCE (defScope sCE) := ⟨rfl, rfl, rfl, by decide +kernel, rfl, by decide +kernel, by decide +kernel⟩
theorem scCAge : FnScope nSelf nSelf (defScope sCAge) := ⟨rfl, rfl, rfl, by decide +kernel, rfl, by decide +kernel, by decide +kernel⟩
theorem scCMark : FnScope nSelf nSelf (defScope sCMark) := ⟨rfl, rfl, rfl, by decide +kernel, rfl, by decide +kernel, by decide +kernel⟩
theorem scCLet : FnScope nSelf nSelf (defScope sCLet) := ⟨rfl, rfl, rfl, by decide +kernel, rfl, by decide +kernel, by decide +kernel⟩
theorem scCMade : FnScope nSelf nSelf (defScope sCMade) := ⟨rfl, rfl, rfl, by decide +kernel, rfl, by decide +kernel, by decide +kernel⟩
section
variable {a l m d x y : V}
theorem fc_age : (flC a m l d).lookup ("_age" : Str) = some a := by rfl
theorem fc_mark : (flC a m l d).lookup ("_mark" : Str) = some m := by rfl
theorem fc_let : (flC a m l d).lookup ("_letters" : Str) = some l := by rfl
theorem fc_made : (flC a m l d).lookup ("_made" : Str) = some d := by rfl
theorem fc_no {x : Str} (h : (["_age", "_mark", "_letters", "_made"] : List Str).all (fun z => !(x == z)) = true) : (flC a m l d).lookup x = none := by
  simp only [List.all_cons, List.all_nil, Bool.and_true, Bool.and_eq_true, Bool.not_eq_true', beq_eq_false_iff_ne, ne_eq] at h
  obtain ⟨h1, h2, h3, h4⟩ := h
  unfold flC
  have e : ∀ {u v : Str}, u ≠ v → (u == v) = false := fun h => beq_eq_false_iff_ne.mpr h
  simp only [List.lookup, e h1, e h2, e h3, e h4]
theorem pc_all : putF "_made" d (putF "_letters" l (putF "_mark" m (putF "_age" a []))) = flC a m l d := by rfl
end
def spCI (K : PySem.W.Frag) (CC : Addr) : Sp := fun vs H Q _ => ∃ (p dx la ma : Addr) (age mr : Int) (xs ys : List V) (ls : List CL) (md : List (Int × List Str)), vs = [.ref p, .int age, .int mr, .ref la, .ref ma] ∧ H p = some (.ins CC dx []) ∧ 1 ≤ age ∧ 0 ≤ mr ∧
  SqK K H la xs ∧ DvA H xs (ls.map clD) ∧ OkLs ls ∧ SqK K H ma ys ∧ DvA H ys (md.map mdD) ∧ OkMs md ∧ ∀ H' tl tm, Ext p H H' → CpP K CC H' p ⟨age, mr, ls, md⟩ dx tl tm xs ys → Q .non H'
/-- tuple(x) of a list or a tuple -/
def rTup (K : PySem.W.Frag) : List V → Hp → VK → Prop := fun vs H Q => ∃ (a : Addr) (xs : List V), vs = [.ref a] ∧ SqK K H a xs ∧ ∀ l H', Same H H' → MT K H' l xs → Q (.ref l) H'
theorem cr_tup {X : Cx} {K : PySem.W.Frag} (h : X.K = K) : CallR X (.type "tuple") (rTup K) := by
  intro pins s σ H vs us Q I r ⟨a, xs, e, hs, q⟩
  refine call_tuple_ofK h pins s σ H vs us Q I r ?_
  subst e
  rcases hs with (h | h) | ⟨rfl, h⟩
  · exact ⟨a, xs, rfl, .inl ⟨sq h, fun l nl => q l _ (same_new nl) (.inl upd_same)⟩⟩
  · exact ⟨a, xs, rfl, .inr ⟨st h, q a H (fun _ _ h => h) (.inl h)⟩⟩
  · exact ⟨a, [], rfl, .inr ⟨kemp_st h, q a H (fun _ _ h => h) (.inr ⟨rfl, h⟩)⟩⟩
theorem MT.own {K : PySem.W.Frag} {H : Hp} {t : Addr} {ys : List V} (h : MT K H t ys) (n : ¬ KEmp K t) : H t = some (.tup ys) := h.resolve_right fun ⟨_, k⟩ => n k
def spCAge (K : PySem.W.Frag) (CC : Addr) : Sp := fun vs H Q _ => ∃ (p : Addr) (c : Cp), vs = [.ref p] ∧ CpAt K CC H p c ∧ Q (.int c.age) H
def spCMark (K : PySem.W.Frag) (CC : Addr) : Sp := fun vs H Q _ => ∃ (p : Addr) (c : Cp), vs = [.ref p] ∧ CpAt K CC H p c ∧ Q (.int c.mr) H
def spCLet (K : PySem.W.Frag) (CC : Addr) : Sp := fun vs H Q _ => ∃ (p : Addr) (c : Cp), vs = [.ref p] ∧ CpAt K CC H p c ∧ ∀ l xs H', Same H H' → H l = none → H' l = some (.lst xs) → DvA H' xs (c.ls.map clD) → Q (.ref l) H'
def spCMade (K : PySem.W.Frag) (CC : Addr) : Sp := fun vs H Q _ => ∃ (p : Addr) (c : Cp), vs = [.ref p] ∧ CpAt K CC H p c ∧ ∀ l ys H', Same H H' → H l = none → H' l = some (.lst ys) → DvA H' ys (c.md.map mdD) → Q (.ref l) H'
/-- two copies, and whether they are alike -/
def CpEq (K : PySem.W.Frag) (CC : Addr) (a b : Addr) (r : Bool) (H : Hp) : Prop := ∃ c d, CpAt K CC H a c ∧ CpAt K CC H b d ∧ (∀ l ∈ c.ls, OkCL l) ∧ (∀ l ∈ d.ls, OkCL l) ∧ (∀ m ∈ c.md, OkMd m) ∧ (∀ m ∈ d.md, OkMd m) ∧ r = decide (c = d)
section
variable {P : Program} {w : World} {K : PySem.W.Frag} {mg : Str → Option Value} {base : Heap} {CC : Addr}
set_option maxHeartbeats 8000000 in
theorem ok_ci {f E0' : Addr} {fd : FuncData} (T : Bk mg) (t : CcT K mg CC) (D_is_number : Def P w K mg base CX0 2 "is_number" pV spNum) (D_is_mark : Def P w K mg base CX0 2 "is_mark" pV spBody) (D_al : Def P w K mg base CX0 3 "_are_letters" pV (spAl K)) (D_am : Def P w K mg base CX0 3 "_are_made" pV (spAm K))
    (F : FunD K "__init__" "Copy.__init__" (defArgs sCI) (defBody sCI) (defScope sCI) [.ref E0'] [] f fd) : FnOk P w K mg base CX0 4 f fd nCI (spCI K CC) := by
  have nd := scCI.nd
  refine F.ok scCI (fun vs H Q E h => ?_) (fun cdv A outer s H vs Q E hr h => ?_)
  · obtain ⟨p, dx, la, ma, age, mr, xs, ys, ls, md, rfl, _⟩ := h
    rfl
  · obtain ⟨p, dx, la, ma, age, mr, xs, ys, ls, md, rfl, hp, ha, hm, hS, hA, okl, hM, hB, okm, q⟩ := h
    refine ⟨_, (pss_cons (ps_if (pt_not (pt_val (pe_def D_is_number (hr.mono (by decide)) rfl pass0 (pa_cons (pv 1) pa_nil)))) pss_any pss_nil)
 (pss_cons (ps_if (pt_not (pt_val (pe_def D_is_mark (hr.mono (by decide)) rfl pass0 (pa_cons (pv 2) pa_nil)))) pss_any pss_nil)
 (pss_cons (ps_if (pt_not (pt_val (pe_def D_al (hr.mono (by decide)) rfl pass0 (pa_cons (pv 3) pa_nil)))) pss_any pss_nil)
 (pss_cons (ps_if (pt_not (pt_val (pe_def D_am (hr.mono (by decide)) rfl pass0 (pa_cons (pv 4) pa_nil)))) pss_any pss_nil)
 (pss_cons (ps_fld (pv 0) (pv 1) rfl)
 (pss_cons (ps_fld (pv 0) (pv 2) rfl)
 (pss_cons (ps_fld (pv 0) (pe_callTy (cr_tup (K := K) rfl) (by rfl) T.tuple PyProof.Rows.boot_tuple (pa_cons (pv 3) pa_nil)) rfl)
 (pss_one (ps_fld (pv 0) (pe_callTy (cr_tup (K := K) rfl) (by rfl) T.tuple PyProof.Rows.boot_tuple (pa_cons (pv 4) pa_nil)) rfl))))))))), ?_⟩
    refine ⟨_, rfl, age, rfl, ha, _, rfl, itbF rfl ?_⟩
    refine ⟨_, rfl, mr, rfl, hm, _, rfl, itbF rfl ?_⟩
    refine ⟨_, rfl, la, xs, ls, rfl, hS, hA, okl, fun H1 s1 => ⟨_, rfl, itbF rfl ?_⟩⟩
    refine ⟨_, rfl, ma, ys, md, rfl, hM.ext (LamX.ExtN.of s1), hB.same s1, okm, fun H2 s2 => ⟨_, rfl, itbF rfl ?_⟩⟩
    have s12 := s1.trans s2
    have hp2 := s12 _ _ hp
    have hS2 := hS.ext (LamX.ExtN.of s12)
    have hM2 := hM.ext (LamX.ExtN.of s12)
    have e0 : Ext p H H2 := same_ext s12
    refine ⟨_, rfl, _, rfl, p, CC, dx, [], rfl, hp2, t.cl, t.nA, by show 0 < 1000; decide, ?_⟩
    refine ⟨_, rfl, _, rfl, p, CC, dx, _, rfl, upd_same, t.cl, t.nM, by show 1 < 1000; decide, ?_⟩
    rw [upd_upd]
    have tu : TU H2 (upd H2 p (.ins CC dx (putF "_mark" (.int mr) (putF "_age" (.int age) [])))) := TU.mut hp2 fun _ z => by cases z
    have hp3 : (upd H2 p (.ins CC dx (putF "_mark" (.int mr) (putF "_age" (.int age) [])))) p = _ := upd_same
    have e3 : Ext p H (upd H2 p (.ins CC dx (putF "_mark" (.int mr) (putF "_age" (.int age) [])))) := e0.self
    have hS3 : SqK K (upd H2 p (.ins CC dx (putF "_mark" (.int mr) (putF "_age" (.int age) [])))) la xs := hS2.imp (fun h => h.imp (fun h => by rw [upd_ne (fun z => by rw [z, hp2] at h; cases h)]; exact h) (tu _ _)) id
    have hM3 : SqK K (upd H2 p (.ins CC dx (putF "_mark" (.int mr) (putF "_age" (.int age) [])))) ma ys := hM2.imp (fun h => h.imp (fun h => by rw [upd_ne (fun z => by rw [z, hp2] at h; cases h)]; exact h) (tu _ _)) id
    generalize upd H2 p (.ins CC dx (putF "_mark" (.int mr) (putF "_age" (.int age) []))) = H3 at tu hp3 e3 hS3 hM3
    refine ⟨_, rfl, la, xs, rfl, hS3, fun tl H4 s4 htl => ?_⟩
    have hp4 := s4 _ _ hp3
    refine ⟨_, rfl, p, CC, dx, _, rfl, hp4, t.cl, t.nL, by show 2 < 1000; decide, ?_⟩
    have tu4 : TU H4 (upd H4 p (.ins CC dx (putF "_letters" (.ref tl) (putF "_mark" (.int mr) (putF "_age" (.int age) []))))) := TU.mut hp4 fun _ z => by cases z
    have hp5 : (upd H4 p (.ins CC dx (putF "_letters" (.ref tl) (putF "_mark" (.int mr) (putF "_age" (.int age) []))))) p = _ := upd_same
    have e5 : Ext p H (upd H4 p (.ins CC dx (putF "_letters" (.ref tl) (putF "_mark" (.int mr) (putF "_age" (.int age) []))))) := (e3.trans (same_ext s4)).self
    have hM5 : SqK K (upd H4 p (.ins CC dx (putF "_letters" (.ref tl) (putF "_mark" (.int mr) (putF "_age" (.int age) []))))) ma ys := (hM3.ext (LamX.ExtN.of s4)).imp (fun h => h.imp (fun h => by rw [upd_ne (fun z => by rw [z, hp4] at h; cases h)]; exact h) (tu4 _ _)) id
    have htl5 := htl.tu tu4
    generalize upd H4 p (.ins CC dx (putF "_letters" (.ref tl) (putF "_mark" (.int mr) (putF "_age" (.int age) [])))) = H5 at tu4 hp5 e5 hM5 htl5
    refine ⟨_, rfl, ma, ys, rfl, hM5, fun tm H6 s6 htm => ?_⟩
    have hp6 := s6 _ _ hp5
    refine ⟨_, rfl, p, CC, dx, _, rfl, hp6, t.cl, t.nD, by show 3 < 1000; decide, ?_⟩
    rw [pc_all]
    have tu6 : TU H6 (upd H6 p (.ins CC dx (flC (.int age) (.int mr) (.ref tl) (.ref tm)))) := TU.mut hp6 fun _ z => by cases z
    have tuA : TU H (upd H6 p (.ins CC dx (flC (.int age) (.int mr) (.ref tl) (.ref tm)))) := ((((TU.same s12).trans tu).trans (TU.same s4)).trans tu4).trans ((TU.same s6).trans tu6)
    exact q _ tl tm (e5.trans (same_ext s6)).self ⟨upd_same, (htl5.tu (TU.same s6)).tu tu6, hA.tu tuA (tO_cls _), htm.tu tu6, hB.tu tuA (tO_mds _)⟩
theorem ok_cage {f : Addr} {fd : FuncData} (t : CcT K mg CC) (F : Fun K "age" "Copy.age" sCAge f fd) : FnOk P w K mg base CX0 1 f fd nSelf (spCAge K CC) := by
  refine F.ok scCAge (fun vs H Q E h => ?_) (fun cdv A outer s H vs Q E hr h => ?_)
  · obtain ⟨p, F, rfl, _⟩ := h
    rfl
  · obtain ⟨p, c, rfl, ⟨dx, tl, tm, xs, ys, h⟩, q⟩ := h
    exact ⟨_, pss_one (ps_ret (pe_fld (pv 0) rfl)), ⟨_, rfl, p, CC, dx, _, _, rfl, h.at_, t.cl, t.nA, fc_age, q⟩⟩
theorem ok_cmark {f : Addr} {fd : FuncData} (t : CcT K mg CC) (F : Fun K "mark" "Copy.mark" sCMark f fd) : FnOk P w K mg base CX0 1 f fd nSelf (spCMark K CC) := by
  refine F.ok scCMark (fun vs H Q E h => ?_) (fun cdv A outer s H vs Q E hr h => ?_)
  · obtain ⟨p, F, rfl, _⟩ := h
    rfl
  · obtain ⟨p, c, rfl, ⟨dx, tl, tm, xs, ys, h⟩, q⟩ := h
    exact ⟨_, pss_one (ps_ret (pe_fld (pv 0) rfl)), ⟨_, rfl, p, CC, dx, _, _, rfl, h.at_, t.cl, t.nM, fc_mark, q⟩⟩
theorem ok_clet {f : Addr} {fd : FuncData} (T : Bk mg) (t : CcT K mg CC) (F : Fun K "letters" "Copy.letters" sCLet f fd) : FnOk P w K mg base CX0 1 f fd nSelf (spCLet K CC) := by
  refine F.ok scCLet (fun vs H Q E h => ?_) (fun cdv A outer s H vs Q E hr h => ?_)
  · obtain ⟨p, F, rfl, _⟩ := h
    rfl
  · obtain ⟨p, c, rfl, ⟨dx, tl, tm, xs, ys, h⟩, q⟩ := h
    refine ⟨_, pss_one (ps_ret (pe_callTy (call_list_ofK (K := K) rfl) (by rfl) T.list PyProof.Rows.boot_list (pa_cons (pe_fld (pv 0) rfl) pa_nil))), ?_⟩
    exact ⟨_, rfl, p, CC, dx, _, _, rfl, h.at_, t.cl, t.nL, fc_let, tl, xs, rfl, .inr h.tl.st, fun l nl => q l xs _ (same_new nl) nl upd_same (h.xs.same (same_new nl))⟩
theorem ok_cmade {f : Addr} {fd : FuncData} (T : Bk mg) (t : CcT K mg CC) (F : Fun K "made" "Copy.made" sCMade f fd) : FnOk P w K mg base CX0 1 f fd nSelf (spCMade K CC) := by
  refine F.ok scCMade (fun vs H Q E h => ?_) (fun cdv A outer s H vs Q E hr h => ?_)
  · obtain ⟨p, F, rfl, _⟩ := h
    rfl
  · obtain ⟨p, c, rfl, ⟨dx, tl, tm, xs, ys, h⟩, q⟩ := h
    refine ⟨_, pss_one (ps_ret (pe_callTy (call_list_ofK (K := K) rfl) (by rfl) T.list PyProof.Rows.boot_list (pa_cons (pe_fld (pv 0) rfl) pa_nil))), ?_⟩
    exact ⟨_, rfl, p, CC, dx, _, _, rfl, h.at_, t.cl, t.nD, fc_made, tm, ys, rfl, .inr h.tm.st, fun l nl => q l ys _ (same_new nl) nl upd_same (h.ys.same (same_new nl))⟩
set_option maxHeartbeats 8000000 in
theorem ok_ce {f : Addr} {fd : FuncData} (T : Bk mg) (t : CcT K mg CC) (iC : C8.InsC K CC) (F : Fun K "__eq__" "Copy.__eq__" sCE f fd) : FnOk P w K mg base CX0 1 f fd nCE (spEqB (CpEq K CC)) := by
  have nd := scCE.nd
  refine F.ok scCE (fun vs H Q E h => ?_) (fun cdv A outer s H vs Q E hr h => ?_)
  · obtain ⟨a, b, r, rfl, _⟩ := h
    rfl
  · obtain ⟨a, b, r, rfl, ⟨c, d, ⟨dA, lA, gA, xA, yA, hA⟩, ⟨dB, lB, gB, xB, yB, hB⟩, oc, od, mc, md, rfl⟩, q⟩ := h
    refine ⟨_, (pss_one (ps_ret (pe_and (pe_callB (C8.call_isC iC) (by rfl) T.isinstance PyProof.Rows.boot_isinstance (pa_cons (pv 1) (pa_cons (pe_glob (v := .ref CC) rfl t.gC rfl) pa_nil)))
      (pe_and (pe_cmpR op_eq (pe_fld (pv 0) rfl) (pe_fld (pv 1) rfl) (nomark _)) (pe_and (pe_cmpR op_eq (pe_fld (pv 0) rfl) (pe_fld (pv 1) rfl) (nomark _)) (pe_and (pe_cmpR (op_eqDK (K := K) rfl hr.units) (pe_fld (pv 0) rfl) (pe_fld (pv 1) rfl) (nomark _))
       (pe_one (pe_cmpR (op_eqDK (K := K) rfl hr.units) (pe_fld (pv 0) rfl) (pe_fld (pv 1) rfl) (nomark _))))))))), ?_⟩
    have lc := lay_cls oc
    have ld := lay_cls od
    have mcl := lay_mds mc
    have mdl := lay_mds md
    have fin := q H (fun _ _ h => h)
    have exq : ∀ {e : Bool}, e = decide (c = d) → Q (.bl e) H := fun h => by rw [h]; exact fin
    refine ⟨_, rfl, b, dB, _, rfl, hB.at_, _, rfl, itbT rfl ?_⟩
    refine ⟨_, rfl, a, CC, dA, _, _, rfl, hA.at_, t.cl, t.nA, fc_age, _, rfl, b, CC, dB, _, _, rfl, hB.at_, t.cl, t.nA, fc_age, rfl, _, rfl, ?_⟩
    by_cases c1 : c.age = d.age
    · refine itbT (by rw [c1]; exact decide_eq_true rfl) ?_
      refine ⟨_, rfl, a, CC, dA, _, _, rfl, hA.at_, t.cl, t.nM, fc_mark, _, rfl, b, CC, dB, _, _, rfl, hB.at_, t.cl, t.nM, fc_mark, rfl, _, rfl, ?_⟩
      by_cases c2 : c.mr = d.mr
      · refine itbT (by rw [c2]; exact decide_eq_true rfl) ?_
        refine ⟨_, rfl, a, CC, dA, _, _, rfl, hA.at_, t.cl, t.nL, fc_let, _, rfl, b, CC, dB, _, _, rfl, hB.at_, t.cl, t.nL, fc_let, clsD c.ls, clsD d.ls, .tup hA.tl.st (hA.xs.dp (by have := lc.nd; exact this)), .tup hB.tl.st (hB.xs.dp (by have := ld.nd; exact this)), lc.sh, ld.sh, _, rfl, ?_⟩
        by_cases c3 : c.ls = d.ls
        · refine itbT (by rw [eqv_cls]; exact decide_eq_true c3) ?_
          refine ⟨_, rfl, a, CC, dA, _, _, rfl, hA.at_, t.cl, t.nD, fc_made, _, rfl, b, CC, dB, _, _, rfl, hB.at_, t.cl, t.nD, fc_made, mdsD c.md, mdsD d.md, .tup hA.tm.st (hA.ys.dp (by have := mcl.nd; exact this)), .tup hB.tm.st (hB.ys.dp (by have := mdl.nd; exact this)), mcl.sh, mdl.sh, ?_⟩
          refine exq ?_
          rw [eqv_mds]
          obtain ⟨a1, a2, a3, a4⟩ := c
          obtain ⟨b1, b2, b3, b4⟩ := d
          dsimp only at c1 c2 c3
          subst c1 c2 c3
          by_cases c4 : a4 = b4 <;> simp [c4]
        · refine itbF (by rw [eqv_cls]; exact decide_eq_false c3) (exq ?_)
          rw [decide_eq_false fun e => c3 (by rw [e])]
      · refine itbF (by exact decide_eq_false fun e => c2 (V.int.inj e)) (exq ?_)
        rw [decide_eq_false fun e => c2 (by rw [e])]
    · refine itbF (by exact decide_eq_false fun e => c1 (V.int.inj e)) (exq ?_)
      rw [decide_eq_false fun e => c1 (by rw [e])]
end
end K1


set_option Elab.async false
set_option linter.all false
set_option maxRecDepth 100000
set_option maxHeartbeats 4000000
/-! Copies that are changed; copy_of. -/
namespace K1
open PySem PySem.Spec PyProof.Rows L2 RZ StX
theorem tO_cl (l : CL) : tO (clD l) = true := by
  show (true && (true && (tOA (l.s.map PyData.str) && (tO (wD l.w) && true)))) = true
  rw [tO_strs, tO_w]; rfl
theorem tO_md (m : Int × List Str) : tO (mdD m) = true := by
  show (true && (tOA (m.2.map PyData.str) && true)) = true
  rw [tO_strs]; rfl
/-- x + y of two tuples -/
def rCatM (K : PySem.W.Frag) : R2 := fun x y H Q => ∃ a b xs ys, x = V.ref a ∧ y = V.ref b ∧ MT K H a xs ∧ MT K H b ys ∧ xs.length + ys.length ≤ 2000 ∧ ∀ l H', Same H H' → MT K H' l (xs ++ ys) → Q (.ref l) H'
theorem op_catM {X : Cx} {K : PySem.W.Frag} (h : X.K = K) : OpR X (binaryOp .Add) (rCatM K) := by
  intro pins s σ H x y v u Q I rx ry ⟨a, b, xs, ys, e1, e2, ha, hb, hl, q⟩
  subst h
  refine op_catA pins s σ H x y v u Q I rx ry ⟨a, b, xs, ys, e1, e2, ha.st, hb.st, by have : sizeLine = sizeLine := rfl; exact Nat.le_trans hl (by decide), fun e => ?_, fun _ e => ?_, fun _ _ p np => q p _ (same_new np) (.inl upd_same)⟩
  · subst e; exact q b H (fun _ _ h => h) hb
  · subst e; exact q a H (fun _ _ h => h) (by rw [List.append_nil]; exact ha)
/-- a comprehension that makes what stays with the tuples -/
theorem lc_tu {J : It} {xs : List V} {Gd : Hp → Prop} (wk : Walk J xs.length Gd (YAt xs)) {α β : Type} {R : V → α → Prop} {ls : List α} (hA : A2 R xs ls) {H1 : Hp} {D : Addr} (hD : H1 D = none) (hG : ∀ G, Same H1 G → Gd G) (hl : xs.length ≤ 1000) (φ : α → Option β)
    (Pd : Hp → V → β → Prop) (mono : ∀ H G x b, TU H G → Pd H x b → Pd G x b) {g : TG} {tt : TT} {te : TE} {vs : List Nat} {σ : L2.St} {Qd : Hp → Prop}
    (hs : ∀ x a G (T : V → Hp → Prop) (S : Hp → Prop), R x a → a ∈ ls → Same H1 G → (∀ y b G', Same G G' → φ a = some b → Pd G' y b → T y G') → (∀ G', Same G G' → φ a = none → S G') → g x (wipe σ vs) G fun σ2 H2 => wipe σ2 vs = wipe σ vs ∧ tt σ2 H2 fun b H3 => if b = true then te σ2 H3 T else S H3)
    (hd : ∀ G acc, Same H1 G → G D = some (.lst acc) → A2 (Pd G) acc (ls.filterMap φ) → Qd G) :
    ∃ W : Nat → Nat → Hp → Prop, (∃ m, W 0 m (upd H1 D (.lst []))) ∧ ∀ i m H, W i m H →
      (J.stop i H ∧ Qd H) ∨ (J.go i H ∧ ∃ Nx : Hp → Prop, (∀ H', Nx H' → ∃ m', m' < m ∧ W (i + 1) m' H') ∧ ∀ x H', J.yld i H x H' → g x (wipe σ vs) H' fun σ2 H2 => wipe σ2 vs = wipe σ vs ∧ tt σ2 H2 fun b H3 =>
        if b = true then te σ2 H3 fun y H4 => ∃ acc, H4 D = some (.lst acc) ∧ acc.length < sizeLine ∧ Nx (upd H4 D (.lst (acc ++ [y]))) else Nx H3) := by
  refine lc_it wk (fun i G => Same H1 G ∧ ∃ acc, G D = some (.lst acc) ∧ acc.length ≤ i ∧ A2 (Pd G) acc ((ls.take i).filterMap φ)) ⟨same_new hD, [], upd_same, Nat.zero_le _, .nil⟩ (fun i G _ h => hG _ h.1) ?_ ?_
  · rintro i x G G' hi ⟨s1, acc, hacc, hla, ha⟩ ⟨rfl, hx⟩
    obtain ⟨a, hai, hR⟩ := hA.get hx
    refine hs x a G' _ _ hR (List.mem_of_getElem? hai) s1 (fun y b G2 s2 e o => ?_) fun G2 s2 e => ?_
    · have hacc2 := s2 _ _ hacc
      have tm : TU G2 (upd G2 D (.lst (acc ++ [y]))) := TU.mut hacc2 fun _ z => by cases z
      refine ⟨acc, hacc2, lt1 _ (by omega), (s1.trans s2).mut hD, _, upd_same, by rw [List.length_append]; show acc.length + 1 ≤ _; omega, ?_⟩
      rw [take_fm φ hai, e]
      exact (ha.imp fun _ _ h => mono _ _ _ _ ((TU.same s2).trans tm) h).app (.cons (mono _ _ _ _ tm o) .nil)
    · refine ⟨s1.trans s2, acc, s2 _ _ hacc, by omega, ?_⟩
      rw [take_fm φ hai, e]
      show A2 _ acc (_ ++ [])
      rw [List.append_nil]; exact ha.imp fun _ _ h => mono _ _ _ _ (TU.same s2) h
  · rintro G ⟨s1, acc, hacc, _, ha⟩
    refine hd G acc s1 hacc ?_
    rw [hA.len, List.take_length] at ha
    exact ha
structure MkCc (P : Program) (w : World) (K : PySem.W.Frag) (mg : Str → Option Value) (base : Heap) (CC E0' : Addr) : Prop where
  ex : ∃ (f : Addr) (fd : FuncData) (ds : List Value), Mk K CC f ∧ Binds K fd nCI [] ∧ Binds K fd nCI ds ∧ Vals [.ref E0'] ds ∧ FnOk P w K mg base CX0 4 f fd nCI (spCI K CC)
  emp : KEmp K E0'
section
variable {X : Cx} {CC E0' : Addr} {e : Expr} {es : List Expr} {t : TA} {p pos : Pos}
theorem pe_newC4 (D : MkCc X.prog X.w X.K X.mg X.base CC E0') (gC : X.mg "Copy" = some (.ref CC)) (hr : Room 5 X.A) (hg : Gl X "Copy") (ha : PA X (e :: es) t)
    (he : starEach (e :: es) X.env = (false, eval e X.env) :: starEach es X.env := by rfl) (hpl : (backTo pos (starEach es X.env)).any (·.1) = false := by rfl) : PE X (.Call (.Name "Copy" p) (e :: es) [] pos) (tMake CC (spCI X.K CC) [] E0 t) := by
  obtain ⟨f, fd, ds, hm, hb, _, _, F⟩ := D.ex
  exact pe_make hm F hr hg gC hb .nil pass0 ha (he := he) (hpl := hpl)
theorem pe_newC3 (D : MkCc X.prog X.w X.K X.mg X.base CC E0') (gC : X.mg "Copy" = some (.ref CC)) (hr : Room 5 X.A) (hg : Gl X "Copy") (ha : PA X (e :: es) t)
    (he : starEach (e :: es) X.env = (false, eval e X.env) :: starEach es X.env := by rfl) (hpl : (backTo pos (starEach es X.env)).any (·.1) = false := by rfl) : PE X (.Call (.Name "Copy" p) (e :: es) [] pos) (tMake CC (spCI X.K CC) [.ref E0'] E0 t) := by
  obtain ⟨f, fd, ds, hm, _, hb, hv, F⟩ := D.ex
  exact pe_make hm F hr hg gC hb hv pass0 ha (he := he) (hpl := hpl)
end
/-- what the making of a copy asks -/
theorem newC {K : PySem.W.Frag} {CC la ma : Addr} {H : Hp} {age mr : Int} {xs ys : List V} {ls : List CL} {md : List (Int × List Str)} {Q : VK} {vs : List V} {dvs : List V} (e : vs ++ dvs = [.int age, .int mr, .ref la, .ref ma]) (ha : 1 ≤ age) (hm : 0 ≤ mr) (hS : SqK K H la xs) (hA : DvA H xs (ls.map clD)) (okl : OkLs ls) (hM : SqK K H ma ys) (hB : DvA H ys (md.map mdD)) (okm : OkMs md)
    (q : ∀ x H', Same H H' → H x = none → CpAt K CC H' x ⟨age, mr, ls, md⟩ → Q (.ref x) H') : ∀ x dx, H x = none → H dx = none → dx ≠ x → spCI K CC (.ref x :: (vs ++ dvs)) (upd (upd H dx (.own x)) x (.ins CC dx [])) (fun v H2 => v = .non ∧ Q (.ref x) H2) E0 := by
  intro x dx nx ndx hne
  have s1 : Same H (upd (upd H dx (.own x)) x (.ins CC dx [])) := fun b o hb => by
    rw [upd_ne (ne_of_none hb nx), upd_ne (ne_of_none hb ndx)]; exact hb
  refine ⟨x, dx, la, ma, age, mr, xs, ys, ls, md, by rw [e], upd_same, ha, hm, hS.ext (LamX.ExtN.of s1), hA.same s1, okl, hM.ext (LamX.ExtN.of s1), hB.same s1, okm, fun H' tl tm e' h => ⟨rfl, ?_⟩⟩
  exact q x H' (fun b o hb => e' _ _ (ne_of_none hb nx) (s1 _ _ hb)) nx ⟨dx, tl, tm, xs, ys, h⟩
theorem newC' {K : PySem.W.Frag} {CC la ma x dx : Addr} {H : Hp} {age mr : Int} {xs ys : List V} {ls : List CL} {md : List (Int × List Str)} {Qx : Hp → Prop} (nx : H x = none) (ndx : H dx = none) (hne : dx ≠ x) (ha : 1 ≤ age) (hm : 0 ≤ mr) (hS : SqK K H la xs) (hA : DvA H xs (ls.map clD)) (okl : OkLs ls) (hM : SqK K H ma ys) (hB : DvA H ys (md.map mdD)) (okm : OkMs md)
    (q : ∀ H', Same H H' → CpAt K CC H' x ⟨age, mr, ls, md⟩ → Qx H') : spCI K CC [.ref x, .int age, .int mr, .ref la, .ref ma] (upd (upd H dx (.own x)) x (.ins CC dx [])) (fun v H2 => v = .non ∧ Qx H2) E0 := by
  have s1 : Same H (upd (upd H dx (.own x)) x (.ins CC dx [])) := fun b o hb => by
    rw [upd_ne (ne_of_none hb nx), upd_ne (ne_of_none hb ndx)]; exact hb
  refine ⟨x, dx, la, ma, age, mr, xs, ys, ls, md, rfl, upd_same, ha, hm, hS.ext (LamX.ExtN.of s1), hA.same s1, okl, hM.ext (LamX.ExtN.of s1), hB.same s1, okm, fun H' tl tm e' h => ⟨rfl, ?_⟩⟩
  exact q H' (fun b o hb => e' _ _ (ne_of_none hb nx) (s1 _ _ hb)) ⟨dx, tl, tm, xs, ys, h⟩
def setW (n : Int) (w : Option (List Str)) (l : CL) : CL := if l.n = n then { l with w := w } else l
def cpW (c : Cp) (n : Int) (w : Option (List Str)) : Cp := { c with ls := c.ls.map (setW n w) }
def cpM (c : Cp) (b : Int) (ss : List Str) : Cp := { c with md := c.md ++ [(b, ss)] }
theorem setW_n (n : Int) (w : Option (List Str)) (l : CL) : (setW n w l).n = l.n := by unfold setW; split <;> rfl
theorem map_setW (n : Int) (w : Option (List Str)) (ls : List CL) : (ls.map (setW n w)).map (·.n) = ls.map (·.n) := by
  rw [List.map_map]; exact List.map_congr_left fun l _ => setW_n n w l
theorem okLs_W {ls : List CL} {n : Int} {w : Option (List Str)} (h : OkLs ls) (hw : ∀ ss, w = some ss → OkSs ss) : OkLs (ls.map (setW n w)) := by
  refine ⟨fun l hl => ?_, by rw [map_setW]; exact h.up, by rw [List.length_map]; exact h.len⟩
  obtain ⟨x, hx, rfl⟩ := List.mem_map.mp hl
  have o := h.ok x hx
  unfold setW
  split
  · exact ⟨o.n, o.b, o.s, hw⟩
  · exact o
theorem okCp_W {c : Cp} {n : Int} {w : Option (List Str)} (h : OkCp c) (hw : ∀ ss, w = some ss → OkSs ss) : OkCp (cpW c n w) := ⟨h.age, h.mr, okLs_W h.ls hw, h.md⟩
theorem okCp_M {c : Cp} {b : Int} {ss : List Str} (h : OkCp c) (hb : 0 ≤ b) (hs : OkSs ss) (hl : c.md.length < 900) : OkCp (cpM c b ss) :=
  ⟨h.age, h.mr, h.ls, fun m hm => (List.mem_append.mp hm).elim (h.md.ok m) fun z => by rw [List.mem_singleton.mp z]; exact ⟨hb, hs⟩, by show (c.md ++ _).length ≤ 900; rw [List.length_append]; show c.md.length + 1 ≤ 900; omega⟩
abbrev sCWt : Stmt := mC 6
abbrev sCDr : Stmt := mC 7
abbrev sCMk : Stmt := mC 8
abbrev sCCk : Stmt := mC 9
abbrev sCWW : Stmt := mC 10
abbrev sCo : Stmt := st_copy_of
abbrev sCf : Stmt := st__check_folder
abbrev nCWt : List Str := ["self", "number", "signs"]
theorem scCWt : FnScope nCWt nCWt (defScope sCWt) := ⟨rfl, rfl, rfl, by decide +kernel, rfl, by decide +kernel, by decide +kernel⟩
abbrev nCDr : List Str := ["self", "number"]
theorem scCDr : FnScope nCDr nCDr (defScope sCDr) := ⟨rfl, rfl, rfl, by decide +kernel, rfl, by decide +kernel, by decide +kernel⟩
abbrev nCMk : List Str := ["self", "body", "signs"]
theorem scCMk : FnScope nCMk nCMk (defScope sCMk) := ⟨rfl, rfl, rfl, by decide +kernel, rfl, by decide +kernel, by decide +kernel⟩
abbrev nCCk : List Str := ["self", "number", "letter"]
theorem scCCk : FnScope nCCk nCDr (defScope sCCk) := ⟨rfl, rfl, rfl, by decide +kernel, rfl, by decide +kernel, by decide +kernel⟩
abbrev nCWW : List Str := ["self", "number", "wanted", "rows", "row"]
abbrev pCWW : List Str := ["self", "number", "wanted"]
theorem scCWW : FnScope nCWW pCWW (defScope sCWW) := ⟨rfl, rfl, rfl, by decide +kernel, rfl, by decide +kernel, by decide +kernel⟩
abbrev nCo : List Str := ["folder", "rows", "number", "body", "signs", "_"]
abbrev pCo : List Str := ["folder"]
theorem scCo : FnScope nCo pCo (defScope sCo) := ⟨rfl, rfl, rfl, by decide +kernel, rfl, by decide +kernel, by decide +kernel⟩
theorem scCf : FnScope pCo pCo (defScope sCf) := ⟨rfl, rfl, rfl, by decide +kernel, rfl, by decide +kernel, by decide +kernel⟩
def spWW (K : PySem.W.Frag) (CC : Addr) : Sp := fun vs H Q _ => ∃ (p : Addr) (n : Int) (wv : V) (c : Cp) (wo : Option (List Str)), vs = [.ref p, .int n, wv] ∧ CpAt K CC H p c ∧ OkCp c ∧ WV H wv wo ∧ (∀ ss, wo = some ss → OkSs ss) ∧ ∀ q H', Same H H' → H q = none → CpAt K CC H' q (cpW c n wo) → Q (.ref q) H'
def spCk (K : PySem.W.Frag) (CC : Addr) : Sp := fun vs H Q _ => ∃ (p : Addr) (n : Int) (c : Cp), vs = [.ref p, .int n] ∧ CpAt K CC H p c ∧ OkCp c ∧ n ∈ c.ls.map (·.n) ∧ ∀ H', Same H H' → Q .non H'
def spWt (K : PySem.W.Frag) (CC : Addr) : Sp := fun vs H Q _ => ∃ (p : Addr) (n : Int) (sa : Addr) (c : Cp) (ss : List Str), vs = [.ref p, .int n, .ref sa] ∧ CpAt K CC H p c ∧ OkCp c ∧ n ∈ c.ls.map (·.n) ∧ H sa = some (.tup (ss.map V.str)) ∧ OkSs ss ∧ ∀ q H', Same H H' → H q = none → CpAt K CC H' q (cpW c n (some ss)) → Q (.ref q) H'
def spDr (K : PySem.W.Frag) (CC : Addr) : Sp := fun vs H Q _ => ∃ (p : Addr) (n : Int) (c : Cp), vs = [.ref p, .int n] ∧ CpAt K CC H p c ∧ OkCp c ∧ n ∈ c.ls.map (·.n) ∧ ∀ q H', Same H H' → H q = none → CpAt K CC H' q (cpW c n none) → Q (.ref q) H'
def spMkg (K : PySem.W.Frag) (CC : Addr) : Sp := fun vs H Q _ => ∃ (p : Addr) (b : Int) (sa : Addr) (c : Cp) (ss : List Str), vs = [.ref p, .int b, .ref sa] ∧ CpAt K CC H p c ∧ OkCp c ∧ 0 ≤ b ∧ H sa = some (.tup (ss.map V.str)) ∧ OkSs ss ∧ c.md.length < 900 ∧ ∀ q H', Same H H' → H q = none → CpAt K CC H' q (cpM c b ss) → Q (.ref q) H'
def spCf (C : Addr) : Sp := fun vs H Q _ => ∃ (p : Addr) (F : Fo), vs = [.ref p] ∧ FoAt C H p F ∧ Q .non H
def clF (l : Lt) : CL := ⟨l.n, l.b, l.s, some l.s⟩
def cpF (F : Fo) : Cp := ⟨F.age, F.mr, F.ls.map clF, []⟩
theorem okCp_F {k : Nat} {F : Fo} (hk : k ≤ 900) (h : GA k F) : OkCp (cpF F) := by
  refine ⟨h.g.wf.age, h.g.mr.1, ⟨fun l hl => ?_, ?_, ?_⟩, ⟨fun m hm => (by cases hm), Nat.zero_le _⟩⟩
  · obtain ⟨x, hx, rfl⟩ := List.mem_map.mp hl
    have i := h.g.it x hx
    have s := h.g.wf.sg x hx
    exact ⟨i.1, i.2.2, s, fun ss e => by rw [← Option.some.inj e]; exact s⟩
  · show ((F.ls.map clF).map (·.n)).Pairwise _
    rw [List.map_map]; exact h.a.up
  · have := h.g.wf.len
    show (F.ls.map clF).length ≤ 900
    rw [List.length_map]; omega
def spCo (K : PySem.W.Frag) (C CC : Addr) : Sp := fun vs H Q _ => ∃ (p : Addr) (F : Fo) (k : Nat), vs = [.ref p] ∧ FoAt C H p F ∧ GA k F ∧ k ≤ 900 ∧ ∀ q H', Same H H' → H q = none → CpAt K CC H' q (cpF F) → Q (.ref q) H'
section
variable {P : Program} {w : World} {K : PySem.W.Frag} {mg : Str → Option Value} {base : Heap} {C CC E0' : Addr}
set_option maxHeartbeats 8000000 in
theorem ok_ww {f : Addr} {fd : FuncData} (T : Bk mg) (t : CcT K mg CC) (D_new : MkCc P w K mg base CC E0') (F : Fun K "_with_wanted" "Copy._with_wanted" sCWW f fd) : FnOk P w K mg base CX0 6 f fd pCWW (spWW K CC) := by
  have nd := scCWW.nd
  refine F.ok scCWW (fun vs H Q E h => ?_) (fun cdv A outer s H vs Q E hr h => ?_)
  · obtain ⟨p, n, wv, c, wo, rfl, _⟩ := h
    rfl
  · obtain ⟨p, n, wv, c, wo, rfl, hc, ok, hw, ow, q⟩ := h
    refine ⟨_, (pss_cons (ps_setLc (i := 3) (own := [("row", 4)]) (g := gName 4) (tt := tYes) rfl nd rfl rfl (sw_true rfl rfl rfl (by decide +kernel)) (pi_tupK (K := K) rfl (pe_fld (pv 0) rfl)) (blkOk_by (own := [("row", 4)]) (N := nCWW) (sc := defScope sCWW) (by decide +kernel)) (fun _ _ _ _ _ => pg_name (i := 4) nd rfl (Or.inl rfl)) (fun _ _ _ _ _ => pts_nil) (fun _ _ _ _ _ => (pe_ifExp (pt_cmpR op_eq (pe_ix (ix_tupK (K := K) rfl) (pv 4) pe_int (fun _ _ => rfl)) (pv 1) (nomark _)) (pe_op (op_catM (K := K) rfl) (pe_slice (sl_tupAK (K := K) rfl) (pv 4) po_none (po_some pe_int)) (pe_tup (pa_cons (pv 2) pa_nil))) (pv 4))))
 (pss_one (ps_ret (pe_newC4 D_new t.gC (hr.mono (by decide)) rfl (pa_cons (pe_fld (pv 0) rfl) (pa_cons (pe_fld (pv 0) rfl) (pa_cons (pv 3) (pa_cons (pe_fld (pv 0) rfl) pa_nil)))))))), ?_⟩
    obtain ⟨dx, tl, tm, xs, ys, h⟩ := id hc
    have lx := h.xs.len
    rw [List.length_map] at lx
    have lm := ok.ls.len
    refine ⟨_, rfl, p, CC, dx, _, _, rfl, h.at_, t.cl, t.nL, fc_let, tl, rfl, ⟨_, h.tl.st⟩, fun D nD => ?_⟩
    refine lc_tu (walk_tup (K := K)) (a2_of h.xs) nD (fun G s => (h.tl.tu (TU.same s)).st) (by omega) (fun l => some (setW n wo l)) (fun G x l => Dv G x (clD l)) (fun H G x b t h => h.tu t (tO_cl b)) ?_ ?_
    · rintro x l G T' S' hx hm s1 hT hS
      obtain ⟨ta, sa, lv, rfl, hta, hsa, hlw⟩ := dv_cl (hx.same s1)
      refine ⟨rfl, tyes ⟨_, rfl, ta, _, 0, .int l.n, rfl, rfl, st hta, atI_nat (j := 0) rfl, _, rfl, rfl, _, rfl, ?_⟩⟩
      by_cases c1 : l.n = n
      · refine itbT (by rw [c1]; exact decide_eq_true rfl) ?_
        refine ⟨_, rfl, 3, rfl, slA_go hta fun b G2 s2 hb => ?_⟩
        have eb : cutV [V.int l.n, V.int l.b, V.ref sa, lv] none (some 3) = [.int l.n, .int l.b, .ref sa] := cut_take _ 3
        rw [eb] at hb
        refine ⟨_, rfl, by show 1 ≤ sizeLine; decide, fun U nU => ?_⟩
        have sU := same_new nU (o := .tup [wv])
        refine ⟨b, U, _, _, rfl, rfl, .inl (sU _ _ hb), .inl upd_same, by show 3 + 1 ≤ 2000; decide, fun r G3 s3 hr3 => ?_⟩
        have hr4 : G3 r = some (.tup [.int l.n, .int l.b, .ref sa, wv]) := hr3.elim id fun z => by cases z.1
        have s23 := (s2.trans sU).trans s3
        refine hT _ (setW n wo l) G3 s23 rfl ?_
        have e : setW n wo l = { l with w := wo } := if_pos c1
        rw [e]
        exact cl_dv (l := { l with w := wo }) hr4 (s23 _ _ hsa) (hw.tu ((TU.same s1).trans (TU.same s23)))
      · refine itbF (decide_eq_false fun e => c1 (V.int.inj e)) ?_
        refine ⟨_, rfl, hT _ (setW n wo l) G (fun _ _ h => h) rfl ?_⟩
        have e : setW n wo l = l := if_neg c1
        rw [e]; exact hx.same s1
    · intro G acc s1 hacc hA
      have ef : c.ls.filterMap (fun l => some (setW n wo l)) = c.ls.map (setW n wo) := by rw [← List.filterMap_eq_map]; rfl
      rw [ef] at hA
      have h' := s1 _ _ h.at_
      refine name_go' ?_
      refine ⟨_, rfl, p, CC, dx, _, _, rfl, h', t.cl, t.nA, fc_age, _, rfl, p, CC, dx, _, _, rfl, h', t.cl, t.nM, fc_mark, _, rfl, _, rfl, p, CC, dx, _, _, rfl, h', t.cl, t.nD, fc_made, ?_⟩
      exact newC rfl ok.age ok.mr (.inl (.inl hacc)) (of_a2 hA) (okLs_W ok.ls ow) (h.tm.tu (TU.same s1)).sq (h.ys.same s1) ok.md fun x H' s2 nx hx => q x H' (s1.trans s2) (s1.free nx) hx
theorem ok_ck {f : Addr} {fd : FuncData} (t : CcT K mg CC) (D_is_number : Def P w K mg base CX0 2 "is_number" pV spNum) (F : Fun K "_check_number" "Copy._check_number" sCCk f fd) : FnOk P w K mg base CX0 3 f fd nCDr (spCk K CC) := by
  have nd := scCCk.nd
  refine F.ok scCCk (fun vs H Q E h => ?_) (fun cdv A outer s H vs Q E hr h => ?_)
  · obtain ⟨p, n, c, rfl, _⟩ := h
    rfl
  · obtain ⟨p, n, c, rfl, hc, ok, hn, q⟩ := h
    refine ⟨_, (pss_one (ps_if (PW.pt (pw_or (pt_not (pt_val (pe_def D_is_number (hr.mono (by decide)) rfl pass0 (pa_cons (pv 1) pa_nil)))) (pw_or1 (pt_cmpR (op_notIn_seqK (K := K) rfl) (pv 1) (pe_lc (own := [("letter", 2)]) (g := gName 2) (tt := tYes) rfl nd (pi_tupK (K := K) rfl (pe_fld (pv 0) rfl)) (blkOk_by (own := [("letter", 2)]) (N := nCCk) (sc := defScope sCCk) (by decide +kernel)) (fun _ _ _ _ _ => pg_name (i := 2) nd rfl (Or.inl rfl)) (fun _ _ _ _ _ => pts_nil) (fun _ _ _ _ _ => (pe_ix (ix_tupK (K := K) rfl) (pv 2) pe_int (fun _ _ => rfl)))) (by rfl)))))
  pss_any
  pss_nil)), ?_⟩
    obtain ⟨dx, tl, tm, xs, ys, h⟩ := id hc
    have lx := h.xs.len
    rw [List.length_map] at lx
    have lm := ok.ls.len
    obtain ⟨l0, hl0, rfl⟩ := List.mem_map.mp hn
    refine ⟨_, rfl, l0.n, rfl, (ok.ls.ok l0 hl0).n, _, rfl, itbF rfl ?_⟩
    refine ⟨_, rfl, _, rfl, p, CC, dx, _, _, rfl, h.at_, t.cl, t.nL, fc_let, tl, rfl, ⟨_, h.tl.st⟩, fun D nD => ?_⟩
    refine lc_sel (walk_tup (K := K)) (R := fun x (l : CL) => Dv H x (clD l)) (ls := c.ls) (out := fun y (n : Int) => y = V.int n) (a2_of h.xs) nD (fun G s => (h.tl.tu (TU.same s)).st) (by omega) (fun l => some l.n) ?_ ?_
    · rintro x l G2 T S hx hm s3 hT hS'
      obtain ⟨ta, sa, wv, rfl, hta, hsa, hw⟩ := dv_cl hx
      exact ⟨rfl, tyes ⟨_, rfl, ta, _, 0, .int l.n, rfl, rfl, st (s3 _ _ hta), atI_nat (j := 0) rfl, hT _ l.n G2 (fun _ _ h => h) rfl rfl⟩⟩
    · intro G2 acc s3 hacc h4
      rw [h4.vals] at hacc
      have ef : c.ls.filterMap (fun l => some l.n) = c.ls.map (·.n) := by rw [← List.filterMap_eq_map]; rfl
      rw [ef] at hacc
      refine ⟨D, _, rfl, .inl (sq hacc), rfl, flat_ints _, _, rfl, itbF ?_ (q G2 s3)⟩
      show (!inV (V.int l0.n) ((c.ls.map (·.n)).map V.int)) = false
      rw [inV_ints, decide_eq_true hn]; rfl
theorem ok_wt {f : Addr} {fd : FuncData} (t : CcT K mg CC) (M_ck : MDef P w K mg base CX0 3 CC "_check_number" nCDr (spCk K CC)) (D_is_signs : Def P w K mg base CX0 2 "is_signs" pV spSigns) (M_ww : MDef P w K mg base CX0 6 CC "_with_wanted" pCWW (spWW K CC)) (F : Fun K "wanting" "Copy.wanting" sCWt f fd) : FnOk P w K mg base CX0 7 f fd nCWt (spWt K CC) := by
  refine F.ok scCWt (fun vs H Q E h => ?_) (fun cdv A outer s H vs Q E hr h => ?_)
  · obtain ⟨p, n, sa, c, ss, rfl, _⟩ := h
    rfl
  · obtain ⟨p, n, sa, c, ss, rfl, hc, ok, hn, hs, os, q⟩ := h
    refine ⟨_, (pss_cons (ps_expr (pe_mdef M_ck t.cl (hr.mono (by decide)) pass0 (pv 0) (pa_cons (pv 1) pa_nil)))
 (pss_cons (ps_if (pt_not (pt_val (pe_def D_is_signs (hr.mono (by decide)) rfl pass0 (pa_cons (pv 2) pa_nil)))) pss_any pss_nil)
 (pss_one (ps_ret (pe_mdef M_ww t.cl (hr.mono (by decide)) pass0 (pv 0) (pa_cons (pv 1) (pa_cons (pv 2) pa_nil))))))), ?_⟩
    obtain ⟨dx, tl, tm, xs, ys, h⟩ := id hc
    refine ⟨_, rfl, p, dx, _, rfl, h.at_, fc_no (by decide +kernel), _, rfl, p, n, c, rfl, hc, ok, hn, fun H1 s1 => ?_⟩
    refine ⟨_, rfl, sa, ss, rfl, s1 _ _ hs, okss os, fun H2 s2 => ⟨_, rfl, itbF rfl ?_⟩⟩
    have s12 := s1.trans s2
    exact ⟨_, rfl, p, dx, _, rfl, s12 _ _ h.at_, fc_no (by decide +kernel), _, rfl, _, rfl, p, n, .ref sa, c, some ss, rfl, hc.same s12, ok, ⟨sa, rfl, s12 _ _ hs⟩, fun z e => by rw [← Option.some.inj e]; exact os, fun r H3 s3 nr hr3 => q r H3 (s12.trans s3) (s12.free nr) hr3⟩
theorem ok_dr {f : Addr} {fd : FuncData} (t : CcT K mg CC) (M_ck : MDef P w K mg base CX0 3 CC "_check_number" nCDr (spCk K CC)) (M_ww : MDef P w K mg base CX0 6 CC "_with_wanted" pCWW (spWW K CC)) (F : Fun K "dropping" "Copy.dropping" sCDr f fd) : FnOk P w K mg base CX0 7 f fd nCDr (spDr K CC) := by
  refine F.ok scCDr (fun vs H Q E h => ?_) (fun cdv A outer s H vs Q E hr h => ?_)
  · obtain ⟨p, n, c, rfl, _⟩ := h
    rfl
  · obtain ⟨p, n, c, rfl, hc, ok, hn, q⟩ := h
    refine ⟨_, (pss_cons (ps_expr (pe_mdef M_ck t.cl (hr.mono (by decide)) pass0 (pv 0) (pa_cons (pv 1) pa_nil)))
 (pss_one (ps_ret (pe_mdef M_ww t.cl (hr.mono (by decide)) pass0 (pv 0) (pa_cons (pv 1) (pa_cons pe_non pa_nil)))))), ?_⟩
    obtain ⟨dx, tl, tm, xs, ys, h⟩ := id hc
    refine ⟨_, rfl, p, dx, _, rfl, h.at_, fc_no (by decide +kernel), _, rfl, p, n, c, rfl, hc, ok, hn, fun H1 s1 => ?_⟩
    exact ⟨_, rfl, p, dx, _, rfl, s1 _ _ h.at_, fc_no (by decide +kernel), _, rfl, p, n, .non, c, none, rfl, hc.same s1, ok, rfl, fun z e => (by cases e), fun r H3 s3 nr hr3 => q r H3 (s1.trans s3) (s1.free nr) hr3⟩
theorem ok_mkg {f : Addr} {fd : FuncData} (t : CcT K mg CC) (D_new : MkCc P w K mg base CC E0') (D_is_body : Def P w K mg base CX0 2 "is_body" pV spBody) (D_is_signs : Def P w K mg base CX0 2 "is_signs" pV spSigns) (F : Fun K "making" "Copy.making" sCMk f fd) : FnOk P w K mg base CX0 6 f fd nCMk (spMkg K CC) := by
  refine F.ok scCMk (fun vs H Q E h => ?_) (fun cdv A outer s H vs Q E hr h => ?_)
  · obtain ⟨p, b, sa, c, ss, rfl, _⟩ := h
    rfl
  · obtain ⟨p, b, sa, c, ss, rfl, hc, ok, hb, hs, os, hl, q⟩ := h
    refine ⟨_, (pss_cons (ps_if (pt_not (pt_val (pe_def D_is_body (hr.mono (by decide)) rfl pass0 (pa_cons (pv 1) pa_nil)))) pss_any pss_nil)
 (pss_cons (ps_if (pt_not (pt_val (pe_def D_is_signs (hr.mono (by decide)) rfl pass0 (pa_cons (pv 2) pa_nil)))) pss_any pss_nil)
 (pss_one (ps_ret (pe_newC4 D_new t.gC (hr.mono (by decide)) rfl (pa_cons (pe_fld (pv 0) rfl) (pa_cons (pe_fld (pv 0) rfl) (pa_cons (pe_fld (pv 0) rfl) (pa_cons (pe_op (op_catM (K := K) rfl) (pe_fld (pv 0) rfl) (pe_tup (pa_cons (pe_tup (pa_cons (pv 1) (pa_cons (pv 2) pa_nil))) pa_nil))) pa_nil))))))))), ?_⟩
    refine ⟨_, rfl, b, rfl, hb, _, rfl, itbF rfl ?_⟩
    refine ⟨_, rfl, sa, ss, rfl, hs, okss os, fun H1 s1 => ⟨_, rfl, itbF rfl ?_⟩⟩
    obtain ⟨dx, tl, tm, xs, ys, h⟩ := id hc
    have h1 := s1 _ _ h.at_
    have ly := h.ys.len
    rw [List.length_map] at ly
    refine ⟨_, rfl, p, CC, dx, _, _, rfl, h1, t.cl, t.nA, fc_age, _, rfl, p, CC, dx, _, _, rfl, h1, t.cl, t.nM, fc_mark, _, rfl, p, CC, dx, _, _, rfl, h1, t.cl, t.nL, fc_let, _, rfl, p, CC, dx, _, _, rfl, h1, t.cl, t.nD, fc_made, _, rfl, _, rfl, by show 2 ≤ sizeLine; decide, fun U nU => ⟨by show 1 ≤ sizeLine; decide, fun W nW => ?_⟩⟩
    have sU := same_new nU (o := .tup [.int b, .ref sa])
    have sW := same_new nW (o := .tup [.ref U])
    have s3 := (s1.trans sU).trans sW
    refine ⟨tm, W, ys, [.ref U], rfl, rfl, h.tm.tu (TU.same s3), .inl upd_same, by show ys.length + 1 ≤ 2000; omega, fun m H4 s4 hm => ?_⟩
    have s14 := s3.trans s4
    refine newC (K := K) rfl ok.age ok.mr (xs := xs) (ls := c.ls) (h.tl.tu (TU.same s14)).sq (h.xs.same s14) ok.ls (ys := ys ++ [.ref U]) (md := c.md ++ [(b, ss)]) hm.sq ?_ (okCp_M ok hb os hl).md fun x H' s5 nx hx => q x H' (s14.trans s5) (s14.free nx) hx
    · rw [List.map_append]
      exact (h.ys.same s14).app (.cons (md_dv (m := (b, ss)) (s4 _ _ (sW _ _ upd_same)) (s14 _ _ hs)) .nil)
theorem ok_cf {f : Addr} {fd : FuncData} (T : Bk mg) (t : ClT K mg C) (iC : C8.InsC K C) (F : Fun K "_check_folder" "_check_folder" sCf f fd) : FnOk P w K mg base CX0 1 f fd pCo (spCf C) := by
  refine F.ok scCf (fun vs H Q E h => ?_) (fun cdv A outer s H vs Q E hr h => ?_)
  · obtain ⟨p, F, rfl, _⟩ := h
    rfl
  · obtain ⟨p, F, rfl, ⟨dx, tl, tg, hp, _⟩, q⟩ := h
    refine ⟨_, (pss_one (ps_if (pt_not (pt_val (pe_callB (C8.call_isC iC) (by rfl) T.isinstance PyProof.Rows.boot_isinstance (pa_cons (pv 0) (pa_cons (pe_glob (v := .ref C) rfl t.gC rfl) pa_nil))))) pss_any pss_nil)), ?_⟩
    exact ⟨_, rfl, p, dx, _, rfl, hp, _, rfl, itbF rfl q⟩
end
end K1


set_option Elab.async false
set_option linter.all false
set_option maxRecDepth 100000
set_option maxHeartbeats 2000000
namespace K1
open PySem PySem.Spec PyProof.Rows L2 RZ StX
/-! the other readers -/
abbrev sAge : Stmt := mS 2
abbrev sCut : Stmt := mS 7
theorem scAge : FnScope nSelf nSelf (defScope sAge) := ⟨rfl, rfl, rfl, by decide +kernel, rfl, by decide +kernel, by decide +kernel⟩
theorem scCut : FnScope nSelf nSelf (defScope sCut) := ⟨rfl, rfl, rfl, by decide +kernel, rfl, by decide +kernel, by decide +kernel⟩
def spAge (C : Addr) : Sp := fun vs H Q _ => ∃ (p : Addr) (F : Fo), vs = [.ref p] ∧ FoAt C H p F ∧ Q (.int F.age) H
def spCut (C : Addr) : Sp := fun vs H Q _ => ∃ (p : Addr) (F : Fo), vs = [.ref p] ∧ FoAt C H p F ∧ Q (.int F.ct) H
section
variable {P : Program} {w : World} {K : PySem.W.Frag} {mg : Str → Option Value} {base : Heap} {C : Addr}
theorem ok_age {f : Addr} {fd : FuncData} (t : ClT K mg C) (F : Fun K "age" "Folder.age" sAge f fd) : FnOk P w K mg base CX0 1 f fd nSelf (spAge C) := by
  refine F.ok scAge (fun vs H Q E h => ?_) (fun cdv A outer s H vs Q E hr h => ?_)
  · obtain ⟨p, F, rfl, _⟩ := h
    rfl
  · obtain ⟨p, F, rfl, ⟨dx, tl, tg, hp, h1, h2⟩, q⟩ := h
    exact ⟨_, pss_one (ps_ret (pe_fld (pv 0) rfl)), ⟨_, rfl, p, C, dx, _, _, rfl, hp, t.cl, t.nA, fl_age, q⟩⟩
theorem ok_cut {f : Addr} {fd : FuncData} (t : ClT K mg C) (F : Fun K "cut" "Folder.cut" sCut f fd) : FnOk P w K mg base CX0 1 f fd nSelf (spCut C) := by
  refine F.ok scCut (fun vs H Q E h => ?_) (fun cdv A outer s H vs Q E hr h => ?_)
  · obtain ⟨p, F, rfl, _⟩ := h
    rfl
  · obtain ⟨p, F, rfl, ⟨dx, tl, tg, hp, h1, h2⟩, q⟩ := h
    exact ⟨_, pss_one (ps_ret (pe_fld (pv 0) rfl)), ⟨_, rfl, p, C, dx, _, _, rfl, hp, t.cl, t.nC, fl_cut, q⟩⟩
end
end K1


set_option Elab.async false
set_option linter.all false
set_option maxRecDepth 100000
set_option maxHeartbeats 4000000
namespace K1
open PySem PySem.Spec PyProof.Rows L2 RZ StX
section
variable {P : Program} {w : World} {K : PySem.W.Frag} {mg : Str → Option Value} {base : Heap} {C CC E0' : Addr}
set_option maxHeartbeats 8000000 in
theorem ok_co {f : Addr} {fd : FuncData} (T : Bk mg) (t : ClT K mg C) (tc : CcT K mg CC) (D_new : MkCc P w K mg base CC E0') (D_cf : Def P w K mg base CX0 1 "_check_folder" pCo (spCf C)) (M_letters : MDef P w K mg base CX0 1 C "letters" nSelf (spLetters C)) (M_age : MDef P w K mg base CX0 1 C "age" nSelf (spAge C)) (M_mark : MDef P w K mg base CX0 1 C "mark" nSelf (spMark C))
    (F : Fun K "copy_of" "copy_of" sCo f fd) : FnOk P w K mg base CX0 6 f fd pCo (spCo K C CC) := by
  have nd := scCo.nd
  refine F.ok scCo (fun vs H Q E h => ?_) (fun cdv A outer s H vs Q E hr h => ?_)
  · obtain ⟨p, F, k, rfl, _⟩ := h
    rfl
  · obtain ⟨p, F, k, rfl, hF, ga, hk, q⟩ := h
    refine ⟨_, (pss_cons (ps_expr (pe_def D_cf (hr.mono (by decide)) rfl pass0 (pa_cons (pv 0) pa_nil)))
 (pss_cons (ps_setLc (i := 1) (own := [("number", 2), ("body", 3), ("signs", 4), ("_", 5)]) (g := gTup K 4 (gCons (gName 2) (gCons (gName 3) (gCons (gName 4) (gCons (gName 5) gNil))))) (tt := tYes) rfl nd rfl rfl (sw_true rfl rfl rfl (by decide +kernel)) (pi_listK (K := K) rfl (pe_mdef0 M_letters t.cl (hr.mono (by decide)) pass0 (pv 0))) (blkOk_by (own := [("number", 2), ("body", 3), ("signs", 4), ("_", 5)]) (N := nCo) (sc := defScope sCo) (by decide +kernel)) (fun _ _ _ _ _ => pg_tup rfl (pgs_cons (pg_name (i := 2) nd rfl (Or.inl rfl)) (pgs_cons (pg_name (i := 3) nd rfl (Or.inl rfl)) (pgs_cons (pg_name (i := 4) nd rfl (Or.inl rfl)) (pgs_cons (pg_name (i := 5) nd rfl (Or.inl rfl)) pgs_nil))))) (fun _ _ _ _ _ => pts_nil) (fun _ _ _ _ _ => (pe_tup (pa_cons (pv 2) (pa_cons (pv 3) (pa_cons (pv 4) (pa_cons (pv 4) pa_nil)))))))
 (pss_one (ps_ret (pe_newC3 D_new tc.gC (hr.mono (by decide)) rfl (pa_cons (pe_mdef0 M_age t.cl (hr.mono (by decide)) pass0 (pv 0)) (pa_cons (pe_mdef0 M_mark t.cl (hr.mono (by decide)) pass0 (pv 0)) (pa_cons (pv 1) pa_nil)))))))), ?_⟩
    obtain ⟨dx, tl, tg, hp, _⟩ := id hF
    have wl := ga.g.wf.len
    refine ⟨_, rfl, p, F, rfl, hF, ?_⟩
    refine ⟨_, rfl, p, dx, _, rfl, hp, fl_no (by decide +kernel), p, F, rfl, hF, fun l0 G0 s0 nl0 hl => ?_⟩
    obtain ⟨ys, hl0, dys⟩ := Dv.lsts hl
    have ylen := dys.len
    rw [List.length_map] at ylen
    refine ⟨l0, rfl, ⟨_, sq hl0⟩, fun D nD => ?_⟩
    refine lc_tu (walk_list (K := K)) (a2_of dys) nD (fun G s => sq (s _ _ hl0)) (by omega) (fun l => some (clF l)) (fun G x l => Dv G x (clD l)) (fun H G x b t h => h.tu t (tO_cl b)) ?_ ?_
    · rintro x l G T' S' hx hm s1 hT hS
      obtain ⟨ta, sa, rfl, hta, hsa⟩ := dv_lt hx
      refine ⟨ta, _, rfl, st (s1 _ _ hta), rfl, _, _, rfl, _, _, rfl, _, _, rfl, _, _, rfl, rfl, rfl, tyes ⟨_, rfl, _, rfl, _, rfl, _, rfl, by show 4 ≤ sizeLine; decide, fun U nU => ?_⟩⟩
      have sU := same_new nU (o := .tup [.int l.n, .int l.b, .ref sa, .ref sa])
      have hs := (s1.trans sU) _ _ hsa
      exact hT _ (clF l) _ sU rfl (cl_dv (l := clF l) upd_same hs ⟨sa, rfl, hs⟩)
    · intro G acc s1 hacc hA
      have ef : F.ls.filterMap (fun l => some (clF l)) = F.ls.map clF := by rw [← List.filterMap_eq_map]; rfl
      rw [ef] at hA
      have s01 := s0.trans s1
      have hF1 := hF.same s01
      have ok := okCp_F hk ga
      refine name_go' ?_
      refine ⟨_, rfl, p, dx, _, rfl, s01 _ _ hp, fl_no (by decide +kernel), p, F, rfl, hF1, _, rfl, p, dx, _, rfl, s01 _ _ hp, fl_no (by decide +kernel), p, F, rfl, hF1, _, rfl, ?_⟩
      exact newC (K := K) (age := F.age) (mr := F.mr) (la := D) (ma := E0') (ys := []) (md := []) rfl ok.age ok.mr (.inl (.inl hacc)) (of_a2 hA) ok.ls (.inr ⟨rfl, D_new.emp⟩) .nil ok.md fun x H' s2 nx hx => q x H' (s01.trans s2) (s01.free nx) hx
end
end K1


set_option Elab.async false
set_option linter.all false
set_option maxRecDepth 100000
set_option maxHeartbeats 4000000
/-! What copies are told by that differ from one in one part. -/
namespace K1
open PySem PySem.Spec PyProof.Rows L2 RZ StX
abbrev sUn : Stmt := st__law_unlike_ones
abbrev nUn : List Str := ["_law_here", "_law_age_so", "_law_mark_so", "_law_rows", "_law_coming", "_law_found", "_law_body", "_law_signs_here", "_law_at", "_law_number", "_law_base", "_law_wanted", "_law_others", "_law_row"]
abbrev pUn : List Str := ["_law_here"]
theorem scUn : FnScope nUn pUn (defScope sUn) := ⟨rfl, rfl, rfl, by decide +kernel, rfl, by decide +kernel, by decide +kernel⟩
theorem sl_listK {X : Cx} {K : PySem.W.Frag} (h : X.K = K) : SlR X (rSlL K) := by subst h; exact sl_list
def zz : List Str := ["zz"]
theorem zz_ok : OkSs zz := okSs_iff.mp (by decide +kernel)
theorem nil_ok : OkSs [] := okSs_iff.mp (by decide +kernel)
/-- no signs of it are zz -/
structure NZ (c : Cp) : Prop where
  s : ∀ l ∈ c.ls, l.s ≠ zz
  w : ∀ l ∈ c.ls, l.w ≠ some zz
  m : ∀ m ∈ c.md, m.2 ≠ zz
theorem cut_m1 (xs : List V) : cutV xs none (some (-1)) = xs.dropLast := by
  unfold cutV
  have c1 : HT.sIx xs.length 0 none = 0 := rfl
  have c2 : HT.sIx xs.length xs.length (some (-1)) = xs.length - 1 := by
    show (if (-1 : Int) < 0 then ((-1 : Int) + (xs.length : Int)).toNat else min (-1 : Int).toNat xs.length) = _
    rw [if_pos (by decide)]; omega
  rw [c1, c2, List.drop_zero, Nat.sub_zero, List.dropLast_eq_take]
/-- a tuple that tells of a copy that is unlike c, its lists not among E -/
def UW (E : Addr → Prop) (c : Cp) (G : Hp) (x : V) : Prop := ∃ (d : Cp) (ta la ma : Addr) (us vs : List V), x = .ref ta ∧ G ta = some (.tup [.int d.age, .int d.mr, .ref la, .ref ma]) ∧ G la = some (.lst us) ∧ ¬ E la ∧ DvA G us (d.ls.map clD) ∧ G ma = some (.lst vs) ∧ ¬ E ma ∧ DvA G vs (d.md.map mdD) ∧ OkCp d ∧ d ≠ c
abbrev UV (D : Addr) (c : Cp) (G : Hp) (x : V) : Prop := UW (fun b => b = D) c G x
theorem TU.ex {D : Addr} {G G' : Hp} {acc : List V} (hD : G D = some (.lst acc)) (e : Ext D G G') : TU G G' := fun b xs h => e _ _ (fun z => by rw [z, hD] at h; cases h) h
theorem UW.ext {E : Addr → Prop} {c : Cp} {G G' : Hp} {x : V} (h : UW E c G x) (tu : TU G G') (e : ∀ b o, ¬ E b → G b = some o → G' b = some o) : UW E c G' x := by
  obtain ⟨d, ta, la, ma, us, vs, ex, h1, h2, n2, h3, h4, n4, h5, ok, ne⟩ := h
  exact ⟨d, ta, la, ma, us, vs, ex, tu _ _ h1, e _ _ n2 h2, n2, h3.tu tu (tO_cls _), e _ _ n4 h4, n4, h5.tu tu (tO_mds _), ok, ne⟩
theorem UW.imp {E E' : Addr → Prop} {c : Cp} {G : Hp} {x : V} (h : UW E c G x) (k : ∀ b, E' b → E b) : UW E' c G x := by
  obtain ⟨d, ta, la, ma, us, vs, ex, h1, h2, n2, h3, h4, n4, h5, ok, ne⟩ := h
  exact ⟨d, ta, la, ma, us, vs, ex, h1, h2, fun z => n2 (k _ z), h3, h4, fun z => n4 (k _ z), h5, ok, ne⟩
theorem UV.ext' {D : Addr} {c : Cp} {G G' : Hp} {x : V} {acc : List V} (h : UV D c G x) (hD : G D = some (.lst acc)) (e : Ext D G G') : UV D c G' x := UW.ext h (TU.ex hD e) fun b o n hb => e _ _ n hb
theorem UW.mut2 {D D2 : Addr} {c : Cp} {G : Hp} {z : V} {zs : List V} {o : HO} (h : UW (fun b => b = D ∨ b = D2) c G z) (hD : G D2 = some (.lst zs)) : UW (fun b => b = D ∨ b = D2) c (upd G D2 o) z :=
  h.ext (TU.mut hD fun _ z => by cases z) fun b u n hb => by rw [upd_ne fun z => n (.inr z)]; exact hb
/-- the list that is found so far -/
structure FdI (D : Addr) (c : Cp) (G0 G : Hp) (n : Nat) : Prop where
  s : Same G0 G
  f : ∃ acc, G D = some (.lst acc) ∧ acc.length ≤ n ∧ ∀ x ∈ acc, UV D c G x
theorem FdI.same {D : Addr} {c : Cp} {G0 G G' : Hp} {n : Nat} (h : FdI D c G0 G n) (s : Same G G') : FdI D c G0 G' n := by
  obtain ⟨acc, h1, h2, h3⟩ := h.f
  exact ⟨h.s.trans s, acc, s _ _ h1, h2, fun x hx => UV.ext' (h3 x hx) h1 (same_ext s)⟩
theorem FdI.push {D : Addr} {c : Cp} {G0 G : Hp} {n : Nat} {acc : List V} {x : V} (h : FdI D c G0 G n) (n0 : G0 D = none) (hD : G D = some (.lst acc)) (hx : UV D c G x) : FdI D c G0 (upd G D (.lst (acc ++ [x]))) (n + 1) := by
  obtain ⟨acc', h1, h2, h3⟩ := h.f
  obtain rfl : acc = acc' := by rw [hD] at h1; injection h1 with h1; injection h1
  have e : Ext D G (upd G D (.lst (acc ++ [x]))) := (Ext.refl G).self
  refine ⟨h.s.mut n0, acc ++ [x], upd_same, by rw [List.length_append]; show acc.length + 1 ≤ n + 1; omega, fun y hy => ?_⟩
  rcases List.mem_append.mp hy with hy | hy
  · exact UV.ext' (h3 y hy) hD e
  · rw [List.mem_singleton.mp hy]; exact UV.ext' hx hD e
theorem FdI.pushL {D : Addr} {c : Cp} {G0 G : Hp} {n : Nat} {acc zs : List V} (h : FdI D c G0 G n) (n0 : G0 D = none) (hD : G D = some (.lst acc)) (hx : ∀ x ∈ zs, UV D c G x) : FdI D c G0 (upd G D (.lst (acc ++ zs))) (n + zs.length) := by
  obtain ⟨acc', h1, h2, h3⟩ := h.f
  obtain rfl : acc = acc' := by rw [hD] at h1; injection h1 with h1; injection h1
  have e : Ext D G (upd G D (.lst (acc ++ zs))) := (Ext.refl G).self
  refine ⟨h.s.mut n0, acc ++ zs, upd_same, by rw [List.length_append]; omega, fun y hy => ?_⟩
  rcases List.mem_append.mp hy with hy | hy
  · exact UV.ext' (h3 y hy) hD e
  · exact UV.ext' (hx y hy) hD e
def spUn (K : PySem.W.Frag) (CC : Addr) : Sp := fun vs H Q _ => ∃ (p : Addr) (c : Cp), vs = [.ref p] ∧ CpAt K CC H p c ∧ OkCp c ∧ c.ls.length ≤ 50 ∧ c.md.length ≤ 50 ∧ NZ c ∧ ∀ D acc H', Same H H' → H' D = some (.lst acc) → acc.length ≤ 1000 → (∀ x ∈ acc, UV D c H' x) → Q (.ref D) H'
theorem take_sub {α : Type} {xs : List α} {i : Nat} {x : α} (h : xs[i]? = some x) : xs = xs.take i ++ x :: xs.drop (i + 1) := by
  have hi := lt_of_get h
  have e : xs.drop i = x :: xs.drop (i + 1) := by
    rw [List.getElem?_eq_getElem hi] at h
    rw [← Option.some.inj h]
    exact List.drop_eq_getElem_cons hi
  rw [← e, List.take_append_drop]
theorem DvA.take {H : Hp} {α : Type} {f : α → PyData} : ∀ {xs : List V} {ls : List α} (n : Nat), DvA H xs (ls.map f) → DvA H (xs.take n) ((ls.take n).map f)
  | _, [], 0, .nil => .nil
  | _, _ :: _, 0, .cons _ _ => .nil
  | _, [], _ + 1, .nil => .nil
  | _, _ :: _, n + 1, .cons h r => .cons h (r.take n)
theorem DvA.drop {H : Hp} {α : Type} {f : α → PyData} : ∀ {xs : List V} {ls : List α} (n : Nat), DvA H xs (ls.map f) → DvA H (xs.drop n) ((ls.drop n).map f)
  | _, [], 0, .nil => .nil
  | _, _ :: _, 0, .cons h r => .cons h r
  | _, [], _ + 1, .nil => .nil
  | _, _ :: _, n + 1, .cons h r => r.drop n
theorem DvA.appM {H : Hp} {α : Type} {f : α → PyData} {xs ys : List V} {ls ms : List α} (h : DvA H xs (ls.map f)) (k : DvA H ys (ms.map f)) : DvA H (xs ++ ys) ((ls ++ ms).map f) := by rw [List.map_append]; exact h.app k
/-- the copies that are unlike -/
theorem un_age {c : Cp} (h : OkCp c) : OkCp { c with age := c.age + 1 } ∧ ({ c with age := c.age + 1 } : Cp) ≠ c := by
  refine ⟨⟨by have := h.age; show 1 ≤ c.age + 1; omega, h.mr, h.ls, h.md⟩, fun e => ?_⟩
  have := congrArg Cp.age e
  have : c.age + 1 = c.age := this
  omega
theorem un_mr {c : Cp} (h : OkCp c) : OkCp { c with mr := c.mr + 1 } ∧ ({ c with mr := c.mr + 1 } : Cp) ≠ c := by
  refine ⟨⟨h.age, by have := h.mr; show 0 ≤ c.mr + 1; omega, h.ls, h.md⟩, fun e => ?_⟩
  have : c.mr + 1 = c.mr := congrArg Cp.mr e
  omega
theorem un_md {c : Cp} {md : List (Int × List Str)} (h : OkCp c) (hm : OkMs md) (n : md ≠ c.md) : OkCp { c with md := md } ∧ ({ c with md := md } : Cp) ≠ c := ⟨⟨h.age, h.mr, h.ls, hm⟩, fun e => n (congrArg Cp.md e)⟩
theorem un_ls {c : Cp} {ls : List CL} (h : OkCp c) (hm : OkLs ls) (n : ls ≠ c.ls) : OkCp { c with ls := ls } ∧ ({ c with ls := ls } : Cp) ≠ c := ⟨⟨h.age, h.mr, hm, h.md⟩, fun e => n (congrArg Cp.ls e)⟩
theorem ls_without {ls : List CL} {i : Nat} {l : CL} (h : OkLs ls) (hl : ls[i]? = some l) : OkLs (ls.take i ++ ls.drop (i + 1)) ∧ ls.take i ++ ls.drop (i + 1) ≠ ls := by
  have e := take_sub hl
  have sub : List.Sublist (ls.take i ++ ls.drop (i + 1)) ls := by
    have : List.Sublist (ls.take i ++ ls.drop (i + 1)) (ls.take i ++ l :: ls.drop (i + 1)) := List.Sublist.append_left (List.sublist_cons_self _ _) _
    rw [← e] at this; exact this
  refine ⟨⟨fun x hx => h.ok x (sub.subset hx), List.Pairwise.sublist (sub.map _) h.up, Nat.le_trans sub.length_le h.len⟩, fun z => ?_⟩
  have h1 := congrArg List.length e
  have h2 := congrArg List.length z
  rw [List.length_append, List.length_cons] at h1
  rw [List.length_append] at h2
  omega
theorem ls_other {ls : List CL} {i : Nat} {l l' : CL} (h : OkLs ls) (hl : ls[i]? = some l) (hn : l'.n = l.n) (ok : OkCL l') (ne : l' ≠ l) : OkLs (ls.take i ++ [l'] ++ ls.drop (i + 1)) ∧ ls.take i ++ [l'] ++ ls.drop (i + 1) ≠ ls := by
  have e := take_sub hl
  have hi := lt_of_get hl
  refine ⟨⟨fun x hx => ?_, ?_, ?_⟩, fun z => ?_⟩
  · rcases List.mem_append.mp hx with hx | hx
    · rcases List.mem_append.mp hx with hx | hx
      · exact h.ok x (List.mem_of_mem_take hx)
      · rw [List.mem_singleton.mp hx]; exact ok
    · exact h.ok x (List.mem_of_mem_drop hx)
  · have e2 : (ls.take i ++ [l'] ++ ls.drop (i + 1)).map (·.n) = ls.map (·.n) := by
      have : ls.map (·.n) = (ls.take i ++ l :: ls.drop (i + 1)).map (·.n) := by rw [← e]
      rw [this]; simp [hn]
    rw [e2]; exact h.up
  · rw [List.length_append, List.length_append, List.length_take, List.length_drop, List.length_singleton]
    have := h.len
    omega
  · have h1 : (ls.take i ++ [l'] ++ ls.drop (i + 1))[i]? = ls[i]? := by rw [z]
    rw [hl, List.append_assoc, List.getElem?_append_right (by rw [List.length_take]; omega), List.length_take, Nat.min_eq_left (by omega), Nat.sub_self] at h1
    exact ne (Option.some.inj h1)
/-- a tuple that tells of a letter that is unlike l, of the same number -/
def OT (l : CL) (G : Hp) (y : V) : Prop := ∃ l' : CL, Dv G y (clD l') ∧ l'.n = l.n ∧ OkCL l' ∧ l' ≠ l
theorem OT.tu {l : CL} {G G' : Hp} {y : V} (h : OT l G y) (t : TU G G') : OT l G' y := let ⟨l', h1, h2, h3, h4⟩ := h; ⟨l', h1.tu t (tO_cl _), h2, h3, h4⟩
theorem cl_ne_b {l : CL} : ({ l with b := l.b + 1 } : CL) ≠ l := fun e => by have : l.b + 1 = l.b := congrArg CL.b e; omega
theorem cl_ne_s {l : CL} {s : List Str} (h : s ≠ l.s) : ({ l with s := s } : CL) ≠ l := fun e => h (congrArg CL.s e)
theorem cl_ne_w {l : CL} {w : Option (List Str)} (h : w ≠ l.w) : ({ l with w := w } : CL) ≠ l := fun e => h (congrArg CL.w e)
def w0 : Option (List Str) → Option (List Str)
  | none => some []
  | some _ => none
theorem w0_ne (w : Option (List Str)) : w0 w ≠ w := by cases w <;> simp [w0]
theorem w0_ok (w : Option (List Str)) : ∀ ss, w0 w = some ss → OkSs ss := by
  cases w with
  | none => intro ss e; rw [← Option.some.inj (show some [] = some ss from e)]; exact nil_ok
  | some _ => intro ss e; cases e
end K1


set_option Elab.async false
set_option linter.all false
set_option maxRecDepth 100000
set_option maxHeartbeats 4000000
namespace K1
open PySem PySem.Spec PyProof.Rows L2 RZ StX
section
variable {P : Program} {w : World} {K : PySem.W.Frag} {mg : Str → Option Value} {base : Heap} {CC : Addr}
set_option maxHeartbeats 16000000 in
theorem ok_un {f : Addr} {fd : FuncData} (T : Bk mg) (t : CcT K mg CC) (M_age : MDef P w K mg base CX0 1 CC "age" nSelf (spCAge K CC)) (M_mark : MDef P w K mg base CX0 1 CC "mark" nSelf (spCMark K CC)) (M_letters : MDef P w K mg base CX0 1 CC "letters" nSelf (spCLet K CC)) (M_made : MDef P w K mg base CX0 1 CC "made" nSelf (spCMade K CC))
    (F : Fun K "_law_unlike_ones" "_law_unlike_ones" sUn f fd) : FnOk P w K mg base CX0 2 f fd pUn (spUn K CC) := by
  have nd := scUn.nd
  refine F.ok scUn (fun vs H Q E h => ?_) (fun cdv A outer s H vs Q E hr h => ?_)
  · obtain ⟨p, c, rfl, _⟩ := h
    rfl
  · obtain ⟨p, c, rfl, hc, ok, l50, m50, nz, q⟩ := h
    refine ⟨_, (pss_cons (ps_asg (pe_tup (pa_cons (pe_mdef0 M_age t.cl (hr.mono (by decide)) pass0 (pv 0)) (pa_cons (pe_mdef0 M_mark t.cl (hr.mono (by decide)) pass0 (pv 0)) pa_nil))) (pg_tup rfl (pgs_cons (pg_name (i := 1) nd rfl (Or.inr rfl)) (pgs_cons (pg_name (i := 2) nd rfl (Or.inr rfl)) pgs_nil))))
 (pss_cons (ps_asg (pe_tup (pa_cons (pe_mdef0 M_letters t.cl (hr.mono (by decide)) pass0 (pv 0)) (pa_cons (pe_mdef0 M_made t.cl (hr.mono (by decide)) pass0 (pv 0)) pa_nil))) (pg_tup rfl (pgs_cons (pg_name (i := 3) nd rfl (Or.inr rfl)) (pgs_cons (pg_name (i := 4) nd rfl (Or.inr rfl)) pgs_nil))))
 (pss_cons (ps_set (i := 5) nd rfl (Or.inl rfl) (pe_lst (pa_cons (pe_tup (pa_cons (pe_op op_add (pv 1) pe_int) (pa_cons (pv 2) (pa_cons (pv 3) (pa_cons (pv 4) pa_nil))))) (pa_cons (pe_tup (pa_cons (pv 1) (pa_cons (pe_op op_add (pv 2) pe_int) (pa_cons (pv 3) (pa_cons (pv 4) pa_nil))))) pa_nil))))
 (C8.pss_cut (ps_expr (pe_bm PySem.F.plainAttrs_list PySem.F.slot_list_append PySem.F.type_list_append mt_append (pv 5) (pa_cons (pe_tup (pa_cons (pv 1) (pa_cons (pv 2) (pa_cons (pv 3) (pa_cons (pe_op op_cat (pv 4) (pe_lst (pa_cons (pe_tup (pa_cons pe_int (pa_cons (pe_tup pa_nil) pa_nil))) pa_nil))) pa_nil))))) pa_nil)))
 (C8.pss_cut (ps_if (pt_cmpR (op_neDK (K := K) rfl hr.units) (pv 4) (pe_lst pa_nil) (nomark _))
  (pss_cons (ps_asg (pe_ix (ix_listK (K := K) rfl) (pv 4) (pe_un un_neg pe_int) (fun _ _ => rfl)) (pg_tup rfl (pgs_cons (pg_name (i := 6) nd rfl (Or.inl rfl)) (pgs_cons (pg_name (i := 7) nd rfl (Or.inl rfl)) pgs_nil))))
 (C8.pss_cut (ps_expr (pe_bm PySem.F.plainAttrs_list PySem.F.slot_list_append PySem.F.type_list_append mt_append (pv 5) (pa_cons (pe_tup (pa_cons (pv 1) (pa_cons (pv 2) (pa_cons (pv 3) (pa_cons (pe_slice (sl_listK (K := K) rfl) (pv 4) po_none (po_some (pe_un un_neg pe_int))) pa_nil))))) pa_nil)))
 (C8.pss_cut (ps_expr (pe_bm PySem.F.plainAttrs_list PySem.F.slot_list_append PySem.F.type_list_append mt_append (pv 5) (pa_cons (pe_tup (pa_cons (pv 1) (pa_cons (pv 2) (pa_cons (pv 3) (pa_cons (pe_op op_cat (pe_slice (sl_listK (K := K) rfl) (pv 4) po_none (po_some (pe_un un_neg pe_int))) (pe_lst (pa_cons (pe_tup (pa_cons (pe_op op_add (pv 6) pe_int) (pa_cons (pv 7) pa_nil))) pa_nil))) pa_nil))))) pa_nil)))
 (pss_one (ps_expr (pe_bm PySem.F.plainAttrs_list PySem.F.slot_list_append PySem.F.type_list_append mt_append (pv 5) (pa_cons (pe_tup (pa_cons (pv 1) (pa_cons (pv 2) (pa_cons (pv 3) (pa_cons (pe_op op_cat (pe_slice (sl_listK (K := K) rfl) (pv 4) po_none (po_some (pe_un un_neg pe_int))) (pe_lst (pa_cons (pe_tup (pa_cons (pv 6) (pa_cons (pe_tup (pa_cons pe_str pa_nil)) pa_nil))) pa_nil))) pa_nil))))) pa_nil)))))))
  pss_nil)
 (pss_cons (ps_for PassesOwn.never rfl (pi_enumSK (K := K) rfl (by rfl) T.enumerate (pa_cons (pv 3) pa_nil)) (pg_tup rfl (pgs_cons (pg_name (i := 8) nd rfl (Or.inr rfl)) (pgs_cons (pg_tup rfl (pgs_cons (pg_name (i := 9) nd rfl (Or.inl rfl)) (pgs_cons (pg_name (i := 6) nd rfl (Or.inl rfl)) (pgs_cons (pg_name (i := 10) nd rfl (Or.inl rfl)) (pgs_cons (pg_name (i := 11) nd rfl (Or.inl rfl)) pgs_nil))))) pgs_nil)))
  (C8.pss_cut (ps_set (i := 12) nd rfl (Or.inl rfl) (pe_lst (pa_cons (pe_tup (pa_cons (pv 9) (pa_cons (pe_op op_add (pv 6) pe_int) (pa_cons (pv 10) (pa_cons (pv 11) pa_nil))))) (pa_cons (pe_tup (pa_cons (pv 9) (pa_cons (pv 6) (pa_cons (pe_tup (pa_cons pe_str pa_nil)) (pa_cons (pv 11) pa_nil))))) (pa_cons (pe_tup (pa_cons (pv 9) (pa_cons (pv 6) (pa_cons (pv 10) (pa_cons (pe_tup (pa_cons pe_str pa_nil)) pa_nil))))) pa_nil)))))
 (C8.pss_cut (ps_expr (pe_bm PySem.F.plainAttrs_list PySem.F.slot_list_append PySem.F.type_list_append mt_append (pv 12) (pa_cons (pe_tup (pa_cons (pv 9) (pa_cons (pv 6) (pa_cons (pv 10) (pa_cons (pe_ifExp (pt_cmpR op_isN (pv 11) pe_non (nomark _)) (pe_tup pa_nil) pe_non) pa_nil))))) pa_nil)))
 (C8.pss_cut (ps_expr (pe_bm PySem.F.plainAttrs_list PySem.F.slot_list_append PySem.F.type_list_append mt_append (pv 5) (pa_cons (pe_tup (pa_cons (pv 1) (pa_cons (pv 2) (pa_cons (pe_op op_cat (pe_slice (sl_listK (K := K) rfl) (pv 3) po_none (po_some (pv 8))) (pe_slice (sl_listK (K := K) rfl) (pv 3) (po_some (pe_op op_add (pv 8) pe_int)) po_none)) (pa_cons (pv 4) pa_nil))))) pa_nil)))
 (pss_one (ps_expr (pe_bm PySem.F.plainAttrs_list PySem.F.slot_list_extend PySem.F.type_list_extend mt_extend (pv 5) (pa_cons (pe_lc (own := [("_law_row", 13)]) (g := gName 13) (tt := tYes) rfl nd (pi_listK (K := K) rfl (pv 12)) (blkOk_by (own := [("_law_row", 13)]) (N := nUn) (sc := defScope sUn) (by decide +kernel)) (fun _ _ _ _ _ => pg_name (i := 13) nd rfl (Or.inl rfl)) (fun _ _ _ _ _ => pts_nil) (fun _ _ _ _ _ => (pe_tup (pa_cons (pv 1) (pa_cons (pv 2) (pa_cons (pe_op op_cat (pe_op op_cat (pe_slice (sl_listK (K := K) rfl) (pv 3) po_none (po_some (pv 8))) (pe_lst (pa_cons (pv 13) pa_nil))) (pe_slice (sl_listK (K := K) rfl) (pv 3) (po_some (pe_op op_add (pv 8) pe_int)) po_none)) (pa_cons (pv 4) pa_nil))))))) pa_nil))))))))
 (pss_one (ps_ret (pv 5))))))))), ?_⟩
    obtain ⟨dx, hp⟩ := id hc.ins
    obtain ⟨fs, hp⟩ := hp
    have nM : ∀ {x : Str}, (["_age", "_mark", "_letters", "_made"] : List Str).all (fun z => !(x == z)) = true → fs.lookup x = none := fun h => by
      obtain ⟨dx', tl, tm, xs, ys, k⟩ := id hc
      have := k.at_
      rw [hp] at this
      injection this with this
      injection this with _ _ e
      rw [e]; exact fc_no h
    refine ⟨_, rfl, p, dx, _, rfl, hp, nM (by decide +kernel), p, c, rfl, hc, _, rfl, p, dx, _, rfl, hp, nM (by decide +kernel), p, c, rfl, hc, by show 2 ≤ sizeLine; decide, fun U1 nU1 => ?_⟩
    have sU1 := same_new nU1 (o := .tup [.int c.age, .int c.mr])
    refine ⟨U1, _, rfl, st upd_same, rfl, _, _, rfl, _, _, rfl, rfl, ?_⟩
    generalize upd H U1 (.tup [.int c.age, .int c.mr]) = G1 at sU1
    refine ⟨_, rfl, p, dx, _, rfl, sU1 _ _ hp, nM (by decide +kernel), p, c, rfl, hc.same sU1, fun A xs G2 s2 nA hA2 dA2 => ?_⟩
    have s02 := sU1.trans s2
    refine ⟨_, rfl, p, dx, _, rfl, s02 _ _ hp, nM (by decide +kernel), p, c, rfl, hc.same s02, fun B ys G3 s3 nB hB3 dB3 => ⟨by show 2 ≤ sizeLine; decide, fun U2 nU2 => ?_⟩⟩
    have sU2 := same_new nU2 (o := .tup [.ref A, .ref B])
    refine ⟨U2, _, rfl, st upd_same, rfl, _, _, rfl, _, _, rfl, rfl, ?_⟩
    have hA := sU2 _ _ (s3 _ _ hA2)
    have dA := (dA2.same s3).same sU2
    have hB := sU2 _ _ hB3
    have dB := dB3.same sU2
    have sG := (s02.trans s3).trans sU2
    generalize upd G3 U2 (.tup [.ref A, .ref B]) = G at hA dA hB dB sG
    have lA := dA.len
    have lB := dB.len
    rw [List.length_map] at lA lB
    -- the first two
    refine ⟨_, rfl, _, _, rfl, rfl, _, rfl, _, rfl, _, rfl, by show 4 ≤ sizeLine; decide, fun T1 nT1 => ⟨_, rfl, _, rfl, _, _, rfl, rfl, _, rfl, _, rfl, by show 4 ≤ sizeLine; decide, fun T2 nT2 => ⟨by show 2 ≤ sizeLine; decide, fun D nD => ?_⟩⟩⟩
    have s1 := same_new nT1 (o := .tup [.int (c.age + 1), .int c.mr, .ref A, .ref B])
    have s2' := same_new nT2 (o := .tup [.int c.age, .int (c.mr + 1), .ref A, .ref B])
    have nD0 : G D = none := by
      have s12 := s1.trans s2'
      exact s12.free nD
    have sD := same_new nD (o := .lst [.ref T1, .ref T2])
    have s13 := (s1.trans s2').trans sD
    have AD : A ≠ D := ne_of_none hA nD0
    have BD : B ≠ D := ne_of_none hB nD0
    have hT1 := sD _ _ (s2' T1 _ upd_same)
    have hT2 := sD T2 _ upd_same
    have hD : _ = some (HO.lst [.ref T1, .ref T2]) := upd_same (H := upd (upd G T1 (.tup [.int (c.age + 1), .int c.mr, .ref A, .ref B])) T2 (.tup [.int c.age, .int (c.mr + 1), .ref A, .ref B])) (a := D)
    generalize upd (upd (upd G T1 (.tup [.int (c.age + 1), .int c.mr, .ref A, .ref B])) T2 (.tup [.int c.age, .int (c.mr + 1), .ref A, .ref B])) D (.lst [.ref T1, .ref T2]) = G4 at s13 hT1 hT2 hD
    have I0 : FdI D c G G4 2 := by
      refine ⟨s13, _, hD, Nat.le_refl _, fun x hx => ?_⟩
      rcases (show x = .ref T1 ∨ x = .ref T2 by simpa using hx) with rfl | rfl
      · exact ⟨{ c with age := c.age + 1 }, T1, A, B, xs, ys, rfl, hT1, s13 _ _ hA, AD, dA.same s13, s13 _ _ hB, BD, dB.same s13, un_age ok⟩
      · exact ⟨{ c with mr := c.mr + 1 }, T2, A, B, xs, ys, rfl, hT2, s13 _ _ hA, AD, dA.same s13, s13 _ _ hB, BD, dB.same s13, un_mr ok⟩
    -- one more, with other made ones
    have pushM : ∀ (G5 : Hp) (n : Nat) (vs : List V) (md : List (Int × List Str)) (M : Addr) (acc : List V) (R : Addr), FdI D c G G5 n → G5 M = some (.lst vs) → DvA G5 vs (md.map mdD) → OkMs md → md ≠ c.md → G5 D = some (.lst acc) → M ≠ D → G5 R = none →
        FdI D c G (upd (upd G5 R (.tup [.int c.age, .int c.mr, .ref A, .ref M])) D (.lst (acc ++ [.ref R]))) (n + 1) := fun G5 n vs md M acc R I hM dM okm ne hD5 nMD nR => by
      have sR := same_new nR (o := .tup [.int c.age, .int c.mr, .ref A, .ref M])
      have sA := I.s.trans sR
      exact (I.same sR).push nD0 (sR _ _ hD5) ⟨{ c with md := md }, R, A, M, xs, vs, rfl, upd_same, sA _ _ hA, AD, dA.same sA, sR _ _ hM, nMD, dM.same sR, un_md ok okm ne⟩
    refine ⟨fun σ G5 => σ = [some (.ref p), some (.int c.age), some (.int c.mr), some (.ref A), some (.ref B), some (.ref D), none, none, none, none, none, none, none, none] ∧ FdI D c G G5 3, ?_, ?_⟩
    · refine ⟨_, rfl, .inl ⟨rfl, _, sq hD⟩, _, rfl, _, rfl, _, rfl, _, rfl, Nat.zero_le _, fun E0 nE0 => ⟨by show 2 ≤ sizeLine; decide, fun E1 nE1 => ⟨by show 1 ≤ sizeLine; decide, fun E2 nE2 => ?_⟩⟩⟩
      have t0 := same_new nE0 (o := .tup [])
      have t1 := same_new nE1 (o := .tup [.int 0, .ref E0])
      have t2 := same_new nE2 (o := .lst [.ref E1])
      have t02 := (t0.trans t1).trans t2
      refine ⟨B, E2, ys, [.ref E1], rfl, rfl, t02 _ _ (s13 _ _ hB), upd_same, lt1 _ (by show ys.length + 1 ≤ 100000; omega), fun E3 nE3 => ⟨by show 4 ≤ sizeLine; decide, fun R nR => ?_⟩⟩
      have t3 := same_new nE3 (o := .lst (ys ++ [.ref E1]))
      have t03 := t02.trans t3
      have hE0 := (t1.trans (t2.trans t3)) E0 _ upd_same
      have hE1 := (t2.trans t3) E1 _ upd_same
      have hE3 : _ = some (HO.lst (ys ++ [.ref E1])) := upd_same (H := upd (upd (upd G4 E0 (.tup [])) E1 (.tup [.int 0, .ref E0])) E2 (.lst [.ref E1])) (a := E3)
      have hD5 := t03 _ _ hD
      have I5 := I0.same t03
      have E3D : E3 ≠ D := (ne_of_none ((t02 _ _ hD)) nE3).symm
      have dM : DvA _ (ys ++ [.ref E1]) ((c.md ++ [(0, [])]).map mdD) := DvA.appM (dB.same (s13.trans t03)) (.cons (md_dv (m := (0, [])) hE1 hE0) .nil)
      refine ⟨D, _, _, rfl, rfl, same_new nR _ _ hD5, by show 2 < sizeLine; decide, rfl, ?_⟩
      refine pushM _ 2 _ _ E3 _ R I5 hE3 dM ⟨fun m hm => (List.mem_append.mp hm).elim (ok.md.ok m) fun z => by rw [List.mem_singleton.mp z]; exact ⟨Int.le_refl 0, nil_ok⟩, by rw [List.length_append]; show c.md.length + 1 ≤ 900; omega⟩ (fun e => ?_) hD5 E3D nR
      have := congrArg List.length e
      rw [List.length_append] at this
      simp at this
    rintro σ G5 ⟨rfl, I5⟩
    refine ⟨fun σ G6 => (∃ v6 v7, σ = [some (.ref p), some (.int c.age), some (.int c.mr), some (.ref A), some (.ref B), some (.ref D), v6, v7, none, none, none, none, none, none]) ∧ FdI D c G G6 6, ?_, ?_⟩
    · have hB5 := I5.s _ _ hB
      refine ⟨_, rfl, Nat.zero_le _, fun E0 nE0 => ?_⟩
      have t0 := same_new nE0 (o := .lst [])
      have I6 := I5.same t0
      have hE0 : _ = some (HO.lst []) := upd_same (H := G5) (a := E0)
      generalize upd G5 E0 (.lst []) = G6 at t0 I6 hE0
      have lyD : LayD 3 (.list (c.md.map mdD)) := .lst (LayA.map fun m hm => lay_md (ok.md.ok m hm))
      refine ⟨.list (c.md.map mdD), .list [], (Dv.lst (I6.s _ _ hB) (dB.same I6.s)).dp lyD.nd, (Dv.lst hE0 .nil).dp rfl, lyD.sh, rfl, _, rfl, ?_⟩
      have eE : PyData.eqv (.list (c.md.map mdD)) (.list []) = decide (c.md = []) := eqvL_mds c.md []
      by_cases hmd : c.md = []
      · refine itbF (by rw [eE, decide_eq_true hmd]; rfl) ?_
        obtain ⟨acc, h1, h2, h3⟩ := I6.f
        exact ⟨⟨_, _, rfl⟩, I6.s, acc, h1, by omega, h3⟩
      · refine itbT (by rw [eE, decide_eq_false hmd]; rfl) ?_
        -- the last one
        obtain ⟨md0, ml, hsp⟩ : ∃ md0 ml, c.md = md0 ++ [ml] := ⟨c.md.dropLast, c.md.getLast hmd, (List.dropLast_concat_getLast hmd).symm⟩
        clear hmd
        obtain ⟨ys0, yl, eys, dY0, dYl⟩ : ∃ ys0 yl, ys = ys0 ++ [yl] ∧ DvA G ys0 (md0.map mdD) ∧ Dv G yl (mdD ml) := by
          have l1 : ys.length = md0.length + 1 := by rw [lB, hsp, List.length_append]; rfl
          have dB' := dB
          rw [hsp] at dB'
          have t1 := DvA.take md0.length dB'
          have t2 := DvA.drop md0.length dB'
          rw [List.take_left' rfl] at t1
          rw [List.drop_left' rfl] at t2
          cases hz : ys.drop md0.length with
          | nil => rw [hz] at t2; cases t2
          | cons y r =>
            rw [hz] at t2
            cases t2 with
            | cons h r' =>
              cases r'
              exact ⟨ys.take md0.length, y, by rw [← hz, List.take_append_drop], t1, h⟩
        obtain ⟨tl, sl, rfl, htl, hsl⟩ := dv_md dYl
        have okl := ok.md.ok ml (by rw [hsp]; exact List.mem_append_right _ List.mem_cons_self)
        have nzl := nz.m ml (by rw [hsp]; exact List.mem_append_right _ List.mem_cons_self)
        have ok0 : ∀ m ∈ md0, OkMd m := fun m hm => ok.md.ok m (by rw [hsp]; exact List.mem_append_left _ hm)
        have l0 : md0.length + 1 ≤ 50 := by have := m50; rw [hsp, List.length_append] at this; exact this
        have hat : atI ys (-1) = some (.ref tl) := by rw [eys]; exact atI_last _ _
        refine ⟨_, rfl, 1, rfl, B, _, -1, .ref tl, rfl, rfl, sq (I6.s _ _ hB), hat, ?_⟩
        refine ⟨tl, _, rfl, st (I6.s _ _ htl), rfl, _, _, rfl, _, _, rfl, rfl, ?_⟩
        have ecut : cutV ys none (some (-1)) = ys0 := by rw [cut_m1, eys, List.dropLast_concat]
        have ne0 : md0 ≠ c.md := fun e => by
          have := congrArg List.length e
          rw [hsp, List.length_append] at this
          simp at this
        have ly0 : ys0.length = md0.length := by have := dY0.len; rwa [List.length_map] at this
        have neL : ∀ m : Int × List Str, m ≠ ml → md0 ++ [m] ≠ c.md := fun m hm e => by
          rw [hsp] at e
          exact hm (by simpa using e)
        have okA : ∀ m : Int × List Str, OkMd m → OkMs (md0 ++ [m]) := fun m hm => ⟨fun x hx => (List.mem_append.mp hx).elim (ok0 x) fun z => by rw [List.mem_singleton.mp z]; exact hm, by rw [List.length_append]; show md0.length + 1 ≤ 900; omega⟩
        refine ⟨fun σ G7 => σ = [some (.ref p), some (.int c.age), some (.int c.mr), some (.ref A), some (.ref B), some (.ref D), some (.int ml.1), some (.ref sl), none, none, none, none, none, none] ∧ FdI D c G G7 4, ?_, ?_⟩
        · obtain ⟨acc, hD6, la, _⟩ := id I6.f
          refine ⟨_, rfl, .inl ⟨rfl, _, sq hD6⟩, _, rfl, _, rfl, _, rfl, _, rfl, 1, rfl, -1, rfl, B, ys, rfl, sq (I6.s _ _ hB), fun S nS => ?_⟩
          rw [ecut]
          refine ⟨by show 4 ≤ sizeLine; decide, fun R nR => ?_⟩
          have tS := same_new nS (o := .lst ys0)
          have SD : S ≠ D := (ne_of_none hD6 nS).symm
          refine ⟨D, _, _, rfl, rfl, same_new nR _ _ (tS _ _ hD6), lt2 _ (by omega), rfl, ?_⟩
          exact pushM _ 3 _ md0 S _ R (I6.same tS) upd_same (dY0.same (I6.s.trans tS)) ⟨ok0, by omega⟩ ne0 (tS _ _ hD6) SD nR
        rintro σ G7 ⟨rfl, I7⟩
        refine ⟨fun σ G7 => σ = [some (.ref p), some (.int c.age), some (.int c.mr), some (.ref A), some (.ref B), some (.ref D), some (.int ml.1), some (.ref sl), none, none, none, none, none, none] ∧ FdI D c G G7 5, ?_, ?_⟩
        · obtain ⟨acc, hD6, la, _⟩ := id I7.f
          refine ⟨_, rfl, .inl ⟨rfl, _, sq hD6⟩, _, rfl, _, rfl, _, rfl, _, rfl, 1, rfl, -1, rfl, B, ys, rfl, sq (I7.s _ _ hB), fun S nS => ?_⟩
          rw [ecut]
          have tS := same_new nS (o := .lst ys0)
          have hS : _ = some (HO.lst ys0) := upd_same (H := G7) (a := S)
          have J := I7.same tS
          generalize upd G7 S (.lst ys0) = G8 at tS hS J
          refine ⟨_, rfl, _, _, rfl, rfl, _, rfl, by show 2 ≤ sizeLine; decide, fun E1 nE1 => ⟨by show 1 ≤ sizeLine; decide, fun E2 nE2 => ?_⟩⟩
          have t1 := same_new nE1 (o := .tup [.int (ml.1 + 1), .ref sl])
          have t2 := same_new nE2 (o := .lst [.ref E1])
          have t12 := t1.trans t2
          refine ⟨S, E2, ys0, [.ref E1], rfl, rfl, t12 _ _ hS, upd_same, lt1 _ (by show ys0.length + 1 ≤ 100000; omega), fun E3 nE3 => ⟨by show 4 ≤ sizeLine; decide, fun R nR => ?_⟩⟩
          have t3 := same_new nE3 (o := .lst (ys0 ++ [.ref E1]))
          have t13 := t12.trans t3
          have hE1 := (t2.trans t3) E1 _ upd_same
          have hE3 : _ = some (HO.lst (ys0 ++ [.ref E1])) := upd_same (H := upd (upd G8 E1 (.tup [.int (ml.1 + 1), .ref sl])) E2 (.lst [.ref E1])) (a := E3)
          have hD7 := tS _ _ hD6
          have J2 := J.same t13
          have E3D : E3 ≠ D := (ne_of_none (t12 _ _ hD7) nE3).symm
          have sl3 := J2.s _ _ hsl
          refine ⟨D, _, _, rfl, rfl, same_new nR _ _ (t13 _ _ hD7), lt2 _ (by omega), rfl, ?_⟩
          exact pushM _ 4 _ (md0 ++ [(ml.1 + 1, ml.2)]) E3 _ R J2 hE3 (DvA.appM (dY0.same J2.s) (.cons (md_dv (m := (ml.1 + 1, ml.2)) hE1 sl3) .nil)) (okA _ ⟨by have := okl.1; show 0 ≤ ml.1 + 1; omega, okl.2⟩) (neL _ fun e => by have : ml.1 + 1 = ml.1 := congrArg Prod.fst e; omega) (t13 _ _ hD7) E3D nR
        rintro σ G8 ⟨rfl, I8⟩
        obtain ⟨acc, hD6, la, _⟩ := id I8.f
        refine ⟨_, rfl, .inl ⟨rfl, _, sq hD6⟩, _, rfl, _, rfl, _, rfl, _, rfl, 1, rfl, -1, rfl, B, ys, rfl, sq (I8.s _ _ hB), fun S nS => ?_⟩
        rw [ecut]
        have tS := same_new nS (o := .lst ys0)
        have hS : _ = some (HO.lst ys0) := upd_same (H := G8) (a := S)
        have J := I8.same tS
        generalize upd G8 S (.lst ys0) = G9 at tS hS J
        refine ⟨_, rfl, by show 1 ≤ sizeLine; decide, fun E0 nE0 => ⟨by show 2 ≤ sizeLine; decide, fun E1 nE1 => ⟨by show 1 ≤ sizeLine; decide, fun E2 nE2 => ?_⟩⟩⟩
        have t0 := same_new nE0 (o := .tup [.str "zz"])
        have t1 := same_new nE1 (o := .tup [.int ml.1, .ref E0])
        have t2 := same_new nE2 (o := .lst [.ref E1])
        have t12 := (t0.trans t1).trans t2
        refine ⟨S, E2, ys0, [.ref E1], rfl, rfl, t12 _ _ hS, upd_same, lt1 _ (by show ys0.length + 1 ≤ 100000; omega), fun E3 nE3 => ⟨by show 4 ≤ sizeLine; decide, fun R nR => ?_⟩⟩
        have t3 := same_new nE3 (o := .lst (ys0 ++ [.ref E1]))
        have t13 := t12.trans t3
        have hE0 : _ = some (HO.tup (zz.map V.str)) := (t1.trans (t2.trans t3)) E0 _ upd_same
        have hE1 := (t2.trans t3) E1 _ upd_same
        have hE3 : _ = some (HO.lst (ys0 ++ [.ref E1])) := upd_same (H := upd (upd (upd G9 E0 (.tup [.str "zz"])) E1 (.tup [.int ml.1, .ref E0])) E2 (.lst [.ref E1])) (a := E3)
        have hD7 := tS _ _ hD6
        have J2 := J.same t13
        have E3D : E3 ≠ D := (ne_of_none (t12 _ _ hD7) nE3).symm
        refine ⟨D, _, _, rfl, rfl, same_new nR _ _ (t13 _ _ hD7), lt2 _ (by omega), ⟨_, _, rfl⟩, ?_⟩
        exact pushM _ 5 _ (md0 ++ [(ml.1, zz)]) E3 _ R J2 hE3 (DvA.appM (dY0.same J2.s) (.cons (md_dv (m := (ml.1, zz)) hE1 hE0) .nil)) (okA _ ⟨okl.1, zz_ok⟩) (neL _ fun e => nzl (congrArg Prod.snd e).symm) (t13 _ _ hD7) E3D nR
    rintro σ G6 ⟨⟨v6, v7, rfl⟩, I6⟩
    -- letter by letter
    refine ⟨_, rfl, A, xs, rfl, for_enumS (K := K) (H0 := G) (a := A) (xs := xs) (.inl (sq hA)) (fun i σ J => ∃ u6 u7 u8 u9 u10 u11 u12 u13, σ = [some (.ref p), some (.int c.age), some (.int c.mr), some (.ref A), some (.ref B), some (.ref D), u6, u7, u8, u9, u10, u11, u12, u13] ∧ FdI D c G J (6 + 5 * i)) ?_ ?_ ?_ ?_⟩
    · exact ⟨_, _, _, _, _, _, _, _, rfl, I6⟩
    · rintro i σ G7 ⟨u6, u7, u8, u9, u10, u11, u12, u13, rfl, I7⟩
      exact I7.s
    · rintro i x σ G7 T' hx ⟨u6, u7, u8, u9, u10, u11, u12, u13, rfl, I7⟩ nT'
      obtain ⟨l, hl, hv⟩ := dA.getD' hx
      obtain ⟨ta, sa, wv, rfl, hta, hsa, hw⟩ := dv_cl hv
      have okl := ok.ls.ok l (List.mem_of_getElem? hl)
      have nzs := nz.s l (List.mem_of_getElem? hl)
      have nzw := nz.w l (List.mem_of_getElem? hl)
      have il := lt_of_get hl
      have sT := same_new nT' (o := .tup [.int (i : Nat), .ref ta])
      have I8 := I7.same sT
      have hT' : _ = some (HO.tup [.int (i : Nat), .ref ta]) := upd_same (H := G7) (a := T')
      generalize upd G7 T' (.tup [.int (i : Nat), .ref ta]) = G8 at sT I8 hT'
      have hta8 := I8.s _ _ hta
      have hsa8 := I8.s _ _ hsa
      have hw8 := hw.tu (TU.same I8.s)
      refine ⟨T', _, rfl, st hT', rfl, .int (i : Nat), _, rfl, .ref ta, [], rfl, ta, _, rfl, st hta8, rfl, _, _, rfl, _, _, rfl, _, _, rfl, _, _, rfl, rfl, rfl, ?_⟩
      refine ⟨fun σ G9 => ∃ O us, σ = [some (.ref p), some (.int c.age), some (.int c.mr), some (.ref A), some (.ref B), some (.ref D), some (.int l.b), u7, some (.int (i : Nat)), some (.int l.n), some (.ref sa), some wv, some (.ref O), u13] ∧ Same G8 G9 ∧ G8 O = none ∧ G9 O = some (.lst us) ∧ us.length = 3 ∧ ∀ y ∈ us, OT l G9 y, ?_, ?_⟩
      · refine ⟨_, rfl, _, rfl, _, _, rfl, rfl, _, rfl, _, rfl, by show 4 ≤ sizeLine; decide, fun E1 nE1 => ⟨_, rfl, _, rfl, by show 1 ≤ sizeLine; decide, fun E2 nE2 => ⟨_, rfl, by show 4 ≤ sizeLine; decide, fun E3 nE3 => ⟨_, rfl, _, rfl, _, rfl, by show 1 ≤ sizeLine; decide, fun E4 nE4 => ⟨by show 4 ≤ sizeLine; decide, fun E5 nE5 => ⟨by show 3 ≤ sizeLine; decide, fun O nO => ?_⟩⟩⟩⟩⟩⟩
        have t1 := same_new nE1 (o := .tup [.int l.n, .int (l.b + 1), .ref sa, wv])
        have t2 := same_new nE2 (o := .tup [.str "zz"])
        have t3 := same_new nE3 (o := .tup [.int l.n, .int l.b, .ref E2, wv])
        have t4 := same_new nE4 (o := .tup [.str "zz"])
        have t5 := same_new nE5 (o := .tup [.int l.n, .int l.b, .ref sa, .ref E4])
        have t6 := same_new nO (o := .lst [.ref E1, .ref E3, .ref E5])
        have t15 := (((t1.trans t2).trans t3).trans t4).trans t5
        have t16 := t15.trans t6
        have hE1 := (((((t2.trans t3).trans t4).trans t5).trans t6)) E1 _ upd_same
        have hE2 : _ = some (HO.tup (zz.map V.str)) := (((t3.trans t4).trans t5).trans t6) E2 _ upd_same
        have hE3 := ((t4.trans t5).trans t6) E3 _ upd_same
        have hE4 : _ = some (HO.tup (zz.map V.str)) := (t5.trans t6) E4 _ upd_same
        have hE5 := t6 E5 _ upd_same
        have hs9 := t16 _ _ hsa8
        have hw9 := hw8.tu (TU.same t16)
        refine ⟨O, _, rfl, t16, t15.free nO, upd_same, rfl, fun y hy => ?_⟩
        rcases (show y = .ref E1 ∨ y = .ref E3 ∨ y = .ref E5 by simpa using hy) with rfl | rfl | rfl
        · exact ⟨{ l with b := l.b + 1 }, cl_dv (l := { l with b := l.b + 1 }) hE1 hs9 hw9, rfl, ⟨okl.n, by have := okl.b; show 0 ≤ l.b + 1; omega, okl.s, okl.w⟩, cl_ne_b⟩
        · exact ⟨{ l with s := zz }, cl_dv (l := { l with s := zz }) hE3 hE2 hw9, rfl, ⟨okl.n, okl.b, zz_ok, okl.w⟩, cl_ne_s fun e => nzs e.symm⟩
        · exact ⟨{ l with w := some zz }, cl_dv (l := { l with w := some zz }) hE5 hs9 ⟨E4, rfl, hE4⟩, rfl, ⟨okl.n, okl.b, okl.s, fun ss e => by rw [← Option.some.inj e]; exact zz_ok⟩, cl_ne_w fun e => nzw e.symm⟩
      rintro σ G9 ⟨O, us, rfl, s89, nO, hO, l3, hot⟩
      have OD : O ≠ D := fun e => by
        obtain ⟨acc', hD9, _⟩ := id I8.f
        rw [← e, nO] at hD9; cases hD9
      refine ⟨fun σ G9 => ∃ us, σ = [some (.ref p), some (.int c.age), some (.int c.mr), some (.ref A), some (.ref B), some (.ref D), some (.int l.b), u7, some (.int (i : Nat)), some (.int l.n), some (.ref sa), some wv, some (.ref O), u13] ∧ Same G8 G9 ∧ G9 O = some (.lst us) ∧ us.length = 4 ∧ ∀ y ∈ us, OT l G9 y, ?_, ?_⟩
      · refine ⟨_, rfl, .inl ⟨rfl, _, sq hO⟩, _, rfl, _, rfl, _, rfl, _, rfl, rfl, _, rfl, ?_⟩
        have fin : ∀ (G10 : Hp) (v : V), Same G9 G10 → WV G10 v (w0 l.w) → ∀ R, G10 R = none → ∃ us', upd (upd G10 R (.tup [.int l.n, .int l.b, .ref sa, v])) O (.lst (us ++ [.ref R])) O = some (.lst us') ∧ us'.length = 4 ∧ Same G8 (upd (upd G10 R (.tup [.int l.n, .int l.b, .ref sa, v])) O (.lst (us ++ [.ref R]))) ∧ ∀ y ∈ us', OT l (upd (upd G10 R (.tup [.int l.n, .int l.b, .ref sa, v])) O (.lst (us ++ [.ref R]))) y := fun G10 v s hv R nR => by
          have sR := same_new nR (o := .tup [.int l.n, .int l.b, .ref sa, v])
          have sA := s.trans sR
          have hO2 := sA _ _ hO
          have tm : TU (upd G10 R (.tup [.int l.n, .int l.b, .ref sa, v])) (upd (upd G10 R (.tup [.int l.n, .int l.b, .ref sa, v])) O (.lst (us ++ [.ref R]))) := TU.mut hO2 fun _ z => by cases z
          refine ⟨_, upd_same, by rw [List.length_append, l3]; rfl, (s89.trans sA).mut nO, fun y hy => ?_⟩
          rcases List.mem_append.mp hy with hy | hy
          · exact ((hot y hy).tu (TU.same sA)).tu tm
          · rw [List.mem_singleton.mp hy]
            exact ⟨{ l with w := w0 l.w }, (cl_dv (l := { l with w := w0 l.w }) upd_same (((s89.trans sA)) _ _ hsa8) (hv.tu (TU.same sR))).tu tm (tO_cl _), rfl, ⟨okl.n, okl.b, okl.s, w0_ok _⟩, cl_ne_w (w0_ne _)⟩
        cases hw0 : l.w with
        | none =>
          have hw' := hw8
          rw [hw0] at hw'
          obtain rfl : wv = .non := hw'
          refine itbT rfl ⟨Nat.zero_le _, fun E0 nE0 => ⟨by show 4 ≤ sizeLine; decide, fun R nR => ?_⟩⟩
          have t0 := same_new nE0 (o := .tup [])
          obtain ⟨us', f1, f2, f3, f4⟩ := fin _ (.ref E0) t0 (by rw [hw0]; exact ⟨E0, rfl, upd_same⟩) R nR
          exact ⟨O, _, _, rfl, rfl, (t0.trans (same_new nR)) _ _ hO, by show us.length < sizeLine; rw [l3]; decide, us', rfl, f3, f1, f2, f4⟩
        | some ws =>
          have hw' := hw8
          rw [hw0] at hw'
          obtain ⟨wa, rfl, _⟩ := hw'
          refine itbF rfl ⟨by show 4 ≤ sizeLine; decide, fun R nR => ?_⟩
          obtain ⟨us', f1, f2, f3, f4⟩ := fin _ .non (fun _ _ h => h) (by rw [hw0]; exact rfl) R nR
          exact ⟨O, _, _, rfl, rfl, (same_new nR) _ _ hO, by show us.length < sizeLine; rw [l3]; decide, us', rfl, f3, f1, f2, f4⟩
      clear hot hO s89 l3 us
      rintro σ G10 ⟨us, rfl, s8, hO, l4, hot⟩
      have I10 := I8.same s8
      clear I7 I8
      have cT : cutV xs none (some ((i : Nat) : Int)) = xs.take i := cut_take _ i
      have cD : cutV xs (some ((i : Nat) + 1 : Int)) none = xs.drop (i + 1) := by have := cut_drop xs (i + 1); exact_mod_cast this
      have dT := DvA.take i dA
      have dDr := DvA.drop (i + 1) dA
      refine ⟨fun σ G9 => σ = [some (.ref p), some (.int c.age), some (.int c.mr), some (.ref A), some (.ref B), some (.ref D), some (.int l.b), u7, some (.int (i : Nat)), some (.int l.n), some (.ref sa), some wv, some (.ref O), u13] ∧ FdI D c G G9 (6 + 5 * i + 1) ∧ G9 O = some (.lst us) ∧ ∀ y ∈ us, OT l G9 y, ?_, ?_⟩
      · obtain ⟨acc, hD6, la, _⟩ := id I10.f
        refine ⟨_, rfl, .inl ⟨rfl, _, sq hD6⟩, _, rfl, _, rfl, _, rfl, _, rfl, _, rfl, A, xs, rfl, sq (I10.s _ _ hA), fun S1 n1 => ?_⟩
        rw [cT]
        have t1 := same_new n1 (o := .lst (xs.take i))
        have J1 := I10.same t1
        have h1 : _ = some (HO.lst (xs.take i)) := upd_same (H := G10) (a := S1)
        have hD7 := t1 _ _ hD6
        have hO7 := t1 _ _ hO
        generalize upd G10 S1 (.lst (xs.take i)) = G11 at t1 J1 h1 hD7 hO7
        refine ⟨_, rfl, _, rfl, _, _, rfl, rfl, _, rfl, A, xs, rfl, sq (J1.s _ _ hA), fun S2 n2 => ?_⟩
        rw [cD]
        have t2 := same_new n2 (o := .lst (xs.drop (i + 1)))
        refine ⟨S1, S2, _, _, rfl, rfl, t2 _ _ h1, upd_same, lt1 _ (by rw [List.length_take, List.length_drop]; show _ ≤ 100000; omega), fun S3 n3 => ⟨_, rfl, by show 4 ≤ sizeLine; decide, fun R nR => ?_⟩⟩
        have t3 := same_new n3 (o := .lst (xs.take i ++ xs.drop (i + 1)))
        have t23 := t2.trans t3
        have J3 := J1.same t23
        have sR := same_new nR (o := .tup [.int c.age, .int c.mr, .ref S3, .ref B])
        have hD8 := (t23.trans sR) _ _ hD7
        have hO8 := (t23.trans sR) _ _ hO7
        have S3D : S3 ≠ D := (ne_of_none (t2 _ _ hD7) n3).symm
        have hS3 : _ = some (HO.lst (xs.take i ++ xs.drop (i + 1))) := upd_same (H := upd G11 S2 (.lst (xs.drop (i + 1)))) (a := S3)
        obtain ⟨okw, new⟩ := ls_without ok.ls hl
        have uv : UV D c _ (.ref R) := ⟨{ c with ls := c.ls.take i ++ c.ls.drop (i + 1) }, R, S3, B, _, ys, rfl, upd_same, sR _ _ hS3, S3D, (DvA.appM dT dDr).same (J3.s.trans sR), (J3.s.trans sR) _ _ hB, BD, dB.same (J3.s.trans sR), un_ls ok okw new⟩
        refine ⟨D, _, _, rfl, rfl, hD8, lt2 _ (by omega), rfl, (J3.same sR).push nD0 hD8 uv, ?_, fun y hy => ?_⟩
        · rw [upd_ne OD]; exact hO8
        · exact (((hot y hy).tu (TU.same t1)).tu (TU.same (t23.trans sR))).tu (TU.mut hD8 fun _ z => by cases z)
      rintro σ G11 ⟨rfl, I11, hO11, hot11⟩
      obtain ⟨acc, hD11, la, _⟩ := id I11.f
      refine ⟨_, rfl, .inl ⟨rfl, _, sq hD11⟩, _, rfl, O, rfl, ⟨_, sq hO11⟩, fun D2 nD2 => ?_⟩
      have D2D : D2 ≠ D := (ne_of_none hD11 nD2).symm
      have O2 : O ≠ D2 := ne_of_none hO11 nD2
      have A2' : A ≠ D2 := ne_of_none (I11.s _ _ hA) nD2
      have B2 : B ≠ D2 := ne_of_none (I11.s _ _ hB) nD2
      refine lc_it (walk_list (K := K) (a := O) (xs := us)) (fun j J => Same G11 J ∧ ∃ zs, J D2 = some (.lst zs) ∧ zs.length = j ∧ ∀ z ∈ zs, UW (fun b => b = D ∨ b = D2) c J z) ⟨same_new nD2, [], upd_same, rfl, fun z hz => (by cases hz)⟩ (fun j J _ h => sq (h.1 _ _ hO11)) ?_ ?_
      · rintro j y J J' hj ⟨sJ, zs, hD2, lz, hz⟩ ⟨rfl, hy⟩
        obtain ⟨l', dl', en, okl', ne'⟩ := (hot11 y (List.mem_of_getElem? hy)).tu (TU.same sJ)
        obtain ⟨okw, new⟩ := ls_other ok.ls hl en okl' ne'
        refine ⟨rfl, tyes ⟨_, rfl, _, rfl, _, rfl, _, rfl, _, rfl, A, xs, rfl, sq (sJ _ _ (I11.s _ _ hA)), fun S1 n1 => ?_⟩⟩
        rw [cT]
        have t1 := same_new n1 (o := .lst (xs.take i))
        refine ⟨_, rfl, by show 1 ≤ sizeLine; decide, fun S2 n2 => ?_⟩
        have t2 := same_new n2 (o := .lst [y])
        refine ⟨S1, S2, _, _, rfl, rfl, t2 S1 _ upd_same, upd_same, lt1 _ (by rw [List.length_take]; show _ ≤ 100000; show min i xs.length + 1 ≤ 100000; omega), fun S3 n3 => ?_⟩
        have t3 := same_new n3 (o := .lst (xs.take i ++ [y]))
        have t13 := (t1.trans t2).trans t3
        have hS3 : _ = some (HO.lst (xs.take i ++ [y])) := upd_same (H := upd (upd J' S1 (.lst (xs.take i))) S2 (.lst [y])) (a := S3)
        generalize upd (upd (upd J' S1 (.lst (xs.take i))) S2 (.lst [y])) S3 (.lst (xs.take i ++ [y])) = J2 at t13 hS3
        have sA := (I11.s.trans sJ).trans t13
        refine ⟨_, rfl, _, rfl, _, _, rfl, rfl, _, rfl, A, xs, rfl, sq (sA _ _ hA), fun S4 n4 => ?_⟩
        rw [cD]
        have t4 := same_new n4 (o := .lst (xs.drop (i + 1)))
        refine ⟨S3, S4, _, _, rfl, rfl, t4 _ _ hS3, upd_same, lt1 _ (by rw [List.length_append, List.length_take, List.length_drop]; show min i xs.length + 1 + _ ≤ 100000; omega), fun S5 n5 => ⟨_, rfl, by show 4 ≤ sizeLine; decide, fun R nR => ?_⟩⟩
        have t5 := same_new n5 (o := .lst (xs.take i ++ [y] ++ xs.drop (i + 1)))
        have sR := same_new nR (o := .tup [.int c.age, .int c.mr, .ref S5, .ref B])
        have t4R := (t4.trans t5).trans sR
        have sB := sA.trans t4R
        have hS5 := sR S5 _ upd_same
        have hD2' := (t13.trans t4R) _ _ hD2
        have S5D : S5 ≠ D := (ne_of_none ((t13.trans t4) _ _ (sJ _ _ hD11)) n5).symm
        have S5D2 : S5 ≠ D2 := (ne_of_none ((t13.trans t4) _ _ hD2) n5).symm
        have uv : UW (fun b => b = D ∨ b = D2) c _ (.ref R) := ⟨{ c with ls := c.ls.take i ++ [l'] ++ c.ls.drop (i + 1) }, R, S5, B, _, ys, rfl, upd_same, hS5, fun e => e.elim S5D S5D2, DvA.appM (DvA.appM (dT.same sB) (.cons (dl'.same (t13.trans t4R)) .nil)) (dDr.same sB), sB _ _ hB, fun e => e.elim BD B2, dB.same sB, un_ls ok okw new⟩
        refine ⟨zs, hD2', lt2 _ (by omega), ((sJ.trans t13).trans t4R).mut nD2, zs ++ [.ref R], upd_same, by rw [List.length_append, lz]; rfl, fun z hzz => ?_⟩
        rcases List.mem_append.mp hzz with hzz | hzz
        · exact ((hz z hzz).ext (TU.same (t13.trans t4R)) fun b o _ hb => (t13.trans t4R) b o hb).mut2 hD2'
        · rw [List.mem_singleton.mp hzz]; exact uv.mut2 hD2'
      · rintro J ⟨sJ, zs, hD2, lz, hz⟩
        have hDJ := sJ _ _ hD11
        refine ⟨D, D2, _, _, rfl, rfl, hDJ, hD2, lt1 _ (by show acc.length + zs.length ≤ 100000; omega), _, _, _, _, _, _, _, _, rfl, ?_⟩
        have f := (I11.same sJ).pushL nD0 hDJ fun z hzz => (hz z hzz).imp fun b e => .inl e
        obtain ⟨acc2, g1, g2, g3⟩ := f.f
        exact ⟨f.s, acc2, g1, by omega, g3⟩
    · rintro σ G7 ⟨u6, u7, u8, u9, u10, u11, u12, u13, rfl, I7⟩
      obtain ⟨acc, h1, h2, h3⟩ := I7.f
      exact ⟨_, rfl, q D acc G7 (sG.trans I7.s) h1 (by omega) h3⟩
end
end K1


set_option Elab.async false
set_option linter.all false
set_option maxRecDepth 100000
set_option maxHeartbeats 4000000
namespace K1
open PySem PySem.Spec PyProof.Rows L2 RZ StX
abbrev sAp : Stmt := st__law_apart_right
abbrev nAp : List Str := ["_law_here", "_law_age_so", "_law_mark_so", "_law_rows", "_law_coming", "_law_other"]
abbrev pAp : List Str := ["_law_here"]
theorem scAp : FnScope nAp pAp (defScope sAp) := ⟨rfl, rfl, rfl, by decide +kernel, rfl, by decide +kernel, by decide +kernel⟩
theorem CpAt.ex {K : PySem.W.Frag} {CC p : Addr} {H H' : Hp} {c : Cp} (h : CpAt K CC H p c) (s : L2.Ext H H') : CpAt K CC H' p c := h.same fun b o hb => s b o hb
theorem two_eq {K : PySem.W.Frag} {CC a b : Addr} {c d : Cp} {H : Hp} (h1 : CpAt K CC H a c) (h2 : CpAt K CC H b d) (o1 : OkCp c) (o2 : OkCp d) : TwoI CC (CpEq K CC) (.ref a) (.ref b) (decide (c = d)) H := by
  obtain ⟨dx, fs, e1⟩ := h1.ins
  obtain ⟨dy, gs, e2⟩ := h2.ins
  exact ⟨a, b, dx, dy, fs, gs, rfl, rfl, e1, e2, c, d, h1, h2, o1.ls.ok, o2.ls.ok, o1.md.ok, o2.md.ok, rfl⟩
/-- == of two copies -/
theorem eq_cp {K : PySem.W.Frag} {CC a b : Addr} {c d : Cp} {H : Hp} {Q : VK} (h1 : CpAt K CC H a c) (h2 : CpAt K CC H b d) (o1 : OkCp c) (o2 : OkCp d) (q : ∀ H', Same H H' → Q (.bl (decide (c = d))) H') : rEqI CC (CpEq K CC) (.ref a) (.ref b) H Q :=
  ⟨_, two_eq h1 h2 o1 o2, fun H' s => q H' fun b o hb => s b o hb⟩
theorem ne_cp {K : PySem.W.Frag} {CC a b : Addr} {c d : Cp} {H : Hp} {Q : VK} (h1 : CpAt K CC H a c) (h2 : CpAt K CC H b d) (o1 : OkCp c) (o2 : OkCp d) (q : ∀ H', Same H H' → Q (.bl !decide (c = d)) H') : rNeI CC (CpEq K CC) (.ref a) (.ref b) H Q :=
  ⟨_, two_eq h1 h2 o1 o2, fun H' s => q H' fun b o hb => s b o hb⟩
def spAp (K : PySem.W.Frag) (CC : Addr) : Sp := fun vs H Q _ => ∃ (p : Addr) (c : Cp), vs = [.ref p] ∧ CpAt K CC H p c ∧ OkCp c ∧ c.ls.length ≤ 50 ∧ c.md.length ≤ 50 ∧ NZ c ∧ ∀ H', Same H H' → Q (.bl true) H'
section
variable {P : Program} {w : World} {K : PySem.W.Frag} {mg : Str → Option Value} {base : Heap} {CC E0' : Addr}
set_option maxHeartbeats 16000000 in
theorem ok_ap {f : Addr} {fd : FuncData} (T : Bk mg) (t : CcT K mg CC) (D_new : MkCc P w K mg base CC E0') (EM : EqM P w K mg base 1 CC (CpEq K CC)) (M_age : MDef P w K mg base CX0 1 CC "age" nSelf (spCAge K CC)) (M_mark : MDef P w K mg base CX0 1 CC "mark" nSelf (spCMark K CC)) (M_letters : MDef P w K mg base CX0 1 CC "letters" nSelf (spCLet K CC)) (M_made : MDef P w K mg base CX0 1 CC "made" nSelf (spCMade K CC))
    (D_unlike_ones : Def P w K mg base CX0 2 "_law_unlike_ones" pUn (spUn K CC)) (F : Fun K "_law_apart_right" "_law_apart_right" sAp f fd) : FnOk P w K mg base CX0 6 f fd pAp (spAp K CC) := by
  have nd := scAp.nd
  refine F.ok scAp (fun vs H Q E h => ?_) (fun cdv A outer s H vs Q E hr h => ?_)
  · obtain ⟨p, c, rfl, _⟩ := h
    rfl
  · obtain ⟨p, c, rfl, hc, ok, l50, m50, nz, q⟩ := h
    refine ⟨_, (pss_cons (ps_for PassesOwn.never rfl (pi_listK (K := K) rfl (pe_def D_unlike_ones (hr.mono (by decide)) rfl pass0 (pa_cons (pv 0) pa_nil))) (pg_tup rfl (pgs_cons (pg_name (i := 1) nd rfl (Or.inl rfl)) (pgs_cons (pg_name (i := 2) nd rfl (Or.inl rfl)) (pgs_cons (pg_name (i := 3) nd rfl (Or.inl rfl)) (pgs_cons (pg_name (i := 4) nd rfl (Or.inl rfl)) pgs_nil)))))
  (pss_cons (ps_set (i := 5) nd rfl (Or.inl rfl) (pe_newC4 D_new t.gC (hr.mono (by decide)) rfl (pa_cons (pv 1) (pa_cons (pv 2) (pa_cons (pv 3) (pa_cons (pv 4) pa_nil))))))
 (pss_one (ps_if (PW.pt (pw_or (pt_cmpR (op_eqI EM (hr.mono (by decide))) (pv 5) (pv 0) (nomark _)) (pw_or (pt_cmpR (op_eqI EM (hr.mono (by decide))) (pv 0) (pv 5) (nomark _)) (pw_or1 (pt_not (pt_cmpR (op_neI EM (hr.mono (by decide))) (pv 0) (pv 5) (nomark _)))))))
  (pss_one (ps_ret pe_bl))
  pss_nil))))
 (pss_one (ps_ret (pe_cmpR (op_eqI EM (hr.mono (by decide))) (pv 0) (pe_newC4 D_new t.gC (hr.mono (by decide)) rfl (pa_cons (pe_mdef0 M_age t.cl (hr.mono (by decide)) pass0 (pv 0)) (pa_cons (pe_mdef0 M_mark t.cl (hr.mono (by decide)) pass0 (pv 0)) (pa_cons (pe_callTy (cr_tup (K := K) rfl) (by rfl) T.tuple PyProof.Rows.boot_tuple (pa_cons (pe_mdef0 M_letters t.cl (hr.mono (by decide)) pass0 (pv 0)) pa_nil)) (pa_cons (pe_callTy (cr_tup (K := K) rfl) (by rfl) T.tuple PyProof.Rows.boot_tuple (pa_cons (pe_mdef0 M_made t.cl (hr.mono (by decide)) pass0 (pv 0)) pa_nil)) pa_nil))))) (nomark _))))), ?_⟩
    obtain ⟨dx, tl, tm, xs0, ys0, hP⟩ := id hc
    refine ⟨_, rfl, p, c, rfl, hc, ok, l50, m50, nz, fun D acc H1 s1 hD la hu => ?_⟩
    refine ⟨D, rfl, ⟨_, sq hD⟩, for_list (K := K) (a := D) (xs := acc) (fun i σ G => ∃ v1 v2 v3 v4 v5, σ = [some (.ref p), v1, v2, v3, v4, v5] ∧ Same H1 G) ?_ ?_ ?_ ?_⟩
    · exact ⟨_, _, _, _, _, rfl, fun _ _ h => h⟩
    · rintro i σ G _ ⟨v1, v2, v3, v4, v5, rfl, s2⟩
      exact sq (s2 _ _ hD)
    · rintro i x σ G hx ⟨v1, v2, v3, v4, v5, rfl, s2⟩
      obtain ⟨d, ta, la', ma, us, vs, rfl, h1, h2, _, h3, h4, _, h5, okd, ned⟩ := hu x (List.mem_of_getElem? hx)
      have s12 := s1.trans s2
      refine ⟨ta, _, rfl, st (s2 _ _ h1), rfl, _, _, rfl, _, _, rfl, _, _, rfl, _, _, rfl, rfl, ?_⟩
      refine ⟨_, rfl, _, rfl, _, rfl, _, rfl, ?_⟩
      refine fun y dy ny ndy hne => newC' (K := K) ny ndy hne okd.age okd.mr (.inl (.inl (s2 _ _ h2))) (h3.same s2) okd.ls (.inl (.inl (s2 _ _ h4))) (h5.same s2) okd.md fun G2 s3 hy => ?_
      have hc3 := (hc.same s12).same s3
      refine ⟨_, rfl, _, rfl, eq_cp hy hc3 okd ok fun G3 s4 => ⟨_, rfl, itbF (decide_eq_false ned) ?_⟩⟩
      refine ⟨_, rfl, _, rfl, eq_cp (hc3.same s4) (hy.same s4) ok okd fun G4 s5 => ⟨_, rfl, itbF (decide_eq_false fun e => ned e.symm) ?_⟩⟩
      refine ⟨_, rfl, _, rfl, ne_cp ((hc3.same s4).same s5) ((hy.same s4).same s5) ok okd fun G5 s6 => ⟨_, rfl, itbF (by rw [decide_eq_false fun e => ned (Eq.symm e)]; rfl) ?_⟩⟩
      exact ⟨_, _, _, _, _, rfl, (((s2.trans s3).trans s4).trans s5).trans s6⟩
    · rintro σ G ⟨v1, v2, v3, v4, v5, rfl, s2⟩
      have s12 := s1.trans s2
      have hc2 := hc.same s12
      refine ⟨_, rfl, _, rfl, p, dx, _, rfl, s12 _ _ hP.at_, fc_no (by decide +kernel), p, c, rfl, hc2, _, rfl, p, dx, _, rfl, s12 _ _ hP.at_, fc_no (by decide +kernel), p, c, rfl, hc2, _, rfl, p, dx, _, rfl, s12 _ _ hP.at_, fc_no (by decide +kernel), p, c, rfl, hc2, fun A xs G2 s3 nA hA dA => ?_⟩
      refine ⟨A, xs, rfl, .inl (.inl hA), fun A2 G3 s4 hA2 => ?_⟩
      have s14 := (s12.trans s3).trans s4
      refine ⟨_, rfl, p, dx, _, rfl, s14 _ _ hP.at_, fc_no (by decide +kernel), p, c, rfl, hc.same s14, fun B ys G4 s5 nB hB dB => ?_⟩
      refine ⟨B, ys, rfl, .inl (.inl hB), fun B2 G5 s6 hB2 => ?_⟩
      have s16 := s5.trans s6
      refine fun y dy ny ndy hne => newC' (K := K) ny ndy hne ok.age ok.mr (hA2.tu (TU.same s16)).sq ((dA.same s4).same s16) ok.ls hB2.sq (dB.same s6) ok.md fun G6 s7 hy => ?_
      have sA := (s14.trans s16).trans s7
      refine eq_cp (hc.same sA) hy ok ok fun H' s8 => ?_
      rw [decide_eq_true (show c = ⟨c.age, c.mr, c.ls, c.md⟩ from rfl)]
      exact q H' (sA.trans s8)
end
end K1


set_option Elab.async false
set_option linter.all false
set_option maxRecDepth 100000
set_option maxHeartbeats 2000000
/-! What stays while a well, a dict and a list change; dicts by number. -/
namespace K1
open PySem PySem.Spec PyProof.Rows L2 RZ StX
/-- tuples and instances stay -/
structure TI (H G : Hp) : Prop where
  t : TU H G
  i : ∀ b C dx fs, H b = some (.ins C dx fs) → G b = some (.ins C dx fs)
theorem TI.same {H G : Hp} (s : Same H G) : TI H G := ⟨TU.same s, fun b C dx fs h => s _ _ h⟩
theorem TI.en {H G : Hp} (s : LamX.ExtN H G) : TI H G := ⟨TU.ext s, fun b C dx fs h => s _ _ h fun _ z => by cases z⟩
theorem TI.trans {H G J : Hp} (a : TI H G) (b : TI G J) : TI H J := ⟨a.t.trans b.t, fun c C dx fs h => b.i _ _ _ _ (a.i _ _ _ _ h)⟩
theorem TI.w {p : Addr} {H G : Hp} (w : WellAt H p) (e : Ext p H G) : TI H G := ⟨TU.w w e, fun b C dx fs h => e _ _ (fun z => by
  obtain ⟨c, m, t, k⟩ := w
  rw [z, k] at h; cases h) h⟩
theorem TI.mut {H : Hp} {D : Addr} {o u : HO} (hD : H D = some o) (h1 : ∀ xs, o ≠ .tup xs) (h2 : ∀ C dx fs, o ≠ .ins C dx fs) : TI H (upd H D u) :=
  ⟨TU.mut hD h1, fun b C dx fs h => by rw [upd_ne (fun z => by rw [z, hD] at h; exact h2 _ _ _ (Option.some.inj h))]; exact h⟩
theorem CpAt.ti {K : PySem.W.Frag} {CC p : Addr} {H H' : Hp} {c : Cp} (h : CpAt K CC H p c) (s : TI H H') : CpAt K CC H' p c := by
  obtain ⟨dx, tl, tm, xs, ys, h⟩ := h
  exact ⟨dx, tl, tm, xs, ys, s.i _ _ _ _ h.at_, h.tl.tu s.t, h.xs.tu s.t (tO_cls _), h.tm.tu s.t, h.ys.tu s.t (tO_mds _)⟩
theorem FoAt.ti {C p : Addr} {H H' : Hp} {F : Fo} (h : FoAt C H p F) (s : TI H H') : FoAt C H' p F := by
  obtain ⟨dx, tl, tg, a, b, c⟩ := h
  exact ⟨dx, tl, tg, s.i _ _ _ _ a, b.tu s.t (tO_lts _), c.tu s.t (tO_gos _)⟩
/-- all but three things stay -/
def EX3 (p D L : Addr) (H G : Hp) : Prop := ∀ b o, b ≠ p → b ≠ D → b ≠ L → H b = some o → G b = some o
theorem EX3.refl {p D L : Addr} {H : Hp} : EX3 p D L H H := fun _ _ _ _ _ h => h
theorem EX3.same {p D L : Addr} {H G J : Hp} (a : EX3 p D L H G) (s : Same G J) : EX3 p D L H J := fun b o n1 n2 n3 h => s _ _ (a b o n1 n2 n3 h)
theorem EX3.w {p D L : Addr} {H G J : Hp} (a : EX3 p D L H G) (s : Ext p G J) : EX3 p D L H J := fun b o n1 n2 n3 h => s _ _ n1 (a b o n1 n2 n3 h)
theorem EX3.mutD {p D L : Addr} {H G : Hp} {u : HO} (a : EX3 p D L H G) : EX3 p D L H (upd G D u) := fun b o n1 n2 n3 h => by rw [upd_ne n2]; exact a b o n1 n2 n3 h
theorem EX3.mutL {p D L : Addr} {H G : Hp} {u : HO} (a : EX3 p D L H G) : EX3 p D L H (upd G L u) := fun b o n1 n2 n3 h => by rw [upd_ne n3]; exact a b o n1 n2 n3 h
/-- the three things are a well, a dict and a list -/
structure Th3 (p D L : Addr) (H : Hp) : Prop where
  p : WellAt H p
  D : ∃ kvs, H D = some (.dK kvs)
  L : ∃ ys, H L = some (.lst ys)
theorem EX3.ti {p D L : Addr} {H G : Hp} (a : EX3 p D L H G) (t : Th3 p D L H) : TI H G := by
  obtain ⟨⟨c, m, tt, hp⟩, ⟨kvs, hD⟩, ⟨ys, hL⟩⟩ := t
  refine ⟨fun b xs h => a _ _ (fun z => ?_) (fun z => ?_) (fun z => ?_) h, fun b C dx fs h => a _ _ (fun z => ?_) (fun z => ?_) (fun z => ?_) h⟩
  · rw [z, hp] at h; cases h
  · rw [z, hD] at h; cases h
  · rw [z, hL] at h; cases h
  · rw [z, hp] at h; cases h
  · rw [z, hD] at h; cases h
  · rw [z, hL] at h; cases h
theorem EX3.tabs {p D L : Addr} {H G : Hp} {T : List (Addr × Str)} (a : EX3 p D L H G) (t : Th3 p D L H) (h : LamX.Tabs T H) : LamX.Tabs T G := fun x hx => by
  obtain ⟨⟨c, m, tt, hp⟩, ⟨kvs, hD⟩, ⟨ys, hL⟩⟩ := t
  obtain ⟨ps, h1, h2, h3⟩ := h x hx
  refine ⟨ps, a _ _ (fun z => by rw [z, hp] at h1; cases h1) (fun z => by rw [z, hD] at h1; cases h1) (fun z => by rw [z, hL] at h1; cases h1) h1, h2, fun pos cv hc => ?_⟩
  obtain ⟨c', g1, g2⟩ := h3 pos cv hc
  exact ⟨c', g1, a _ _ (fun z => by rw [z, hp] at g2; cases g2) (fun z => by rw [z, hD] at g2; cases g2) (fun z => by rw [z, hL] at g2; cases g2) g2⟩
/-! ### dicts whose keys are numbers -/
abbrev KVs := List (Int × V)
def dkv (m : KVs) : List (L2.Key × V) := m.map fun x => (Sum.inl x.1, x.2)
def lookN (m : KVs) (n : Int) : Option V := (m.find? fun x => decide (x.1 = n)).map (·.2)
theorem dkv_val (n : Int) : ∀ m : KVs, valV (dkv m) (Sum.inl n) = lookN m n
  | [] => rfl
  | x :: r => by
    have ih := dkv_val n r
    unfold lookN at ih ⊢
    show valV ((Sum.inl x.1, x.2) :: dkv r) (Sum.inl n) = _
    by_cases c : x.1 = n
    · rw [valV_pos (by rw [c]), List.find?_cons_of_pos (by exact decide_eq_true c)]; rfl
    · rw [valV_neg (fun z => c (Sum.inl.inj z)), List.find?_cons_of_neg (by simp [c])]; exact ih
def putN (m : KVs) (n : Int) (v : V) : KVs := m.map fun x => if x.1 = n then (x.1, v) else x
theorem dkv_put {m : KVs} {n : Int} (v : V) (h : n ∈ m.map (·.1)) : putK (dkv m) (Sum.inl n) v = dkv (putN m n v) := by
  have e : ((dkv m).any fun kv => decide (kv.1 = Sum.inl n)) = true := by
    obtain ⟨x, hx, rfl⟩ := List.mem_map.mp h
    exact List.any_eq_true.mpr ⟨(Sum.inl x.1, x.2), List.mem_map.mpr ⟨x, hx, rfl⟩, decide_eq_true rfl⟩
  unfold putK
  rw [if_pos e]
  unfold dkv putN
  rw [List.map_map, List.map_map]
  refine List.map_congr_left fun x _ => ?_
  by_cases c : x.1 = n
  · simp [c]
  · simp [c]
theorem mergeN : ∀ (ms acc : KVs), ((acc ++ ms).map (·.1)).Nodup → mergeK (dkv acc) (dkv ms) = dkv (acc ++ ms)
  | [], acc, _ => by rw [List.append_nil]; rfl
  | m :: r, acc, h => by
    show mergeK (putK (dkv acc) (Sum.inl m.1) m.2) (dkv r) = _
    have e : putK (dkv acc) (Sum.inl m.1) m.2 = dkv (acc ++ [m]) := by
      unfold putK
      rw [if_neg]
      · unfold dkv; rw [List.map_append]; rfl
      intro z
      obtain ⟨x, hx, hx2⟩ := List.any_eq_true.mp z
      obtain ⟨y, hy, rfl⟩ := List.mem_map.mp hx
      rw [List.map_append, List.nodup_append] at h
      exact h.2.2 y.1 (List.mem_map.mpr ⟨y, hy, rfl⟩) m.1 (by rw [List.map_cons]; exact List.mem_cons_self) (Sum.inl.inj (of_decide_eq_true hx2))
    rw [e, mergeN r (acc ++ [m]) (by rw [List.append_assoc]; exact h), List.append_assoc]; rfl
/-- a tuple of a number and a value -/
def KR (G : Hp) (x : V) (kv : Int × V) : Prop := ∃ t, x = V.ref t ∧ G t = some (.tup [.int kv.1, kv.2])
theorem KR.tu {G G' : Hp} {x : V} {kv : Int × V} (h : KR G x kv) (t : TU G G') : KR G' x kv := let ⟨a, e, k⟩ := h; ⟨a, e, t _ _ k⟩
def rDict : List V → Hp → VK → Prop := fun xs H Q => ∃ (a : Addr) (ys : List V) (ms : KVs), xs = [.ref a] ∧ H a = some (.lst ys) ∧ A2 (KR H) ys ms ∧ (ms.map (·.1)).Nodup ∧ ∀ p, H p = none → Q (.ref p) (upd H p (.dK (dkv ms)))
theorem kr_pair {K : PySem.W.Frag} {H : Hp} : ∀ {ys : List V} {ms : KVs}, A2 (KR H) ys ms → ∃ ps : List Addr, ys = ps.map V.ref ∧ Paired (fun p (kv : L2.Key × V) => SqT K H p [kV kv.1, kv.2]) ps (dkv ms)
  | _, _, .nil => ⟨[], rfl, .nil⟩
  | _, _, .cons ⟨t, e, h⟩ r => by
    obtain ⟨ps, e2, hp⟩ := kr_pair (K := K) r
    exact ⟨t :: ps, by rw [e, e2]; rfl, .cons (st h) hp⟩
theorem cr_dict {X : Cx} (hc : X.calm = true) : CallR X (.type "dict") rDict := by
  intro pins s σ H xs us Q I r ⟨a, ys, ms, e, ha, hA, hn, q⟩
  obtain ⟨ps, e2, hp⟩ := kr_pair (K := X.K) hA
  refine call_dictP hc pins s σ H xs us Q I r ⟨a, ps, dkv ms, e, by rw [← e2]; exact sq ha, hp, fun p np => ?_⟩
  have := mergeN ms [] hn
  rw [show mergeK [] (dkv ms) = dkv ms from this]
  exact q p np
/-! ### a dict of what is wanted -/
def KW (G : Hp) (m : KVs) (ls : List CL) : Prop := m.map (·.1) = ls.map (·.n) ∧ ∀ (i : Nat) l, ls[i]? = some l → ∃ v, m[i]? = some (l.n, v) ∧ WV G v l.w
theorem KW.tu {G G' : Hp} {m : KVs} {ls : List CL} (h : KW G m ls) (t : TU G G') : KW G' m ls := ⟨h.1, fun i l hl => let ⟨v, h1, h2⟩ := h.2 i l hl; ⟨v, h1, h2.tu t⟩⟩
theorem lookN_get {m : KVs} (hn : (m.map (·.1)).Nodup) {i : Nat} {n : Int} {v : V} (h : m[i]? = some (n, v)) : lookN m n = some v := by
  induction m generalizing i with
  | nil => simp at h
  | cons x r ih =>
    rw [List.map_cons, List.nodup_cons] at hn
    unfold lookN
    cases i with
    | zero =>
      rw [List.getElem?_cons_zero] at h
      rw [Option.some.inj h, List.find?_cons_of_pos (by simp)]; rfl
    | succ j =>
      rw [List.getElem?_cons_succ] at h
      have hm : n ∈ r.map (·.1) := List.mem_map.mpr ⟨(n, v), List.mem_of_getElem? h, rfl⟩
      rw [List.find?_cons_of_neg (by simp; exact fun e => hn.1 (e ▸ hm))]
      exact ih hn.2 h
theorem KW.look {G : Hp} {m : KVs} {ls : List CL} (h : KW G m ls) (hn : (ls.map (·.n)).Nodup) {l : CL} (hl : l ∈ ls) : ∃ v, lookN m l.n = some v ∧ WV G v l.w := by
  obtain ⟨i, hi⟩ := List.getElem?_of_mem hl
  obtain ⟨v, h1, h2⟩ := h.2 i l hi
  exact ⟨v, lookN_get (by rw [h.1]; exact hn) h1, h2⟩
theorem KW.put {G : Hp} {m : KVs} {ls : List CL} (h : KW G m ls) (n : Int) {v : V} {w : Option (List Str)} (hv : WV G v w) : KW G (putN m n v) (ls.map (setW n w)) := by
  refine ⟨?_, fun i l hl => ?_⟩
  · rw [map_setW, ← h.1]
    unfold putN
    rw [List.map_map]
    refine List.map_congr_left fun x _ => ?_
    by_cases c : x.1 = n <;> simp [c]
  · rw [List.getElem?_map] at hl
    cases hl0 : ls[i]? with
    | none => rw [hl0] at hl; cases hl
    | some l0 =>
      rw [hl0] at hl
      obtain rfl := Option.some.inj hl
      obtain ⟨v0, h1, h2⟩ := h.2 i l0 hl0
      unfold putN
      rw [List.getElem?_map, h1]
      by_cases c : l0.n = n
      · refine ⟨v, ?_, ?_⟩
        · simp [c, setW]
        · unfold setW; rw [if_pos c]; exact hv
      · refine ⟨v0, ?_, ?_⟩
        · simp [c, setW]
        · unfold setW; rw [if_neg c]; exact h2
theorem KW.keys {G : Hp} {m : KVs} {ls : List CL} (h : KW G m ls) : m.map (·.1) = ls.map (·.n) := h.1
theorem up_nodup {ls : List CL} (h : (ls.map (·.n)).Pairwise (· < ·)) : (ls.map (·.n)).Nodup := h.imp fun hlt he => by omega
/-! ### signs that are drawn are not zz -/
theorem w4_zz {ss : List Str} (h : W4 ss) : ss ≠ zz := fun e => by
  subst e
  have := h "zz" (by unfold zz; exact List.mem_cons_self)
  exact absurd this (by decide +kernel)
end K1


set_option Elab.async false
set_option linter.all false
set_option maxRecDepth 100000
set_option maxHeartbeats 4000000
namespace K1
open PySem PySem.Spec PyProof.Rows L2 RZ StX
abbrev sRt : Stmt := st__law_right
abbrev nRt : List Str := ["_law_source_here", "_law_folder_here", "_law_first", "_law_rows", "_law_here", "_law_wants", "_law_coming", "_law_turn", "_law_way", "_law_old", "_law_signs_here", "_law_before", "_law_number", "_law_again_so", "_law_row", "_law_body", "_law_mark_so"]
abbrev pRt : List Str := ["_law_source_here"]
theorem scRt : FnScope nRt pRt (defScope sRt) := ⟨rfl, rfl, rfl, by decide +kernel, rfl, by decide +kernel, by decide +kernel⟩
def wl (W : Int → Option (List Str)) (l : CL) : CL := { l with w := W l.n }
def setF (W : Int → Option (List Str)) (n : Int) (w : Option (List Str)) : Int → Option (List Str) := fun m => if m = n then w else W m
theorem wl_set (W : Int → Option (List Str)) (n : Int) (w : Option (List Str)) (ls : List CL) : (ls.map (wl W)).map (setW n w) = ls.map (wl (setF W n w)) := by
  rw [List.map_map]
  refine List.map_congr_left fun l _ => ?_
  show setW n w (wl W l) = wl (setF W n w) l
  unfold setW wl setF
  by_cases c : l.n = n <;> simp [c]
theorem wl_n (W : Int → Option (List Str)) (ls : List CL) : (ls.map (wl W)).map (·.n) = ls.map (·.n) := by
  rw [List.map_map]; rfl
def W0 (ls : List CL) : Int → Option (List Str) := fun n => (ls.find? fun l => decide (l.n = n)).bind (·.w)
theorem w0_self {ls : List CL} (h : (ls.map (·.n)).Nodup) : ls.map (wl (W0 ls)) = ls := by
  have key : ∀ l ∈ ls, W0 ls l.n = l.w := by
    intro l hl
    unfold W0
    induction ls with
    | nil => cases hl
    | cons x r ih =>
      rw [List.map_cons, List.nodup_cons] at h
      rcases List.mem_cons.mp hl with rfl | hl
      · rw [List.find?_cons_of_pos (by simp)]; rfl
      · have hm : l.n ∈ r.map (·.n) := List.mem_map.mpr ⟨l, hl, rfl⟩
        rw [List.find?_cons_of_neg (by simp; exact fun e => h.1 (e ▸ hm))]
        exact ih h.2 hl
  have : ls.map (wl (W0 ls)) = ls.map id := List.map_congr_left fun l hl => by
    show ({ l with w := W0 ls l.n } : CL) = l
    rw [key l hl]
  rw [this, List.map_id]
theorem nz_F {k : Nat} {F : Fo} (h : GA k F) : NZ (cpF F) := by
  refine ⟨fun l hl => ?_, fun l hl => ?_, fun m hm => by cases hm⟩
  · obtain ⟨x, hx, rfl⟩ := List.mem_map.mp hl
    exact w4_zz (h.z x hx)
  · obtain ⟨x, hx, rfl⟩ := List.mem_map.mp hl
    exact fun e => w4_zz (h.z x hx) (Option.some.inj e)
/-- what the loop keeps -/
structure LI (K : PySem.W.Frag) (CC p D L hx : Addr) (F : Fo) (H0 G : Hp) (c : Cp) (W : Int → Option (List Str)) (n : Nat) : Prop where
  e : EX3 p D L H0 G
  w : WellAt G p
  h : CpAt K CC G hx c
  D : ∃ m, G D = some (.dK (dkv m)) ∧ KW G m c.ls
  L : ∃ ys, G L = some (.lst ys) ∧ DvA G ys (c.md.map mdD)
  ok : OkCp c
  ls : c.ls = (F.ls.map clF).map (wl W)
  am : c.age = F.age ∧ c.mr = F.mr
  nz : NZ c
  len : c.md.length ≤ n
theorem LI.to {K : PySem.W.Frag} {CC p D L hx : Addr} {F : Fo} {H0 G G' : Hp} {c : Cp} {W : Int → Option (List Str)} {n : Nat} (h : LI K CC p D L hx F H0 G c W n) (e : EX3 p D L H0 G') (w : WellAt G' p) (t : TI G G') (hD : ∀ o, G D = some o → G' D = some o) (hL : ∀ o, G L = some o → G' L = some o) : LI K CC p D L hx F H0 G' c W n :=
  ⟨e, w, h.h.ti t, let ⟨m, h1, h2⟩ := h.D; ⟨m, hD _ h1, h2.tu t.t⟩, let ⟨ys, h1, h2⟩ := h.L; ⟨ys, hL _ h1, h2.tu t.t (tO_mds _)⟩, h.ok, h.ls, h.am, h.nz, h.len⟩
theorem LI.same {K : PySem.W.Frag} {CC p D L hx : Addr} {F : Fo} {H0 G G' : Hp} {c : Cp} {W : Int → Option (List Str)} {n : Nat} (h : LI K CC p D L hx F H0 G c W n) (s : Same G G') : LI K CC p D L hx F H0 G' c W n :=
  h.to (h.e.same s) (h.w.sm s) (TI.same s) (fun _ => s _ _) (fun _ => s _ _)
theorem LI.ne {K : PySem.W.Frag} {CC p D L hx : Addr} {F : Fo} {H0 G : Hp} {c : Cp} {W : Int → Option (List Str)} {n : Nat} (h : LI K CC p D L hx F H0 G c W n) : D ≠ p ∧ D ≠ L := by
  obtain ⟨cc, m, tt, hp⟩ := h.w
  obtain ⟨kv, hD, _⟩ := h.D
  obtain ⟨ys, hL, _⟩ := h.L
  exact ⟨fun e => (by rw [e, hp] at hD; cases hD), fun e => (by rw [e, hL] at hD; cases hD)⟩
theorem LI.ww {K : PySem.W.Frag} {CC p D L hx : Addr} {F : Fo} {H0 G G' : Hp} {c : Cp} {W : Int → Option (List Str)} {n : Nat} (h : LI K CC p D L hx F H0 G c W n) (nL : L ≠ p) (e : Ext p G G') (w : WellAt G' p) : LI K CC p D L hx F H0 G' c W n :=
  h.to (h.e.w e) w (TI.w h.w e) (fun _ => e _ _ h.ne.1) (fun _ => e _ _ nL)
def spRt (PA PT PS : Addr) : Sp := fun vs H Q _ => ∃ p : Addr, vs = [.ref p] ∧ WellAt H p ∧ LamX.Tabs (T3 PA PT PS) H ∧ ∀ H', ENL p H H' → WellAt H' p → LamX.Tabs (T3 PA PT PS) H' → Q (.bl true) H'
theorem pe_revLK {X : Cx} {K : PySem.W.Frag} {e : Expr} {te : TE} {k : Nat} {p1 p2 p3 pos : Pos} (h : X.K = K) (he : PE X e te) : PE X (.Subscript e (.Slice none none (some (.UnaryOp .USub (.Constant (.int 1) k p1) p2)) p3) pos) (tRevL K te) := by subst h; exact pe_revL he
/-- the pair of what a copy tells -/
def pairD (c : Cp) : PyData := .list [.list (c.ls.map clD), .list (c.md.map mdD)]
theorem lay_pair {c : Cp} (h : OkCp c) : LayD 4 (pairD c) := .lst (.cons (.lst (LayA.map fun l hl => (lay_cl (h.ls.ok l hl)))) (.cons (.lst (LayA.map fun m hm => (lay_md (h.md.ok m hm)))) .nil))
theorem lay_clsL {ls : List CL} (h : ∀ l ∈ ls, OkCL l) : LayD 3 (.list (ls.map clD)) := .lst (LayA.map fun l hl => lay_cl (h l hl))
theorem lay_mdsL {md : List (Int × List Str)} (h : ∀ m ∈ md, OkMd m) : LayD 3 (.list (md.map mdD)) := .lst (LayA.map fun l hl => lay_md (h l hl))
theorem eqv_same' {k : Nat} {d : PyData} (h : LayD k d) (e : k ≤ 64 := by decide) : PyData.eqv d d = true := SeqAt.eqv_refl _ (SeqAt.canLay_of_shaped (h.sh e))
/-- != of data that are alike -/
theorem ne_same {K : PySem.W.Frag} {H : Hp} {x y : V} {d : PyData} {k : Nat} {Q : VK} (l : LayD k d) (h1 : Dv H x d) (h2 : Dv H y d) (q : Q (.bl false) H) (e : k ≤ 64 := by decide) : rNeD K x y H Q :=
  ⟨d, d, h1.dp l.nd, h2.dp l.nd, l.sh e, l.sh e, by rw [eqv_same' l e]; exact q⟩
/-- nothing, or a table -/
def NT (H : Hp) (D : Addr) : Prop := ∀ o, H D = some o → ∃ ps, o = .tbl ps
theorem NT.of {p D : Addr} {H G : Hp} (e : ENL p H G) (n : G D = none) (w : WellAt G p) : NT H D := fun o h => by
  cases o with
  | tbl ps => exact ⟨ps, rfl⟩
  | _ => exact absurd (e D _ (fun z => by obtain ⟨c, m, t, k⟩ := w; rw [z, k] at n; cases n) (fun _ z => by cases z) h) (by rw [n]; exact fun z => by cases z)
theorem ENL.ex3 {p D L : Addr} {H G J : Hp} (e : ENL p H G) (nD : NT H D) (nL : NT H L) (k : EX3 p D L G J) : ENL p H J := fun b o nb nt h =>
  k b o nb (fun z => by obtain ⟨ps, e⟩ := nD o (z ▸ h); exact nt ps e) (fun z => by obtain ⟨ps, e⟩ := nL o (z ▸ h); exact nt ps e) (e b o nb nt h)
/-- ahead of the loop -/
structure Mid (K : PySem.W.Frag) (C CC PA PT PS p x fq R D L : Addr) (F : Fo) (xsR : List V) (H G : Hp) : Prop where
  e : ENL p H G
  w : WellAt G p
  tb : LamX.Tabs (T3 PA PT PS) G
  nD : NT H D
  nL : NT H L
  ga : GA 20 F
  fo : FoAt C G x F
  cq : CpAt K CC G fq (cpF F)
  hR : G R = some (.lst xsR)
  rp : R ≠ p
  rD : R ≠ D
  rL : R ≠ L
  d : DvA G xsR ((F.ls.map clF).map clD)
  lp : L ≠ p
  li : LI K CC p D L fq F G G (cpF F) (W0 (F.ls.map clF)) 0
def Mid0 (K : PySem.W.Frag) (C CC PA PT PS p : Addr) (H : Hp) (σ : L2.St) (G : Hp) : Prop := ∃ (x fq R D L : Addr) (F : Fo) (xsR : List V) (v10 v12 v14 v15 v16 : Option V), σ = [some (.ref p), some (.ref x), some (.ref fq), some (.ref R), some (.ref fq), some (.ref D), some (.ref L), none, none, none, v10, none, v12, none, v14, v15, v16] ∧ Mid K C CC PA PT PS p x fq R D L F xsR H G
end K1


set_option Elab.async false
set_option linter.all false
set_option maxRecDepth 100000
set_option maxHeartbeats 4000000
namespace K1
open PySem PySem.Spec PyProof.Rows L2 RZ StX
theorem kw_of {G : Hp} : ∀ {acc : List V} {ls : List CL}, A2 (fun x (l : CL) => ∃ v, KR G x (l.n, v) ∧ WV G v l.w) acc ls → ∃ ms : KVs, A2 (KR G) acc ms ∧ KW G ms ls
  | _, _, .nil => ⟨[], .nil, rfl, fun i l h => by simp at h⟩
  | _, _, .cons (b := l) ⟨v, h1, h2⟩ r => by
    obtain ⟨ms, hA, hk⟩ := kw_of r
    refine ⟨(l.n, v) :: ms, .cons h1 hA, by rw [List.map_cons, List.map_cons, hk.1], fun i x hx => ?_⟩
    cases i with
    | zero => rw [List.getElem?_cons_zero] at hx; rw [← Option.some.inj hx]; exact ⟨v, rfl, h2⟩
    | succ j => rw [List.getElem?_cons_succ] at hx; rw [List.getElem?_cons_succ]; exact hk.2 j x hx
section
variable {P : Program} {w : World} {K : PySem.W.Frag} {mg : Str → Option Value} {base : Heap} {C CC E0' PA PT PS : Addr}
set_option maxHeartbeats 32000000 in
theorem ok_rt {f : Addr} {fd : FuncData} (T : Bk mg) (tf : ClT K mg C) (t : CcT K mg CC) (D_new : MkCc P w K mg base CC E0') (EM : EqM P w K mg base 1 CC (CpEq K CC))
    (N_letters : MDef P w K mg base CX0 1 C "letters" nSelf (spLetters C)) (N_age : MDef P w K mg base CX0 1 C "age" nSelf (spAge C)) (N_mark : MDef P w K mg base CX0 1 C "mark" nSelf (spMark C))
    (M_age : MDef P w K mg base CX0 1 CC "age" nSelf (spCAge K CC)) (M_mark : MDef P w K mg base CX0 1 CC "mark" nSelf (spCMark K CC)) (M_letters : MDef P w K mg base CX0 1 CC "letters" nSelf (spCLet K CC)) (M_made : MDef P w K mg base CX0 1 CC "made" nSelf (spCMade K CC))
    (M_wanting : MDef P w K mg base CX0 7 CC "wanting" nCWt (spWt K CC)) (M_dropping : MDef P w K mg base CX0 7 CC "dropping" nCDr (spDr K CC)) (M_making : MDef P w K mg base CX0 6 CC "making" nCMk (spMkg K CC))
    (D_next : Def P w K mg base CX0 2 "_law_next" pNx spNx) (D_one : Def P w K mg base CX0 3 "_law_one" nOne spOneS) (D_signs : Def P w K mg base CX0 3 "_law_signs" pSg spSg4) (D_folder : Def P w K mg base CX0 11 "_law_folder" pLf (spLf C PA PT PS)) (D_copy_of : Def P w K mg base CX0 6 "copy_of" pCo (spCo K C CC)) (D_apart_right : Def P w K mg base CX0 6 "_law_apart_right" pAp (spAp K CC))
    (REST : ∀ (cdv : Value) (A : Around) (outer : List Env) (s : Shared) (H : Hp) (E : XK) (p : Addr) (Q : VK), Room 11 (A.deeper (envOfC "_law_right" (defScope sRt) s.heap.objs.size f cdv)) → (∀ H', ENL p H H' → WellAt H' p → LamX.Tabs (T3 PA PT PS) H' → Q (.bl true) H') →
      ∃ t, PSs (cxOf CX0 P w K mg base nRt "_law_right" (defScope sRt) f cdv A outer s H E).nox ((defBody sRt).drop 6) t ∧ ∀ σ G, Mid0 K C CC PA PT PS p H σ G → t { nx := fun _ H' => Q .non H', rt := Q } σ G)
    (F : Fun K "_law_right" "_law_right" sRt f fd) : FnOk P w K mg base CX0 12 f fd pRt (spRt PA PT PS) := by
  have nd := scRt.nd
  refine F.ok scRt (fun vs H Q E h => ?_) (fun cdv A outer s H vs Q E hr h => ?_)
  · obtain ⟨p, rfl, _⟩ := h
    rfl
  · obtain ⟨p, rfl, hw, hT, q⟩ := h
    obtain ⟨tR, hR1, hR2⟩ := REST cdv A outer s H E p Q hr q
    refine ⟨_, (pss_cons (ps_set (i := 1) nd rfl (Or.inl rfl) (pe_def D_folder (hr.mono (by decide)) rfl pass0 (pa_cons (pv 0) (pa_cons (pe_def D_next (hr.mono (by decide)) rfl pass0 (pa_cons (pv 0) (pa_cons pe_int pa_nil))) pa_nil))))
 (pss_cons (ps_set (i := 2) nd rfl (Or.inl rfl) (pe_def D_copy_of (hr.mono (by decide)) rfl pass0 (pa_cons (pv 1) pa_nil)))
 (pss_cons (ps_setLc (i := 3) (own := [("_law_number", 12), ("_law_body", 15), ("_law_signs_here", 10), ("_law_mark_so", 16)]) (g := gTup K 4 (gCons (gName 12) (gCons (gName 15) (gCons (gName 10) (gCons (gName 16) gNil))))) (tt := tYes) rfl nd rfl rfl (sw_true rfl rfl rfl (by decide +kernel)) (pi_listK (K := K) rfl (pe_mdef0 N_letters tf.cl (hr.mono (by decide)) pass0 (pv 1))) (blkOk_by (own := [("_law_number", 12), ("_law_body", 15), ("_law_signs_here", 10), ("_law_mark_so", 16)]) (N := nRt) (sc := defScope sRt) (by decide +kernel)) (fun _ _ _ _ _ => pg_tup rfl (pgs_cons (pg_name (i := 12) nd rfl (Or.inl rfl)) (pgs_cons (pg_name (i := 15) nd rfl (Or.inl rfl)) (pgs_cons (pg_name (i := 10) nd rfl (Or.inl rfl)) (pgs_cons (pg_name (i := 16) nd rfl (Or.inl rfl)) pgs_nil))))) (fun _ _ _ _ _ => pts_nil) (fun _ _ _ _ _ => (pe_tup (pa_cons (pv 12) (pa_cons (pv 15) (pa_cons (pv 10) (pa_cons (pv 10) pa_nil)))))))
 (C8.pss_cut (ps_if (pt_cmpR (op_neDK (K := K) rfl hr.units) (pe_lst (pa_cons (pe_mdef0 M_age t.cl (hr.mono (by decide)) pass0 (pv 2)) (pa_cons (pe_mdef0 M_mark t.cl (hr.mono (by decide)) pass0 (pv 2)) (pa_cons (pe_mdef0 M_letters t.cl (hr.mono (by decide)) pass0 (pv 2)) (pa_cons (pe_mdef0 M_made t.cl (hr.mono (by decide)) pass0 (pv 2)) pa_nil))))) (pe_lst (pa_cons (pe_mdef0 N_age tf.cl (hr.mono (by decide)) pass0 (pv 1)) (pa_cons (pe_mdef0 N_mark tf.cl (hr.mono (by decide)) pass0 (pv 1)) (pa_cons (pv 3) (pa_cons (pe_lst pa_nil) pa_nil))))) (nomark _))
  (pss_one (ps_ret pe_bl))
  pss_nil)
 (C8.pss_cut (ps_if (PW.pt (pw_or (pt_cmpR (op_neI EM (hr.mono (by decide))) (pv 2) (pe_newC3 D_new t.gC (hr.mono (by decide)) rfl (pa_cons (pe_mdef0 N_age tf.cl (hr.mono (by decide)) pass0 (pv 1)) (pa_cons (pe_mdef0 N_mark tf.cl (hr.mono (by decide)) pass0 (pv 1)) (pa_cons (pe_callTy (cr_tup (K := K) rfl) (by rfl) T.tuple PyProof.Rows.boot_tuple (pa_cons (pv 3) pa_nil)) pa_nil)))) (nomark _)) (pw_or1 (pt_cmpR (op_neI EM (hr.mono (by decide))) (pe_def D_copy_of (hr.mono (by decide)) rfl pass0 (pa_cons (pv 1) pa_nil)) (pv 2) (nomark _)))))
  (pss_one (ps_ret pe_bl))
  pss_nil)
 (C8.pss_cut (ps_asg (pe_tup (pa_cons (pv 2) (pa_cons (pe_callTy (cr_dict rfl) (by rfl) T.dict (by decide +kernel) (pa_cons (pe_lc (own := [("_law_row", 14)]) (g := gName 14) (tt := tYes) rfl nd (pi_listK (K := K) rfl (pv 3)) (blkOk_by (own := [("_law_row", 14)]) (N := nRt) (sc := defScope sRt) (by decide +kernel)) (fun _ _ _ _ _ => pg_name (i := 14) nd rfl (Or.inl rfl)) (fun _ _ _ _ _ => pts_nil) (fun _ _ _ _ _ => (pe_tup (pa_cons (pe_ix (ix_tupK (K := K) rfl) (pv 14) pe_int (fun _ _ => rfl)) (pa_cons (pe_ix (ix_tupK (K := K) rfl) (pv 14) pe_int (fun _ _ => rfl)) pa_nil))))) pa_nil)) (pa_cons (pe_lst pa_nil) pa_nil)))) (pg_tup rfl (pgs_cons (pg_name (i := 4) nd rfl (Or.inl rfl)) (pgs_cons (pg_name (i := 5) nd rfl (Or.inr rfl)) (pgs_cons (pg_name (i := 6) nd rfl (Or.inl rfl)) pgs_nil)))))
 hR1)))))), ?_⟩
    refine ⟨_, rfl, _, rfl, p, 7, rfl, hw, by decide, by decide, fun m H1 m0 m7 e1 w1 => ?_⟩
    refine ⟨p, m, rfl, w1, m0, by omega, tabs_w hw e1 hT, fun x F H2 e2 w2 t2 f2 ga => ?_⟩
    have e02 : ENL p H H2 := (ENL.of e1).trans e2
    refine ⟨_, rfl, x, F, 20, rfl, f2, ga, by decide, fun fq H3 s3 nfq hq => ?_⟩
    have f3 := f2.same s3
    obtain ⟨dx, tl, tg, hxp, _⟩ := id f3
    have wl' := ga.g.wf.len
    refine ⟨_, rfl, x, dx, _, rfl, hxp, fl_no (by decide +kernel), x, F, rfl, f3, fun l0 G0 s0 nl0 hl => ?_⟩
    obtain ⟨ys, hl0, dys⟩ := Dv.lsts hl
    have ylen := dys.len
    rw [List.length_map] at ylen
    refine ⟨l0, rfl, ⟨_, sq hl0⟩, fun R nR => ?_⟩
    have sR0 := same_new nR (o := .lst [])
    refine lc_tu (walk_list (K := K)) (a2_of dys) nR (fun G s => sq (s _ _ hl0)) (by omega) (fun l => some (clF l)) (fun G x l => Dv G x (clD l)) (fun H G x b t h => h.tu t (tO_cl b)) ?_ ?_
    · rintro x l G T' S' hx hm s1 hT' hS
      obtain ⟨ta, sa, rfl, hta, hsa⟩ := dv_lt hx
      refine ⟨ta, _, rfl, st (s1 _ _ hta), rfl, _, _, rfl, _, _, rfl, _, _, rfl, _, _, rfl, rfl, rfl, tyes ⟨_, rfl, _, rfl, _, rfl, _, rfl, by show 4 ≤ sizeLine; decide, fun U nU => ?_⟩⟩
      have sU := same_new nU (o := .tup [.int l.n, .int l.b, .ref sa, .ref sa])
      have hs := (s1.trans sU) _ _ hsa
      exact hT' _ (clF l) _ sU rfl (cl_dv (l := clF l) upd_same hs ⟨sa, rfl, hs⟩)
    intro G xsR s1 hR hA
    have ef : F.ls.filterMap (fun l => some (clF l)) = F.ls.map clF := by rw [← List.filterMap_eq_map]; rfl
    rw [ef] at hA
    have dR := of_a2 hA
    have s23 := s3.trans (s0.trans s1)
    have eG : ENL p H G := e02.same s23
    have fG := f3.same (s0.trans s1)
    have hqG := hq.same (s0.trans s1)
    have wG := w2.sm s23
    have tG := t2.ext s23
    have okF := okCp_F (by decide) ga
    refine name_go' ?_
    refine ⟨fun σ G' => (∃ v10 v12 v14 v15 v16, σ = [some (.ref p), some (.ref x), some (.ref fq), some (.ref R), none, none, none, none, none, none, v10, none, v12, none, v14, v15, v16]) ∧ Same G G', ?_, ?_⟩
    · obtain ⟨dq, tq, mq, xq, yq, hqP⟩ := id hqG
      obtain ⟨dx', tl', tg', hxG, _⟩ := id fG
      refine ⟨_, rfl, fq, dq, _, rfl, hqP.at_, fc_no (by decide +kernel), fq, _, rfl, hqG, _, rfl, fq, dq, _, rfl, hqP.at_, fc_no (by decide +kernel), fq, _, rfl, hqG, _, rfl, fq, dq, _, rfl, hqP.at_, fc_no (by decide +kernel), fq, _, rfl, hqG, fun A1 xs1 J1 u1 nA1 hA1 dA1 => ?_⟩
      refine ⟨_, rfl, fq, dq, _, rfl, u1 _ _ hqP.at_, fc_no (by decide +kernel), fq, _, rfl, hqG.same u1, fun A2 ys2 J2 u2 nA2 hA2 dA2 => ⟨by show 4 ≤ sizeLine; decide, fun B nB => ?_⟩⟩
      have u3 := same_new nB (o := .lst [.int F.age, .int F.mr, .ref A1, .ref A2])
      have u13 := (u1.trans u2).trans u3
      refine ⟨_, rfl, x, dx', _, rfl, u13 _ _ hxG, fl_no (by decide +kernel), x, F, rfl, fG.same u13, _, rfl, x, dx', _, rfl, u13 _ _ hxG, fl_no (by decide +kernel), x, F, rfl, fG.same u13, _, rfl, Nat.zero_le _, fun E1 nE1 => ⟨by show 4 ≤ sizeLine; decide, fun E2 nE2 => ?_⟩⟩
      have u4 := same_new nE1 (o := .lst [])
      have u5 := same_new nE2 (o := .lst [.int F.age, .int F.mr, .ref R, .ref E1])
      have u45 := u4.trans u5
      have ly : LayD 4 (.list [.int F.age, .int F.mr, .list ((F.ls.map clF).map clD), .list []]) := .lst (.cons (.int _) (.cons (.int _) (.cons (lay_clsL okF.ls.ok) (.cons (.lst .nil) .nil))))
      refine ⟨_, _, (Dv.lst (u45 B _ upd_same) (.cons (.int _) (.cons (.int _) (.cons (.lst ((u2.trans (u3.trans u45)) _ _ hA1) (dA1.same (u2.trans (u3.trans u45)))) (.cons (.lst ((u3.trans u45) _ _ hA2) (dA2.same (u3.trans u45))) .nil))))).dp ly.nd,
        (Dv.lst upd_same (.cons (.int _) (.cons (.int _) (.cons (.lst ((u13.trans u45) _ _ hR) (dR.same (u13.trans u45))) (.cons (.lst (u5 E1 _ upd_same) .nil) .nil))))).dp ly.nd, ly.sh, ly.sh, _, rfl, itbF (congrArg (fun b => !b) (eqv_same' ly)) ⟨⟨_, _, _, _, _, rfl⟩, u13.trans u45⟩⟩
    rintro σ G1 ⟨⟨v10, v12, v14, v15, v16, rfl⟩, sA⟩
    refine ⟨fun σ G' => (∃ v10 v12 v14 v15 v16, σ = [some (.ref p), some (.ref x), some (.ref fq), some (.ref R), none, none, none, none, none, none, v10, none, v12, none, v14, v15, v16]) ∧ Same G G', ?_, ?_⟩
    · have fA := fG.same sA
      have hqA := hqG.same sA
      obtain ⟨dx', tl', tg', hxG, _⟩ := id fA
      refine ⟨_, rfl, _, rfl, x, dx', _, rfl, hxG, fl_no (by decide +kernel), x, F, rfl, fA, _, rfl, x, dx', _, rfl, hxG, fl_no (by decide +kernel), x, F, rfl, fA, _, rfl, R, xsR, rfl, .inl (.inl (sA _ _ hR)), fun tl2 J1 u1 htl2 => ?_⟩
      refine fun y dy ny ndy hne => newC' (K := K) (age := F.age) (mr := F.mr) (ma := E0') (ys := []) (md := []) ny ndy hne okF.age okF.mr htl2.sq (dR.same (sA.trans u1)) okF.ls (.inr ⟨rfl, D_new.emp⟩) .nil okF.md fun J2 u2 hy => ?_
      refine ne_cp ((hqA.same u1).same u2) hy okF okF fun J3 u3 => ⟨_, rfl, itbF (by rw [decide_eq_true (show cpF F = ⟨F.age, F.mr, F.ls.map clF, []⟩ from rfl)]; rfl) ?_⟩
      have u13 := (u1.trans u2).trans u3
      refine ⟨_, rfl, x, F, 20, rfl, fA.same u13, ga, by decide, fun y2 J4 u4 ny2 hy2 => ?_⟩
      refine ⟨_, rfl, ne_cp hy2 ((hqA.same u13).same u4) okF okF fun J5 u5 => ⟨_, rfl, itbF (by rw [decide_eq_true rfl]; rfl) ⟨⟨_, _, _, _, _, rfl⟩, ((sA.trans u13).trans u4).trans u5⟩⟩⟩
    rintro σ G2 ⟨⟨v10, v12, v14, v15, v16, rfl⟩, sB⟩
    refine ⟨Mid0 K C CC PA PT PS p H, ?_, hR2⟩
    have hR2' := sB _ _ hR
    refine ⟨_, rfl, _, rfl, R, rfl, ⟨_, sq hR2'⟩, fun M nM => ?_⟩
    have sM0 := same_new nM (o := .lst [])
    refine lc_tu (walk_list (K := K)) (a2_of (dR.same sB)) nM (fun G s => sq (s _ _ hR2')) (by have := dR.len; rw [List.length_map, List.length_map] at this; omega) (fun l : CL => some l) (fun G x l => ∃ v, KR G x (l.n, v) ∧ WV G v l.w) (fun H G x b t h => let ⟨v, h1, h2⟩ := h; ⟨v, h1.tu t, h2.tu t⟩) ?_ ?_
    · rintro x l G' T' S' hx hm u1 hT' hS
      obtain ⟨ta, sa, wv, rfl, hta, hsa, hw4⟩ := dv_cl (hx.same u1)
      refine ⟨rfl, tyes ⟨_, rfl, ta, _, 0, .int l.n, rfl, rfl, st hta, atI_nat (j := 0) rfl, _, rfl, ta, _, 3, wv, rfl, rfl, st hta, atI_nat (j := 3) rfl, by show 2 ≤ sizeLine; decide, fun U nU => ?_⟩⟩
      have sU := same_new nU (o := .tup [.int l.n, wv])
      exact hT' _ l _ sU rfl ⟨wv, ⟨U, rfl, upd_same⟩, hw4.tu (TU.same sU)⟩
    intro G3 acc u1 hM hA3
    have ef3 : (F.ls.map clF).filterMap (fun l : CL => some l) = F.ls.map clF := by simp
    rw [ef3] at hA3
    obtain ⟨ms, hms, hkw⟩ := kw_of hA3
    refine ⟨M, acc, ms, rfl, hM, hms, by rw [hkw.1]; exact up_nodup okF.ls.up, fun D nD => ⟨Nat.zero_le _, fun L nL => ⟨by show 3 ≤ sizeLine; decide, fun U nU => ?_⟩⟩⟩
    have uD := same_new nD (o := .dK (dkv ms))
    have uL := same_new nL (o := .lst [])
    have uU := same_new nU (o := .tup [.ref fq, .ref D, .ref L])
    have hD := (uL.trans uU) D _ upd_same
    have hL := uU L _ upd_same
    have sC := sB.trans u1
    have sE := (uD.trans uL).trans uU
    have nDG := sC.free nD
    have nLG := (sC.trans uD).free nL
    have sF := sC.trans sE
    have ntD : NT H D := NT.of eG nDG wG
    have ntL : NT H L := NT.of eG nLG wG
    have LD : L ≠ D := (ne_of_none (show (upd G3 D (.dK (dkv ms))) D = some _ from upd_same) nL).symm
    have RD : R ≠ D := ne_of_none hR nDG
    have RL : R ≠ L := ne_of_none hR nLG
    have wF := wG.sm sF
    have Rp : R ≠ p := fun e => by
      obtain ⟨c, m, tt, k⟩ := w2.sm (s3.trans s0)
      rw [e, k] at nR; cases nR
    refine ⟨U, _, rfl, st upd_same, rfl, _, _, rfl, _, _, rfl, _, _, rfl, rfl, ?_⟩
    refine ⟨x, fq, R, D, L, F, xsR, _, _, _, _, _, rfl, ⟨eG.same sF, wF, tG.ext sF, ntD, ntL, ga, fG.same sF, hqG.same sF, sF _ _ hR, Rp, RD, RL, dR.same sF, wG.ne nLG, ?_⟩⟩
    exact ⟨EX3.refl, wF, hqG.same sF, ⟨ms, hD, hkw.tu (TU.same sE)⟩, ⟨[], hL, .nil⟩, okF, (w0_self (up_nodup okF.ls.up)).symm, ⟨rfl, rfl⟩, nz_F ga, Nat.zero_le _⟩
end
end K1


set_option Elab.async false
set_option linter.all false
set_option maxRecDepth 100000
set_option maxHeartbeats 4000000
/-! One turn of _law_right. -/
namespace K1
open PySem PySem.Spec PyProof.Rows L2 RZ StX
/-- the list of what a copy told -/
structure BD (p D L B : Addr) (c : Cp) (G : Hp) : Prop where
  ex : ∃ A1 A2 xs ys, G B = some (.lst [.ref A1, .ref A2]) ∧ G A1 = some (.lst xs) ∧ DvA G xs (c.ls.map clD) ∧ G A2 = some (.lst ys) ∧ DvA G ys (c.md.map mdD) ∧ A1 ≠ p ∧ A1 ≠ D ∧ A1 ≠ L ∧ A2 ≠ p ∧ A2 ≠ D ∧ A2 ≠ L
  bp : B ≠ p
  bD : B ≠ D
  bL : B ≠ L
theorem BD.to {p D L B : Addr} {c : Cp} {G G' : Hp} (h : BD p D L B c G) (e : EX3 p D L G G') (t : TU G G') : BD p D L B c G' := by
  obtain ⟨A1, A2, xs, ys, h1, h2, h3, h4, h5, n1, n2, n3, n4, n5, n6⟩ := h.ex
  exact ⟨⟨A1, A2, xs, ys, e _ _ h.bp h.bD h.bL h1, e _ _ n1 n2 n3 h2, h3.tu t (tO_cls _), e _ _ n4 n5 n6 h4, h5.tu t (tO_mds _), n1, n2, n3, n4, n5, n6⟩, h.bp, h.bD, h.bL⟩
theorem BD.dv {p D L B : Addr} {c : Cp} {G : Hp} (h : BD p D L B c G) : Dv G (.ref B) (pairD c) := by
  obtain ⟨A1, A2, xs, ys, h1, h2, h3, h4, h5, _⟩ := h.ex
  exact .lst h1 (.cons (.lst h2 h3) (.cons (.lst h4 h5) .nil))
theorem pt_weak {X : Cx} {e : Expr} {t t' : TT} (h : PT X e t) (k : ∀ σ H Q, t' σ H Q → t σ H Q) : PT X e t' := ⟨fun pins s σ H Q I q => h.run pins s σ H Q I (k σ H Q q)⟩
theorem fm_map {α β : Type} (f : α → β) (ls : List α) : ls.filterMap (fun l => some (f l)) = ls.map f := by rw [← List.filterMap_eq_map]; rfl
theorem dva_snoc {H : Hp} {α : Type} {f : α → PyData} {ys : List V} {ms : List α} {m : α} (h : DvA H ys ((ms ++ [m]).map f)) : ∃ ys0 y, ys = ys0 ++ [y] ∧ DvA H ys0 (ms.map f) ∧ Dv H y (f m) := by
  have t1 := DvA.take ms.length h
  have t2 := DvA.drop ms.length h
  rw [List.take_left' rfl] at t1
  rw [List.drop_left' rfl] at t2
  cases hz : ys.drop ms.length with
  | nil => rw [hz] at t2; cases t2
  | cons y r =>
    rw [hz] at t2
    cases t2 with
    | cons h r' =>
      cases r'
      exact ⟨ys.take ms.length, y, by rw [← hz, List.take_append_drop], t1, h⟩
theorem CpAt.no {K : PySem.W.Frag} {CC p : Addr} {H : Hp} {c : Cp} (h : CpAt K CC H p c) : ∃ dx fs, H p = some (.ins CC dx fs) ∧ ∀ {z : Str}, (["_age", "_mark", "_letters", "_made"] : List Str).all (fun y => !(z == y)) = true → fs.lookup z = none := by
  obtain ⟨dx, tl, tm, xs, ys, k⟩ := h
  exact ⟨dx, _, k.at_, fc_no⟩
/-- way == 0 or rows == [] -/
def tOr0 : TT := fun σ G Q => ∃ (way : Int) (R : Addr) (xs : List V) (ls : List CL), σ[8]? = some (some (.int way)) ∧ σ[3]? = some (some (.ref R)) ∧ G R = some (.lst xs) ∧ DvA G xs (ls.map clD) ∧ (∀ l ∈ ls, OkCL l) ∧ ∀ G', Same G G' → Q (decide (way = 0) || decide (ls = [])) G'
abbrev bodyRt (i : Nat) : Stmt := (defBody sRt).getD i (.Pass ⟨0, 0, 0, 0⟩)
def loopOf : Stmt → List Stmt
  | .For _ _ b _ _ => b
  | _ => []
theorem li_th {K : PySem.W.Frag} {CC p D L hx : Addr} {F : Fo} {H0 G : Hp} {c : Cp} {W : Int → Option (List Str)} {n : Nat} (h : LI K CC p D L hx F H0 G c W n) : Th3 p D L G :=
  ⟨h.w, let ⟨m, h1, _⟩ := h.D; ⟨_, h1⟩, let ⟨ys, h1, _⟩ := h.L; ⟨_, h1⟩⟩
/-- the slots -/
def sg (p x fq R hx D L : Addr) (v7 v8 v9 v10 v11 v12 v13 v14 v15 v16 : Option V) : L2.St := [some (.ref p), some (.ref x), some (.ref fq), some (.ref R), some (.ref hx), some (.ref D), some (.ref L), v7, v8, v9, v10, v11, v12, v13, v14, v15, v16]
end K1


set_option Elab.async false
set_option linter.all false
set_option maxRecDepth 100000
set_option maxHeartbeats 4000000
namespace K1
open PySem PySem.Spec PyProof.Rows L2 RZ StX
/-- ahead of a turn -/
def Pre (K : PySem.W.Frag) (C CC PA PT PS p x fq R D L : Addr) (F : Fo) (xsR : List V) (H0 : Hp) (i : Nat) (σ : L2.St) (G : Hp) : Prop :=
  ∃ (hx : Addr) (c : Cp) (W : Int → Option (List Str)) (v7 v8 v9 v10 v11 v12 v14 v15 v16 : Option V), σ = sg p x fq R hx D L v7 v8 v9 v10 v11 v12 none v14 v15 v16 ∧ LI K CC p D L hx F H0 G c W i
theorem or0_k {K : PySem.W.Frag} {σ : L2.St} {G : Hp} {Q : Bool → Hp → Prop} (h : tOr0 σ G Q) : (tOr (tTest (tOp rEq (tVar 8) (tC (.int 0)))) (tTest (tOp (rEqD K) (tVar 3) (tLst tNil)))) σ G Q := by
  obtain ⟨way, R, xs, ls, h8, h3, hR, dR, ok, q⟩ := h
  refine ⟨_, h8, rfl, _, rfl, ?_⟩
  by_cases c : way = 0
  · refine itbT (by rw [c]; rfl) ?_
    have := q G fun _ _ h => h
    rw [decide_eq_true c] at this
    exact this
  · refine itbF (decide_eq_false fun e => c (V.int.inj e)) ?_
    refine ⟨_, h3, Nat.zero_le _, fun N nN => ?_⟩
    have s1 := same_new nN (o := .lst [])
    have ly := lay_clsL ok
    refine ⟨.list (ls.map clD), .list [], (Dv.lst (s1 _ _ hR) (dR.same s1)).dp ly.nd, (Dv.lst upd_same .nil).dp rfl, ly.sh, rfl, _, rfl, ?_⟩
    have := q _ s1
    rw [decide_eq_false c] at this
    have e : PyData.eqv (.list (ls.map clD)) (.list []) = decide (ls = []) := eqvL_cls ls []
    rw [e]
    exact this
section
variable {P : Program} {w : World} {K : PySem.W.Frag} {mg : Str → Option Value} {base : Heap} {C CC E0' PA PT PS : Addr}
set_option maxHeartbeats 32000000 in
theorem turn_ok {f : Addr} (T : Bk mg) (t : CcT K mg CC)
    (M_letters : MDef P w K mg base CX0 1 CC "letters" nSelf (spCLet K CC)) (M_made : MDef P w K mg base CX0 1 CC "made" nSelf (spCMade K CC))
    (M_wanting : MDef P w K mg base CX0 7 CC "wanting" nCWt (spWt K CC)) (M_dropping : MDef P w K mg base CX0 7 CC "dropping" nCDr (spDr K CC)) (M_making : MDef P w K mg base CX0 6 CC "making" nCMk (spMkg K CC))
    (D_next : Def P w K mg base CX0 2 "_law_next" pNx spNx) (D_one : Def P w K mg base CX0 3 "_law_one" nOne spOneS) (D_signs : Def P w K mg base CX0 3 "_law_signs" pSg spSg4)
    (cdv : Value) (A : Around) (outer : List Env) (s : Shared) (H : Hp) (E : XK) (hr : Room 11 (A.deeper (envOfC "_law_right" (defScope sRt) s.heap.objs.size f cdv))) :
    ∃ tb, PSs (cxOf CX0 P w K mg base nRt "_law_right" (defScope sRt) f cdv A outer s H E).nox (loopOf (bodyRt 6)) tb ∧
      ∀ (p x fq R D L : Addr) (F : Fo) (xsR : List V) (H' H0 : Hp) (Dn : Ends) (i : Nat) (σ : L2.St) (G : Hp), Mid K C CC PA PT PS p x fq R D L F xsR H' H0 → i ≤ 50 → Pre K C CC PA PT PS p x fq R D L F xsR H0 i σ G → (∀ σ' G', Pre K C CC PA PT PS p x fq R D L F xsR H0 (i + 1) σ' G' → Dn.nx σ' G') → tb Dn σ G := by
  have nd := scRt.nd
  refine ⟨_, (pss_cons (ps_par (i := 8) (j := 9) (by rfl) nd rfl rfl (by decide) rfl rfl (pa_cons (pe_def D_next (hr.mono (by decide)) rfl pass0 (pa_cons (pv 0) (pa_cons pe_int pa_nil))) (pa_cons (pv 4) pa_nil)) (by rfl))
 (pss_cons (ps_par (i := 10) (j := 11) (by rfl) nd rfl rfl (by decide) rfl rfl (pa_cons (pe_def D_signs (hr.mono (by decide)) rfl pass0 (pa_cons (pv 0) (pa_cons pe_int pa_nil))) (pa_cons (pe_lst (pa_cons (pe_mdef0 M_letters t.cl (hr.mono (by decide)) pass0 (pv 4)) (pa_cons (pe_mdef0 M_made t.cl (hr.mono (by decide)) pass0 (pv 4)) pa_nil))) pa_nil)) (by rfl))
 (C8.pss_cut (ps_set (i := 12) nd rfl (Or.inl rfl) (pe_def D_one (hr.mono (by decide)) rfl pass0 (pa_cons (pv 0) (pa_cons (pe_orT (pe_lc (own := [("_law_row", 14)]) (g := gName 14) (tt := tYes) rfl nd (pi_listK (K := K) rfl (pv 3)) (blkOk_by (own := [("_law_row", 14)]) (N := nRt) (sc := defScope sRt) (by decide +kernel)) (fun _ _ _ _ _ => pg_name (i := 14) nd rfl (Or.inl rfl)) (fun _ _ _ _ _ => pts_nil) (fun _ _ _ _ _ => (pe_ix (ix_tupK (K := K) rfl) (pv 14) pe_int (fun _ _ => rfl)))) (pe_one (pe_lst (pa_cons pe_int pa_nil)))) pa_nil))))
 (C8.pss_cut (ps_if (pt_weak (t' := tOr0) (PW.pt (pw_or (pt_cmpR op_eq (pv 8) pe_int (nomark _)) (pw_or1 (pt_cmpR (op_eqDK (K := K) rfl hr.units) (pv 3) (pe_lst pa_nil) (nomark _))))) fun σ G Q => or0_k)
  (pss_cons (ps_set (i := 4) nd rfl (Or.inl rfl) (pe_mdef M_making t.cl (hr.mono (by decide)) pass0 (pv 4) (pa_cons (pe_def D_next (hr.mono (by decide)) rfl pass0 (pa_cons (pv 0) (pa_cons pe_int pa_nil))) (pa_cons (pv 10) pa_nil))))
 (pss_cons (ps_expr (pe_bm PySem.F.plainAttrs_list PySem.F.slot_list_append PySem.F.type_list_append mt_append (pv 6) (pa_cons (pe_ix (ix_listK (K := K) rfl) (pe_mdef0 M_made t.cl (hr.mono (by decide)) pass0 (pv 4)) (pe_un un_neg pe_int) (fun _ _ => rfl)) pa_nil)))
 (pss_one (ps_if (pt_cmpR (op_neDK (K := K) rfl hr.units) (pe_ix (ix_tupK (K := K) rfl) (pe_ix (ix_listK (K := K) rfl) (pv 6) (pe_un un_neg pe_int) (fun _ _ => rfl)) pe_int (fun _ _ => rfl)) (pv 10) (nomark _))
  (pss_one (ps_ret pe_bl))
  pss_nil))))
  (pss_one (ps_if (pt_cmpR op_eq (pv 8) pe_int (nomark _))
  (pss_one (ps_asg (pe_tup (pa_cons (pe_mdef M_dropping t.cl (hr.mono (by decide)) pass0 (pv 4) (pa_cons (pv 12) pa_nil)) (pa_cons pe_non pa_nil))) (pg_tup rfl (pgs_cons (pg_name (i := 4) nd rfl (Or.inl rfl)) (pgs_cons (pg_sub (pv 5) (pv 12) (set_dict (hu_of hr))) pgs_nil)))))
  (pss_one (ps_asg (pe_tup (pa_cons (pe_mdef M_wanting t.cl (hr.mono (by decide)) pass0 (pv 4) (pa_cons (pv 12) (pa_cons (pv 10) pa_nil))) (pa_cons (pv 10) pa_nil))) (pg_tup rfl (pgs_cons (pg_name (i := 4) nd rfl (Or.inl rfl)) (pgs_cons (pg_sub (pv 5) (pv 12) (set_dict (hu_of hr))) pgs_nil))))))))
 (C8.pss_cut (ps_if (PW.pt (pw_or (pt_cmpR (op_neDK (K := K) rfl hr.units) (pe_lst (pa_cons (pe_mdef0 M_letters t.cl (hr.mono (by decide)) pass0 (pv 9)) (pa_cons (pe_mdef0 M_made t.cl (hr.mono (by decide)) pass0 (pv 9)) pa_nil))) (pv 11) (nomark _)) (pw_or1 (pt_cmpR (op_neDK (K := K) rfl hr.units) (pe_mdef0 M_made t.cl (hr.mono (by decide)) pass0 (pv 4)) (pv 6) (nomark _)))))
  (pss_one (ps_ret pe_bl))
  pss_nil)
 (pss_one (ps_if (pt_cmpR (op_neDK (K := K) rfl hr.units) (pe_mdef0 M_letters t.cl (hr.mono (by decide)) pass0 (pv 4)) (pe_lc (own := [("_law_row", 14)]) (g := gName 14) (tt := tYes) rfl nd (pi_listK (K := K) rfl (pv 3)) (blkOk_by (own := [("_law_row", 14)]) (N := nRt) (sc := defScope sRt) (by decide +kernel)) (fun _ _ _ _ _ => pg_name (i := 14) nd rfl (Or.inl rfl)) (fun _ _ _ _ _ => pts_nil) (fun _ _ _ _ _ => (pe_op (op_catM (K := K) rfl) (pe_slice (sl_tupAK (K := K) rfl) (pv 14) po_none (po_some pe_int)) (pe_tup (pa_cons (pe_dget (hu_of hr) (pv 5) (pe_ix (ix_tupK (K := K) rfl) (pv 14) pe_int (fun _ _ => rfl)) (fun _ _ => rfl)) pa_nil))))) (nomark _))
  (pss_one (ps_ret pe_bl))
  pss_nil))))))), ?_⟩
  rintro p x fq R D L F xsR H' H0 Dn i σ G M i50 ⟨hx, c, W, v7, v8, v9, v10, v11, v12, v14, v15, v16, rfl, I⟩ nxt
  have hR := I.e _ _ M.rp M.rD M.rL M.hR
  have tiG := I.e.ti (li_th M.li)
  have dR := M.d.tu tiG.t (tO_cls _)
  have lR := dR.len
  rw [List.length_map, List.length_map] at lR
  have lF := M.ga.g.wf.len
  obtain ⟨dx, fs, hxp⟩ := id I.h.ins
  have hxn : ∀ {z : Str}, (["_age", "_mark", "_letters", "_made"] : List Str).all (fun y => !(z == y)) = true → fs.lookup z = none := fun hz => by
    obtain ⟨dx', tl, tm, xs, ys, k⟩ := id I.h
    have := k.at_
    rw [hxp] at this
    injection this with this
    injection this with _ _ e
    rw [e]; exact fc_no hz
  have RpL := M.lp
  -- the draws
  refine ⟨_, rfl, p, 5, rfl, I.w, by decide, by decide, fun way G1 w0 w5 e1 w1 => ⟨_, rfl, _, _, rfl, ?_⟩⟩
  have I1 := I.ww M.lp e1 w1
  refine ⟨_, rfl, p, rfl, w1, fun sa ss G2 e2 w2 hs oks hz4 => ?_⟩
  have I2 := I1.ww M.lp e2 w2
  have hxp2 := (TI.w w1 e2).i _ _ _ _ ((TI.w I.w e1).i _ _ _ _ hxp)
  refine ⟨_, rfl, hx, dx, _, rfl, hxp2, hxn (by decide +kernel), hx, c, rfl, I2.h, fun A1 xs1 G3 s3 nA1 hA1 dA1 => ?_⟩
  have I3 := I2.same s3
  refine ⟨_, rfl, hx, dx, _, rfl, s3 _ _ hxp2, hxn (by decide +kernel), hx, c, rfl, I3.h, fun A2 ys2 G4 s4 nA2 hA2 dA2 => ⟨by show 2 ≤ sizeLine; decide, fun B nB => ⟨_, _, rfl, ?_⟩⟩⟩
  have I4 := I3.same s4
  have sB := same_new nB (o := .lst [.ref A1, .ref A2])
  have I5 := I4.same sB
  have fresh : ∀ {Z : Addr} {J : Hp}, LI K CC p D L hx F H0 J c W i → J Z = none → Z ≠ p ∧ Z ≠ D ∧ Z ≠ L := fun {Z J} I nZ => by
    obtain ⟨m, hD, _⟩ := I.D
    obtain ⟨yy, hL, _⟩ := I.L
    exact ⟨I.w.ne nZ, (ne_of_none hD nZ).symm, (ne_of_none hL nZ).symm⟩
  have bd : BD p D L B c (upd G4 B (.lst [.ref A1, .ref A2])) := by
    have f1 := fresh I2 nA1
    have f2 := fresh I3 nA2
    have f3 := fresh I4 nB
    exact ⟨⟨A1, A2, xs1, ys2, upd_same, (s4.trans sB) _ _ hA1, dA1.same (s4.trans sB), sB _ _ hA2, dA2.same sB, f1.1, f1.2.1, f1.2.2, f2.1, f2.2.1, f2.2.2⟩, f3.1, f3.2.1, f3.2.2⟩
  have hs5 := ((s3.trans s4).trans sB) _ _ hs
  generalize upd G4 B (.lst [.ref A1, .ref A2]) = G5 at I5 bd hs5
  clear hxp hxp2 sB s3 s4 hA1 hA2 dA1 dA2 nA1 nA2 nB e1 e2 w1 w2 I1 I2 I3 I4 hs hR tiG dR
  have tiG := I5.e.ti (li_th M.li)
  have hR := I5.e _ _ M.rp M.rD M.rL M.hR
  have dR := M.d.tu tiG.t (tO_cls _)
  refine ⟨fun σ G => ∃ number : Int, σ = sg p x fq R hx D L v7 (some (.int way)) (some (.ref hx)) (some (.ref sa)) (some (.ref B)) (some (.int number)) none v14 v15 v16 ∧ LI K CC p D L hx F H0 G c W i ∧ BD p D L B c G ∧ G sa = some (.tup (ss.map V.str)) ∧ (F.ls ≠ [] → number ∈ F.ls.map (·.n)), ?_, ?_⟩
  · refine ⟨_, rfl, _, rfl, R, rfl, ⟨_, sq hR⟩, fun N nN => ?_⟩
    refine lc_sel (walk_list (K := K)) (R := fun y (l : CL) => Dv G5 y (clD l)) (ls := F.ls.map clF) (out := fun y (n : Int) => y = V.int n) (a2_of dR) nN (fun J s => sq (s _ _ hR)) (by omega) (fun l => some l.n) ?_ ?_
    · rintro y l J T' S' hy hm s3 hT hS'
      obtain ⟨ta, sa', wv, rfl, hta, hsa, hw⟩ := dv_cl hy
      exact ⟨rfl, tyes ⟨_, rfl, ta, _, 0, .int l.n, rfl, rfl, st (s3 _ _ hta), atI_nat (j := 0) rfl, hT _ l.n J (fun _ _ h => h) rfl rfl⟩⟩
    intro G6 acc s6 hacc h4
    rw [h4.vals] at hacc
    have ef : (F.ls.map clF).filterMap (fun l => some l.n) = F.ls.map (·.n) := by
      rw [List.filterMap_map]
      show F.ls.filterMap (fun l => some l.n) = _
      rw [← List.filterMap_eq_map]; rfl
    rw [ef] at hacc
    have I6 := I5.same s6
    have bd6 : BD p D L B c G6 := bd.to (EX3.refl.same s6) (TU.same s6)
    have hN : N ≠ p := (fresh I5 nN).1
    by_cases hF : F.ls = []
    · refine ⟨false, .inl ⟨_, sq hacc, by rw [hF]; rfl⟩, ?_⟩
      refine itbF rfl ⟨by show 1 ≤ sizeLine; decide, fun N2 nN2 => ?_⟩
      have s7 := same_new nN2 (o := .lst [.int 0])
      have I7 := I6.same s7
      refine ⟨p, N2, [.int 0], rfl, I7.w, .inl upd_same, (fresh I6 nN2).1, by decide, by decide, fun j y G8 hy e8 w8 => ?_⟩
      have hj : y = .int 0 := by
        have := List.mem_of_getElem? hy
        simpa using this
      subst hj
      have I8 := I7.ww M.lp e8 w8
      exact ⟨0, rfl, I8, (bd6.to (EX3.refl.same s7) (TU.same s7)).to (EX3.refl.w e8) (TU.w I7.w e8), TU.w I7.w e8 _ _ ((s6.trans s7) _ _ hs5), fun h => absurd hF h⟩
    · have hne : F.ls.map (·.n) ≠ [] := fun e => hF (List.map_eq_nil_iff.mp e)
      refine ⟨true, .inl ⟨_, sq hacc, ?_⟩, itbT rfl ?_⟩
      · cases hz : F.ls.map (·.n) with
        | nil => exact absurd hz hne
        | cons a r => rfl
      refine ⟨p, N, _, rfl, I6.w, .inl hacc, hN, ?_, ?_, fun j y G8 hy e8 w8 => ?_⟩
      · rw [List.length_map]; exact List.length_pos_iff.mpr hne
      · rw [List.length_map, List.length_map]; omega
      obtain ⟨n, hn, rfl⟩ := getD_map hy
      have I8 := I6.ww M.lp e8 w8
      exact ⟨n, rfl, I8, bd6.to (EX3.refl.w e8) (TU.w I6.w e8), TU.w I6.w e8 _ _ (s6 _ _ hs5), fun _ => List.mem_of_getElem? hn⟩
  rintro σ G6 ⟨number, rfl, I6, bd6, hs6, hnum⟩
  clear hR tiG dR bd hs5 I5
  have tiG := I6.e.ti (li_th M.li)
  have hR := I6.e _ _ M.rp M.rD M.rL M.hR
  have dR := M.d.tu tiG.t (tO_cls _)
  have hcls : ∀ n, n ∈ F.ls.map (·.n) → n ∈ c.ls.map (·.n) := fun n hn => by
    rw [I6.ls, wl_n, List.map_map]; exact hn
  obtain ⟨dx, fs, hxp⟩ := id I6.h.ins
  have hxn : ∀ {z : Str}, (["_age", "_mark", "_letters", "_made"] : List Str).all (fun y => !(z == y)) = true → fs.lookup z = none := fun hz => by
    obtain ⟨dx', tl, tm, xs, ys, k⟩ := id I6.h
    have := k.at_
    rw [hxp] at this
    injection this with this
    injection this with _ _ e
    rw [e]; exact fc_no hz
  refine ⟨fun σ G => ∃ (hx' : Addr) (c' : Cp) (W' : Int → Option (List Str)), σ = sg p x fq R hx' D L v7 (some (.int way)) (some (.ref hx)) (some (.ref sa)) (some (.ref B)) (some (.int number)) none v14 v15 v16 ∧ LI K CC p D L hx' F H0 G c' W' (i + 1) ∧ BD p D L B c G ∧ CpAt K CC G hx c, ?_, ?_⟩
  · -- the three ways
    refine ⟨way, R, xsR, F.ls.map clF, rfl, rfl, hR, dR, (okCp_F (by decide) M.ga).ls.ok, fun G7 s7 => ?_⟩
    have I7 := I6.same s7
    have bd7 := bd6.to (EX3.refl.same s7) (TU.same s7)
    have hs7 := s7 _ _ hs6
    have hxp7 := s7 _ _ hxp
    by_cases cz : (decide (way = 0) || decide (F.ls.map clF = [])) = true
    · refine itbT cz ?_
      refine ⟨_, rfl, hx, dx, _, rfl, hxp7, hxn (by decide +kernel), _, rfl, p, 3, rfl, I7.w, by decide, by decide, fun b G8 b0 b3 e8 w8 => ?_⟩
      have I8 := I7.ww M.lp e8 w8
      have bd8 := bd7.to (EX3.refl.w e8) (TU.w I7.w e8)
      have hs8 := TU.w I7.w e8 _ _ hs7
      have len := I8.len
      refine ⟨_, rfl, hx, b, sa, c, ss, rfl, I8.h, I8.ok, b0, hs8, oks, by omega, fun hx' G9 s9 nh hh => ?_⟩
      have I9 := I8.same s9
      have bd9 := bd8.to (EX3.refl.same s9) (TU.same s9)
      obtain ⟨ysL, hL, dL⟩ := I9.L
      obtain ⟨dx', fs', hxp', hno⟩ := hh.no
      refine ⟨_, rfl, .inl ⟨rfl, _, sq hL⟩, _, rfl, hx', dx', _, rfl, hxp', hno (by decide +kernel), hx', _, rfl, hh, fun Mk ysM G10 s10 nM hM dM => ?_⟩
      obtain ⟨ysM0, y, rfl, _, dy⟩ := dva_snoc (m := (b, ss)) (ms := c.md) dM
      refine ⟨1, rfl, Mk, _, -1, y, rfl, rfl, sq hM, atI_last _ _, ?_⟩
      have I10 := I9.same s10
      have bd10 := bd9.to (EX3.refl.same s10) (TU.same s10)
      have hL10 := s10 _ _ hL
      have lL := dL.len
      rw [List.length_map] at lL
      have tm : TI G10 (upd G10 L (.lst (ysL ++ [y]))) := TI.mut hL10 (fun _ z => by cases z) (fun _ _ _ z => by cases z)
      have em : EX3 p D L G10 (upd G10 L (.lst (ysL ++ [y]))) := EX3.refl.mutL
      have eA := I10.e.mutL (u := .lst (ysL ++ [y]))
      refine ⟨L, _, _, rfl, rfl, hL10, lt2 _ (by omega), ?_⟩
      obtain ⟨ty, sy, rfl, hty, hsy⟩ := dv_md (m := (b, ss)) (dy.tu tm.t (tO_md _))
      have hs11 := tm.t _ _ ((s9.trans s10) _ _ hs8)
      refine ⟨_, rfl, 1, rfl, L, _, -1, .ref ty, rfl, rfl, sq upd_same, atI_last _ _, ty, _, 1, .ref sy, rfl, rfl, st hty, atI_nat (j := 1) rfl, _, rfl, ?_⟩
      refine ne_same (lay_ss oks.ok) (.tup hsy (dv_strs _)) (.tup hs11 (dv_strs _)) ⟨_, rfl, itbF rfl ?_⟩
      obtain ⟨mD, hD, kw⟩ := I10.D
      refine ⟨hx', cpM c b ss, W, rfl, ⟨eA, ?_, (hh.same s10).ti tm, ⟨mD, by rw [upd_ne I10.ne.2]; exact hD, kw.tu tm.t⟩, ⟨_, upd_same, ?_⟩, okCp_M I8.ok b0 oks (by omega), I8.ls, I8.am, ⟨I8.nz.s, I8.nz.w, fun m hm => (List.mem_append.mp hm).elim (I8.nz.m m) fun z => by rw [List.mem_singleton.mp z]; exact w4_zz hz4⟩, ?_⟩, bd10.to em tm.t, I10.h.ti tm⟩
      · exact I10.w.upd M.lp
      · exact DvA.appM ((dL.same s10).tu tm.t (tO_mds _)) (.cons (dy.tu tm.t (tO_md _)) .nil)
      · show (c.md ++ [(b, ss)]).length ≤ i + 1
        rw [List.length_append]; show c.md.length + 1 ≤ i + 1; omega
    · have hF : F.ls ≠ [] := fun e => cz (by rw [e]; simp)
      refine itbF (by simpa using cz) ?_
      have hn := hcls _ (hnum hF)
      have wnt : ∀ (G9 : Hp) (hx' : Addr) (v : V) (wo : Option (List Str)) (mD : KVs), LI K CC p D L hx F H0 G9 c W i → BD p D L B c G9 → CpAt K CC G9 hx' (cpW c number wo) → WV G9 v wo → (∀ ss, wo = some ss → OkSs ss) → wo ≠ some zz → G9 D = some (.dK (dkv mD)) → KW G9 mD c.ls →
          ∃ W', LI K CC p D L hx' F H0 (upd G9 D (.dK (dkv (putN mD number v)))) (cpW c number wo) W' (i + 1) ∧ BD p D L B c (upd G9 D (.dK (dkv (putN mD number v)))) ∧ CpAt K CC (upd G9 D (.dK (dkv (putN mD number v)))) hx c := fun G9 hx' v wo mD I9 bd9 hh hv hwo hwz hD kw => by
        have tm : TI G9 (upd G9 D (.dK (dkv (putN mD number v)))) := TI.mut hD (fun _ z => by cases z) (fun _ _ _ z => by cases z)
        obtain ⟨ysL, hL, dL⟩ := I9.L
        have e1 : (cpW c number wo).ls = (F.ls.map clF).map (wl (setF W number wo)) := by
          show c.ls.map (setW number wo) = _
          rw [I9.ls, wl_set]
        refine ⟨setF W number wo, ⟨I9.e.mutD, I9.w.upd I9.ne.1, hh.ti tm, ⟨_, upd_same, (kw.put number hv).tu tm.t⟩, ⟨ysL, by rw [upd_ne I9.ne.2.symm]; exact hL, dL.tu tm.t (tO_mds _)⟩, okCp_W I9.ok hwo, e1, I9.am, ⟨fun l hl => ?_, fun l hl => ?_, I9.nz.m⟩, by have := I9.len; show c.md.length ≤ i + 1; omega⟩, bd9.to EX3.refl.mutD tm.t, I9.h.ti tm⟩
        · obtain ⟨l0, h0, rfl⟩ := List.mem_map.mp (show l ∈ c.ls.map (setW number wo) from hl)
          unfold setW
          split
          · exact I9.nz.s l0 h0
          · exact I9.nz.s l0 h0
        · obtain ⟨l0, h0, rfl⟩ := List.mem_map.mp (show l ∈ c.ls.map (setW number wo) from hl)
          unfold setW
          split
          · exact hwz
          · exact I9.nz.w l0 h0
      obtain ⟨mD, hD, kw⟩ := I7.D
      have hk : number ∈ mD.map (·.1) := by rw [kw.1]; exact hn
      have lk : (dkv mD).length < sizeLine := by
        have h1 := congrArg List.length kw.1
        have h2 := I7.ok.ls.len
        rw [List.length_map, List.length_map] at h1
        refine lt2 _ ?_
        unfold dkv
        rw [List.length_map]; omega
      refine ⟨_, rfl, rfl, _, rfl, ?_⟩
      by_cases c1 : way = 1
      · refine itbT (by rw [c1]; rfl) ?_
        refine ⟨_, rfl, hx, dx, _, rfl, hxp7, hxn (by decide +kernel), _, rfl, hx, number, c, rfl, I7.h, I7.ok, hn, fun hx' G8 s8 nh hh => ⟨by show 2 ≤ sizeLine; decide, fun U nU => ?_⟩⟩
        have sU := same_new nU (o := .tup [.ref hx', .non])
        have s9 := s8.trans sU
        obtain ⟨W', r1, r2, r3⟩ := wnt _ hx' .non none mD (I7.same s9) (bd7.to (EX3.refl.same s9) (TU.same s9)) (hh.same sU) rfl (fun _ e => by cases e) (fun e => by cases e) (s9 _ _ hD) (kw.tu (TU.same s9))
        refine ⟨U, _, rfl, st upd_same, rfl, _, _, rfl, _, _, rfl, _, rfl, _, rfl, D, _, rfl, .inl ⟨_, Sum.inl number, s9 _ _ hD, rfl, lk, rfl⟩, rfl, ?_⟩
        rw [dkv_put _ hk]
        exact ⟨hx', _, W', rfl, r1, r2, r3⟩
      · refine itbF (decide_eq_false fun e => c1 (V.int.inj e)) ?_
        refine ⟨_, rfl, hx, dx, _, rfl, hxp7, hxn (by decide +kernel), _, rfl, _, rfl, hx, number, sa, c, ss, rfl, I7.h, I7.ok, hn, hs7, oks, fun hx' G8 s8 nh hh => ⟨_, rfl, by show 2 ≤ sizeLine; decide, fun U nU => ?_⟩⟩
        have sU := same_new nU (o := .tup [.ref hx', .ref sa])
        have s9 := s8.trans sU
        obtain ⟨W', r1, r2, r3⟩ := wnt _ hx' (.ref sa) (some ss) mD (I7.same s9) (bd7.to (EX3.refl.same s9) (TU.same s9)) (hh.same sU) ⟨sa, rfl, s9 _ _ hs7⟩ (fun z e => by rw [← Option.some.inj e]; exact oks) (fun e => w4_zz hz4 (Option.some.inj e)) (s9 _ _ hD) (kw.tu (TU.same s9))
        refine ⟨U, _, rfl, st upd_same, rfl, _, _, rfl, _, _, rfl, _, rfl, _, rfl, D, _, rfl, .inl ⟨_, Sum.inl number, s9 _ _ hD, rfl, lk, rfl⟩, rfl, ?_⟩
        rw [dkv_put _ hk]
        exact ⟨hx', _, W', rfl, r1, r2, r3⟩
  rintro σ G7 ⟨hx', c', W', rfl, I7, bd7, hc7⟩
  clear I6 bd6 hs6 tiG hR dR hxp hxn
  have okc := I.ok
  -- the old copy tells the same, and the letters that are made
  refine ⟨fun σ G => σ = sg p x fq R hx' D L v7 (some (.int way)) (some (.ref hx)) (some (.ref sa)) (some (.ref B)) (some (.int number)) none v14 v15 v16 ∧ LI K CC p D L hx' F H0 G c' W' (i + 1), ?_, ?_⟩
  · obtain ⟨d1, f1, hx1, no1⟩ := hc7.no
    refine ⟨_, rfl, hx, d1, _, rfl, hx1, no1 (by decide +kernel), hx, c, rfl, hc7, fun A1 xs1 G8 s8 nA1 hA1 dA1 => ?_⟩
    refine ⟨_, rfl, hx, d1, _, rfl, s8 _ _ hx1, no1 (by decide +kernel), hx, c, rfl, hc7.same s8, fun A2 ys2 G9 s9 nA2 hA2 dA2 => ⟨by show 2 ≤ sizeLine; decide, fun B2 nB2 => ?_⟩⟩
    have sB := same_new nB2 (o := .lst [.ref A1, .ref A2])
    have s79 := (s8.trans s9).trans sB
    have I9 := I7.same s79
    have bd9 := bd7.to (EX3.refl.same s79) (TU.same s79)
    refine ⟨_, rfl, ne_same (lay_pair okc) (.lst upd_same (.cons (.lst ((s9.trans sB) _ _ hA1) (dA1.same (s9.trans sB))) (.cons (.lst (sB _ _ hA2) (dA2.same sB)) .nil))) bd9.dv ⟨_, rfl, itbF rfl ?_⟩⟩
    obtain ⟨d2, f2, hx2, no2⟩ := I9.h.no
    refine ⟨_, rfl, hx', d2, _, rfl, hx2, no2 (by decide +kernel), hx', c', rfl, I9.h, fun A3 ys3 G10 s10 nA3 hA3 dA3 => ?_⟩
    have I10 := I9.same s10
    obtain ⟨ysL, hL, dL⟩ := I10.L
    exact ⟨_, rfl, ne_same (lay_mdsL I10.ok.md.ok) (.lst hA3 dA3) (.lst hL dL) ⟨_, rfl, itbF rfl ⟨rfl, I10⟩⟩⟩
  rintro σ G8 ⟨rfl, I8⟩
  have hR := I8.e _ _ M.rp M.rD M.rL M.hR
  have tiG := I8.e.ti (li_th M.li)
  have dR := M.d.tu tiG.t (tO_cls _)
  obtain ⟨mD, hD, kw⟩ := I8.D
  have nodup := up_nodup I8.ok.ls.up
  obtain ⟨d2, f2, hx2, no2⟩ := I8.h.no
  refine ⟨_, rfl, hx', d2, _, rfl, hx2, no2 (by decide +kernel), hx', c', rfl, I8.h, fun A3 xs3 G9 s9 nA3 hA3 dA3 => ?_⟩
  refine ⟨_, rfl, R, rfl, ⟨_, sq (s9 _ _ hR)⟩, fun N nN => ?_⟩
  have kw9 := kw.tu (TU.same s9)
  refine lc_tu (walk_list (K := K)) (a2_of (dR.same s9)) nN (fun J s => sq (s _ _ (s9 _ _ hR))) (by omega) (fun l => some (wl W' l)) (fun J y l => Dv J y (clD l)) (fun H G x b t h => h.tu t (tO_cl b)) ?_ ?_
  · rintro y l J T' S' hy hm s3 hT hS'
    obtain ⟨ta, sa', wv, rfl, hta, hsa, hw⟩ := dv_cl (hy.same s3)
    have hm' : wl W' l ∈ c'.ls := by rw [I8.ls]; exact List.mem_map.mpr ⟨l, hm, rfl⟩
    obtain ⟨v, hv1, hv2⟩ := kw9.look nodup hm'
    have hD3 := (s9.trans s3) _ _ hD
    refine ⟨rfl, tyes ⟨_, rfl, 3, rfl, slA_go hta fun b J2 s4 hb => ?_⟩⟩
    have eb : cutV [V.int l.n, V.int l.b, V.ref sa', wv] none (some 3) = [.int l.n, .int l.b, .ref sa'] := cut_take _ 3
    rw [eb] at hb
    have gv : DGet J2 D (kV (Sum.inl l.n)) (some v) := by
      have := DGet.k (k := Sum.inl l.n) (s4 _ _ hD3)
      rw [dkv_val, show lookN mD l.n = some v from hv1] at this
      exact this
    refine ⟨_, rfl, _, rfl, ta, _, 0, .int l.n, rfl, rfl, st (s4 _ _ hta), atI_nat (j := 0) rfl, D, v, rfl, gv, by show 1 ≤ sizeLine; decide, fun U nU => ?_⟩
    have sU := same_new nU (o := .tup [v])
    refine ⟨b, U, _, _, rfl, rfl, .inl (sU _ _ hb), .inl upd_same, by show 3 + 1 ≤ 2000; decide, fun r J3 s5 hr3 => ?_⟩
    have hr4 : J3 r = some (.tup [.int l.n, .int l.b, .ref sa', v]) := hr3.elim id fun z => by cases z.1
    have s45 := (s4.trans sU).trans s5
    exact hT _ (wl W' l) J3 s45 rfl (cl_dv (l := wl W' l) hr4 (s45 _ _ hsa) (hv2.tu ((TU.same s3).trans (TU.same s45))))
  intro G10 acc s10 hacc h4
  have ef : (F.ls.map clF).filterMap (fun l => some (wl W' l)) = c'.ls := by rw [I8.ls]; exact fm_map _ _
  rw [ef] at h4
  refine ne_same (lay_clsL I8.ok.ls.ok) (.lst (s10 _ _ hA3) (dA3.same s10)) (.lst hacc (of_a2 h4)) ⟨_, rfl, itbF rfl (nxt _ _ ⟨hx', c', W', _, _, _, _, _, _, _, _, _, rfl, (I8.same s9).same s10⟩)⟩
end
end K1


set_option Elab.async false
set_option linter.all false
set_option maxRecDepth 100000
set_option maxHeartbeats 4000000
namespace K1
open PySem PySem.Spec PyProof.Rows L2 RZ StX
/-- letters of which those of some numbers are wanted as W says, the others as they are -/
def part (W : Int → Option (List Str)) (S : List Int) (l : CL) : CL := if l.n ∈ S then wl W l else l
theorem part_nil (W : Int → Option (List Str)) (ls : List CL) : ls.map (part W []) = ls := by
  have : ls.map (part W []) = ls.map id := List.map_congr_left fun l _ => by unfold part; rw [if_neg (by simp)]; rfl
  rw [this, List.map_id]
theorem part_n (W : Int → Option (List Str)) (S : List Int) (l : CL) : (part W S l).n = l.n := by unfold part wl; split <;> rfl
theorem part_nums (W : Int → Option (List Str)) (S : List Int) (ls : List CL) : (ls.map (part W S)).map (·.n) = ls.map (·.n) := by
  rw [List.map_map]; exact List.map_congr_left fun l _ => part_n W S l
theorem part_all {W : Int → Option (List Str)} {S : List Int} {ls : List CL} (h : ∀ l ∈ ls, l.n ∈ S) : ls.map (part W S) = ls.map (wl W) := List.map_congr_left fun l hl => by unfold part; rw [if_pos (h l hl)]
theorem part_set {W : Int → Option (List Str)} {S : List Int} {n : Int} {ls : List CL} : (ls.map (part W S)).map (setW n (W n)) = ls.map (part W (S ++ [n])) := by
  rw [List.map_map]
  refine List.map_congr_left fun l _ => ?_
  show setW n (W n) (part W S l) = part W (S ++ [n]) l
  by_cases c : l.n = n
  · unfold setW
    rw [if_pos (by rw [part_n]; exact c)]
    have : l.n ∈ S ++ [n] := by rw [c]; simp
    unfold part
    rw [if_pos this]
    split <;> simp [wl, c]
  · unfold setW
    rw [if_neg (by rw [part_n]; exact c)]
    unfold part
    by_cases d : l.n ∈ S
    · rw [if_pos d, if_pos (List.mem_append_left _ d)]
    · rw [if_neg d, if_neg (by simp [d, c])]
theorem setW_setW (n : Int) (w w' : Option (List Str)) (ls : List CL) : (ls.map (setW n w)).map (setW n w') = ls.map (setW n w') := by
  rw [List.map_map]
  refine List.map_congr_left fun l _ => ?_
  show setW n w' (setW n w l) = setW n w' l
  unfold setW
  by_cases c : l.n = n <;> simp [c]
theorem DvA.rev {H : Hp} {α : Type} {f : α → PyData} : ∀ {xs : List V} {ls : List α}, DvA H xs (ls.map f) → DvA H xs.reverse (ls.reverse.map f)
  | _, [], .nil => .nil
  | _, _ :: _, .cons h r => by
    rw [List.reverse_cons, List.reverse_cons]
    exact DvA.appM r.rev (.cons h .nil)
theorem part_ok {W : Int → Option (List Str)} {S : List Int} {ls : List CL} (h : OkLs ls) (k : OkLs (ls.map (wl W))) : OkLs (ls.map (part W S)) := by
  refine ⟨fun l hl => ?_, by rw [part_nums]; exact h.up, by rw [List.length_map]; exact h.len⟩
  obtain ⟨x, hx, rfl⟩ := List.mem_map.mp hl
  unfold part
  split
  · exact k.ok _ (List.mem_map.mpr ⟨x, hx, rfl⟩)
  · exact h.ok x hx
section
variable {P : Program} {w : World} {K : PySem.W.Frag} {mg : Str → Option Value} {base : Heap} {C CC E0' PA PT PS : Addr}
set_option maxHeartbeats 32000000 in
theorem rest_ok {f : Addr} (T : Bk mg) (t : CcT K mg CC) (EM : EqM P w K mg base 1 CC (CpEq K CC))
    (M_letters : MDef P w K mg base CX0 1 CC "letters" nSelf (spCLet K CC)) (M_made : MDef P w K mg base CX0 1 CC "made" nSelf (spCMade K CC))
    (M_wanting : MDef P w K mg base CX0 7 CC "wanting" nCWt (spWt K CC)) (M_dropping : MDef P w K mg base CX0 7 CC "dropping" nCDr (spDr K CC)) (M_making : MDef P w K mg base CX0 6 CC "making" nCMk (spMkg K CC))
    (D_next : Def P w K mg base CX0 2 "_law_next" pNx spNx) (D_one : Def P w K mg base CX0 3 "_law_one" nOne spOneS) (D_signs : Def P w K mg base CX0 3 "_law_signs" pSg spSg4) (D_copy_of : Def P w K mg base CX0 6 "copy_of" pCo (spCo K C CC)) (D_apart_right : Def P w K mg base CX0 6 "_law_apart_right" pAp (spAp K CC))
    (cdv : Value) (A : Around) (outer : List Env) (s : Shared) (H : Hp) (E : XK) (p : Addr) (Q : VK) (hr : Room 11 (A.deeper (envOfC "_law_right" (defScope sRt) s.heap.objs.size f cdv))) (q : ∀ H', ENL p H H' → WellAt H' p → LamX.Tabs (T3 PA PT PS) H' → Q (.bl true) H') :
    ∃ tr, PSs (cxOf CX0 P w K mg base nRt "_law_right" (defScope sRt) f cdv A outer s H E).nox ((defBody sRt).drop 6) tr ∧ ∀ σ G, Mid0 K C CC PA PT PS p H σ G → tr { nx := fun _ H' => Q .non H', rt := Q } σ G := by
  have nd := scRt.nd
  obtain ⟨tb, hb1, hb2⟩ := turn_ok (C := C) (PA := PA) (PT := PT) (PS := PS) T t M_letters M_made M_wanting M_dropping M_making D_next D_one D_signs cdv A outer s H E hr
  refine ⟨_, (C8.pss_cut (ps_for PassesOwn.never rfl (pi_range1 rfl T.range (pa_cons (pe_def D_next (hr.mono (by decide)) rfl pass0 (pa_cons (pv 0) (pa_cons pe_int pa_nil))) pa_nil)) (pg_name (i := 7) nd rfl (Or.inl rfl)) hb1)
 (pss_cons (ps_set (i := 13) nd rfl (Or.inl rfl) (pv 2))
 (C8.pss_cut (ps_for PassesOwn.never rfl (pi_listK (K := K) rfl (pe_revLK (K := K) rfl (pv 3))) (pg_name (i := 14) nd rfl (Or.inl rfl))
  (pss_cons (ps_set (i := 13) nd rfl (Or.inl rfl) (pe_mdef M_dropping t.cl (hr.mono (by decide)) pass0 (pv 13) (pa_cons (pe_ix (ix_tupK (K := K) rfl) (pv 14) pe_int (fun _ _ => rfl)) pa_nil)))
 (pss_one (ps_if (pt_cmpR op_notN (pe_dget (hu_of hr) (pv 5) (pe_ix (ix_tupK (K := K) rfl) (pv 14) pe_int (fun _ _ => rfl)) (fun _ _ => rfl)) pe_non (nomark _))
  (pss_one (ps_set (i := 13) nd rfl (Or.inl rfl) (pe_mdef M_wanting t.cl (hr.mono (by decide)) pass0 (pv 13) (pa_cons (pe_ix (ix_tupK (K := K) rfl) (pv 14) pe_int (fun _ _ => rfl)) (pa_cons (pe_dget (hu_of hr) (pv 5) (pe_ix (ix_tupK (K := K) rfl) (pv 14) pe_int (fun _ _ => rfl)) (fun _ _ => rfl)) pa_nil)))))
  pss_nil))))
 (C8.pss_cut (ps_for PassesOwn.never rfl (pi_listK (K := K) rfl (pv 6)) (pg_tup rfl (pgs_cons (pg_name (i := 15) nd rfl (Or.inl rfl)) (pgs_cons (pg_name (i := 10) nd rfl (Or.inl rfl)) pgs_nil)))
  (pss_one (ps_set (i := 13) nd rfl (Or.inl rfl) (pe_mdef M_making t.cl (hr.mono (by decide)) pass0 (pv 13) (pa_cons (pv 15) (pa_cons (pv 10) pa_nil))))))
 (pss_one (ps_ret (pe_and (pe_cmpR (op_eqI EM (hr.mono (by decide))) (pv 13) (pv 4) (nomark _)) (pe_and (pe_cmpR (op_eqI EM (hr.mono (by decide))) (pv 2) (pe_def D_copy_of (hr.mono (by decide)) rfl pass0 (pa_cons (pv 1) pa_nil)) (nomark _)) (pe_one (pe_def D_apart_right (hr.mono (by decide)) rfl pass0 (pa_cons (pv 4) pa_nil))))))))))), ?_⟩
  rintro σ H0 ⟨x, fq, R, D, L, F, xsR, v10, v12, v14, v15, v16, rfl, M⟩
  -- the turns
  refine ⟨fun σ G => Pre K C CC PA PT PS p x fq R D L F xsR H0 13 σ G, ?_, ?_⟩
  · refine ⟨_, rfl, p, 13, rfl, M.w, by decide, by decide, fun k G1 k0 k13 e1 w1 => ⟨_, rfl, by omega, by omega, for_range (lo := 0) (n := k.toNat) (fun i σ G => Pre K C CC PA PT PS p x fq R D L F xsR H0 i σ G) ?_ ?_ ?_⟩⟩
    · exact ⟨fq, _, _, none, none, none, _, none, _, _, _, _, rfl, M.li.ww M.lp e1 w1⟩
    · rintro i σ G hi ⟨hx, c, W, v7, v8, v9, v10, v11, v12, v14, v15, v16, rfl, I⟩
      exact hb2 p x fq R D L F xsR H H0 _ i _ G M (by omega) ⟨hx, c, W, _, v8, v9, v10, v11, v12, v14, v15, v16, rfl, I⟩ fun σ' G' h => h
    · rintro σ G ⟨hx, c, W, v7, v8, v9, v10, v11, v12, v14, v15, v16, rfl, I⟩
      exact ⟨hx, c, W, v7, v8, v9, v10, v11, v12, v14, v15, v16, rfl, ⟨I.e, I.w, I.h, I.D, I.L, I.ok, I.ls, I.am, I.nz, by have := I.len; omega⟩⟩
  rintro σ G1 ⟨hx, c, W, v7, v8, v9, v10, v11, v12, v14, v15, v16, rfl, I1⟩
  have hR := I1.e _ _ M.rp M.rD M.rL M.hR
  have ti1 := I1.e.ti (li_th M.li)
  have dR := M.d.tu ti1.t (tO_cls _)
  have okF := okCp_F (by decide) M.ga
  have okL : OkLs ((F.ls.map clF).map (wl W)) := by have := I1.ok.ls; rw [I1.ls] at this; exact this
  have nodup := up_nodup I1.ok.ls.up
  obtain ⟨mD, hD, kw⟩ := I1.D
  obtain ⟨ysL, hL, dL⟩ := I1.L
  have lF := M.ga.g.wf.len
  refine ⟨_, rfl, ?_⟩
  -- the letters once more, from behind
  refine ⟨fun σ G => ∃ (ax : Addr) (u14 : Option V), σ = sg p x fq R hx D L v7 v8 v9 v10 v11 v12 (some (.ref ax)) u14 v15 v16 ∧ Same G1 G ∧ CpAt K CC G ax ⟨F.age, F.mr, c.ls, []⟩, ?_, ?_⟩
  · refine ⟨_, rfl, R, xsR, rfl, sq hR, fun N nN => ?_⟩
    have sN := same_new nN (o := .lst xsR.reverse)
    have dN := dR.rev
    refine ⟨N, rfl, ⟨_, sq upd_same⟩, for_list (K := K) (a := N) (xs := xsR.reverse) (fun j σ G => ∃ (ax : Addr) (u14 : Option V), σ = sg p x fq R hx D L v7 v8 v9 v10 v11 v12 (some (.ref ax)) u14 v15 v16 ∧ Same (upd G1 N (.lst xsR.reverse)) G ∧ CpAt K CC G ax ⟨F.age, F.mr, (F.ls.map clF).map (part W (((F.ls.map clF).reverse.take j).map (·.n))), []⟩) ?_ ?_ ?_ ?_⟩
    · refine ⟨fq, _, rfl, fun _ _ h => h, ?_⟩
      rw [List.take_zero, List.map_nil, part_nil]
      exact (M.cq.ti ti1).same sN
    · rintro j σ G _ ⟨ax, u14, rfl, s2, _⟩
      exact sq (s2 _ _ upd_same)
    · rintro j y σ G hy ⟨ax, u14, rfl, s2, hax⟩
      obtain ⟨l, hl, hv⟩ := dN.getD' hy
      have sA := sN.trans s2
      have hm : l ∈ F.ls.map clF := List.mem_reverse.mp (List.mem_of_getElem? hl)
      obtain ⟨ta, sa, wv, rfl, hta, hsa, hw⟩ := dv_cl (hv.same sA)
      obtain ⟨v, hv1, hv2⟩ := (kw.tu (TU.same sA)).look nodup (show wl W l ∈ c.ls by rw [I1.ls]; exact List.mem_map.mpr ⟨l, hm, rfl⟩)
      have hD2 := sA _ _ hD
      obtain ⟨d1, f1, hx1, no1⟩ := hax.no
      have okp : OkCp ⟨F.age, F.mr, (F.ls.map clF).map (part W (((F.ls.map clF).reverse.take j).map (·.n))), []⟩ := ⟨okF.age, okF.mr, part_ok okF.ls okL, okF.md⟩
      have hn : l.n ∈ ((F.ls.map clF).map (part W (((F.ls.map clF).reverse.take j).map (·.n)))).map (·.n) := by rw [part_nums]; exact List.mem_map.mpr ⟨l, hm, rfl⟩
      have stp : ((F.ls.map clF).map (part W (((F.ls.map clF).reverse.take j).map (·.n)))).map (setW l.n (W l.n)) = (F.ls.map clF).map (part W (((F.ls.map clF).reverse.take (j + 1)).map (·.n))) := by
        rw [part_set, List.take_add_one, hl, List.map_append]; rfl
      have gv : ∀ {J : Hp}, J D = some (.dK (dkv mD)) → DGet J D (kV (Sum.inl l.n)) (some v) := fun hJ => by
        have := DGet.k (k := Sum.inl l.n) hJ
        rw [dkv_val, show lookN mD l.n = some v from hv1] at this
        exact this
      refine ⟨_, rfl, ax, d1, _, rfl, hx1, no1 (by decide +kernel), _, rfl, ta, _, 0, .int l.n, rfl, rfl, st hta, atI_nat (j := 0) rfl, ax, l.n, _, rfl, hax, okp, hn, fun bx G3 s3 nb hb => ?_⟩
      have hD3 := s3 _ _ hD2
      have hta3 := s3 _ _ hta
      refine ⟨_, rfl, _, rfl, ta, _, 0, .int l.n, rfl, rfl, st hta3, atI_nat (j := 0) rfl, D, v, rfl, gv hD3, rfl, _, rfl, ?_⟩
      have hw2 : WV G v (W l.n) := hv2
      cases hW : W l.n with
      | none =>
        rw [hW] at hw2 stp
        obtain rfl : v = .non := hw2
        refine itbF rfl ⟨bx, _, rfl, s2.trans s3, ?_⟩
        rw [← stp]; exact hb
      | some ss =>
        rw [hW] at hw2 stp
        obtain ⟨wa, rfl, hwa⟩ := hw2
        refine itbT rfl ?_
        have oss : OkSs ss := (okL.ok (wl W l) (List.mem_map.mpr ⟨l, hm, rfl⟩)).w ss hW
        obtain ⟨d2, f2, hx2, no2⟩ := hb.no
        refine ⟨_, rfl, bx, d2, _, rfl, hx2, no2 (by decide +kernel), _, rfl, ta, _, 0, .int l.n, rfl, rfl, st hta3, atI_nat (j := 0) rfl, _, rfl, _, rfl, ta, _, 0, .int l.n, rfl, rfl, st hta3, atI_nat (j := 0) rfl, D, _, rfl, gv hD3, bx, l.n, wa, _, ss, rfl, hb, okCp_W okp (fun _ e => by cases e), ?_, s3 _ _ hwa, oss, fun ex G4 s4 ne he => ⟨ex, _, rfl, (s2.trans s3).trans s4, ?_⟩⟩
        · show l.n ∈ (((F.ls.map clF).map (part W (((F.ls.map clF).reverse.take j).map (·.n)))).map (setW l.n none)).map (·.n)
          rw [map_setW]; exact hn
        · rw [← stp, ← setW_setW l.n none]; exact he
    · rintro σ G ⟨ax, u14, rfl, s2, hax⟩
      refine ⟨ax, u14, rfl, sN.trans s2, ?_⟩
      have lx := dR.len
      rw [List.length_map] at lx
      have e : (F.ls.map clF).map (part W (((F.ls.map clF).reverse.take xsR.reverse.length).map (·.n))) = c.ls := by
        rw [I1.ls, part_all fun l hl => ?_]
        rw [List.take_of_length_le (by rw [List.length_reverse, List.length_reverse, lx]; exact Nat.le_refl _)]
        exact List.mem_map.mpr ⟨l, List.mem_reverse.mpr hl, rfl⟩
      rw [e] at hax; exact hax
  rintro σ G2 ⟨ax, u14, rfl, s2, hax⟩
  -- the made ones
  refine ⟨fun σ G => ∃ (ax : Addr) (u10 u15 : Option V), σ = sg p x fq R hx D L v7 v8 v9 u10 v11 v12 (some (.ref ax)) u14 u15 v16 ∧ Same G1 G ∧ CpAt K CC G ax ⟨F.age, F.mr, c.ls, c.md⟩, ?_, ?_⟩
  · refine ⟨_, rfl, L, rfl, ⟨_, sq (s2 _ _ hL)⟩, for_list (K := K) (a := L) (xs := ysL) (fun j σ G => ∃ (ax : Addr) (u10 u15 : Option V), σ = sg p x fq R hx D L v7 v8 v9 u10 v11 v12 (some (.ref ax)) u14 u15 v16 ∧ Same G1 G ∧ CpAt K CC G ax ⟨F.age, F.mr, c.ls, c.md.take j⟩) ?_ ?_ ?_ ?_⟩
    · exact ⟨ax, _, _, rfl, s2, hax⟩
    · rintro j σ G _ ⟨ax, u10, u15, rfl, s3, _⟩
      exact sq (s3 _ _ hL)
    · rintro j y σ G hy ⟨ax, u10, u15, rfl, s3, hax⟩
      obtain ⟨m, hm, hv⟩ := dL.getD' hy
      obtain ⟨ta, sa, rfl, hta, hsa⟩ := dv_md (hv.same s3)
      have okm := I1.ok.md.ok m (List.mem_of_getElem? hm)
      have ln := I1.len
      have okp : OkCp ⟨F.age, F.mr, c.ls, c.md.take j⟩ := ⟨okF.age, okF.mr, I1.ok.ls, ⟨fun m hm => I1.ok.md.ok m (List.mem_of_mem_take hm), by show (c.md.take j).length ≤ 900; rw [List.length_take]; omega⟩⟩
      obtain ⟨d1, f1, hx1, no1⟩ := hax.no
      refine ⟨ta, _, rfl, st hta, rfl, _, _, rfl, _, _, rfl, rfl, ?_⟩
      refine ⟨_, rfl, ax, d1, _, rfl, hx1, no1 (by decide +kernel), _, rfl, _, rfl, ax, m.1, sa, _, m.2, rfl, hax, okp, okm.1, hsa, okm.2, by show (c.md.take j).length < 900; rw [List.length_take]; omega, fun ex G4 s4 ne he => ⟨ex, _, _, rfl, s3.trans s4, ?_⟩⟩
      have e : c.md.take (j + 1) = c.md.take j ++ [(m.1, m.2)] := by rw [List.take_add_one, hm]; rfl
      rw [e]; exact he
    · rintro σ G ⟨ax, u10, u15, rfl, s3, hax⟩
      have lx := dL.len
      rw [List.length_map] at lx
      rw [lx, List.take_length] at hax
      exact ⟨ax, _, _, rfl, s3, hax⟩
  rintro σ G3 ⟨bx, u10, u15, rfl, s3, hbx⟩
  have I3 := I1.same s3
  have ec : (⟨F.age, F.mr, c.ls, c.md⟩ : Cp) = c := by
    obtain ⟨a1, a2, a3, a4⟩ := c
    obtain ⟨h1, h2⟩ := I1.am
    dsimp only at h1 h2
    rw [h1, h2]
  rw [ec] at hbx
  have ln := I1.len
  have lc : c.ls.length ≤ 50 := by rw [I1.ls, List.length_map, List.length_map]; omega
  refine ⟨_, rfl, _, rfl, eq_cp hbx I3.h I1.ok I1.ok fun G4 s4 => ⟨_, rfl, itbT (decide_eq_true rfl) ?_⟩⟩
  have I4 := I3.same s4
  have ti4 := I4.e.ti (li_th M.li)
  refine ⟨_, rfl, _, rfl, x, F, 20, rfl, M.fo.ti ti4, M.ga, by decide, fun cx G5 s5 nc hcx => ?_⟩
  refine eq_cp ((M.cq.ti ti4).same s5) hcx okF okF fun G6 s6 => ⟨_, rfl, itbT (decide_eq_true rfl) ?_⟩
  have I6 := (I4.same s5).same s6
  refine ⟨_, rfl, hx, c, rfl, I6.h, I1.ok, lc, by omega, I1.nz, fun G7 s7 => ?_⟩
  have I7 := I6.same s7
  exact q G7 (M.e.ex3 M.nD M.nL I7.e) I7.w (I7.e.tabs (li_th M.li) M.tb)
end
end K1


set_option Elab.async false
set_option linter.all false
set_option maxRecDepth 100000
set_option maxHeartbeats 8000000
namespace K1
open PySem PySem.Spec PyProof.Rows L2 RZ StX
abbrev sLaw : Stmt := st_law
abbrev nLaw : List Str := ["_law_script", "_law_k", "_law_source_here", "_law_turn"]
abbrev pLaw : List Str := ["_law_script"]
theorem scLaw : FnScope nLaw pLaw (defScope sLaw) := ⟨rfl, rfl, rfl, by decide +kernel, rfl, by decide +kernel, by decide +kernel⟩
def spLaw (K : PySem.W.Frag) (PA PT PS : Addr) : Sp := fun vs H Q _ => ∃ (a : Addr) (xs : List Int), vs = [.ref a] ∧ SqL K H a (xs.map V.int) ∧ xs.length ≤ 63 ∧ LamX.Tabs (T3 PA PT PS) H ∧ ∀ H', Q (.bl true) H'
theorem sql_ext {K : PySem.W.Frag} {H H' : Hp} {a : Addr} {xs : List V} (h : SqL K H a xs) (s : LamX.ExtN H H') : SqL K H' a xs := by
  rcases h with (h | ⟨o, h⟩) | h
  · exact .inl (.inl (s _ _ h fun _ z => by cases z))
  · exact .inl (.inr ⟨o, s _ _ h fun _ z => by cases z⟩)
  · exact .inr h
theorem ENL.en' {p : Addr} {H H' G : Hp} (a : ENL p H' G) (s : Same H H') (n : H p = none) : LamX.ExtN H G := fun b o hb ht => a b o (fun z => by rw [z, n] at hb; cases hb) ht (s b o hb)
section
variable {P : Program} {w : World} {K : PySem.W.Frag} {mg : Str → Option Value} {base : Heap} {PA PT PS : Addr}
theorem ok_law {f : Addr} {fd : FuncData} (T : Bk mg) (D_source : Def P w K mg base CX0 2 "_law_source" nCat (spSrc K)) (D_right : Def P w K mg base CX0 12 "_law_right" pRt (spRt PA PT PS)) (F : Fun K "law" "law" sLaw f fd) : FnOk P w K mg base CX0 13 f fd pLaw (spLaw K PA PT PS) := by
  have nd := scLaw.nd
  refine F.ok scLaw (fun vs H Q E h => ?_) (fun cdv A outer s H vs Q E hr h => ?_)
  · obtain ⟨a, xs, rfl, _⟩ := h
    rfl
  · obtain ⟨a, xs, rfl, hS, hl, hT, q⟩ := h
    refine ⟨_, (C8.pss_cut (ps_for PassesOwn.never rfl (pi_range1 rfl T.range (pa_cons (pe_callB (call_max2 rfl) (by rfl) T.max PyProof.Rows.boot_max (pa_cons pe_int (pa_cons (pe_callB (call_min2 rfl) (by rfl) T.min PyProof.Rows.boot_min (pa_cons pe_int (pa_cons (pe_callB (call_lenK (K := K) rfl) (by rfl) T.len PySem.boot_len (pa_cons (pv 0) pa_nil)) pa_nil))) pa_nil))) pa_nil)) (pg_name (i := 1) nd rfl (Or.inl rfl))
  (pss_cons (ps_set (i := 2) nd rfl (Or.inl rfl) (pe_def D_source (hr.mono (by decide)) rfl pass0 (pa_cons (pv 0) (pa_cons (pv 1) pa_nil))))
 (pss_one (ps_for PassesOwn.never rfl (pi_range1 rfl T.range (pa_cons pe_int pa_nil)) (pg_name (i := 3) nd rfl (Or.inl rfl))
  (pss_one (ps_if (pt_not (pt_val (pe_def D_right (hr.mono (by decide)) rfl pass0 (pa_cons (pv 2) pa_nil))))
  pss_any
  pss_nil))))))
 (pss_one (ps_ret pe_bl))), ?_⟩
    refine ⟨fun σ G => ∃ v1 v2 v3, σ = [some (.ref a), v1, v2, v3], ?_, ?_⟩
    · refine ⟨_, rfl, a, _, rfl, .inl hS, 4, _, rfl, 1, _, rfl, _, rfl, ?_⟩
      generalize hn : (if (if ((xs.map V.int).length : Int) < 4 then ((xs.map V.int).length : Int) else 4) > 1 then (if ((xs.map V.int).length : Int) < 4 then ((xs.map V.int).length : Int) else 4) else 1) = n
      have hn5 : 1 ≤ n ∧ n ≤ 4 := by rw [← hn]; split <;> split <;> omega
      refine ⟨by omega, by omega, for_range (lo := 0) (n := n.toNat) (fun i σ G => ∃ v1 v2 v3, σ = [some (.ref a), v1, v2, v3] ∧ LamX.ExtN H G ∧ LamX.Tabs (T3 PA PT PS) G) ⟨none, none, none, rfl, LamX.ExtN.refl H, hT⟩ ?_ ?_⟩
      · rintro i σ G hi ⟨v1, v2, v3, rfl, eG, tG⟩
        refine ⟨_, rfl, _, rfl, a, xs, _, rfl, sql_ext hS eG, hl, by omega, by omega, fun W H4 nW s4 w4 => ?_⟩
        refine ⟨4, rfl, by decide, by decide, for_range (lo := 0) (n := 4) (fun j σ G2 => ∃ v3, σ = [some (.ref a), some (.int (0 + (i : Int))), some (.ref W), v3] ∧ ENL W H4 G2 ∧ WellAt G2 W ∧ LamX.Tabs (T3 PA PT PS) G2) ⟨_, rfl, fun _ _ _ _ h => h, w4, tG.ext s4⟩ ?_ ?_⟩
        · rintro j σ G2 hj ⟨v3, rfl, e2, w5, t5⟩
          exact ⟨_, rfl, W, rfl, w5, t5, fun G3 e6 w6 t6 => ⟨_, rfl, itbF rfl ⟨_, rfl, fun b o n t h => e6 b o n t (e2 b o n t h), w6, t6⟩⟩⟩
        · rintro σ G2 ⟨v3, rfl, e2, w5, t5⟩
          exact ⟨_, _, _, rfl, eG.trans (e2.en' s4 nW), t5⟩
      · rintro σ G ⟨v1, v2, v3, rfl, eG, tG⟩
        exact ⟨_, _, _, rfl⟩
    · rintro σ G ⟨v1, v2, v3, rfl⟩
      exact q _
end
end K1


set_option Elab.async false
set_option linter.all false
set_option maxRecDepth 100000
set_option maxHeartbeats 4000000
namespace K1
open PySem PySem.Spec PyProof.Rows L2 RZ StX
/-! ### the end -/
def AtM (K : PySem.W.Frag) (C : Addr) (m q : Str) (st : Stmt) : Prop := ∃ (f : Addr) (fd : FuncData), Meth K C m f ∧ Fun K m q st f fd
def AtMC (K : PySem.W.Frag) (C : Addr) (m q : Str) (st : Stmt) (c : Addr) : Prop := ∃ (f : Addr) (oc : Value) (od : Option Addr) (kV doc pm : Value) (an : Option Addr) (ct : Value) (osl : Array (Option Value)),
  Meth K C m f ∧ K.lookup f = some ⟨oc, od, .func (PySem.W.fnOf m q (defArgs st) (defBody st) (defScope st) .none kV doc pm an (.ref c) ct), osl⟩ ∧ PySem.W.codeIn K (.ref c) q = true
section
variable {K : PySem.W.Frag} {h : Heap} {mg : Str → Option Value}
theorem cs_mk {x : Str} {n : Int} {t : Tok} {v : Value} (X : K.In h) (G : h.Ns mainGlobals mg) (a : PySem.W.nsIn K mainGlobals x = some (some v)) (e : v = .int n t) : ∃ t, mg x = some (.int n t) := ⟨t, by rw [PySem.W.mg_of X G a, e]⟩
theorem at_mk {x : Str} {st : Stmt} {f : Addr} {oc : Value} {od an : Option Addr} {osl : Array (Option Value)} {kV doc pm cdv ct : Value} (X : K.In h) (G : h.Ns mainGlobals mg) (a : PySem.W.nsIn K mainGlobals x = some (some (.ref f)))
    (l : K.lookup f = some ⟨oc, od, .func (PySem.W.fnOf x x (defArgs st) (defBody st) (defScope st) .none kV doc pm an cdv ct), osl⟩) (c : PySem.W.codeIn K cdv x = true) (k : PySem.W.keepIn K (.ref f) = true) : At K mg x st :=
  ⟨f, _, PySem.W.mg_of X G a, fun_mk l c k⟩
theorem atM_mk {C : Addr} {m q : Str} {st : Stmt} {f : Addr} {oc : Value} {od an : Option Addr} {osl : Array (Option Value)} {kV doc pm cdv ct : Value} (a : PySem.W.findIn K (.ref C) m = some (some (.ref f))) (n : PySem.W.isFn K (.ref f) = true)
    (l : K.lookup f = some ⟨oc, od, .func (PySem.W.fnOf m q (defArgs st) (defBody st) (defScope st) .none kV doc pm an cdv ct), osl⟩) (c : PySem.W.codeIn K cdv q = true) (k : PySem.W.keepIn K (.ref f) = true) : AtM K C m q st :=
  ⟨f, _, ⟨a, n, k⟩, fun_mk l c k⟩
theorem atMC_mk {C : Addr} {m q : Str} {st : Stmt} {f co : Addr} {oc : Value} {od an : Option Addr} {osl : Array (Option Value)} {kV doc pm ct : Value} (a : PySem.W.findIn K (.ref C) m = some (some (.ref f))) (n : PySem.W.isFn K (.ref f) = true)
    (l : K.lookup f = some ⟨oc, od, .func (PySem.W.fnOf m q (defArgs st) (defBody st) (defScope st) .none kV doc pm an (.ref co) ct), osl⟩) (c : PySem.W.codeIn K (.ref co) q = true) (k : PySem.W.keepIn K (.ref f) = true) : AtMC K C m q st co :=
  ⟨f, oc, od, kV, doc, pm, an, ct, osl, ⟨a, n, k⟩, l, c⟩
theorem AtM.mdef {P : Program} {w : World} {base : Heap} {CX : CXT} {k : Nat} {C : Addr} {m q : Str} {ps : List Str} {sp : Sp} {st : Stmt} (a : AtM K C m q st)
    (hb : ∀ (kV doc pm : Value) (an : Option Addr) (cdv ct : Value) (us : List Value), us.length = ps.length → bindArgs (PySem.W.fnOf m q (defArgs st) (defBody st) (defScope st) .none kV doc pm an cdv ct) ⟨us, []⟩ = pure (ps.zip us))
    (ok : ∀ (f : Addr) (fd : FuncData), Fun K m q st f fd → FnOk P w K mg base CX k f fd ps sp) : MDef P w K mg base CX k C m ps sp := by
  obtain ⟨f, fd, hm, F⟩ := a
  refine ⟨f, fd, hm, ?_, ok f fd F⟩
  obtain ⟨oc, od, kV, doc, pm, an, cdv, ct, osl, rfl, lk, hcd⟩ := F.ex
  exact F.binds hb
theorem AtMC.mdef {P : Program} {w : World} {base : Heap} {CX : CXT} {k : Nat} {C c : Addr} {m q : Str} {ps : List Str} {sp : Sp} {st : Stmt} (a : AtMC K C m q st c)
    (hb : ∀ (kV doc pm : Value) (an : Option Addr) (cdv ct : Value) (us : List Value), us.length = ps.length → bindArgs (PySem.W.fnOf m q (defArgs st) (defBody st) (defScope st) .none kV doc pm an cdv ct) ⟨us, []⟩ = pure (ps.zip us))
    (ok : ∀ {f : Addr} {oc : Value} {od : Option Addr} {kV doc pm : Value} {an : Option Addr} {ct : Value} {osl : Array (Option Value)}, K.lookup f = some ⟨oc, od, .func (PySem.W.fnOf m q (defArgs st) (defBody st) (defScope st) .none kV doc pm an (.ref c) ct), osl⟩ → PySem.W.codeIn K (.ref c) q = true → FnOk P w K mg base CX k f (PySem.W.fnOf m q (defArgs st) (defBody st) (defScope st) .none kV doc pm an (.ref c) ct) ps sp) : MDef P w K mg base CX k C m ps sp := by
  obtain ⟨f, oc, od, kV, doc, pm, an, ct, osl, hm, lk, hcd⟩ := a
  have F : Fun K m q st f _ := ⟨⟨oc, od, kV, doc, pm, an, .ref c, ct, osl, rfl, lk, hcd⟩, hm.kp⟩
  exact ⟨f, _, hm, F.binds hb, ok lk hcd⟩
end
def AtQ (K : PySem.W.Frag) (mg : Str → Option Value) (x q : Str) (st : Stmt) : Prop := ∃ (f : Addr) (fd : FuncData), mg x = some (.ref f) ∧ Fun K q q st f fd
theorem AtQ.def {P : Program} {w : World} {K : PySem.W.Frag} {mg : Str → Option Value} {base : Heap} {CX : CXT} {k : Nat} {x q : Str} {ps : List Str} {sp : Sp} {st : Stmt} (a : AtQ K mg x q st)
    (hb : ∀ (kV doc pm : Value) (an : Option Addr) (cdv ct : Value) (us : List Value), us.length = ps.length → bindArgs (PySem.W.fnOf q q (defArgs st) (defBody st) (defScope st) .none kV doc pm an cdv ct) ⟨us, []⟩ = pure (ps.zip us))
    (h : ∀ f fd, Fun K q q st f fd → FnOk P w K mg base CX k f fd ps sp) : Def P w K mg base CX k x ps sp := by
  obtain ⟨f, fd, hm, F⟩ := a
  exact ⟨f, fd, hm, F.kp, F.binds hb, h f fd F⟩
theorem atQ_mk {K : PySem.W.Frag} {h : Heap} {mg : Str → Option Value} {x q : Str} {st : Stmt} {f : Addr} {oc : Value} {od an : Option Addr} {osl : Array (Option Value)} {kV doc pm cdv ct : Value} (X : K.In h) (G : h.Ns mainGlobals mg) (a : PySem.W.nsIn K mainGlobals x = some (some (.ref f)))
    (l : K.lookup f = some ⟨oc, od, .func (PySem.W.fnOf q q (defArgs st) (defBody st) (defScope st) .none kV doc pm an cdv ct), osl⟩) (c : PySem.W.codeIn K cdv q = true) (k : PySem.W.keepIn K (.ref f) = true) : AtQ K mg x q st :=
  ⟨f, _, PySem.W.mg_of X G a, fun_mk l c k⟩
def CiF (K : PySem.W.Frag) (CC E0' : Addr) : Prop := ∃ (f : Addr) (fd : FuncData), L2.Mk K CC f ∧ FunD K "__init__" "Copy.__init__" (defArgs sCI) (defBody sCI) (defScope sCI) [.ref E0'] [] f fd
def CeF (K : PySem.W.Frag) (CC : Addr) : Prop := (∃ (f : Addr) (fd : FuncData), PySem.W.findIn K (.ref CC) "__eq__" = some (some (.ref f)) ∧ PySem.W.isFn K (.ref f) = true ∧ Fun K "__eq__" "Copy.__eq__" sCE f fd) ∧ PySem.W.findIn K (.ref CC) "__ne__" = some (some (.builtin "object.__ne__")) ∧ PySem.W.mroIn K CC (.type "object") = some true
theorem kemp_mk {K : PySem.W.Frag} {a : Addr} {od : Option Addr} {n : Nat} {sl : Array (Option Value)} (h : K.lookup a = some ⟨.type "tuple", od, .seq #[] n, sl⟩) : KEmp K a := ⟨_, n, h, rfl, rfl⟩
theorem ci_mk {K : PySem.W.Frag} {f CC tp E0' : Addr} {oc oc2 : Value} {od od2 an : Option Addr} {osl sl2 : Array (Option Value)} {kV doc pm cdv ct : Value} {n : Nat} (mk : L2.Mk K CC f)
    (l : K.lookup f = some ⟨oc, od, .func (PySem.W.fnOf "__init__" "Copy.__init__" (defArgs sCI) (defBody sCI) (defScope sCI) (.ref tp) kV doc pm an cdv ct), osl⟩) (lT : K.lookup tp = some ⟨oc2, od2, .seq #[.ref E0'] n, sl2⟩) (c : PySem.W.codeIn K cdv "Copy.__init__" = true) (k : PySem.W.keepIn K (.ref f) = true) : CiF K CC E0' :=
  ⟨f, _, mk, ⟨_, _, _, _, _, _, _, _, _, _, rfl, l, c, .inr ⟨by simp, tp, _, [.ref E0'], n, rfl, lT, rfl, .cons rfl .nil⟩, .inl rfl⟩, k⟩
theorem ce_mk {K : PySem.W.Frag} {f CC : Addr} {oc : Value} {od an : Option Addr} {osl : Array (Option Value)} {kV doc pm cdv ct : Value} (a : PySem.W.findIn K (.ref CC) "__eq__" = some (some (.ref f))) (n : PySem.W.isFn K (.ref f) = true)
    (l : K.lookup f = some ⟨oc, od, .func (PySem.W.fnOf "__eq__" "Copy.__eq__" (defArgs sCE) (defBody sCE) (defScope sCE) .none kV doc pm an cdv ct), osl⟩) (c : PySem.W.codeIn K cdv "Copy.__eq__" = true) (k : PySem.W.keepIn K (.ref f) = true)
    (ne : PySem.W.findIn K (.ref CC) "__ne__" = some (some (.builtin "object.__ne__"))) (ob : PySem.W.mroIn K CC (.type "object") = some true) : CeF K CC := ⟨⟨f, _, a, n, fun_mk l c k⟩, ne, ob⟩
theorem all_mk {l : PySem.W.OpenLaw} {w : World} {K : PySem.W.Frag} {h : Heap} {mg : Str → Option Value} {fa f E0' CC C fI c0 P0 c1 P1 c2 P2 : Addr} {oc kV dc pm cdv ct oI kI dI pI cI tI : Value} {od an oD aI : Option Addr} {sl sI : Array (Option Value)} (X : K.In h) (G : h.Ns mainGlobals mg) (hfa : mg "law" = some (.ref fa))
    (T : Bk mg) (Co : Cs mg) (t : ClT K mg C) (iC : C8.InsC K C) (mk : L2.Mk K C fI)
    (tc : CcT K mg CC) (iC2 : C8.InsC K CC) (kE : KEmp K E0') (ci : CiF K CC E0') (ce : CeF K CC)
    (q0 : AtM K CC "age" "Copy.age" sCAge)
    (q1 : AtM K CC "mark" "Copy.mark" sCMark)
    (q2 : AtM K CC "letters" "Copy.letters" sCLet)
    (q3 : AtM K CC "made" "Copy.made" sCMade)
    (q4 : AtM K CC "_check_number" "Copy._check_number" sCCk)
    (q5 : AtM K CC "_with_wanted" "Copy._with_wanted" sCWW)
    (q6 : AtM K CC "wanting" "Copy.wanting" sCWt)
    (q7 : AtM K CC "dropping" "Copy.dropping" sCDr)
    (q8 : AtM K CC "making" "Copy.making" sCMk)
    (lI : K.lookup fI = some ⟨oI, oD, .func (PySem.W.fnOf "__init__" "Folder.__init__" (defArgs sInit) (defBody sInit) (defScope sInit) .none kI dI pI aI cI tI), sI⟩) (gI : PySem.W.codeIn K cI "Folder.__init__" = true) (hI : PySem.W.keepIn K (.ref fI) = true)
    (a0 : At K mg "is_integer" sIsInt)
    (a1 : At K mg "is_number" sIsNum)
    (a2 : At K mg "is_body" sIsBody)
    (a3 : At K mg "is_mark" sIsMark)
    (a4 : At K mg "is_sign" sIsSign)
    (a5 : At K mg "is_signs" sIsSigns)
    (a6 : At K mg "is_numbers" sIsNums)
    (a7 : At K mg "is_ascending" sIsAsc)
    (a8 : At K mg "_check_numbers" sCkNums)
    (a9 : At K mg "_with_sign" sWith)
    (a10 : At K mg "_without_sign" sWout)
    (a11 : At K mg "is_deed" sIsDeed)
    (a12 : At K mg "can_be_done" sCan)
    (a13 : At K mg "done" sDone)
    (a14 : At K mg "played" sPlayed)
    (a15 : At K mg "_are_letters" sAl)
    (a16 : At K mg "_are_made" sAm)
    (a17 : At K mg "_check_folder" sCf)
    (a18 : At K mg "copy_of" sCo)
    (a19 : At K mg "_law_cell_at" sCat)
    (a20 : At K mg "_law_mixed" sMix)
    (a21 : At K mg "_law_source" sSrc)
    (a22 : At K mg "_law_next" sNx)
    (a23 : At K mg "_law_one" sOne)
    (a24 : At K mg "_law_signs" sSg)
    (a25 : At K mg "_law_deed" sDe)
    (a26 : At K mg "_law_folder" sLf)
    (a27 : At K mg "_law_unlike_ones" sUn)
    (a28 : At K mg "_law_apart_right" sAp)
    (a29 : At K mg "_law_right" sRt)
    (m0 : AtM K C "letters" "Folder.letters" sLetters)
    (m1 : AtM K C "mark" "Folder.mark" sMark)
    (m2 : AtM K C "age" "Folder.age" sAge)
    (m3 : AtM K C "appended" "Folder.appended" sApp)
    (m4 : AtM K C "_copied" "Folder._copied" sCopied)
    (m5 : AtM K C "removed" "Folder.removed" sRem)
    (m6 : AtM K C "trimmed" "Folder.trimmed" sTrim)
    (m7 : AtM K C "_signed" "Folder._signed" sSig)
    (b0 : AtMC K C "added" "Folder.added" sAdd c0)
    (b1 : AtMC K C "taken" "Folder.taken" sTake c1)
    (b2 : AtMC K C "set_to" "Folder.set_to" sSet c2)
    (aL : PySem.W.nsIn K mainGlobals "law" = some (some (.ref f))) (lL : K.lookup f = some ⟨oc, od, .func (PySem.W.fnOf "law" "law" (defArgs sLaw) (defBody sLaw) (defScope sLaw) .none kV dc pm an cdv ct), sl⟩) (cL' : PySem.W.codeIn K cdv "law" = true) (kL : PySem.W.keepIn K (.ref f) = true)
    (hP : ∀ p ∈ ([(c0, P0), (c1, P1), (c2, P2)] : List (Addr × Addr)), h.get? p.2 = some { cls := .none, data := .fields #[] }) (nP : ∀ p ∈ ([(c0, P0), (c1, P1), (c2, P2)] : List (Addr × Addr)), K.lookup p.2 = none) (hC : ∀ p ∈ ([(c0, P0), (c1, P1), (c2, P2)] : List (Addr × Addr)), PySem.W.CodeHd h p.1 p.2) (ap : Ap P0 P1 P2) :
    LamX.LawAtS l w K CX0 13 63 "_law_script" mg fa h := by
  have e := hfa.symm.trans (PySem.W.mg_of X G aL)
  cases e
  refine ⟨PySem.W.fnOf "law" "law" (defArgs sLaw) (defBody sLaw) (defScope sLaw) .none kV dc pm an cdv ct, [(c0, P0), (c1, P1), (c2, P2)], spLaw K P0 P1 P2, hP, nP, hC, fun s u => .of_eq rfl,
    fun H a ns hl _ hH hS => ⟨a, ns, rfl, hS, hl, fun p hp => ?_, fun _ => rfl⟩, fun base hb _ hTB => ?_⟩
  · simp only [T3, List.mem_cons, List.not_mem_nil, or_false] at hp
    rcases hp with rfl | rfl | rfl
    · exact LamX.TabS.nil (hH (c0, P0) (by simp))
    · exact LamX.TabS.nil (hH (c1, P1) (by simp))
    · exact LamX.TabS.nil (hH (c2, P2) (by simp))
  have TS0 := hTB (c0, P0) (by simp)
  have TS1 := hTB (c1, P1) (by simp)
  have TS2 := hTB (c2, P2) (by simp)
  have d_is_integer : Def l.prog w K mg base CX0 1 "is_integer" pV spInt := a0.def (fun _ _ _ _ _ _ us hl => match us, hl with | [_], _ => rfl) fun f fd F => ok_isInt T F
  have d_is_number : Def l.prog w K mg base CX0 2 "is_number" pV spNum := a1.def (fun _ _ _ _ _ _ us hl => match us, hl with | [_], _ => rfl) fun f fd F => ok_isNum d_is_integer F
  have d_is_body : Def l.prog w K mg base CX0 2 "is_body" pV spBody := a2.def (fun _ _ _ _ _ _ us hl => match us, hl with | [_], _ => rfl) fun f fd F => ok_isBody d_is_integer F
  have d_is_mark : Def l.prog w K mg base CX0 2 "is_mark" pV spBody := a3.def (fun _ _ _ _ _ _ us hl => match us, hl with | [_], _ => rfl) fun f fd F => ok_isMark d_is_integer F
  have d_is_sign : Def l.prog w K mg base CX0 1 "is_sign" pV spSign := a4.def (fun _ _ _ _ _ _ us hl => match us, hl with | [_], _ => rfl) fun f fd F => ok_isSign T Co F
  have d_is_signs : Def l.prog w K mg base CX0 2 "is_signs" pV spSigns := a5.def (fun _ _ _ _ _ _ us hl => match us, hl with | [_], _ => rfl) fun f fd F => ok_isSigns T Co d_is_sign F
  have d_is_numbers : Def l.prog w K mg base CX0 3 "is_numbers" pV spNums := a6.def (fun _ _ _ _ _ _ us hl => match us, hl with | [_], _ => rfl) fun f fd F => ok_isNums T d_is_number F
  have d_is_ascending : Def l.prog w K mg base CX0 1 "is_ascending" pIsAsc spIsAsc := a7.def (fun _ _ _ _ _ _ us hl => match us, hl with | [_], _ => rfl) fun f fd F => ok_isAsc T F
  have d_check_numbers : Def l.prog w K mg base CX0 4 "_check_numbers" nCkNums spCkNums := a8.def (fun _ _ _ _ _ _ us hl => match us, hl with | [_], _ => rfl) fun f fd F => ok_ckNums d_is_numbers F
  have d_with_sign : Def l.prog w K mg base CX0 1 "_with_sign" nWith spWith := a9.def (fun _ _ _ _ _ _ us hl => match us, hl with | [_, _], _ => rfl) fun f fd F => ok_with T Co F
  have d_without_sign : Def l.prog w K mg base CX0 1 "_without_sign" nWith spWout := a10.def (fun _ _ _ _ _ _ us hl => match us, hl with | [_, _], _ => rfl) fun f fd F => ok_wout T F
  have dNew : MkD l.prog w K mg base C := by
    have F : Fun K "__init__" "Folder.__init__" sInit fI _ := fun_mk lI gI hI
    exact ⟨fI, _, mk, F.binds (fun _ _ _ _ _ _ us hl => match us, hl with | [_, _], _ => rfl), ok_init t d_is_number F⟩
  have m_letters : MDef l.prog w K mg base CX0 1 C "letters" nSelf (spLetters C) := m0.mdef (fun _ _ _ _ _ _ us hl => match us, hl with | [_], _ => rfl) fun f fd F => ok_letters T t F
  have m_mark : MDef l.prog w K mg base CX0 1 C "mark" nSelf (spMark C) := m1.mdef (fun _ _ _ _ _ _ us hl => match us, hl with | [_], _ => rfl) fun f fd F => ok_mark t F
  have m_age : MDef l.prog w K mg base CX0 1 C "age" nSelf (spAge C) := m2.mdef (fun _ _ _ _ _ _ us hl => match us, hl with | [_], _ => rfl) fun f fd F => ok_age t F
  have m_copied : MDef l.prog w K mg base CX0 5 C "_copied" nSelf (spCopied C) := m4.mdef (fun _ _ _ _ _ _ us hl => match us, hl with | [_], _ => rfl) fun f fd F => ok_copied t dNew F
  have m_appended : MDef l.prog w K mg base CX0 6 C "appended" pApp (spApp C) := m3.mdef (fun _ _ _ _ _ _ us hl => match us, hl with | [_, _, _], _ => rfl) fun f fd F => ok_app t d_is_body d_is_signs m_copied F
  have m_removed : MDef l.prog w K mg base CX0 6 C "removed" pRem (spRem C) := m5.mdef (fun _ _ _ _ _ _ us hl => match us, hl with | [_, _], _ => rfl) fun f fd F => ok_rem T t d_check_numbers m_copied F
  have m_trimmed : MDef l.prog w K mg base CX0 6 C "trimmed" pTrim (spTrim C) := m6.mdef (fun _ _ _ _ _ _ us hl => match us, hl with | [_, _], _ => rfl) fun f fd F => ok_trim T t d_is_mark m_copied F
  have DS : SgD K C := ⟨m7⟩
  have m_added : MDef l.prog w K mg base CX0 8 C "added" nAdd (spSgn C P0 P1 P2 (fun z ss => wG ss z)) := b0.mdef (fun _ _ _ _ _ _ us hl => match us, hl with | [_, _, _], _ => rfl) fun lk hcd => ok_add T t ap DS TS0 d_check_numbers d_is_sign d_with_sign m_copied lk hcd
  have m_taken : MDef l.prog w K mg base CX0 8 C "taken" nAdd (spSgn C P0 P1 P2 (fun z ss => nS ss z)) := b1.mdef (fun _ _ _ _ _ _ us hl => match us, hl with | [_, _, _], _ => rfl) fun lk hcd => ok_take T t ap DS TS1 d_check_numbers d_is_sign d_without_sign m_copied lk hcd
  have m_set_to : MDef l.prog w K mg base CX0 8 C "set_to" nSet (spSet C P0 P1 P2) := b2.mdef (fun _ _ _ _ _ _ us hl => match us, hl with | [_, _, _], _ => rfl) fun lk hcd => ok_set T t ap DS TS2 d_check_numbers d_is_signs m_copied lk hcd
  have d_is_deed : Def l.prog w K mg base CX0 4 "is_deed" pV spIsDeed := a11.def (fun _ _ _ _ _ _ us hl => match us, hl with | [_], _ => rfl) fun f fd F => ok_isDeed T d_is_body d_is_sign d_is_signs d_is_numbers d_is_mark F
  have d_can_be_done : Def l.prog w K mg base CX0 5 "can_be_done" nCan (spCan C) := a12.def (fun _ _ _ _ _ _ us hl => match us, hl with | [_, _], _ => rfl) fun f fd F => ok_can t m_mark d_is_deed F
  have d_done : Def l.prog w K mg base CX0 9 "done" pDone (spDone C P0 P1 P2) := a13.def (fun _ _ _ _ _ _ us hl => match us, hl with | [_, _], _ => rfl) fun f fd F => ok_done t m_appended m_added m_taken m_set_to m_removed m_trimmed F
  have d_played : Def l.prog w K mg base CX0 10 "played" pPlayed (spPlayed C P0 P1 P2) := a14.def (fun _ _ _ _ _ _ us hl => match us, hl with | [_, _], _ => rfl) fun f fd F => ok_played T t iC d_can_be_done d_done F
  have d_are_letters : Def l.prog w K mg base CX0 3 "_are_letters" pV (spAl K) := a15.def (fun _ _ _ _ _ _ us hl => match us, hl with | [_], _ => rfl) fun f fd F => ok_al T d_is_number d_is_body d_is_signs d_is_ascending F
  have d_are_made : Def l.prog w K mg base CX0 3 "_are_made" pV (spAm K) := a16.def (fun _ _ _ _ _ _ us hl => match us, hl with | [_], _ => rfl) fun f fd F => ok_am T d_is_body d_is_signs F
  have d_check_folder : Def l.prog w K mg base CX0 1 "_check_folder" pCo (spCf C) := a17.def (fun _ _ _ _ _ _ us hl => match us, hl with | [_], _ => rfl) fun f fd F => ok_cf T t iC F
  have cNew : MkCc l.prog w K mg base CC E0' := by
    obtain ⟨f, fd, hm, F⟩ := ci
    obtain ⟨d0, v0, b0⟩ := F.binds1 (ps := nCI) 5 1 (by simp) rfl (fun T kV doc pm an cdv ct us its hl hl2 => match us, its, hl, hl2 with | [_, _, _, _, _], [_], _, _ => ⟨_, rfl, rfl⟩)
    obtain ⟨d1, v1, b1⟩ := F.binds1 (ps := nCI) 4 0 (by simp) rfl (fun T kV doc pm an cdv ct us its hl hl2 => match us, its, hl, hl2 with | [_, _, _, _], [_], _, _ => ⟨_, rfl, rfl⟩)
    have e : d0 = [] := by
      cases v0; rfl
    rw [e] at b0
    exact ⟨⟨f, fd, d1, hm, b0, b1, v1, ok_ci T tc d_is_number d_is_mark d_are_letters d_are_made F⟩, kE⟩
  have EM : EqM l.prog w K mg base 1 CC (CpEq K CC) := by
    obtain ⟨⟨f, fd, h1, h2, F⟩, h3, h4⟩ := ce
    exact ⟨⟨f, fd, nCE, ok_ce T tc iC2 F, h1, h2, F.binds (fun _ _ _ _ _ _ us hl => match us, hl with | [_, _], _ => rfl)⟩, h3, h4⟩
  have n_age : MDef l.prog w K mg base CX0 1 CC "age" nSelf (spCAge K CC) := q0.mdef (fun _ _ _ _ _ _ us hl => match us, hl with | [_], _ => rfl) fun f fd F => ok_cage tc F
  have n_mark : MDef l.prog w K mg base CX0 1 CC "mark" nSelf (spCMark K CC) := q1.mdef (fun _ _ _ _ _ _ us hl => match us, hl with | [_], _ => rfl) fun f fd F => ok_cmark tc F
  have n_letters : MDef l.prog w K mg base CX0 1 CC "letters" nSelf (spCLet K CC) := q2.mdef (fun _ _ _ _ _ _ us hl => match us, hl with | [_], _ => rfl) fun f fd F => ok_clet T tc F
  have n_made : MDef l.prog w K mg base CX0 1 CC "made" nSelf (spCMade K CC) := q3.mdef (fun _ _ _ _ _ _ us hl => match us, hl with | [_], _ => rfl) fun f fd F => ok_cmade T tc F
  have n_check_number : MDef l.prog w K mg base CX0 3 CC "_check_number" nCDr (spCk K CC) := q4.mdef (fun _ _ _ _ _ _ us hl => match us, hl with | [_, _], _ => rfl) fun f fd F => ok_ck tc d_is_number F
  have n_with_wanted : MDef l.prog w K mg base CX0 6 CC "_with_wanted" pCWW (spWW K CC) := q5.mdef (fun _ _ _ _ _ _ us hl => match us, hl with | [_, _, _], _ => rfl) fun f fd F => ok_ww T tc cNew F
  have n_wanting : MDef l.prog w K mg base CX0 7 CC "wanting" nCWt (spWt K CC) := q6.mdef (fun _ _ _ _ _ _ us hl => match us, hl with | [_, _, _], _ => rfl) fun f fd F => ok_wt tc n_check_number d_is_signs n_with_wanted F
  have n_dropping : MDef l.prog w K mg base CX0 7 CC "dropping" nCDr (spDr K CC) := q7.mdef (fun _ _ _ _ _ _ us hl => match us, hl with | [_, _], _ => rfl) fun f fd F => ok_dr tc n_check_number n_with_wanted F
  have n_making : MDef l.prog w K mg base CX0 6 CC "making" nCMk (spMkg K CC) := q8.mdef (fun _ _ _ _ _ _ us hl => match us, hl with | [_, _, _], _ => rfl) fun f fd F => ok_mkg tc cNew d_is_body d_is_signs F
  have d_copy_of : Def l.prog w K mg base CX0 6 "copy_of" pCo (spCo K C CC) := a18.def (fun _ _ _ _ _ _ us hl => match us, hl with | [_], _ => rfl) fun f fd F => ok_co T t tc cNew d_check_folder m_letters m_age m_mark F
  have d_law_cell_at : Def l.prog w K mg base CX0 1 "_law_cell_at" nCat (spCat K) := a19.def (fun _ _ _ _ _ _ us hl => match us, hl with | [_, _], _ => rfl) fun f fd F => ok_cat T.toBi F
  have d_law_mixed : Def l.prog w K mg base CX0 1 "_law_mixed" pMix spMix := a20.def (fun _ _ _ _ _ _ us hl => match us, hl with | [_, _], _ => rfl) fun f fd F => ok_mix T.toBi F
  have d_law_source : Def l.prog w K mg base CX0 2 "_law_source" nCat (spSrc K) := a21.def (fun _ _ _ _ _ _ us hl => match us, hl with | [_, _], _ => rfl) fun f fd F => ok_src T.toBi d_law_cell_at d_law_mixed F
  have d_law_next : Def l.prog w K mg base CX0 2 "_law_next" pNx spNx := a22.def (fun _ _ _ _ _ _ us hl => match us, hl with | [_, _], _ => rfl) fun f fd F => ok_nx T.toBi d_law_mixed F
  have d_law_one : Def l.prog w K mg base CX0 3 "_law_one" nOne spOneS := a23.def (fun _ _ _ _ _ _ us hl => match us, hl with | [_, _], _ => rfl) fun f fd F => ok_oneS T.toBi d_law_next F
  have d_law_signs : Def l.prog w K mg base CX0 3 "_law_signs" pSg spSg4 := a24.def (fun _ _ _ _ _ _ us hl => match us, hl with | [_, _], _ => rfl) fun f fd F => ok_sg T d_law_next F
  have d_law_deed : Def l.prog w K mg base CX0 4 "_law_deed" pDe spDe := a25.def (fun _ _ _ _ _ _ us hl => match us, hl with | [_, _], _ => rfl) fun f fd F => ok_de T d_law_next d_law_one d_law_signs F
  have d_law_folder : Def l.prog w K mg base CX0 11 "_law_folder" pLf (spLf C P0 P1 P2) := a26.def (fun _ _ _ _ _ _ us hl => match us, hl with | [_, _], _ => rfl) fun f fd F => ok_lf T t dNew d_law_next d_law_signs d_law_deed m_appended d_played F
  have d_law_unlike_ones : Def l.prog w K mg base CX0 2 "_law_unlike_ones" pUn (spUn K CC) := a27.def (fun _ _ _ _ _ _ us hl => match us, hl with | [_], _ => rfl) fun f fd F => ok_un T tc n_age n_mark n_letters n_made F
  have d_law_apart_right : Def l.prog w K mg base CX0 6 "_law_apart_right" pAp (spAp K CC) := a28.def (fun _ _ _ _ _ _ us hl => match us, hl with | [_], _ => rfl) fun f fd F => ok_ap T tc cNew EM n_age n_mark n_letters n_made d_law_unlike_ones F
  have d_law_right : Def l.prog w K mg base CX0 12 "_law_right" pRt (spRt P0 P1 P2) := a29.def (fun _ _ _ _ _ _ us hl => match us, hl with | [_], _ => rfl) fun f fd F => ok_rt T t tc cNew EM m_letters m_age m_mark n_age n_mark n_letters n_made n_wanting n_dropping n_making d_law_next d_law_one d_law_signs d_law_folder d_copy_of d_law_apart_right (fun cdv A outer s H E p Q hr q => rest_ok T tc EM n_letters n_made n_wanting n_dropping n_making d_law_next d_law_one d_law_signs d_copy_of d_law_apart_right cdv A outer s H E p Q hr q) F
  exact ok_law T d_law_source d_law_right (fun_mk lL cL' kL)

theorem walk_tops {l : PySem.W.OpenLaw} {n k : Nat} {q : Program} {loose : List Str} {XP : (Str → Option Value) → Heap → Prop} {YP : World → Heap → Prop} {d : DefRec} {K : Params → PySem.W.Frag} {x : Str}
    (hn : l.most = some n) (hn2 : n ≤ sizeLine) (hdf : d.params.defaults = []) (hr : Room k callerA) (hY : ∀ (w : World) (h : Heap), YP w h → (K w.params).In h)
    (F : ∀ (w : World) (s : Shared) (mg mb : Str → Option Value) (fa : Addr) (h : Heap), (K w.params).In h → YP w h → PyProof.Rows.Top q (PySem.W.looseW q loose) (ExcName.means s.heap) mg mb h → mg d.name = some (.ref fa) → LamX.LawAtS l w (K w.params) CX0 k n x mg fa h) :
    PySem.W.WalkO q loose XP YP l.row.toRowW d [] (fun f vs => PySem.call f vs) := by
  refine Att.attach_callB hn hdf fun w s0 s1 mg mb fa o pm cd doc a vs ns G Y ho hd hcd hmg hobj hints hlen hbits hg => ?_
  have KX := hY w _ Y
  obtain ⟨fd, cs, sp, hT, nT, C, hb, hsp, hF⟩ := F w s0 mg mb fa _ KX Y G.T hmg
  exact LamX.law_callTs KX G.T.g G.T.b G.T.builtins G.T.nolimit hg hT nT C G.T.bmain hobj hints (Nat.le_trans hlen hn2) hr hF hb (fun H hH hS => hsp H a ns hlen hbits hH hS) fun _ _ _ z => z
end K1


open PySem PySem.W PyProof.Rows
set_option Elab.async false
set_option linter.all false
set_option maxRecDepth 100000 in
set_option maxHeartbeats 0 in
theorem PySem.Challenge.cw_mailtide_k33_copies_without_a_line_holds : PySem.Challenge.rw_mailtide_k33_copies_without_a_line.Holds := by
  w_on; o_law; k_head; (case hw => w_witness2)
  k_fill
  refine K1.walk_tops (l := PySem.Challenge.rw_mailtide_k33_copies_without_a_line) (n := 63) (k := 13) (x := "_law_script") rfl (by decide) rfl ⟨rfl, by decide, by decide⟩ (fun w h Y => PySem.W.km_in_of Y) ?F
  intro w s mg mb fa h KX Y G hmg
  have hTab := PySem.W.km_tabs_of Y
  refine' K1.all_mk (c0 := 286) (P0 := 282) (c1 := 293) (P1 := 289) (c2 := 300) (P2 := 296) KX G.g hmg ?T ?Co ?t ?iC ?mk ?tc ?iC2 ?kE ?ci ?ce ?q0 ?q1 ?q2 ?q3 ?q4 ?q5 ?q6 ?q7 ?q8 ?lI ?gI ?hI ?a0 ?a1 ?a2 ?a3 ?a4 ?a5 ?a6 ?a7 ?a8 ?a9 ?a10 ?a11 ?a12 ?a13 ?a14 ?a15 ?a16 ?a17 ?a18 ?a19 ?a20 ?a21 ?a22 ?a23 ?a24 ?a25 ?a26 ?a27 ?a28 ?a29 ?m0 ?m1 ?m2 ?m3 ?m4 ?m5 ?m6 ?m7 ?b0 ?b1 ?b2 ?aL ?lL ?cL ?kL (List.forall_mem_cons.mpr ⟨hTab _ (by simp), (List.forall_mem_cons.mpr ⟨hTab _ (by simp), (List.forall_mem_cons.mpr ⟨hTab _ (by simp), fun _ z => nomatch z⟩)⟩)⟩) (List.forall_mem_cons.mpr ⟨?n0N, (List.forall_mem_cons.mpr ⟨?n1N, (List.forall_mem_cons.mpr ⟨?n2N, fun _ z => nomatch z⟩)⟩)⟩) (List.forall_mem_cons.mpr ⟨PySem.W.codeHd_of_K KX ?h0H, (List.forall_mem_cons.mpr ⟨PySem.W.codeHd_of_K KX ?h1H, (List.forall_mem_cons.mpr ⟨PySem.W.codeHd_of_K KX ?h2H, fun _ z => nomatch z⟩)⟩)⟩) ⟨by decide, by decide, by decide⟩
  case T =>
    refine' ⟨⟨⟨PySem.W.mg_none_of KX G.g ?z0, PySem.W.mg_none_of KX G.g ?z1, PySem.W.mg_none_of KX G.g ?z2, PySem.W.mg_none_of KX G.g ?z3, PySem.W.mg_none_of KX G.g ?z4, PySem.W.mg_none_of KX G.g ?z5, PySem.W.mg_none_of KX G.g ?z6, PySem.W.mg_none_of KX G.g ?z7, PySem.W.mg_none_of KX G.g ?z8, PySem.W.mg_none_of KX G.g ?z9, PySem.W.mg_none_of KX G.g ?z10, PySem.W.mg_none_of KX G.g ?z11⟩, PySem.W.mg_none_of KX G.g ?z12, PySem.W.mg_none_of KX G.g ?z13⟩, PySem.W.mg_none_of KX G.g ?z14, PySem.W.mg_none_of KX G.g ?z15⟩
    (case z0 => k_is); (case z1 => k_is); (case z2 => k_is); (case z3 => k_is); (case z4 => k_is); (case z5 => k_is); (case z6 => k_is); (case z7 => k_is); (case z8 => k_is); (case z9 => k_is); (case z10 => k_is); (case z11 => k_is); (case z12 => k_is); (case z13 => k_is); (case z14 => k_is); (case z15 => k_is)
  case Co =>
    refine' ⟨K1.cs_mk KX G.g ?v0 ?w0, K1.cs_mk KX G.g ?v1 ?w1⟩
    (case v0 => k_is); (case w0 => rfl); (case v1 => k_is); (case w1 => rfl)
  case t =>
    refine' ⟨⟨?c0, ?c1, ?c2, ?c3⟩, PySem.W.mg_of KX G.g ?c4, ?n0, ?n1, ?n2, ?n3, ?n4, ?n5⟩
    (case c4 => k_is); (case c0 => k_is); (case c1 => k_is); (case c2 => k_is); (case c3 => k_is)
    (case n0 => show PySem.W.findIn _ _ _ = some none; k_is); (case n1 => show PySem.W.findIn _ _ _ = some none; k_is); (case n2 => show PySem.W.findIn _ _ _ = some none; k_is); (case n3 => show PySem.W.findIn _ _ _ = some none; k_is); (case n4 => show PySem.W.findIn _ _ _ = some none; k_is); (case n5 => show PySem.W.findIn _ _ _ = some none; k_is)
  case iC =>
    refine' ⟨⟨?c0, ?c1, ?c2, ?c3⟩, ?d0, ?d1, ?d2, ?d3, ?d4⟩
    (case c0 => k_is); (case c1 => k_is); (case c2 => k_is); (case c3 => k_is)
    (case d0 => k_is); (case d1 => k_is); (case d2 => k_is); (case d3 => k_is); (case d4 => first | k_is | rfl | kernel_rfl)
  case mk =>
    refine' ⟨?e0, ?e1, ?e2, ?e3⟩
    (case e0 => k_is); (case e1 => k_is); (case e2 => k_is); (case e3 => k_is)
  (case lI => k_is); (case gI => k_is); (case hI => k_is)
  case tc =>
    refine' ⟨⟨?c0, ?c1, ?c2, ?c3⟩, PySem.W.mg_of KX G.g ?c4, ?n0, ?n1, ?n2, ?n3⟩
    (case c4 => k_is); (case c0 => k_is); (case c1 => k_is); (case c2 => k_is); (case c3 => k_is)
    (case n0 => show PySem.W.findIn _ _ _ = some none; k_is); (case n1 => show PySem.W.findIn _ _ _ = some none; k_is); (case n2 => show PySem.W.findIn _ _ _ = some none; k_is); (case n3 => show PySem.W.findIn _ _ _ = some none; k_is)
  case iC2 =>
    refine' ⟨⟨?c0, ?c1, ?c2, ?c3⟩, ?d0, ?d1, ?d2, ?d3, ?d4⟩
    (case c0 => k_is); (case c1 => k_is); (case c2 => k_is); (case c3 => k_is)
    (case d0 => k_is); (case d1 => k_is); (case d2 => k_is); (case d3 => k_is); (case d4 => first | k_is | rfl | kernel_rfl)
  case ci =>
    refine' K1.ci_mk ⟨?e0, ?e1, ?e2, ?e3⟩ ?l ?lT ?c ?k
    (case e0 => k_is); (case e1 => k_is); (case e2 => k_is); (case e3 => k_is)
    (case l => k_is); (case lT => k_is); (case c => k_is); (case k => k_is)
  case kE =>
    refine' K1.kemp_mk ?x0
    (case x0 => k_is)
  case ce =>
    refine' K1.ce_mk ?b ?n ?l ?c ?k ?ne ?ob
    (case b => k_is); (case n => k_is); (case l => k_is); (case c => k_is); (case k => k_is); (case ne => k_is); (case ob => k_is)
  case q0 =>
    refine' K1.atM_mk ?b ?n ?l ?c ?k
    (case b => k_is); (case n => k_is); (case l => k_is); (case c => k_is); (case k => k_is)
  case q1 =>
    refine' K1.atM_mk ?b ?n ?l ?c ?k
    (case b => k_is); (case n => k_is); (case l => k_is); (case c => k_is); (case k => k_is)
  case q2 =>
    refine' K1.atM_mk ?b ?n ?l ?c ?k
    (case b => k_is); (case n => k_is); (case l => k_is); (case c => k_is); (case k => k_is)
  case q3 =>
    refine' K1.atM_mk ?b ?n ?l ?c ?k
    (case b => k_is); (case n => k_is); (case l => k_is); (case c => k_is); (case k => k_is)
  case q4 =>
    refine' K1.atM_mk ?b ?n ?l ?c ?k
    (case b => k_is); (case n => k_is); (case l => k_is); (case c => k_is); (case k => k_is)
  case q5 =>
    refine' K1.atM_mk ?b ?n ?l ?c ?k
    (case b => k_is); (case n => k_is); (case l => k_is); (case c => k_is); (case k => k_is)
  case q6 =>
    refine' K1.atM_mk ?b ?n ?l ?c ?k
    (case b => k_is); (case n => k_is); (case l => k_is); (case c => k_is); (case k => k_is)
  case q7 =>
    refine' K1.atM_mk ?b ?n ?l ?c ?k
    (case b => k_is); (case n => k_is); (case l => k_is); (case c => k_is); (case k => k_is)
  case q8 =>
    refine' K1.atM_mk ?b ?n ?l ?c ?k
    (case b => k_is); (case n => k_is); (case l => k_is); (case c => k_is); (case k => k_is)
  case a0 =>
    refine' K1.at_mk KX G.g ?b ?l ?c ?k
    (case b => k_is); (case l => k_is); (case c => k_is); (case k => k_is)
  case a1 =>
    refine' K1.at_mk KX G.g ?b ?l ?c ?k
    (case b => k_is); (case l => k_is); (case c => k_is); (case k => k_is)
  case a2 =>
    refine' K1.at_mk KX G.g ?b ?l ?c ?k
    (case b => k_is); (case l => k_is); (case c => k_is); (case k => k_is)
  case a3 =>
    refine' K1.at_mk KX G.g ?b ?l ?c ?k
    (case b => k_is); (case l => k_is); (case c => k_is); (case k => k_is)
  case a4 =>
    refine' K1.at_mk KX G.g ?b ?l ?c ?k
    (case b => k_is); (case l => k_is); (case c => k_is); (case k => k_is)
  case a5 =>
    refine' K1.at_mk KX G.g ?b ?l ?c ?k
    (case b => k_is); (case l => k_is); (case c => k_is); (case k => k_is)
  case a6 =>
    refine' K1.at_mk KX G.g ?b ?l ?c ?k
    (case b => k_is); (case l => k_is); (case c => k_is); (case k => k_is)
  case a7 =>
    refine' K1.at_mk KX G.g ?b ?l ?c ?k
    (case b => k_is); (case l => k_is); (case c => k_is); (case k => k_is)
  case a8 =>
    refine' K1.at_mk KX G.g ?b ?l ?c ?k
    (case b => k_is); (case l => k_is); (case c => k_is); (case k => k_is)
  case a9 =>
    refine' K1.at_mk KX G.g ?b ?l ?c ?k
    (case b => k_is); (case l => k_is); (case c => k_is); (case k => k_is)
  case a10 =>
    refine' K1.at_mk KX G.g ?b ?l ?c ?k
    (case b => k_is); (case l => k_is); (case c => k_is); (case k => k_is)
  case a11 =>
    refine' K1.at_mk KX G.g ?b ?l ?c ?k
    (case b => k_is); (case l => k_is); (case c => k_is); (case k => k_is)
  case a12 =>
    refine' K1.at_mk KX G.g ?b ?l ?c ?k
    (case b => k_is); (case l => k_is); (case c => k_is); (case k => k_is)
  case a13 =>
    refine' K1.at_mk KX G.g ?b ?l ?c ?k
    (case b => k_is); (case l => k_is); (case c => k_is); (case k => k_is)
  case a14 =>
    refine' K1.at_mk KX G.g ?b ?l ?c ?k
    (case b => k_is); (case l => k_is); (case c => k_is); (case k => k_is)
  case a15 =>
    refine' K1.at_mk KX G.g ?b ?l ?c ?k
    (case b => k_is); (case l => k_is); (case c => k_is); (case k => k_is)
  case a16 =>
    refine' K1.at_mk KX G.g ?b ?l ?c ?k
    (case b => k_is); (case l => k_is); (case c => k_is); (case k => k_is)
  case a17 =>
    refine' K1.at_mk KX G.g ?b ?l ?c ?k
    (case b => k_is); (case l => k_is); (case c => k_is); (case k => k_is)
  case a18 =>
    refine' K1.at_mk KX G.g ?b ?l ?c ?k
    (case b => k_is); (case l => k_is); (case c => k_is); (case k => k_is)
  case a19 =>
    refine' K1.at_mk KX G.g ?b ?l ?c ?k
    (case b => k_is); (case l => k_is); (case c => k_is); (case k => k_is)
  case a20 =>
    refine' K1.at_mk KX G.g ?b ?l ?c ?k
    (case b => k_is); (case l => k_is); (case c => k_is); (case k => k_is)
  case a21 =>
    refine' K1.at_mk KX G.g ?b ?l ?c ?k
    (case b => k_is); (case l => k_is); (case c => k_is); (case k => k_is)
  case a22 =>
    refine' K1.at_mk KX G.g ?b ?l ?c ?k
    (case b => k_is); (case l => k_is); (case c => k_is); (case k => k_is)
  case a23 =>
    refine' K1.at_mk KX G.g ?b ?l ?c ?k
    (case b => k_is); (case l => k_is); (case c => k_is); (case k => k_is)
  case a24 =>
    refine' K1.at_mk KX G.g ?b ?l ?c ?k
    (case b => k_is); (case l => k_is); (case c => k_is); (case k => k_is)
  case a25 =>
    refine' K1.at_mk KX G.g ?b ?l ?c ?k
    (case b => k_is); (case l => k_is); (case c => k_is); (case k => k_is)
  case a26 =>
    refine' K1.at_mk KX G.g ?b ?l ?c ?k
    (case b => k_is); (case l => k_is); (case c => k_is); (case k => k_is)
  case a27 =>
    refine' K1.at_mk KX G.g ?b ?l ?c ?k
    (case b => k_is); (case l => k_is); (case c => k_is); (case k => k_is)
  case a28 =>
    refine' K1.at_mk KX G.g ?b ?l ?c ?k
    (case b => k_is); (case l => k_is); (case c => k_is); (case k => k_is)
  case a29 =>
    refine' K1.at_mk KX G.g ?b ?l ?c ?k
    (case b => k_is); (case l => k_is); (case c => k_is); (case k => k_is)
  case m0 =>
    refine' K1.atM_mk ?b ?n ?l ?c ?k
    (case b => k_is); (case n => k_is); (case l => k_is); (case c => k_is); (case k => k_is)
  case m1 =>
    refine' K1.atM_mk ?b ?n ?l ?c ?k
    (case b => k_is); (case n => k_is); (case l => k_is); (case c => k_is); (case k => k_is)
  case m2 =>
    refine' K1.atM_mk ?b ?n ?l ?c ?k
    (case b => k_is); (case n => k_is); (case l => k_is); (case c => k_is); (case k => k_is)
  case m3 =>
    refine' K1.atM_mk ?b ?n ?l ?c ?k
    (case b => k_is); (case n => k_is); (case l => k_is); (case c => k_is); (case k => k_is)
  case m4 =>
    refine' K1.atM_mk ?b ?n ?l ?c ?k
    (case b => k_is); (case n => k_is); (case l => k_is); (case c => k_is); (case k => k_is)
  case m5 =>
    refine' K1.atM_mk ?b ?n ?l ?c ?k
    (case b => k_is); (case n => k_is); (case l => k_is); (case c => k_is); (case k => k_is)
  case m6 =>
    refine' K1.atM_mk ?b ?n ?l ?c ?k
    (case b => k_is); (case n => k_is); (case l => k_is); (case c => k_is); (case k => k_is)
  case m7 =>
    refine' K1.atM_mk ?b ?n ?l ?c ?k
    (case b => k_is); (case n => k_is); (case l => k_is); (case c => k_is); (case k => k_is)
  case b0 =>
    refine' K1.atMC_mk ?b ?n ?l ?c ?k
    (case b => k_is); (case n => k_is); (case l => k_is); (case c => k_is); (case k => k_is)
  case b1 =>
    refine' K1.atMC_mk ?b ?n ?l ?c ?k
    (case b => k_is); (case n => k_is); (case l => k_is); (case c => k_is); (case k => k_is)
  case b2 =>
    refine' K1.atMC_mk ?b ?n ?l ?c ?k
    (case b => k_is); (case n => k_is); (case l => k_is); (case c => k_is); (case k => k_is)
  (case aL => k_is); (case lL => k_is); (case cL => k_is); (case kL => k_is)
  (case n0N => first | kernel_rfl | rfl)
  (case h0H => first | kernel_rfl | rfl)
  (case n1N => first | kernel_rfl | rfl)
  (case h1H => first | kernel_rfl | rfl)
  (case n2N => first | kernel_rfl | rfl)
  (case h2H => first | kernel_rfl | rfl)

