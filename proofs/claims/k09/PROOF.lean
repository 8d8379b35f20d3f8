import PyProof.Rows.All
import Wide.All
import OpenK.AllK
import Wide.FinOn
import PySem.Challenge.RW_mailtide_k09_whole_copies_and_moves
import HandS.ForMost
import HandS.Exc
import HandS.TryOnly
import HandS.TryMany
import HandS.Lambda
import HandS.EndTab
import HandS.IsInst
import HandS.SortRule
import HandS.SortInts
import HandS.StrMore
import HandS.Conv
import HandS.Wide
import HandS.Flow
import HandS.Walk
import HandS.TupAny
import HandS.ListEq
import HandS.DeepEq
import KE.KExcSuper
import KE.GoesMore
import PyProof.Draws
import HandS.ForExc
import HandS.Zip
import HandS.Strs
import HandS.SetFor
import HandS.Star
import HandS.SortKw
import HandS.Deep
import KE.DataMinMax
import KE.DatumOrd
import PyProof.P3In
import PyProof.Rows.SetFrom
import HandS.Codes
import HandS.OwnEq
import PyProof.NeKinds
set_option Elab.async false
set_option linter.all false
set_option maxRecDepth 100000
namespace K1
open PySem PySem.Spec PyProof.Rows L2
def topS (i : Nat) : Stmt := PySem.Challenge.pw_mailtide_k09_whole_copies_and_moves.main.body.getD i (.Pass ⟨0, 0, 0, 0⟩)
abbrev st_TideError : Stmt := topS 1
abbrev st_BadFolder : Stmt := topS 2
abbrev st_BadNumber : Stmt := topS 3
abbrev st_BadSigns : Stmt := topS 4
abbrev st_BadDeed : Stmt := topS 5
abbrev st_BadValue : Stmt := topS 6
abbrev st_is_integer : Stmt := topS 10
abbrev st_is_number : Stmt := topS 11
abbrev st_is_body : Stmt := topS 12
abbrev st_is_mark : Stmt := topS 13
abbrev st_is_sign : Stmt := topS 14
abbrev st_is_signs : Stmt := topS 15
abbrev st_is_numbers : Stmt := topS 16
abbrev st_Folder : Stmt := topS 18
abbrev st_copied : Stmt := topS 19
abbrev st_moved : Stmt := topS 20
abbrev st__carried : Stmt := topS 21
abbrev st__check_carried : Stmt := topS 22
abbrev st__check_numbers : Stmt := topS 23
abbrev st__with_sign : Stmt := topS 24
abbrev st__without_sign : Stmt := topS 25
abbrev st_played : Stmt := topS 27
abbrev st_is_deed : Stmt := topS 28
abbrev st_can_be_done : Stmt := topS 29
abbrev st_done : Stmt := topS 30
abbrev st__law_cell_at : Stmt := topS 32
abbrev st__law_well : Stmt := topS 33
abbrev st__law_draw : Stmt := topS 34
abbrev st__law_one : Stmt := topS 35
abbrev st__law_some : Stmt := topS 36
abbrev st__law_deed : Stmt := topS 37
abbrev st__law_due : Stmt := topS 38
abbrev st__law_built : Stmt := topS 39
abbrev st_law : Stmt := topS 40
end K1


set_option Elab.async false
set_option linter.all false
set_option maxRecDepth 100000
set_option maxHeartbeats 4000000
namespace K1
open PySem PySem.Spec PyProof.Rows L2
/-! ### a def by its name -/
structure Def (P : Program) (w : World) (K : PySem.W.Frag) (mg : Str → Option Value) (base : Heap) (CX : CXT) (k : Nat) (x : Str) (ps : List Str) (sp : Sp) : Prop where
  ex : ∃ (f : Addr) (fd : FuncData), mg x = some (.ref f) ∧ PySem.W.keepIn K (.ref f) = true ∧ Binds K fd ps [] ∧ FnOk P w K mg base CX k f fd ps sp
section
variable {X : Cx} {CX : CXT} {k : Nat} {ps : List Str} {sp : Sp} {E : XK} {x : Str} {p pos : Pos} {e : Expr} {es : List Expr} {t : TA}
theorem pe_def (D : Def X.prog X.w X.K X.mg X.base CX k x ps sp) (hr : Room k X.A) (hg : Gl X x) (hx : Passes CX X E)
    (ha : PA X (e :: es) t) (hdb : (x == ("__debug__" : Str)) = false := by decide) (he : starEach (e :: es) X.env = (false, eval e X.env) :: starEach es X.env := by rfl) (hpl : (backTo pos (starEach es X.env)).any (·.1) = false := by rfl) :
    PE X (.Call (.Name x p) (e :: es) [] pos) (tCall sp [] E t) := by
  obtain ⟨f, fd, hm, hk, hb, F⟩ := D.ex
  exact pe_call F hr hg hm hk hb .nil hx ha hdb he hpl
theorem pe_def0 (D : Def X.prog X.w X.K X.mg X.base CX k x ps sp) (hr : Room k X.A) (hg : Gl X x) (hx : Passes CX X E)
    (hdb : (x == ("__debug__" : Str)) = false := by decide) : PE X (.Call (.Name x p) [] [] pos) (tCall sp [] E tNil) := by
  obtain ⟨f, fd, hm, hk, hb, F⟩ := D.ex
  exact pe_call0 F hr hg hm hk hb .nil hx hdb
end
/-! ### heaps: all that is tracked but p stays -/
def Ext (p : Addr) (H H' : Hp) : Prop := ∀ b o, b ≠ p → H b = some o → H' b = some o
theorem Ext.refl {p : Addr} (H : Hp) : Ext p H H := fun _ _ _ h => h
theorem Ext.trans {p : Addr} {H H1 H2 : Hp} (a : Ext p H H1) (b : Ext p H1 H2) : Ext p H H2 := fun c o n h => b c o n (a c o n h)
theorem Ext.self {p : Addr} {H H' : Hp} {o : HO} (a : Ext p H H') : Ext p H (upd H' p o) := fun c u n h => by rw [upd_ne n]; exact a c u n h
theorem Ext.new {p q : Addr} {H H' : Hp} {o : HO} (a : Ext p H H') (h : H' q = none) : Ext p H (upd H' q o) := fun c u n e => by
  have e' := a c u n e
  rw [upd_ne (ne_of_none e' h)]; exact e'
theorem Ext.mut {p q : Addr} {H H' : Hp} {o : HO} (a : Ext p H H') (h : H q = none) : Ext p H (upd H' q o) := fun c u n e => by
  rw [upd_ne (ne_of_none e h)]; exact a c u n e
theorem Ext.free {p q : Addr} {H H' : Hp} (a : Ext p H H') (h : H' q = none) (n : q ≠ p) : H q = none := by
  cases e : H q with
  | none => rfl
  | some o => rw [a q o n e] at h; cases h
theorem same_ext {p : Addr} {H H' : Hp} (a : Same H H') : Ext p H H' := fun b o _ h => a b o h
theorem same_new {q : Addr} {H : Hp} {o : HO} (h : H q = none) : Same H (upd H q o) := fun c u e => by
  rw [upd_ne (ne_of_none e h)]; exact e
theorem _root_.L2.Same.new {q : Addr} {H H' : Hp} {o : HO} (a : Same H H') (h : H' q = none) : Same H (upd H' q o) := a.trans (same_new h)
theorem _root_.L2.Same.mut {q : Addr} {H H' : Hp} {o : HO} (a : Same H H') (h : H q = none) : Same H (upd H' q o) := fun c u e => by
  rw [upd_ne (ne_of_none e h)]; exact a c u e
theorem lt1 (n : Nat) (h : n ≤ 100000) : n ≤ sizeLine := Nat.le_trans h (by decide)
theorem lt2 (n : Nat) (h : n ≤ 100000) : n < sizeLine := Nat.lt_of_le_of_lt h (by decide)
/-- a well: three ints -/
def WellAt (H : Hp) (p : Addr) : Prop := ∃ c m t : Int, H p = some (.lst [.int c, .int m, .int t])
theorem WellAt.new {H : Hp} {p q : Addr} {o : HO} (w : WellAt H p) (h : H q = none) : WellAt (upd H q o) p := by
  obtain ⟨c, m, t, e⟩ := w
  exact ⟨c, m, t, by rw [upd_ne (ne_of_none e h)]; exact e⟩
theorem WellAt.ne {H : Hp} {p q : Addr} (w : WellAt H p) (h : H q = none) : q ≠ p := by
  obtain ⟨c, m, t, e⟩ := w
  exact (ne_of_none e h).symm
theorem WellAt.upd {H : Hp} {p q : Addr} {o : HO} (w : WellAt H p) (h : q ≠ p) : WellAt (upd H q o) p := by
  obtain ⟨c, m, t, e⟩ := w
  exact ⟨c, m, t, by rw [upd_ne h.symm]; exact e⟩
theorem sq {K : PySem.W.Frag} {H : Hp} {a : Addr} {xs : List V} (h : H a = some (.lst xs)) : SqL K H a xs := .inl (.inl h)
theorem st {K : PySem.W.Frag} {H : Hp} {a : Addr} {xs : List V} (h : H a = some (.tup xs)) : SqT K H a xs := .inl (.inl h)
/-- names that the top leaves to the built-ins -/
structure Bi (mg : Str → Option Value) : Prop where
  int : mg "int" = none
  len : mg "len" = none
  str : mg "str" = none
  range : mg "range" = none
  max : mg "max" = none
  min : mg "min" = none
  sorted : mg "sorted" = none
  tuple : mg "tuple" = none
  list : mg "list" = none
  enumerate : mg "enumerate" = none
  isinstance : mg "isinstance" = none
  bool : mg "bool" = none
end K1
namespace K1
open PySem PySem.Spec PyProof.Rows L2
/-- a def of the text stands at its name -/
def At (K : PySem.W.Frag) (mg : Str → Option Value) (x : Str) (st : Stmt) : Prop := ∃ (f : Addr) (fd : FuncData), mg x = some (.ref f) ∧ Fun K x x st f fd
theorem At.def {P : Program} {w : World} {K : PySem.W.Frag} {mg : Str → Option Value} {base : Heap} {CX : CXT} {k : Nat} {x : Str} {ps : List Str} {sp : Sp} {st : Stmt} (a : At K mg x st)
    (hb : ∀ (kV doc pm : Value) (an : Option Addr) (cdv ct : Value) (us : List Value), us.length = ps.length → bindArgs (PySem.W.fnOf x x (defArgs st) (defBody st) (defScope st) .none kV doc pm an cdv ct) ⟨us, []⟩ = pure (ps.zip us))
    (h : ∀ f fd, Fun K x x st f fd → FnOk P w K mg base CX k f fd ps sp) : Def P w K mg base CX k x ps sp := by
  obtain ⟨f, fd, hm, F⟩ := a
  exact ⟨f, fd, hm, F.kp, F.binds hb, h f fd F⟩
end K1
namespace K1
open PySem PySem.Spec PyProof.Rows L2
def G : Int := 999999999999999999999999999999
/-- numbers that are there -/
structure There (ns : List Int) : Prop where
  asc : ns.Pairwise (· < ·)
  rng : ∀ n ∈ ns, 1 ≤ n ∧ n ≤ G
  len : ns.length ≤ 200
theorem getD_map {ns : List Int} {i : Nat} {y : V} (h : (ns.map V.int)[i]? = some y) : ∃ z, ns[i]? = some z ∧ y = .int z := by
  rw [List.getElem?_map] at h
  cases e : ns[i]? with
  | none => rw [e] at h; cases h
  | some z => rw [e] at h; exact ⟨z, rfl, (Option.some.inj h).symm⟩
theorem take_more {α : Type} {l : List α} {i : Nat} {x : α} (h : l[i]? = some x) : l.take (i + 1) = l.take i ++ [x] := by
  rw [List.take_add_one, h]; rfl
theorem lt_of_get {α : Type} {l : List α} {i : Nat} {x : α} (h : l[i]? = some x) : i < l.length := (List.getElem?_eq_some_iff.mp h).1
end K1
namespace K1
open PySem PySem.Spec PyProof.Rows L2
/-- a comprehension without a test -/
theorem tyes {σ : L2.St} {H : Hp} {A B : Hp → Prop} (h : A H) : tYes σ H (fun b H3 => if b = true then A H3 else B H3) := by
  show (if true = true then A H else B H)
  rw [if_pos rfl]
  exact h
/-- a test whose answer is known -/
theorem itbT {c : Bool} {A B : Prop} (hc : c = true) (h : A) : if c = true then A else B := by
  rw [if_pos hc]
  exact h
theorem itbF {c : Bool} {A B : Prop} (hc : c = false) (h : B) : if c = true then A else B := by
  rw [hc, if_neg Bool.false_ne_true]
  exact h
end K1
namespace K1
open PySem PySem.Spec PyProof.Rows L2
/-! ### rules with the written part by its name (for blocks) -/
section
variable {X : Cx} {K : PySem.W.Frag}
theorem call_lenK (h : X.K = K) : CallR X (.builtin "len") (fun xs H Q => ∃ p ys, xs = [.ref p] ∧ (SqL K H p ys ∨ SqT K H p ys) ∧ Q (.int ys.length) H) := by
  subst h; exact call_len_seq
theorem ix_listK (h : X.K = K) : IxR X (rIxL K) := by subst h; exact ix_list
theorem ix_tupK (h : X.K = K) : IxR X (rIxT K) := by subst h; exact ix_tup
theorem op_in_seqK (h : X.K = K) : OpR X (compareOp .In) (rIn K false) := by subst h; exact op_in_seq
theorem op_notIn_seqK (h : X.K = K) : OpR X (compareOp .NotIn) (rIn K true) := by subst h; exact op_notIn_seq
theorem op_eqDK (h : X.K = K) (hu : X.A.units + 64 < cLine) : OpR X (compareOp .Eq) (rEqD K) := by subst h; exact op_eqD hu
theorem op_neDK (h : X.K = K) (hu : X.A.units + 64 < cLine) : OpR X (compareOp .NotEq) (rNeD K) := by subst h; exact op_neD hu
theorem pi_listK {tg l : Expr} {tl : TE} (h : X.K = K) (hl : PE X l tl) : PI X tg l (iList K tl) := by subst h; exact pi_list hl
theorem pi_tupK {tg l : Expr} {tl : TE} (h : X.K = K) (hl : PE X l tl) : PI X tg l (iTup K tl) := by subst h; exact pi_tup hl
theorem call_list_ofK (h : X.K = K) : CallR X (.type "list") (fun xs H Q => ∃ p ys, xs = [.ref p] ∧ (SqL K H p ys ∨ SqT K H p ys) ∧ ∀ l, H l = none → Q (.ref l) (upd H l (.lst ys))) := by
  subst h; exact call_list_of
theorem call_tuple_ofK (h : X.K = K) : CallR X (.type "tuple") (fun xs H Q => ∃ p ys, xs = [.ref p] ∧ ((SqL K H p ys ∧ ∀ l, H l = none → Q (.ref l) (upd H l (.tup ys))) ∨ (SqT K H p ys ∧ Q (.ref p) H))) := by
  subst h; exact call_tuple_of
theorem pe_joinK {o e : Expr} {to te : TE} {apos pos : Pos} (h : X.K = K) (ho : PE X o to) (he : PE X e te) (hs : starEach [e] X.env = [(false, eval e X.env)] := by rfl) (hbase : attributeBase o "join" X.env (eval o X.env) = eval o X.env := by rfl) (hline : (apos.endLine == pos.line) = true := by rfl) :
    PE X (.Call (.Attribute o "join" apos) [e] [] pos) (tM1 (fun x xs H Q => ∃ a p, ∃ ys : List Str, x = .str a ∧ xs = [.ref p] ∧ (SqL K H p (ys.map V.str) ∨ SqT K H p (ys.map V.str)) ∧
      (ys.map (·.length)).sum + ys.length * a.length ≤ 16777216 ∧ Q (.str (Txt.join a ys)) H) to te) := by
  subst h; exact pe_join ho he hs hbase hline
end
end K1
namespace K1
open PySem PySem.Spec PyProof.Rows L2
section
variable {X : Cx} {K : PySem.W.Frag}
theorem cr_minK (h : X.K = K) (hc : X.calm = true) : CallR X (.builtin "min") (rMin K) := by subst h; exact cr_min hc
theorem cr_maxK (h : X.K = K) (hc : X.calm = true) : CallR X (.builtin "max") (rMax K) := by subst h; exact cr_max hc
end
/-! ### data that are compared -/
theorem dp_ints {K : PySem.W.Frag} {H : Hp} : ∀ ns : List Int, DpAll K H (ns.map V.int) (ns.map PyData.int)
  | [] => .nil
  | n :: r => .cons (.int n) (dp_ints r)
theorem dp_list {K : PySem.W.Frag} {H : Hp} {a : Addr} {ns : List Int} (h : SqL K H a (ns.map V.int)) : Dp K H (.ref a) (.list (ns.map PyData.int)) := .lst h (dp_ints ns)
theorem lay_ints : ∀ ns : List Int, PyData.canLayAll0 (ns.map PyData.int) = true
  | [] => by rfl
  | n :: r => by
    show (PyData.canLay0 (.int n) && PyData.canLayAll0 (r.map PyData.int)) = true
    rw [lay_ints r]; rfl
theorem depth_ints : ∀ ns : List Int, PyData.depthAll (ns.map PyData.int) = 0
  | [] => by rfl
  | n :: r => by
    show max (PyData.depth (.int n)) (PyData.depthAll (r.map PyData.int)) = 0
    rw [depth_ints r]; rfl
theorem shaped_ints (ns : List Int) : SeqAt.shaped (.list (ns.map PyData.int)) = true := by
  unfold SeqAt.shaped
  have h1 : PyData.canLay0 (.list (ns.map PyData.int)) = true := lay_ints ns
  have h2 : PyData.depth (.list (ns.map PyData.int)) = 1 := by
    show PyData.depthAll (ns.map PyData.int) + 1 = 1
    rw [depth_ints]
  rw [h1, h2]; rfl
theorem eqv_ints : ∀ xs ys : List Int, PyData.eqv (.list (xs.map PyData.int)) (.list (ys.map PyData.int)) = decide (xs = ys) := by
  have h : ∀ xs ys : List Int, PyData.eqvAll (xs.map PyData.int) (ys.map PyData.int) = decide (xs = ys) := by
    intro xs
    induction xs with
    | nil => intro ys; cases ys <;> simp [PyData.eqvAll]
    | cons x r ih =>
      intro ys
      cases ys with
      | nil => simp [PyData.eqvAll]
      | cons y t =>
        show (PyData.eqv (.int x) (.int y) && PyData.eqvAll (r.map PyData.int) (t.map PyData.int)) = decide (x :: r = y :: t)
        rw [ih, show PyData.eqv (.int x) (.int y) = (x == y) by simp [PyData.eqv]]
        by_cases e : x = y <;> by_cases e2 : r = t <;> simp [e, e2]
  intro xs ys
  show PyData.eqvAll (xs.map PyData.int) (ys.map PyData.int) = _
  exact h xs ys
theorem inV_ints (n : Int) : ∀ ns : List Int, inV (.int n) (ns.map V.int) = decide (n ∈ ns)
  | [] => by simp [inV]
  | m :: r => by
    have ih := inV_ints n r
    unfold inV at ih ⊢
    rw [List.map_cons, List.any_cons, ih]
    by_cases e : m = n
    · subst e; simp [eqV]
    · have e' : ¬ n = m := fun h => e h.symm
      simp [eqV, e, e']
theorem flat_ints : ∀ ns : List Int, (ns.map V.int).all flatV = true
  | [] => rfl
  | m :: r => by rw [List.map_cons, List.all_cons, flat_ints r]; rfl
/-- a list by a filter -/
def FiltBy (ns : List Int) (P : Int → Prop) (rs : List Int) : Prop := ∃ p : Int → Bool, (∀ n ∈ ns, (p n = true ↔ P n)) ∧ rs = ns.filter p
theorem FiltBy.eq {ns rs ts : List Int} {P R : Int → Prop} (h1 : FiltBy ns P rs) (h2 : FiltBy ns R ts) (h : ∀ n ∈ ns, (P n ↔ R n)) : rs = ts := by
  obtain ⟨p, hp, rfl⟩ := h1
  obtain ⟨q, hq, rfl⟩ := h2
  refine List.filter_congr fun n hn => ?_
  have a := hp n hn
  have b := hq n hn
  have c := h n hn
  cases e : p n <;> cases e2 : q n <;> simp_all
end K1


set_option Elab.async false
set_option linter.all false
set_option maxRecDepth 100000
set_option maxHeartbeats 4000000
/-! Own errors below an own error below ValueError, whose __init__ says super().__init__(a text) and then stores its one argument. -/
namespace PySem
namespace Tide
open PySem.W PySem.Calls PyProof.Rows PySem.HandSPX
def iA (fl : Str) (p1 p2 : Pos) : Arguments := { posonlyargs := [], args := [{ arg := "self", annotation := none, pos := p1 }, { arg := fl, annotation := none, pos := p2 }], vararg := none, kwonlyargs := [], kw_defaults := [], kwarg := none, defaults := [] }
def iB (fl tx : Str) (j : Nat) (q1 q2 q3 q4 q5 q6 q7 q8 q9 q10 : Pos) : List Stmt :=
  [.Expr (.Call (.Attribute (.Call (.Name "super" q1) [] [] q2) "__init__" q3) [.Constant (.str tx) j q4] [] q5) q6, .Assign [.Attribute (.Name "self" q7) fl q8] (.Name fl q9) q10]
def iS (fl : Str) : Scope := { kind := .function, names := [(PySem.Str.ofString "self", .local), (fl, .local), (PySem.Str.ofString "__class__", .free), (PySem.Str.ofString "super", .globalImplicit)], isGenerator := false, isCoroutine := false, more := [] }
/-- how the call of super().__init__ is run (shown at the text's own places) -/
def CallIs (tx : Str) (j : Nat) (q1 q2 q3 q4 q5 : Pos) : Prop := ∃ pl : Sem Bool, ∀ env : Env, eval (.Call (.Attribute (.Call (.Name "super" q1) [] [] q2) "__init__" q3) [.Constant (.str tx) j q4] [] q5) env = (do
      let ov ← attributeBase (.Call (.Name "super" q1) [] [] q2) "__init__" env (eval (.Call (.Name "super" q1) [] [] q2) env)
      standAt q3.atName
      let (f, first) ← holding [ov] (getMethod ov "__init__" pl)
      callWith q5 f first (backTo q5 (starEach [.Constant (.str tx) j q4] env)) [])
example : CallIs "no set text" 0 ⟨7, 8, 7, 13⟩ ⟨7, 8, 7, 15⟩ ⟨7, 8, 7, 24⟩ ⟨7, 25, 7, 38⟩ ⟨7, 8, 7, 39⟩ := ⟨_, fun env => by rfl⟩
/-- the fields' names -/
def FlOk (fl : Str) : Prop := ¬ fl = ("self" : Str) ∧ ¬ fl = ("__class__" : Str) ∧ ¬ fl = ("super" : Str) ∧ (fl == ("__debug__" : Str)) = false ∧
  ∀ (qual : Str) (body : List Stmt) (p1 p2 : Pos) (doc pm ct cd : Value) (an : Option Addr) (cc : Addr) (a b : Value), bindArgs (ksFn "__init__" qual (iA fl p1 p2) body (iS fl) .none .none doc pm an cd ct cc) ⟨[a, b], []⟩ = pure [(("self" : Str), a), (fl, b)]
theorem ok_value : FlOk "value" := ⟨by decide +kernel, by decide +kernel, by decide +kernel, by decide +kernel, fun _ _ _ _ _ _ _ _ _ _ _ _ => rfl⟩
theorem ok_at : FlOk "at" := ⟨by decide +kernel, by decide +kernel, by decide +kernel, by decide +kernel, fun _ _ _ _ _ _ _ _ _ _ _ _ => rfl⟩
theorem ok_why : FlOk "why" := ⟨by decide +kernel, by decide +kernel, by decide +kernel, by decide +kernel, fun _ _ _ _ _ _ _ _ _ _ _ _ => rfl⟩
theorem ok_limit : FlOk "limit" := ⟨by decide +kernel, by decide +kernel, by decide +kernel, by decide +kernel, fun _ _ _ _ _ _ _ _ _ _ _ _ => rfl⟩
/-- what the written part says of the class at C, of its __init__ at fI -/
structure TideTxt (prog : Program) (K : Frag) (mg : Str → Option Value) (x : Str) (C fI : Addr) (fl : Str) : Prop where
  gC : mg x = some (.ref C)
  ok : FlOk fl
  cls : ∃ nm q N bs bm sn sub ab col dd k0 k1 k2 k3 k5, K.lookup C = some (excClassObj nm q C N bs bm true sn sub ab col dd k0 k1 k2 k3 k5 "ValueError.__new__") ∧ refsVE bm = true
  sa : findIn K (.ref C) "__setattr__" = some (some (.builtin "object.__setattr__"))
  ga : findIn K (.ref C) "__getattribute__" = some (some (.builtin "BaseException.__getattribute__"))
  gg : findIn K (.ref C) "__getattr__" = some none
  noN : findIn K (.ref C) fl = some none
  iC : findIn K (.ref C) "__init__" = some (some (.ref fI))
  tC : typeIn K (.ref fI) = some (.type "function")
  kC : keepIn K (.ref C) = true
  exC : subIn K (.ref C) (.type "BaseException") = some true
  tyC : typeIn K (.ref C) = some (.type "type")
  hdC : hasDictIn K C = true
  te : exmOne K (.ref C) (.ref C) = some true
  sup : ks_superIn K C C "__init__" = some (some (.builtin "ValueError.__init__"))
  isV : subIn K (.ref C) (.type "ValueError") = some true
  self_ : mroIn K C (.ref C) = some true
  tpa : nsIn K cStatics "thirdparty.any" = some none
  nsu : mg "super" = none
  htop : (prog.main.scope.names.lookup ("super" : Str)).isSome = false
  fn : ∃ (oc : Value) (od : Option Addr) (doc pm ct : Value) (an : Option Addr) (osl : Array (Option Value)) (qual tx : Str) (j : Nat) (p1 p2 q1 q2 q3 q4 q5 q6 q7 q8 q9 q10 : Pos) (cda cc : Addr),
    K.lookup fI = some ⟨oc, od, .func (ksFn "__init__" qual (iA fl p1 p2) (iB fl tx j q1 q2 q3 q4 q5 q6 q7 q8 q9 q10) (iS fl) .none .none doc pm an (.ref cda) ct cc), osl⟩ ∧ codeIn K (.ref cda) qual = true ∧ CallIs tx j q1 q2 q3 q4 q5 ∧
    (∃ ccl cdd vs ccs file tf, K.lookup cda = some ⟨ccl, cdd, .fields vs, ccs⟩ ∧ vs[2]? = some (.str file tf) ∧ ((prog.main.file : Str) == file) = true) ∧ ∃ cl cld csl, K.lookup cc = some ⟨cl, cld, .cell (some (.ref C)), csl⟩
section
variable {fl : Str}
theorem lkT {β : Type} {a b : Str} {v : β} {l : List (Str × β)} (h : (a == b) = true) : List.lookup a ((b, v) :: l) = some v := by
  rw [List.lookup_cons, h]
theorem lkF {β : Type} {a b : Str} {v : β} {l : List (Str × β)} (h : (a == b) = false) : List.lookup a ((b, v) :: l) = List.lookup a l := by
  rw [List.lookup_cons, h]
theorem neB {a b : Str} (h : ¬ a = b) : (a == b) = false := beq_eq_false_iff_ne.mpr h
theorem lk_self : (iS fl).names.lookup ("self" : Str) = some .local := lkT (by decide +kernel)
theorem lk_fl (ok : FlOk fl) : (iS fl).names.lookup fl = some .local := (lkF (neB ok.1)).trans (lkT (beq_self_eq_true _))
theorem lk_cls (ok : FlOk fl) : (iS fl).names.lookup ("__class__" : Str) = some .free := (lkF (by decide +kernel)).trans ((lkF (neB fun h => ok.2.1 h.symm)).trans (lkT (by decide +kernel)))
theorem lk_super (ok : FlOk fl) : (iS fl).names.lookup ("super" : Str) = some .globalImplicit :=
  (lkF (by decide +kernel)).trans ((lkF (neB fun h => ok.2.2.1 h.symm)).trans ((lkF (by decide +kernel)).trans (lkT (by decide +kernel))))
end
theorem one_size (v : Value) : [v].length ≤ sizeLine := by
  rw [sizeLine_eq]
  exact (by decide : 1 ≤ 16777216)
/-- what __init__ leaves of a fresh exception at x -/
structure InitEnd (fl : Str) (h h' : Heap) (x C dx t1 : Addr) (v : Value) : Prop where
  keep : ∀ b o, b ≠ x → h.get? b = some o → h'.get? b = some o
  obj : h'.get? x = some { cls := .ref C, dict := some dx, data := .fields #[.ref t1, .none, .none, .none, .bool false, .none] }
  dbig : h.objs.size ≤ dx
  dne : dx ≠ x
  ns : h'.Ns1 dx (fun y => if y = fl then some v else none)
/-- a made one -/
structure OwnMade (fl : Str) (h h' : Heap) (e C d : Addr) (v : Value) : Prop where
  keep : ∀ b o, h.get? b = some o → h'.get? b = some o
  new : h.objs.size ≤ e
  obj : ∃ oe vs, h'.get? e = some oe ∧ oe.cls = .ref C ∧ oe.dict = some d ∧ oe.data = .fields vs ∧ vs[1]? = some .none
  dbig : h.objs.size ≤ d
  dne : d ≠ e
  ns : h'.Ns1 d (fun y => if y = fl then some v else none)
section
variable {prog : Program} {w : World} {A : Around} {E : Value → Shared → Prop} {R : Result → Shared → Prop} {s : Shared} {K : Frag} {mg mb : Str → Option Value} {C fI : Addr} {fl xn : Str}
theorem ldC {M : Model} {s : Shared} {env : Env} {m : Str → Option Value} {x : Str} {pos : Pos} {v : Value} {Q : Value → Shared → Prop} {A : Around} {E : Value → Shared → Prop} (hn : s.heap.Ns env.locals m) (hv : m x = some v) (h : Q v s)
    (hk : env.scope.kind = .function) (hl : env.kindOf x = some .local) (hd : (x == ("__debug__" : Str)) = false) :
    wpAny M A (eval (.Name x pos) env) Q E s := wpAny_Name (wpAny_loadName_local hk hl hn hv h) hd
/-- the built-in __init__ bound to the object, called -/
theorem call_mw {u e t0 : Addr} {rest : List Value} {Q : Value → Shared → Prop} {nm q : Str} {N : Addr} {bs bm : List Value} {hdct : Bool} {sn : List Str} {sub : List Value} {ab : Bool} {col : Option Bool} {dd : Option Addr} {k0 k1 k2 k3 k5 : Option Value}
    (hC : s.heap.get? C = some (excClassObj nm q C N bs bm hdct sn sub ab col dd k0 k1 k2 k3 k5 "ValueError.__new__")) (he : s.heap.get? e = some (excO C t0)) (hu : s.heap.get? u = some (kxs_mw "ValueError.__init__" e)) (hrest : rest.length ≤ sizeLine)
    (hq : ∀ h', (∀ b o, b ≠ e → s.heap.get? b = some o → h'.get? b = some o) → h'.get? e = some (excO C s.heap.objs.size) → Q .none { s with heap := h' }) :
    wpAny (model prog w) A (call (.ref u) rest) Q E s := by
  have FB := F.excBase_ValueError
  obtain ⟨hh, g, d, tk, os⟩ := s
  refine wpAny_call (codeAny_of_tree ?_)
  show wpAny _ A.in1 (callAny (.ref u) ⟨rest, []⟩) _ _ _
  simp only [callAny]
  refine wpAny_bind (wpAny_load hu ?_)
  simp only [kxs_mw, show (Value.type "method-wrapper" == Value.type "method" || Value.type "method-wrapper" == Value.type "builtin_function_or_method" || Value.type "method-wrapper" == Value.type "method-wrapper") = true by decide, if_true]
  refine KFB.if_so (by decide) ?_
  refine wpAny_bind (check_bound_init FB.toExcCallFacts hC he rfl ?_)
  refine wpAny_bind (wpAny_pure (wpAny_pure ?_))
  refine ⟨plainId_quiet FB.init.plain _, codeAny_builtin FB.initEntry ?_⟩
  exact exc_init_tree (cls := .ref C) (t0 := t0) (dv := none) (c2 := .none) (c3 := .none) (b4 := .bool false) he hrest fun h' k e' _ => hq h' k e'
theorem tide_init (T : TideTxt prog K mg xn C fI fl) {x t0 : Addr} {v : Value} (X : K.In s.heap) (hG : s.heap.Ns mainGlobals mg) (hB : s.heap.Ns builtinsNs mb) (hmb : mb "super" = some (.type "super")) (hlim : s.heap.NoLimit) (hx : s.heap.get? x = some (excO C t0)) (hnx : K.lookup x = none) (hroom : A.depth < recursionLimit)
    (hq : ∀ h' tk dx t1, InitEnd fl s.heap h' x C dx t1 v → R (.ok (.ret .none)) { s with heap := h', toks := tk }) :
    codeAny (model prog w) A (.call (.ref fI) ⟨[.ref x, v], []⟩) R s := by
  obtain ⟨oc, od, doc, pm, ct, an, osl, qual, tx, j, p1, p2, q1, q2, q3, q4, q5, q6, q7, q8, q9, q10, cda, cc, ho, hcd, ⟨pl, hpl⟩, ⟨ccl, cdd, vs, ccs, file, tf, hcda, hvs, hfile⟩, cl, cld, csl, hcell⟩ := T.fn
  obtain ⟨nm, q, N, bs, bm, sn, sub, ab, col, dd, k0, k1, k2, k3, k5, hC, hbm⟩ := T.cls
  obtain ⟨n1, n2, n3, n4, n5⟩ := T.ok
  have hcl : clsIn K C = some { name := nm, bases := bs, mro := .ref C :: bm, ns := N, qualname := q, hasDict := true, slotNames := sn, subclasses := sub, abstract := ab, collection := col, hasDel := false } := by unfold clsIn; rw [hC] <;> rfl
  have e1 : (("self" : Str) == fl) = false := by rw [beq_eq_false_iff_ne]; exact fun h => n1 h.symm
  have e1' : (fl == ("self" : Str)) = false := by rw [beq_eq_false_iff_ne]; exact n1
  have X₀ := X
  refine ks_codeAny_call_defAt (fd := ksFn "__init__" qual (iA fl p1 p2) (iB fl tx j q1 q2 q3 q4 q5 q6 q7 q8 q9 q10) (iS fl) .none .none doc pm an (.ref cda) ct cc) (body := iB fl tx j q1 q2 q3 q4 q5 q6 q7 q8 q9 q10) (binds := [("self", .ref x), (fl, v)]) hroom (X _ _ ho) rfl hlim (codeRec_of X hcd) rfl (BindsTo.of_eq ?_) ?_ ?_ (fun h₁ hns k => ?_) rfl rfl rfl
  · exact n5 _ _ _ _ _ _ _ _ _ _ _ _
  · intro y hy
    have hy : y ∈ [(PySem.Str.ofString "self", NameKind.local), (fl, .local), (PySem.Str.ofString "__class__", .free), (PySem.Str.ofString "super", .globalImplicit)] := hy
    simp only [List.mem_cons, List.not_mem_nil, or_false] at hy
    rcases hy with rfl | rfl | rfl | rfl <;> exact fun h => nomatch h
  · intro y hy
    simp only [List.mem_cons, List.not_mem_nil, or_false] at hy
    rcases hy with rfl | rfl
    · exact lk_self
    · exact lk_fl T.ok
  · have hxL : s.heap.objs.size ≠ x := Nat.ne_of_gt (Heap.lt_size hx)
    have X₁ : K.In h₁ := X.keeps k
    have hx₁ := k _ _ hx
    have I : InstAt h₁ x (excO C t0) C none := ⟨hx₁, rfl, rfl, trivial⟩
    refine ks_wpAt_execs_cons (ks_wpAt_Expr_any (ks_wpAt_MethodCall (ks_wpAt_super_base (f := fI) (cc := cda) (lk_super T.ok) (lk_cls T.ok) (by decide) rfl (X₁ _ _ ho) rfl rfl rfl (X₁ _ _ hcda) rfl hvs hfile T.htop ?_) (hpl _)))
    refine ks_loadName_global rfl (lk_super T.ok) (loadGlobal_builtin (hG.keeps k) T.nsu (hB.keeps k) hmb ⟨rfl, ?_⟩)
    refine wpAny_loadName_free rfl (lk_cls T.ok) rfl ⟨_, X₁ _ _ hcell, rfl⟩ ?_
    refine wpAny_loadName_local (v := .ref x) rfl lk_self hns ?_ ?_
    · exact (lkF (neB fun h => T.ok.1 h.symm)).trans (lkT (by decide +kernel))
    refine ks_wpAny_isType_cls (X₁ _ _ hC) rfl ⟨rfl, ?_⟩
    refine ks_wpAny_call_super (X₁ _ _ hC) rfl I.at_ I.cls (fun c e => by cases e) (looks_mroIn X₁ T.self_) (fun h₂ e₂ k₂ => ?_)
    have X₂ : K.In h₂ := X₁.keeps k₂
    have I₂ : InstAt h₂ x (excO C t0) C none := ⟨k₂ _ _ hx₁, rfl, rfl, trivial⟩
    have hsup : alongIn K "__init__" (((.ref C :: bm).dropWhile (· != .ref C)).drop 1) = some (some (.builtin "ValueError.__init__")) := by
      have h := T.sup
      unfold ks_superIn at h
      rw [hcl] at h
      exact h
    have hxC : x ≠ C := ks_ne X₂ I₂ hcl
    have hI : Looks (model prog w) h₂ (isInstance (.ref x) (.type "ValueError")) true := I₂.type.andThen (looks_subIn X₂ T.isV)
    refine kxs_getMethod kxs_ValueError e₂ (looks_opaque X₂ T.tpa) (l₀ := .ref C :: bm) (fun A Q E s k q => wpAny_bind ((looks_clsIn X₂ hcl) A _ E s k (wpAny_pure q))) rfl X₂ hsup hI hxC (by decide) ?_
    refine kxs_callWith (i := "ValueError.__init__") (x := x) rfl (evalArgs_plain ?_)
    show wpAny _ _ (spliced ((false, eval (.Constant (.str tx) j q4) _) :: backTo q5 (starEach [] _))) _ _ _
    refine Calls.spliced_cons ?_
    refine Calls.Constant_str (Calls.spliced_nil ⟨?_, ?_⟩)
    · exact Heap.get?_push_at rfl rfl
    refine call_mw (C := C) (t0 := t0) (Heap.get?_push_of_some _ (X₂ _ _ hC)) (Heap.get?_push_of_some _ I₂.at_) (Heap.get?_push_at rfl rfl) (one_size _) (fun h₃ k₃ e₃ => ?_)
    -- self.fl = fl
    have keep : ∀ b o, b ≠ x → s.heap.get? b = some o → h₃.get? b = some o := fun b o hb e => k₃ b o hb (Heap.get?_push_of_some _ (k₂ _ _ (k _ _ e)))
    have keep1 : ∀ b o, b ≠ x → h₁.get? b = some o → h₃.get? b = some o := fun b o hb e => k₃ b o hb (Heap.get?_push_of_some _ (k₂ _ _ e))
    have X₃ : K.In h₃ := fun a o e => keep a o (fun z => by rw [z, hnx] at e; cases e) (X a o e)
    have hns₃ : h₃.Ns s.heap.objs.size (fun y => [(("self" : Str), Value.ref x), (fl, v)].reverse.lookup y) := by
      obtain ⟨oL, es, ep, hL, r⟩ := hns
      exact ⟨oL, es, ep, keep1 _ _ hxL hL, r⟩
    show wpAt _ _ _ (execs _ _) _ _ _
    refine wpAt_of_wpAny (wpAny_execs_cons (plainObj_wpAny_Assign_Attribute ?_))
    refine ldC (v := v) hns₃ ?_ (ldC (v := .ref x) hns₃ ?_ ?_ rfl lk_self (by decide)) rfl (lk_fl T.ok) T.ok.2.2.2.1
    · exact lkT (beq_self_eq_true _)
    · exact (lkF (neB fun h => T.ok.1 h.symm)).trans (lkT (by decide +kernel))
    refine set_plain X₃ (ox := excO C _) (od := none) ⟨e₃, rfl, rfl, trivial⟩ T.sa ?_
    refine exc_osa X₃ e₃ hcl (show refsVE (.ref C :: bm) = true from hbm) rfl T.noN (fun h₄ tk₄ dx k₄ dn dne hx₄ hn₄ => ?_)
    show wpAny _ _ (execs _ _) _ _ _
    have z : s.heap.objs.size ≤ h₃.objs.size := by
      exact Nat.le_of_lt hns₃.lt
    refine wpAny_execs_nil (hq h₄ tk₄ dx _ ⟨fun b o hb e => k₄ b o hb (keep b o hb e), hx₄, Nat.le_trans z dn, dne, hn₄⟩)
theorem tide_made (T : TideTxt prog K mg xn C fI fl) {v : Value} (X : K.In s.heap) (hG : s.heap.Ns mainGlobals mg) (hB : s.heap.Ns builtinsNs mb) (hmb : mb "super" = some (.type "super")) (hlim : s.heap.NoLimit) (hroom : A.depth + 1 < recursionLimit)
    (hq : ∀ h' tk e d, OwnMade fl s.heap h' e C d v → R (.ok (.ret (.ref e))) { s with heap := h', toks := tk }) :
    codeAny (model prog w) A (.call (.ref C) ⟨[v], []⟩) R s := by
  obtain ⟨nm, q, N, bs, bm, sn, sub, ab, col, dd, k0, k1, k2, k3, k5, hC, hbm⟩ := T.cls
  obtain ⟨hp, g, dr, tk, os⟩ := s
  have k : ∀ b o, hp.get? b = some o → ((hp.push (kdv_tup [v])).push (excO C hp.objs.size)).get? b = some o := fun b o e => Heap.get?_push_of_some _ (Heap.get?_push_of_some _ e)
  have hget : ((hp.push (kdv_tup [v])).push (excO C hp.objs.size)).get? (hp.objs.size + 1) = some (excO C hp.objs.size) := by heap_get
  have hnx : K.lookup (hp.objs.size + 1) = none := by
    cases e : K.lookup (hp.objs.size + 1) with
    | none => rfl
    | some o =>
      have z : hp.get? (hp.objs.size + 1) = some o := X _ _ e
      exact absurd (Nat.lt_of_succ_lt (Heap.lt_size z)) (Nat.lt_irrefl _)
  refine call_own F.excBase_ValueError (fun X => refsVE_contains X bm hbm) (X _ _ hC) (looks_findIn X T.iC) (fun self => bind_fn X self T.tC) (one_size v) ?_
  refine tide_init (s := ⟨(hp.push (kdv_tup [v])).push (excO C hp.objs.size), g, dr, tk, os⟩) T (X.keeps k) (hG.keeps k) (hB.keeps k) hmb (hlim.keeps k) hget hnx ?_ fun h' tk' dx t1 ⟨k', hx, dn, dne, hns⟩ => ?_
  · show A.depth + 1 < recursionLimit
    exact hroom
  · have old : ∀ b o, hp.get? b = some o → h'.get? b = some o := fun b o e => k' b o (Nat.ne_of_lt (Nat.lt_succ_of_lt (Heap.lt_size e))) (k b o e)
    have z : hp.objs.size + 1 + 1 ≤ dx := by
      first
        | (simpa only [Heap.size_push] using dn)
        | exact dn
        | (have q := dn; rw [Heap.size_push, Heap.size_push] at q; exact q)
    exact ⟨rfl, hq h' tk' (hp.objs.size + 1) dx ⟨old, Nat.le_succ _, ⟨_, _, hx, rfl, rfl, rfl, rfl⟩, Nat.le_trans (Nat.le_trans (Nat.le_succ _) (Nat.le_succ _)) z, dne, hns⟩⟩
end
end Tide
end PySem
namespace L2
open PySem PySem.Spec PyProof.Rows
theorem relO_tide {fl : Str} {v : V} {v' : Value} (r : RelV v v') (f : Str) : RelO (List.lookup f [(fl, v)]) (if f = fl then some v' else none) := by
  by_cases hw : f = fl
  · subst hw
    rw [if_pos rfl]
    have q : List.lookup f [(f, v)] = some v := by simp [List.lookup]
    rw [q]
    exact r
  · rw [if_neg hw]
    have qw : (f == fl) = false := by simpa using hw
    have q2 : List.lookup f [(fl, v)] = none := by simp [List.lookup, qw]
    rw [q2]
    trivial
section
variable {X : Cx} {C fI : Addr} {fl xn : Str}
/-- E(e) -/
def tMkTide (C : Addr) (fl : Str) (ta : TA) : St → Hp → XK → Prop := fun σ H Q => ta σ H fun vs H1 => ∃ v, vs = [v] ∧ ∀ d, H1 d = none → Q (.ref C) (some d) (upd H1 d (.xd [(fl, v)]))
theorem pmk_tide {a : Expr} {ta : TA} {p pos : Pos} {k : Nat} (T : PySem.Tide.TideTxt X.prog X.K X.mg xn C fI fl) (hr : Room k X.A) (ha : PA X [a] ta) (hg : Gl X xn := by rfl) (hdb : (xn == ("__debug__" : Str)) = false := by decide)
    (he : starEach (a :: []) X.env = (false, eval a X.env) :: starEach [] X.env := by rfl) (hpl : (backTo pos (starEach [] X.env)).any (·.1) = false := by rfl) :
    PMk X (.Call (.Name xn p) [a] [] pos) (tMkTide C fl ta) := by
  intro pins s σ H Q I h
  refine wpAny_Call_Name_kw (ld_glob I hg T.gC ?_ hdb)
  refine PySem.W.callWith_K (h₀ := X.base) I.ok.mod.kin T.kC (thn (ha.run pos pins s σ H _ I h) fun us s1 hh => ?_) he hpl
  obtain ⟨vs, H1, I1, r1, v, ev, q1⟩ := hh
  subst ev
  refine ⟨I1.kIn, ?_⟩
  cases r1 with
  | cons rv rn =>
    rename_i v' us'
    cases rn
    show wpAny _ _ (call (.ref C) [v']) _ _ _
    have hlim := I1.nolimit
    have hG := I1.mod.glob.keeps I1.bk
    obtain ⟨mb, hB0, hmb0⟩ := I1.mod.blt
    have hB := hB0.keeps I1.bk
    have hmb : mb "super" = some (.type "super") := (hmb0 _ (by decide +kernel)).trans (by decide +kernel)
    obtain ⟨hp, g, dr, tk, os⟩ := s1
    refine wpAny_call (PySem.Tide.tide_made T I1.kIn hG hB hmb hlim (by have := hr.dp; omega) fun h' tk' e d M => ?_)
    show MkP X pins σ Q (.ref e) ⟨h', g, dr, tk', os⟩
    obtain ⟨oe, fv, hoe, hc, hd, hdat, h1⟩ := M.obj
    have hns := M.ns
    obtain ⟨G', g1, g2⟩ := restrict h' fun b => decide (b ≠ e)
    have gk : ∀ b, b ≠ e → G'.get? b = h'.get? b := fun b hb => g1 b (decide_eq_true hb)
    have ge : G'.get? e = none := g2 e (by simp)
    have old : ∀ b o, hp.get? b = some o → G'.get? b = some o := fun b o q => (gk b (Nat.ne_of_lt (Nat.lt_of_lt_of_le (Heap.lt_size q) M.new))).trans (M.keep b o q)
    have ob : ObjOk X.prog X.w (upd H1 d (.xd [(fl, v)])) G' d (.xd [(fl, v)]) :=
      ⟨_, hns.at (fun o q => (gk d M.dne).trans q), fun f => relO_tide rv f⟩
    have J : Inv X pins σ (upd H1 d (.xd [(fl, v)])) ⟨G', g, dr, tk', os⟩ := I1.laid (t' := tk') old M.dbig ob
    refine ⟨e, oe, fv, ⟨G', g, dr, tk', os⟩, _, .ref C, some d, rfl, J, fun b o q => ?_, ge, hoe, ⟨hc, hd⟩, hdat, h1, ?_, rfl, I1.bare, raises_own T.exC T.tyC, q1 d (I1.hok.fresh M.dbig)⟩
    · by_cases hb : b = e
      · have q' : G'.get? b = some o := q
        rw [hb, ge] at q'; cases q'
      · exact (gk b hb).symm.trans q
    · rw [upd_ne (Ne.symm M.dne)]
      exact I1.hok.fresh M.new
/-- raise E(e) -/
def tRaiseTide (C : Addr) (fl : Str) (W : WX) (ta : TA) : TS := fun _ σ H => tMkTide C fl ta σ H fun cls d H' => W cls d σ H'
theorem ps_raiseTide {a : Expr} {ta : TA} {W : WX} {p pos pos2 : Pos} {k : Nat} (hc : X.calm = true) (T : PySem.Tide.TideTxt X.prog X.K X.mg xn C fI fl) (hr : Room k X.A) (tk : Takes X W) (ha : PA X [a] ta) (hg : Gl X xn := by rfl) (hdb : (xn == ("__debug__" : Str)) = false := by decide)
    (he : starEach (a :: []) X.env = (false, eval a X.env) :: starEach [] X.env := by rfl) (hpl : (backTo pos (starEach [] X.env)).any (·.1) = false := by rfl) :
    PS X (.Raise (some (.Call (.Name xn p) [a] [] pos)) none pos2) (tRaiseTide C fl W ta) := ps_raise hc tk (pmk_tide T hr ha hg hdb he hpl)
/-- e.fl, e the exception that the suite holds (at a; its class cls, its dict d) -/
def tByTide (C : Addr) (fl : Str) (a : Addr) (cls : Value) (d : Option Addr) (te : TE) : TE := fun σ H Q => te σ H fun x H1 => x = .ref a ∧ cls = .ref C ∧ ∃ (dd : Addr) (v : V), d = some dd ∧ H1 dd = some (.xd [(fl, v)]) ∧ Q v H1
theorem pe_byTide {a : Addr} {oe : Obj} {cls : Value} {d : Option Addr} {pn : List (Addr × Obj)} {e : Expr} {te : TE} {pos : Pos} (T : PySem.Tide.TideTxt X.prog X.K X.mg xn C fI fl) (hz : Zc cls d oe) (hf : ∃ vs, oe.data = .fields vs) (he : PE (X.suite a ((a, oe) :: pn)) e te)
    (hb : attributeBase e fl X.env (eval e X.env) = eval e X.env) :
    PE (X.suite a ((a, oe) :: pn)) (.Attribute e fl pos) (tByTide C fl a cls d te) := by
  refine ⟨fun pins s σ H Q I h => ?_⟩
  refine attr_of hb (thn (he.run pins s σ H _ I h) fun u s1 hh => ?_)
  obtain ⟨x, H1, I1, rx, ex, ec, dd, v, ed, ea, q⟩ := hh
  subst ex
  obtain rfl : u = Value.ref a := rx
  subst ec
  subst ed
  obtain ⟨ha, _⟩ := I1.pin (a, oe) (List.mem_append_left _ List.mem_cons_self)
  obtain ⟨vs, hd⟩ := hf
  have hx : ObjOk X.prog X.w H1 s1.heap dd (.xd [(fl, v)]) := I1.hok dd _ ea
  obtain ⟨mA, hns, hr⟩ := hx
  obtain ⟨od, ho, hl⟩ := lookIn_ns hns
  have l : List.lookup fl [(fl, v)] = some v := by simp [List.lookup]
  obtain ⟨u, hu, ru⟩ := RelO.some_of (v := v) (o := mA fl) (by rw [← l]; exact hr fl)
  have J : PySem.W.InstAt s1.heap a oe C (some od) := ⟨ha, hz.1, by unfold PySem.W.notCls; rw [hd] <;> rfl, by rw [hz.2]; exact ho⟩
  exact HandSPX.exc_get I1.kIn J T.ga T.gg T.exC (PySem.W.findObj_own T.hdC T.noN rfl (by rw [hl, hu])) (handed_of ru) ⟨v, H1, I1.tok _, ru, q⟩
end
end L2


set_option Elab.async false
set_option linter.all false
set_option maxRecDepth 100000
set_option maxHeartbeats 4000000
/-! enumerate over a list or a tuple -/
namespace PySem
open Sem (wp)
open AutoSeq1 (wpAny_loadPart')
theorem my_enumerate_newT (l : Addr) (items : Array Value) (n : Nat) (dct : Option Addr) (sl : Array (Option Value)) :
    Meets (Builtin.«enumerate.__new__» ⟨[.type "enumerate", .ref l], []⟩) (fun _ R s => s.heap.get? l = some { cls := .type "tuple", dict := dct, data := .seq items n, slots := sl } ∧
      R (.ok (.ret (.ref (s.heap.push { cls := .type "tuple_iterator", data := .fields #[.ref l, .int 0 0] }).objs.size)))
        { s with heap := (s.heap.push { cls := .type "tuple_iterator", data := .fields #[.ref l, .int 0 0] }).push { cls := .type "enumerate", data := .fields #[.none, .bool false, .ref s.heap.objs.size, rawInt 0, .none, .none] } }) :=
  .of_wp fun prog w A R s h => by
    obtain ⟨hp, g, d, tk, os⟩ := s; obtain ⟨hl, h⟩ := h
    have hsub := sub_enumerate
    have hL : Heap.IsTuple (Shared.heap ⟨hp, g, d, tk, os⟩) l items := ⟨_, hl, rfl, n, rfl⟩
    wp_walk using wpAny_loadPart' hl
    refine wpAny_stack_any fun st => wpAny_pure ?_
    split
    · rename_i c _ _ _ _ _
      cases (c == Value.type "enumerate")
      · wp_walk using wpAny_loadPart' hl, wpAny_pyIter_tuple hL
        exact ⟨_, rfl, h⟩
      · wp_walk using wpAny_loadPart' hl, wpAny_pyIter_tuple hL
        exact ⟨_, rfl, h⟩
    · wp_walk using wpAny_loadPart' hl, wpAny_pyIter_tuple hL
      exact ⟨_, rfl, h⟩
section
variable {prog : Program} {w : World} {A : Around} {E : Value → Shared → Prop} {s : Shared}
theorem my_enumerate_tuple {l : Addr} {items : Array Value} {Q : Value → Shared → Prop} (hL : s.heap.IsTuple l items)
    (h : ∀ h', IsEnum h' (s.heap.objs.size + 1) s.heap.objs.size 0 .none → h'.IsTupleIter s.heap.objs.size l 0 → h'.objs.size = s.heap.objs.size + 2 →
      (∀ b o, s.heap.get? b = some o → h'.get? b = some o) → Q (.ref (s.heap.objs.size + 1)) { s with heap := h' }) :
    wpAny (model prog w) A (call (.type "enumerate") [.ref l]) Q E s := by
  obtain ⟨⟨c, dct, dt, sl⟩, hl, hc, n, hd⟩ := hL
  replace hc : c = .type "tuple" := hc
  replace hd : dt = .seq items n := hd
  subst hc hd
  refine callType_new F.called_enumerate (by decide) (F.typeCall_enumerate_1 _) (F.newCall_enumerate_1 _) (fun obj => F.args_object_init_2 obj _) F.entry_enumerate_new
    (my_enumerate_newT l items n dct sl) ⟨hl, ?_⟩
  have hz : (s.heap.push { cls := .type "tuple_iterator", data := .fields #[.ref l, .int 0 0] }).objs.size = s.heap.objs.size + 1 := Heap.size_push ..
  show _ ∧ _
  rw [hz]
  have he : IsEnum ((s.heap.push { cls := .type "tuple_iterator", data := .fields #[.ref l, .int 0 0] }).push
      { cls := .type "enumerate", data := .fields #[.none, .bool false, .ref s.heap.objs.size, rawInt 0, .none, .none] }) (s.heap.objs.size + 1) s.heap.objs.size 0 .none := by
    have := Heap.get?_push_size (s.heap.push { cls := .type "tuple_iterator", data := .fields #[.ref l, .int 0 0] })
      (o := { cls := .type "enumerate", data := .fields #[.none, .bool false, .ref s.heap.objs.size, rawInt 0, .none, .none] }) rfl
    rw [hz] at this; exact this
  refine ⟨⟨_, he, rfl⟩, h _ he ⟨_, Heap.get?_push_of_some _ (Heap.get?_push_size _ rfl), rfl, rfl⟩ (by rw [Heap.size_push, hz]) fun b o x => Heap.get?_push_of_some _ (Heap.get?_push_of_some _ x)⟩
end
end PySem
namespace L2
open PySem PySem.Spec PyProof.Rows
def IteT (K : PySem.W.Frag) (a : Addr) : It :=
  ⟨fun i H => ∃ (xs : List V) (x : V), SqT K H a xs ∧ xs[i]? = some x, fun i H v H' => ∃ T x, v = .ref T ∧ H T = none ∧ H' = upd H T (.tup [.int (i : Nat), x]) ∧ ∀ xs, SqT K H a xs → xs[i]? = some x, fun i H => ∃ xs : List V, SqT K H a xs ∧ i = xs.length⟩
theorem turn_enumT {P : Program} {w : World} {K : PySem.W.Frag} {elts : List Expr} {kk : Nat} {tpos : Pos} (a e it : Addr) :
    Turn P w K (.Tuple elts kk tpos) (IteT K a) [e, it] e (fun i h => (∃ old, IsEnum h e it ((i : Nat) : Int) old) ∧ h.IsTupleIter it a i ∧ e ≠ it ∧ e ≠ a ∧ it ≠ a) where
  mem := by simp
  obj := fun i h st b hb => by
    obtain ⟨⟨old, he⟩, ⟨o, ho, hc, hd⟩, _⟩ := st
    have e' : b = e ∨ b = it := by simpa using hb
    rcases e' with z | z
    · rw [z]; exact ⟨_, he, fun v q => nomatch q⟩
    · rw [z]; exact ⟨o, ho, fun v q => by rw [hd] at q; cases q⟩
  keep := fun i h h' st k => let ⟨⟨old, he⟩, hi, hne⟩ := st; ⟨⟨old, k e (by simp) _ he⟩, hi.at fun o q => k it (by simp) o q, hne⟩
  item := by
    intro X hP hw hK hc i pins s σ H E I hf st hg
    subst hP hw hK
    obtain ⟨⟨old, he⟩, hit, hne, hea, hia⟩ := st
    obtain ⟨xs, x, hq, hx⟩ := hg
    obtain ⟨its, rv, p, hz⟩ := I.tuple hq
    have p' : s.heap.IsTuple a its.toArray := p
    obtain ⟨u, hu, ru⟩ := rv.get hx
    have hel : e < s.heap.objs.size := Heap.lt_size he
    have hil : it < s.heap.objs.size := by obtain ⟨_, q, _⟩ := hit; exact Heap.lt_size q
    have D := Draws.tuple (prog := X.prog) (w := X.w) (A := X.A.in1) (I.ok.hd hc) it a hia.symm its.toArray
    refine wpAny_pyNext_enum_itemD D he ⟨hit, p'⟩ (by have := (List.getElem?_eq_some_iff.mp hu).1; simpa using this) hne (by simp [hne, hea]) fun x' h' tk hx' ho hit' hT hsz hk => ?_
    have hxu : x' = u := by
      have e1 : its[i]? = some x' := by simpa using hx'
      rw [hu] at e1
      exact (Option.some.inj e1).symm
    subst hxu
    obtain ⟨hit', _⟩ := hit'
    refine ⟨_, rfl, wpAny_letOwnedTupleGo_enum (s := { s with heap := h', toks := tk + 1 }) ho fun h'' he' sb => ?_⟩
    have hT2 : h''.get? s.heap.objs.size = some { cls := .type "tuple", data := .seq #[.int i tk, x'] } := (sb.2 _ (Nat.ne_of_gt hel)).trans hT
    have new : ObjOk X.prog X.w (upd H s.heap.objs.size (.tup [.int (i : Nat), x])) h'' s.heap.objs.size (.tup [.int (i : Nat), x]) :=
      ⟨by show 2 ≤ sizeLine; decide, [.int i tk, x'], .cons ⟨_, rfl⟩ (.cons ru .nil), ⟨_, hT2, rfl, _, rfl⟩⟩
    have I1 : Inv X pins σ (upd H s.heap.objs.size (.tup [.int (i : Nat), x])) { s with heap := h'', toks := tk + 1 } :=
      I.turnedNew (ch := [e, it]) (fun b ob hb q => (sb.2 b (fun z => hb (by simp [z]))).trans (hk b ob (fun z => hb (by simp [z])) (fun z => hb (by simp [z])) q)) hf (Nat.le_refl _) new
    refine ⟨.ref s.heap.objs.size, _, I1, rfl, ⟨_, x, rfl, I.hok.fresh (Nat.le_refl _), rfl, fun ys hy => by rw [I.tuple_inj hy hq]; exact hx⟩, ⟨⟨x', ?_⟩, hit'.at fun o q => (sb.2 it (Ne.symm hne)).trans q, hne, hea, hia⟩, fun b hb => ?_⟩
    · have e1 : ((i + 1 : Nat) : Int) = (i : Int) + 1 := by omega
      rw [e1]; exact he'
    · have hb' : b < s.heap.objs.size := by
        have e' : b = e ∨ b = it := by simpa using hb
        rcases e' with z | z
        · rw [z]; exact hel
        · rw [z]; exact hil
      rw [upd_ne (Nat.ne_of_lt hb')]
      exact (hf b hb).1
  done := by
    intro X hP hw hK hc i pins s σ H E I hf st hg
    subst hP hw hK
    obtain ⟨⟨old, he⟩, hit, hne, hea, hia⟩ := st
    obtain ⟨xs, hq, hx⟩ := hg
    obtain ⟨its, rv, p, hz⟩ := I.tuple hq
    have p' : s.heap.IsTuple a its.toArray := p
    obtain ⟨f0, f1, f2, f3, f4, f5⟩ := hf it (by simp)
    have hl := rv.length
    have D := Draws.tuple (prog := X.prog) (w := X.w) (A := X.A.in1) (I.ok.hd hc) it a hia.symm its.toArray
    have hn : i = its.toArray.size := by rw [hx, hl]; simp
    refine wpAny_pyNext_enum_endD D he ⟨hn ▸ hit, p'⟩ fun h' eb => ⟨rfl, I.turned (t' := s.toks) (fun b o hb q => eb b o hb q) f0 f1 f3 f4 f5⟩
  self := fun A i s Q E st h => let ⟨⟨_, he⟩, _⟩ := st; wpAny_pyIter_enum he h
/-- enumerate(list | tuple) -/
def iEnumS (K : PySem.W.Frag) (ta : TA) : TI := fun σ H R => ta σ H fun vs H1 => ∃ a xs, vs = [.ref a] ∧ ((SqL K H1 a xs ∧ R (Ite K a) H1) ∨ (SqT K H1 a xs ∧ R (IteT K a) H1))
theorem pi_enumS {X : Cx} {e : Expr} {ta : TA} {p pos tpos : Pos} {elts : List Expr} {kk : Nat} (hg : Gl X "enumerate") (hm : X.mg "enumerate" = none) (ha : PA X [e] ta) (hs : starEach [e] X.env = [(false, eval e X.env)] := by rfl) :
    PI X (.Tuple elts kk tpos) (.Call (.Name "enumerate" p) [e] [] pos) (iEnumS X.K ta) := by
  refine ⟨fun pins s σ H R I h => ?_⟩
  refine Call_ (ld_blt I hg hm boot_enumerate (PyProof.Rows.callWith_type1 (thn (ha.run pos pins s σ H _ I h) fun us s1 ⟨vs, H1, I1, r1, q1⟩ => ?_) hs rfl))
  obtain ⟨a, xs, ex, q1⟩ := q1
  subst ex
  cases r1 with
  | cons r rr =>
    cases rr
    cases r
    have fpk : ∀ b ∈ [s1.heap.objs.size + 1, s1.heap.objs.size], FpOk X pins H1 b := fun b hb => by
      have e' : b = s1.heap.objs.size + 1 ∨ b = s1.heap.objs.size := by simpa using hb
      have hle : s1.heap.objs.size ≤ b := by
        rcases e' with z | z
        · rw [z]; exact Nat.le_add_right _ _
        · rw [z]; exact Nat.le_refl _
      exact I1.fpOk hle (I1.hok.fresh hle)
    rcases q1 with ⟨hq, q⟩ | ⟨hq, q⟩
    · obtain ⟨its, rv, p', hz⟩ := I1.list hq
      refine call_enumerate_list p'.isList fun h' he hit hsz hk => wpAny_pyIter_enum he ?_
      have I2 : Inv X pins σ H1 { s1 with heap := h' } := I1.kept (t' := s1.toks) hk
      exact ⟨s1.heap.objs.size + 1, [s1.heap.objs.size + 1, s1.heap.objs.size], _, _, H1, rfl, I2, turn_enum a (s1.heap.objs.size + 1) s1.heap.objs.size, ⟨⟨.none, he⟩, hit, Nat.succ_ne_self _⟩, fpk, q⟩
    · obtain ⟨its, rv, p', hz⟩ := I1.tuple hq
      have hla : a < s1.heap.objs.size := by obtain ⟨o, ho, _⟩ := p'; exact Heap.lt_size ho
      refine my_enumerate_tuple (show s1.heap.IsTuple a its.toArray from p') fun h' he hit hsz hk => wpAny_pyIter_enum he ?_
      have I2 : Inv X pins σ H1 { s1 with heap := h' } := I1.kept (t' := s1.toks) hk
      exact ⟨s1.heap.objs.size + 1, [s1.heap.objs.size + 1, s1.heap.objs.size], _, _, H1, rfl, I2, turn_enumT a (s1.heap.objs.size + 1) s1.heap.objs.size, ⟨⟨.none, he⟩, hit, Nat.succ_ne_self _, Nat.ne_of_gt (Nat.lt_succ_of_lt hla), Nat.ne_of_gt hla⟩, fpk, q⟩
theorem pi_enumSK {X : Cx} {K : PySem.W.Frag} {e : Expr} {ta : TA} {p pos tpos : Pos} {elts : List Expr} {kk : Nat} (h : X.K = K) (hg : Gl X "enumerate") (hm : X.mg "enumerate" = none) (ha : PA X [e] ta) (hs : starEach [e] X.env = [(false, eval e X.env)] := by rfl) :
    PI X (.Tuple elts kk tpos) (.Call (.Name "enumerate" p) [e] [] pos) (iEnumS K ta) := by subst h; exact pi_enumS hg hm ha hs
/-- a for over it: the pair's own tuple is new; Pv by the turn -/
theorem for_enumS {K : PySem.W.Frag} {a : Addr} {xs : List V} {g : TG} {tb : TS} {D : Ends} {σ : St} {H0 H : Hp} (hq : SqL K H0 a xs ∨ SqT K H0 a xs) (Pv : Nat → St → Hp → Prop) (h0 : Pv 0 σ H) (hm : ∀ i σ' H', Pv i σ' H' → ∀ b o, H0 b = some o → H' b = some o)
    (hs : ∀ i x σ H T, xs[i]? = some x → Pv i σ H → H T = none → g (.ref T) σ (upd H T (.tup [.int (i : Nat), x])) fun σ2 H2 => tb { D with nx := Pv (i + 1), ct := Pv (i + 1), bk := D.nx } σ2 H2) (hd : ∀ σ H, Pv xs.length σ H → D.nx σ H) :
    ((SqL K H a xs ∧ ∃ W : Nat → Nat → St → Hp → Prop, (∃ m, W 0 m σ H) ∧ ∀ i m σ H, W i m σ H →
      ((Ite K a).stop i H ∧ D.nx σ H) ∨ ((Ite K a).go i H ∧ ∃ N : St → Hp → Prop, (∀ σ' H', N σ' H' → ∃ m', m' < m ∧ W (i + 1) m' σ' H') ∧ ∀ x H', (Ite K a).yld i H x H' → g x σ H' fun σ2 H2 => tb { D with nx := N, ct := N, bk := D.nx } σ2 H2)) ∨
     (SqT K H a xs ∧ ∃ W : Nat → Nat → St → Hp → Prop, (∃ m, W 0 m σ H) ∧ ∀ i m σ H, W i m σ H →
      ((IteT K a).stop i H ∧ D.nx σ H) ∨ ((IteT K a).go i H ∧ ∃ N : St → Hp → Prop, (∀ σ' H', N σ' H' → ∃ m', m' < m ∧ W (i + 1) m' σ' H') ∧ ∀ x H', (IteT K a).yld i H x H' → g x σ H' fun σ2 H2 => tb { D with nx := N, ct := N, bk := D.nx } σ2 H2))) := by
  have mL : ∀ {i σ' H'}, SqL K H0 a xs → Pv i σ' H' → SqL K H' a xs := fun {i σ' H'} h p => by
    have k := hm i σ' H' p
    rcases h with (h | ⟨o, h⟩) | h
    · exact .inl (.inl (k _ _ h))
    · exact .inl (.inr ⟨o, k _ _ h⟩)
    · exact .inr h
  have mT : ∀ {i σ' H'}, SqT K H0 a xs → Pv i σ' H' → SqT K H' a xs := fun {i σ' H'} h p => by
    have k := hm i σ' H' p
    rcases h with (h | ⟨o, h⟩) | h
    · exact .inl (.inl (k _ _ h))
    · exact .inl (.inr ⟨o, k _ _ h⟩)
    · exact .inr h
  rcases hq with h | h
  · refine .inl ⟨mL h h0, fun i m σ H => m = xs.length - i ∧ i ≤ xs.length ∧ Pv i σ H, ⟨xs.length, by simp, Nat.zero_le _, h0⟩, ?_⟩
    rintro i m σ H ⟨rfl, hi, p⟩
    have q := mL h p
    by_cases hlt : i < xs.length
    · refine .inr ⟨⟨xs, xs[i], q, by simp [hlt]⟩, Pv (i + 1), fun σ' H' p' => ⟨xs.length - (i + 1), by omega, rfl, hlt, p'⟩, fun x H' y => ?_⟩
      obtain ⟨T, z, rfl, nT, rfl, hz⟩ := y
      exact hs i z σ H T (hz xs q) p nT
    · have e : i = xs.length := by omega
      subst e
      exact .inl ⟨⟨xs, q, Nat.le_refl _⟩, hd σ H p⟩
  · refine .inr ⟨mT h h0, fun i m σ H => m = xs.length - i ∧ i ≤ xs.length ∧ Pv i σ H, ⟨xs.length, by simp, Nat.zero_le _, h0⟩, ?_⟩
    rintro i m σ H ⟨rfl, hi, p⟩
    have q := mT h p
    by_cases hlt : i < xs.length
    · refine .inr ⟨⟨xs, xs[i], q, by simp [hlt]⟩, Pv (i + 1), fun σ' H' p' => ⟨xs.length - (i + 1), by omega, rfl, hlt, p'⟩, fun x H' y => ?_⟩
      obtain ⟨T, z, rfl, nT, rfl, hz⟩ := y
      exact hs i z σ H T (hz xs q) p nT
    · have e : i = xs.length := by omega
      subst e
      exact .inl ⟨⟨xs, q, rfl⟩, hd σ H p⟩
end L2


set_option Elab.async false
set_option linter.all false
set_option maxRecDepth 100000
set_option maxHeartbeats 4000000
/-! try with several except clauses, each with a name or without one -/
namespace L2
open PySem PySem.Spec PyProof.Rows
def wManyA (K : PySem.W.Frag) (Wout : WX) (D : Ends) : List (Value × Option Nat × (Addr → Value → Option Addr → TS)) → WX
  | [] => Wout
  | (c, none, ts) :: r => fun cls d σ H => ∃ b, PySem.W.exmOne K cls c = some b ∧ (b = true → ∀ a, H a = none → ts a cls d D σ H) ∧ (b = false → wManyA K Wout D r cls d σ H)
  | (c, some i, ts) :: r => fun cls d σ H => ∃ b, PySem.W.exmOne K cls c = some b ∧ (b = true → i < σ.length → ∀ a, H a = none → ts a cls d { nx := fun σ' H' => D.nx (σ'.set i none) H', rt := D.rt, bk := fun σ' H' => D.bk (σ'.set i none) H', ct := fun σ' H' => D.ct (σ'.set i none) H' } (σ.set i (some (.ref a))) H) ∧
      (b = false → wManyA K Wout D r cls d σ H)
inductive HdsA (X : Cx) : List ExceptHandler → List (Value × Option Nat × (Addr → Value → Option Addr → TS)) → Prop
  | nil : HdsA X [] []
  | plain {x : Str} {c : Value} {ts : Addr → Value → Option Addr → TS} {b₀ : Stmt} {suite : List Stmt} {np pos' : Pos} {hds : List ExceptHandler} {l : List (Value × Option Nat × (Addr → Value → Option Addr → TS))} (hc : Names X x c)
      (hsu : ∀ (a : Addr) (oe : Obj) (cls : Value) (d : Option Addr) (pn : List (Addr × Obj)), Zc cls d oe → (∃ vs, oe.data = .fields vs) → PSs (X.suite a ((a, oe) :: pn)) (b₀ :: suite) (ts a cls d)) (r : HdsA X hds l) :
      HdsA X (.ExceptHandler (some (.Name x np)) none (b₀ :: suite) pos' :: hds) ((c, none, ts) :: l)
  | named {x n : Str} {i : Nat} {c : Value} {ts : Addr → Value → Option Addr → TS} {b₀ : Stmt} {suite : List Stmt} {np pos' : Pos} {hds : List ExceptHandler} {l : List (Value × Option Nat × (Addr → Value → Option Addr → TS))} (hi : X.N[i]? = some n) (hln : X.env.kindOf n = some .local) (hc : Names X x c)
      (hsu : ∀ (a : Addr) (oe : Obj) (cls : Value) (d : Option Addr) (pn : List (Addr × Obj)), Zc cls d oe → (∃ vs, oe.data = .fields vs) → PSs (X.suite a ((a, oe) :: pn)) (b₀ :: suite) (ts a cls d)) (r : HdsA X hds l) :
      HdsA X (.ExceptHandler (some (.Name x np)) (some n) (b₀ :: suite) pos' :: hds) ((c, some i, ts) :: l)
section
variable {X : Cx} {body : List Stmt} {h₀ : ExceptHandler} {hds : List ExceptHandler} {l : List (Value × Option Nat × (Addr → Value → Option Addr → TS))} {pos : Pos} {tb : WX → TS} {Wout : WX}
theorem ps_try_manyA (hs : X.stack = X.env :: X.outer) (hf : X.env.frame = some X.env.locals) (hN : X.N.Nodup) (tk : Takes X Wout)
    (hb : ∀ (W : WX) (pn : List (Addr × Obj)) (xe : Value → Shared → Prop), Takes (X.tr pn xe) W → PassesOwn (model X.prog X.w) X.A X.env xe → PSs (X.tr pn xe) body (tb W))
    (hh : HdsA X (h₀ :: hds) l) : PS X (.Try body (h₀ :: hds) [] [] pos) (fun D σ H => tb (wManyA X.K Wout D l) D σ H) := by
  refine ⟨fun pins s σ H D I h => ?_⟩
  have ok := I.ok
  have hfr : X.A.frames = some (X.env :: X.outer) := by rw [ok.frames, hs]
  refine wpAny_Try_except ?_
  refine wpAny_mono ((hb (wManyA X.K Wout D l) (X.pn ++ pins) (fun e s₁ => wpAny (model X.prog X.w) X.A (noteFrame e X.env) (fun _ s₂ => wpAny (model X.prog X.w) X.A (setFlight e none) (fun _ s₃ =>
    wpAny (model X.prog X.w) X.A (handleBy e X.env (h₀ :: hds)) (SP X pins D) X.xe s₃) X.xe s₂) X.xe s₁) (fun u s' xx => ?_) PassesOwn.looking).run [] s σ H D (I.toTry _) h) (fun f s1 hsp => ?_) (fun e s1 he => he)
  · -- the catch
    obtain ⟨a, B, sI, pins', σ', H', cls, d, rfl, J', nb, up, sky, na, os, ag, w⟩ := xx
    have J : Inv X pins σ' H' sI := J'.ofTry ok
    have sky' : Sky B (X.env :: X.outer) a (Zc cls d) X.env.locals s'.heap := by rw [← hs]; exact sky
    show wpAny (model X.prog X.w) X.A (noteFrame (.ref a) X.env) _ _ _
    refine Sky.land Zc.steady hfr hf sky' fun h3 fl3 up3 => ?_
    have J3 : Inv X pins σ' H' { s' with heap := h3 } := J.landed nb fl3.1 (up.trans up3) os ag
    obtain ⟨oe3, vs3, he3, hz3, hd3⟩ := fl3.there
    have notFr : ∀ {h : Heap} {o : Obj} {vs : Array Value}, h.FunFrames B (X.env :: X.outer) → h.get? a = some o → o.data = .fields vs → a ∉ frs (X.env :: X.outer) := fun {h o vs} ff e dd hm => by
      obtain ⟨_, o', e', hnf⟩ := ff.mem hm
      rw [e] at e'; cases e'
      exact hnf _ dd
    have nfr := notFr fl3.2.2.1 he3 hd3
    have nL : a ≠ X.env.locals := fun z => nfr (List.mem_filterMap.mpr ⟨X.env, List.mem_cons_self, by rw [hf, z]⟩)
    have nF : a ∉ X.fs := fun hm => by
      obtain ⟨e, he, q⟩ := List.mem_filterMap.mp hm
      exact nfr (List.mem_filterMap.mpr ⟨e, List.mem_cons_of_mem _ he, q⟩)
    have S3 := J3.suite he3 hd3 na nL nF
    have LT : PySem.W.Looks (model X.prog X.w) h3 (typeOf (.ref a)) cls := fun A Q E s k q => wpAny_typeOf_ref (k _ _ he3) (by rw [hz3.1]; exact q)
    have test : ∀ {x : Str} {np : Pos} {c : Value} (hc : Names X x c) {Q : Value → Shared → Prop} {E : Value → Shared → Prop}, Q c { s' with heap := h3 } → wpAny (model X.prog X.w) (X.A.mark (some (.ref a))) (eval (.Name x np) X.env) Q E { s' with heap := h3 } := fun {x np c} hc {Q E} q => by
      obtain ⟨hg, hdbg, hm | ⟨hm, hv, hnn⟩⟩ := hc
      · exact ld_glob (X := X.suite a ((a, oe3) :: (X.pn ++ pins))) S3 hg hm q hdbg
      · exact ld_blt (X := X.suite a ((a, oe3) :: (X.pn ++ pins))) S3 hg hm hv q hnn hdbg
    have go : ∀ {hds' : List ExceptHandler} {l' : List (Value × Option Nat × (Addr → Value → Option Addr → TS))}, HdsA X hds' l' → wManyA X.K Wout D l' cls d σ' H' →
        wpAny (model X.prog X.w) X.A (handleBy (.ref a) X.env hds') (SP X pins D) X.xe { s' with heap := h3 } := by
      intro hds' l' hk
      induction hk with
      | nil =>
        intro w
        refine wpAny_handleBy_nil ?_
        obtain ⟨k1, k2, k3, oe, vs, T, oT, ts', he, hz, hd, h1, hr⟩ := id fl3
        unfold PySem.passOn
        refine wpAny_bind (wpAny_field he hd h1 ?_)
        rw [if_neg (show ¬ ((Value.ref T == Value.none) = true) from by simp)]
        have fin : wpAny (model X.prog X.w) X.A (setFlight (.ref a) X.env.frame) (fun _ s4 => wpAny (model X.prog X.w) X.A (throw (.ref a) : Sem Flow) (SP X pins D) X.xe s4) X.xe { s' with heap := h3 } := by
          rw [hf]
          refine HandSPX.setFlight_upZ fl3 fun h4 hh4 up4 => wpAny_throw (tk _ _ ?_)
          exact ⟨a, B, sI, pins, σ', H', cls, d, rfl, J, nb, (up.trans up3).trans up4, .inr (.inr (by rw [hs]; exact hh4)), na, os, ag, w⟩
        first
          | exact wpAny_bind (wpAny_pure (wpAny_bind fin))
          | exact wpAny_bind fin
      | @plain x c ts b₀ suite np pos' hds2 l2 hc hsu r ih =>
        intro w
        obtain ⟨b, hb1, hyes, hno⟩ := w
        refine wpAny_handleBy_cons (codeAny_handlers_test ?_) (by intro q; cases q)
        have LM := PySem.W.exm_one (M := model X.prog X.w) (J3.kIn) LT hb1
        refine test hc (LM.here ?_)
        cases b with
        | true =>
          refine codeAny_handlers_suite ?_
          refine HandSPX.lands_againZ fl3 fun h4 fl4 up4 => ?_
          have J4 : Inv X pins σ' H' { s' with heap := h4 } := J.landed nb fl4.1 ((up.trans up3).trans up4) os ag
          obtain ⟨oe4, vs4, he4, hz4, hd4⟩ := fl4.there
          have S4 := J4.suite he4 hd4 na nL nF
          refine wpAny_mono ((hsu a oe4 cls d (X.pn ++ pins) hz4 ⟨_, hd4⟩).run [] _ _ H' _ S4 (hyes rfl a na)) (fun f s6 hsp => ?_) (fun _ _ z => False.elim z)
          cases f with
          | next =>
            obtain ⟨σ6, H6, S6, q6⟩ := hsp
            exact ⟨_, _, S6.unsuite ok, q6⟩
          | brk =>
            obtain ⟨σ6, H6, S6, q6⟩ := hsp
            exact ⟨_, _, S6.unsuite ok, q6⟩
          | cont =>
            obtain ⟨σ6, H6, S6, q6⟩ := hsp
            exact ⟨_, _, S6.unsuite ok, q6⟩
          | ret u =>
            obtain ⟨v6, σ6, H6, S6, r6, q6⟩ := hsp
            exact ⟨_, _, _, S6.unsuite ok, r6, q6⟩
        | false =>
          show wpAny _ X.A (handleBy (.ref a) X.env hds2) _ _ _
          exact ih (hno rfl)
      | @named x n i c ts b₀ suite np pos' hds2 l2 hi hln hc hsu r ih =>
        intro w
        have hloc : Loc X.env.scope n := .inl hln
        obtain ⟨b, hb1, hyes, hno⟩ := w
        refine wpAny_handleBy_cons (codeAny_handlers_test ?_) (by intro q; cases q)
        have LM := PySem.W.exm_one (M := model X.prog X.w) (J3.kIn) LT hb1
        refine test hc (LM.here ?_)
        cases b with
        | true =>
          refine codeAny_handlers_suite_as ?_
          refine HandSPX.lands_againZ fl3 fun h4 fl4 up4 => ?_
          have J4 : Inv X pins σ' H' { s' with heap := h4 } := J.landed nb fl4.1 ((up.trans up3).trans up4) os ag
          obtain ⟨oe4, vs4, he4, hz4, hd4⟩ := fl4.there
          have S4 := J4.suite he4 hd4 na nL nF
          refine store_ok (X := X.suite a ((a, oe4) :: (X.pn ++ pins))) (v := .ref a) S4 hN hi hloc rfl (fun s5 S5 => ?_) (.inr hln)
          refine wpAny_mono ((hsu a oe4 cls d (X.pn ++ pins) hz4 ⟨_, hd4⟩).run [] s5 _ H' _ S5 (hyes rfl (by rw [J.len]; exact (List.getElem?_eq_some_iff.mp hi).1) a na)) (fun f s6 hsp => ?_) (fun _ _ z => False.elim z)
          have end_ : ∀ {σ6 : St} {H6 : Hp} {Q : Shared → Prop}, Inv (X.suite a ((a, oe4) :: (X.pn ++ pins))) [] σ6 H6 s6 → (∀ s7, Inv X pins (σ6.set i none) H6 s7 → Q s7) →
              wpAny (model X.prog X.w) X.A (do bindName X.env n .none; unbindBehindTheSuite X.env n pos') (fun _ s7 => Q s7) X.xe s6 := fun {σ6 H6 Q} S6 hq => gone_ok (S6.unsuite ok) hN hi hln hq
          cases f with
          | next =>
            obtain ⟨σ6, H6, S6, q6⟩ := hsp
            exact end_ S6 fun s7 J7 => ⟨_, _, J7, q6⟩
          | brk =>
            obtain ⟨σ6, H6, S6, q6⟩ := hsp
            exact end_ S6 fun s7 J7 => ⟨_, _, J7, q6⟩
          | cont =>
            obtain ⟨σ6, H6, S6, q6⟩ := hsp
            exact end_ S6 fun s7 J7 => ⟨_, _, J7, q6⟩
          | ret u =>
            obtain ⟨v6, σ6, H6, S6, r6, q6⟩ := hsp
            exact end_ S6 fun s7 J7 => ⟨_, _, _, J7, r6, q6⟩
        | false =>
          show wpAny _ X.A (handleBy (.ref a) X.env hds2) _ _ _
          exact ih (hno rfl)
    exact go hh w
  · cases f with
    | next =>
      obtain ⟨σ', H', J', q⟩ := hsp
      exact wpAny_execs_nil ⟨σ', H', J'.ofTry ok, q⟩
    | brk =>
      obtain ⟨σ', H', J', q⟩ := hsp
      exact ⟨σ', H', J'.ofTry ok, q⟩
    | cont =>
      obtain ⟨σ', H', J', q⟩ := hsp
      exact ⟨σ', H', J'.ofTry ok, q⟩
    | ret u =>
      obtain ⟨v, σ', H', J', r, q⟩ := hsp
      exact ⟨v, σ', H', J'.ofTry ok, r, q⟩
end
end L2


set_option Elab.async false
set_option linter.all false
set_option maxRecDepth 100000
set_option maxHeartbeats 4000000
namespace K1
open PySem PySem.Spec PyProof.Rows L2 RZ
/-! ### values as data: what stands at a place, found in the call's own objects -/
mutual
inductive Dv (H : Hp) : V → PyData → Prop
  | non : Dv H .non .none
  | bl (b : Bool) : Dv H (.bl b) (.bool b)
  | int (i : Int) : Dv H (.int i) (.int i)
  | str (x : Str) : Dv H (.str x) (.str x)
  | lst {a : Addr} {xs : List V} {ds : List PyData} : H a = some (.lst xs) → DvA H xs ds → Dv H (.ref a) (.list ds)
  | tup {a : Addr} {xs : List V} {ds : List PyData} : H a = some (.tup xs) → DvA H xs ds → Dv H (.ref a) (.tuple ds)
  | dic {a : Addr} : H a = some (.dK []) → Dv H (.ref a) (.dict [])
inductive DvA (H : Hp) : List V → List PyData → Prop
  | nil : DvA H [] []
  | cons {v : V} {vs : List V} {d : PyData} {ds : List PyData} : Dv H v d → DvA H vs ds → DvA H (v :: vs) (d :: ds)
end
mutual
theorem Dv.ext {H H' : Hp} (e : LamX.ExtN H H') : ∀ {v : V} {d : PyData}, Dv H v d → Dv H' v d
  | _, _, .non => .non
  | _, _, .bl b => .bl b
  | _, _, .int i => .int i
  | _, _, .str x => .str x
  | _, _, .lst h a => .lst (e _ _ h fun _ z => by cases z) (DvA.ext e a)
  | _, _, .tup h a => .tup (e _ _ h fun _ z => by cases z) (DvA.ext e a)
  | _, _, .dic h => .dic (e _ _ h fun _ z => by cases z)
theorem DvA.ext {H H' : Hp} (e : LamX.ExtN H H') : ∀ {vs : List V} {ds : List PyData}, DvA H vs ds → DvA H' vs ds
  | _, _, .nil => .nil
  | _, _, .cons h r => .cons (Dv.ext e h) (DvA.ext e r)
end
theorem Dv.same {H H' : Hp} {v : V} {d : PyData} (h : Dv H v d) (s : Same H H') : Dv H' v d := h.ext (LamX.ExtN.of s)
theorem DvA.same {H H' : Hp} {v : List V} {d : List PyData} (h : DvA H v d) (s : Same H H') : DvA H' v d := h.ext (LamX.ExtN.of s)
mutual
def noDic : PyData → Bool
  | .list xs => noDicA xs
  | .tuple xs => noDicA xs
  | .dict _ => false
  | _ => true
def noDicA : List PyData → Bool
  | [] => true
  | x :: r => noDic x && noDicA r
end
mutual
theorem Dv.dp {K : PySem.W.Frag} {H : Hp} : ∀ {v : V} {d : PyData}, Dv H v d → noDic d = true → Dp K H v d
  | _, _, .non, _ => .non
  | _, _, .bl b, _ => .bl b
  | _, _, .int i, _ => .int i
  | _, _, .str x, _ => .str x
  | _, _, .lst h a, n => .lst (sq h) (DvA.dp a n)
  | _, _, .tup h a, n => .tup (st h) (DvA.dp a n)
  | _, _, .dic h, n => by cases n
theorem DvA.dp {K : PySem.W.Frag} {H : Hp} : ∀ {vs : List V} {ds : List PyData}, DvA H vs ds → noDicA ds = true → DpAll K H vs ds
  | _, _, .nil, _ => .nil
  | _, _, .cons h r, n => .cons (Dv.dp h ((Bool.and_eq_true _ _).mp n).1) (DvA.dp r ((Bool.and_eq_true _ _).mp n).2)
end
theorem DvA.len {H : Hp} : ∀ {vs : List V} {ds : List PyData}, DvA H vs ds → vs.length = ds.length
  | _, _, .nil => rfl
  | _, _, .cons _ r => congrArg (· + 1) (DvA.len r)
theorem DvA.get {H : Hp} : ∀ {vs : List V} {ds : List PyData}, DvA H vs ds → ∀ {i : Nat} {v : V}, vs[i]? = some v → ∃ d, ds[i]? = some d ∧ Dv H v d
  | _, _, .nil, i, v, h => by simp at h
  | _, _, .cons hd r, 0, v, h => ⟨_, rfl, by simp at h; exact h ▸ hd⟩
  | _, _, .cons hd r, i + 1, v, h => by simpa using DvA.get r (i := i) (v := v) (by simpa using h)
theorem DvA.app {H : Hp} : ∀ {vs : List V} {ds : List PyData} {us : List V} {es : List PyData}, DvA H vs ds → DvA H us es → DvA H (vs ++ us) (ds ++ es)
  | _, _, _, _, .nil, h => h
  | _, _, _, _, .cons hd r, h => .cons hd (DvA.app r h)
def tyN : PyData → String
  | .none => "NoneType"
  | .bool _ => "bool"
  | .int _ => "int"
  | .str _ => "str"
  | .list _ => "list"
  | .tuple _ => "tuple"
  | .dict _ => "dict"
theorem Dv.ty {K : PySem.W.Frag} {H : Hp} {v : V} {d : PyData} (h : Dv H v d) : TyX K H v (.type (tyN d)) := by
  cases h with
  | non => exact .base .non
  | bl b => exact .base (.bl b)
  | int i => exact .base (.int i)
  | str x => exact .base (.str x)
  | lst e _ => exact .base (.lst e)
  | tup e _ => exact .base (.tup e)
  | dic e => exact .base (.dK e)
/-! ### what the checks say of data -/
def isInt : PyData → Bool | .int _ => true | _ => false
def isNum : PyData → Bool | .int n => decide (1 ≤ n) | _ => false
def isStr : PyData → Bool | .str _ => true | _ => false
def isTup : PyData → Bool | .tuple _ => true | _ => false
def isSeq : PyData → Bool | .tuple _ => true | .list _ => true | _ => false
def itemsD : PyData → List PyData | .list xs => xs | .tuple xs => xs | _ => []
def dI : PyData → Int | .int n => n | _ => 0
def isNums (d : PyData) : Bool := isSeq d && (itemsD d).all isNum
def ascB (ns : List Int) : Bool := ((ns.zip (ns.drop 1)).map fun p => decide (p.1 < p.2)).all id
theorem kit_int (d : PyData) : ∃ b1 b2, kitB (tyN d) "int" = some b1 ∧ kitB (tyN d) "bool" = some b2 ∧ (b1 && !b2) = isInt d := by
  cases d with
  | none => exact ⟨false, false, (show kitB "NoneType" "int" = some false by decide +kernel), (show kitB "NoneType" "bool" = some false by decide +kernel), rfl⟩
  | bool b => exact ⟨true, true, (show kitB "bool" "int" = some true by decide +kernel), (show kitB "bool" "bool" = some true by decide +kernel), rfl⟩
  | int b => exact ⟨true, false, (show kitB "int" "int" = some true by decide +kernel), (show kitB "int" "bool" = some false by decide +kernel), rfl⟩
  | str b => exact ⟨false, false, (show kitB "str" "int" = some false by decide +kernel), (show kitB "str" "bool" = some false by decide +kernel), rfl⟩
  | list b => exact ⟨false, false, (show kitB "list" "int" = some false by decide +kernel), (show kitB "list" "bool" = some false by decide +kernel), rfl⟩
  | tuple b => exact ⟨false, false, (show kitB "tuple" "int" = some false by decide +kernel), (show kitB "tuple" "bool" = some false by decide +kernel), rfl⟩
  | dict b => exact ⟨false, false, (show kitB "dict" "int" = some false by decide +kernel), (show kitB "dict" "bool" = some false by decide +kernel), rfl⟩
theorem kit_str (d : PyData) : kitB (tyN d) "str" = some (isStr d) := by
  cases d with
  | none => exact (show kitB "NoneType" "str" = some false by decide +kernel)
  | bool b => exact (show kitB "bool" "str" = some false by decide +kernel)
  | int b => exact (show kitB "int" "str" = some false by decide +kernel)
  | str b => exact (show kitB "str" "str" = some true by decide +kernel)
  | list b => exact (show kitB "list" "str" = some false by decide +kernel)
  | tuple b => exact (show kitB "tuple" "str" = some false by decide +kernel)
  | dict b => exact (show kitB "dict" "str" = some false by decide +kernel)
theorem kit_tup (d : PyData) : kitB (tyN d) "tuple" = some (isTup d) := by
  cases d with
  | none => exact (show kitB "NoneType" "tuple" = some false by decide +kernel)
  | bool b => exact (show kitB "bool" "tuple" = some false by decide +kernel)
  | int b => exact (show kitB "int" "tuple" = some false by decide +kernel)
  | str b => exact (show kitB "str" "tuple" = some false by decide +kernel)
  | list b => exact (show kitB "list" "tuple" = some false by decide +kernel)
  | tuple b => exact (show kitB "tuple" "tuple" = some true by decide +kernel)
  | dict b => exact (show kitB "dict" "tuple" = some false by decide +kernel)
theorem kit_seq {K : PySem.W.Frag} (d : PyData) : PySem.W.kitAny K (.type (tyN d)) [.type "list", .type "tuple"] = some (isSeq d) := by
  have kt : ∀ {t : String} {b1 b2 : Bool}, kitB t "list" = some b1 → kitB t "tuple" = some b2 → PySem.W.kitAny K (.type t) [.type "list", .type "tuple"] = some (b1 || b2) := fun {t b1 b2} h1 h2 =>
    kitAny_cons (b := b1) (kit_ty h1) (fun e => by subst e; exact kitAny_cons (b := b2) (kit_ty h2) (fun e => by subst e; exact kitAny_nil) fun e => by subst e; rfl) fun e => by subst e; rfl
  cases d with
  | none => exact kt (t := "NoneType") (b1 := false) (b2 := false) (by decide +kernel) (by decide +kernel)
  | bool b => exact kt (t := "bool") (b1 := false) (b2 := false) (by decide +kernel) (by decide +kernel)
  | int b => exact kt (t := "int") (b1 := false) (b2 := false) (by decide +kernel) (by decide +kernel)
  | str b => exact kt (t := "str") (b1 := false) (b2 := false) (by decide +kernel) (by decide +kernel)
  | list b => exact kt (t := "list") (b1 := true) (b2 := false) (by decide +kernel) (by decide +kernel)
  | tuple b => exact kt (t := "tuple") (b1 := false) (b2 := true) (by decide +kernel) (by decide +kernel)
  | dict b => exact kt (t := "dict") (b1 := false) (b2 := false) (by decide +kernel) (by decide +kernel)
/-- a list or a tuple of the call's own -/
def SeqH (H : Hp) (a : Addr) (xs : List V) : Prop := H a = some (.lst xs) ∨ H a = some (.tup xs)
theorem SeqH.same {H H' : Hp} {a : Addr} {xs : List V} (h : SeqH H a xs) (s : Same H H') : SeqH H' a xs := h.imp (s _ _) (s _ _)
theorem SeqH.len {K : PySem.W.Frag} {H : Hp} {a : Addr} {xs : List V} (h : SeqH H a xs) : SqL K H a xs ∨ SqT K H a xs := h.imp sq st
theorem Dv.seq {H : Hp} {v : V} {d : PyData} (h : Dv H v d) (hs : isSeq d = true) : ∃ a xs, v = .ref a ∧ SeqH H a xs ∧ DvA H xs (itemsD d) := by
  cases h with
  | lst e r => exact ⟨_, _, rfl, .inl e, r⟩
  | tup e r => exact ⟨_, _, rfl, .inr e, r⟩
  | _ => cases hs
theorem Dv.tupD {H : Hp} {v : V} {d : PyData} (h : Dv H v d) (hs : isTup d = true) : ∃ a xs, v = .ref a ∧ H a = some (.tup xs) ∧ DvA H xs (itemsD d) ∧ d = .tuple (itemsD d) := by
  cases h with
  | tup e r => exact ⟨_, _, rfl, e, r, rfl⟩
  | _ => cases hs
/-- what a walk over a list or a tuple asks -/
def SeqR (K : PySem.W.Frag) (a : Addr) (H : Hp) (R : It → Hp → Prop) : Prop := ((∃ xs, SqL K H a xs) ∧ R (Itl K a) H) ∨ ((∃ xs, SqT K H a xs) ∧ R (Itt K a) H)
def ZipR (K : PySem.W.Frag) (a b : Addr) (xs ys : List V) (H : Hp) (R : It → Hp → Prop) : Prop := (SqL K H a xs ∧ SqL K H b ys ∧ R (Itz K a b) H) ∨ (SqT K H a xs ∧ SqT K H b ys ∧ R (ItzT K a b) H)
/-- a walk of a list or a tuple of the call's own -/
theorem seq_walk {K : PySem.W.Frag} {H : Hp} {a : Addr} {xs : List V} {R : It → Hp → Prop} (h : SeqH H a xs)
    (k : ∀ (J : It) (Gd : Hp → Prop), Walk J xs.length Gd (YAt xs) → (∀ H', Same H H' → Gd H') → R J H) : SeqR K a H R := by
  rcases h with h | h
  · exact .inl ⟨⟨xs, sq h⟩, k _ _ walk_list fun H' s => sq (s _ _ h)⟩
  · exact .inr ⟨⟨xs, st h⟩, k _ _ walk_tup fun H' s => st (s _ _ h)⟩
theorem walk_zipT {K : PySem.W.Frag} {a b : Addr} {xs ys : List V} {n : Nat} (hn : n = min xs.length ys.length) : Walk (ItzT K a b) n (fun H => SqT K H a xs ∧ SqT K H b ys) (YPair (fun i => xs[i]?) (fun i => ys[i]?)) := by
  subst hn
  refine ⟨fun i _ hi q => ?_, fun _ q => ⟨xs, ys, q.1, q.2, by omega⟩, fun i H v H' _ q y => ?_⟩
  · have h1 : i < xs.length := by omega
    have h2 : i < ys.length := by omega
    exact ⟨xs, ys, xs[i], ys[i], q.1, q.2, by simp [h1], by simp [h2]⟩
  · obtain ⟨T, x, z, h1, h2, h3, h4, h5⟩ := y
    exact ⟨T, x, z, h1, h2, h3, h4 xs q.1, h5 ys q.2⟩
theorem zip_walkL {K : PySem.W.Frag} {H : Hp} {a b : Addr} {xs ys : List V} {R : It → Hp → Prop} (h1 : H a = some (.lst xs)) (h2 : H b = some (.lst ys))
    (k : ∀ (J : It) (Gd : Hp → Prop), Walk J (min xs.length ys.length) Gd (YPair (fun i => xs[i]?) (fun i => ys[i]?)) → (∀ H', Same H H' → Gd H') → R J H) : ZipR K a b xs ys H R :=
  .inl ⟨sq h1, sq h2, k _ _ (walk_zip rfl) fun H' s => ⟨sq (s _ _ h1), sq (s _ _ h2)⟩⟩
theorem zip_walkT {K : PySem.W.Frag} {H : Hp} {a b : Addr} {xs ys : List V} {R : It → Hp → Prop} (h1 : H a = some (.tup xs)) (h2 : H b = some (.tup ys))
    (k : ∀ (J : It) (Gd : Hp → Prop), Walk J (min xs.length ys.length) Gd (YPair (fun i => xs[i]?) (fun i => ys[i]?)) → (∀ H', Same H H' → Gd H') → R J H) : ZipR K a b xs ys H R :=
  .inr ⟨st h1, st h2, k _ _ (walk_zipT rfl) fun H' s => ⟨st (s _ _ h1), st (s _ _ h2)⟩⟩
structure Bj (mg : Str → Option Value) : Prop extends Bi mg where
  all : mg "all" = none
  zip : mg "zip" = none
section
variable {X : Cx} {K : PySem.W.Frag}
theorem sl_seqK (h : X.K = K) : SlR X (fun x lo hi H Q => rSlL K x lo hi H Q ∨ rSlA K x lo hi H Q) := by subst h; exact SlR.or sl_list sl_tupA
theorem call_isiK1 (h : X.K = K) : CallR X (.builtin "isinstance") (rIsi K) := by subst h; exact call_isi
theorem call_isiTK (h : X.K = K) : CallR X (.builtin "isinstance") (rIsiT K) := by subst h; exact call_isiT
theorem cr_allK (h : X.K = K) (hc : X.calm = true) : CallR X (.builtin "all") (rAll K) := by subst h; exact cr_all hc
theorem ix_seqK (h : X.K = K) : IxR X (rIx K) := by subst h; exact ix_seq
theorem pe_const {x : Str} {pos : Pos} {n : Int} (hm : ∃ t, X.mg x = some (.int n t)) (hg : Gl X x) (hd : (x == ("__debug__" : Str)) = false := by decide) : PE X (.Name x pos) (tC (.int n)) := by
  obtain ⟨t, hm⟩ := hm
  exact pe_glob hg hm ⟨t, rfl⟩ hd
/-- a walk over a list or a tuple -/
def iSeq (K : PySem.W.Frag) (tl : TE) : TI := fun σ H R => tl σ H fun x H1 => ∃ a, x = .ref a ∧ SeqR K a H1 R
theorem pi_seqK {tg l : Expr} {tl : TE} (h : X.K = K) (hl : PE X l tl) : PI X tg l (iSeq K tl) := by
  subst h
  refine ⟨fun pins s σ H R I h => ?_⟩
  refine thn (hl.run pins s σ H _ I h) fun v s1 ⟨x, H1, I1, r1, q1⟩ => ?_
  obtain ⟨a, e, q1⟩ := q1
  subst e
  cases r1
  have fr : ∀ b ∈ [s1.heap.objs.size], FpOk X pins H1 b := fun b hb => by
    have e : b = s1.heap.objs.size := by simpa using hb
    subst e
    exact I1.fpOk (Nat.le_refl _) (I1.hok.fresh (Nat.le_refl _))
  rcases q1 with ⟨⟨xs, hq⟩, q⟩ | ⟨⟨xs, hq⟩, q⟩
  · obtain ⟨its, rv, p, hz⟩ := I1.list hq
    refine wpAny_pyIter_list p.isList ?_
    exact ⟨s1.heap.objs.size, [s1.heap.objs.size], _, _, H1, rfl, I1.kept (t' := s1.toks) fun b o e => Heap.get?_push_of_some _ e, turn_list a _, ⟨_, Heap.get?_push_size _ rfl, rfl, rfl⟩, fr, q⟩
  · obtain ⟨its, rv, p, hz⟩ := I1.tuple hq
    refine wpAny_pyIter_tuple (show s1.heap.IsTuple a its.toArray from p) ?_
    exact ⟨s1.heap.objs.size, [s1.heap.objs.size], _, _, H1, rfl, I1.kept (t' := s1.toks) fun b o e => Heap.get?_push_of_some _ e, turn_tuple a _, ⟨_, Heap.get?_push_size _ rfl, rfl, rfl⟩, fr, q⟩
def iZipS (K : PySem.W.Frag) (ta : TA) : TI := fun σ H R => ta σ H fun vs H1 => ∃ a b xs ys, vs = [.ref a, .ref b] ∧ ZipR K a b xs ys H1 R
theorem pi_zipSK {e e2 : Expr} {ta : TA} {p pos tpos : Pos} {elts : List Expr} {kk : Nat} (h : X.K = K) (hg : Gl X "zip") (hm : X.mg "zip" = none) (ha : PA X [e, e2] ta)
    (hs : starEach [e, e2] X.env = (false, eval e X.env) :: starEach [e2] X.env := by rfl) (hpl : (backTo pos (starEach [e2] X.env)).any (·.1) = false := by rfl) :
    PI X (.Tuple elts kk tpos) (.Call (.Name "zip" p) [e, e2] [] pos) (iZipS K ta) := by subst h; exact pi_zipA hg hm ha hs hpl
end
end K1


set_option Elab.async false
set_option linter.all false
set_option maxRecDepth 100000
set_option maxHeartbeats 400000
/-! a lambda with one parameter handed to a def or a method that calls it -/
namespace LamY
open PySem PySem.Spec PyProof.Rows L2 LamX
/-- one parameter xp, no other name of its own: captured ones and globals -/
structure LamS1 (sc scope : Scope) (xp : Str) : Prop where
  kind : scope.kind = .function
  co : scope.isCoroutine = false
  gen : scope.isGenerator = false
  own : ∀ y ∈ scope.names, y.2 ≠ .cell ∧ (y.2 = .local → y.1 = xp)
  par : scope.names.lookup xp = some .local
  free : ∀ y ∈ scope.names, y.2 = .free → sc.names.lookup y.1 = some .cell ∨ sc.names.lookup y.1 = some .free
def lamSB1 (sc scope : Scope) (xp : Str) : Bool :=
  decide (scope.kind = .function) && !scope.isCoroutine && !scope.isGenerator && decide (scope.names.lookup xp = some .local) && scope.names.all fun y => !decide (y.2 = .cell) && (!decide (y.2 = .local) || decide (y.1 = xp)) && (!decide (y.2 = .free) || decide (sc.names.lookup y.1 = some .cell) || decide (sc.names.lookup y.1 = some .free))
theorem lamS1_by {sc scope : Scope} {xp : Str} (h : lamSB1 sc scope xp = true) : LamS1 sc scope xp := by
  unfold lamSB1 at h
  simp only [Bool.and_eq_true, Bool.or_eq_true, Bool.not_eq_true', decide_eq_true_eq, decide_eq_false_iff_not, List.all_eq_true] at h
  obtain ⟨⟨⟨⟨h1, h2⟩, h3⟩, h5⟩, h4⟩ := h
  refine ⟨h1, h2, h3, fun y hy => ⟨(h4 y hy).1.1, fun e => (h4 y hy).1.2.elim (fun z => absurd e z) id⟩, h5, fun y hy e => ?_⟩
  rcases (h4 y hy).2 with (z | z) | z
  · exact absurd e z
  · exact .inl z
  · exact .inr z
theorem LamS1.has {X : Cx} {scope : Scope} {xp : Str} (L : LamS1 X.env.scope scope xp) (ok : X.Ok) : ∀ y ∈ scope.names, y.2 = .free → ∃ c, X.env.cells.lookup y.1 = some c := fun y hy e => by
  rcases L.free y hy e with k | k
  · exact ok.has _ (.inl k)
  · exact ok.has _ (.inr k)
/-- the context of the lambda's body, entered at s from the frames outer; its parameter is the last slot -/
def lamCx1 (X : Cx) (A : Around) (outer : List Env) (s : Shared) (H : Hp) (E : XK) (scope : Scope) (xp : Str) (f c' : Addr) : Cx := { lamCx X A outer s H E scope f c' with N := X.N ++ [xp] }
section
variable {X : Cx} {pins : List (Addr × Obj)} {σ : L2.St} {H HZ : Hp} {s s1 : Shared}
theorem lam_start1 {A : Around} {outer : List Env} {E : XK} {scope : Scope} {xp : Str} {f c' : Addr} {h₁ : Heap} {tk : Nat} {v : V} {u : Value} (I : Inv X pins σ H s) (L : LamS1 X.env.scope scope xp) (hxn : xp ∉ X.N) (rv : RelV v u) (e0 : Env0 X.prog X.w X.K X.mg X.base A outer s1 HZ) (hd : A.handled = none)
    (un : Un (frs X.stack) [] H HZ s.heap s1.heap) (hns : h₁.Ns s1.heap.objs.size fun y => ([(xp, u)] : List (Str × Value)).reverse.lookup y) (kp : ∀ b o, s1.heap.get? b = some o → h₁.get? b = some o) :
    Inv (lamCx1 X A outer s1 HZ E scope xp f c') [] (σ ++ [some v]) HZ { s1 with heap := h₁, toks := tk } := by
  have hfree := L.has I.ok
  have cm : ∀ {y c}, (cloFrom X.env.cells scope.names []).lookup y = some c → X.env.cells.lookup y = some c := fun {y c} e => by
    rcases cloFrom_mem (PySem.mem_of_lookup e) with hm | ⟨h1, h2⟩
    · cases hm
    · obtain ⟨c1, hc⟩ := hfree _ h1 rfl
      have hc : X.env.cells.lookup y = some c1 := hc
      have e2 : c = c1 := by
        rw [h2, hc] <;> rfl
      rw [e2]
      exact hc
  have look : ∀ {y}, scope.names.lookup y = some .free → ∃ c, (cloFrom X.env.cells scope.names []).lookup y = some c := fun {y} hl => by
    have hy : (y, NameKind.free) ∈ scope.names := PySem.mem_of_lookup hl
    exact mem_lookup (cloFrom_has (cells := X.env.cells) (acc := []) hy)
  have cellK : ∀ {c : Addr} {v : Option Value}, H c = none → s.heap.IsCell c v → h₁.IsCell c v := fun {c v} n ⟨o, ho, hd⟩ => by
    obtain ⟨sl, q⟩ := un.any ho n (by simp)
    exact ⟨_, kp _ _ q, hd⟩
  have noA : ∀ b : Addr, b ∉ (lamCx1 X A outer s1 HZ E scope xp f c').ex := fun b z => absurd (show b ∈ ([] : List Addr) from z) (by simp)
  refine ⟨⟨e0.mod, L.kind, rfl, rfl, Nat.le_refl _, fun y z c e1 e2 => I.ok.inj y z c (cm e1) (cm e2), fun y hy => ?_, fun y c z _ => ?_, fun _ => hd, Around.frames_deeper e0.frames, .inr ⟨rfl, rfl⟩, fun b z => absurd z (noA b), e0.bs, e0.bsz, fun b _ _ => noA b,
      fun b z => absurd z (noA b), e0.funs, e0.frf⟩,
    rfl, e0.bare, Un.kept kp, ⟨_, hns, fun i y v' e1 e2 e3 => ?_⟩, fun y c e => ?_, e0.hok.fresh (Nat.le_refl _), fun y c e => ?_, fun q hq => absurd (show q ∈ ([] : List (Addr × Obj)) ++ [] from hq) (by simp), e0.hok.kept kp, ?_⟩
  · have hy : scope.names.lookup y = some .cell ∨ scope.names.lookup y = some .free := hy
    rcases hy with hy | hy
    · exact absurd rfl (L.own _ (PySem.mem_of_lookup hy)).1
    · exact look hy
  · have z : false = true := z
    cases z
  · have e3 : Vis scope y := e3
    have e1 : (X.N ++ [xp])[i]? = some y := e1
    have hlen := I.len
    by_cases hi : i < X.N.length
    · have e1' : X.N[i]? = some y := by rw [List.getElem?_append_left hi] at e1; exact e1
      have e2' : σ[i]? = some (some v') := by rw [List.getElem?_append_left (by omega)] at e2; exact e2
      have hyN : y ∈ X.N := List.mem_of_getElem? e1'
      rcases e3 with k | k | k
      · exact absurd ((L.own _ (PySem.mem_of_lookup k)).2 rfl ▸ hyN) hxn
      · exact absurd rfl (L.own _ (PySem.mem_of_lookup k)).1
      · obtain ⟨m, hn, hl⟩ := I.loc
        have hvis : Vis X.env.scope y := (L.free _ (PySem.mem_of_lookup k) rfl).elim (fun k => .inr (.inl k)) (fun k => .inr (.inr k))
        obtain ⟨w', r, q⟩ := hl i y v' e1' e2' hvis
        obtain ⟨c2, h2⟩ := look k
        refine ⟨w', r, .inr ⟨.inr k, c2, h2, ?_⟩⟩
        have c1 := cm h2
        rcases q with ⟨k', _⟩ | ⟨_, c3, e', z⟩
        · have k' : X.env.scope.names.lookup y = some .local := k'
          rcases L.free _ (PySem.mem_of_lookup k) rfl with k2 | k2 <;> rw [show X.env.scope.names.lookup y = _ from k2] at k' <;> cases k'
        · rw [c1] at e'
          cases e'
          exact cellK (I.freeC y _ c1) z
    · have ei : i = X.N.length := by
        have := (List.getElem?_eq_some_iff.mp e1).1
        rw [List.length_append] at this
        have h1 : i < X.N.length + 1 := this
        omega
      subst ei
      have ey : xp = y := by
        rw [List.getElem?_append_right (Nat.le_refl _), Nat.sub_self] at e1
        exact Option.some.inj e1
      have ev : v = v' := by
        rw [List.getElem?_append_right (by omega), hlen, Nat.sub_self] at e2
        exact Option.some.inj (Option.some.inj e2)
      subst ey ev
      refine ⟨u, rv, .inl ⟨L.par, ?_⟩⟩
      show ([(xp, u)] : List (Str × Value)).reverse.lookup xp = some u
      simp [List.lookup]
  · obtain ⟨w', z⟩ := I.cell y c (cm e)
    exact ⟨w', cellK (I.freeC y c (cm e)) z⟩
  · obtain ⟨v, o, ho, hd⟩ := I.cell y c (cm e)
    exact un.free c o ho (I.freeC y c (cm e)) (by simp)
  · show (σ ++ [some v]).length = (X.N ++ [xp]).length
    rw [List.length_append, List.length_append, I.len]; rfl
/-- x(e), in the def that got the lambda, entered at s -/
theorem pe_act1 {Ng : List Str} {qg : Str} {sg : Scope} {g f c' : Addr} {cdg pm ctv : Value} {params : Arguments} {body : Expr} {scope : Scope} {xp : Str} {k i : Nat} {a : Str} {tb te : TE} {p1 p2 : Pos} {e : Expr}
    (I : Inv X pins σ H s) (L : LamS1 X.env.scope scope xp) (hxn : xp ∉ X.N) (hf : s.heap.get? f = some (PySem.W.kla_obj "<lambda>" (X.env.qual ++ "<lambda>") params body scope (cloFrom X.env.cells scope.names []) pm c' ctv)) (hfn : H f = none) (hfr : f ∉ frs X.stack)
    (hbind : ∀ u, bindArgs (PySem.W.kla_fn "<lambda>" (X.env.qual ++ "<lambda>") params body scope (cloFrom X.env.cells scope.names []) pm (.ref c') ctv) ⟨[u], []⟩ = pure [(xp, u)])
    (hr : Room (k + 1) (X.A.deeper (envOfC qg sg s.heap.objs.size g cdg)))
    (hbody : ∀ (A : Around) (outer : List Env) (s : Shared) (H : Hp), Room k (A.deeper (lamEnv X scope s.heap.objs.size f c')) → PE (lamCx1 X A outer s H C8.E0 scope xp f c') body tb)
    (hN : Ng[i]? = some a) (hv : Vis sg a) (he : PE (cxOf C8.CX0 X.prog X.w X.K X.mg X.base Ng qg sg g cdg X.A X.stack s H C8.E0).nox e te)
    (hd : (a == ("__debug__" : Str)) = false := by decide) (hcd : (a == ("__classdict__" : Str)) = false := by decide)
    (hst : starEach [e] (envOfC qg sg s.heap.objs.size g cdg) = [(false, eval e (envOfC qg sg s.heap.objs.size g cdg))] := by rfl) :
    PE (cxOf C8.CX0 X.prog X.w X.K X.mg X.base Ng qg sg g cdg X.A X.stack s H C8.E0).nox (.Call (.Name a p1) [e] [] p2)
      (fun σZ HZ Q => σZ[i]? = some (some (.ref f)) ∧ te σZ HZ fun v H2 => H2 c' = some (CodeO c' (X.env.qual ++ "<lambda>")) ∧ tb (σ ++ [some v]) H2 Q) := by
  refine ⟨fun pinsZ sZ σZ HZ Q IZ h => ?_⟩
  obtain ⟨hs, ht⟩ := h
  refine wpAny_Call_Name_kw (thn ((pe_var (pos := p1) (i := i) hN hv hd hcd).run pinsZ sZ σZ HZ (fun v H1 => v = .ref f ∧ H1 = HZ) IZ ⟨.ref f, hs, rfl, rfl⟩) fun u s1 ⟨v, H1, I1, r1, q1⟩ => ?_)
  obtain ⟨ev, eH⟩ := q1
  subst ev
  rw [eH] at I1
  obtain rfl : u = Value.ref f := r1
  have there : ∀ {H2 : Hp} {s2 : Shared}, Inv (cxOf C8.CX0 X.prog X.w X.K X.mg X.base Ng qg sg g cdg X.A X.stack s H C8.E0).nox pinsZ σZ H2 s2 → s2.heap.get? f = some (PySem.W.kla_obj "<lambda>" (X.env.qual ++ "<lambda>") params body scope (cloFrom X.env.cells scope.names []) pm c' ctv) := fun I2 => I2.base.keep f _ hf hfn hfr (fun z => nomatch (show f ∈ ([] : List Addr) from z))
  have ht' : tCons te tNil σZ HZ (fun vs H2 => match vs with | [v] => H2 c' = some (CodeO c' (X.env.qual ++ "<lambda>")) ∧ tb (σ ++ [some v]) H2 Q | _ => False) := ht
  refine PySem.W.callWith_F (e := e) (rest := []) ⟨_, _, _, _, there I1⟩ (thn ((pa_cons he pa_nil (hs := hst)).run p2 pinsZ s1 σZ HZ _ I1 ht') fun us s2 ⟨vs, H2, I2, r2, q2⟩ => ⟨⟨_, _, _, _, there I2⟩, ?_⟩) hst (by rfl)
  cases r2 with
  | nil => exact False.elim q2
  | cons rv rn =>
  cases rn with
  | cons _ _ => exact False.elim q2
  | nil =>
    rename_i v u2 hAP
    obtain ⟨hc, ht2⟩ := q2
    have of1 := there I2
    have un : Un (frs X.stack) [] H H2 s.heap s2.heap := I2.base
    obtain ⟨⟨oc, vs', t, hoc, hdc, hvc⟩, _, _⟩ := I2.hok c' _ hc
    have rc : codeAny (model X.prog X.w) (X.A.deeper (envOfC qg sg s.heap.objs.size g cdg)) (.call (.ref f) ⟨[u2], []⟩) (CR (L2.CX X.prog X.w) (envOfC qg sg s.heap.objs.size g cdg :: X.stack) X.prog X.w H2 s2 Q C8.E0) s2 := by
      refine PySem.W.kla_callFunE hr.depth of1 rfl L.co L.gen rfl ⟨c', oc, vs', t, rfl, hoc, hdc, hvc⟩ ?_
      rw [hbind]
      refine wpAny_pure (wpAny_newFunctionEnv (fun y hy => (L.own y hy).1) (fun y hy => ?_) (fun h₁ hns hsb => ⟨I2.nolimit.fresh _ hsb, ?_⟩) L.kind)
      · rw [List.mem_singleton.mp hy]; exact L.par
      show codeAny _ _ (.expr body (lamEnv X scope s2.heap.objs.size f c')) _ _
      have kp : ∀ b o, s2.heap.get? b = some o → h₁.get? b = some o := fun b o e => hsb.extBut b o (Nat.ne_of_lt (Heap.lt_size e)) (Heap.get?_push_of_some _ e)
      have J : L2.Inv (lamCx1 X (X.A.deeper (envOfC qg sg s.heap.objs.size g cdg)) (envOfC qg sg s.heap.objs.size g cdg :: X.stack) s2 H2 C8.E0 scope xp f c') [] (σ ++ [some v]) H2 { s2 with heap := h₁, toks := s2.toks + ([(xp, u2)] : List (Str × Value)).length } :=
        lam_start1 I L hxn rv I2.env0 hr.hd un hns kp
      refine PySem.W.kla_codeExpr (wpAny_mono ((hbody _ _ s2 H2 (hr.deeper _)).run [] _ _ H2 Q J ht2) (fun v s' hq => ?_) fun e s' hq => hq)
      obtain ⟨w', H', J', rv, q⟩ := hq
      exact ⟨w', H', J'.os, J'.bare, J'.base, J'.hok, rv, q⟩
    refine wpAny_call (codeAny_mono rc fun r s' hq => ?_)
    cases r with
    | error e =>
      obtain ⟨_, _, _, _, _, _, _, _, _, _, _, _, z⟩ := hq
      exact z.elim
    | ok fl =>
      cases fl with
      | ret u => exact I2.after hq
      | next => exact False.elim hq
      | brk => exact False.elim hq
      | cont => exact False.elim hq
end
/-- the method that calls what it got as its last argument: TT, what it makes of the lambda's reading -/
def GivesM (kk : Nat) (X : Cx) (Ng : List Str) (qg : Str) (sg : Scope) (g : Addr) (cdg : Value) (bg : List Stmt) (i : Nat) (a : Str) (q : Str) (TT : V → V → (V → Hp → VK → Prop) → Hp → VK → Prop) : Prop :=
  ∀ (f c' : Addr) (s : Shared) (H : Hp) (Q : VK) (x y : V) (tl : V → Hp → VK → Prop), Room kk (X.A.deeper (envOfC qg sg s.heap.objs.size g cdg)) →
    (∀ (e : Expr) (te : TE) (p1 p2 : Pos), PE (cxOf C8.CX0 X.prog X.w X.K X.mg X.base Ng qg sg g cdg X.A X.stack s H C8.E0).nox e te → starEach [e] (envOfC qg sg s.heap.objs.size g cdg) = [(false, eval e (envOfC qg sg s.heap.objs.size g cdg))] →
      PE (cxOf C8.CX0 X.prog X.w X.K X.mg X.base Ng qg sg g cdg X.A X.stack s H C8.E0).nox (.Call (.Name a p1) [e] [] p2) (fun σZ HZ Q => σZ[i]? = some (some (.ref f)) ∧ te σZ HZ fun v H2 => H2 c' = some (CodeO c' q) ∧ tl v H2 Q)) →
    H c' = some (CodeO c' q) → TT x y tl H Q →
    ∃ t, PSs (cxOf C8.CX0 X.prog X.w X.K X.mg X.base Ng qg sg g cdg X.A X.stack s H C8.E0).nox bg t ∧ t { nx := fun _ H' => Q .non H', rt := Q } (L2.start Ng [x, y, .ref f]) H
def tMethLam (T : List (Addr × Str)) (C : Addr) (m : Str) (TT : V → V → (V → Hp → VK → Prop) → Hp → VK → Prop) (ta te tb : TE) : TE := fun σ H Q => ta σ H fun x H1 => ∃ a dx fs, x = .ref a ∧ H1 a = some (.ins C dx fs) ∧ fs.lookup m = none ∧
  te σ H1 fun y H2 => Tabs T H2 ∧ ∀ H3, ExtN H2 H3 → Tabs T H3 → TT x y (fun v H' Q' => tb (σ ++ [some v]) H' Q') H3 Q
section
variable {X : Cx}
/-- o.m(e, lambda xp: body) -/
theorem pe_methlam {T : List (Addr × Str)} {TT : V → V → (V → Hp → VK → Prop) → Hp → VK → Prop} {C g c P : Addr} {m xp a1 a2 a : Str} {k : Nat} {qg : Str} {pg : Arguments} {bg : List Stmt} {sg : Scope} {dV kV doc pm cdv ct oc : Value} {an od : Option Addr} {osl : Array (Option Value)} {Ng : List Str}
    {o e : Expr} {params : Arguments} {body : Expr} {scope : Scope} {ta te tb : TE} {apos lpos pos : Pos} {pl : Sem Bool} (ho : PE X o ta) (cC : Cls X.K C) (hm : Meth X.K C m g) (he : PE X e te)
    (lk : X.K.lookup g = some ⟨oc, od, .func (PySem.W.fnOf m qg pg bg sg dV kV doc pm an cdv ct), osl⟩) (hcg : PySem.W.codeIn X.K cdv qg = true) (hb : L2.Binds X.K (PySem.W.fnOf m qg pg bg sg dV kV doc pm an cdv ct) [a1, a2, a] []) (Sg : FnScope Ng [a1, a2, a] sg) (hNg : Ng[2]? = some a) (hva : Vis sg a)
    (hG : GivesM (k + 1) X Ng qg sg g cdv bg 2 a (X.env.qual ++ "<lambda>") TT)
    (TB : TabB X.base X.mg c P) (hcode : X.env.code = .ref c) (hmT : (P, X.env.qual ++ "<lambda>") ∈ T) (hu : ∀ p ∈ T, p.1 = P → p.2 = X.env.qual ++ "<lambda>") (hr : Room (k + 2) X.A) (L : LamS1 X.env.scope scope xp) (hxn : xp ∉ X.N) (hdef : defaultsOf params X.env = ([], []))
    (hbind : ∀ (q : Str) (cl : List (Str × Addr)) (pm cv ctv u : Value), bindArgs (PySem.W.kla_fn "<lambda>" q params body scope cl pm cv ctv) ⟨[u], []⟩ = pure [(xp, u)])
    (hbody : ∀ (A : Around) (outer : List Env) (s : Shared) (H : Hp) (f c' : Addr), Room k (A.deeper (lamEnv X scope s.heap.objs.size f c')) → PE (lamCx1 X A outer s H C8.E0 scope xp f c') body tb)
    (hd : (a == ("__debug__" : Str)) = false := by decide) (hcd : (a == ("__classdict__" : Str)) = false := by decide)
    (hst : starEach [e, .Lambda params body scope lpos] X.env = (false, eval e X.env) :: starEach [.Lambda params body scope lpos] X.env := by rfl) (hpl : (backTo pos (starEach [.Lambda params body scope lpos] X.env)).any (·.1) = false := by rfl)
    (ht : eval (.Call (.Attribute o m apos) [e, .Lambda params body scope lpos] [] pos) X.env = (do
      let ov ← eval o X.env
      standAt apos.atName
      let (f, first) ← holding [ov] (getMethod ov m pl)
      callWith pos f first (backTo pos (starEach [e, .Lambda params body scope lpos] X.env)) (backToKw pos (keywordEach [] X.env))) := by rfl) :
    PE X (.Call (.Attribute o m apos) [e, .Lambda params body scope lpos] [] pos) (tMethLam T C m TT ta te tb) := by
  refine ⟨fun pins s σ H Q I h => ?_⟩
  refine PySem.W.methodCall_KW (pl := pl) (thn (ho.run pins s σ H _ I h) fun u s1 ⟨x, H1, I1, rx, a0, dx, fs, ex, ea, l, q⟩ => ?_) ht
  subst ex
  obtain rfl : u = Value.ref a0 := rx
  refine getmeth_ok I1 ea cC hm l ?_
  refine PySem.W.callWith_K (first := [.ref a0]) (h₀ := X.base) I.ok.mod.kin hm.kp ?_ hst hpl
  rw [hst]
  refine Calls.spliced_cons (thn (he.run pins s1 σ H1 _ I1 q) fun u2 s2 ⟨y, H2, I2, ry, hT, q2⟩ => ?_)
  show wpAny _ _ (spliced ((false, eval (.Lambda params body scope lpos) X.env) :: backTo pos (starEach [] X.env))) _ _ s2
  refine Calls.spliced_cons (lam_make2 I2 TB hcode hmT hu hT hdef (L.has I.ok) fun f c' pm' ctv H3 s' I3 eN T1 hf hfn hfr hco => ?_)
  refine Calls.spliced_nil ⟨I3.kIn, ?_⟩
  have rc : codeAny (model X.prog X.w) X.A (.call (.ref g) ⟨[.ref a0, u2, .ref f], []⟩) (CR C8.CX0 X.stack X.prog X.w H3 s' Q C8.E0) s' := by
    refine run_ofS (N := Ng) (ps := [a1, a2, a]) (us := [.ref a0, u2, .ref f]) (vs := [.ref a0, y, .ref f]) lk hcg Sg hr I3.env0 (hb s' [.ref a0, u2, .ref f] I3.kIn rfl) (.cons rfl (.cons ry (.cons rfl .nil))) rfl fun hr' => ?_
    obtain ⟨t', ht', hq'⟩ := hG f c' s' H3 Q (.ref a0) y (fun v H' Q' => tb (σ ++ [some v]) H' Q') hr' (fun e te p1 p2 he' hst' => pe_act1 (i := 2) I3 L hxn hf hfn hfr (fun u => hbind _ _ _ _ _ u) hr' (fun A outer s H hr2 => hbody A outer s H f c' hr2) hNg hva he' hd hcd hst') hco (q2 H3 eN T1)
    exact ⟨t', ht'.nox, hq'⟩
  refine wpAny_call (codeAny_mono rc fun r s2 hq => ?_)
  cases r with
  | error e => exact (show False from hq).elim
  | ok fl =>
    cases fl with
    | ret u => exact I3.after hq
    | next => exact False.elim hq
    | brk => exact False.elim hq
    | cont => exact False.elim hq
end
end LamY


set_option Elab.async false
set_option linter.all false
set_option maxRecDepth 100000
set_option maxHeartbeats 2000000
namespace K1
open PySem PySem.Spec PyProof.Rows L2 RZ
/-- what is never reached -/
theorem pss_any {X : Cx} {b : List Stmt} : PSs X b (fun _ _ _ => False) := ⟨fun _ _ _ _ _ _ h => h.elim⟩
structure Bk (mg : Str → Option Value) : Prop extends Bj mg where
  set : mg "set" = none
  dict : mg "dict" = none
structure Cs (mg : Str → Option Value) : Prop where
  MOST_SIGNS : ∃ t, mg "MOST_SIGNS" = some (.int 6 t)
  LONGEST_SIGN : ∃ t, mg "LONGEST_SIGN" = some (.int 8 t)
abbrev sIsInt : Stmt := st_is_integer
abbrev sIsNum : Stmt := st_is_number
abbrev sIsBody : Stmt := st_is_body
abbrev sIsSign : Stmt := st_is_sign
abbrev sIsSigns : Stmt := st_is_signs
abbrev sIsNums : Stmt := st_is_numbers
abbrev nV : List Str := ["value"]
abbrev pV : List Str := ["value"]
theorem scIsInt : FnScope nV pV (defScope sIsInt) := ⟨rfl, rfl, rfl, by decide +kernel, rfl, by decide +kernel, by decide +kernel⟩
theorem scIsNum : FnScope nV pV (defScope sIsNum) := ⟨rfl, rfl, rfl, by decide +kernel, rfl, by decide +kernel, by decide +kernel⟩
theorem scIsBody : FnScope nV pV (defScope sIsBody) := ⟨rfl, rfl, rfl, by decide +kernel, rfl, by decide +kernel, by decide +kernel⟩
abbrev nIsSign : List Str := ["value", "letter"]
theorem scIsSign : FnScope nIsSign pV (defScope sIsSign) := ⟨rfl, rfl, rfl, by decide +kernel, rfl, by decide +kernel, by decide +kernel⟩
abbrev nIsSigns : List Str := ["value", "ahead", "sign"]
theorem scIsSigns : FnScope nIsSigns pV (defScope sIsSigns) := ⟨rfl, rfl, rfl, by decide +kernel, rfl, by decide +kernel, by decide +kernel⟩
abbrev nIsNums : List Str := ["value", "number"]
theorem scIsNums : FnScope nIsNums pV (defScope sIsNums) := ⟨rfl, rfl, rfl, by decide +kernel, rfl, by decide +kernel, by decide +kernel⟩
/-! ### signs -/
def inAZ (c : Nat) : Bool := (!decide ([c] < ("a" : Str).cps.toList)) && !decide (("z" : Str).cps.toList < [c])
def okS (s : Str) : Bool := decide (1 ≤ s.length) && decide (s.length ≤ 8) && s.cps.toList.all inAZ
def goSs : Str → List Str → Bool
  | _, [] => true
  | a, s :: r => okS s && decide (a.cps.toList < s.cps.toList) && goSs s r
def okSs (ss : List Str) : Bool := decide (ss.length ≤ 6) && goSs "" ss
def spInt : Sp := fun vs H Q _ => ∃ n : Int, vs = [.int n] ∧ Q (.bl true) H
def spNum : Sp := fun vs H Q _ => ∃ n : Int, vs = [.int n] ∧ 1 ≤ n ∧ Q (.bl true) H
def spBody : Sp := fun vs H Q _ => ∃ n : Int, vs = [.int n] ∧ 0 ≤ n ∧ Q (.bl true) H
def spSign : Sp := fun vs H Q _ => ∃ s : Str, vs = [.str s] ∧ okS s = true ∧ ∀ H', Same H H' → Q (.bl true) H'
def spSigns : Sp := fun vs H Q _ => ∃ (a : Addr) (ss : List Str), vs = [.ref a] ∧ H a = some (.tup (ss.map V.str)) ∧ okSs ss = true ∧ ∀ H', Same H H' → Q (.bl true) H'
def spNums : Sp := fun vs H Q _ => ∃ (a : Addr) (ns : List Int), vs = [.ref a] ∧ SeqH H a (ns.map V.int) ∧ (∀ n ∈ ns, 1 ≤ n) ∧ ns.length ≤ 1000 ∧ ∀ H', Same H H' → Q (.bl true) H'
section
variable {P : Program} {w : World} {K : PySem.W.Frag} {mg : Str → Option Value} {base : Heap}
theorem ok_isInt {f : Addr} {fd : FuncData} (T : Bk mg) (F : Fun K "is_integer" "is_integer" sIsInt f fd) : FnOk P w K mg base CX0 1 f fd pV spInt := by
  refine F.ok scIsInt (fun vs H Q E h => ?_) (fun cdv A outer s H vs Q E hr h => ?_)
  · obtain ⟨n, rfl, _⟩ := h
    rfl
  · obtain ⟨n, rfl, q⟩ := h
    refine ⟨_, (pss_one (ps_ret (pe_and (pe_callB (call_isiK1 (K := K) rfl) (by rfl) T.isinstance PyProof.Rows.boot_isinstance (pa_cons (pv 0) (pa_cons (pe_bltn (v := .ty "int") rfl T.int PyProof.Rows.boot_int rfl) pa_nil))) (pe_one (pe_not (pe_callB (call_isiK1 (K := K) rfl) (by rfl) T.isinstance PyProof.Rows.boot_isinstance (pa_cons (pv 0) (pa_cons (pe_bltn (v := .ty "bool") rfl T.bool PyProof.Rows.boot_bool rfl) pa_nil)))))))), ?_⟩
    exact ⟨_, rfl, .int n, .ty "int", .type "int", .type "int", true, rfl, .ty _, .base (.int n), kit_ty (by decide +kernel), _, rfl, itbT rfl ⟨_, rfl, .int n, .ty "bool", .type "int", .type "bool", false, rfl, .ty _, .base (.int n), kit_ty (by decide +kernel), _, rfl, q⟩⟩
theorem ok_isNum {f : Addr} {fd : FuncData} (D_is_integer : Def P w K mg base CX0 1 "is_integer" pV spInt) (F : Fun K "is_number" "is_number" sIsNum f fd) : FnOk P w K mg base CX0 2 f fd pV spNum := by
  refine F.ok scIsNum (fun vs H Q E h => ?_) (fun cdv A outer s H vs Q E hr h => ?_)
  · obtain ⟨n, rfl, _⟩ := h
    rfl
  · obtain ⟨n, rfl, h1, q⟩ := h
    refine ⟨_, (pss_one (ps_ret (pe_and (pe_def D_is_integer (hr.mono (by decide)) rfl pass0 (pa_cons (pv 0) pa_nil)) (pe_one (pe_cmpR op_ge (pv 0) pe_int (nomark _)))))), ?_⟩
    refine ⟨_, rfl, n, rfl, _, rfl, itbT rfl ⟨_, rfl, _, _, rfl, rfl, ?_⟩⟩
    show Q (.bl (decide (1 ≤ n))) H
    rw [decide_eq_true h1]; exact q
theorem ok_isBody {f : Addr} {fd : FuncData} (D_is_integer : Def P w K mg base CX0 1 "is_integer" pV spInt) (F : Fun K "is_body" "is_body" sIsBody f fd) : FnOk P w K mg base CX0 2 f fd pV spBody := by
  refine F.ok scIsBody (fun vs H Q E h => ?_) (fun cdv A outer s H vs Q E hr h => ?_)
  · obtain ⟨n, rfl, _⟩ := h
    rfl
  · obtain ⟨n, rfl, h1, q⟩ := h
    refine ⟨_, (pss_one (ps_ret (pe_and (pe_def D_is_integer (hr.mono (by decide)) rfl pass0 (pa_cons (pv 0) pa_nil)) (pe_one (pe_cmpR op_ge (pv 0) pe_int (nomark _)))))), ?_⟩
    refine ⟨_, rfl, n, rfl, _, rfl, itbT rfl ⟨_, rfl, _, _, rfl, rfl, ?_⟩⟩
    show Q (.bl (decide (0 ≤ n))) H
    rw [decide_eq_true h1]; exact q
theorem ok_isSign {f : Addr} {fd : FuncData} (T : Bk mg) (C : Cs mg) (F : Fun K "is_sign" "is_sign" sIsSign f fd) : FnOk P w K mg base CX0 1 f fd pV spSign := by
  have nd := scIsSign.nd
  refine F.ok scIsSign (fun vs H Q E h => ?_) (fun cdv A outer s H vs Q E hr h => ?_)
  · obtain ⟨z, rfl, _⟩ := h
    rfl
  · obtain ⟨z, rfl, hz, q⟩ := h
    refine ⟨_, (pss_cons (ps_if (PW.pt (pw_or (pt_not (pt_val (pe_callB (call_isiK1 (K := K) rfl) (by rfl) T.isinstance PyProof.Rows.boot_isinstance (pa_cons (pv 0) (pa_cons (pe_bltn (v := .ty "str") rfl T.str PyProof.Rows.boot_str rfl) pa_nil))))) (pw_or1 (pt_not (pt_chain op_le op_le pe_int (pe_callB call_len_str (by rfl) T.len PySem.boot_len (pa_cons (pv 0) pa_nil)) (pe_const C.LONGEST_SIGN rfl))))))
  (pss_one (ps_ret pe_bl))
  pss_nil)
 (pss_one (ps_ret (pe_callB (cr_allK (K := K) rfl rfl) (by rfl) T.all PyProof.Rows.boot_all (pa_cons (pe_lc (own := [("letter", 1)]) (g := gName 1) (tt := tYes) rfl nd (pi_str (pv 0)) (blkOk_by (own := [("letter", 1)]) (N := nIsSign) (sc := defScope sIsSign) (by decide +kernel)) (fun _ _ _ _ _ => pg_name (i := 1) nd rfl (Or.inl rfl)) (fun _ _ _ _ _ => pts_nil) (fun _ _ _ _ _ => (pe_chain op_le_str op_le_str pe_str (pv 1) pe_str))) pa_nil))))), ?_⟩
    unfold okS at hz
    rw [Bool.and_eq_true, Bool.and_eq_true] at hz
    obtain ⟨⟨z1, z2⟩, z3⟩ := hz
    have z1 := of_decide_eq_true z1
    have z2 := of_decide_eq_true z2
    refine ⟨_, rfl, .str z, .ty "str", .type "str", .type "str", true, rfl, .ty _, .base (.str z), kit_ty (by decide +kernel), _, rfl, itbF rfl ?_⟩
    refine ⟨_, rfl, z, rfl, lt1 _ (by omega), _, _, rfl, rfl, _, rfl, itbT (decide_eq_true (show (1 : Int) ≤ z.length by omega)) ⟨_, _, rfl, rfl, _, rfl, itbF (by rw [decide_eq_true (show (z.length : Int) ≤ 8 by omega)]; rfl) ?_⟩⟩
    refine ⟨_, rfl, z, rfl, fun D hD => ?_⟩
    refine lc_it walk_str (fun i H2 => Same H H2 ∧ H2 D = some (.lst ((List.replicate i true).map V.bl))) ⟨same_new hD, upd_same⟩ (fun _ _ _ _ => True.intro) ?_ ?_
    · rintro i x H2 H3 hi ⟨s2, h2⟩ ⟨rfl, c, hc, rfl⟩
      have hcm : c ∈ z.cps.toList := Array.mem_toList_iff.mpr (Array.mem_of_getElem? hc)
      have haz := List.all_eq_true.mp z3 c hcm
      unfold inAZ at haz
      rw [Bool.and_eq_true] at haz
      have hi8 : i < z.length := hi
      have fin : ∃ acc, H3 D = some (.lst acc) ∧ acc.length < sizeLine ∧ (Same H (upd H3 D (.lst (acc ++ [V.bl true]))) ∧ (upd H3 D (.lst (acc ++ [V.bl true]))) D = some (.lst ((List.replicate (i + 1) true).map V.bl))) :=
        ⟨_, h2, lt2 _ (by rw [List.length_map, List.length_replicate]; omega), s2.mut hD, by rw [upd_same, List.replicate_succ', List.map_append]; rfl⟩
      refine ⟨rfl, tyes ⟨_, rfl, _, _, rfl, rfl, _, rfl, ?_⟩⟩
      refine itbT haz.1 ⟨_, _, rfl, rfl, ?_⟩
      rw [haz.2]
      exact fin
    · rintro H2 ⟨s2, h2⟩
      exact ⟨D, _, rfl, sq h2, by show Q (.bl ((List.replicate z.cps.size true).all id)) H2; rw [show (List.replicate z.cps.size true).all id = true by simp]; exact q _ s2⟩
theorem ok_isSigns {f : Addr} {fd : FuncData} (T : Bk mg) (C : Cs mg) (D_is_sign : Def P w K mg base CX0 1 "is_sign" pV spSign) (F : Fun K "is_signs" "is_signs" sIsSigns f fd) : FnOk P w K mg base CX0 2 f fd pV spSigns := by
  have nd := scIsSigns.nd
  refine F.ok scIsSigns (fun vs H Q E h => ?_) (fun cdv A outer s H vs Q E hr h => ?_)
  · obtain ⟨a, ss, rfl, _⟩ := h
    rfl
  · obtain ⟨a, ss, rfl, ha, ho, q⟩ := h
    refine ⟨_, (pss_cons (ps_if (PW.pt (pw_or (pt_not (pt_val (pe_callB (call_isiK1 (K := K) rfl) (by rfl) T.isinstance PyProof.Rows.boot_isinstance (pa_cons (pv 0) (pa_cons (pe_bltn (v := .ty "tuple") rfl T.tuple PyProof.Rows.boot_tuple rfl) pa_nil))))) (pw_or1 (pt_cmpR op_gt (pe_callB (call_lenK (K := K) rfl) (by rfl) T.len PySem.boot_len (pa_cons (pv 0) pa_nil)) (pe_const C.MOST_SIGNS rfl) (nomark _)))))
  (pss_one (ps_ret pe_bl))
  pss_nil)
 (pss_cons (ps_set (i := 1) nd rfl (Or.inl rfl) pe_str)
 (pss_cons (ps_for PassesOwn.never rfl (pi_tupK (K := K) rfl (pv 0)) (pg_name (i := 2) nd rfl (Or.inl rfl))
  (pss_cons (ps_if (PW.pt (pw_or (pt_not (pt_val (pe_def D_is_sign (hr.mono (by decide)) rfl pass0 (pa_cons (pv 2) pa_nil)))) (pw_or1 (pt_cmpR op_le_str (pv 2) (pv 1) (nomark _)))))
  (pss_one (ps_ret pe_bl))
  pss_nil)
 (pss_one (ps_set (i := 1) nd rfl (Or.inl rfl) (pv 2)))))
 (pss_one (ps_ret pe_bl))))), ?_⟩
    unfold okSs at ho
    rw [Bool.and_eq_true] at ho
    have h6 := of_decide_eq_true ho.1
    refine ⟨_, rfl, .ref a, .ty "tuple", .type "tuple", .type "tuple", true, rfl, .ty _, .base (.tup ha), kit_ty (by decide +kernel), _, rfl, itbF rfl ?_⟩
    refine ⟨_, rfl, a, _, rfl, .inr (st ha), _, _, rfl, rfl, _, rfl, itbF (decide_eq_false (by rw [List.length_map]; omega)) ?_⟩
    refine ⟨_, rfl, a, rfl, ⟨_, st ha⟩, for_tup (K := K) (a := a) (xs := ss.map V.str) (fun i σ H1 => ∃ ah v2, σ = [some (.ref a), some (.str ah), v2] ∧ Same H H1 ∧ goSs ah (ss.drop i) = true) ?_ ?_ ?_ ?_⟩
    · exact ⟨"", none, rfl, fun _ _ h => h, ho.2⟩
    · rintro i σ H1 _ ⟨ah, v2, rfl, s1, _⟩
      exact st (s1 _ _ ha)
    · rintro i y σ H1 hy ⟨ah, v2, rfl, s1, hg⟩
      rw [List.getElem?_map] at hy
      cases he : ss[i]? with
      | none => rw [he] at hy; cases hy
      | some z =>
        rw [he] at hy
        obtain rfl := (Option.some.inj hy).symm
        have hi := lt_of_get he
        have e1 : ss.drop i = z :: ss.drop (i + 1) := by
          rw [List.drop_eq_getElem_cons hi]
          congr 1
          rw [List.getElem?_eq_getElem hi] at he
          exact Option.some.inj he
        rw [e1] at hg
        have hg' : (okS z && decide (ah.cps.toList < z.cps.toList) && goSs z (ss.drop (i + 1))) = true := hg
        rw [Bool.and_eq_true, Bool.and_eq_true] at hg'
        refine ⟨_, rfl, z, rfl, hg'.1.1, fun H2 s2 => ⟨_, rfl, itbF rfl ⟨_, rfl, _, rfl, _, _, rfl, rfl, _, rfl, itbF ?_ ⟨_, rfl, z, _, rfl, s1.trans s2, hg'.2⟩⟩⟩⟩
        rw [hg'.1.2]; rfl
    · rintro σ H1 ⟨ah, v2, rfl, s1, _⟩
      exact q _ s1
theorem ok_isNums {f : Addr} {fd : FuncData} (T : Bk mg) (D_is_number : Def P w K mg base CX0 2 "is_number" pV spNum) (F : Fun K "is_numbers" "is_numbers" sIsNums f fd) : FnOk P w K mg base CX0 3 f fd pV spNums := by
  have nd := scIsNums.nd
  refine F.ok scIsNums (fun vs H Q E h => ?_) (fun cdv A outer s H vs Q E hr h => ?_)
  · obtain ⟨a, ns, rfl, _⟩ := h
    rfl
  · obtain ⟨a, ns, rfl, ha, h1, hl, q⟩ := h
    refine ⟨_, (pss_one (ps_ret (pe_and (pe_callB (call_isiTK (K := K) rfl) (by rfl) T.isinstance PyProof.Rows.boot_isinstance (pa_cons (pv 0) (pa_cons (pe_tup (pa_cons (pe_bltn (v := .ty "list") rfl T.list PyProof.Rows.boot_list rfl) (pa_cons (pe_bltn (v := .ty "tuple") rfl T.tuple PyProof.Rows.boot_tuple rfl) pa_nil))) pa_nil))) (pe_one (pe_callB (cr_allK (K := K) rfl rfl) (by rfl) T.all PyProof.Rows.boot_all (pa_cons (pe_lc (own := [("number", 1)]) (g := gName 1) (tt := tYes) rfl nd (pi_seqK (K := K) rfl (pv 0)) (blkOk_by (own := [("number", 1)]) (N := nIsNums) (sc := defScope sIsNums) (by decide +kernel)) (fun _ _ _ _ _ => pg_name (i := 1) nd rfl (Or.inl rfl)) (fun _ _ _ _ _ => pts_nil) (fun _ _ _ _ _ => (pe_def D_is_number (hr.mono (by decide)) rfl pass0 (pa_cons (pv 1) pa_nil)))) pa_nil)))))), ?_⟩
    refine ⟨_, rfl, (by show 2 ≤ sizeLine; decide), fun tp ntp => ?_⟩
    have s1 := same_new (o := .tup [.ty "list", .ty "tuple"]) ntp
    obtain ⟨tn, ty, kt⟩ : ∃ tn : String, TyX K (upd H tp (.tup [.ty "list", .ty "tuple"])) (.ref a) (.type tn) ∧ PySem.W.kitAny K (.type tn) [.type "list", .type "tuple"] = some true := by
      rcases ha.same s1 with h | h
      · exact ⟨"list", .base (.lst h), kit_seq (.list [])⟩
      · exact ⟨"tuple", .base (.tup h), kit_seq (.tuple [])⟩
    refine ⟨.ref a, tp, [.ty "list", .ty "tuple"], .type tn, [.type "list", .type "tuple"], true, rfl, upd_same, .cons (.ty _) (.cons (.ty _) .nil), ty, kt, _, rfl, itbT rfl ?_⟩
    refine ⟨_, rfl, a, rfl, seq_walk (ha.same s1) fun J Gd wk hG D hD => ?_⟩
    generalize upd H tp (.tup [.ty "list", .ty "tuple"]) = H1 at s1 hD hG
    refine lc_it wk (fun i H2 => Same H1 H2 ∧ H2 D = some (.lst ((List.replicate i true).map V.bl)) ∧ i ≤ ns.length) ⟨same_new hD, upd_same, Nat.zero_le _⟩ (fun i H2 _ h => hG _ h.1) ?_ ?_
    · rintro i y H2 H3 hi ⟨s2, h2, hi2⟩ ⟨rfl, hy⟩
      obtain ⟨n, hn, rfl⟩ := getD_map hy
      exact ⟨rfl, tyes ⟨_, rfl, n, rfl, h1 n (List.mem_of_getElem? hn), _, h2, lt2 _ (by rw [List.length_map, List.length_replicate]; omega), s2.mut hD, by rw [upd_same, List.replicate_succ', List.map_append]; rfl, lt_of_get hn⟩⟩
    · rintro H2 ⟨s2, h2, _⟩
      exact ⟨D, _, rfl, sq h2, by show Q (.bl ((List.replicate (ns.map V.int).length true).all id)) H2; rw [show (List.replicate (ns.map V.int).length true).all id = true by simp]; exact q _ (s1.trans s2)⟩
end
end K1


set_option Elab.async false
set_option linter.all false
set_option maxRecDepth 100000
set_option maxHeartbeats 2000000
namespace K1
open PySem PySem.Spec PyProof.Rows L2 RZ StX
theorem eqv_str (a b : Str) : PyData.eqv (.str a) (.str b) = (a == b) := by simp [PyData.eqv]
def nS (ss : List Str) (s : Str) : List Str := ss.filter fun x => !decide (x = s)
/-! ### signs -/
def ltS (a b : Str) : Prop := a.cps.toList < b.cps.toList
theorem ltS_trans {a b c : Str} (h : ltS a b) (k : ltS b c) : ltS a c := List.lt_trans (α := Nat) h k
theorem ltS_asymm {a b : Str} (h : ltS a b) : ¬ ltS b a := List.lt_asymm (α := Nat) h
theorem str_ext {a b : Str} (h : a.cps.toList = b.cps.toList) : a = b := by
  cases a with | mk x =>
  cases b with | mk y =>
  congr 1
  exact Array.toList_inj.mp h
theorem ltS_total {a b : Str} (h : ¬ ltS a b) (k : ¬ ltS b a) : a = b := str_ext (List.le_antisymm (List.not_lt.mp k) (List.not_lt.mp h))
theorem leS_trans {a b c : Str} (h : ¬ ltS b a) (k : ¬ ltS c b) : ¬ ltS c a := by
  unfold ltS at *
  rw [List.not_lt] at *
  exact List.le_trans h k
instance (a b : Str) : Decidable (ltS a b) := inferInstanceAs (Decidable (a.cps.toList < b.cps.toList))
def Asc (ss : List Str) : Prop := ss.Pairwise ltS
def insS (s : Str) : List Str → List Str
  | [] => [s]
  | x :: r => if ltS s x then s :: x :: r else x :: insS s r
theorem insS_perm (s : Str) : ∀ ss : List Str, (insS s ss).Perm (s :: ss)
  | [] => .refl _
  | x :: r => by
    unfold insS
    split
    · exact .refl _
    · exact ((insS_perm s r).cons x).trans (.swap s x r)
theorem insS_asc {s : Str} : ∀ {ss : List Str}, Asc ss → s ∉ ss → Asc (insS s ss)
  | [], _, _ => List.pairwise_singleton _ _
  | x :: r, h, hn => by
    unfold insS
    have h' := List.pairwise_cons.mp h
    split
    · rename_i c
      refine List.pairwise_cons.mpr ⟨fun y hy => ?_, h⟩
      rcases List.mem_cons.mp hy with rfl | hy
      · exact c
      · exact ltS_trans c (h'.1 y hy)
    · rename_i c
      refine List.pairwise_cons.mpr ⟨fun y hy => ?_, insS_asc h'.2 fun z => hn (List.mem_cons_of_mem _ z)⟩
      rcases List.mem_cons.mp ((insS_perm s r).mem_iff.mp hy) with rfl | hy
      · by_cases k : ltS x y
        · exact k
        · exact absurd (ltS_total k c) fun e => hn (by rw [e]; exact List.mem_cons_self)
      · exact h'.1 y hy
theorem rising_pw : ∀ (r : List Str) (x : Str), risingS x r = true → (x :: r).Pairwise fun a b => ¬ ltS b a
  | [], x, _ => List.pairwise_singleton _ _
  | y :: r, x, h => by
    have h : (!ltCps y.cps.toList x.cps.toList && risingS y r) = true := h
    rw [ltCps_eq, Bool.and_eq_true, Bool.not_eq_true', decide_eq_false_iff_not] at h
    have ih := rising_pw r y h.2
    refine List.pairwise_cons.mpr ⟨fun z hz => ?_, ih⟩
    rcases List.mem_cons.mp hz with rfl | hz
    · exact h.1
    · exact leS_trans h.1 ((List.pairwise_cons.mp ih).1 z hz)
theorem sorted_pw {ys : List Str} (h : sortedS ys = true) : ys.Pairwise fun a b => ¬ ltS b a := by
  cases ys with
  | nil => exact .nil
  | cons x r => exact rising_pw r x h
/-- what sorted tells of signs and a new one -/
theorem sorted_ins {ss ys : List Str} {s : Str} (ha : Asc ss) (hn : s ∉ ss) (hp : ys.Perm (ss ++ [s])) (h : sortedS ys = true) : ys = insS s ss := by
  have p2 : ys.Perm (insS s ss) := (hp.trans List.perm_append_comm).trans (insS_perm s ss).symm
  refine List.Perm.eq_of_pairwise (le := fun a b => decide (¬ ltS b a)) (fun a b _ _ x y => ?_) ?_ ?_ p2
  · exact ltS_total (of_decide_eq_true y) (of_decide_eq_true x)
  · exact (sorted_pw h).imp fun k => decide_eq_true k
  · exact (insS_asc ha hn).imp fun k => decide_eq_true (ltS_asymm k)
/-! what okSs says -/
theorem goSs_mem : ∀ {a : Str} {ss : List Str}, goSs a ss = true → (∀ s ∈ ss, okS s = true ∧ ltS a s) ∧ Asc ss
  | a, [], _ => ⟨fun s hs => (by cases hs), List.Pairwise.nil⟩
  | a, s :: r, h => by
    have h : (okS s && decide (ltS a s) && goSs s r) = true := h
    rw [Bool.and_eq_true, Bool.and_eq_true] at h
    obtain ⟨h1, h2⟩ := goSs_mem h.2
    have lt := of_decide_eq_true h.1.2
    refine ⟨fun x hx => ?_, List.pairwise_cons.mpr ⟨fun x hx => (h1 x hx).2, h2⟩⟩
    rcases List.mem_cons.mp hx with rfl | hx
    · exact ⟨h.1.1, lt⟩
    · exact ⟨(h1 x hx).1, ltS_trans lt (h1 x hx).2⟩
theorem goSs_of : ∀ {a : Str} {ss : List Str}, (∀ s ∈ ss, okS s = true ∧ ltS a s) → Asc ss → goSs a ss = true
  | a, [], _, _ => rfl
  | a, s :: r, h, k => by
    have h0 := h s List.mem_cons_self
    have k' := List.pairwise_cons.mp k
    show (okS s && decide (ltS a s) && goSs s r) = true
    rw [h0.1, decide_eq_true h0.2, goSs_of (fun x hx => ⟨(h x (List.mem_cons_of_mem _ hx)).1, k'.1 x hx⟩) k'.2]
    rfl
theorem okS_pos {s : Str} (h : okS s = true) : ltS "" s := by
  unfold okS at h
  rw [Bool.and_eq_true, Bool.and_eq_true] at h
  have h1 := of_decide_eq_true h.1.1
  show ([] : List Nat) < s.cps.toList
  cases e : s.cps.toList with
  | nil =>
    exfalso
    have : s.length = 0 := by
      show s.cps.size = 0
      rw [← Array.length_toList, e]; rfl
    omega
  | cons c r => exact List.nil_lt_cons c r
structure OkSs (ss : List Str) : Prop where
  len : ss.length ≤ 6
  ok : ∀ s ∈ ss, okS s = true
  asc : Asc ss
theorem okSs_iff {ss : List Str} : okSs ss = true ↔ OkSs ss := by
  unfold okSs
  rw [Bool.and_eq_true]
  constructor
  · rintro ⟨h1, h2⟩
    obtain ⟨a, b⟩ := goSs_mem h2
    exact ⟨of_decide_eq_true h1, fun s hs => (a s hs).1, b⟩
  · rintro ⟨h1, h2, h3⟩
    exact ⟨decide_eq_true h1, goSs_of (fun s hs => ⟨h2 s hs, okS_pos (h2 s hs)⟩) h3⟩
def wG (ss : List Str) (s : Str) : List Str := if s ∈ ss ∨ ss.length = 6 then ss else insS s ss
theorem wG_ok {ss : List Str} {s : Str} (h : OkSs ss) (hs : okS s = true) : OkSs (wG ss s) := by
  unfold wG
  split
  · exact h
  · rename_i c
    have c1 : s ∉ ss := fun z => c (.inl z)
    have c2 : ss.length ≠ 6 := fun z => c (.inr z)
    have p := insS_perm s ss
    refine ⟨by rw [p.length_eq]; have := h.len; simp only [List.length_cons]; omega, fun x hx => ?_, insS_asc h.asc c1⟩
    rcases List.mem_cons.mp (p.mem_iff.mp hx) with rfl | hx
    · exact hs
    · exact h.ok x hx
theorem nS_ok {ss : List Str} {s : Str} (h : OkSs ss) : OkSs (nS ss s) :=
  ⟨Nat.le_trans (List.length_filter_le _ _) h.len, fun x hx => h.ok x (List.mem_filter.mp hx).1, List.Pairwise.filter _ h.asc⟩
theorem strOk_of {s : Str} (h : okS s = true) : PyData.strOk s = true := by
  unfold okS at h
  rw [Bool.and_eq_true] at h
  show s.cps.all (fun c => decide (c < 1114112)) = true
  rw [← Array.all_toList, List.all_eq_true]
  intro c hc
  have := List.all_eq_true.mp h.2 c hc
  unfold inAZ at this
  rw [Bool.and_eq_true, Bool.not_eq_true', Bool.not_eq_true', decide_eq_false_iff_not, decide_eq_false_iff_not] at this
  refine decide_eq_true ?_
  have h2 : ¬ (122 < c) := fun z => this.2 (show ([122] : List Nat) < [c] from List.cons_lt_cons_iff.mpr (.inl z))
  omega
theorem g_lay : ∀ {ss : List Str}, (∀ s ∈ ss, okS s = true) → PyData.canLayAll0 (ss.map PyData.str) = true ∧ PyData.depthAll (ss.map PyData.str) = 0
  | [], _ => ⟨rfl, rfl⟩
  | s :: r, h => by
    obtain ⟨h1, h2⟩ := g_lay fun x hx => h x (List.mem_cons_of_mem _ hx)
    constructor
    · show (PyData.strOk s && PyData.canLayAll0 (r.map PyData.str)) = true
      rw [h1, strOk_of (h s List.mem_cons_self)]; rfl
    · show max 0 (PyData.depthAll (r.map PyData.str)) = 0
      rw [h2]; rfl
theorem g_shape {ss : List Str} (h : ∀ s ∈ ss, okS s = true) : SeqAt.shaped (.tuple (ss.map PyData.str)) = true := by
  obtain ⟨h1, h2⟩ := g_lay h
  unfold SeqAt.shaped
  have e1 : PyData.canLay0 (.tuple (ss.map PyData.str)) = true := h1
  have e2 : PyData.depth (.tuple (ss.map PyData.str)) ≤ 64 := by
    show PyData.depthAll (ss.map PyData.str) + 1 ≤ 64
    rw [h2]; omega
  rw [e1, decide_eq_true e2]; rfl
theorem g_eqv : ∀ xs ys : List Str, PyData.eqv (.tuple (xs.map PyData.str)) (.tuple (ys.map PyData.str)) = decide (xs = ys) := by
  have h : ∀ xs ys : List Str, PyData.eqvAll (xs.map PyData.str) (ys.map PyData.str) = decide (xs = ys) := by
    intro xs
    induction xs with
    | nil => intro ys; cases ys <;> simp [PyData.eqvAll]
    | cons x r ih =>
      intro ys
      cases ys with
      | nil => simp [PyData.eqvAll]
      | cons y t =>
        show (PyData.eqv (.str x) (.str y) && PyData.eqvAll (r.map PyData.str) (t.map PyData.str)) = decide (x :: r = y :: t)
        rw [ih, eqv_str]
        by_cases e : x = y
        · subst e; by_cases e2 : r = t <;> simp [e2]
        · rw [beq_eq_false_iff_ne.mpr e]; simp [e]
  intro xs ys
  exact h xs ys
end K1


set_option Elab.async false
set_option linter.all false
set_option maxRecDepth 100000
set_option maxHeartbeats 2000000
/-! Sets of ints made of a list or a tuple; x in a tuple of data; max with a default. -/
namespace K1
open PySem PySem.Spec PyProof.Rows L2 RZ StX
abbrev sCkNums : Stmt := st__check_numbers
abbrev nCkNums : List Str := ["numbers"]
theorem scCkNums : FnScope nCkNums nCkNums (defScope sCkNums) := ⟨rfl, rfl, rfl, by decide +kernel, rfl, by decide +kernel, by decide +kernel⟩
/-- a set of ints, however it was made -/
def SetI (P : Program) (w : World) (a : Addr) (S : Int → Bool) (n : Nat) : HO := .ext fun h => h.SetOf (intKind P w) a S n
theorem setI_new {P : Program} {w : World} {H : Hp} {h : Heap} {a : Addr} {S : Int → Bool} {n : Nat} (R : h.SetOf (intKind P w) a S n) : ObjOk P w H h a (SetI P w a S n) := by
  have ⟨o, es, ep, t, ho, r⟩ := R
  refine ⟨R, ⟨o, ho⟩, fun h1 h2 p k => ?_⟩
  have ⟨o', es', ep', t', ho', r'⟩ := p
  exact ⟨o', es', ep', t', k o' ho', r'⟩
theorem setI_get {X : Cx} {pins : List (Addr × Obj)} {σ : L2.St} {H : Hp} {s : Shared} {a : Addr} {S : Int → Bool} {n : Nat} (I : Inv X pins σ H s) (ha : H a = some (SetI X.prog X.w a S n)) : s.heap.SetOf (intKind X.prog X.w) a S n := (I.hok a _ ha).1
theorem range_getD (ns : List Int) : (List.range ns.length).map (fun i => ns.getD i 0) = ns := by
  refine List.ext_getElem (by rw [List.length_map, List.length_range]) fun i h1 h2 => ?_
  rw [List.getElem_map, List.getElem_range, List.getD_eq_getElem?_getD, List.getElem?_eq_getElem h2]; rfl
def rSetI (P : Program) (w : World) (neg : Bool) : R2 := fun x y H Q => ∃ k a S n, x = V.int k ∧ y = V.ref a ∧ H a = some (SetI P w a S n) ∧ Q (.bl (if neg then !S k else S k)) H
section
variable {X : Cx} {K : PySem.W.Frag} {P : Program} {w : World}
theorem or_sinI (hP : X.prog = P) (hw : X.w = w) : OpR X (compareOp .In) (rSetI P w false) := by
  subst hP hw
  intro pins s σ H x y v u Q I rx ry h
  obtain ⟨k, a, S, n, rfl, rfl, ha, q⟩ := h
  obtain rfl : u = Value.ref a := ry
  obtain ⟨t, rfl⟩ := rx
  exact wpAny_inSet_of (intKind_is _ _ _ _) rfl (setI_get I ha) ⟨.bl (S k), H, I.tok _, rfl, q⟩
theorem cr_setI (hP : X.prog = P) (hw : X.w = w) (hK : X.K = K) (hc : X.calm = true) : CallR X (.type "set") (fun xs H Q => ∃ (l : Addr) (ns : List Int), xs = [.ref l] ∧ SeqH H l (ns.map V.int) ∧ ns.length ≤ 1000 ∧ ∀ p n, H p = none → Q (.ref p) (upd H p (SetI P w p (fun j => decide (j ∈ ns)) n))) := by
  subst hP hw hK
  intro pins s σ H xs us Q I r h
  obtain ⟨l, ns, rfl, hq, hl, q⟩ := h
  cases r with
  | cons r rr =>
    cases rr
    cases r
    rcases hq with hq | hq
    · obtain ⟨its, rv, pt, hz⟩ := I.list (sq hq)
      have hi : IntsAre its.toArray.toList ns := ints_of_vals rv
      have hsz : its.toArray.size = ns.length := by
        have := IntsAre.length hi
        rw [Array.length_toList] at this
        exact this
      refine call_set_list (I.ok.hd hc) pt.isList hi (by unfold scanBound; omega) fun h' tk R1 k => ?_
      have R2 : h'.SetOf (intKind X.prog X.w) s.heap.objs.size (fun j => decide (j ∈ ns)) (PyProof.Rows.firstMet (fun i => ns.getD i 0) its.toArray.size).length := by
        refine PyProof.Rows.SetOf_congr R1 (fun j => ?_) rfl
        rw [PyProof.Rows.firstMet_any, hsz, range_getD]
        by_cases hj : j ∈ ns
        · rw [decide_eq_true hj]; exact List.any_eq_true.mpr ⟨j, hj, beq_self_eq_true j⟩
        · rw [decide_eq_false hj]; exact List.any_eq_false.mpr fun x hx e => hj (eq_of_beq e ▸ hx)
      exact ⟨.ref _, upd H s.heap.objs.size (SetI X.prog X.w s.heap.objs.size (fun j => decide (j ∈ ns)) _), I.laid (t' := tk) (fun b o e => k b o (Heap.lt_size e) e) (Nat.le_refl _) (setI_new R2), rfl, q _ _ (I.hok.fresh (Nat.le_refl _))⟩
    · obtain ⟨its, rv, pt, hz⟩ := I.tuple (st hq)
      have hi : IntsAre its.toArray.toList ns := ints_of_vals rv
      refine call_set_tupI ns (I.ok.hd hc) (show s.heap.IsTuple l its.toArray from pt) hi (by unfold scanBound; omega) fun h' tk c R1 hcn k => ?_
      exact ⟨.ref _, upd H s.heap.objs.size (SetI X.prog X.w s.heap.objs.size (fun j => decide (j ∈ ns)) c), I.laid (t' := tk) k (Nat.le_refl _) (setI_new R1.setOf), rfl, q _ _ (I.hok.fresh (Nat.le_refl _))⟩
/-- x not in a tuple of data -/
def rNotInT (K : PySem.W.Frag) : R2 := fun x y H Q => ∃ d ds, Dp K H x d ∧ Dp K H y (.tuple ds) ∧ SeqAt.shaped d = true ∧ SeqAt.shaped (.tuple ds) = true ∧ Q (.bl (!ds.any fun z => PyData.eqv z d)) H
theorem op_notInT (hK : X.K = K) (hu : X.A.units + 65 < cLine) : OpR X (compareOp .NotIn) (rNotInT K) := by
  subst hK
  intro pins s σ H x y v u Q I rx ry h
  obtain ⟨d, ds, hd, he, sd, se, q⟩ := h
  obtain ⟨as, r1⟩ := Dp.reads I d x v hd rx
  obtain ⟨bs, r2⟩ := Dp.reads I (.tuple ds) y u he ry
  exact SeqAt.notIn_tuple_reads r2 r1 (SeqAt.canLay_of_shaped se) (SeqAt.canLay_of_shaped sd) (room_in_shaped sd hu) ⟨.bl _, H, I, rfl, q⟩
theorem reads_ints {h : Heap} : ∀ {ns : List Int} {us : List Value}, Vals (ns.map V.int) us → ReadsAll h us (ns.map PyData.int) []
  | [], _, .nil => .nil
  | n :: ns, _, .cons r rs => by
    obtain ⟨t, rfl⟩ := r
    exact .cons (.int n t) (reads_ints rs)
theorem foldl_max : ∀ (ns : List Int) (n : Int), ns.foldl max n ∈ n :: ns ∧ ∀ y ∈ n :: ns, y ≤ ns.foldl max n
  | [], n => ⟨List.mem_cons_self, fun y hy => by rw [List.mem_singleton.mp hy]; exact Int.le_refl _⟩
  | k :: ns, n => by
    obtain ⟨h1, h2⟩ := foldl_max ns (max n k)
    show ns.foldl max (max n k) ∈ _ ∧ ∀ y ∈ _, y ≤ ns.foldl max (max n k)
    have h3 := h2 _ List.mem_cons_self
    refine ⟨?_, fun y hy => ?_⟩
    · rcases List.mem_cons.mp h1 with e | e
      · rw [e]
        rcases (by omega : max n k = n ∨ max n k = k) with z | z
        · rw [z]; exact List.mem_cons_self
        · rw [z]; exact List.mem_cons_of_mem _ List.mem_cons_self
      · exact List.mem_cons_of_mem _ (List.mem_cons_of_mem _ e)
    · rcases List.mem_cons.mp hy with rfl | hy
      · omega
      · rcases List.mem_cons.mp hy with rfl | hy
        · omega
        · exact h2 y (List.mem_cons_of_mem _ hy)
def rMaxD (K : PySem.W.Frag) : List V → List V → Hp → VK → Prop := fun xs zs H Q => ∃ (a : Addr) (ns : List Int) (d : V), xs = [.ref a] ∧ zs = [d] ∧ SqL K H a (ns.map V.int) ∧ (ns = [] → Q d H) ∧ ∀ m, m ∈ ns → (∀ y ∈ ns, y ≤ m) → Q (.int m) H
theorem cr_maxD (hK : X.K = K) (hc : X.calm = true) (hu : X.A.units + 64 < cLine) : CallRK X (.builtin "max") [(Str.ofString "default")] (rMaxD K) := by
  subst hK
  intro pins s σ H xs zs us ws Q I r rz h
  obtain ⟨a, ns, d, rfl, rfl, hs, h0, h1⟩ := h
  obtain ⟨its, rv, hl, _⟩ := I.list hs
  rw [Vals.ref1 r]
  obtain ⟨u, rfl, ru⟩ := vals1 rz
  have hd : PyData.depthAll (ns.map PyData.int) = 0 := depth_ints ns
  have ha : PySem.W.AlikeAll (ns.map PyData.int) := PySem.W.alikeAll_datum (α := Int) ns
  refine PySem.W.max_list_default (xs := ns.map PyData.int) (as := []) (I.ok.hd hc) hl.isList (reads_ints rv) ha (by rw [hd]; omega) (fun e h' tk hk => ?_) fun y ys i v h' tk bs e hi hr hk => ?_
  · exact ⟨d, H, I.kept hk, ru, h0 (List.map_eq_nil_iff.mp e)⟩
  · cases ns with
    | nil => cases e
    | cons n ns =>
      obtain ⟨e1, e2⟩ := List.cons.inj e
      subst e1 e2
      rw [PySem.W.maxD_ints] at hr
      cases hr with
      | int _ t => exact ⟨.int _, H, I.kept hk, ⟨_, rfl⟩, h1 _ (foldl_max ns n).1 (foldl_max ns n).2⟩
end
def spCkNums : Sp := fun vs H Q _ => ∃ (a : Addr) (ns : List Int), vs = [.ref a] ∧ SeqH H a (ns.map V.int) ∧ (∀ n ∈ ns, 1 ≤ n) ∧ ns.length ≤ 1000 ∧ ∀ H', Same H H' → Q .non H'
section
variable {P : Program} {w : World} {K : PySem.W.Frag} {mg : Str → Option Value} {base : Heap}
theorem ok_ckNums {f : Addr} {fd : FuncData} (D_is_numbers : Def P w K mg base CX0 3 "is_numbers" pV spNums) (F : Fun K "_check_numbers" "_check_numbers" sCkNums f fd) : FnOk P w K mg base CX0 4 f fd nCkNums spCkNums := by
  refine F.ok scCkNums (fun vs H Q E h => ?_) (fun cdv A outer s H vs Q E hr h => ?_)
  · obtain ⟨a, ns, rfl, _⟩ := h
    rfl
  · obtain ⟨a, ns, rfl, ha, h1, hl, q⟩ := h
    refine ⟨_, (pss_one (ps_if (pt_not (pt_val (pe_def D_is_numbers (hr.mono (by decide)) rfl pass0 (pa_cons (pv 0) pa_nil)))) pss_any pss_nil)), ?_⟩
    exact ⟨_, rfl, a, ns, rfl, ha, h1, hl, fun H' s' => ⟨_, rfl, itbF rfl (q H' s')⟩⟩
end
end K1


set_option Elab.async false
set_option linter.all false
set_option maxRecDepth 100000
set_option maxHeartbeats 2000000
namespace K1
open PySem PySem.Spec PyProof.Rows L2 RZ StX
abbrev sWith : Stmt := st__with_sign
abbrev sWout : Stmt := st__without_sign
abbrev nWith : List Str := ["signs", "sign"]
theorem scWith : FnScope nWith nWith (defScope sWith) := ⟨rfl, rfl, rfl, by decide +kernel, rfl, by decide +kernel, by decide +kernel⟩
abbrev nWout : List Str := ["signs", "sign", "old"]
theorem scWout : FnScope nWout nWith (defScope sWout) := ⟨rfl, rfl, rfl, by decide +kernel, rfl, by decide +kernel, by decide +kernel⟩
theorem inV_strs (s : Str) : ∀ ss : List Str, inV (.str s) (ss.map V.str) = decide (s ∈ ss)
  | [] => by simp [inV]
  | m :: r => by
    have ih := inV_strs s r
    unfold inV at ih ⊢
    rw [List.map_cons, List.any_cons, ih]
    show ((m == s) || _) = _
    by_cases e : m = s
    · subst e; simp
    · have e' : ¬ s = m := fun h => e h.symm
      rw [beq_eq_false_iff_ne.mpr e]; simp [e']
theorem flat_strs : ∀ ss : List Str, (ss.map V.str).all flatV = true
  | [] => rfl
  | m :: r => by rw [List.map_cons, List.all_cons, flat_strs r]; rfl
section
variable {X : Cx} {K : PySem.W.Frag}
theorem cr_sortedSK (h : X.K = K) : CallR X (.builtin "sorted") (rSortedS K) := by subst h; exact cr_sortedS
end
def spWith : Sp := fun vs H Q _ => ∃ (a : Addr) (ss : List Str) (s : Str), vs = [.ref a, .str s] ∧ H a = some (.tup (ss.map V.str)) ∧ OkSs ss ∧ okS s = true ∧ ∀ b H', Same H H' → H' b = some (.tup ((wG ss s).map V.str)) → Q (.ref b) H'
def spWout : Sp := fun vs H Q _ => ∃ (a : Addr) (ss : List Str) (s : Str), vs = [.ref a, .str s] ∧ H a = some (.tup (ss.map V.str)) ∧ OkSs ss ∧ okS s = true ∧ ∀ b H', Same H H' → H' b = some (.tup ((nS ss s).map V.str)) → Q (.ref b) H'
section
variable {P : Program} {w : World} {K : PySem.W.Frag} {mg : Str → Option Value} {base : Heap}
theorem ok_with {f : Addr} {fd : FuncData} (T : Bk mg) (C : Cs mg) (F : Fun K "_with_sign" "_with_sign" sWith f fd) : FnOk P w K mg base CX0 1 f fd nWith spWith := by
  have nd := scWith.nd
  refine F.ok scWith (fun vs H Q E h => ?_) (fun cdv A outer s H vs Q E hr h => ?_)
  · obtain ⟨a, ss, z, rfl, _⟩ := h
    rfl
  · obtain ⟨a, ss, z, rfl, ha, hu, hz, q⟩ := h
    have hl := hu.len
    refine ⟨_, (pss_cons (ps_if (PW.pt (pw_or (pt_cmpR (op_in_seqK (K := K) rfl) (pv 1) (pv 0) (by rfl)) (pw_or1 (pt_cmpR op_eq (pe_callB (call_lenK (K := K) rfl) (by rfl) T.len PySem.boot_len (pa_cons (pv 0) pa_nil)) (pe_const C.MOST_SIGNS rfl) (nomark _)))))
  (pss_one (ps_ret (pv 0)))
  pss_nil)
 (pss_one (ps_ret (pe_callTy (call_tuple_ofK (K := K) rfl) (by rfl) T.tuple PyProof.Rows.boot_tuple (pa_cons (pe_callB (cr_sortedSK (K := K) rfl) (by rfl) T.sorted PyProof.Rows.boot_sorted (pa_cons (pe_lst (pa_star (pv 0) (pa_cons (pv 1) pa_nil))) pa_nil)) pa_nil))))), ?_⟩
    refine ⟨_, rfl, _, rfl, a, _, rfl, .inr (st ha), rfl, flat_strs _, _, rfl, ?_⟩
    show (if inV (.str z) (ss.map V.str) = true then _ else _)
    rw [inV_strs]
    by_cases hm : z ∈ ss
    · refine itbT (decide_eq_true hm) (itbT rfl ⟨_, rfl, q a H (fun _ _ h => h) ?_⟩)
      rw [ha]
      unfold wG
      rw [if_pos (.inl hm)]
    · refine itbF (decide_eq_false hm) ⟨_, rfl, a, _, rfl, .inr (st ha), rfl, _, rfl, ?_⟩
      by_cases h6 : ss.length = 6
      · refine itbT (decide_eq_true (by rw [List.length_map, h6]; rfl)) ⟨_, rfl, q a H (fun _ _ h => h) ?_⟩
        rw [ha]
        unfold wG
        rw [if_pos (.inr h6)]
      refine itbF (decide_eq_false fun h => ?_) ?_
      · have := V.int.inj h
        rw [List.length_map] at this
        omega
      · refine ⟨_, rfl, a, _, rfl, .inl (st ha), .str z, rfl, lt1 _ (by rw [List.length_append, List.length_map]; show ss.length + 1 ≤ 100000; omega), fun l nl => ?_⟩
        have e : ss.map V.str ++ [V.str z] = (ss ++ [z]).map V.str := by rw [List.map_append]; rfl
        have s1 := same_new (o := .lst (ss.map V.str ++ [V.str z])) nl
        refine ⟨l, ss ++ [z], rfl, sq (by rw [upd_same, e]), by rw [List.length_append]; show ss.length + 1 < 64; omega, fun ys p hp hs np => ?_⟩
        have hy : ys = wG ss z := by
          unfold wG
          rw [if_neg (fun h => h.elim hm h6)]
          exact sorted_ins hu.asc hm hp hs
        refine ⟨p, _, rfl, .inl ⟨sq upd_same, fun b nb => ?_⟩⟩
        exact q b _ ((s1.new np).new nb) (by rw [upd_same, hy])
theorem ok_wout {f : Addr} {fd : FuncData} (T : Bk mg) (F : Fun K "_without_sign" "_without_sign" sWout f fd) : FnOk P w K mg base CX0 1 f fd nWith spWout := by
  have nd := scWout.nd
  refine F.ok scWout (fun vs H Q E h => ?_) (fun cdv A outer s H vs Q E hr h => ?_)
  · obtain ⟨a, ss, z, rfl, _⟩ := h
    rfl
  · obtain ⟨a, ss, z, rfl, ha, hu, hz, q⟩ := h
    have hl := hu.len
    refine ⟨_, (pss_one (ps_ret (pe_callTy (call_tuple_ofK (K := K) rfl) (by rfl) T.tuple PyProof.Rows.boot_tuple (pa_cons (pe_lc (own := [("old", 2)]) (g := gName 2) rfl nd (pi_tupK (K := K) rfl (pv 0)) (blkOk_by (own := [("old", 2)]) (N := nWout) (sc := defScope sWout) (by decide +kernel)) (fun _ _ _ _ _ => pg_name (i := 2) nd rfl (Or.inl rfl)) (fun _ _ _ _ _ => pts_one (pt_cmpR op_ne (pv 2) (pv 1) (nomark _))) (fun _ _ _ _ _ => (pv 2))) pa_nil)))), ?_⟩
    refine ⟨_, rfl, a, rfl, ⟨_, st ha⟩, fun D hD => ?_⟩
    refine lc_tup (K := K) (a := a) (xs := ss.map V.str) (fun i H2 => Same H H2 ∧ H2 D = some (.lst ((nS (ss.take i) z).map V.str))) ⟨same_new hD, upd_same⟩ (fun i H2 _ h => st (h.1 _ _ ha)) ?_ ?_
    · rintro i y H2 hy ⟨s2, h2⟩
      rw [List.getElem?_map] at hy
      cases he : ss[i]? with
      | none => rw [he] at hy; cases hy
      | some x =>
        rw [he] at hy
        obtain rfl := (Option.some.inj hy).symm
        refine ⟨rfl, _, rfl, _, rfl, rfl, _, rfl, ?_⟩
        have hlen : (nS (ss.take i) z).length ≤ 6 := Nat.le_trans (List.length_filter_le _ _) (by rw [List.length_take]; omega)
        have e1 : nS (ss.take (i + 1)) z = nS (ss.take i) z ++ (if x = z then [] else [x]) := by
          unfold nS
          rw [take_more he, List.filter_append]
          by_cases c : x = z <;> simp [c]
        by_cases c : x = z
        · refine itbF (by rw [c]; simp) ?_
          rw [if_pos c, List.append_nil] at e1
          exact ⟨s2, by rw [e1]; exact h2⟩
        · refine itbT (by rw [decide_eq_false (fun h => c (V.str.inj h))]; rfl) ⟨_, rfl, _, h2, lt2 _ (by rw [List.length_map]; omega), s2.mut hD, ?_⟩
          rw [upd_same, e1, if_neg c, List.map_append]; rfl
    · rintro H2 ⟨s2, h2⟩
      rw [List.length_map, List.take_length] at h2
      exact ⟨D, _, rfl, .inl ⟨sq h2, fun b nb => q b _ (s2.new nb) upd_same⟩⟩
end
end K1


set_option Elab.async false
set_option linter.all false
set_option maxRecDepth 100000
set_option maxHeartbeats 2000000
namespace K1
open PySem PySem.Spec PyProof.Rows L2 RZ StX
/-! ### methods -/
structure MDef (P : Program) (w : World) (K : PySem.W.Frag) (mg : Str → Option Value) (base : Heap) (CX : CXT) (k : Nat) (C : Addr) (m : Str) (ps : List Str) (sp : Sp) : Prop where
  ex : ∃ (f : Addr) (fd : FuncData), Meth K C m f ∧ Binds K fd ps [] ∧ FnOk P w K mg base CX k f fd ps sp
section
variable {X : Cx} {CX : CXT} {k : Nat} {ps : List Str} {sp : Sp} {E : XK} {m : Str} {pos apos : Pos} {o e : Expr} {es : List Expr} {ta : TE} {t : TA} {C : Addr}
theorem pe_mdef {pl : Sem Bool} (D : MDef X.prog X.w X.K X.mg X.base CX k C m ps sp) (c : Cls X.K C) (hr : Room k X.A) (hx : Passes CX X E) (he : PE X o ta) (ha : PA X (e :: es) t)
    (hst : starEach (e :: es) X.env = (false, eval e X.env) :: starEach es X.env := by rfl) (hpl : (backTo pos (starEach es X.env)).any (·.1) = false := by rfl)
    (ht : eval (.Call (.Attribute o m apos) (e :: es) [] pos) X.env = (do
      let ov ← eval o X.env
      standAt apos.atName
      let (f, first) ← holding [ov] (getMethod ov m pl)
      callWith pos f first (backTo pos (starEach (e :: es) X.env)) (backToKw pos (keywordEach [] X.env))) := by rfl) :
    PE X (.Call (.Attribute o m apos) (e :: es) [] pos) (tMeth C m sp [] E ta t) := by
  obtain ⟨f, fd, hm, hb, F⟩ := D.ex
  exact pe_meth he c hm F hr hb .nil hx ha hst hpl ht
theorem pe_mdef0 {pl : Sem Bool} (D : MDef X.prog X.w X.K X.mg X.base CX k C m ps sp) (c : Cls X.K C) (hr : Room k X.A) (hx : Passes CX X E) (he : PE X o ta)
    (ht : eval (.Call (.Attribute o m apos) [] [] pos) X.env = (do
      let ov ← eval o X.env
      standAt apos.atName
      let (f, first) ← holding [ov] (getMethod ov m pl)
      callWith pos f first (backTo pos (starEach [] X.env)) (backToKw pos (keywordEach [] X.env))) := by rfl) :
    PE X (.Call (.Attribute o m apos) [] [] pos) (tMeth C m sp [] E ta tNil) := by
  obtain ⟨f, fd, hm, hb, F⟩ := D.ex
  exact pe_meth0 he c hm F hr hb .nil hx ht
end
/-! ### folders -/
def flds (a l n m g c : V) : List (Str × V) := [("_age", a), ("_letters", l), ("_next_number", n), ("_mark", m), ("_gone", g), ("_cut", c)]
section
variable {a l n m g c y : V}
theorem fl_age : (flds a l n m g c).lookup ("_age" : Str) = some a := by rfl
theorem fl_let : (flds a l n m g c).lookup ("_letters" : Str) = some l := by rfl
theorem fl_nx : (flds a l n m g c).lookup ("_next_number" : Str) = some n := by rfl
theorem fl_mk : (flds a l n m g c).lookup ("_mark" : Str) = some m := by rfl
theorem fl_gone : (flds a l n m g c).lookup ("_gone" : Str) = some g := by rfl
theorem fl_cut : (flds a l n m g c).lookup ("_cut" : Str) = some c := by rfl
theorem fl_no {x : Str} (h : (["_age", "_letters", "_next_number", "_mark", "_gone", "_cut"] : List Str).all (fun z => !(x == z)) = true) : (flds a l n m g c).lookup x = none := by
  simp only [List.all_cons, List.all_nil, Bool.and_eq_true, Bool.not_eq_true'] at h
  obtain ⟨h1, h2, h3, h4, h5, h6, _⟩ := h
  unfold flds
  simp only [List.lookup, h1, h2, h3, h4, h5, h6]
theorem pu_let : putF "_letters" y (flds a l n m g c) = flds a y n m g c := by rfl
theorem pu_nx : putF "_next_number" y (flds a l n m g c) = flds a l y m g c := by rfl
theorem pu_mk : putF "_mark" y (flds a l n m g c) = flds a l n y g c := by rfl
theorem pu_gone : putF "_gone" y (flds a l n m g c) = flds a l n m y c := by rfl
theorem pu_cut : putF "_cut" y (flds a l n m g c) = flds a l n m g y := by rfl
theorem pu_all : putF "_cut" c (putF "_gone" g (putF "_mark" m (putF "_next_number" n (putF "_letters" l (putF "_age" a []))))) = flds a l n m g c := by rfl
end
structure Lt where
  n : Int
  b : Int
  s : List Str
  m : Int
structure Fo where
  age : Int
  ls : List Lt
  nx : Int
  mr : Int
  go : List (Int × Int)
  ct : Int
def ltD (l : Lt) : PyData := .tuple [.int l.n, .int l.b, .tuple (l.s.map PyData.str), .int l.m]
def goD (g : Int × Int) : PyData := .tuple [.int g.1, .int g.2]
def lsD (ls : List Lt) : PyData := .tuple (ls.map ltD)
def gsD (go : List (Int × Int)) : PyData := .tuple (go.map goD)
def FoAt (C : Addr) (H : Hp) (p : Addr) (F : Fo) : Prop := ∃ dx tl tg, H p = some (.ins C dx (flds (.int F.age) (.ref tl) (.int F.nx) (.int F.mr) (.ref tg) (.int F.ct))) ∧ Dv H (.ref tl) (lsD F.ls) ∧ Dv H (.ref tg) (gsD F.go)
theorem FoAt.same {C p : Addr} {H H' : Hp} {F : Fo} (h : FoAt C H p F) (s : Same H H') : FoAt C H' p F := let ⟨dx, tl, tg, a, b, c⟩ := h; ⟨dx, tl, tg, s _ _ a, b.same s, c.same s⟩
/-- what the class must have -/
structure ClT (K : PySem.W.Frag) (mg : Str → Option Value) (C : Addr) : Prop where
  cl : Cls K C
  gC : mg "Folder" = some (.ref C)
  nA : NoAttr K C "_age"
  nL : NoAttr K C "_letters"
  nN : NoAttr K C "_next_number"
  nM : NoAttr K C "_mark"
  nG : NoAttr K C "_gone"
  nC : NoAttr K C "_cut"
def mS (i : Nat) : Stmt := inClass st_Folder i
abbrev sInit : Stmt := mS 0
abbrev sLetters : Stmt := mS 3
abbrev sNext : Stmt := mS 4
abbrev sMark : Stmt := mS 5
abbrev sGone : Stmt := mS 6
abbrev sApp : Stmt := mS 8
abbrev sCopied : Stmt := mS 14
abbrev nInit : List Str := ["self", "age"]
theorem scInit : FnScope nInit nInit (defScope sInit) := ⟨rfl, rfl, rfl, by decide +kernel, rfl, by decide +kernel, by decide +kernel⟩
abbrev nSelf : List Str := ["self"]
theorem scLetters : FnScope nSelf nSelf (defScope sLetters) := ⟨rfl, rfl, rfl, by decide +kernel, rfl, by decide +kernel, by decide +kernel⟩
theorem scNext : FnScope nSelf nSelf (defScope sNext) := ⟨rfl, rfl, rfl, by decide +kernel, rfl, by decide +kernel, by decide +kernel⟩
theorem scMark : FnScope nSelf nSelf (defScope sMark) := ⟨rfl, rfl, rfl, by decide +kernel, rfl, by decide +kernel, by decide +kernel⟩
theorem scGone : FnScope nSelf nSelf (defScope sGone) := ⟨rfl, rfl, rfl, by decide +kernel, rfl, by decide +kernel, by decide +kernel⟩
abbrev nApp : List Str := ["self", "body", "signs", "folder"]
abbrev pApp : List Str := ["self", "body", "signs"]
theorem scApp : FnScope nApp pApp (defScope sApp) := ⟨rfl, rfl, rfl, by decide +kernel, rfl, by decide +kernel, by decide +kernel⟩
abbrev nCopied : List Str := ["self", "folder"]
theorem scCopied : FnScope nCopied nSelf (defScope sCopied) := ⟨rfl, rfl, rfl, by decide +kernel, rfl, by decide +kernel, by decide +kernel⟩
def fNew (a : Int) : Fo := ⟨a, [], 1, 0, [], 0⟩
def spInit (C : Addr) : Sp := fun vs H Q _ => ∃ (p dx : Addr) (a : Int), vs = [.ref p, .int a] ∧ H p = some (.ins C dx []) ∧ 1 ≤ a ∧
  ∀ H' tl tg, (∀ b o, b ≠ p → H b = some o → H' b = some o) → H' p = some (.ins C dx (flds (.int a) (.ref tl) (.int 1) (.int 0) (.ref tg) (.int 0))) → H' tl = some (.tup []) → H' tg = some (.tup []) → Q .non H'
def spLetters (C : Addr) : Sp := fun vs H Q _ => ∃ (p : Addr) (F : Fo), vs = [.ref p] ∧ FoAt C H p F ∧ ∀ l H', Same H H' → H l = none → Dv H' (.ref l) (.list (F.ls.map ltD)) → Q (.ref l) H'
def spGone (C : Addr) : Sp := fun vs H Q _ => ∃ (p : Addr) (F : Fo), vs = [.ref p] ∧ FoAt C H p F ∧ ∀ l H', Same H H' → H l = none → Dv H' (.ref l) (.list (F.go.map goD)) → Q (.ref l) H'
def spNext (C : Addr) : Sp := fun vs H Q _ => ∃ (p : Addr) (F : Fo), vs = [.ref p] ∧ FoAt C H p F ∧ Q (.int F.nx) H
def spMark (C : Addr) : Sp := fun vs H Q _ => ∃ (p : Addr) (F : Fo), vs = [.ref p] ∧ FoAt C H p F ∧ Q (.int F.mr) H
def spCopied (C : Addr) : Sp := fun vs H Q _ => ∃ (p dx tl tg : Addr) (a n m c : Int), vs = [.ref p] ∧ H p = some (.ins C dx (flds (.int a) (.ref tl) (.int n) (.int m) (.ref tg) (.int c))) ∧ 1 ≤ a ∧
  ∀ q dq H', Same H H' → H q = none → H' q = some (.ins C dq (flds (.int a) (.ref tl) (.int n) (.int m) (.ref tg) (.int c))) → Q (.ref q) H'
def fApp (F : Fo) (b : Int) (s : List Str) : Fo := { F with ls := F.ls ++ [⟨F.nx, b, s, F.mr + 1⟩], nx := F.nx + 1, mr := F.mr + 1 }
def spApp (C : Addr) : Sp := fun vs H Q _ => ∃ (p sg : Addr) (F : Fo) (b : Int) (ss : List Str), vs = [.ref p, .int b, .ref sg] ∧ FoAt C H p F ∧ 1 ≤ F.age ∧ 0 ≤ b ∧ H sg = some (.tup (ss.map V.str)) ∧ OkSs ss ∧ F.ls.length ≤ 1000 ∧
  ∀ q H', Same H H' → H q = none → FoAt C H' q (fApp F b ss) → Q (.ref q) H'
theorem dv_strs {H : Hp} : ∀ ss : List Str, DvA H (ss.map V.str) (ss.map PyData.str)
  | [] => .nil
  | s :: r => .cons (.str s) (dv_strs r)
section
variable {P : Program} {w : World} {K : PySem.W.Frag} {mg : Str → Option Value} {base : Heap} {C : Addr}
theorem ok_init {f : Addr} {fd : FuncData} (t : ClT K mg C) (D_is_number : Def P w K mg base CX0 2 "is_number" pV spNum) (F : Fun K "__init__" "Folder.__init__" sInit f fd) : FnOk P w K mg base CX0 3 f fd nInit (spInit C) := by
  refine F.ok scInit (fun vs H Q E h => ?_) (fun cdv A outer s H vs Q E hr h => ?_)
  · obtain ⟨p, dx, a, rfl, _⟩ := h
    rfl
  · obtain ⟨p, dx, a, rfl, hp, ha, q⟩ := h
    refine ⟨_, pss_cons (ps_if (pt_not (pt_val (pe_def D_is_number (hr.mono (by decide)) rfl pass0 (pa_cons (pv 1) pa_nil)))) pss_any pss_nil)
 (pss_cons (ps_fld (pv 0) (pv 1) rfl)
 (pss_cons (ps_fld (pv 0) (pe_tup pa_nil) rfl)
 (pss_cons (ps_fld (pv 0) pe_int rfl)
 (pss_cons (ps_fld (pv 0) pe_int rfl)
 (pss_cons (ps_fld (pv 0) (pe_tup pa_nil) rfl)
 (pss_one (ps_fld (pv 0) pe_int rfl))))))), ?_⟩
    refine ⟨_, rfl, a, rfl, ha, _, rfl, itbF rfl ?_⟩
    refine ⟨_, rfl, _, rfl, p, C, dx, [], rfl, hp, t.cl, t.nA, by show 0 < 1000; decide, ?_⟩
    refine ⟨Nat.zero_le _, fun tl ntl => ?_⟩
    have n1 : p ≠ tl := ne_of_none (show (upd H p (.ins C dx (putF "_age" (.int a) []))) p = some _ from upd_same) ntl
    refine ⟨_, rfl, p, C, dx, _, rfl, (by rw [upd_ne n1]; exact upd_same), t.cl, t.nL, by show 1 < 1000; decide, ?_⟩
    refine ⟨_, rfl, p, C, dx, _, rfl, upd_same, t.cl, t.nN, by show 2 < 1000; decide, ?_⟩
    refine ⟨_, rfl, p, C, dx, _, rfl, upd_same, t.cl, t.nM, by show 3 < 1000; decide, ?_⟩
    refine ⟨Nat.zero_le _, fun tg ntg => ?_⟩
    have n2 : p ≠ tg := ne_of_none (by exact upd_same) ntg
    have n3 : tl ≠ tg := fun z => by
      subst z
      rw [upd_ne n1.symm, upd_ne n1.symm, upd_ne n1.symm, upd_same] at ntg
      cases ntg
    refine ⟨_, rfl, p, C, dx, _, rfl, (by rw [upd_ne n2]; exact upd_same), t.cl, t.nG, by show 4 < 1000; decide, ?_⟩
    refine ⟨_, rfl, p, C, dx, _, rfl, upd_same, t.cl, t.nC, by show 5 < 1000; decide, ?_⟩
    refine q _ tl tg (fun b o nb hb => ?_) upd_same ?_ ?_
    · have hb0 : (upd H p (.ins C dx (putF "_age" (.int a) []))) b = some o := by rw [upd_ne nb]; exact hb
      rw [upd_ne nb, upd_ne nb, upd_ne (fun z => by
        subst z
        rw [upd_ne nb, upd_ne nb, upd_ne nb, upd_ne (ne_of_none hb0 ntl), upd_ne nb] at ntg
        rw [hb] at ntg; cases ntg), upd_ne nb, upd_ne nb, upd_ne nb, upd_ne (ne_of_none hb0 ntl)]
      exact hb0
    · rw [upd_ne n1.symm, upd_ne n1.symm, upd_ne n3, upd_ne n1.symm, upd_ne n1.symm, upd_ne n1.symm, upd_same]
    · rw [upd_ne n2.symm, upd_ne n2.symm, upd_same]
theorem ok_letters {f : Addr} {fd : FuncData} (T : Bk mg) (t : ClT K mg C) (F : Fun K "letters" "Folder.letters" sLetters f fd) : FnOk P w K mg base CX0 1 f fd nSelf (spLetters C) := by
  refine F.ok scLetters (fun vs H Q E h => ?_) (fun cdv A outer s H vs Q E hr h => ?_)
  · obtain ⟨p, F, rfl, _⟩ := h
    rfl
  · obtain ⟨p, F, rfl, ⟨dx, tl, tg, hp, h1, h2⟩, q⟩ := h
    refine ⟨_, pss_one (ps_ret (pe_callTy (call_list_ofK (K := K) rfl) (by rfl) T.list PyProof.Rows.boot_list (pa_cons (pe_fld (pv 0) rfl) pa_nil))), ?_⟩
    cases h1 with
    | tup e r => exact ⟨_, rfl, p, C, dx, _, _, rfl, hp, t.cl, t.nL, fl_let, tl, _, rfl, .inr (st e), fun l nl => q l _ (same_new nl) nl (.lst upd_same (r.same (same_new nl)))⟩
theorem ok_gone {f : Addr} {fd : FuncData} (T : Bk mg) (t : ClT K mg C) (F : Fun K "gone" "Folder.gone" sGone f fd) : FnOk P w K mg base CX0 1 f fd nSelf (spGone C) := by
  refine F.ok scGone (fun vs H Q E h => ?_) (fun cdv A outer s H vs Q E hr h => ?_)
  · obtain ⟨p, F, rfl, _⟩ := h
    rfl
  · obtain ⟨p, F, rfl, ⟨dx, tl, tg, hp, h1, h2⟩, q⟩ := h
    refine ⟨_, pss_one (ps_ret (pe_callTy (call_list_ofK (K := K) rfl) (by rfl) T.list PyProof.Rows.boot_list (pa_cons (pe_fld (pv 0) rfl) pa_nil))), ?_⟩
    cases h2 with
    | tup e r => exact ⟨_, rfl, p, C, dx, _, _, rfl, hp, t.cl, t.nG, fl_gone, tg, _, rfl, .inr (st e), fun l nl => q l _ (same_new nl) nl (.lst upd_same (r.same (same_new nl)))⟩
theorem ok_next {f : Addr} {fd : FuncData} (t : ClT K mg C) (F : Fun K "next_number" "Folder.next_number" sNext f fd) : FnOk P w K mg base CX0 1 f fd nSelf (spNext C) := by
  refine F.ok scNext (fun vs H Q E h => ?_) (fun cdv A outer s H vs Q E hr h => ?_)
  · obtain ⟨p, F, rfl, _⟩ := h
    rfl
  · obtain ⟨p, F, rfl, ⟨dx, tl, tg, hp, h1, h2⟩, q⟩ := h
    exact ⟨_, pss_one (ps_ret (pe_fld (pv 0) rfl)), ⟨_, rfl, p, C, dx, _, _, rfl, hp, t.cl, t.nN, fl_nx, q⟩⟩
theorem ok_mark {f : Addr} {fd : FuncData} (t : ClT K mg C) (F : Fun K "mark" "Folder.mark" sMark f fd) : FnOk P w K mg base CX0 1 f fd nSelf (spMark C) := by
  refine F.ok scMark (fun vs H Q E h => ?_) (fun cdv A outer s H vs Q E hr h => ?_)
  · obtain ⟨p, F, rfl, _⟩ := h
    rfl
  · obtain ⟨p, F, rfl, ⟨dx, tl, tg, hp, h1, h2⟩, q⟩ := h
    exact ⟨_, pss_one (ps_ret (pe_fld (pv 0) rfl)), ⟨_, rfl, p, C, dx, _, _, rfl, hp, t.cl, t.nM, fl_mk, q⟩⟩
end
end K1


set_option Elab.async false
set_option linter.all false
set_option maxRecDepth 100000
set_option maxHeartbeats 2000000
namespace K1
open PySem PySem.Spec PyProof.Rows L2 RZ StX
/-- the making of a folder -/
structure MkD (P : Program) (w : World) (K : PySem.W.Frag) (mg : Str → Option Value) (base : Heap) (C : Addr) : Prop where
  ex : ∃ (f : Addr) (fd : FuncData), Mk K C f ∧ Binds K fd nInit [] ∧ FnOk P w K mg base CX0 3 f fd nInit (spInit C)
theorem pe_new {X : Cx} {C : Addr} {e : Expr} {t : TA} {p pos : Pos} (D : MkD X.prog X.w X.K X.mg X.base C) (gC : X.mg "Folder" = some (.ref C)) (hr : Room 4 X.A) (hg : Gl X "Folder") (ha : PA X [e] t)
    (he : starEach [e] X.env = (false, eval e X.env) :: starEach [] X.env := by rfl) : PE X (.Call (.Name "Folder" p) [e] [] pos) (tMake C (spInit C) [] E0 t) := by
  obtain ⟨f, fd, hm, hb, F⟩ := D.ex
  exact pe_make hm F hr hg gC hb .nil pass0 ha (he := he)
theorem Dv.tups {H : Hp} {a : Addr} {ds : List PyData} (h : Dv H (.ref a) (.tuple ds)) : ∃ xs, H a = some (.tup xs) ∧ DvA H xs ds := by
  cases h with
  | tup e r => exact ⟨_, e, r⟩
/-- a heap behind which one new object may be changed -/
theorem same_but {H H' : Hp} {q : Addr} {o : HO} (s : Same H H') (n : H q = none) : Same H (upd H' q o) := s.mut n
section
variable {P : Program} {w : World} {K : PySem.W.Frag} {mg : Str → Option Value} {base : Heap} {C : Addr}
theorem ok_copied {f : Addr} {fd : FuncData} (t : ClT K mg C) (D_new : MkD P w K mg base C) (F : Fun K "_copied" "Folder._copied" sCopied f fd) : FnOk P w K mg base CX0 5 f fd nSelf (spCopied C) := by
  have nd := scCopied.nd
  refine F.ok scCopied (fun vs H Q E h => ?_) (fun cdv A outer s H vs Q E hr h => ?_)
  · obtain ⟨p, dx, tl, tg, a, n, m, c, rfl, _⟩ := h
    rfl
  · obtain ⟨p, dx, tl, tg, a, n, m, c, rfl, hp, ha, q⟩ := h
    refine ⟨_, pss_cons (ps_set (i := 1) nd rfl (Or.inl rfl) (pe_new D_new t.gC (hr.mono (by decide)) rfl (pa_cons (pe_fld (pv 0) rfl) pa_nil)))
 (pss_cons (ps_fld (pv 1) (pe_fld (pv 0) rfl) rfl)
 (pss_cons (ps_fld (pv 1) (pe_fld (pv 0) rfl) rfl)
 (pss_cons (ps_fld (pv 1) (pe_fld (pv 0) rfl) rfl)
 (pss_cons (ps_fld (pv 1) (pe_fld (pv 0) rfl) rfl)
 (pss_cons (ps_fld (pv 1) (pe_fld (pv 0) rfl) rfl)
 (pss_one (ps_ret (pv 1)))))))), ?_⟩
    refine ⟨_, rfl, p, C, dx, _, _, rfl, hp, t.cl, t.nA, fl_age, fun x dq nx ndq hne => ⟨x, dq, a, rfl, upd_same, ha, fun H' tl' tg' keep hx _ _ => ⟨rfl, ?_⟩⟩⟩
    have s1 : Same H H' := fun b o hb => keep b o (ne_of_none hb nx) (by rw [upd_ne (ne_of_none hb nx), upd_ne (ne_of_none hb ndq)]; exact hb)
    have npx : p ≠ x := ne_of_none hp nx
    have hp1 := s1 _ _ hp
    have step : ∀ (H1 : Hp), H1 p = some (.ins C dx (flds (.int a) (.ref tl) (.int n) (.int m) (.ref tg) (.int c))) → ∀ o, (upd H1 x o) p = some (.ins C dx (flds (.int a) (.ref tl) (.int n) (.int m) (.ref tg) (.int c))) := fun H1 h o => by rw [upd_ne npx]; exact h
    refine ⟨_, rfl, p, C, dx, _, _, rfl, hp1, t.cl, t.nL, fl_let, _, rfl, x, C, dq, _, rfl, hx, t.cl, t.nL, by show 6 < 1000; decide, ?_⟩
    rw [pu_let]
    refine ⟨_, rfl, p, C, dx, _, _, rfl, step _ hp1 _, t.cl, t.nN, fl_nx, _, rfl, x, C, dq, _, rfl, upd_same, t.cl, t.nN, by show 6 < 1000; decide, ?_⟩
    rw [pu_nx]
    refine ⟨_, rfl, p, C, dx, _, _, rfl, step _ (step _ hp1 _) _, t.cl, t.nM, fl_mk, _, rfl, x, C, dq, _, rfl, upd_same, t.cl, t.nM, by show 6 < 1000; decide, ?_⟩
    rw [pu_mk]
    refine ⟨_, rfl, p, C, dx, _, _, rfl, step _ (step _ (step _ hp1 _) _) _, t.cl, t.nG, fl_gone, _, rfl, x, C, dq, _, rfl, upd_same, t.cl, t.nG, by show 6 < 1000; decide, ?_⟩
    rw [pu_gone]
    refine ⟨_, rfl, p, C, dx, _, _, rfl, step _ (step _ (step _ (step _ hp1 _) _) _) _, t.cl, t.nC, fl_cut, _, rfl, x, C, dq, _, rfl, upd_same, t.cl, t.nC, by show 6 < 1000; decide, ?_⟩
    rw [pu_cut]
    exact ⟨_, rfl, q x dq _ (((((s1.mut nx).mut nx).mut nx).mut nx).mut nx) nx upd_same⟩
theorem ok_app {f : Addr} {fd : FuncData} (t : ClT K mg C) (D_is_body : Def P w K mg base CX0 2 "is_body" pV spBody) (D_is_signs : Def P w K mg base CX0 2 "is_signs" pV spSigns) (M_copied : MDef P w K mg base CX0 5 C "_copied" nSelf (spCopied C))
    (F : Fun K "appended" "Folder.appended" sApp f fd) : FnOk P w K mg base CX0 6 f fd pApp (spApp C) := by
  have nd := scApp.nd
  refine F.ok scApp (fun vs H Q E h => ?_) (fun cdv A outer s H vs Q E hr h => ?_)
  · obtain ⟨p, sg, F, b, ss, rfl, _⟩ := h
    rfl
  · obtain ⟨p, sg, F, b, ss, rfl, ⟨dx, tl, tg, hp, h1, h2⟩, ha, hb, hs, hu, hl, q⟩ := h
    refine ⟨_, pss_cons (ps_if (pt_not (pt_val (pe_def D_is_body (hr.mono (by decide)) rfl pass0 (pa_cons (pv 1) pa_nil)))) pss_any pss_nil)
 (pss_cons (ps_if (pt_not (pt_val (pe_def D_is_signs (hr.mono (by decide)) rfl pass0 (pa_cons (pv 2) pa_nil)))) pss_any pss_nil)
 (pss_cons (ps_set (i := 3) nd rfl (Or.inl rfl) (pe_mdef0 M_copied t.cl (hr.mono (by decide)) pass0 (pv 0)))
 (pss_cons (ps_fldaug (pv 3) pe_int in_add)
 (pss_cons (ps_fld (pv 3) (pe_tup (pa_star (pe_fld (pv 0) rfl) (pa_cons (pe_tup (pa_cons (pe_fld (pv 0) rfl) (pa_cons (pv 1) (pa_cons (pv 2) (pa_cons (pe_fld (pv 3) rfl) pa_nil))))) pa_nil))) rfl)
 (pss_cons (ps_fldaug (pv 3) pe_int in_add)
 (pss_one (ps_ret (pv 3)))))))), ?_⟩
    refine ⟨_, rfl, b, rfl, hb, _, rfl, itbF rfl ?_⟩
    refine ⟨_, rfl, sg, ss, rfl, hs, okSs_iff.mpr hu, fun H1 s1 => ⟨_, rfl, itbF rfl ?_⟩⟩
    refine ⟨_, rfl, p, dx, _, rfl, s1 _ _ hp, fl_no (by decide +kernel), p, dx, tl, tg, F.age, F.nx, F.mr, F.ct, rfl, s1 _ _ hp, ha, fun x dq H2 s2 nx hx => ?_⟩
    have s12 := s1.trans s2
    have nxH : H x = none := s1.free nx
    have npx : p ≠ x := ne_of_none (s1 _ _ hp) nx
    refine ⟨_, rfl, x, C, dq, _, _, rfl, hx, t.cl, t.nM, fl_mk, _, _, rfl, rfl, dq, _, hx, by show 6 < 1000; decide, ?_⟩
    rw [pu_mk]
    have sA : Same H (upd H2 x (.ins C dq (flds (.int F.age) (.ref tl) (.int F.nx) (.int (F.mr + 1)) (.ref tg) (.int F.ct)))) := s12.mut nxH
    have hxA : (upd H2 x (.ins C dq (flds (.int F.age) (.ref tl) (.int F.nx) (.int (F.mr + 1)) (.ref tg) (.int F.ct)))) x = _ := upd_same
    generalize upd H2 x (.ins C dq (flds (.int F.age) (.ref tl) (.int F.nx) (.int (F.mr + 1)) (.ref tg) (.int F.ct))) = HA at sA hxA
    obtain ⟨xs, e0, r0⟩ := Dv.tups h1
    refine ⟨_, rfl, p, C, dx, _, _, rfl, sA _ _ hp, t.cl, t.nL, fl_let, tl, xs, rfl, .inl (st (sA _ _ e0)), ?_⟩
    refine ⟨_, rfl, p, C, dx, _, _, rfl, sA _ _ hp, t.cl, t.nN, fl_nx, _, rfl, _, rfl, _, rfl, x, C, dq, _, _, rfl, hxA, t.cl, t.nM, fl_mk, by show 4 ≤ sizeLine; decide, fun lt nlt => ⟨?_, fun tn ntn => ?_⟩⟩
    · have hlen := r0.len
      rw [List.length_map] at hlen
      exact lt1 _ (by rw [List.length_append, hlen]; show F.ls.length + 1 ≤ 100000; omega)
    · have sB := (sA.new nlt (o := .tup [.int F.nx, .int b, .ref sg, .int (F.mr + 1)])).new ntn (o := .tup (xs ++ [.ref lt]))
      have nxl : x ≠ lt := ne_of_none hxA nlt
      have nxt : x ≠ tn := ne_of_none (by rw [upd_ne nxl]; exact hxA) ntn
      have hlt : (upd (upd HA lt (.tup [.int F.nx, .int b, .ref sg, .int (F.mr + 1)])) tn (.tup (xs ++ [.ref lt]))) lt = some (.tup [.int F.nx, .int b, .ref sg, .int (F.mr + 1)]) := same_new ntn _ _ upd_same
      refine ⟨_, rfl, x, C, dq, _, rfl, (by rw [upd_ne nxt, upd_ne nxl]; exact hxA), t.cl, t.nL, by show 6 < 1000; decide, ?_⟩
      rw [pu_let]
      refine ⟨_, rfl, x, C, dq, _, _, rfl, upd_same, t.cl, t.nN, fl_nx, _, _, rfl, rfl, dq, _, upd_same, by show 6 < 1000; decide, ?_⟩
      rw [pu_nx]
      have sC := (sB.mut nxH (o := .ins C dq (flds (.int F.age) (.ref tn) (.int F.nx) (.int (F.mr + 1)) (.ref tg) (.int F.ct)))).mut nxH (o := .ins C dq (flds (.int F.age) (.ref tn) (.int (F.nx + 1)) (.int (F.mr + 1)) (.ref tg) (.int F.ct)))
      refine ⟨_, rfl, q x _ sC nxH ⟨dq, tn, tg, upd_same, ?_, h2.same sC⟩⟩
      have rl := r0.same sC
      refine .tup (xs := xs ++ [.ref lt]) (by rw [upd_ne nxt.symm, upd_ne nxt.symm, upd_same]) ?_
      have em : (fApp F b ss).ls.map ltD = F.ls.map ltD ++ [ltD ⟨F.nx, b, ss, F.mr + 1⟩] := by unfold fApp; rw [List.map_append]; rfl
      rw [em]
      refine rl.app (.cons (.tup (by rw [upd_ne nxl.symm, upd_ne nxl.symm]; exact hlt) (.cons (.int _) (.cons (.int _) (.cons (.tup (sC _ _ hs) (dv_strs ss)) (.cons (.int _) .nil))))) .nil)
end
end K1


set_option Elab.async false
set_option linter.all false
set_option maxRecDepth 100000
set_option maxHeartbeats 2000000
namespace K1
open PySem PySem.Spec PyProof.Rows L2 RZ StX
/-! ### data of tuples alone -/
mutual
def tO : PyData → Bool
  | .list _ => false
  | .tuple xs => tOA xs
  | .dict _ => false
  | _ => true
def tOA : List PyData → Bool
  | [] => true
  | x :: r => tO x && tOA r
end
mutual
theorem Dv.mut {H : Hp} {a : Addr} {o o' : HO} (ha : H a = some o) (no : ∀ xs, o ≠ .tup xs) : ∀ {v : V} {d : PyData}, Dv H v d → tO d = true → Dv (upd H a o') v d
  | _, _, .non, _ => .non
  | _, _, .bl b, _ => .bl b
  | _, _, .int i, _ => .int i
  | _, _, .str x, _ => .str x
  | _, _, .lst h r, n => by cases n
  | _, _, .tup h r, n => .tup (by rw [upd_ne (fun z => by subst z; rw [h] at ha; cases ha; exact no _ rfl)]; exact h) (DvA.mut ha no r n)
  | _, _, .dic h, n => by cases n
theorem DvA.mut {H : Hp} {a : Addr} {o o' : HO} (ha : H a = some o) (no : ∀ xs, o ≠ .tup xs) : ∀ {vs : List V} {ds : List PyData}, DvA H vs ds → tOA ds = true → DvA (upd H a o') vs ds
  | _, _, .nil, _ => .nil
  | _, _, .cons h r, n => .cons (Dv.mut ha no h ((Bool.and_eq_true _ _).mp n).1) (DvA.mut ha no r ((Bool.and_eq_true _ _).mp n).2)
end
theorem tO_strs : ∀ ss : List Str, tOA (ss.map PyData.str) = true
  | [] => rfl
  | s :: r => by
    show (true && tOA (r.map PyData.str)) = true
    rw [tO_strs r]; rfl
theorem tO_lt (l : Lt) : tO (ltD l) = true := by
  show (true && (true && (tOA (l.s.map PyData.str) && (true && true)))) = true
  rw [tO_strs]; rfl
theorem tO_lts : ∀ ls : List Lt, tOA (ls.map ltD) = true
  | [] => rfl
  | l :: r => by
    show (tO (ltD l) && tOA (r.map ltD)) = true
    rw [tO_lt, tO_lts r]; rfl
theorem tO_gos : ∀ gs : List (Int × Int), tOA (gs.map goD) = true
  | [] => rfl
  | l :: r => by
    show (true && tOA (r.map goD)) = true
    rw [tO_gos r]; rfl
/-! ### what the deeds make -/
def remL (ns : List Int) : List Lt → Int → List Lt × List (Int × Int) × Int
  | [], m => ([], [], m)
  | l :: r, m => if l.n ∈ ns then ((remL ns r (m + 1)).1, (m + 1, l.n) :: (remL ns r (m + 1)).2.1, (remL ns r (m + 1)).2.2) else (l :: (remL ns r m).1, (remL ns r m).2.1, (remL ns r m).2.2)
def fRem (F : Fo) (ns : List Int) : Fo := { F with ls := (remL ns F.ls F.mr).1, go := F.go ++ (remL ns F.ls F.mr).2.1, mr := (remL ns F.ls F.mr).2.2 }
def newS (ns : List Int) (g : List Str → List Str) (l : Lt) : List Str := if l.n ∈ ns then g l.s else l.s
def sigL (ns : List Int) (g : List Str → List Str) : List Lt → Int → List Lt × Int
  | [], m => ([], m)
  | l :: r, m => if newS ns g l = l.s then (l :: (sigL ns g r m).1, (sigL ns g r m).2) else (⟨l.n, l.b, newS ns g l, m + 1⟩ :: (sigL ns g r (m + 1)).1, (sigL ns g r (m + 1)).2)
def fSig (F : Fo) (ns : List Int) (g : List Str → List Str) : Fo := { F with ls := (sigL ns g F.ls F.mr).1, mr := (sigL ns g F.ls F.mr).2 }
abbrev sRem : Stmt := mS 12
abbrev nRem : List Str := ["self", "numbers", "chosen", "folder", "letters", "gone", "letter"]
abbrev pRem : List Str := ["self", "numbers"]
theorem scRem : FnScope nRem pRem (defScope sRem) := ⟨rfl, rfl, rfl, by decide +kernel, rfl, by decide +kernel, by decide +kernel⟩
/-- what a deed on numbers wants -/
structure NumsAt (H : Hp) (a : Addr) (ns : List Int) : Prop where
  at_ : SeqH H a (ns.map V.int)
  one : ∀ n ∈ ns, 1 ≤ n
  len : ns.length ≤ 1000
def spRem (C : Addr) : Sp := fun vs H Q _ => ∃ (p na : Addr) (F : Fo) (ns : List Int), vs = [.ref p, .ref na] ∧ FoAt C H p F ∧ 1 ≤ F.age ∧ NumsAt H na ns ∧ F.ls.length ≤ 1000 ∧ F.go.length ≤ 1000 ∧ ∀ q H', Same H H' → H q = none → FoAt C H' q (fRem F ns) → Q (.ref q) H'
theorem drop_cons {α : Type} {l : List α} {i : Nat} {x : α} (h : l[i]? = some x) : l.drop i = x :: l.drop (i + 1) := by
  have hi := lt_of_get h
  rw [List.drop_eq_getElem_cons hi]
  congr 1
  rw [List.getElem?_eq_getElem hi] at h
  exact Option.some.inj h
section
variable {P : Program} {w : World} {K : PySem.W.Frag} {mg : Str → Option Value} {base : Heap} {C : Addr}
theorem ok_rem {f : Addr} {fd : FuncData} (T : Bk mg) (t : ClT K mg C) (D_check_numbers : Def P w K mg base CX0 4 "_check_numbers" nCkNums spCkNums) (M_copied : MDef P w K mg base CX0 5 C "_copied" nSelf (spCopied C))
    (F : Fun K "removed" "Folder.removed" sRem f fd) : FnOk P w K mg base CX0 6 f fd pRem (spRem C) := by
  have nd := scRem.nd
  refine F.ok scRem (fun vs H Q E h => ?_) (fun cdv A outer s H vs Q E hr h => ?_)
  · obtain ⟨p, na, F, ns, rfl, _⟩ := h
    rfl
  · obtain ⟨p, na, F, ns, rfl, ⟨dx, tl, tg, hp, h1, h2⟩, ha, hn, hl, hgl, q⟩ := h
    refine ⟨_, pss_cons (ps_expr (pe_def D_check_numbers (hr.mono (by decide)) rfl pass0 (pa_cons (pv 1) pa_nil)))
 (pss_cons (ps_set (i := 2) nd rfl (Or.inl rfl) (pe_callTy (cr_setI (P := P) (w := w) (K := K) rfl rfl rfl rfl) (by rfl) T.set PyProof.Rows.boot_set (pa_cons (pv 1) pa_nil)))
 (pss_cons (ps_set (i := 3) nd rfl (Or.inl rfl) (pe_mdef0 M_copied t.cl (hr.mono (by decide)) pass0 (pv 0)))
 (pss_cons (ps_set (i := 4) nd rfl (Or.inl rfl) (pe_lst pa_nil))
 (pss_cons (ps_set (i := 5) nd rfl (Or.inl rfl) (pe_lst pa_nil))
 (C8.pss_cut (ps_for PassesOwn.never rfl (pi_tupK (K := K) rfl (pe_fld (pv 0) rfl)) (pg_name (i := 6) nd rfl (Or.inl rfl))
   (pss_one (ps_if (pt_cmpR (or_sinI (P := P) (w := w) rfl rfl) (pe_ix (ix_tupK (K := K) rfl) (pv 6) pe_int (fun _ _ => rfl)) (pv 2) (by rfl))
     (pss_cons (ps_fldaug (pv 3) pe_int in_add) (pss_one (ps_expr (pe_bm PySem.F.plainAttrs_list PySem.F.slot_list_append PySem.F.type_list_append mt_append (pv 5) (pa_cons (pe_tup (pa_cons (pe_fld (pv 3) rfl) (pa_cons (pe_ix (ix_tupK (K := K) rfl) (pv 6) pe_int (fun _ _ => rfl)) pa_nil))) pa_nil)))))
     (pss_one (ps_expr (pe_bm PySem.F.plainAttrs_list PySem.F.slot_list_append PySem.F.type_list_append mt_append (pv 4) (pa_cons (pv 6) pa_nil)))))))
 (pss_cons (ps_fld (pv 3) (pe_callTy (call_tuple_ofK (K := K) rfl) (by rfl) T.tuple PyProof.Rows.boot_tuple (pa_cons (pv 4) pa_nil)) rfl)
 (pss_cons (ps_fld (pv 3) (pe_tup (pa_star (pe_fld (pv 0) rfl) (pa_star (pv 5) pa_nil))) rfl)
 (pss_one (ps_ret (pv 3)))))))))), ?_⟩
    obtain ⟨xs, e0, r0⟩ := Dv.tups h1
    obtain ⟨gs, g0, gr0⟩ := Dv.tups h2
    refine ⟨_, rfl, na, ns, rfl, hn.at_, hn.one, hn.len, fun H1 s1 => ?_⟩
    refine ⟨_, rfl, na, ns, rfl, hn.at_.same s1, hn.len, fun cs nn ncs => ?_⟩
    have s2 := s1.new ncs (o := SetI P w cs (fun j => decide (j ∈ ns)) nn)
    have hcs2 : (upd H1 cs (SetI P w cs (fun j => decide (j ∈ ns)) nn)) cs = _ := upd_same
    generalize upd H1 cs (SetI P w cs (fun j => decide (j ∈ ns)) nn) = H2 at s2 hcs2
    refine ⟨_, rfl, p, dx, _, rfl, s2 _ _ hp, fl_no (by decide +kernel), p, dx, tl, tg, F.age, F.nx, F.mr, F.ct, rfl, s2 _ _ hp, ha, fun x dq H3 s3 nx hx => ?_⟩
    have s23 := s2.trans s3
    have nxH : H x = none := s2.free nx
    have hcs3 := s3 _ _ hcs2
    refine ⟨Nat.zero_le _, fun lk nlk => ⟨Nat.zero_le _, fun lg nlg => ?_⟩⟩
    have s4 := (s23.new nlk (o := .lst [])).new nlg (o := .lst [])
    have nlkH : H lk = none := s23.free nlk
    have nlgH : H lg = none := (s23.new nlk (o := .lst [])).free nlg
    have xlk : x ≠ lk := ne_of_none hx nlk
    have xlg : x ≠ lg := ne_of_none (by rw [upd_ne xlk]; exact hx) nlg
    have lkg : lk ≠ lg := ne_of_none (show (upd H3 lk (.lst [])) lk = some (.lst []) from upd_same) nlg
    have csk : cs ≠ lk := ne_of_none hcs3 nlk
    have csg : cs ≠ lg := ne_of_none (by rw [upd_ne csk]; exact hcs3) nlg
    have csx : cs ≠ x := fun z => by rw [z] at hcs3; rw [hx] at hcs3; simp [SetI] at hcs3
    refine ⟨fun σ G => ∃ v6 ks kept gg gone m, σ = [some (.ref p), some (.ref na), some (.ref cs), some (.ref x), some (.ref lk), some (.ref lg), v6] ∧ Same H G ∧ G x = some (.ins C dq (flds (.int F.age) (.ref tl) (.int F.nx) (.int m) (.ref tg) (.int F.ct))) ∧ G lk = some (.lst ks) ∧ DvA G ks (kept.map ltD) ∧ G lg = some (.lst gg) ∧ DvA G gg (gone.map goD) ∧
      remL ns F.ls F.mr = (kept, gone, m) ∧ kept.length ≤ 1000 ∧ gone.length ≤ 1000, ?_, ?_⟩
    · refine ⟨_, rfl, p, C, dx, _, _, rfl, s4 _ _ hp, t.cl, t.nL, fl_let, tl, rfl, ⟨_, st (s4 _ _ e0)⟩, for_tup (K := K) (a := tl) (xs := xs) (fun i σ G => ∃ v6 ks kept gg gone m, σ = [some (.ref p), some (.ref na), some (.ref cs), some (.ref x), some (.ref lk), some (.ref lg), v6] ∧ Same H G ∧ G cs = some (SetI P w cs (fun j => decide (j ∈ ns)) nn) ∧ G x = some (.ins C dq (flds (.int F.age) (.ref tl) (.int F.nx) (.int m) (.ref tg) (.int F.ct))) ∧ G lk = some (.lst ks) ∧ DvA G ks (kept.map ltD) ∧ G lg = some (.lst gg) ∧ DvA G gg (gone.map goD) ∧
          remL ns F.ls F.mr = (kept ++ (remL ns (F.ls.drop i) m).1, gone ++ (remL ns (F.ls.drop i) m).2.1, (remL ns (F.ls.drop i) m).2.2) ∧ kept.length ≤ i ∧ gone.length ≤ i) ?_ ?_ ?_ ?_⟩
      · exact ⟨none, [], [], [], [], F.mr, rfl, s4, (by rw [upd_ne csg, upd_ne csk]; exact hcs3), (by rw [upd_ne xlg, upd_ne xlk]; exact hx), (by rw [upd_ne lkg]; exact upd_same), .nil, upd_same, .nil, rfl, Nat.le_refl _, Nat.le_refl _⟩
      · rintro i σ G _ ⟨v6, ks, kept, gg, gone, m, rfl, sG, _⟩
        exact st (sG _ _ e0)
      · rintro i y σ G hy ⟨v6, ks, kept, gg, gone, m, rfl, sG, hcs, hx, hk, dk, hg, dg, er, l1, l2⟩
        have hi := lt_of_get hy
        have hlen := r0.len
        rw [List.length_map] at hlen
        obtain ⟨e, he, hde⟩ := (r0.same sG).get hy
        rw [List.getElem?_map] at he
        cases hF : F.ls[i]? with
        | none => rw [hF] at he; cases he
        | some l =>
          rw [hF] at he
          obtain rfl := (Option.some.inj he).symm
          rw [drop_cons hF] at er
          obtain ⟨ta, us, rfl, hta, hus⟩ : ∃ ta us, y = .ref ta ∧ G ta = some (.tup us) ∧ DvA G us [.int l.n, .int l.b, .tuple (l.s.map PyData.str), .int l.m] := by
            cases hde with
            | tup h r => exact ⟨_, _, rfl, h, r⟩
          obtain ⟨u0, ur, rfl⟩ : ∃ u0 ur, us = u0 :: ur := by
            cases hus with
            | cons h r => exact ⟨_, _, rfl⟩
          have hu0 : u0 = .int l.n := by
            cases hus with
            | cons h r => cases h; rfl
          subst hu0
          refine ⟨_, rfl, ta, _, 0, .int l.n, rfl, rfl, st hta, atI_nat (j := 0) rfl, _, rfl, l.n, cs, _, nn, rfl, rfl, hcs, _, rfl, ?_⟩
          by_cases c : l.n ∈ ns
          · refine itbT (decide_eq_true c) ?_
            have er' : remL ns F.ls F.mr = ((kept ++ (remL ns (F.ls.drop (i + 1)) (m + 1)).1, (gone ++ [(m + 1, l.n)]) ++ (remL ns (F.ls.drop (i + 1)) (m + 1)).2.1, (remL ns (F.ls.drop (i + 1)) (m + 1)).2.2) : List Lt × List (Int × Int) × Int) := by
              rw [er]
              show (kept ++ (if l.n ∈ ns then _ else _ : List Lt × List (Int × Int) × Int).1, _, _) = _
              simp only [remL, if_pos c, List.append_assoc, List.singleton_append]
            refine ⟨_, rfl, x, C, dq, _, _, rfl, hx, t.cl, t.nM, fl_mk, _, _, rfl, rfl, dq, _, hx, by show 6 < 1000; decide, ?_⟩
            rw [pu_mk]
            have xk : x ≠ lk := fun z => by rw [z, hk] at hx; cases hx
            have xg : x ≠ lg := fun z => by rw [z, hg] at hx; cases hx
            have kg : lk ≠ lg := lkg
            have sA := sG.mut nxH (o := .ins C dq (flds (.int F.age) (.ref tl) (.int F.nx) (.int (m + 1)) (.ref tg) (.int F.ct)))
            have dkA := dk.mut (o' := .ins C dq (flds (.int F.age) (.ref tl) (.int F.nx) (.int (m + 1)) (.ref tg) (.int F.ct))) hx (fun _ z => by cases z) (tO_lts _)
            have dgA := dg.mut (o' := .ins C dq (flds (.int F.age) (.ref tl) (.int F.nx) (.int (m + 1)) (.ref tg) (.int F.ct))) hx (fun _ z => by cases z) (tO_gos _)
            have hxA : (upd G x (.ins C dq (flds (.int F.age) (.ref tl) (.int F.nx) (.int (m + 1)) (.ref tg) (.int F.ct)))) x = _ := upd_same
            have hkA : (upd G x (.ins C dq (flds (.int F.age) (.ref tl) (.int F.nx) (.int (m + 1)) (.ref tg) (.int F.ct)))) lk = some (.lst ks) := by rw [upd_ne xk.symm]; exact hk
            have hgA : (upd G x (.ins C dq (flds (.int F.age) (.ref tl) (.int F.nx) (.int (m + 1)) (.ref tg) (.int F.ct)))) lg = some (.lst gg) := by rw [upd_ne xg.symm]; exact hg
            have hcA : (upd G x (.ins C dq (flds (.int F.age) (.ref tl) (.int F.nx) (.int (m + 1)) (.ref tg) (.int F.ct)))) cs = some (SetI P w cs (fun j => decide (j ∈ ns)) nn) := by rw [upd_ne csx]; exact hcs
            have htA : (upd G x (.ins C dq (flds (.int F.age) (.ref tl) (.int F.nx) (.int (m + 1)) (.ref tg) (.int F.ct)))) ta = some (.tup (.int l.n :: ur)) := by rw [upd_ne (fun z => by rw [z, hx] at hta; cases hta)]; exact hta
            generalize upd G x (.ins C dq (flds (.int F.age) (.ref tl) (.int F.nx) (.int (m + 1)) (.ref tg) (.int F.ct))) = GA at sA dkA dgA hxA hkA hgA hcA htA
            refine ⟨_, rfl, .inl ⟨rfl, _, sq hgA⟩, _, rfl, x, C, dq, _, _, rfl, hxA, t.cl, t.nM, fl_mk, _, rfl, ta, _, 0, .int l.n, rfl, rfl, st htA, atI_nat (j := 0) rfl, by show 2 ≤ sizeLine; decide, fun gn ngn => ?_⟩
            have sB := same_new (o := .tup [.int (m + 1), .int l.n]) ngn
            refine ⟨lg, _, _, rfl, rfl, sB _ _ hgA, lt2 _ (by rw [dgA.len, List.length_map]; omega), ?_⟩
            have hgB := sB _ _ hgA
            refine ⟨some (.ref ta), ks, kept, gg ++ [.ref gn], gone ++ [(m + 1, l.n)], m + 1, rfl, (sA.trans sB).mut nlgH, (by rw [upd_ne csg]; exact sB _ _ hcA), (by rw [upd_ne xg]; exact sB _ _ hxA), (by rw [upd_ne kg]; exact sB _ _ hkA), (dkA.same sB).mut hgB (fun _ z => by cases z) (tO_lts _), upd_same, ?_, er', by omega, by rw [List.length_append]; show gone.length + 1 ≤ i + 1; omega⟩
            rw [List.map_append]
            exact ((dgA.same sB).app (.cons (.tup upd_same (.cons (.int _) (.cons (.int _) .nil))) .nil)).mut hgB (fun _ z => by cases z) (by rw [show gone.map goD ++ [PyData.tuple [.int (m + 1), .int l.n]] = (gone ++ [(m + 1, l.n)]).map goD by rw [List.map_append]; rfl]; exact tO_gos _)
          · refine itbF (decide_eq_false c) ?_
            have er' : remL ns F.ls F.mr = ((kept ++ [l]) ++ (remL ns (F.ls.drop (i + 1)) m).1, gone ++ (remL ns (F.ls.drop (i + 1)) m).2.1, (remL ns (F.ls.drop (i + 1)) m).2.2) := by
              rw [er]
              simp only [remL, if_neg c, List.append_assoc, List.singleton_append]
            refine ⟨_, rfl, .inl ⟨rfl, _, sq hk⟩, _, rfl, lk, _, _, rfl, rfl, hk, lt2 _ (by rw [dk.len, List.length_map]; omega), ?_⟩
            have xk : x ≠ lk := fun z => by rw [z, hk] at hx; cases hx
            refine ⟨some (.ref ta), ks ++ [.ref ta], kept ++ [l], gg, gone, m, rfl, sG.mut nlkH, (by rw [upd_ne csk]; exact hcs), (by rw [upd_ne xk]; exact hx), upd_same, ?_, (by rw [upd_ne lkg.symm]; exact hg), dg.mut hk (fun _ z => by cases z) (tO_gos _), er', by rw [List.length_append]; show kept.length + 1 ≤ i + 1; omega, by omega⟩
            rw [List.map_append]
            exact (dk.app (.cons (.tup hta hus) .nil)).mut hk (fun _ z => by cases z) (by rw [show kept.map ltD ++ [PyData.tuple [.int l.n, .int l.b, .tuple (l.s.map PyData.str), .int l.m]] = (kept ++ [l]).map ltD by rw [List.map_append]; rfl]; exact tO_lts _)
      · rintro σ G ⟨v6, ks, kept, gg, gone, m, rfl, sG, hcs, hx, hk, dk, hg, dg, er, l1, l2⟩
        have hlen := r0.len
        rw [List.length_map] at hlen
        rw [hlen, List.drop_length] at er
        refine ⟨v6, ks, kept, gg, gone, m, rfl, sG, hx, hk, dk, hg, dg, ?_, by omega, by omega⟩
        rw [er]
        simp [remL]
    · rintro σ G ⟨v6, ks, kept, gg, gone, m, rfl, sG, hx, hk, dk, hg, dg, er, l1, l2⟩
      refine ⟨_, rfl, lk, ks, rfl, .inl ⟨sq hk, fun tk ntk => ?_⟩⟩
      have sA := same_new (o := .tup ks) ntk
      refine ⟨_, rfl, x, C, dq, _, rfl, sA _ _ hx, t.cl, t.nL, by show 6 < 1000; decide, ?_⟩
      rw [pu_let]
      have nxt : x ≠ tk := ne_of_none hx ntk
      have sB := ((sG.trans sA).mut nxH (o := .ins C dq (flds (.int F.age) (.ref tk) (.int F.nx) (.int m) (.ref tg) (.int F.ct))))
      have hkB : (upd (upd G tk (.tup ks)) x (.ins C dq (flds (.int F.age) (.ref tk) (.int F.nx) (.int m) (.ref tg) (.int F.ct)))) tk = some (.tup ks) := by rw [upd_ne nxt.symm]; exact upd_same
      have hxB : (upd (upd G tk (.tup ks)) x (.ins C dq (flds (.int F.age) (.ref tk) (.int F.nx) (.int m) (.ref tg) (.int F.ct)))) x = _ := upd_same
      have xg : x ≠ lg := fun z => by rw [z, hg] at hx; cases hx
      have hgB : (upd (upd G tk (.tup ks)) x (.ins C dq (flds (.int F.age) (.ref tk) (.int F.nx) (.int m) (.ref tg) (.int F.ct)))) lg = some (.lst gg) := by rw [upd_ne xg.symm]; exact sA _ _ hg
      have dkB := (dk.same sA).mut (o' := .ins C dq (flds (.int F.age) (.ref tk) (.int F.nx) (.int m) (.ref tg) (.int F.ct))) (sA _ _ hx) (fun _ z => by cases z) (tO_lts _)
      have dgB := (dg.same sA).mut (o' := .ins C dq (flds (.int F.age) (.ref tk) (.int F.nx) (.int m) (.ref tg) (.int F.ct))) (sA _ _ hx) (fun _ z => by cases z) (tO_gos _)
      generalize upd (upd G tk (.tup ks)) x (.ins C dq (flds (.int F.age) (.ref tk) (.int F.nx) (.int m) (.ref tg) (.int F.ct))) = GB at sB hkB hxB hgB dkB dgB
      refine ⟨_, rfl, p, C, dx, _, _, rfl, sB _ _ hp, t.cl, t.nG, fl_gone, tg, gs, rfl, .inl (st (sB _ _ g0)), _, rfl, lg, gg, rfl, .inr (sq hgB), ?_, fun tn ntn => ?_⟩
      · rw [List.append_nil, List.length_append, gr0.len, dgB.len, List.length_map, List.length_map]
        exact lt1 _ (by omega)
      · rw [List.append_nil]
        have sC := same_new (o := .tup (gs ++ gg)) ntn
        have nxn : x ≠ tn := ne_of_none hxB ntn
        refine ⟨_, rfl, x, C, dq, _, rfl, sC _ _ hxB, t.cl, t.nG, by show 6 < 1000; decide, ?_⟩
        rw [pu_gone]
        have sD := (sB.trans sC).mut nxH (o := .ins C dq (flds (.int F.age) (.ref tk) (.int F.nx) (.int m) (.ref tn) (.int F.ct)))
        have hxC := sC _ _ hxB
        refine ⟨_, rfl, q x _ sD nxH ?_⟩
        have ef : fRem F ns = { F with ls := kept, go := F.go ++ gone, mr := m } := by unfold fRem; rw [er]
        rw [ef]
        refine ⟨dq, tk, tn, upd_same, .tup (by rw [upd_ne nxt.symm]; exact sC _ _ hkB) ((dkB.same sC).mut hxC (fun _ z => by cases z) (tO_lts _)), .tup (by rw [upd_ne nxn.symm]; exact upd_same) ?_⟩
        show DvA _ (gs ++ gg) ((F.go ++ gone).map goD)
        rw [List.map_append]
        exact (gr0.same sD).app ((dgB.same sC).mut hxC (fun _ z => by cases z) (tO_gos _))
end
end K1


set_option Elab.async false
set_option linter.all false
set_option maxRecDepth 100000
set_option maxHeartbeats 2000000
namespace K1
open PySem PySem.Spec PyProof.Rows L2 RZ StX
theorem nd_strs : ∀ ss : List Str, noDicA (ss.map PyData.str) = true
  | [] => rfl
  | s :: r => by
    show (true && noDicA (r.map PyData.str)) = true
    rw [nd_strs r]; rfl
theorem dva_strs {H : Hp} : ∀ {xs : List V} {ss : List Str}, DvA H xs (ss.map PyData.str) → xs = ss.map V.str
  | _, [], .nil => rfl
  | _, _ :: _, .cons (.str _) r => by rw [dva_strs r]; rfl
theorem dv_lt {H : Hp} {y : V} {l : Lt} (h : Dv H y (ltD l)) : ∃ ta sa, y = .ref ta ∧ H ta = some (.tup [.int l.n, .int l.b, .ref sa, .int l.m]) ∧ H sa = some (.tup (l.s.map V.str)) := by
  cases h with
  | tup h r =>
  cases r with
  | cons h1 r =>
  cases r with
  | cons h2 r =>
  cases r with
  | cons h3 r =>
  cases r with
  | cons h4 r =>
  cases r
  cases h1
  cases h2
  cases h4
  cases h3 with
  | tup e q => exact ⟨_, _, rfl, h, by rw [e, dva_strs q]⟩
theorem dv_lt_of {H : Hp} {l : Lt} {ta sa : Addr} (h : H ta = some (.tup [.int l.n, .int l.b, .ref sa, .int l.m])) (h2 : H sa = some (.tup (l.s.map V.str))) : Dv H (.ref ta) (ltD l) :=
  .tup h (.cons (.int _) (.cons (.int _) (.cons (.tup h2 (dv_strs _)) (.cons (.int _) .nil))))
abbrev sSig : Stmt := mS 15
abbrev nSig : List Str := ["self", "numbers", "renewed", "chosen", "folder", "letters", "number", "body", "signs", "mark", "wanted"]
abbrev pSig : List Str := ["self", "numbers", "renewed"]
theorem scSig : FnScope nSig pSig (defScope sSig) := ⟨rfl, rfl, rfl, by decide +kernel, rfl, by decide +kernel, by decide +kernel⟩
/-- what _signed makes of a lambda that makes g of the signs -/
def TSig (C : Addr) (g : List Str → List Str) : V → V → (V → Hp → VK → Prop) → Hp → VK → Prop := fun x y tl H Q => ∃ p na F ns, x = .ref p ∧ y = .ref na ∧ FoAt C H p F ∧ 1 ≤ F.age ∧ NumsAt H na ns ∧ F.ls.length ≤ 1000 ∧ (∀ l ∈ F.ls, OkSs l.s) ∧ (∀ ss, OkSs ss → OkSs (g ss)) ∧
  (∀ a ss H' Q', Same H H' → OkSs ss → H' a = some (.tup (ss.map V.str)) → (∀ b H'', Same H' H'' → H'' b = some (.tup ((g ss).map V.str)) → Q' (.ref b) H'') → tl (.ref a) H' Q') ∧
  ∀ q H', Same H H' → H q = none → FoAt C H' q (fSig F ns g) → Q (.ref q) H'
theorem newS_u {ns : List Int} {g : List Str → List Str} {l : Lt} (hl : OkSs l.s) (hg : ∀ ss, OkSs ss → OkSs (g ss)) : OkSs (newS ns g l) := by
  unfold newS
  by_cases c : l.n ∈ ns
  · rw [if_pos c]; exact hg _ hl
  · rw [if_neg c]; exact hl
theorem signed_gives {X : Cx} {C c0 : Addr} {cdg : Value} {q : Str} {g : List Str → List Str} (T : Bk X.mg) (t : ClT X.K X.mg C) (M_copied : MDef X.prog X.w X.K X.mg X.base CX0 5 C "_copied" nSelf (spCopied C)) :
    LamY.GivesM 6 X nSig "Folder._signed" (defScope sSig) c0 cdg (defBody sSig) 2 "renewed" q (TSig C g) := by
  intro f c' s H Q x0 y0 tl hr hcall hc h
  have nd := scSig.nd
  obtain ⟨p, na, F, ns, rfl, rfl, ⟨dx, tl', tg, hp, h1, h2⟩, ha, hn, hl, hu, hg, hlam, q⟩ := h
  refine ⟨_, pss_cons (ps_set (i := 3) nd rfl (Or.inl rfl) (pe_callTy (cr_setI (P := X.prog) (w := X.w) (K := X.K) rfl rfl rfl rfl) (by rfl) T.set PyProof.Rows.boot_set (pa_cons (pv 1) pa_nil)))
 (pss_cons (ps_set (i := 4) nd rfl (Or.inl rfl) (pe_mdef0 M_copied t.cl (hr.mono (by decide)) pass0 (pv 0)))
 (pss_cons (ps_set (i := 5) nd rfl (Or.inl rfl) (pe_lst pa_nil))
 (C8.pss_cut (ps_for PassesOwn.never rfl (pi_tupK (K := X.K) rfl (pe_fld (pv 0) rfl)) (pg_tup rfl (pgs_cons (pg_name (i := 6) nd rfl (Or.inl rfl)) (pgs_cons (pg_name (i := 7) nd rfl (Or.inl rfl)) (pgs_cons (pg_name (i := 8) nd rfl (Or.inl rfl)) (pgs_cons (pg_name (i := 9) nd rfl (Or.inl rfl)) pgs_nil)))))
   (C8.pss_cut (ps_set (i := 10) nd rfl (Or.inl rfl) (pe_ifExp (pt_cmpR (or_sinI (P := X.prog) (w := X.w) rfl rfl) (pv 6) (pv 3) (by rfl)) (hcall _ _ _ _ (pv 8) rfl) (pv 8)))
   (pss_cons (ps_if (pt_cmpR (op_neDK (K := X.K) rfl hr.units) (pv 10) (pv 8) (nomark _))
     (pss_cons (ps_fldaug (pv 4) pe_int in_add) (pss_one (ps_set (i := 9) nd rfl (Or.inl rfl) (pe_fld (pv 4) rfl))))
     pss_nil)
   (pss_one (ps_expr (pe_bm PySem.F.plainAttrs_list PySem.F.slot_list_append PySem.F.type_list_append mt_append (pv 5) (pa_cons (pe_tup (pa_cons (pv 6) (pa_cons (pv 7) (pa_cons (pv 10) (pa_cons (pv 9) pa_nil))))) pa_nil)))))))
 (pss_cons (ps_fld (pv 4) (pe_callTy (call_tuple_ofK (K := X.K) rfl) (by rfl) T.tuple PyProof.Rows.boot_tuple (pa_cons (pv 5) pa_nil)) rfl)
 (pss_one (ps_ret (pv 4))))))), ?_⟩
  obtain ⟨xs, e0, r0⟩ := Dv.tups h1
  refine ⟨_, rfl, na, ns, rfl, hn.at_, hn.len, fun cs nn ncs => ?_⟩
  have s2 := same_new (H := H) ncs (o := SetI X.prog X.w cs (fun j => decide (j ∈ ns)) nn)
  have hcs2 : (upd H cs (SetI X.prog X.w cs (fun j => decide (j ∈ ns)) nn)) cs = some (SetI X.prog X.w cs (fun j => decide (j ∈ ns)) nn) := upd_same
  generalize upd H cs (SetI X.prog X.w cs (fun j => decide (j ∈ ns)) nn) = H2 at s2 hcs2
  refine ⟨_, rfl, p, dx, _, rfl, s2 _ _ hp, fl_no (by decide +kernel), p, dx, tl', tg, F.age, F.nx, F.mr, F.ct, rfl, s2 _ _ hp, ha, fun x dq H3 s3 nx hx => ?_⟩
  have s23 := s2.trans s3
  have nxH : H x = none := s2.free nx
  have hcs3 := s3 _ _ hcs2
  refine ⟨Nat.zero_le _, fun lk nlk => ?_⟩
  have s4 := s23.new nlk (o := .lst [])
  have nlkH : H lk = none := s23.free nlk
  have xlk : x ≠ lk := ne_of_none hx nlk
  have csk : cs ≠ lk := ne_of_none hcs3 nlk
  have csx : cs ≠ x := fun z => by rw [z] at hcs3; rw [hx] at hcs3; simp [SetI] at hcs3
  refine ⟨fun σ G => ∃ v6 v7 v8 v9 v10 ks kept m, σ = [some (.ref p), some (.ref na), some (.ref f), some (.ref cs), some (.ref x), some (.ref lk), v6, v7, v8, v9, v10] ∧ Same H G ∧ G x = some (.ins C dq (flds (.int F.age) (.ref tl') (.int F.nx) (.int m) (.ref tg) (.int F.ct))) ∧ G lk = some (.lst ks) ∧ DvA G ks (kept.map ltD) ∧
      sigL ns g F.ls F.mr = (kept, m) ∧ kept.length ≤ 1000, ?_, ?_⟩
  · refine ⟨_, rfl, p, C, dx, _, _, rfl, s4 _ _ hp, t.cl, t.nL, fl_let, tl', rfl, ⟨_, st (s4 _ _ e0)⟩, for_tup (K := X.K) (a := tl') (xs := xs) (fun i σ G => ∃ v6 v7 v8 v9 v10 ks kept m, σ = [some (.ref p), some (.ref na), some (.ref f), some (.ref cs), some (.ref x), some (.ref lk), v6, v7, v8, v9, v10] ∧ Same H G ∧ G cs = some (SetI X.prog X.w cs (fun j => decide (j ∈ ns)) nn) ∧ G x = some (.ins C dq (flds (.int F.age) (.ref tl') (.int F.nx) (.int m) (.ref tg) (.int F.ct))) ∧ G lk = some (.lst ks) ∧ DvA G ks (kept.map ltD) ∧
          sigL ns g F.ls F.mr = (kept ++ (sigL ns g (F.ls.drop i) m).1, (sigL ns g (F.ls.drop i) m).2) ∧ kept.length ≤ i) ?_ ?_ ?_ ?_⟩
    · exact ⟨none, none, none, none, none, [], [], F.mr, rfl, s4, (by rw [upd_ne csk]; exact hcs3), (by rw [upd_ne xlk]; exact hx), upd_same, .nil, rfl, Nat.le_refl _⟩
    · rintro i σ G _ ⟨v6, v7, v8, v9, v10, ks, kept, m, rfl, sG, _⟩
      exact st (sG _ _ e0)
    · rintro i y σ G hy ⟨v6, v7, v8, v9, v10, ks, kept, m, rfl, sG, hcs, hx, hk, dk, er, l1⟩
      have hi := lt_of_get hy
      have hlen := r0.len
      rw [List.length_map] at hlen
      obtain ⟨e, he, hde⟩ := (r0.same sG).get hy
      rw [List.getElem?_map] at he
      cases hF : F.ls[i]? with
      | none => rw [hF] at he; cases he
      | some l =>
        rw [hF] at he
        obtain rfl := (Option.some.inj he).symm
        rw [drop_cons hF] at er
        have hlU : OkSs l.s := hu l (List.mem_of_getElem? hF)
        have hnU : OkSs (newS ns g l) := newS_u hlU hg
        obtain ⟨ta, sa, rfl, hta, hsa⟩ := dv_lt hde
        refine ⟨ta, _, rfl, st hta, rfl, _, _, rfl, _, _, rfl, _, _, rfl, _, _, rfl, rfl, ?_⟩
        refine ⟨fun σ2 G2 => ∃ b, σ2 = [some (.ref p), some (.ref na), some (.ref f), some (.ref cs), some (.ref x), some (.ref lk), some (.int l.n), some (.int l.b), some (.ref sa), some (.int l.m), some (.ref b)] ∧ Same G G2 ∧ G2 b = some (.tup ((newS ns g l).map V.str)), ?_, ?_⟩
        · refine ⟨_, rfl, _, rfl, l.n, cs, _, nn, rfl, rfl, hcs, _, rfl, ?_⟩
          by_cases c : l.n ∈ ns
          · refine itbT (decide_eq_true c) ⟨rfl, _, rfl, sG _ _ hc, hlam sa l.s G _ sG hlU hsa fun b G2 s2 hb => ?_⟩
            exact ⟨b, rfl, s2, by unfold newS; rw [if_pos c]; exact hb⟩
          · refine itbF (decide_eq_false c) ⟨_, rfl, ?_⟩
            exact ⟨sa, rfl, fun _ _ h => h, by unfold newS; rw [if_neg c]; exact hsa⟩
        · rintro σ2 G2 ⟨b, rfl, s2, hb⟩
          have sG2 := sG.trans s2
          have hsa2 := s2 _ _ hsa
          have hx2 := s2 _ _ hx
          have hk2 := s2 _ _ hk
          have hcs2 := s2 _ _ hcs
          have dk2 := dk.same s2
          refine ⟨_, rfl, _, rfl, .tuple ((newS ns g l).map PyData.str), .tuple (l.s.map PyData.str), (Dv.tup hb (dv_strs _)).dp (nd_strs _), (Dv.tup hsa2 (dv_strs _)).dp (nd_strs _), g_shape hnU.ok, g_shape hlU.ok, _, rfl, ?_⟩
          rw [g_eqv]
          have xk : x ≠ lk := fun z => by rw [z, hk] at hx; cases hx
          by_cases c : newS ns g l = l.s
          · refine itbF (by rw [decide_eq_true c]; rfl) ?_
            refine ⟨_, rfl, .inl ⟨rfl, _, sq hk2⟩, _, rfl, _, rfl, _, rfl, _, rfl, by show 4 ≤ sizeLine; decide, fun nt nnt => ?_⟩
            have sB := same_new (o := .tup [.int l.n, .int l.b, .ref b, .int l.m]) nnt
            have hkB := sB _ _ hk2
            refine ⟨lk, _, _, rfl, rfl, hkB, lt2 _ (by rw [dk2.len, List.length_map]; omega), ?_⟩
            have er' : sigL ns g F.ls F.mr = ((kept ++ [l]) ++ (sigL ns g (F.ls.drop (i + 1)) m).1, (sigL ns g (F.ls.drop (i + 1)) m).2) := by
              rw [er]
              simp only [sigL, if_pos c, List.append_assoc, List.singleton_append]
            refine ⟨_, _, _, _, _, ks ++ [.ref nt], kept ++ [l], m, rfl, (sG2.trans sB).mut nlkH, (by rw [upd_ne csk]; exact sB _ _ hcs2), (by rw [upd_ne xk]; exact sB _ _ hx2), upd_same, ?_, er', by rw [List.length_append]; show kept.length + 1 ≤ i + 1; omega⟩
            rw [List.map_append]
            refine ((dk2.same sB).app (.cons (dv_lt_of upd_same (sB _ _ ?_)) .nil)).mut hkB (fun _ z => by cases z) (by rw [show kept.map ltD ++ [ltD l] = (kept ++ [l]).map ltD by rw [List.map_append]; rfl]; exact tO_lts _)
            rw [← c]; exact hb
          · refine itbT (by rw [decide_eq_false c]; rfl) ?_
            refine ⟨_, rfl, x, C, dq, _, _, rfl, hx2, t.cl, t.nM, fl_mk, _, _, rfl, rfl, dq, _, hx2, by show 6 < 1000; decide, ?_⟩
            rw [pu_mk]
            have sA := sG2.mut nxH (o := .ins C dq (flds (.int F.age) (.ref tl') (.int F.nx) (.int (m + 1)) (.ref tg) (.int F.ct)))
            have dkA := dk2.mut (o' := .ins C dq (flds (.int F.age) (.ref tl') (.int F.nx) (.int (m + 1)) (.ref tg) (.int F.ct))) hx2 (fun _ z => by cases z) (tO_lts _)
            have hxA : (upd G2 x (.ins C dq (flds (.int F.age) (.ref tl') (.int F.nx) (.int (m + 1)) (.ref tg) (.int F.ct)))) x = some (.ins C dq (flds (.int F.age) (.ref tl') (.int F.nx) (.int (m + 1)) (.ref tg) (.int F.ct))) := upd_same
            have hkA : (upd G2 x (.ins C dq (flds (.int F.age) (.ref tl') (.int F.nx) (.int (m + 1)) (.ref tg) (.int F.ct)))) lk = some (.lst ks) := by rw [upd_ne xk.symm]; exact hk2
            have hcA : (upd G2 x (.ins C dq (flds (.int F.age) (.ref tl') (.int F.nx) (.int (m + 1)) (.ref tg) (.int F.ct)))) cs = some (SetI X.prog X.w cs (fun j => decide (j ∈ ns)) nn) := by rw [upd_ne csx]; exact hcs2
            have hbA : (upd G2 x (.ins C dq (flds (.int F.age) (.ref tl') (.int F.nx) (.int (m + 1)) (.ref tg) (.int F.ct)))) b = some (.tup ((newS ns g l).map V.str)) := by rw [upd_ne (fun z => by rw [z, hx2] at hb; cases hb)]; exact hb
            generalize upd G2 x (.ins C dq (flds (.int F.age) (.ref tl') (.int F.nx) (.int (m + 1)) (.ref tg) (.int F.ct))) = GA at sA dkA hxA hkA hcA hbA
            refine ⟨_, rfl, x, C, dq, _, _, rfl, hxA, t.cl, t.nM, fl_mk, ?_⟩
            refine ⟨_, rfl, .inl ⟨rfl, _, sq hkA⟩, _, rfl, _, rfl, _, rfl, _, rfl, by show 4 ≤ sizeLine; decide, fun nt nnt => ?_⟩
            have sB := same_new (o := .tup [.int l.n, .int l.b, .ref b, .int (m + 1)]) nnt
            have hkB := sB _ _ hkA
            refine ⟨lk, _, _, rfl, rfl, hkB, lt2 _ (by rw [dkA.len, List.length_map]; omega), ?_⟩
            have er' : sigL ns g F.ls F.mr = ((kept ++ [⟨l.n, l.b, newS ns g l, m + 1⟩]) ++ (sigL ns g (F.ls.drop (i + 1)) (m + 1)).1, (sigL ns g (F.ls.drop (i + 1)) (m + 1)).2) := by
              rw [er]
              simp only [sigL, if_neg c, List.append_assoc, List.singleton_append]
            refine ⟨_, _, _, _, _, ks ++ [.ref nt], kept ++ [⟨l.n, l.b, newS ns g l, m + 1⟩], m + 1, rfl, (sA.trans sB).mut nlkH, (by rw [upd_ne csk]; exact sB _ _ hcA), (by rw [upd_ne xk]; exact sB _ _ hxA), upd_same, ?_, er', by rw [List.length_append]; show kept.length + 1 ≤ i + 1; omega⟩
            rw [List.map_append]
            exact ((dkA.same sB).app (.cons (dv_lt_of (l := ⟨l.n, l.b, newS ns g l, m + 1⟩) upd_same (sB _ _ hbA)) .nil)).mut hkB (fun _ z => by cases z) (by rw [show kept.map ltD ++ [ltD (⟨l.n, l.b, newS ns g l, m + 1⟩ : Lt)] = (kept ++ [(⟨l.n, l.b, newS ns g l, m + 1⟩ : Lt)]).map ltD by rw [List.map_append]; rfl]; exact tO_lts _)
    · rintro σ G ⟨v6, v7, v8, v9, v10, ks, kept, m, rfl, sG, hcs, hx, hk, dk, er, l1⟩
      have hlen := r0.len
      rw [List.length_map] at hlen
      rw [hlen, List.drop_length] at er
      refine ⟨v6, v7, v8, v9, v10, ks, kept, m, rfl, sG, hx, hk, dk, ?_, by omega⟩
      rw [er]
      simp [sigL]
  · rintro σ G ⟨v6, v7, v8, v9, v10, ks, kept, m, rfl, sG, hx, hk, dk, er, l1⟩
    refine ⟨_, rfl, lk, ks, rfl, .inl ⟨sq hk, fun tk ntk => ?_⟩⟩
    have sA := same_new (o := .tup ks) ntk
    refine ⟨_, rfl, x, C, dq, _, rfl, sA _ _ hx, t.cl, t.nL, by show 6 < 1000; decide, ?_⟩
    rw [pu_let]
    have nxt : x ≠ tk := ne_of_none hx ntk
    have sB := ((sG.trans sA).mut nxH (o := .ins C dq (flds (.int F.age) (.ref tk) (.int F.nx) (.int m) (.ref tg) (.int F.ct))))
    refine ⟨_, rfl, q x _ sB nxH ?_⟩
    have ef : fSig F ns g = { F with ls := kept, mr := m } := by unfold fSig; rw [er]
    rw [ef]
    refine ⟨dq, tk, tg, upd_same, .tup (by rw [upd_ne nxt.symm]; exact upd_same) ((dk.same sA).mut (sA _ _ hx) (fun _ z => by cases z) (tO_lts _)), h2.same sB⟩
end K1


set_option Elab.async false
set_option linter.all false
set_option maxRecDepth 100000
set_option maxHeartbeats 2000000
namespace K1
open PySem PySem.Spec PyProof.Rows L2 RZ StX
theorem Fo_ext {C p : Addr} {H H' : Hp} {F : Fo} (h : FoAt C H p F) (s : LamX.ExtN H H') : FoAt C H' p F := let ⟨dx, tl, tg, a, b, c⟩ := h; ⟨dx, tl, tg, s _ _ a fun _ z => (by cases z), b.ext s, c.ext s⟩
theorem NumsAt.ext {H H' : Hp} {a : Addr} {ns : List Int} (h : NumsAt H a ns) (s : LamX.ExtN H H') : NumsAt H' a ns := ⟨h.at_.imp (fun e => s _ _ e fun _ z => (by cases z)) (fun e => s _ _ e fun _ z => (by cases z)), h.one, h.len⟩
theorem tup_ext {H H' : Hp} {a : Addr} {xs : List V} (h : H a = some (.tup xs)) (s : LamX.ExtN H H') : H' a = some (.tup xs) := s _ _ h fun _ z => (by cases z)
/-- the method that gets the lambdas -/
structure SgD (K : PySem.W.Frag) (C : Addr) : Prop where
  ex : ∃ (f : Addr) (fd : FuncData), Meth K C "_signed" f ∧ Fun K "_signed" "Folder._signed" sSig f fd
theorem pe_signed {X : Cx} {C c P : Addr} {T : List (Addr × Str)} {xp : Str} {g : List Str → List Str} {o e : Expr} {params : Arguments} {body : Expr} {scope : Scope} {ta te tb : TE} {apos lpos pos : Pos} {pl : Sem Bool} (D : SgD X.K C) (Tb : Bk X.mg) (tC : ClT X.K X.mg C) (Mc : MDef X.prog X.w X.K X.mg X.base CX0 5 C "_copied" nSelf (spCopied C))
    (ho : PE X o ta) (he : PE X e te)
    (TB : LamX.TabB X.base X.mg c P) (hcode : X.env.code = .ref c) (hmT : (P, X.env.qual ++ "<lambda>") ∈ T) (hu : ∀ p ∈ T, p.1 = P → p.2 = X.env.qual ++ "<lambda>") (hr : Room 7 X.A) (L : LamY.LamS1 X.env.scope scope xp) (hxn : xp ∉ X.N) (hdef : defaultsOf params X.env = ([], []))
    (hbind : ∀ (q : Str) (cl : List (Str × Addr)) (pm cv ctv u : Value), bindArgs (PySem.W.kla_fn "<lambda>" q params body scope cl pm cv ctv) ⟨[u], []⟩ = pure [(xp, u)])
    (hbody : ∀ (A : Around) (outer : List Env) (s : Shared) (H : Hp) (f c' : Addr), Room 5 (A.deeper (LamX.lamEnv X scope s.heap.objs.size f c')) → PE (LamY.lamCx1 X A outer s H C8.E0 scope xp f c') body tb)
    (hst : starEach [e, .Lambda params body scope lpos] X.env = (false, eval e X.env) :: starEach [.Lambda params body scope lpos] X.env := by rfl) (hpl : (backTo pos (starEach [.Lambda params body scope lpos] X.env)).any (·.1) = false := by rfl)
    (ht : eval (.Call (.Attribute o "_signed" apos) [e, .Lambda params body scope lpos] [] pos) X.env = (do
      let ov ← eval o X.env
      standAt apos.atName
      let (f, first) ← holding [ov] (getMethod ov "_signed" pl)
      callWith pos f first (backTo pos (starEach [e, .Lambda params body scope lpos] X.env)) (backToKw pos (keywordEach [] X.env))) := by rfl) :
    PE X (.Call (.Attribute o "_signed" apos) [e, .Lambda params body scope lpos] [] pos) (LamY.tMethLam T C "_signed" (TSig C g) ta te tb) := by
  obtain ⟨f, fd, hm, F⟩ := D.ex
  obtain ⟨oc, od, kV, doc, pm, an, cdv, ct, osl, rfl, lk, hcd⟩ := F.ex
  exact LamY.pe_methlam (k := 5) (a := "renewed") ho tC.cl hm he lk hcd (F.binds (ps := pSig) fun _ _ _ _ _ _ us hl => match us, hl with | [_, _, _], _ => rfl) scSig rfl (.inl rfl) (signed_gives Tb tC Mc) TB hcode hmT hu hr L hxn hdef hbind hbody (hst := hst) (hpl := hpl) (ht := ht)
abbrev lamA : Str := "Folder.added" ++ ".<locals>." ++ "<lambda>"
abbrev lamT : Str := "Folder.taken" ++ ".<locals>." ++ "<lambda>"
abbrev lamS : Str := "Folder.set_to" ++ ".<locals>." ++ "<lambda>"
def T3 (PA PT PS : Addr) : List (Addr × Str) := [(PA, lamA), (PT, lamT), (PS, lamS)]
structure Ap (PA PT PS : Addr) : Prop where
  af : PA ≠ PT
  al : PA ≠ PS
  fl : PT ≠ PS
theorem Ap.a {PA PF PL : Addr} (h : Ap PA PF PL) : ∀ p ∈ T3 PA PF PL, p.1 = PA → p.2 = lamA := by
  intro p hp e
  simp only [T3, List.mem_cons, List.not_mem_nil, or_false] at hp
  rcases hp with rfl | rfl | rfl
  · rfl
  · exact absurd e.symm h.af
  · exact absurd e.symm h.al
theorem Ap.t {PA PF PL : Addr} (h : Ap PA PF PL) : ∀ p ∈ T3 PA PF PL, p.1 = PF → p.2 = lamT := by
  intro p hp e
  simp only [T3, List.mem_cons, List.not_mem_nil, or_false] at hp
  rcases hp with rfl | rfl | rfl
  · exact absurd e h.af
  · rfl
  · exact absurd e.symm h.fl
theorem Ap.s {PA PF PL : Addr} (h : Ap PA PF PL) : ∀ p ∈ T3 PA PF PL, p.1 = PL → p.2 = lamS := by
  intro p hp e
  simp only [T3, List.mem_cons, List.not_mem_nil, or_false] at hp
  rcases hp with rfl | rfl | rfl
  · exact absurd e h.al
  · exact absurd e h.fl
  · rfl
theorem mem_a {PA PF PL : Addr} : (PA, lamA) ∈ T3 PA PF PL := List.mem_cons_self
theorem mem_t {PA PF PL : Addr} : (PF, lamT) ∈ T3 PA PF PL := List.mem_cons_of_mem _ List.mem_cons_self
theorem mem_s {PA PF PL : Addr} : (PL, lamS) ∈ T3 PA PF PL := List.mem_cons_of_mem _ (List.mem_cons_of_mem _ List.mem_cons_self)
abbrev sAdd : Stmt := mS 9
abbrev sTake : Stmt := mS 10
abbrev sSet : Stmt := mS 11
abbrev nAdd : List Str := ["self", "numbers", "sign"]
theorem scAdd : FnScope nAdd nAdd (defScope sAdd) := ⟨rfl, rfl, rfl, by decide +kernel, rfl, by decide +kernel, by decide +kernel⟩
theorem scTake : FnScope nAdd nAdd (defScope sTake) := ⟨rfl, rfl, rfl, by decide +kernel, rfl, by decide +kernel, by decide +kernel⟩
abbrev nSet : List Str := ["self", "numbers", "signs"]
theorem scSet : FnScope nSet nSet (defScope sSet) := ⟨rfl, rfl, rfl, by decide +kernel, rfl, by decide +kernel, by decide +kernel⟩
/-- a deed that renews signs -/
def spSgn (C PA PT PS : Addr) (G : Str → List Str → List Str) : Sp := fun vs H Q _ => ∃ (p na : Addr) (F : Fo) (ns : List Int) (z : Str), vs = [.ref p, .ref na, .str z] ∧ FoAt C H p F ∧ 1 ≤ F.age ∧ NumsAt H na ns ∧ F.ls.length ≤ 1000 ∧ (∀ l ∈ F.ls, OkSs l.s) ∧ okS z = true ∧ LamX.Tabs (T3 PA PT PS) H ∧
  ∀ q H', LamX.ExtN H H' → LamX.Tabs (T3 PA PT PS) H' → FoAt C H' q (fSig F ns (G z)) → Q (.ref q) H'
def spSet (C PA PT PS : Addr) : Sp := fun vs H Q _ => ∃ (p na sa : Addr) (F : Fo) (ns : List Int) (zs : List Str), vs = [.ref p, .ref na, .ref sa] ∧ FoAt C H p F ∧ 1 ≤ F.age ∧ NumsAt H na ns ∧ F.ls.length ≤ 1000 ∧ (∀ l ∈ F.ls, OkSs l.s) ∧ OkSs zs ∧ H sa = some (.tup (zs.map V.str)) ∧ LamX.Tabs (T3 PA PT PS) H ∧
  ∀ q H', LamX.ExtN H H' → LamX.Tabs (T3 PA PT PS) H' → FoAt C H' q (fSig F ns (fun _ => zs)) → Q (.ref q) H'
section
variable {P : Program} {w : World} {K : PySem.W.Frag} {mg : Str → Option Value} {base : Heap} {C PA PT PS c : Addr}
theorem ok_add {f : Addr} {oc : Value} {od : Option Addr} {kV doc pm : Value} {an : Option Addr} {ct : Value} {osl : Array (Option Value)} (T : Bk mg) (t : ClT K mg C) (ap : Ap PA PT PS) (DS : SgD K C) (TB : LamX.TabB base mg c PA)
    (D_check_numbers : Def P w K mg base CX0 4 "_check_numbers" nCkNums spCkNums) (D_is_sign : Def P w K mg base CX0 1 "is_sign" pV spSign) (D_with : Def P w K mg base CX0 1 "_with_sign" nWith spWith) (M_copied : MDef P w K mg base CX0 5 C "_copied" nSelf (spCopied C))
    (lk : K.lookup f = some ⟨oc, od, .func (PySem.W.fnOf "added" "Folder.added" (defArgs sAdd) (defBody sAdd) (defScope sAdd) .none kV doc pm an (.ref c) ct), osl⟩) (hcd : PySem.W.codeIn K (.ref c) "Folder.added" = true) :
    FnOk P w K mg base CX0 8 f (PySem.W.fnOf "added" "Folder.added" (defArgs sAdd) (defBody sAdd) (defScope sAdd) .none kV doc pm an (.ref c) ct) nAdd (spSgn C PA PT PS (fun z ss => wG ss z)) := by
  have nd := scAdd.nd
  have hu1 := ap.a
  refine fn_of lk hcd scAdd (fun vs H Q E h => ?_) (fun A outer s H vs Q E hr h => ?_)
  · obtain ⟨p, na, F, ns, z, rfl, _⟩ := h
    rfl
  · obtain ⟨p, na, F, ns, z, rfl, hF, ha, hn, hl, hu, hz, hT, q⟩ := h
    refine ⟨_, PSs.nox (pss_cons (ps_expr (pe_def D_check_numbers (hr.mono (by decide)) rfl pass0 (pa_cons (pv 1) pa_nil)))
 (pss_cons (ps_if (pt_not (pt_val (pe_def D_is_sign (hr.mono (by decide)) rfl pass0 (pa_cons (pv 2) pa_nil)))) pss_any pss_nil)
 (pss_one (ps_ret (pe_signed (T := T3 PA PT PS) (g := fun ss => wG ss z) DS T t M_copied (pv 0) (pv 1) TB rfl mem_a hu1 hr (LamY.lamS1_by (by rfl)) (show ("signs" : Str) ∉ nAdd by decide +kernel) rfl (fun _ _ _ _ _ _ => rfl) (fun _ _ _ _ _ _ hr2 => pe_def D_with (hr2.mono (by decide)) rfl pass0 (pa_cons (pv 3) (pa_cons (pv 2) pa_nil)))))))), ?_⟩
    refine ⟨_, rfl, na, ns, rfl, hn.at_, hn.one, hn.len, fun H1 s1 => ?_⟩
    refine ⟨_, rfl, z, rfl, hz, fun H2 s2 => ⟨_, rfl, itbF rfl ?_⟩⟩
    have s12 := s1.trans s2
    obtain ⟨dx, tl, tg, hp, h1, h2⟩ := hF.same s12
    refine ⟨_, rfl, p, dx, _, rfl, hp, fl_no (by decide +kernel), _, rfl, hT.ext s12, fun H3 e3 t3 => ?_⟩
    refine ⟨p, na, F, ns, rfl, rfl, Fo_ext (hF.same s12) e3, ha, (hn.ext (LamX.ExtN.of s12)).ext e3, hl, hu, fun ss hs => wG_ok hs hz, fun a ss H' Q' s3 hs has k => ?_, fun q' H' s3 _ hF' => q q' H' (((LamX.ExtN.of s12).trans e3).trans (LamX.ExtN.of s3)) (t3.ext s3) hF'⟩
    exact ⟨_, rfl, _, rfl, a, ss, z, rfl, has, hs, hz, k⟩
theorem ok_take {f : Addr} {oc : Value} {od : Option Addr} {kV doc pm : Value} {an : Option Addr} {ct : Value} {osl : Array (Option Value)} (T : Bk mg) (t : ClT K mg C) (ap : Ap PA PT PS) (DS : SgD K C) (TB : LamX.TabB base mg c PT)
    (D_check_numbers : Def P w K mg base CX0 4 "_check_numbers" nCkNums spCkNums) (D_is_sign : Def P w K mg base CX0 1 "is_sign" pV spSign) (D_wout : Def P w K mg base CX0 1 "_without_sign" nWith spWout) (M_copied : MDef P w K mg base CX0 5 C "_copied" nSelf (spCopied C))
    (lk : K.lookup f = some ⟨oc, od, .func (PySem.W.fnOf "taken" "Folder.taken" (defArgs sTake) (defBody sTake) (defScope sTake) .none kV doc pm an (.ref c) ct), osl⟩) (hcd : PySem.W.codeIn K (.ref c) "Folder.taken" = true) :
    FnOk P w K mg base CX0 8 f (PySem.W.fnOf "taken" "Folder.taken" (defArgs sTake) (defBody sTake) (defScope sTake) .none kV doc pm an (.ref c) ct) nAdd (spSgn C PA PT PS (fun z ss => nS ss z)) := by
  have nd := scTake.nd
  have hu1 := ap.t
  refine fn_of lk hcd scTake (fun vs H Q E h => ?_) (fun A outer s H vs Q E hr h => ?_)
  · obtain ⟨p, na, F, ns, z, rfl, _⟩ := h
    rfl
  · obtain ⟨p, na, F, ns, z, rfl, hF, ha, hn, hl, hu, hz, hT, q⟩ := h
    refine ⟨_, PSs.nox (pss_cons (ps_expr (pe_def D_check_numbers (hr.mono (by decide)) rfl pass0 (pa_cons (pv 1) pa_nil)))
 (pss_cons (ps_if (pt_not (pt_val (pe_def D_is_sign (hr.mono (by decide)) rfl pass0 (pa_cons (pv 2) pa_nil)))) pss_any pss_nil)
 (pss_one (ps_ret (pe_signed (T := T3 PA PT PS) (g := fun ss => nS ss z) DS T t M_copied (pv 0) (pv 1) TB rfl mem_t hu1 hr (LamY.lamS1_by (by rfl)) (show ("signs" : Str) ∉ nAdd by decide +kernel) rfl (fun _ _ _ _ _ _ => rfl) (fun _ _ _ _ _ _ hr2 => pe_def D_wout (hr2.mono (by decide)) rfl pass0 (pa_cons (pv 3) (pa_cons (pv 2) pa_nil)))))))), ?_⟩
    refine ⟨_, rfl, na, ns, rfl, hn.at_, hn.one, hn.len, fun H1 s1 => ?_⟩
    refine ⟨_, rfl, z, rfl, hz, fun H2 s2 => ⟨_, rfl, itbF rfl ?_⟩⟩
    have s12 := s1.trans s2
    obtain ⟨dx, tl, tg, hp, h1, h2⟩ := hF.same s12
    refine ⟨_, rfl, p, dx, _, rfl, hp, fl_no (by decide +kernel), _, rfl, hT.ext s12, fun H3 e3 t3 => ?_⟩
    refine ⟨p, na, F, ns, rfl, rfl, Fo_ext (hF.same s12) e3, ha, (hn.ext (LamX.ExtN.of s12)).ext e3, hl, hu, fun ss hs => nS_ok hs, fun a ss H' Q' s3 hs has k => ?_, fun q' H' s3 _ hF' => q q' H' (((LamX.ExtN.of s12).trans e3).trans (LamX.ExtN.of s3)) (t3.ext s3) hF'⟩
    exact ⟨_, rfl, _, rfl, a, ss, z, rfl, has, hs, hz, k⟩
theorem ok_set {f : Addr} {oc : Value} {od : Option Addr} {kV doc pm : Value} {an : Option Addr} {ct : Value} {osl : Array (Option Value)} (T : Bk mg) (t : ClT K mg C) (ap : Ap PA PT PS) (DS : SgD K C) (TB : LamX.TabB base mg c PS)
    (D_check_numbers : Def P w K mg base CX0 4 "_check_numbers" nCkNums spCkNums) (D_is_signs : Def P w K mg base CX0 2 "is_signs" pV spSigns) (M_copied : MDef P w K mg base CX0 5 C "_copied" nSelf (spCopied C))
    (lk : K.lookup f = some ⟨oc, od, .func (PySem.W.fnOf "set_to" "Folder.set_to" (defArgs sSet) (defBody sSet) (defScope sSet) .none kV doc pm an (.ref c) ct), osl⟩) (hcd : PySem.W.codeIn K (.ref c) "Folder.set_to" = true) :
    FnOk P w K mg base CX0 8 f (PySem.W.fnOf "set_to" "Folder.set_to" (defArgs sSet) (defBody sSet) (defScope sSet) .none kV doc pm an (.ref c) ct) nSet (spSet C PA PT PS) := by
  have nd := scSet.nd
  have hu1 := ap.s
  refine fn_of lk hcd scSet (fun vs H Q E h => ?_) (fun A outer s H vs Q E hr h => ?_)
  · obtain ⟨p, na, sa, F, ns, z, rfl, _⟩ := h
    rfl
  · obtain ⟨p, na, sa, F, ns, zs, rfl, hF, ha, hn, hl, hu, hz, hsa, hT, q⟩ := h
    refine ⟨_, PSs.nox (pss_cons (ps_expr (pe_def D_check_numbers (hr.mono (by decide)) rfl pass0 (pa_cons (pv 1) pa_nil)))
 (pss_cons (ps_if (pt_not (pt_val (pe_def D_is_signs (hr.mono (by decide)) rfl pass0 (pa_cons (pv 2) pa_nil)))) pss_any pss_nil)
 (pss_one (ps_ret (pe_signed (T := T3 PA PT PS) (g := fun ss => zs) DS T t M_copied (pv 0) (pv 1) TB rfl mem_s hu1 hr (LamY.lamS1_by (by rfl)) (show ("old" : Str) ∉ nSet by decide +kernel) rfl (fun _ _ _ _ _ _ => rfl) (fun _ _ _ _ _ _ hr2 => pv 2)))))), ?_⟩
    refine ⟨_, rfl, na, ns, rfl, hn.at_, hn.one, hn.len, fun H1 s1 => ?_⟩
    refine ⟨_, rfl, sa, zs, rfl, s1 _ _ hsa, okSs_iff.mpr hz, fun H2 s2 => ⟨_, rfl, itbF rfl ?_⟩⟩
    have s12 := s1.trans s2
    obtain ⟨dx, tl, tg, hp, h1, h2⟩ := hF.same s12
    refine ⟨_, rfl, p, dx, _, rfl, hp, fl_no (by decide +kernel), _, rfl, hT.ext s12, fun H3 e3 t3 => ?_⟩
    refine ⟨p, na, F, ns, rfl, rfl, Fo_ext (hF.same s12) e3, ha, (hn.ext (LamX.ExtN.of s12)).ext e3, hl, hu, fun ss hs => hz, fun a ss H' Q' s3 hs has k => ?_, fun q' H' s3 _ hF' => q q' H' (((LamX.ExtN.of s12).trans e3).trans (LamX.ExtN.of s3)) (t3.ext s3) hF'⟩
    exact ⟨_, rfl, k sa H' (fun _ _ h => h) (s3 _ _ (tup_ext (s12 _ _ hsa) e3))⟩
end
end K1


set_option Elab.async false
set_option linter.all false
set_option maxRecDepth 100000
set_option maxHeartbeats 2000000
namespace K1
open PySem PySem.Spec PyProof.Rows L2 RZ StX
/-! is_mark and trimmed -/
theorem dv_go {H : Hp} {y : V} {g : Int × Int} (h : Dv H y (goD g)) : ∃ ta, y = .ref ta ∧ H ta = some (.tup [.int g.1, .int g.2]) := by
  cases h with
  | tup h r =>
  cases r with
  | cons h1 r =>
  cases r with
  | cons h2 r =>
  cases r
  cases h1
  cases h2
  exact ⟨_, rfl, h⟩
abbrev sIsMark : Stmt := st_is_mark
theorem scIsMark : FnScope nV pV (defScope sIsMark) := ⟨rfl, rfl, rfl, by decide +kernel, rfl, by decide +kernel, by decide +kernel⟩
abbrev sTrim : Stmt := mS 13
abbrev nTrim : List Str := ["self", "mark", "folder", "cut", "row"]
abbrev pTrim : List Str := ["self", "mark"]
theorem scTrim : FnScope nTrim pTrim (defScope sTrim) := ⟨rfl, rfl, rfl, by decide +kernel, rfl, by decide +kernel, by decide +kernel⟩
def mxI (i j : Int) : Int := if j > i then j else i
def fTrim (F : Fo) (m : Int) : Fo := { F with ct := mxI F.ct m, go := F.go.filter fun g => decide (mxI F.ct m < g.1) }
def spTrim (C : Addr) : Sp := fun vs H Q _ => ∃ (p : Addr) (F : Fo) (m : Int), vs = [.ref p, .int m] ∧ FoAt C H p F ∧ 1 ≤ F.age ∧ 0 ≤ m ∧ m ≤ F.mr ∧ F.go.length ≤ 1000 ∧ ∀ q H', Same H H' → H q = none → FoAt C H' q (fTrim F m) → Q (.ref q) H'
section
variable {P : Program} {w : World} {K : PySem.W.Frag} {mg : Str → Option Value} {base : Heap} {C : Addr}
theorem ok_isMark {f : Addr} {fd : FuncData} (D_is_integer : Def P w K mg base CX0 1 "is_integer" pV spInt) (F : Fun K "is_mark" "is_mark" sIsMark f fd) : FnOk P w K mg base CX0 2 f fd pV spBody := by
  refine F.ok scIsMark (fun vs H Q E h => ?_) (fun cdv A outer s H vs Q E hr h => ?_)
  · obtain ⟨n, rfl, _⟩ := h
    rfl
  · obtain ⟨n, rfl, h1, q⟩ := h
    refine ⟨_, (pss_one (ps_ret (pe_and (pe_def D_is_integer (hr.mono (by decide)) rfl pass0 (pa_cons (pv 0) pa_nil)) (pe_one (pe_cmpR op_ge (pv 0) pe_int (nomark _)))))), ?_⟩
    refine ⟨_, rfl, n, rfl, _, rfl, itbT rfl ⟨_, rfl, _, _, rfl, rfl, ?_⟩⟩
    show Q (.bl (decide (0 ≤ n))) H
    rw [decide_eq_true h1]; exact q
theorem ok_trim {f : Addr} {fd : FuncData} (T : Bk mg) (t : ClT K mg C) (D_is_mark : Def P w K mg base CX0 2 "is_mark" pV spBody) (M_copied : MDef P w K mg base CX0 5 C "_copied" nSelf (spCopied C))
    (F : Fun K "trimmed" "Folder.trimmed" sTrim f fd) : FnOk P w K mg base CX0 6 f fd pTrim (spTrim C) := by
  have nd := scTrim.nd
  refine F.ok scTrim (fun vs H Q E h => ?_) (fun cdv A outer s H vs Q E hr h => ?_)
  · obtain ⟨p, F, m, rfl, _⟩ := h
    rfl
  · obtain ⟨p, F, m, rfl, hF, ha, m0, m1, gl, q⟩ := h
    refine ⟨_, pss_cons (ps_if (PW.pt (pw_or (pt_not (pt_val (pe_def D_is_mark (hr.mono (by decide)) rfl pass0 (pa_cons (pv 1) pa_nil)))) (pw_or1 (pt_cmpR op_gt (pv 1) (pe_fld (pv 0) rfl) (nomark _)))))
  pss_any
  pss_nil)
 (pss_cons (ps_set (i := 2) nd rfl (Or.inl rfl) (pe_mdef0 M_copied t.cl (hr.mono (by decide)) pass0 (pv 0)))
 (pss_cons (ps_set (i := 3) nd rfl (Or.inr rfl) (pe_callB (call_max2 rfl) (by rfl) T.max PyProof.Rows.boot_max (pa_cons (pe_fld (pv 0) rfl) (pa_cons (pv 1) pa_nil))))
 (pss_cons (ps_fld (pv 2) (pv 3) rfl)
 (pss_cons (ps_fld (pv 2) (pe_callTy (call_tuple_ofK (K := K) rfl) (by rfl) T.tuple PyProof.Rows.boot_tuple (pa_cons (pe_lc (own := [("row", 4)]) (g := gName 4) rfl nd (pi_tupK (K := K) rfl (pe_fld (pv 0) rfl)) (blkOk_by (own := [("row", 4)]) (N := nTrim) (sc := defScope sTrim) (by decide +kernel)) (fun _ _ _ _ _ => pg_name (i := 4) nd rfl (Or.inl rfl)) (fun _ _ _ _ _ => pts_one (pt_cmpR op_gt (pe_ix (ix_tupK (K := K) rfl) (pv 4) pe_int (fun _ _ => rfl)) (pv 3) (nomark _))) (fun _ _ _ _ _ => (pv 4))) pa_nil)) rfl)
 (pss_one (ps_ret (pv 2))))))), ?_⟩
    obtain ⟨dx, tl, tg, hp, h1, h2⟩ := hF
    obtain ⟨gs, g0, gr0⟩ := Dv.tups h2
    refine ⟨_, rfl, m, rfl, m0, _, rfl, itbF rfl ?_⟩
    refine ⟨_, rfl, _, rfl, p, C, dx, _, _, rfl, hp, t.cl, t.nM, fl_mk, _, _, rfl, rfl, _, rfl, itbF (decide_eq_false (by omega)) ?_⟩
    refine ⟨_, rfl, p, dx, _, rfl, hp, fl_no (by decide +kernel), p, dx, tl, tg, F.age, F.nx, F.mr, F.ct, rfl, hp, ha, fun x dq H3 s3 nx hx => ?_⟩
    refine ⟨_, rfl, p, C, dx, _, _, rfl, s3 _ _ hp, t.cl, t.nC, fl_cut, _, rfl, _, _, rfl, ?_⟩
    refine ⟨_, rfl, _, rfl, x, C, dq, _, rfl, hx, t.cl, t.nC, by show 6 < 1000; decide, ?_⟩
    rw [pu_cut]
    generalize hc : (if m > F.ct then m else F.ct) = c
    have sA := s3.mut nx (o := .ins C dq (flds (.int F.age) (.ref tl) (.int F.nx) (.int F.mr) (.ref tg) (.int c)))
    have hxA : (upd H3 x (.ins C dq (flds (.int F.age) (.ref tl) (.int F.nx) (.int F.mr) (.ref tg) (.int c)))) x = some (.ins C dq (flds (.int F.age) (.ref tl) (.int F.nx) (.int F.mr) (.ref tg) (.int c))) := upd_same
    generalize upd H3 x (.ins C dq (flds (.int F.age) (.ref tl) (.int F.nx) (.int F.mr) (.ref tg) (.int c))) = HA at sA hxA
    have gr := gr0.same sA
    have hgl := gr.len
    rw [List.length_map] at hgl
    refine ⟨_, rfl, p, C, dx, _, _, rfl, sA _ _ hp, t.cl, t.nG, fl_gone, tg, rfl, ⟨_, st (sA _ _ g0)⟩, fun D hD => ?_⟩
    refine lc_tup (K := K) (a := tg) (xs := gs) (fun i H2 => Same HA H2 ∧ ∃ ks, H2 D = some (.lst ks) ∧ DvA H2 ks (((F.go.take i).filter fun g => decide (c < g.1)).map goD)) ⟨same_new hD, [], upd_same, .nil⟩ (fun i H2 _ h => st (h.1 _ _ (sA _ _ g0))) ?_ ?_
    · rintro i y H2 hy ⟨s2, ks, h2, hk⟩
      obtain ⟨e, he, hde⟩ := (gr.same s2).get hy
      rw [List.getElem?_map] at he
      cases hFi : F.go[i]? with
      | none => rw [hFi] at he; cases he
      | some g =>
        rw [hFi] at he
        obtain rfl := (Option.some.inj he).symm
        obtain ⟨ta, rfl, hta⟩ := dv_go hde
        have hlen := hk.len
        have hfl := List.length_filter_le (fun g : Int × Int => decide (c < g.1)) (F.go.take i)
        rw [List.length_map] at hlen
        rw [List.length_take] at hfl
        refine ⟨rfl, _, rfl, ta, _, 0, .int g.1, rfl, rfl, st hta, atI_nat (j := 0) rfl, _, rfl, _, _, rfl, rfl, _, rfl, ?_⟩
        rw [take_more hFi, List.filter_append, List.map_append]
        by_cases cc : c < g.1
        · refine itbT (decide_eq_true cc) ⟨_, rfl, _, h2, lt2 _ (by omega), s2.mut hD, ks ++ [.ref ta], upd_same, ?_⟩
          rw [show [g].filter (fun g => decide (c < g.1)) = [g] by simp [cc]]
          exact (hk.app (.cons hde .nil)).mut h2 (fun _ z => by cases z) (show tOA (((F.go.take i).filter fun g => decide (c < g.1)).map goD ++ [g].map goD) = true by rw [← List.map_append]; exact tO_gos _)
        · refine itbF (decide_eq_false cc) ?_
          rw [show [g].filter (fun g => decide (c < g.1)) = [] by simp [cc], List.map_nil, List.append_nil]
          exact ⟨s2, ks, h2, hk⟩
    · rintro H2 ⟨s2, ks, h2, hk⟩
      rw [hgl, List.take_length] at hk
      refine ⟨D, ks, rfl, .inl ⟨sq h2, fun tn ntn => ?_⟩⟩
      have s5 := same_new (o := .tup ks) ntn
      have hx5 := s5 _ _ (s2 _ _ hxA)
      have nxt : x ≠ tn := ne_of_none (s2 _ _ hxA) ntn
      refine ⟨_, rfl, x, C, dq, _, rfl, hx5, t.cl, t.nG, by show 6 < 1000; decide, ?_⟩
      rw [pu_gone]
      have sZ := ((sA.trans s2).trans s5).mut nx (o := .ins C dq (flds (.int F.age) (.ref tl) (.int F.nx) (.int F.mr) (.ref tn) (.int c)))
      refine ⟨_, rfl, q x _ sZ nx ?_⟩
      have ef : fTrim F m = { F with ct := c, go := F.go.filter fun g => decide (c < g.1) } := by unfold fTrim mxI; rw [hc]
      rw [ef]
      exact ⟨dq, tl, tn, upd_same, h1.same sZ, .tup (by rw [upd_ne nxt.symm]; exact upd_same) ((hk.same s5).mut hx5 (fun _ z => by cases z) (tO_gos _))⟩
end
end K1


set_option Elab.async false
set_option linter.all false
set_option maxRecDepth 100000
set_option maxHeartbeats 2000000
namespace K1
open PySem PySem.Spec PyProof.Rows L2 RZ StX
theorem pe_any {X : Cx} {e : Expr} : PE X e (fun _ _ _ => False) := ⟨fun _ _ _ _ _ _ h => h.elim⟩
/-! ### deeds -/
inductive Dd where
  | app (b : Int) (ss : List Str)
  | add (ns : List Int) (z : Str)
  | take (ns : List Int) (z : Str)
  | set (ns : List Int) (zs : List Str)
  | rem (ns : List Int)
  | trim (m : Int)
def DdAt (H : Hp) (a : Addr) : Dd → Prop
  | .app b ss => ∃ sa, H a = some (.tup [.str "append", .int b, .ref sa]) ∧ H sa = some (.tup (ss.map V.str)) ∧ 0 ≤ b ∧ OkSs ss
  | .add ns z => ∃ na, H a = some (.tup [.str "add", .ref na, .str z]) ∧ NumsAt H na ns ∧ okS z = true
  | .take ns z => ∃ na, H a = some (.tup [.str "take", .ref na, .str z]) ∧ NumsAt H na ns ∧ okS z = true
  | .set ns zs => ∃ na sa, H a = some (.tup [.str "set", .ref na, .ref sa]) ∧ NumsAt H na ns ∧ H sa = some (.tup (zs.map V.str)) ∧ OkSs zs
  | .rem ns => ∃ na, H a = some (.tup [.str "remove", .ref na]) ∧ NumsAt H na ns
  | .trim m => H a = some (.tup [.str "trim", .int m]) ∧ 0 ≤ m
def does : Dd → Fo → Fo
  | .app b ss, F => fApp F b ss
  | .add ns z, F => fSig F ns (fun ss => wG ss z)
  | .take ns z, F => fSig F ns (fun ss => nS ss z)
  | .set ns zs, F => fSig F ns (fun _ => zs)
  | .rem ns, F => fRem F ns
  | .trim m, F => fTrim F m
def wordD : Dd → Str
  | .app _ _ => "append"
  | .add _ _ => "add"
  | .take _ _ => "take"
  | .set _ _ => "set"
  | .rem _ => "remove"
  | .trim _ => "trim"
theorem DdAt.ext {H H' : Hp} {a : Addr} (s : LamX.ExtN H H') : ∀ {d : Dd}, DdAt H a d → DdAt H' a d
  | .app b ss, ⟨sa, h, h2, h3, h4⟩ => ⟨sa, tup_ext h s, tup_ext h2 s, h3, h4⟩
  | .add ns z, ⟨na, h, h2, h3⟩ => ⟨na, tup_ext h s, h2.ext s, h3⟩
  | .take ns z, ⟨na, h, h2, h3⟩ => ⟨na, tup_ext h s, h2.ext s, h3⟩
  | .set ns zs, ⟨na, sa, h, h2, h3, h4⟩ => ⟨na, sa, tup_ext h s, h2.ext s, tup_ext h3 s, h4⟩
  | .rem ns, ⟨na, h, h2⟩ => ⟨na, tup_ext h s, h2.ext s⟩
  | .trim m, ⟨h, h2⟩ => ⟨tup_ext h s, h2⟩
theorem DdAt.same {H H' : Hp} {a : Addr} {d : Dd} (h : DdAt H a d) (s : Same H H') : DdAt H' a d := h.ext (LamX.ExtN.of s)
theorem DdAt.word {H : Hp} {a : Addr} : ∀ {d : Dd}, DdAt H a d → ∃ u rest, H a = some (.tup (.str (wordD d) :: u :: rest)) ∧ rest.length ≤ 1
  | .app b ss, ⟨sa, h, _⟩ => ⟨_, _, h, Nat.le_refl _⟩
  | .add ns z, ⟨na, h, _⟩ => ⟨_, _, h, Nat.le_refl _⟩
  | .take ns z, ⟨na, h, _⟩ => ⟨_, _, h, Nat.le_refl _⟩
  | .set ns zs, ⟨na, sa, h, _⟩ => ⟨_, _, h, Nat.le_refl _⟩
  | .rem ns, ⟨na, h, _⟩ => ⟨_, _, h, Nat.zero_le _⟩
  | .trim m, ⟨h, _⟩ => ⟨_, _, h, Nat.zero_le _⟩
abbrev sIsDeed : Stmt := st_is_deed
abbrev sCan : Stmt := st_can_be_done
abbrev sDone : Stmt := st_done
abbrev sPlayed : Stmt := st_played
abbrev nIsDeed : List Str := ["value", "word", "first"]
theorem scIsDeed : FnScope nIsDeed pV (defScope sIsDeed) := ⟨rfl, rfl, rfl, by decide +kernel, rfl, by decide +kernel, by decide +kernel⟩
abbrev nCan : List Str := ["folder", "value"]
theorem scCan : FnScope nCan nCan (defScope sCan) := ⟨rfl, rfl, rfl, by decide +kernel, rfl, by decide +kernel, by decide +kernel⟩
abbrev nDone : List Str := ["folder", "deed", "word", "first"]
abbrev pDone : List Str := ["folder", "deed"]
theorem scDone : FnScope nDone pDone (defScope sDone) := ⟨rfl, rfl, rfl, by decide +kernel, rfl, by decide +kernel, by decide +kernel⟩
abbrev nPlayed : List Str := ["folder", "history", "at", "deed"]
abbrev pPlayed : List Str := ["folder", "history"]
theorem scPlayed : FnScope nPlayed pPlayed (defScope sPlayed) := ⟨rfl, rfl, rfl, by decide +kernel, rfl, by decide +kernel, by decide +kernel⟩
def spIsDeed : Sp := fun vs H Q _ => ∃ (a : Addr) (d : Dd), vs = [.ref a] ∧ DdAt H a d ∧ ∀ H', Same H H' → Q (.bl true) H'
def CanD (F : Fo) : Dd → Prop
  | .trim m => m ≤ F.mr
  | _ => True
def spCan (C : Addr) : Sp := fun vs H Q _ => ∃ (p a : Addr) (F : Fo) (d : Dd), vs = [.ref p, .ref a] ∧ FoAt C H p F ∧ CanD F d ∧ DdAt H a d ∧ ∀ H', Same H H' → Q (.bl true) H'
theorem shaped_str {s : Str} (h : PyData.strOk s = true) : SeqAt.shaped (.str s) = true := by
  unfold SeqAt.shaped
  simp [PyData.canLay0, PyData.depth, h]
theorem eq_str {K : PySem.W.Frag} {H : Hp} {a b : Str} {Q : VK} (c : Bool) (ha : PyData.strOk a = true) (e : (a == b) = c) (q : Q (.bl c) H) (hb : PyData.strOk b = true := by decide +kernel) : rEqD K (.str a) (.str b) H Q :=
  ⟨.str a, .str b, .str _, .str _, shaped_str ha, shaped_str hb, by rw [eqv_str, e]; exact q⟩
theorem ne_str {K : PySem.W.Frag} {H : Hp} {a b : Str} {Q : VK} (c : Bool) (ha : PyData.strOk a = true) (e : (a == b) = c) (q : Q (.bl !c) H) (hb : PyData.strOk b = true := by decide +kernel) : rNeD K (.str a) (.str b) H Q :=
  ⟨.str a, .str b, .str _, .str _, shaped_str ha, shaped_str hb, by rw [eqv_str, e]; exact q⟩
theorem word_ok : ∀ d : Dd, PyData.strOk (wordD d) = true
  | .app _ _ => (show PyData.strOk "append" = true by decide +kernel)
  | .add _ _ => (show PyData.strOk "add" = true by decide +kernel)
  | .take _ _ => (show PyData.strOk "take" = true by decide +kernel)
  | .set _ _ => (show PyData.strOk "set" = true by decide +kernel)
  | .rem _ => (show PyData.strOk "remove" = true by decide +kernel)
  | .trim _ => (show PyData.strOk "trim" = true by decide +kernel)
section
variable {P : Program} {w : World} {K : PySem.W.Frag} {mg : Str → Option Value} {base : Heap} {C : Addr}
theorem ok_isDeed {f : Addr} {fd : FuncData} (T : Bk mg) (D_is_body : Def P w K mg base CX0 2 "is_body" pV spBody) (D_is_sign : Def P w K mg base CX0 1 "is_sign" pV spSign) (D_is_signs : Def P w K mg base CX0 2 "is_signs" pV spSigns) (D_is_numbers : Def P w K mg base CX0 3 "is_numbers" pV spNums) (D_is_mark : Def P w K mg base CX0 2 "is_mark" pV spBody)
    (F : Fun K "is_deed" "is_deed" sIsDeed f fd) : FnOk P w K mg base CX0 4 f fd pV spIsDeed := by
  have nd := scIsDeed.nd
  refine F.ok scIsDeed (fun vs H Q E h => ?_) (fun cdv A outer s H vs Q E hr h => ?_)
  · obtain ⟨a, d, rfl, _⟩ := h
    rfl
  · obtain ⟨a, d, rfl, hd, q⟩ := h
    refine ⟨_, pss_cons (ps_if (PW.pt (pw_or (pt_not (pt_val (pe_callB (call_isiK1 (K := K) rfl) (by rfl) T.isinstance PyProof.Rows.boot_isinstance (pa_cons (pv 0) (pa_cons (pe_bltn (v := .ty "tuple") rfl T.tuple PyProof.Rows.boot_tuple rfl) pa_nil))))) (pw_or (pt_cmpR (op_notIn_seqK (K := K) rfl) (pe_callB (call_lenK (K := K) rfl) (by rfl) T.len PySem.boot_len (pa_cons (pv 0) pa_nil)) (pe_tup (pa_cons pe_int (pa_cons pe_int pa_nil))) (by rfl)) (pw_or1 (pt_not (pt_val (pe_callB (call_isiK1 (K := K) rfl) (by rfl) T.isinstance PyProof.Rows.boot_isinstance (pa_cons (pe_ix (ix_tupK (K := K) rfl) (pv 0) pe_int (fun _ _ => rfl)) (pa_cons (pe_bltn (v := .ty "str") rfl T.str PyProof.Rows.boot_str rfl) pa_nil)))))))))
  pss_any
  pss_nil)
 (pss_cons (ps_par (i := 1) (j := 2) (by rfl) nd rfl rfl (by decide) rfl rfl (pa_cons (pe_ix (ix_tupK (K := K) rfl) (pv 0) pe_int (fun _ _ => rfl)) (pa_cons (pe_ix (ix_tupK (K := K) rfl) (pv 0) pe_int (fun _ _ => rfl)) pa_nil)) (by rfl))
 (pss_cons (ps_if (pt_cmpR op_eq (pe_callB (call_lenK (K := K) rfl) (by rfl) T.len PySem.boot_len (pa_cons (pv 0) pa_nil)) pe_int (nomark _))
  (pss_one (ps_ret (pe_or (pe_and (pe_cmpR (op_eqDK (K := K) rfl hr.units) (pv 1) pe_str (nomark _)) (pe_one (pe_def D_is_numbers (hr.mono (by decide)) rfl pass0 (pa_cons (pv 2) pa_nil)))) (pe_one (pe_and (pe_cmpR (op_eqDK (K := K) rfl hr.units) (pv 1) pe_str (nomark _)) (pe_one (pe_def D_is_mark (hr.mono (by decide)) rfl pass0 (pa_cons (pv 2) pa_nil))))))))
  pss_nil)
 (pss_cons (ps_if (pt_cmpR (op_eqDK (K := K) rfl hr.units) (pv 1) pe_str (nomark _))
  (pss_one (ps_ret (pe_and (pe_def D_is_body (hr.mono (by decide)) rfl pass0 (pa_cons (pv 2) pa_nil)) (pe_one (pe_def D_is_signs (hr.mono (by decide)) rfl pass0 (pa_cons (pe_ix (ix_tupK (K := K) rfl) (pv 0) pe_int (fun _ _ => rfl)) pa_nil))))))
  pss_nil)
 (pss_cons (ps_if (pt_cmpR (op_in_seqK (K := K) rfl) (pv 1) (pe_tup (pa_cons pe_str (pa_cons pe_str pa_nil))) (by rfl))
  (pss_one (ps_ret (pe_and (pe_def D_is_numbers (hr.mono (by decide)) rfl pass0 (pa_cons (pv 2) pa_nil)) (pe_one (pe_def D_is_sign (hr.mono (by decide)) rfl pass0 (pa_cons (pe_ix (ix_tupK (K := K) rfl) (pv 0) pe_int (fun _ _ => rfl)) pa_nil))))))
  pss_nil)
 (pss_one (ps_ret (pe_and (pe_cmpR (op_eqDK (K := K) rfl hr.units) (pv 1) pe_str (nomark _)) (pe_and (pe_def D_is_numbers (hr.mono (by decide)) rfl pass0 (pa_cons (pv 2) pa_nil)) (pe_one (pe_def D_is_signs (hr.mono (by decide)) rfl pass0 (pa_cons (pe_ix (ix_tupK (K := K) rfl) (pv 0) pe_int (fun _ _ => rfl)) pa_nil))))))))))), ?_⟩
    obtain ⟨u, rest, ha, hl⟩ := hd.word
    refine ⟨_, rfl, .ref a, .ty "tuple", .type "tuple", .type "tuple", true, rfl, .ty _, .base (.tup ha), kit_ty (by decide +kernel), _, rfl, itbF rfl ?_⟩
    refine ⟨_, rfl, a, _, rfl, .inr (st ha), by show 2 ≤ sizeLine; decide, fun tp ntp => ?_⟩
    have s1 := same_new (o := .tup [.int 2, .int 3]) ntp
    refine ⟨tp, _, rfl, .inr (st upd_same), rfl, rfl, _, rfl, itbF ?_ ?_⟩
    · match rest, hl with
      | [], _ => rfl
      | [_], _ => rfl
      | _ :: _ :: _, hl => simp at hl
    have ha1 := s1 _ _ ha
    have hd1 := hd.same s1
    generalize upd H tp (.tup [.int 2, .int 3]) = H1 at s1 ha1 hd1
    refine ⟨_, rfl, a, _, 0, .str (wordD d), rfl, rfl, st ha1, atI_nat (j := 0) rfl, .str (wordD d), .ty "str", .type "str", .type "str", true, rfl, .ty _, .base (.str _), kit_ty (by decide +kernel), _, rfl, itbF rfl ?_⟩
    cases d with
    | app b ss =>
      obtain ⟨sa, h, hs, hb, hu⟩ := hd1
      refine ⟨_, rfl, a, _, 0, .str "append", rfl, rfl, st h, atI_nat (j := 0) rfl, _, rfl, a, _, 1, .int b, rfl, rfl, st h, atI_nat (j := 1) rfl, _, _, rfl, ?_⟩
      refine ⟨_, rfl, a, _, rfl, .inr (st h), rfl, _, rfl, itbF (decide_eq_false (fun z => absurd (V.int.inj z) (by simp))) ?_⟩
      refine ⟨_, rfl, ?_⟩
      delta tC; dsimp only
      refine eq_str true (by decide +kernel) (by decide +kernel) ⟨_, rfl, itbT rfl ?_⟩
      refine ⟨_, rfl, b, rfl, hb, _, rfl, itbT rfl ?_⟩
      exact ⟨_, rfl, a, _, 2, .ref sa, rfl, rfl, st h, atI_nat (j := 2) rfl, sa, ss, rfl, hs, okSs_iff.mpr hu, fun H2 s2 => q H2 (s1.trans s2)⟩
    | add ns z =>
      obtain ⟨na, h, hn, hz⟩ := hd1
      refine ⟨_, rfl, a, _, 0, .str "add", rfl, rfl, st h, atI_nat (j := 0) rfl, _, rfl, a, _, 1, .ref na, rfl, rfl, st h, atI_nat (j := 1) rfl, _, _, rfl, ?_⟩
      refine ⟨_, rfl, a, _, rfl, .inr (st h), rfl, _, rfl, itbF (decide_eq_false (fun z => absurd (V.int.inj z) (by simp))) ?_⟩
      refine ⟨_, rfl, ?_⟩
      delta tC; dsimp only
      refine eq_str false (by decide +kernel) (by decide +kernel) ⟨_, rfl, itbF rfl ?_⟩
      refine ⟨_, rfl, by show 2 ≤ sizeLine; decide, fun t2 n2 => ?_⟩
      have s2 := same_new (o := .tup [.str "add", .str "take"]) n2
      refine ⟨t2, _, rfl, .inr (st upd_same), rfl, rfl, _, rfl, itbT (by decide +kernel) ?_⟩
      refine ⟨_, rfl, na, ns, rfl, hn.at_.same s2, hn.one, hn.len, fun H3 s3 => ⟨_, rfl, itbT rfl ?_⟩⟩
      exact ⟨_, rfl, a, _, 2, .str z, rfl, rfl, st (s3 _ _ (s2 _ _ h)), atI_nat (j := 2) rfl, z, rfl, hz, fun H4 s4 => q H4 (((s1.trans s2).trans s3).trans s4)⟩
    | take ns z =>
      obtain ⟨na, h, hn, hz⟩ := hd1
      refine ⟨_, rfl, a, _, 0, .str "take", rfl, rfl, st h, atI_nat (j := 0) rfl, _, rfl, a, _, 1, .ref na, rfl, rfl, st h, atI_nat (j := 1) rfl, _, _, rfl, ?_⟩
      refine ⟨_, rfl, a, _, rfl, .inr (st h), rfl, _, rfl, itbF (decide_eq_false (fun z => absurd (V.int.inj z) (by simp))) ?_⟩
      refine ⟨_, rfl, ?_⟩
      delta tC; dsimp only
      refine eq_str false (by decide +kernel) (by decide +kernel) ⟨_, rfl, itbF rfl ?_⟩
      refine ⟨_, rfl, by show 2 ≤ sizeLine; decide, fun t2 n2 => ?_⟩
      have s2 := same_new (o := .tup [.str "add", .str "take"]) n2
      refine ⟨t2, _, rfl, .inr (st upd_same), rfl, rfl, _, rfl, itbT (by decide +kernel) ?_⟩
      refine ⟨_, rfl, na, ns, rfl, hn.at_.same s2, hn.one, hn.len, fun H3 s3 => ⟨_, rfl, itbT rfl ?_⟩⟩
      exact ⟨_, rfl, a, _, 2, .str z, rfl, rfl, st (s3 _ _ (s2 _ _ h)), atI_nat (j := 2) rfl, z, rfl, hz, fun H4 s4 => q H4 (((s1.trans s2).trans s3).trans s4)⟩
    | set ns zs =>
      obtain ⟨na, sa, h, hn, hs, hz⟩ := hd1
      refine ⟨_, rfl, a, _, 0, .str "set", rfl, rfl, st h, atI_nat (j := 0) rfl, _, rfl, a, _, 1, .ref na, rfl, rfl, st h, atI_nat (j := 1) rfl, _, _, rfl, ?_⟩
      refine ⟨_, rfl, a, _, rfl, .inr (st h), rfl, _, rfl, itbF (decide_eq_false (fun z => absurd (V.int.inj z) (by simp))) ?_⟩
      refine ⟨_, rfl, ?_⟩
      delta tC; dsimp only
      refine eq_str false (by decide +kernel) (by decide +kernel) ⟨_, rfl, itbF rfl ?_⟩
      refine ⟨_, rfl, by show 2 ≤ sizeLine; decide, fun t2 n2 => ?_⟩
      have s2 := same_new (o := .tup [.str "add", .str "take"]) n2
      refine ⟨t2, _, rfl, .inr (st upd_same), rfl, rfl, _, rfl, itbF (by decide +kernel) ?_⟩
      refine ⟨_, rfl, ?_⟩
      dsimp only
      refine eq_str true (by decide +kernel) (by decide +kernel) ⟨_, rfl, itbT rfl ?_⟩
      refine ⟨_, rfl, na, ns, rfl, hn.at_.same s2, hn.one, hn.len, fun H3 s3 => ⟨_, rfl, itbT rfl ?_⟩⟩
      exact ⟨_, rfl, a, _, 2, .ref sa, rfl, rfl, st (s3 _ _ (s2 _ _ h)), atI_nat (j := 2) rfl, sa, zs, rfl, s3 _ _ (s2 _ _ hs), okSs_iff.mpr hz, fun H4 s4 => q H4 (((s1.trans s2).trans s3).trans s4)⟩
    | rem ns =>
      obtain ⟨na, h, hn⟩ := hd1
      refine ⟨_, rfl, a, _, 0, .str "remove", rfl, rfl, st h, atI_nat (j := 0) rfl, _, rfl, a, _, 1, .ref na, rfl, rfl, st h, atI_nat (j := 1) rfl, _, _, rfl, ?_⟩
      refine ⟨_, rfl, a, _, rfl, .inr (st h), rfl, _, rfl, itbT (decide_eq_true rfl) ?_⟩
      refine ⟨_, rfl, ?_⟩
      delta tC; dsimp only
      refine eq_str true (by decide +kernel) (by decide +kernel) ⟨_, rfl, itbT rfl ?_⟩
      exact ⟨_, rfl, na, ns, rfl, hn.at_, hn.one, hn.len, fun H3 s3 => ⟨_, rfl, itbT rfl (q H3 (s1.trans s3))⟩⟩
    | trim m =>
      obtain ⟨h, h0⟩ := hd1
      refine ⟨_, rfl, a, _, 0, .str "trim", rfl, rfl, st h, atI_nat (j := 0) rfl, _, rfl, a, _, 1, .int m, rfl, rfl, st h, atI_nat (j := 1) rfl, _, _, rfl, ?_⟩
      refine ⟨_, rfl, a, _, rfl, .inr (st h), rfl, _, rfl, itbT (decide_eq_true rfl) ?_⟩
      refine ⟨_, rfl, ?_⟩
      delta tC; dsimp only
      refine eq_str false (by decide +kernel) (by decide +kernel) ⟨_, rfl, itbF rfl ⟨_, rfl, itbF rfl ⟨_, rfl, ?_⟩⟩⟩
      dsimp only
      refine eq_str true (by decide +kernel) (by decide +kernel) ⟨_, rfl, itbT rfl ?_⟩
      exact ⟨_, rfl, m, rfl, h0, q H1 s1⟩
theorem ok_can {f : Addr} {fd : FuncData} (t : ClT K mg C) (M_mark : MDef P w K mg base CX0 1 C "mark" nSelf (spMark C)) (D_is_deed : Def P w K mg base CX0 4 "is_deed" pV spIsDeed)
    (F : Fun K "can_be_done" "can_be_done" sCan f fd) : FnOk P w K mg base CX0 5 f fd nCan (spCan C) := by
  have nd := scCan.nd
  refine F.ok scCan (fun vs H Q E h => ?_) (fun cdv A outer s H vs Q E hr h => ?_)
  · obtain ⟨p, a, F, d, rfl, _⟩ := h
    rfl
  · obtain ⟨p, a, F, d, rfl, hF, hc, hd, q⟩ := h
    refine ⟨_, pss_cons (ps_if (pt_not (pt_val (pe_def D_is_deed (hr.mono (by decide)) rfl pass0 (pa_cons (pv 1) pa_nil)))) pss_any pss_nil)
 (pss_one (ps_ret (pe_or (pe_cmpR (op_neDK (K := K) rfl hr.units) (pe_ix (ix_tupK (K := K) rfl) (pv 1) pe_int (fun _ _ => rfl)) pe_str (nomark _)) (pe_one (pe_cmpR op_le (pe_ix (ix_tupK (K := K) rfl) (pv 1) pe_int (fun _ _ => rfl)) (pe_mdef0 M_mark t.cl (hr.mono (by decide)) pass0 (pv 0)) (nomark _)))))), ?_⟩
    refine ⟨_, rfl, a, d, rfl, hd, fun H1 s1 => ⟨_, rfl, itbF rfl ?_⟩⟩
    have hd1 := hd.same s1
    by_cases ht : ∃ m, d = .trim m
    · obtain ⟨m, rfl⟩ := ht
      obtain ⟨ha, h0⟩ := hd1
      have hF1 := hF.same s1
      obtain ⟨dx, tl, tg, hp, _⟩ := id hF1
      refine ⟨_, rfl, a, _, 0, .str "trim", rfl, rfl, st ha, atI_nat (j := 0) rfl, ?_⟩
      delta tC; dsimp only
      refine ne_str true (by decide +kernel) (by decide +kernel) ⟨_, rfl, itbF rfl ?_⟩
      refine ⟨_, rfl, a, _, 1, .int m, rfl, rfl, st ha, atI_nat (j := 1) rfl, _, rfl, p, dx, _, rfl, hp, fl_no (by decide +kernel), p, F, rfl, hF1, _, _, rfl, rfl, ?_⟩
      show Q (.bl (decide (m ≤ F.mr))) H1
      rw [decide_eq_true (show m ≤ F.mr from hc)]
      exact q H1 s1
    obtain ⟨u, rest, ha, hl⟩ := hd1.word
    refine ⟨_, rfl, a, _, 0, .str (wordD d), rfl, rfl, st ha, atI_nat (j := 0) rfl, ?_⟩
    delta tC; dsimp only
    refine ne_str false (word_ok d) ?_ ⟨_, rfl, itbT rfl (q H1 s1)⟩
    cases d with
    | app b ss => exact (show (("append" : Str) == "trim") = false by decide +kernel)
    | add b ss => exact (show (("add" : Str) == "trim") = false by decide +kernel)
    | take b ss => exact (show (("take" : Str) == "trim") = false by decide +kernel)
    | set b ss => exact (show (("set" : Str) == "trim") = false by decide +kernel)
    | rem b => exact (show (("remove" : Str) == "trim") = false by decide +kernel)
    | trim m => exact absurd ⟨m, rfl⟩ ht
end
end K1


set_option Elab.async false
set_option linter.all false
set_option maxRecDepth 100000
set_option maxHeartbeats 2000000
namespace K1
open PySem PySem.Spec PyProof.Rows L2 RZ StX
/-! ### what folders keep -/
structure Wf (n : Nat) (F : Fo) : Prop where
  age : 1 ≤ F.age
  len : F.ls.length + F.go.length ≤ n
  sg : ∀ l ∈ F.ls, OkSs l.s
def OkD : Dd → Prop
  | .app b ss => 0 ≤ b ∧ OkSs ss
  | .add _ z => okS z = true
  | .take _ z => okS z = true
  | .set _ zs => OkSs zs
  | .rem _ => True
  | .trim m => 0 ≤ m
theorem DdAt.ok {H : Hp} {a : Addr} : ∀ {d : Dd}, DdAt H a d → OkD d
  | .app b ss, ⟨sa, _, _, h3, h4⟩ => ⟨h3, h4⟩
  | .add ns z, ⟨na, _, _, h3⟩ => h3
  | .take ns z, ⟨na, _, _, h3⟩ => h3
  | .set ns zs, ⟨na, sa, _, _, _, h4⟩ => h4
  | .rem ns, ⟨na, _, _⟩ => trivial
  | .trim m, ⟨_, h⟩ => h
theorem sigL_len (ns : List Int) (g : List Str → List Str) : ∀ (ls : List Lt) (m : Int), (sigL ns g ls m).1.length = ls.length
  | [], m => rfl
  | l :: r, m => by
    unfold sigL
    split
    · show (sigL ns g r m).1.length + 1 = _
      rw [sigL_len ns g r m]; rfl
    · show (sigL ns g r (m + 1)).1.length + 1 = _
      rw [sigL_len ns g r (m + 1)]; rfl
theorem remL_len (ns : List Int) : ∀ (ls : List Lt) (m : Int), (remL ns ls m).1.length + (remL ns ls m).2.1.length = ls.length
  | [], m => rfl
  | l :: r, m => by
    unfold remL
    split
    · have := remL_len ns r (m + 1)
      simp only [List.length_cons]; omega
    · have := remL_len ns r m
      simp only [List.length_cons]; omega
theorem sigL_sg (ns : List Int) {g : List Str → List Str} (hg : ∀ ss, OkSs ss → OkSs (g ss)) : ∀ (ls : List Lt) (m : Int), (∀ l ∈ ls, OkSs l.s) → ∀ l ∈ (sigL ns g ls m).1, OkSs l.s
  | [], m, _, l, hl => by cases hl
  | x :: r, m, h, l, hl => by
    unfold sigL at hl
    split at hl
    · rcases List.mem_cons.mp hl with rfl | hl
      · exact h _ List.mem_cons_self
      · exact sigL_sg ns hg r m (fun y hy => h y (List.mem_cons_of_mem _ hy)) l hl
    · rcases List.mem_cons.mp hl with rfl | hl
      · exact newS_u (h _ List.mem_cons_self) hg
      · exact sigL_sg ns hg r (m + 1) (fun y hy => h y (List.mem_cons_of_mem _ hy)) l hl
theorem remL_mem (ns : List Int) : ∀ (ls : List Lt) (m : Int), ∀ l ∈ (remL ns ls m).1, l ∈ ls
  | [], m, l, hl => by cases hl
  | x :: r, m, l, hl => by
    unfold remL at hl
    split at hl
    · exact List.mem_cons_of_mem _ (remL_mem ns r (m + 1) l hl)
    · rcases List.mem_cons.mp hl with rfl | hl
      · exact List.mem_cons_self
      · exact List.mem_cons_of_mem _ (remL_mem ns r m l hl)
theorem wf_sig {n : Nat} {F : Fo} {ns : List Int} {g : List Str → List Str} (h : Wf n F) (hg : ∀ ss, OkSs ss → OkSs (g ss)) : Wf n (fSig F ns g) :=
  ⟨h.age, by show (sigL ns g F.ls F.mr).1.length + F.go.length ≤ n; rw [sigL_len]; exact h.len, sigL_sg ns hg _ _ h.sg⟩
theorem Wf.mono {n m : Nat} {F : Fo} (h : Wf n F) (k : n ≤ m) : Wf m F := ⟨h.age, Nat.le_trans h.len k, h.sg⟩
theorem wf_does {n : Nat} {F : Fo} : ∀ {d : Dd}, OkD d → Wf n F → Wf (n + 1) (does d F)
  | .app b ss, h, w => ⟨w.age, by have := w.len; show (F.ls ++ _).length + F.go.length ≤ n + 1; rw [List.length_append]; show F.ls.length + 1 + F.go.length ≤ n + 1; omega, fun l hl => by
      rcases List.mem_append.mp (show l ∈ F.ls ++ _ from hl) with hl | hl
      · exact w.sg l hl
      · rw [List.mem_singleton.mp hl]; exact h.2⟩
  | .add ns z, h, w => (wf_sig w fun ss hs => wG_ok hs h).mono (Nat.le_succ _)
  | .take ns z, h, w => (wf_sig w fun ss hs => nS_ok hs).mono (Nat.le_succ _)
  | .set ns zs, h, w => (wf_sig w fun ss hs => h).mono (Nat.le_succ _)
  | .rem ns, h, w => ⟨w.age, by have := w.len; have := remL_len ns F.ls F.mr; show (remL ns F.ls F.mr).1.length + (F.go ++ (remL ns F.ls F.mr).2.1).length ≤ n + 1; rw [List.length_append]; omega, fun l hl => w.sg l (remL_mem ns _ _ l hl)⟩
  | .trim m, h, w => ⟨w.age, by have := w.len; have := List.length_filter_le (fun g : Int × Int => decide (mxI F.ct m < g.1)) F.go; show F.ls.length + (F.go.filter fun g => decide (mxI F.ct m < g.1)).length ≤ n + 1; omega, w.sg⟩
def spDone (C PA PT PS : Addr) : Sp := fun vs H Q _ => ∃ (p a : Addr) (F : Fo) (d : Dd), vs = [.ref p, .ref a] ∧ FoAt C H p F ∧ Wf 1000 F ∧ DdAt H a d ∧ CanD F d ∧ LamX.Tabs (T3 PA PT PS) H ∧
  ∀ q H', LamX.ExtN H H' → LamX.Tabs (T3 PA PT PS) H' → FoAt C H' q (does d F) → Q (.ref q) H'
/-- the folder behind deeds -/
def doesL : List Dd → Fo → Fo
  | [], F => F
  | d :: r, F => doesL r (does d F)
inductive DdsAt (H : Hp) : List V → List Dd → Prop
  | nil : DdsAt H [] []
  | cons {a : Addr} {d : Dd} {xs : List V} {ds : List Dd} : DdAt H a d → DdsAt H xs ds → DdsAt H (.ref a :: xs) (d :: ds)
theorem DdsAt.get {H : Hp} : ∀ {xs : List V} {ds : List Dd}, DdsAt H xs ds → ∀ {i : Nat} {v : V}, xs[i]? = some v → ∃ a d, v = .ref a ∧ ds[i]? = some d ∧ DdAt H a d
  | _, _, .nil, i, v, h => by simp at h
  | _, _, .cons hd r, 0, v, h => ⟨_, _, by simpa using h.symm, rfl, hd⟩
  | _, _, .cons hd r, i + 1, v, h => by simpa using DdsAt.get r (i := i) (v := v) (by simpa using h)
theorem DdsAt.len {H : Hp} : ∀ {xs : List V} {ds : List Dd}, DdsAt H xs ds → xs.length = ds.length
  | _, _, .nil => rfl
  | _, _, .cons _ r => congrArg (· + 1) r.len
section
variable {P : Program} {w : World} {K : PySem.W.Frag} {mg : Str → Option Value} {base : Heap} {C PA PT PS : Addr}
theorem ok_done {f : Addr} {fd : FuncData} (t : ClT K mg C) (M_app : MDef P w K mg base CX0 6 C "appended" pApp (spApp C)) (M_add : MDef P w K mg base CX0 8 C "added" nAdd (spSgn C PA PT PS (fun z ss => wG ss z))) (M_take : MDef P w K mg base CX0 8 C "taken" nAdd (spSgn C PA PT PS (fun z ss => nS ss z)))
    (M_set : MDef P w K mg base CX0 8 C "set_to" nSet (spSet C PA PT PS)) (M_rem : MDef P w K mg base CX0 6 C "removed" pRem (spRem C)) (M_trim : MDef P w K mg base CX0 6 C "trimmed" pTrim (spTrim C)) (F : Fun K "done" "done" sDone f fd) : FnOk P w K mg base CX0 9 f fd pDone (spDone C PA PT PS) := by
  have nd := scDone.nd
  refine F.ok scDone (fun vs H Q E h => ?_) (fun cdv A outer s H vs Q E hr h => ?_)
  · obtain ⟨p, a, F, d, rfl, _⟩ := h
    rfl
  · obtain ⟨p, a, F, d, rfl, hF, hw, hd, hcan, hT, q⟩ := h
    refine ⟨_, pss_cons (ps_par (i := 2) (j := 3) (by rfl) nd rfl rfl (by decide) rfl rfl (pa_cons (pe_ix (ix_tupK (K := K) rfl) (pv 1) pe_int (fun _ _ => rfl)) (pa_cons (pe_ix (ix_tupK (K := K) rfl) (pv 1) pe_int (fun _ _ => rfl)) pa_nil)) (by rfl))
 (pss_cons (ps_if (pt_cmpR (op_eqDK (K := K) rfl hr.units) (pv 2) pe_str (nomark _))
  (pss_one (ps_ret (pe_mdef M_app t.cl (hr.mono (by decide)) pass0 (pv 0) (pa_cons (pv 3) (pa_cons (pe_ix (ix_tupK (K := K) rfl) (pv 1) pe_int (fun _ _ => rfl)) pa_nil)))))
  pss_nil)
 (pss_cons (ps_if (pt_cmpR (op_eqDK (K := K) rfl hr.units) (pv 2) pe_str (nomark _))
  (pss_one (ps_ret (pe_mdef M_add t.cl (hr.mono (by decide)) pass0 (pv 0) (pa_cons (pv 3) (pa_cons (pe_ix (ix_tupK (K := K) rfl) (pv 1) pe_int (fun _ _ => rfl)) pa_nil)))))
  pss_nil)
 (pss_cons (ps_if (pt_cmpR (op_eqDK (K := K) rfl hr.units) (pv 2) pe_str (nomark _))
  (pss_one (ps_ret (pe_mdef M_take t.cl (hr.mono (by decide)) pass0 (pv 0) (pa_cons (pv 3) (pa_cons (pe_ix (ix_tupK (K := K) rfl) (pv 1) pe_int (fun _ _ => rfl)) pa_nil)))))
  pss_nil)
 (pss_cons (ps_if (pt_cmpR (op_eqDK (K := K) rfl hr.units) (pv 2) pe_str (nomark _))
  (pss_one (ps_ret (pe_mdef M_set t.cl (hr.mono (by decide)) pass0 (pv 0) (pa_cons (pv 3) (pa_cons (pe_ix (ix_tupK (K := K) rfl) (pv 1) pe_int (fun _ _ => rfl)) pa_nil)))))
  pss_nil)
 (pss_cons (ps_if (pt_cmpR (op_eqDK (K := K) rfl hr.units) (pv 2) pe_str (nomark _))
  (pss_one (ps_ret (pe_mdef M_rem t.cl (hr.mono (by decide)) pass0 (pv 0) (pa_cons (pv 3) pa_nil))))
  pss_nil)
 (pss_one (ps_ret (pe_mdef M_trim t.cl (hr.mono (by decide)) pass0 (pv 0) (pa_cons (pv 3) pa_nil))))))))), ?_⟩
    have hwl := hw.len
    obtain ⟨dx, tl, tg, hp, h1, h2⟩ := hF
    have hF : FoAt C H p F := ⟨dx, tl, tg, hp, h1, h2⟩
    cases d with
    | app b ss =>
      obtain ⟨sa, h, hs, hb, hu⟩ := hd
      refine ⟨_, rfl, a, _, 0, .str "append", rfl, rfl, st h, atI_nat (j := 0) rfl, _, rfl, a, _, 1, .int b, rfl, rfl, st h, atI_nat (j := 1) rfl, _, _, rfl, ?_⟩
      refine ⟨_, rfl, ?_⟩
      delta tC; dsimp only
      refine eq_str true (by decide +kernel) (by decide +kernel) ⟨_, rfl, itbT rfl ?_⟩
      exact ⟨_, rfl, p, dx, _, rfl, hp, fl_no (by decide +kernel), _, rfl, _, rfl, a, _, 2, .ref sa, rfl, rfl, st h, atI_nat (j := 2) rfl, p, sa, F, b, ss, rfl, hF, hw.age, hb, hs, hu, by omega, fun q' H' s' _ hF' => q q' H' (LamX.ExtN.of s') (hT.ext s') hF'⟩
    | add ns z =>
      obtain ⟨na, h, hn, hz⟩ := hd
      refine ⟨_, rfl, a, _, 0, .str "add", rfl, rfl, st h, atI_nat (j := 0) rfl, _, rfl, a, _, 1, .ref na, rfl, rfl, st h, atI_nat (j := 1) rfl, _, _, rfl, ?_⟩
      refine ⟨_, rfl, ?_⟩
      delta tC; dsimp only
      refine eq_str false (by decide +kernel) (by decide +kernel) ⟨_, rfl, itbF rfl ⟨_, rfl, ?_⟩⟩
      dsimp only
      refine eq_str true (by decide +kernel) (by decide +kernel) ⟨_, rfl, itbT rfl ?_⟩
      exact ⟨_, rfl, p, dx, _, rfl, hp, fl_no (by decide +kernel), _, rfl, _, rfl, a, _, 2, .str z, rfl, rfl, st h, atI_nat (j := 2) rfl, p, na, F, ns, z, rfl, hF, hw.age, hn, by omega, hw.sg, hz, hT, q⟩
    | take ns z =>
      obtain ⟨na, h, hn, hz⟩ := hd
      refine ⟨_, rfl, a, _, 0, .str "take", rfl, rfl, st h, atI_nat (j := 0) rfl, _, rfl, a, _, 1, .ref na, rfl, rfl, st h, atI_nat (j := 1) rfl, _, _, rfl, ?_⟩
      refine ⟨_, rfl, ?_⟩
      delta tC; dsimp only
      refine eq_str false (by decide +kernel) (by decide +kernel) ⟨_, rfl, itbF rfl ⟨_, rfl, ?_⟩⟩
      dsimp only
      refine eq_str false (by decide +kernel) (by decide +kernel) ⟨_, rfl, itbF rfl ⟨_, rfl, ?_⟩⟩
      dsimp only
      refine eq_str true (by decide +kernel) (by decide +kernel) ⟨_, rfl, itbT rfl ?_⟩
      exact ⟨_, rfl, p, dx, _, rfl, hp, fl_no (by decide +kernel), _, rfl, _, rfl, a, _, 2, .str z, rfl, rfl, st h, atI_nat (j := 2) rfl, p, na, F, ns, z, rfl, hF, hw.age, hn, by omega, hw.sg, hz, hT, q⟩
    | set ns zs =>
      obtain ⟨na, sa, h, hn, hs, hz⟩ := hd
      refine ⟨_, rfl, a, _, 0, .str "set", rfl, rfl, st h, atI_nat (j := 0) rfl, _, rfl, a, _, 1, .ref na, rfl, rfl, st h, atI_nat (j := 1) rfl, _, _, rfl, ?_⟩
      refine ⟨_, rfl, ?_⟩
      delta tC; dsimp only
      refine eq_str false (by decide +kernel) (by decide +kernel) ⟨_, rfl, itbF rfl ⟨_, rfl, ?_⟩⟩
      dsimp only
      refine eq_str false (by decide +kernel) (by decide +kernel) ⟨_, rfl, itbF rfl ⟨_, rfl, ?_⟩⟩
      dsimp only
      refine eq_str false (by decide +kernel) (by decide +kernel) ⟨_, rfl, itbF rfl ⟨_, rfl, ?_⟩⟩
      dsimp only
      refine eq_str true (by decide +kernel) (by decide +kernel) ⟨_, rfl, itbT rfl ?_⟩
      exact ⟨_, rfl, p, dx, _, rfl, hp, fl_no (by decide +kernel), _, rfl, _, rfl, a, _, 2, .ref sa, rfl, rfl, st h, atI_nat (j := 2) rfl, p, na, sa, F, ns, zs, rfl, hF, hw.age, hn, by omega, hw.sg, hz, hs, hT, q⟩
    | rem ns =>
      obtain ⟨na, h, hn⟩ := hd
      refine ⟨_, rfl, a, _, 0, .str "remove", rfl, rfl, st h, atI_nat (j := 0) rfl, _, rfl, a, _, 1, .ref na, rfl, rfl, st h, atI_nat (j := 1) rfl, _, _, rfl, ?_⟩
      refine ⟨_, rfl, ?_⟩
      delta tC; dsimp only
      refine eq_str false (by decide +kernel) (by decide +kernel) ⟨_, rfl, itbF rfl ⟨_, rfl, ?_⟩⟩
      dsimp only
      refine eq_str false (by decide +kernel) (by decide +kernel) ⟨_, rfl, itbF rfl ⟨_, rfl, ?_⟩⟩
      dsimp only
      refine eq_str false (by decide +kernel) (by decide +kernel) ⟨_, rfl, itbF rfl ⟨_, rfl, ?_⟩⟩
      dsimp only
      refine eq_str false (by decide +kernel) (by decide +kernel) ⟨_, rfl, itbF rfl ⟨_, rfl, ?_⟩⟩
      dsimp only
      refine eq_str true (by decide +kernel) (by decide +kernel) ⟨_, rfl, itbT rfl ?_⟩
      exact ⟨_, rfl, p, dx, _, rfl, hp, fl_no (by decide +kernel), _, rfl, p, na, F, ns, rfl, hF, hw.age, hn, by omega, by omega, fun q' H' s' _ hF' => q q' H' (LamX.ExtN.of s') (hT.ext s') hF'⟩
    | trim m =>
      obtain ⟨h, h0⟩ := hd
      refine ⟨_, rfl, a, _, 0, .str "trim", rfl, rfl, st h, atI_nat (j := 0) rfl, _, rfl, a, _, 1, .int m, rfl, rfl, st h, atI_nat (j := 1) rfl, _, _, rfl, ?_⟩
      refine ⟨_, rfl, ?_⟩
      delta tC; dsimp only
      refine eq_str false (by decide +kernel) (by decide +kernel) ⟨_, rfl, itbF rfl ⟨_, rfl, ?_⟩⟩
      dsimp only
      refine eq_str false (by decide +kernel) (by decide +kernel) ⟨_, rfl, itbF rfl ⟨_, rfl, ?_⟩⟩
      dsimp only
      refine eq_str false (by decide +kernel) (by decide +kernel) ⟨_, rfl, itbF rfl ⟨_, rfl, ?_⟩⟩
      dsimp only
      refine eq_str false (by decide +kernel) (by decide +kernel) ⟨_, rfl, itbF rfl ⟨_, rfl, ?_⟩⟩
      dsimp only
      refine eq_str false (by decide +kernel) (by decide +kernel) ⟨_, rfl, itbF rfl ?_⟩
      exact ⟨_, rfl, p, dx, _, rfl, hp, fl_no (by decide +kernel), _, rfl, p, F, m, rfl, hF, hw.age, h0, hcan, by omega, fun q' H' s' _ hF' => q q' H' (LamX.ExtN.of s') (hT.ext s') hF'⟩
end
end K1


set_option Elab.async false
set_option linter.all false
set_option maxRecDepth 100000
set_option maxHeartbeats 2000000
namespace K1
open PySem PySem.Spec PyProof.Rows L2 RZ StX
theorem DdsAt.ext {H H' : Hp} (s : LamX.ExtN H H') : ∀ {xs : List V} {ds : List Dd}, DdsAt H xs ds → DdsAt H' xs ds
  | _, _, .nil => .nil
  | _, _, .cons h r => .cons (h.ext s) (r.ext s)
def CanL : List Dd → Fo → Prop
  | [], _ => True
  | d :: r, F => CanD F d ∧ CanL r (does d F)
theorem canL_take {ds : List Dd} {i : Nat} {d : Dd} {F : Fo} (h : ds[i]? = some d) (c : CanL (ds.drop i) F) : CanD F d ∧ CanL (ds.drop (i + 1)) (does d F) := by rw [drop_cons h] at c; exact c
theorem doesL_take {ds : List Dd} {i : Nat} {d : Dd} (F : Fo) (h : ds[i]? = some d) : doesL (ds.drop i) F = doesL (ds.drop (i + 1)) (does d F) := by rw [drop_cons h]; rfl
def spPlayed (C PA PT PS : Addr) : Sp := fun vs H Q _ => ∃ (p h : Addr) (F : Fo) (xs : List V) (ds : List Dd) (n : Nat), vs = [.ref p, .ref h] ∧ FoAt C H p F ∧ Wf n F ∧ n + ds.length ≤ 1000 ∧ H h = some (.lst xs) ∧ DdsAt H xs ds ∧ CanL ds F ∧ LamX.Tabs (T3 PA PT PS) H ∧
  ∀ q H', LamX.ExtN H H' → LamX.Tabs (T3 PA PT PS) H' → FoAt C H' q (doesL ds F) → Q (.ref q) H'
section
variable {P : Program} {w : World} {K : PySem.W.Frag} {mg : Str → Option Value} {base : Heap} {C PA PT PS : Addr}
theorem ok_played {f : Addr} {fd : FuncData} (T : Bk mg) (t : ClT K mg C) (iC : C8.InsC K C) (D_can : Def P w K mg base CX0 5 "can_be_done" nCan (spCan C)) (D_done : Def P w K mg base CX0 9 "done" pDone (spDone C PA PT PS)) (F : Fun K "played" "played" sPlayed f fd) : FnOk P w K mg base CX0 10 f fd pPlayed (spPlayed C PA PT PS) := by
  have nd := scPlayed.nd
  refine F.ok scPlayed (fun vs H Q E h => ?_) (fun cdv A outer s H vs Q E hr h => ?_)
  · obtain ⟨p, hh, F, xs, ds, n, rfl, _⟩ := h
    rfl
  · obtain ⟨p, hh, F, xs, ds, n, rfl, hF, hw, hn, hh1, hds, hcl, hT, q⟩ := h
    refine ⟨_, pss_cons (ps_if (pt_not (pt_val (pe_callB (C8.call_isC iC) (by rfl) T.isinstance PyProof.Rows.boot_isinstance (pa_cons (pv 0) (pa_cons (pe_glob (v := .ref C) rfl t.gC rfl) pa_nil)))))
  pss_any
  pss_nil)
 (pss_cons (ps_if (pt_not (pt_val (pe_callB (call_isiTK (K := K) rfl) (by rfl) T.isinstance PyProof.Rows.boot_isinstance (pa_cons (pv 1) (pa_cons (pe_tup (pa_cons (pe_bltn (v := .ty "list") rfl T.list PyProof.Rows.boot_list rfl) (pa_cons (pe_bltn (v := .ty "tuple") rfl T.tuple PyProof.Rows.boot_tuple rfl) pa_nil))) pa_nil)))))
  pss_any
  pss_nil)
 (C8.pss_cut (ps_for PassesOwn.never rfl (pi_enumSK (K := K) rfl (by rfl) T.enumerate (pa_cons (pv 1) pa_nil)) (pg_tup rfl (pgs_cons (pg_name (i := 2) nd rfl (Or.inl rfl)) (pgs_cons (pg_name (i := 3) nd rfl (Or.inl rfl)) pgs_nil)))
  (pss_cons (ps_if (pt_not (pt_val (pe_def D_can (hr.mono (by decide)) rfl pass0 (pa_cons (pv 0) (pa_cons (pv 3) pa_nil)))))
  pss_any
  pss_nil)
 (pss_one (ps_set (i := 0) nd rfl (Or.inl rfl) (pe_def D_done (hr.mono (by decide)) rfl pass0 (pa_cons (pv 0) (pa_cons (pv 3) pa_nil)))))))
 (pss_one (ps_ret (pv 0))))), ?_⟩
    obtain ⟨dx, tl, tg, hp, h1, h2⟩ := id hF
    refine ⟨_, rfl, p, dx, _, rfl, hp, _, rfl, itbF rfl ?_⟩
    refine ⟨_, rfl, (by show 2 ≤ sizeLine; decide), fun tp ntp => ?_⟩
    have s1 := same_new (o := .tup [.ty "list", .ty "tuple"]) ntp
    refine ⟨.ref hh, tp, [.ty "list", .ty "tuple"], .type "list", [.type "list", .type "tuple"], true, rfl, upd_same, .cons (.ty _) (.cons (.ty _) .nil), .base (.lst (s1 _ _ hh1)), kit_seq (.list []), _, rfl, itbF rfl ?_⟩
    refine ⟨fun σ G => ∃ q' v2 v3, σ = [some (.ref q'), some (.ref hh), v2, v3] ∧ LamX.ExtN H G ∧ LamX.Tabs (T3 PA PT PS) G ∧ FoAt C G q' (doesL ds F), ?_, ?_⟩
    · refine ⟨_, rfl, hh, xs, rfl, for_enumS (K := K) (H0 := fun b => if b = hh then H b else none) (a := hh) (xs := xs) (.inl (sq (by rw [if_pos rfl]; exact hh1))) (fun i σ G => ∃ q' v2 v3 F', σ = [some (.ref q'), some (.ref hh), v2, v3] ∧ LamX.ExtN H G ∧ LamX.Tabs (T3 PA PT PS) G ∧ FoAt C G q' F' ∧ Wf (n + i) F' ∧ CanL (ds.drop i) F' ∧ doesL ds F = doesL (ds.drop i) F') ?_ ?_ ?_ ?_⟩
      · exact ⟨p, none, none, F, rfl, LamX.ExtN.of s1, hT.ext s1, hF.same s1, hw, hcl, rfl⟩
      · rintro i σ G ⟨q', v2, v3, F', rfl, eG, _⟩ b o hb
        by_cases c : b = hh
        · subst c
          have hb : (if b = b then H b else none) = some o := hb
          rw [if_pos rfl, hh1] at hb
          cases hb
          exact eG _ _ hh1 fun _ z => by cases z
        · have hb : (if b = hh then H b else none) = some o := hb
          rw [if_neg c] at hb
          cases hb
      · rintro i y σ G Tt hy ⟨q', v2, v3, F', rfl, eG, tG, hF', hw', hcF, er⟩ nT
        obtain ⟨a, d, rfl, he, hd⟩ := hds.get hy
        have hi := lt_of_get he
        obtain ⟨hcd, hcn⟩ := canL_take he hcF
        have sT := same_new (H := G) nT (o := .tup [.int (i : Nat), .ref a])
        refine ⟨Tt, [.int (i : Nat), .ref a], rfl, st upd_same, rfl, .int (i : Nat), [.ref a], rfl, .ref a, [], rfl, rfl, ?_⟩
        have hd1 := (hd.ext eG).same sT
        refine ⟨_, rfl, _, rfl, q', a, F', d, rfl, hF'.same sT, hcd, hd1, fun H4 s4 => ⟨_, rfl, itbF rfl ?_⟩⟩
        refine ⟨_, rfl, _, rfl, q', a, F', d, rfl, (hF'.same sT).same s4, hw'.mono (by omega), hd1.same s4, hcd, (tG.ext sT).ext s4, fun q2 H5 e5 t5 hF5 => ?_⟩
        exact ⟨q2, _, _, does d F', rfl, ((eG.trans (LamX.ExtN.of sT)).trans (LamX.ExtN.of s4)).trans e5, t5, hF5, wf_does hd1.ok hw', hcn, by rw [er, doesL_take F' he]⟩
      · rintro σ G ⟨q', v2, v3, F', rfl, eG, tG, hF', hw', hcF, er⟩
        rw [hds.len, List.drop_length] at er
        exact ⟨q', v2, v3, rfl, eG, tG, by rw [er]; exact hF'⟩
    · rintro σ G ⟨q', v2, v3, rfl, eG, tG, hF'⟩
      exact ⟨_, rfl, q q' G eG tG hF'⟩
end
end K1


set_option Elab.async false
set_option linter.all false
set_option maxRecDepth 100000
set_option maxHeartbeats 4000000
namespace K1
open PySem PySem.Spec PyProof.Rows L2 RZ
/-! ### the draws -/
abbrev sCell : Stmt := st__law_cell_at
abbrev sWell : Stmt := st__law_well
abbrev sDraw : Stmt := st__law_draw
abbrev sOne : Stmt := st__law_one
abbrev nCell : List Str := ["_law_script", "_law_k"]
theorem scCell : FnScope nCell nCell (defScope sCell) := ⟨rfl, rfl, rfl, by decide +kernel, rfl, by decide +kernel, by decide +kernel⟩
abbrev nWell : List Str := ["_law_cell"]
theorem scWell : FnScope nWell nWell (defScope sWell) := ⟨rfl, rfl, rfl, by decide +kernel, rfl, by decide +kernel, by decide +kernel⟩
abbrev nDraw : List Str := ["_law_well_here", "_law_many", "_law_found", "_law_salt", "_law_base", "_law_number"]
abbrev pDraw : List Str := ["_law_well_here", "_law_many"]
theorem scDraw : FnScope nDraw pDraw (defScope sDraw) := ⟨rfl, rfl, rfl, by decide +kernel, rfl, by decide +kernel, by decide +kernel⟩
abbrev nOne : List Str := ["_law_well_here", "_law_some_here"]
theorem scOne : FnScope nOne nOne (defScope sOne) := ⟨rfl, rfl, rfl, by decide +kernel, rfl, by decide +kernel, by decide +kernel⟩
/-- a well, at most k of whose draws are done by its number -/
def WellT (H : Hp) (p : Addr) (k : Nat) : Prop := ∃ c m t : Int, H p = some (.lst [.int c, .int m, .int t]) ∧ 0 ≤ t ∧ t ≤ k
theorem WellT.at {H : Hp} {p : Addr} {k : Nat} (w : WellT H p k) : WellAt H p := let ⟨c, m, t, e, _⟩ := w; ⟨c, m, t, e⟩
theorem WellT.keep {H H' : Hp} {p : Addr} {k : Nat} (w : WellT H p k) (s : ∀ o, H p = some o → H' p = some o) : WellT H' p k := let ⟨c, m, t, e, h⟩ := w; ⟨c, m, t, s _ e, h⟩
def spCell (K : PySem.W.Frag) : Sp := fun vs H Q _ => ∃ (a : Addr) (ns : List Int) (k : Int), vs = [.ref a, .int k] ∧ SqL K H a (ns.map V.int) ∧ 0 ≤ k ∧ ∀ n : Int, Q (.int n) H
def spWell : Sp := fun vs H Q _ => ∃ (c : Int), vs = [.int c] ∧ ∀ (p : Addr) (H' : Hp), H p = none → Same H H' → WellT H' p 0 → Q (.ref p) H'
def spDraw : Sp := fun vs H Q _ => ∃ (p : Addr) (b : Int) (k : Nat), vs = [.ref p, .int b] ∧ WellT H p k ∧ k ≤ 100000 ∧ 0 < b ∧ b < 1073741824 ∧
  ∀ (d : Int) (H' : Hp), 0 ≤ d → d < b → Ext p H H' → WellT H' p (k + 1) → Q (.int d) H'
def spOne : Sp := fun vs H Q _ => ∃ (p a : Addr) (xs : List V) (k : Nat), vs = [.ref p, .ref a] ∧ WellT H p k ∧ k ≤ 100000 ∧ H a = some (.lst xs) ∧ 0 < xs.length ∧ xs.length < 1073741824 ∧ a ≠ p ∧
  ∀ (i : Nat) (x : V) (H' : Hp), xs[i]? = some x → Ext p H H' → WellT H' p (k + 1) → Q x H'
section
variable {P : Program} {w : World} {K : PySem.W.Frag} {mg : Str → Option Value} {base : Heap}
theorem ok_cell {f : Addr} {fd : FuncData} (T : Bj mg) (F : Fun K "_law_cell_at" "_law_cell_at" sCell f fd) : FnOk P w K mg base CX0 1 f fd nCell (spCell K) := by
  have nd := scCell.nd
  refine F.ok scCell (fun vs H Q E h => ?_) (fun cdv A outer s H vs Q E hr h => ?_)
  · obtain ⟨a, ns, k, rfl, _⟩ := h
    rfl
  · obtain ⟨a, ns, k, rfl, hS, h0, q⟩ := h
    refine ⟨_, (pss_cons (ps_if (pt_cmpR op_lt (pv 1) (pe_callB (call_lenK (K := K) rfl) (by rfl) T.len PySem.boot_len (pa_cons (pv 0) pa_nil)) (nomark _))
  (pss_one (ps_ret (pe_ix (ix_listK (K := K) rfl) (pv 0) (pv 1) (fun _ _ => rfl))))
  pss_nil)
 (pss_one (ps_ret pe_int))), ?_⟩
    refine ⟨_, rfl, _, rfl, a, _, rfl, .inl hS, _, _, rfl, rfl, _, rfl, ite2 (fun c => ?_) (fun c => q 0)⟩
    have c' : k < ns.length := by simpa using c
    have hi : k.toNat < ns.length := by omega
    exact ⟨_, rfl, _, rfl, a, _, k, .int ns[k.toNat], rfl, rfl, hS, at_of (j := k.toNat) (by omega) (by simp [hi]), q _⟩
theorem ok_well {f : Addr} {fd : FuncData} (T : Bj mg) (F : Fun K "_law_well" "_law_well" sWell f fd) : FnOk P w K mg base CX0 1 f fd nWell spWell := by
  have nd := scWell.nd
  refine F.ok scWell (fun vs H Q E h => ?_) (fun cdv A outer s H vs Q E hr h => ?_)
  · obtain ⟨c, rfl, _⟩ := h
    rfl
  · obtain ⟨c, rfl, q⟩ := h
    refine ⟨_, (pss_one (ps_ret (pe_lst (pa_cons (pe_ix (ix_listK (K := K) rfl) (pe_lst (pa_cons pe_int (pa_cons (pv 0) pa_nil))) (pe_callTy call_int1 (by rfl) T.int PyProof.Rows.boot_int (pa_cons (pe_cmpR op_ge (pv 0) (pe_op op_pow pe_int pe_int) (nomark _)) pa_nil)) (fun _ _ => rfl)) (pa_cons (pv 0) (pa_cons pe_int pa_nil)))))), ?_⟩
    refine ⟨_, rfl, (by show 2 ≤ sizeLine; decide), fun l nl => ⟨_, rfl, _, _, rfl, rfl, ⟨by decide, by decide, by decide⟩, _, _, rfl, rfl, .inr ⟨_, rfl, ?_⟩⟩⟩
    have s1 := same_new (o := .lst [.int 0, .int c]) nl
    have fin : ∀ (n : Int), ∀ p, (upd H l (.lst [.int 0, .int c])) p = none → Q (.ref p) (upd (upd H l (.lst [.int 0, .int c])) p (.lst [.int n, .int c, .int 0])) := fun n p np => q p _ (s1.free np) (s1.new np) ⟨n, c, 0, upd_same, by decide, by decide⟩
    by_cases h : c ≥ 10 ^ (18 : Int).toNat
    · rw [decide_eq_true h]
      exact ⟨l, _, 1, .int c, rfl, rfl, sq upd_same, atI_nat (j := 1) rfl, _, rfl, (by show 3 ≤ sizeLine; decide), fin c⟩
    · rw [decide_eq_false h]
      exact ⟨l, _, 0, .int 0, rfl, rfl, sq upd_same, atI_nat (j := 0) rfl, _, rfl, (by show 3 ≤ sizeLine; decide), fin 0⟩
theorem ok_draw {f : Addr} {fd : FuncData} (T : Bj mg) (F : Fun K "_law_draw" "_law_draw" sDraw f fd) : FnOk P w K mg base CX0 1 f fd pDraw spDraw := by
  have nd := scDraw.nd
  refine F.ok scDraw (fun vs H Q E h => ?_) (fun cdv A outer s H vs Q E hr h => ?_)
  · obtain ⟨p, b, k, rfl, _⟩ := h
    rfl
  · obtain ⟨p, b, k, rfl, ⟨c, m, t, hp, t0, tk⟩, hk, hb0, hb1, q'⟩ := h
    have q : ∀ (d c m t : Int), 0 ≤ d → d < b → 0 ≤ t → t ≤ (k + 1 : Nat) → Q (.int d) (upd H p (.lst [.int c, .int m, .int t])) := fun d c m t h1 h2 h3 h4 => q' d _ h1 h2 (Ext.refl H).self ⟨c, m, t, upd_same, h3, h4⟩
    refine ⟨_, (pss_cons (ps_if (pt_cmpR op_gt (pe_ix (ix_listK (K := K) rfl) (pv 0) pe_int (fun _ _ => rfl)) pe_int (nomark _))
  (pss_cons (ps_set (i := 2) nd rfl (Or.inl rfl) (pe_op op_mod (pe_callTy call_int1 (by rfl) T.int PyProof.Rows.boot_int (pa_cons (pe_ix (ix_listK (K := K) rfl) (pv 0) pe_int (fun _ _ => rfl)) pa_nil)) (pv 1)))
 (pss_cons (ps_asg (pe_op op_fdiv (pe_ix (ix_listK (K := K) rfl) (pv 0) pe_int (fun _ _ => rfl)) (pv 1)) (pg_sub (pv 0) pe_int set_list))
 (pss_one (ps_ret (pv 2)))))
  pss_nil)
 (pss_cons (ps_asg (pe_op op_add (pe_ix (ix_listK (K := K) rfl) (pv 0) pe_int (fun _ _ => rfl)) pe_int) (pg_sub (pv 0) pe_int set_list))
 (pss_cons (ps_set (i := 3) nd rfl (Or.inl rfl) (pe_op op_mod (pe_callTy call_int1 (by rfl) T.int PyProof.Rows.boot_int (pa_cons (pe_op op_fdivW (pe_ix (ix_listK (K := K) rfl) (pv 0) pe_int (fun _ _ => rfl)) pe_int) pa_nil)) pe_int))
 (pss_cons (ps_set (i := 4) nd rfl (Or.inl rfl) (pe_op op_add (pe_op op_add (pe_op op_add (pe_op op_mod (pe_callTy call_int1 (by rfl) T.int PyProof.Rows.boot_int (pa_cons (pe_ix (ix_listK (K := K) rfl) (pv 0) pe_int (fun _ _ => rfl)) pa_nil)) pe_int) (pe_op op_mul pe_int (pe_ix (ix_listK (K := K) rfl) (pv 0) pe_int (fun _ _ => rfl)))) (pv 3)) pe_int))
 (pss_cons (ps_set (i := 5) nd rfl (Or.inl rfl) (pe_op op_mod (pe_callTy call_int1 (by rfl) T.int PyProof.Rows.boot_int (pa_cons (pe_op op_pow (pv 4) pe_int) pa_nil)) pe_int))
 (pss_cons (ps_set (i := 5) nd rfl (Or.inl rfl) (pe_op op_mod (pe_callTy call_int1 (by rfl) T.int PyProof.Rows.boot_int (pa_cons (pe_op op_mul (pv 5) (pe_op op_add (pe_op op_add (pe_op op_fdiv (pv 5) pe_int) pe_int) (pe_ix (ix_listK (K := K) rfl) (pv 0) pe_int (fun _ _ => rfl)))) pa_nil)) pe_int))
 (pss_one (ps_ret (pe_op op_mod (pe_callTy call_int1 (by rfl) T.int PyProof.Rows.boot_int (pa_cons (pe_op op_mod (pe_callTy call_int1 (by rfl) T.int PyProof.Rows.boot_int (pa_cons (pe_op op_mul (pv 5) (pe_op op_add (pe_op op_fdiv (pv 5) pe_int) pe_int)) pa_nil)) pe_int) pa_nil)) (pv 1)))))))))), ?_⟩
    have r0 : ∀ x y z : Int, SqL K (upd H p (.lst [.int x, .int y, .int z])) p [.int x, .int y, .int z] := fun x y z => .inl (.inl upd_same)
    have hS : SqL K H p [.int c, .int m, .int t] := .inl (.inl hp)
    have rg : ∀ z : Int, 0 ≤ z % b ∧ z % b < b := fun z => ⟨Int.emod_nonneg _ (by omega), Int.emod_lt_of_pos _ hb0⟩
    refine ⟨.ref p, rfl, p, _, 0, .int c, rfl, rfl, hS, atI_nat (j := 0) rfl, _, _, rfl, rfl, _, rfl, ?_⟩
    refine ite2 (fun _ => ?_) (fun _ => ?_)
    · refine ⟨.ref p, rfl, p, _, 0, .int c, rfl, rfl, hS, atI_nat (j := 0) rfl, .inl ⟨c, rfl, _, rfl, c, b, rfl, rfl, hb0, ?_⟩⟩
      refine ⟨.ref p, rfl, p, _, 0, .int c, rfl, rfl, hS, atI_nat (j := 0) rfl, _, rfl, c, b, rfl, rfl, ⟨hb0, hb1⟩, ?_⟩
      refine ⟨.ref p, rfl, p, _, 0, 0, rfl, rfl, hp, rfl, ?_⟩
      exact ⟨_, rfl, q (c % b) (c / b) m t (rg c).1 (rg c).2 t0 (by omega)⟩
    · refine ⟨.ref p, rfl, p, _, 2, .int t, rfl, rfl, hS, atI_nat (j := 2) rfl, _, _, rfl, rfl, ?_⟩
      refine ⟨.ref p, rfl, p, _, 2, 2, rfl, rfl, hp, rfl, ?_⟩
      refine ⟨.ref p, rfl, p, _, 1, .int m, rfl, rfl, r0 c m (t + 1), atI_nat (j := 1) rfl, _, _, rfl, rfl, wide_div (b := 31) (by decide) (by decide) (by decide) (by decide), .inl ⟨_, rfl, _, _, rfl, rfl, (by show (0 : Int) < _; decide), ?_⟩⟩
      refine ⟨.ref p, rfl, p, _, 1, .int m, rfl, rfl, r0 c m (t + 1), atI_nat (j := 1) rfl, .inl ⟨_, rfl, _, _, rfl, rfl, (by show (0 : Int) < _; decide), ?_⟩⟩
      refine ⟨.ref p, rfl, p, _, 2, .int (t + 1), rfl, rfl, r0 c m (t + 1), atI_nat (j := 2) rfl, _, _, rfl, rfl, .inl ⟨by decide, by decide⟩, _, _, rfl, rfl, _, rfl, _, _, rfl, rfl, _, _, rfl, rfl, ?_⟩
      have b0 : (m % 2147483629 + 7919 * (t + 1) + m / 2147483629 % 65521 + 1).natAbs < 2 ^ 64 := by
        have h1 : 0 ≤ m % 2147483629 ∧ m % 2147483629 < 2147483629 := ⟨Int.emod_nonneg _ (by decide), Int.emod_lt_of_pos _ (by decide)⟩
        have h2 : 0 ≤ m / 2147483629 % 65521 ∧ m / 2147483629 % 65521 < 65521 := ⟨Int.emod_nonneg _ (by decide), Int.emod_lt_of_pos _ (by decide)⟩
        exact Nat.lt_of_lt_of_le (show _ < 10000000000 by omega) (by decide)
      refine ⟨_, rfl, m % 2147483629 + 7919 * (t + 1) + m / 2147483629 % 65521 + 1, 5, rfl, rfl, ⟨by decide, by decide, b0⟩, .inl ⟨_, rfl, _, _, rfl, rfl, (by show (0 : Int) < _; decide), ?_⟩⟩
      generalize he : (m % 2147483629 + 7919 * (t + 1) + m / 2147483629 % 65521 + 1) ^ (5 : Int).toNat % 2147483647 = e
      have e0 : 0 ≤ e ∧ e < 2147483647 := by rw [← he]; exact ⟨Int.emod_nonneg _ (by decide), Int.emod_lt_of_pos _ (by decide)⟩
      refine ⟨_, rfl, _, rfl, _, _, rfl, rfl, ⟨by decide, by decide⟩, _, _, rfl, rfl, .ref p, rfl, p, _, 2, .int (t + 1), rfl, rfl, r0 c m (t + 1), atI_nat (j := 2) rfl, _, _, rfl, rfl, _, _, rfl, rfl, .inl ⟨by omega, by omega⟩, .inl ⟨_, rfl, _, _, rfl, rfl, (by show (0 : Int) < _; decide), ?_⟩⟩
      generalize hg : e * (e / 1009 + 69621 + (t + 1)) % 2147483629 = g
      have g0 : 0 ≤ g ∧ g < 2147483629 := by rw [← hg]; exact ⟨Int.emod_nonneg _ (by decide), Int.emod_lt_of_pos _ (by decide)⟩
      refine ⟨_, rfl, _, rfl, _, _, rfl, rfl, ⟨by decide, by decide⟩, _, _, rfl, rfl, _, _, rfl, rfl, .inl ⟨by omega, by omega⟩, .inl ⟨_, rfl, _, _, rfl, rfl, (by show (0 : Int) < _; decide), .inl ⟨_, rfl, _, rfl, _, _, rfl, rfl, hb0, ?_⟩⟩⟩
      exact q _ c m (t + 1) (rg _).1 (rg _).2 (by omega) (by omega)
theorem ok_one {f : Addr} {fd : FuncData} (T : Bj mg) (D_draw : Def P w K mg base CX0 1 "_law_draw" pDraw spDraw) (F : Fun K "_law_one" "_law_one" sOne f fd) : FnOk P w K mg base CX0 2 f fd nOne spOne := by
  refine F.ok scOne (fun vs H Q E h => ?_) (fun cdv A outer s H vs Q E hr h => ?_)
  · obtain ⟨p, a, xs, k, rfl, _⟩ := h
    rfl
  · obtain ⟨p, a, xs, k, rfl, hw, hk, ha, h0, h1, nap, q⟩ := h
    refine ⟨_, (pss_one (ps_ret (pe_ix (ix_listK (K := K) rfl) (pv 1) (pe_def D_draw (hr.mono (by decide)) rfl pass0 (pa_cons (pv 0) (pa_cons (pe_callB (call_lenK (K := K) rfl) (by rfl) T.len PySem.boot_len (pa_cons (pv 1) pa_nil)) pa_nil))) (fun _ _ => rfl)))), ?_⟩
    refine ⟨_, rfl, _, rfl, _, rfl, a, xs, rfl, .inl (sq ha), ?_⟩
    refine ⟨p, xs.length, k, rfl, hw, hk, by omega, by omega, fun d H' d0 d1 hx hw' => ?_⟩
    have hi : d.toNat < xs.length := by omega
    have hg : xs[d.toNat]? = some xs[d.toNat] := List.getElem?_eq_getElem hi
    exact ⟨a, xs, d, _, rfl, rfl, sq (hx _ _ nap ha), at_of (j := d.toNat) (by omega) hg, q _ _ _ hg hx hw'⟩
end
end K1


set_option Elab.async false
set_option linter.all false
set_option maxRecDepth 100000
set_option maxHeartbeats 2000000
namespace K1
open PySem PySem.Spec PyProof.Rows L2 RZ StX
/-! ### what is neither a list nor a table stays -/
def TK (H H' : Hp) : Prop := ∀ b o, H b = some o → (∀ xs, o ≠ .lst xs) → (∀ ps, o ≠ .tbl ps) → H' b = some o
theorem TK.of {H H' : Hp} (s : Same H H') : TK H H' := fun b o h _ _ => s b o h
theorem TK.lam {H H' : Hp} (s : LamX.ExtN H H') : TK H H' := fun b o h _ t => s b o h t
theorem TK.ext {H H' : Hp} {p : Addr} (w : WellAt H p) (s : Ext p H H') : TK H H' := fun b o h n _ => s b o (fun z => by
  obtain ⟨c, m, t, e⟩ := w
  rw [z, e] at h
  exact n _ (Option.some.inj h).symm) h
theorem TK.trans {H H1 H2 : Hp} (a : TK H H1) (b : TK H1 H2) : TK H H2 := fun c o h n t => b c o (a c o h n t) n t
theorem TK.tup {H H' : Hp} (s : TK H H') {a : Addr} {xs : List V} (h : H a = some (.tup xs)) : H' a = some (.tup xs) := s _ _ h (fun _ z => by cases z) fun _ z => by cases z
mutual
theorem Dv.tk {H H' : Hp} (s : TK H H') : ∀ {v : V} {d : PyData}, Dv H v d → tO d = true → Dv H' v d
  | _, _, .non, _ => .non
  | _, _, .bl b, _ => .bl b
  | _, _, .int i, _ => .int i
  | _, _, .str x, _ => .str x
  | _, _, .lst h r, n => by cases n
  | _, _, .tup h r, n => .tup (s.tup h) (DvA.tk s r n)
  | _, _, .dic h, n => by cases n
theorem DvA.tk {H H' : Hp} (s : TK H H') : ∀ {vs : List V} {ds : List PyData}, DvA H vs ds → tOA ds = true → DvA H' vs ds
  | _, _, .nil, _ => .nil
  | _, _, .cons h r, n => .cons (Dv.tk s h ((Bool.and_eq_true _ _).mp n).1) (DvA.tk s r ((Bool.and_eq_true _ _).mp n).2)
end
theorem FoAt.tk {C p : Addr} {H H' : Hp} {F : Fo} (h : FoAt C H p F) (s : TK H H') : FoAt C H' p F := let ⟨dx, tl, tg, a, b, c⟩ := h; ⟨dx, tl, tg, s _ _ a (fun _ z => by cases z) (fun _ z => by cases z), b.tk s (tO_lts _), c.tk s (tO_gos _)⟩
end K1


set_option Elab.async false
set_option linter.all false
set_option maxRecDepth 100000
set_option maxHeartbeats 2000000
namespace K1
open PySem PySem.Spec PyProof.Rows L2 RZ StX
theorem Dv.lsts {H : Hp} {a : Addr} {ds : List PyData} (h : Dv H (.ref a) (.list ds)) : ∃ xs, H a = some (.lst xs) ∧ DvA H xs ds := by
  cases h with
  | lst e r => exact ⟨_, e, r⟩
theorem dva_ints {H : Hp} : ∀ ns : List Int, DvA H (ns.map V.int) (ns.map PyData.int)
  | [] => .nil
  | n :: r => .cons (.int n) (dva_ints r)
end K1


set_option Elab.async false
set_option linter.all false
set_option maxRecDepth 100000
set_option maxHeartbeats 2000000
namespace K1
open PySem PySem.Spec PyProof.Rows L2 RZ StX
/-! the other readers -/
abbrev sAge : Stmt := mS 2
abbrev sCut : Stmt := mS 7
theorem scAge : FnScope nSelf nSelf (defScope sAge) := ⟨rfl, rfl, rfl, by decide +kernel, rfl, by decide +kernel, by decide +kernel⟩
theorem scCut : FnScope nSelf nSelf (defScope sCut) := ⟨rfl, rfl, rfl, by decide +kernel, rfl, by decide +kernel, by decide +kernel⟩
def spAge (C : Addr) : Sp := fun vs H Q _ => ∃ (p : Addr) (F : Fo), vs = [.ref p] ∧ FoAt C H p F ∧ Q (.int F.age) H
def spCut (C : Addr) : Sp := fun vs H Q _ => ∃ (p : Addr) (F : Fo), vs = [.ref p] ∧ FoAt C H p F ∧ Q (.int F.ct) H
section
variable {P : Program} {w : World} {K : PySem.W.Frag} {mg : Str → Option Value} {base : Heap} {C : Addr}
theorem ok_age {f : Addr} {fd : FuncData} (t : ClT K mg C) (F : Fun K "age" "Folder.age" sAge f fd) : FnOk P w K mg base CX0 1 f fd nSelf (spAge C) := by
  refine F.ok scAge (fun vs H Q E h => ?_) (fun cdv A outer s H vs Q E hr h => ?_)
  · obtain ⟨p, F, rfl, _⟩ := h
    rfl
  · obtain ⟨p, F, rfl, ⟨dx, tl, tg, hp, h1, h2⟩, q⟩ := h
    exact ⟨_, pss_one (ps_ret (pe_fld (pv 0) rfl)), ⟨_, rfl, p, C, dx, _, _, rfl, hp, t.cl, t.nA, fl_age, q⟩⟩
theorem ok_cut {f : Addr} {fd : FuncData} (t : ClT K mg C) (F : Fun K "cut" "Folder.cut" sCut f fd) : FnOk P w K mg base CX0 1 f fd nSelf (spCut C) := by
  refine F.ok scCut (fun vs H Q E h => ?_) (fun cdv A outer s H vs Q E hr h => ?_)
  · obtain ⟨p, F, rfl, _⟩ := h
    rfl
  · obtain ⟨p, F, rfl, ⟨dx, tl, tg, hp, h1, h2⟩, q⟩ := h
    exact ⟨_, pss_one (ps_ret (pe_fld (pv 0) rfl)), ⟨_, rfl, p, C, dx, _, _, rfl, hp, t.cl, t.nC, fl_cut, q⟩⟩
end
end K1


set_option Elab.async false
set_option linter.all false
set_option maxRecDepth 100000
/-! != of two lists whose items are equal by an own == : False. -/
namespace K1
open PySem PySem.SeqAt PySem.Spec PyProof.Rows L2
open AutoSeq1 (wpAny_loadPart')
open MeetsSeq MeetsSeq2 MeetsSeq3 SeqRoads2
section
variable {prog : Program} {w : World} {A : Around} {R : Result → Shared → Prop}
theorem neLoop {l b : Addr} {N : Nat} {J : Nat → Shared → Prop} (tn : GQ.ListI prog w A (fun e z => R (.error e) z) l b N J) (fin : ∀ z, J N z → R (.ok (.ret (.bool false))) z) : ∀ (left i : Nat), N - i = left → i ≤ N → ∀ z, J i z →
    wpAny (model prog w) A.in1 (Builtin.«list.__eq__.loop» ⟨[.ref l, .ref b, rawInt i, rawInt 3], []⟩) (GQ.FinOf prog w A R) (fun e y => R (.error e) y) z
  | 0, i, hk, hi, z, q => by
    obtain ⟨xs, ys, n, m, gl, gb, zx, zy, _⟩ := tn _ _ q
    have e : i = N := by omega
    have fR := fin z (e ▸ q)
    obtain ⟨z1, z2, z3, z4, z5⟩ := z
    wp_walk using wpAny_loadPart' gl, wpAny_loadPart' gb
    have nx : xs[((i : Nat) : Int).toNat]? = none := by simp; omega
    have ny : ys[((i : Nat) : Int).toNat]? = none := by simp; omega
    rw [nx, ny]
    wp_walk using wpAny_loadPart' gl, wpAny_loadPart' gb
    show R (.ok (.ret (.bool (xs.size != ys.size)))) _
    rw [zx, zy]
    simpa using fR
  | left + 1, i, hk, hi, z, q => by
    obtain ⟨xs, ys, n, m, gl, gb, zx, zy, one⟩ := tn _ _ q
    have lx : i < xs.size := by omega
    have ly : i < ys.size := by omega
    have step := one lx ly
    obtain ⟨z1, z2, z3, z4, z5⟩ := z
    wp_walk using wpAny_loadPart' gl, wpAny_loadPart' gb
    have nx : xs[((i : Nat) : Int).toNat]? = some xs[i] := by simp [lx]
    have ny : ys[((i : Nat) : Int).toNat]? = some ys[i] := by simp [ly]
    have c1 : ((i : Int) + 1) = ((i + 1 : Nat) : Int) := by omega
    rw [nx, ny]
    refine wpAny_bind (wpAny_mono step (fun r y q2 => ?_) fun _ _ x => x)
    obtain ⟨rfl, q2⟩ := q2
    have again := neLoop tn fin left (i + 1) (by omega) (by omega) y q2
    obtain ⟨y1, y2, y3, y4, y5⟩ := y
    wp_walk
    rw [c1]
    refine ⟨plainId_quiet plain_eq_loop _, codeAny_builtin entry_eq_loop ?_⟩
    rw [Around.under_plainId plain_eq_loop _]
    exact again
theorem neList {l b : Addr} {N : Nat} {J : Nat → Shared → Prop} (tn : GQ.ListI prog w A (fun e z => R (.error e) z) l b N J) (fin : ∀ z, J N z → R (.ok (.ret (.bool false))) z) {z : Shared} (q : J 0 z) :
    wpAny (model prog w) A.in1 (Builtin.«list.__ne__» ⟨[.ref l, .ref b], []⟩) (GQ.FinOf prog w A R) (fun e y => R (.error e) y) z := by
  obtain ⟨xs, ys, n, m, gl, gb, zx, zy, _⟩ := tn _ _ q
  have again := neLoop tn fin _ 0 rfl (Nat.zero_le _) z q
  obtain ⟨z1, z2, z3, z4, z5⟩ := z
  have f3 := AutoSeq1.sub_list_list
  have same : ¬ (xs.size != ys.size) = true := by simp [zx, zy]
  wp_walk using wpAny_loadPart' gl, wpAny_loadPart' gb
  refine ⟨plainId_quiet plain_eq_loop _, codeAny_builtin entry_eq_loop ?_⟩
  rw [Around.under_plainId plain_eq_loop _]
  exact again
end
theorem rcNe {prog : Program} {w : World} {A : Around} {E : Value → Shared → Prop} {z : Shared} {l b : Addr} {N : Nat} {Q : Value → Shared → Prop} (hu : A.units < cLine) (J : Nat → Shared → Prop) (tn : GQ.ListI prog w A E l b N J) (fin : ∀ z, J N z → Q (.bool false) z) (q : J 0 z) :
    wpAny (model prog w) A (richCompare .NotEq (.ref l) (.ref b)) Q E z := by
  obtain ⟨xs, ys, n, m, gl, gb, _, _, _⟩ := tn _ _ q
  refine wpAny_richCompare_same_room (op := .NotEq) ⟨_, gl, rfl⟩ ⟨_, gb, rfl⟩ F.slot_list_ne (GQ.call_here F.slot_list_ne ⟨_, gl, rfl⟩ F.entry_list_ne (F.args_list_ne_2 _ _) ?_) hu
  exact neList (R := wants (fun v y => v ≠ .notImplemented ∧ Q v y) E) tn (fun y h => ⟨(fun x => nomatch x), fin y h⟩) q
/-- x != y, as lists of equal items: False -/
def rNeG (D : Eqv) : R2 := fun x y H Q => DList D x y H ∧ ∀ H', L2.Ext H H' → Q (.bl false) H'
theorem op_neG {X : Cx} {n : Nat} {D : Eqv} (hD : Mon D) (h : EqG X n D) (hr : Room (n + 1) X.A) : OpR X (compareOp .NotEq) (rNeG D) := by
  intro pins s σ H x y v u Q I rx ry hq
  obtain ⟨⟨a, b, xs, ys, rfl, rfl, ha, hb, p⟩, q⟩ := hq
  cases rx
  cases ry
  show wpAny (model X.prog X.w) X.A (richCompare .NotEq (.ref a) (.ref b)) (EP X pins σ Q) X.xe s
  have sb : Sub X (n + 1) X.A := ⟨hr, rfl⟩
  refine rcNe (N := xs.length) sb.room.units0 (fun _ z => LoopI X pins σ H z) (fun i z k => ?_) (fun z k => ?_) ⟨H, I, L2.Ext.rfl'⟩
  · obtain ⟨H1, I1, e1⟩ := id k
    obtain ⟨z1, us, k1, r1, g1⟩ := I1.hok a _ (e1 _ _ ha)
    obtain ⟨z2, ws, k2, r2, g2⟩ := I1.hok b _ (e1 _ _ hb)
    exact ⟨us.toArray, ws.toArray, k1, k2, g1, g2, by rw [List.size_toArray, ← r1.length], by rw [List.size_toArray, ← r2.length, ← p.1], fun h1 h2 => turnG hD h sb p r1 r2 i h1 h2 z k⟩
  · obtain ⟨H1, I1, e1⟩ := k
    exact ⟨.bl false, H1, I1, rfl, q H1 e1⟩
end K1


set_option Elab.async false
set_option linter.all false
set_option maxRecDepth 100000
set_option maxHeartbeats 2000000
/-! Folder.__eq__ and what lists that hold folders are equal by. -/
namespace K1
open PySem PySem.Spec PyProof.Rows L2 RZ
abbrev sEq : Stmt := mS 1
abbrev nEq : List Str := ["self", "other"]
theorem scEq : FnScope nEq nEq (defScope sEq) := ⟨rfl, rfl, rfl, by decide +kernel, rfl, by decide +kernel, by decide +kernel⟩
theorem FoAt.ex {C p : Addr} {H H' : Hp} {F : Fo} (h : FoAt C H p F) (s : L2.Ext H H') : FoAt C H' p F := h.same fun b o hb => s b o hb
/-- the two are folders with the same in them -/
def FoEq (C : Addr) (a b : Addr) (H : Hp) : Prop := ∃ F, FoAt C H a F ∧ FoAt C H b F ∧ ∀ l ∈ F.ls, OkSs l.s
theorem FoEq.mon {C : Addr} : ∀ a b H H', L2.Ext H H' → FoEq C a b H → FoEq C a b H' := fun a b H H' e ⟨F, h1, h2, h3⟩ => ⟨F, h1.ex e, h2.ex e, h3⟩
theorem lt_lay {l : Lt} (h : OkSs l.s) : PyData.canLay0 (ltD l) = true ∧ PyData.depth (ltD l) ≤ 2 := by
  obtain ⟨h1, h2⟩ := g_lay h.ok
  refine ⟨?_, ?_⟩
  · show (true && (true && (PyData.canLayAll0 (l.s.map PyData.str) && (true && true)))) = true
    rw [h1]; rfl
  · show max 0 (max 0 (max (PyData.depthAll (l.s.map PyData.str) + 1) (max 0 0))) + 1 ≤ 2
    omega
theorem lts_lay : ∀ {ls : List Lt}, (∀ l ∈ ls, OkSs l.s) → PyData.canLayAll0 (ls.map ltD) = true ∧ PyData.depthAll (ls.map ltD) ≤ 2
  | [], _ => ⟨rfl, Nat.zero_le _⟩
  | l :: r, h => by
    obtain ⟨h1, h2⟩ := lts_lay fun x hx => h x (List.mem_cons_of_mem _ hx)
    obtain ⟨g1, g2⟩ := lt_lay (h l List.mem_cons_self)
    refine ⟨?_, ?_⟩
    · show (PyData.canLay0 (ltD l) && PyData.canLayAll0 (r.map ltD)) = true
      rw [g1, h1]; rfl
    · show max (PyData.depth (ltD l)) (PyData.depthAll (r.map ltD)) ≤ 2
      omega
theorem lts_shT {ls : List Lt} (h : ∀ l ∈ ls, OkSs l.s) : SeqAt.shaped (lsD ls) = true := by
  obtain ⟨h1, h2⟩ := lts_lay h
  unfold SeqAt.shaped
  have e1 : PyData.canLay0 (lsD ls) = true := h1
  have e2 : PyData.depth (lsD ls) ≤ 64 := by show PyData.depthAll (ls.map ltD) + 1 ≤ 64; omega
  rw [e1, decide_eq_true e2]; rfl
theorem lts_shL {ls : List Lt} (h : ∀ l ∈ ls, OkSs l.s) : SeqAt.shaped (.list (ls.map ltD)) = true := by
  obtain ⟨h1, h2⟩ := lts_lay h
  unfold SeqAt.shaped
  have e1 : PyData.canLay0 (.list (ls.map ltD)) = true := h1
  have e2 : PyData.depth (.list (ls.map ltD)) ≤ 64 := by show PyData.depthAll (ls.map ltD) + 1 ≤ 64; omega
  rw [e1, decide_eq_true e2]; rfl
theorem gos_lay : ∀ (go : List (Int × Int)), PyData.canLayAll0 (go.map goD) = true ∧ PyData.depthAll (go.map goD) ≤ 1
  | [] => ⟨rfl, Nat.zero_le _⟩
  | g :: r => by
    obtain ⟨h1, h2⟩ := gos_lay r
    refine ⟨?_, ?_⟩
    · show ((true && (true && true)) && PyData.canLayAll0 (r.map goD)) = true
      rw [h1]; rfl
    · show max (max 0 (max 0 0) + 1) (PyData.depthAll (r.map goD)) ≤ 1
      omega
theorem gos_sh (go : List (Int × Int)) : SeqAt.shaped (gsD go) = true := by
  obtain ⟨h1, h2⟩ := gos_lay go
  unfold SeqAt.shaped
  have e1 : PyData.canLay0 (gsD go) = true := h1
  have e2 : PyData.depth (gsD go) ≤ 64 := by show PyData.depthAll (go.map goD) + 1 ≤ 64; omega
  rw [e1, decide_eq_true e2]; rfl
theorem lts_nd : ∀ ls : List Lt, noDicA (ls.map ltD) = true
  | [] => rfl
  | l :: r => by
    show ((true && (true && (noDicA (l.s.map PyData.str) && (true && true)))) && noDicA (r.map ltD)) = true
    rw [nd_strs, lts_nd r]; rfl
theorem gos_nd : ∀ go : List (Int × Int), noDicA (go.map goD) = true
  | [] => rfl
  | g :: r => by
    show ((true && (true && true)) && noDicA (r.map goD)) = true
    rw [gos_nd r]; rfl
theorem eqv_same {d : PyData} (h : SeqAt.shaped d = true) : PyData.eqv d d = true := SeqAt.eqv_refl _ (SeqAt.canLay_of_shaped h)
section
variable {P : Program} {w : World} {K : PySem.W.Frag} {mg : Str → Option Value} {base : Heap} {C : Addr}
set_option maxHeartbeats 8000000 in
theorem ok_eq {f : Addr} {fd : FuncData} (T : Bk mg) (t : ClT K mg C) (iC : C8.InsC K C) (F : Fun K "__eq__" "Folder.__eq__" sEq f fd) : FnOk P w K mg base CX0 1 f fd nEq (spEq (FoEq C)) := by
  have nd := scEq.nd
  refine F.ok scEq (fun vs H Q E h => ?_) (fun cdv A outer s H vs Q E hr h => ?_)
  · obtain ⟨a, b, rfl, _⟩ := h
    rfl
  · obtain ⟨a, b, rfl, ⟨F, hA, hB, hs⟩, q⟩ := h
    refine ⟨_, (pss_one (ps_ret (pe_and (pe_callB (C8.call_isC iC) (by rfl) T.isinstance PyProof.Rows.boot_isinstance (pa_cons (pv 1) (pa_cons (pe_glob (v := .ref C) rfl t.gC rfl) pa_nil)))
      (pe_and (pe_cmpR op_eq (pe_fld (pv 0) rfl) (pe_fld (pv 1) rfl) (nomark _)) (pe_and (pe_cmpR (op_eqDK (K := K) rfl hr.units) (pe_fld (pv 0) rfl) (pe_fld (pv 1) rfl) (nomark _)) (pe_and (pe_cmpR op_eq (pe_fld (pv 0) rfl) (pe_fld (pv 1) rfl) (nomark _)) (pe_and (pe_cmpR op_eq (pe_fld (pv 0) rfl) (pe_fld (pv 1) rfl) (nomark _))
       (pe_and (pe_cmpR (op_eqDK (K := K) rfl hr.units) (pe_fld (pv 0) rfl) (pe_fld (pv 1) rfl) (nomark _)) (pe_one (pe_cmpR op_eq (pe_fld (pv 0) rfl) (pe_fld (pv 1) rfl) (nomark _))))))))))), ?_⟩
    obtain ⟨dA, lA, gA, pA, a1, a2⟩ := hA
    obtain ⟨dB, lB, gB, pB, b1, b2⟩ := hB
    have shL := lts_shT hs
    have shG := gos_sh F.go
    refine ⟨_, rfl, b, dB, _, rfl, pB, _, rfl, itbT rfl ?_⟩
    refine ⟨_, rfl, a, C, dA, _, _, rfl, pA, t.cl, t.nA, fl_age, _, rfl, b, C, dB, _, _, rfl, pB, t.cl, t.nA, fl_age, rfl, _, rfl, itbT (decide_eq_true rfl) ?_⟩
    refine ⟨_, rfl, a, C, dA, _, _, rfl, pA, t.cl, t.nL, fl_let, _, rfl, b, C, dB, _, _, rfl, pB, t.cl, t.nL, fl_let, _, _, a1.dp (lts_nd F.ls), b1.dp (lts_nd F.ls), shL, shL, _, rfl, itbT (eqv_same shL) ?_⟩
    refine ⟨_, rfl, a, C, dA, _, _, rfl, pA, t.cl, t.nN, fl_nx, _, rfl, b, C, dB, _, _, rfl, pB, t.cl, t.nN, fl_nx, rfl, _, rfl, itbT (decide_eq_true rfl) ?_⟩
    refine ⟨_, rfl, a, C, dA, _, _, rfl, pA, t.cl, t.nM, fl_mk, _, rfl, b, C, dB, _, _, rfl, pB, t.cl, t.nM, fl_mk, rfl, _, rfl, itbT (decide_eq_true rfl) ?_⟩
    refine ⟨_, rfl, a, C, dA, _, _, rfl, pA, t.cl, t.nG, fl_gone, _, rfl, b, C, dB, _, _, rfl, pB, t.cl, t.nG, fl_gone, _, _, a2.dp (gos_nd F.go), b2.dp (gos_nd F.go), shG, shG, _, rfl, itbT (eqv_same shG) ?_⟩
    refine ⟨_, rfl, a, C, dA, _, _, rfl, pA, t.cl, t.nC, fl_cut, _, rfl, b, C, dB, _, _, rfl, pB, t.cl, t.nC, fl_cut, rfl, ?_⟩
    have fin := q H (fun _ _ h => h)
    rw [show (true : Bool) = decide (V.int F.ct = V.int F.ct) by simp] at fin
    exact fin
end
end K1


set_option Elab.async false
set_option linter.all false
set_option maxRecDepth 100000
set_option maxHeartbeats 1000000
/-! Good folders; what copying and moving make, letter by letter. -/
namespace K1
open PySem PySem.Spec PyProof.Rows L2 RZ
structure Gd (k : Nat) (F : Fo) : Prop where
  wf : Wf k F
  nd : (F.ls.map (·.n)).Nodup
  it : ∀ l ∈ F.ls, 1 ≤ l.n ∧ l.n < F.nx ∧ 0 ≤ l.b
  nx : 1 ≤ F.nx ∧ F.nx ≤ k + 1
  mr : 0 ≤ F.mr ∧ F.mr ≤ 1000 * k
theorem Gd.mono {k m : Nat} {F : Fo} (h : Gd k F) (e : k ≤ m) : Gd m F := ⟨h.wf.mono e, h.nd, h.it, ⟨h.nx.1, by have := h.nx.2; omega⟩, ⟨h.mr.1, by have := h.mr.2; omega⟩⟩
theorem sigL_it (ns : List Int) (g : List Str → List Str) : ∀ (ls : List Lt) (m : Int), (sigL ns g ls m).1.map (fun l => (l.n, l.b)) = ls.map (fun l => (l.n, l.b))
  | [], m => rfl
  | l :: r, m => by
    unfold sigL
    split
    · rw [List.map_cons, List.map_cons, sigL_it ns g r m]
    · rw [List.map_cons, List.map_cons, sigL_it ns g r (m + 1)]
theorem sigL_mr (ns : List Int) (g : List Str → List Str) : ∀ (ls : List Lt) (m : Int), m ≤ (sigL ns g ls m).2 ∧ (sigL ns g ls m).2 ≤ m + ls.length
  | [], m => ⟨Int.le_refl _, by show m ≤ m + 0; omega⟩
  | l :: r, m => by
    unfold sigL
    split
    · have := sigL_mr ns g r m
      rw [List.length_cons]
      exact ⟨this.1, by have := this.2; show _ ≤ m + ((r.length + 1 : Nat) : Int); dsimp only; omega⟩
    · have := sigL_mr ns g r (m + 1)
      rw [List.length_cons]
      exact ⟨by have := this.1; dsimp only; omega, by have := this.2; show _ ≤ m + ((r.length + 1 : Nat) : Int); dsimp only; omega⟩
theorem remL_sub (ns : List Int) : ∀ (ls : List Lt) (m : Int), (remL ns ls m).1.Sublist ls
  | [], m => .slnil
  | l :: r, m => by
    unfold remL
    split
    · exact (remL_sub ns r (m + 1)).cons l
    · exact (remL_sub ns r m).cons₂ l
theorem remL_mr (ns : List Int) : ∀ (ls : List Lt) (m : Int), m ≤ (remL ns ls m).2.2 ∧ (remL ns ls m).2.2 ≤ m + ls.length
  | [], m => ⟨Int.le_refl _, by show m ≤ m + 0; omega⟩
  | l :: r, m => by
    unfold remL
    split
    · have := remL_mr ns r (m + 1)
      rw [List.length_cons]
      exact ⟨by have := this.1; dsimp only; omega, by have := this.2; show _ ≤ m + ((r.length + 1 : Nat) : Int); dsimp only; omega⟩
    · have := remL_mr ns r m
      rw [List.length_cons]
      exact ⟨this.1, by have := this.2; show _ ≤ m + ((r.length + 1 : Nat) : Int); dsimp only; omega⟩
theorem it_of {xs ys : List Lt} (e : xs.map (fun l => (l.n, l.b)) = ys.map (fun l => (l.n, l.b))) {l : Lt} (h : l ∈ xs) : ∃ y ∈ ys, y.n = l.n ∧ y.b = l.b := by
  have : (l.n, l.b) ∈ ys.map (fun l => (l.n, l.b)) := by rw [← e]; exact List.mem_map.mpr ⟨l, h, rfl⟩
  obtain ⟨y, hy, ey⟩ := List.mem_map.mp this
  exact ⟨y, hy, congrArg Prod.fst ey, congrArg Prod.snd ey⟩
theorem nd_of {xs ys : List Lt} (e : xs.map (fun l => (l.n, l.b)) = ys.map (fun l => (l.n, l.b))) (h : (ys.map (·.n)).Nodup) : (xs.map (·.n)).Nodup := by
  have e1 := congrArg (List.map Prod.fst) e
  rw [List.map_map, List.map_map] at e1
  have e2 : xs.map (·.n) = ys.map (·.n) := e1
  rw [e2]; exact h
theorem gd_sig {k : Nat} {F : Fo} {ns : List Int} {g : List Str → List Str} (hk : k ≤ 1000) (h : Gd k F) (w : Wf (k + 1) (fSig F ns g)) : Gd (k + 1) (fSig F ns g) := by
  have e := sigL_it ns g F.ls F.mr
  have m := sigL_mr ns g F.ls F.mr
  have hl := h.wf.len
  refine ⟨w, nd_of e h.nd, fun l hl => ?_, ⟨h.nx.1, by have := h.nx.2; show F.nx ≤ _; omega⟩, ⟨by have := h.mr.1; show 0 ≤ (sigL ns g F.ls F.mr).2; omega, by have := h.mr.2; show (sigL ns g F.ls F.mr).2 ≤ _; omega⟩⟩
  obtain ⟨y, hy, e1, e2⟩ := it_of e hl
  have := h.it y hy
  rw [e1, e2] at this
  exact this
theorem gd_does {k : Nat} {F : Fo} (hk : k ≤ 1000) (h : Gd k F) : ∀ {d : Dd}, OkD d → Gd (k + 1) (does d F)
  | .app b ss, o => by
    have hx := h.nx
    have hm := h.mr
    refine ⟨wf_does (d := .app b ss) o h.wf, ?_, fun l hl => ?_, ⟨by show 1 ≤ F.nx + 1; omega, by show F.nx + 1 ≤ _; omega⟩, ⟨by show 0 ≤ F.mr + 1; omega, by show F.mr + 1 ≤ _; omega⟩⟩
    · show ((F.ls ++ [(⟨F.nx, b, ss, F.mr + 1⟩ : Lt)]).map (·.n)).Nodup
      rw [List.map_append]
      refine List.nodup_append.mpr ⟨h.nd, by simp, fun a ha b' hb e => ?_⟩
      obtain ⟨l, hl, rfl⟩ := List.mem_map.mp ha
      have h1 : b' = F.nx := by simpa using hb
      have := (h.it l hl).2.1
      omega
    · rcases List.mem_append.mp (show l ∈ F.ls ++ _ from hl) with z | z
      · have := h.it l z
        exact ⟨this.1, by show l.n < F.nx + 1; omega, this.2.2⟩
      · rw [List.mem_singleton.mp z]
        exact ⟨hx.1, by show F.nx < F.nx + 1; omega, o.1⟩
  | .add ns z, o => gd_sig hk h (wf_does (d := .add ns z) o h.wf)
  | .take ns z, o => gd_sig hk h (wf_does (d := .take ns z) o h.wf)
  | .set ns zs, o => gd_sig hk h (wf_does (d := .set ns zs) o h.wf)
  | .rem ns, o => by
    have s := remL_sub ns F.ls F.mr
    have m := remL_mr ns F.ls F.mr
    have hl := h.wf.len
    refine ⟨wf_does (d := .rem ns) o h.wf, List.Nodup.sublist (s.map _) h.nd, fun l hl => h.it l (s.subset hl), ⟨h.nx.1, by have := h.nx.2; show F.nx ≤ _; omega⟩, ⟨by have := h.mr.1; show 0 ≤ (remL ns F.ls F.mr).2.2; omega, by have := h.mr.2; show (remL ns F.ls F.mr).2.2 ≤ _; omega⟩⟩
  | .trim m, o => ⟨wf_does (d := .trim m) o h.wf, h.nd, h.it, ⟨h.nx.1, by have := h.nx.2; show F.nx ≤ _; omega⟩, ⟨h.mr.1, by have := h.mr.2; show F.mr ≤ _; omega⟩⟩
theorem gd_new {a : Int} (h : 1 ≤ a) : Gd 0 (fNew a) := ⟨⟨h, Nat.le_refl _, fun l hl => by cases hl⟩, List.nodup_nil, fun l hl => (by cases hl), ⟨by show (1 : Int) ≤ 1; decide, by show (1 : Int) ≤ _; decide⟩, ⟨by show (0 : Int) ≤ 0; decide, by show (0 : Int) ≤ _; decide⟩⟩
/-- how many of the letters are of these numbers -/
def cnt (ns : List Int) (ls : List Lt) : Nat := (ls.filter fun l => decide (l.n ∈ ns)).length
theorem sub_lenI {α : Type} [DecidableEq α] : ∀ (b l : List α), l.Nodup → (∀ x ∈ l, x ∈ b) → l.length ≤ b.length
  | [], [], _, _ => Nat.le_refl _
  | [], x :: l, _, h => by have := h x List.mem_cons_self; cases this
  | y :: b, l, d, h => by
    have ih := sub_lenI b (l.erase y) (d.erase _) fun x hx => by
      have m := (List.Nodup.mem_erase_iff d).mp hx
      rcases List.mem_cons.mp (h x m.2) with e | e
      · exact absurd e m.1
      · exact e
    rw [List.length_erase] at ih
    rw [List.length_cons]
    split at ih <;> omega
theorem cnt_le {ns : List Int} {ls : List Lt} (h : (ls.map (·.n)).Nodup) : cnt ns ls ≤ ns.length := by
  have := sub_lenI ns ((ls.filter fun l => decide (l.n ∈ ns)).map (·.n)) (List.Nodup.sublist ((List.filter_sublist).map _) h) fun x hx => by
    obtain ⟨l, hl, rfl⟩ := List.mem_map.mp hx
    simpa using (List.mem_filter.mp hl).2
  rwa [List.length_map] at this
theorem cnt_take (ns : List Int) {ls : List Lt} {i : Nat} {l : Lt} (h : ls[i]? = some l) : cnt ns (ls.take (i + 1)) = cnt ns (ls.take i) + (if l.n ∈ ns then 1 else 0) := by
  unfold cnt
  rw [List.take_add_one, h, List.filter_append, List.length_append]
  congr 1
  by_cases c : l.n ∈ ns <;> simp [c]
theorem cnt_tk (ns : List Int) (ls : List Lt) (i : Nat) : cnt ns (ls.take i) ≤ cnt ns ls := ((List.take_sublist i ls).filter _).length_le
structure St9 where
  f : Fo
  o : Option Fo
  ps : List (Int × Int)
def rmv (lv : Bool) (f : Fo) (n : Int) : Fo := if lv = true then fRem f [n] else f
def tgt (s : St9) : Fo := match s.o with | none => s.f | some g => g
def car1 (lv : Bool) (ns : List Int) (s : St9) (l : Lt) : St9 :=
  if l.n ∈ ns then
    match s.o with
    | none => ⟨rmv lv (fApp s.f l.b l.s) l.n, none, s.ps ++ [(l.n, s.f.nx)]⟩
    | some g => ⟨rmv lv s.f l.n, some (fApp g l.b l.s), s.ps ++ [(l.n, g.nx)]⟩
  else s
def carL (lv : Bool) (ns : List Int) (s : St9) (ls : List Lt) : St9 := ls.foldl (car1 lv ns) s
theorem carL_take (lv : Bool) (ns : List Int) (s : St9) {ls : List Lt} {i : Nat} {l : Lt} (h : ls[i]? = some l) : carL lv ns s (ls.take (i + 1)) = car1 lv ns (carL lv ns s (ls.take i)) l := by
  unfold carL; rw [List.take_add_one, h, List.foldl_append]; rfl
def Gd9 (k : Nat) (s : St9) : Prop := Gd k s.f ∧ ∀ g, s.o = some g → Gd k g
theorem Gd9.mono {k m : Nat} {s : St9} (h : Gd9 k s) (e : k ≤ m) : Gd9 m s := ⟨h.1.mono e, fun g hg => (h.2 g hg).mono e⟩
theorem gd_rmv {k : Nat} {f : Fo} (lv : Bool) (n : Int) (hk : k ≤ 1000) (h : Gd k f) : Gd (k + 1) (rmv lv f n) := by
  unfold rmv
  split
  · exact gd_does hk h (d := .rem [n]) trivial
  · exact h.mono (by omega)
theorem gd_car1 {k : Nat} {s : St9} (lv : Bool) (ns : List Int) {l : Lt} (hk : k ≤ 900) (h : Gd9 k s) (hb : 0 ≤ l.b) (hs : OkSs l.s) : Gd9 (k + (if l.n ∈ ns then 2 else 0)) (car1 lv ns s l) := by
  unfold car1
  by_cases c : l.n ∈ ns
  · rw [if_pos c, if_pos c]
    obtain ⟨f, o, ps⟩ := s
    cases o with
    | none =>
      refine ⟨gd_rmv lv _ (by omega) (gd_does (by omega) h.1 (d := .app l.b l.s) ⟨hb, hs⟩), fun g hg => (by cases hg)⟩
    | some g =>
      refine ⟨(gd_rmv lv _ (by omega) h.1).mono (by omega), fun g' hg => ?_⟩
      rw [← Option.some.inj hg]
      exact (gd_does (by omega) (h.2 g rfl) (d := .app l.b l.s) ⟨hb, hs⟩).mono (by omega)
  · rw [if_neg c, if_neg c]
    exact h.mono (by omega)
theorem gd_carT {k : Nat} {s : St9} (lv : Bool) (ns : List Int) {ls : List Lt} (hk : k + 2 * cnt ns ls ≤ 900) (h : Gd9 k s) (hl : ∀ l ∈ ls, 0 ≤ l.b ∧ OkSs l.s) : ∀ i, Gd9 (k + 2 * cnt ns (ls.take i)) (carL lv ns s (ls.take i))
  | 0 => h.mono (by omega)
  | i + 1 => by
    have ih := gd_carT lv ns hk h hl i
    cases e : ls[i]? with
    | none =>
      have : ls.take (i + 1) = ls.take i := by rw [List.take_add_one, e]; simp
      rw [this]; exact ih
    | some l =>
      rw [carL_take lv ns s e, cnt_take ns e]
      have h1 := cnt_tk ns ls i
      have hm := hl l (List.mem_of_getElem? e)
      refine (gd_car1 lv ns (l := l) (by omega) ih hm.1 hm.2).mono ?_
      split <;> omega
theorem or_snotI {X : Cx} {P : Program} {w : World} (hP : X.prog = P) (hw : X.w = w) : OpR X (compareOp .NotIn) (rSetI P w true) := by
  subst hP hw
  intro pins s σ H x y v u Q I rx ry h
  obtain ⟨k, a, S, n, rfl, rfl, ha, q⟩ := h
  obtain rfl : u = Value.ref a := ry
  obtain ⟨t, rfl⟩ := rx
  exact wpAny_notInSet_of (intKind_is _ _ _ _) rfl (setI_get I ha) ⟨.bl (!S k), H, I.tok _, rfl, q⟩
end K1


set_option Elab.async false
set_option linter.all false
set_option maxRecDepth 100000
set_option maxHeartbeats 4000000
namespace K1
open PySem PySem.Spec PyProof.Rows L2 RZ
def OAt (C : Addr) (H : Hp) (v : V) : Option Fo → Prop
  | none => v = .non
  | some g => ∃ p, v = .ref p ∧ FoAt C H p g
theorem OAt.same {C : Addr} {H H' : Hp} {v : V} (s : Same H H') : ∀ {o : Option Fo}, OAt C H v o → OAt C H' v o
  | none, h => h
  | some _, ⟨p, e, h⟩ => ⟨p, e, h.same s⟩
theorem OAt.tk {C : Addr} {H H' : Hp} {v : V} (s : TK H H') : ∀ {o : Option Fo}, OAt C H v o → OAt C H' v o
  | none, h => h
  | some _, ⟨p, e, h⟩ => ⟨p, e, h.tk s⟩
theorem TK.lst {H H' : Hp} {p : Addr} {xs : List V} (h : H p = some (.lst xs)) (s : Ext p H H') : TK H H' := fun b o hb nl _ => s b o (fun z => by rw [z, h] at hb; exact nl xs (Option.some.inj hb).symm) hb
def ap1 (s : St9) (l : Lt) : St9 := match s.o with
  | none => ⟨fApp s.f l.b l.s, none, s.ps ++ [(l.n, s.f.nx)]⟩
  | some g => ⟨s.f, some (fApp g l.b l.s), s.ps ++ [(l.n, g.nx)]⟩
theorem car1_in {lv : Bool} {ns : List Int} {s : St9} {l : Lt} (h : l.n ∈ ns) : car1 lv ns s l = ⟨rmv lv (ap1 s l).f l.n, (ap1 s l).o, (ap1 s l).ps⟩ := by
  unfold car1 ap1
  rw [if_pos h]
  cases s.o <;> rfl
theorem car1_out {lv : Bool} {ns : List Int} {s : St9} {l : Lt} (h : l.n ∉ ns) : car1 lv ns s l = s := if_neg h
theorem gd_ap1 {k : Nat} {s : St9} {l : Lt} (hk : k ≤ 900) (h : Gd9 k s) (hb : 0 ≤ l.b) (hs : OkSs l.s) : Gd9 (k + 1) (ap1 s l) := by
  obtain ⟨f, o, ps⟩ := s
  cases o with
  | none => exact ⟨gd_does (by omega) h.1 (d := .app l.b l.s) ⟨hb, hs⟩, fun g hg => (by cases hg)⟩
  | some g =>
    refine ⟨h.1.mono (by omega), fun g' hg => ?_⟩
    rw [← Option.some.inj hg]
    exact gd_does (by omega) (h.2 g rfl) (d := .app l.b l.s) ⟨hb, hs⟩
/-- what _carried and the law's own carrying tell -/
def CarAt (C : Addr) (H : Hp) (r : Addr) (s : St9) : Prop := ∃ q v L, H r = some (.tup [.ref q, v, .ref L]) ∧ FoAt C H q s.f ∧ OAt C H v s.o ∧ Dv H (.ref L) (.list (s.ps.map goD))
abbrev sCc : Stmt := st__check_carried
abbrev sCa : Stmt := st__carried
abbrev sCop : Stmt := st_copied
abbrev sMov : Stmt := st_moved
abbrev nCa : List Str := ["one", "other", "numbers", "leaves", "chosen", "pairs", "number", "body", "signs", "_"]
abbrev pCa : List Str := ["one", "other", "numbers", "leaves"]
theorem scCa : FnScope nCa pCa (defScope sCa) := ⟨rfl, rfl, rfl, by decide +kernel, rfl, by decide +kernel, by decide +kernel⟩
abbrev nCc : List Str := ["one", "other", "numbers"]
theorem scCc : FnScope nCc nCc (defScope sCc) := ⟨rfl, rfl, rfl, by decide +kernel, rfl, by decide +kernel, by decide +kernel⟩
theorem scCop : FnScope nCc nCc (defScope sCop) := ⟨rfl, rfl, rfl, by decide +kernel, rfl, by decide +kernel, by decide +kernel⟩
theorem scMov : FnScope nCc nCc (defScope sMov) := ⟨rfl, rfl, rfl, by decide +kernel, rfl, by decide +kernel, by decide +kernel⟩
def spCc (C : Addr) : Sp := fun vs H Q _ => ∃ (p na : Addr) (v : V) (F : Fo) (O : Option Fo) (ns : List Int), vs = [.ref p, v, .ref na] ∧ FoAt C H p F ∧ OAt C H v O ∧ NumsAt H na ns ∧ ∀ H', Same H H' → Q .non H'
def spCa (C : Addr) : Sp := fun vs H Q _ => ∃ (p na : Addr) (v : V) (lv : Bool) (F : Fo) (O : Option Fo) (ns : List Int) (k : Nat), vs = [.ref p, v, .ref na, .bl lv] ∧ FoAt C H p F ∧ OAt C H v O ∧ NumsAt H na ns ∧ Gd9 k ⟨F, O, []⟩ ∧ k + 2 * ns.length ≤ 800 ∧
  ∀ r H', Same H H' → CarAt C H' r (carL lv ns ⟨F, O, []⟩ F.ls) → Q (.ref r) H'
def spCop (C : Addr) (lv : Bool) : Sp := fun vs H Q _ => ∃ (p na : Addr) (v : V) (F : Fo) (O : Option Fo) (ns : List Int) (k : Nat), vs = [.ref p, v, .ref na] ∧ FoAt C H p F ∧ OAt C H v O ∧ NumsAt H na ns ∧ Gd9 k ⟨F, O, []⟩ ∧ k + 2 * ns.length ≤ 800 ∧
  ∀ r H', Same H H' → CarAt C H' r (carL lv ns ⟨F, O, []⟩ F.ls) → Q (.ref r) H'
theorem carL_len (lv : Bool) (ns : List Int) : ∀ (ls : List Lt) (s : St9), (carL lv ns s ls).ps.length ≤ s.ps.length + ls.length
  | [], s => Nat.le_refl _
  | l :: r, s => by
    have ih := carL_len lv ns r (car1 lv ns s l)
    show (carL lv ns (car1 lv ns s l) r).ps.length ≤ _
    have : (car1 lv ns s l).ps.length ≤ s.ps.length + 1 := by
      unfold car1
      split
      · obtain ⟨f, o, ps⟩ := s
        cases o <;> (dsimp only; rw [List.length_append]; exact Nat.le_refl _)
      · omega
    rw [List.length_cons]; omega
section
variable {P : Program} {w : World} {K : PySem.W.Frag} {mg : Str → Option Value} {base : Heap} {C : Addr}
theorem ok_cc {f : Addr} {fd : FuncData} (T : Bk mg) (t : ClT K mg C) (iC : C8.InsC K C) (D_check_numbers : Def P w K mg base CX0 4 "_check_numbers" nCkNums spCkNums) (F : Fun K "_check_carried" "_check_carried" sCc f fd) : FnOk P w K mg base CX0 5 f fd nCc (spCc C) := by
  have nd := scCc.nd
  refine F.ok scCc (fun vs H Q E h => ?_) (fun cdv A outer s H vs Q E hr h => ?_)
  · obtain ⟨p, na, v, F, O, ns, rfl, _⟩ := h
    rfl
  · obtain ⟨p, na, v, F, O, ns, rfl, hF, hO, hn, q⟩ := h
    refine ⟨_, (pss_cons (ps_if (pt_not (pt_val (pe_callB (C8.call_isC iC) (by rfl) T.isinstance PyProof.Rows.boot_isinstance (pa_cons (pv 0) (pa_cons (pe_glob (v := .ref C) rfl t.gC rfl) pa_nil))))) pss_any pss_nil)
 (pss_cons (ps_if (PW.pt (pw_and (pt_cmpR op_notN (pv 1) pe_non (nomark _)) (pw_and1 (pt_not (pt_val (pe_callB (C8.call_isC iC) (by rfl) T.isinstance PyProof.Rows.boot_isinstance (pa_cons (pv 1) (pa_cons (pe_glob (v := .ref C) rfl t.gC rfl) pa_nil)))))))) pss_any pss_nil)
 (pss_one (ps_expr (pe_def D_check_numbers (hr.mono (by decide)) rfl pass0 (pa_cons (pv 2) pa_nil)))))), ?_⟩
    obtain ⟨dx, tl, tg, hp, _⟩ := id hF
    refine ⟨_, rfl, p, dx, _, rfl, hp, _, rfl, itbF rfl ?_⟩
    cases O with
    | none =>
      obtain rfl : v = .non := hO
      exact ⟨_, rfl, rfl, _, rfl, itbF rfl ⟨_, rfl, na, ns, rfl, hn.at_, hn.one, hn.len, fun H1 s1 => q H1 s1⟩⟩
    | some g =>
      obtain ⟨p2, rfl, hG⟩ := hO
      obtain ⟨dy, tl2, tg2, hp2, _⟩ := hG
      exact ⟨_, rfl, rfl, _, rfl, itbT rfl ⟨_, rfl, p2, dy, _, rfl, hp2, _, rfl, itbF rfl ⟨_, rfl, na, ns, rfl, hn.at_, hn.one, hn.len, fun H1 s1 => q H1 s1⟩⟩⟩
end
end K1


set_option Elab.async false
set_option linter.all false
set_option maxRecDepth 100000
set_option maxHeartbeats 4000000
namespace K1
open PySem PySem.Spec PyProof.Rows L2 RZ
theorem Ext.mut' {p : Addr} {H H' : Hp} {o : HO} (a : Ext p H H') : Ext p H (upd H' p o) := fun c u n e => by rw [upd_ne n]; exact a c u n e
section
variable {P : Program} {w : World} {K : PySem.W.Frag} {mg : Str → Option Value} {base : Heap} {C : Addr}
set_option maxHeartbeats 8000000 in
theorem ok_ca {f : Addr} {fd : FuncData} (T : Bk mg) (t : ClT K mg C) (M_letters : MDef P w K mg base CX0 1 C "letters" nSelf (spLetters C)) (M_next : MDef P w K mg base CX0 1 C "next_number" nSelf (spNext C)) (M_app : MDef P w K mg base CX0 6 C "appended" pApp (spApp C)) (M_rem : MDef P w K mg base CX0 6 C "removed" pRem (spRem C))
    (F : Fun K "_carried" "_carried" sCa f fd) : FnOk P w K mg base CX0 7 f fd pCa (spCa C) := by
  have nd := scCa.nd
  refine F.ok scCa (fun vs H Q E h => ?_) (fun cdv A outer s H vs Q E hr h => ?_)
  · obtain ⟨p, na, v, lv, F, O, ns, k, rfl, _⟩ := h
    rfl
  · obtain ⟨p, na, v, lv, F, O, ns, k, rfl, hF, hO, hn, hg, hk, q⟩ := h
    refine ⟨_, (pss_cons (ps_set (i := 4) nd rfl (Or.inl rfl) (pe_callTy (cr_setI (P := P) (w := w) (K := K) rfl rfl rfl rfl) (by rfl) T.set PyProof.Rows.boot_set (pa_cons (pv 2) pa_nil)))
 (pss_cons (ps_set (i := 5) nd rfl (Or.inl rfl) (pe_lst pa_nil))
 (pss_cons (ps_for PassesOwn.never rfl (pi_listK (K := K) rfl (pe_mdef0 M_letters t.cl (hr.mono (by decide)) pass0 (pv 0))) (pg_tup rfl (pgs_cons (pg_name (i := 6) nd rfl (Or.inl rfl)) (pgs_cons (pg_name (i := 7) nd rfl (Or.inl rfl)) (pgs_cons (pg_name (i := 8) nd rfl (Or.inl rfl)) (pgs_cons (pg_name (i := 9) nd rfl (Or.inl rfl)) pgs_nil)))))
  (pss_cons (ps_if (pt_cmpR (or_snotI (P := P) (w := w) rfl rfl) (pv 6) (pv 4) (by rfl))
  (pss_one ps_continue)
  pss_nil)
 (C8.pss_cut (ps_if (pt_cmpR op_isN (pv 1) pe_non (nomark _))
  (pss_cons (ps_expr (pe_bm PySem.F.plainAttrs_list PySem.F.slot_list_append PySem.F.type_list_append mt_append (pv 5) (pa_cons (pe_tup (pa_cons (pv 6) (pa_cons (pe_mdef0 M_next t.cl (hr.mono (by decide)) pass0 (pv 0)) pa_nil))) pa_nil)))
 (pss_one (ps_set (i := 0) nd rfl (Or.inl rfl) (pe_mdef M_app t.cl (hr.mono (by decide)) pass0 (pv 0) (pa_cons (pv 7) (pa_cons (pv 8) pa_nil))))))
  (pss_cons (ps_expr (pe_bm PySem.F.plainAttrs_list PySem.F.slot_list_append PySem.F.type_list_append mt_append (pv 5) (pa_cons (pe_tup (pa_cons (pv 6) (pa_cons (pe_mdef0 M_next t.cl (hr.mono (by decide)) pass0 (pv 1)) pa_nil))) pa_nil)))
 (pss_one (ps_set (i := 1) nd rfl (Or.inl rfl) (pe_mdef M_app t.cl (hr.mono (by decide)) pass0 (pv 1) (pa_cons (pv 7) (pa_cons (pv 8) pa_nil)))))))
 (pss_one (ps_if (pt_val (pv 3))
  (pss_one (ps_set (i := 0) nd rfl (Or.inl rfl) (pe_mdef M_rem t.cl (hr.mono (by decide)) pass0 (pv 0) (pa_cons (pe_tup (pa_cons (pv 6) pa_nil)) pa_nil))))
  pss_nil)))))
 (pss_one (ps_ret (pe_tup (pa_cons (pv 0) (pa_cons (pv 1) (pa_cons (pv 5) pa_nil))))))))), ?_⟩
    refine ⟨_, rfl, na, ns, rfl, hn.at_, hn.len, fun cs nn ncs => ?_⟩
    have s1 := same_new ncs (o := SetI P w cs (fun j => decide (j ∈ ns)) nn)
    have hcs : (upd H cs (SetI P w cs (fun j => decide (j ∈ ns)) nn)) cs = _ := upd_same
    generalize upd H cs (SetI P w cs (fun j => decide (j ∈ ns)) nn) = H1 at s1 hcs
    refine ⟨Nat.zero_le _, fun L nL => ?_⟩
    have s2 := s1.new nL (o := .lst [])
    have hL : (upd H1 L (.lst [])) L = some (.lst []) := upd_same
    have hcs2 := same_new nL (o := .lst []) _ _ hcs
    have nLH : H L = none := s1.free nL
    generalize upd H1 L (.lst []) = H2 at s2 hL hcs2
    obtain ⟨dx, tl, tg, hp, _⟩ := id (hF.same s2)
    refine ⟨_, rfl, p, dx, _, rfl, hp, fl_no (by decide +kernel), p, F, rfl, hF.same s2, fun l0 G0 s3 nl0 hl => ?_⟩
    obtain ⟨ys, hl0, dys⟩ := Dv.lsts hl
    have s23 := s2.trans s3
    have hL0 := s3 _ _ hL
    have hcs0 := s3 _ _ hcs2
    have Ll0 : l0 ≠ L := fun e => by rw [e, hL] at nl0; cases nl0
    have csL : cs ≠ L := fun e => by rw [e, hL0] at hcs0; simp [SetI] at hcs0
    have ylen := dys.len
    rw [List.length_map] at ylen
    have c4 : cnt ns F.ls ≤ ns.length := cnt_le hg.1.nd
    have hlt : ∀ l ∈ F.ls, 0 ≤ l.b ∧ OkSs l.s := fun l hl => ⟨(hg.1.it l hl).2.2, hg.1.wf.sg l hl⟩
    have gT := gd_carT lv ns (ls := F.ls) (k := k) (s := ⟨F, O, []⟩) (by have : cnt ns F.ls ≤ ns.length := c4; omega) hg hlt
    have lF : F.ls.length + F.go.length ≤ k := hg.1.wf.len
    have hF1 : FoAt C G0 p F := (hF.same s2).same s3
    have hO1 : OAt C G0 v O := (hO.same s2).same s3
    clear hp hF hO
    refine ⟨l0, rfl, ⟨_, sq hl0⟩, for_list (K := K) (a := l0) (xs := ys) (fun i σ G => ∃ (q : Addr) (v : V) (v6 v7 v8 v9 : Option V) (xs : List V), σ = [some (.ref q), some v, some (.ref na), some (.bl lv), some (.ref cs), some (.ref L), v6, v7, v8, v9] ∧ Ext L G0 G ∧ G L = some (.lst xs) ∧ DvA G xs ((carL lv ns ⟨F, O, []⟩ (F.ls.take i)).ps.map goD) ∧ FoAt C G q (carL lv ns ⟨F, O, []⟩ (F.ls.take i)).f ∧ OAt C G v (carL lv ns ⟨F, O, []⟩ (F.ls.take i)).o) ?_ ?_ ?_ ?_⟩
    · exact ⟨p, v, none, none, none, none, [], rfl, fun _ _ _ h => h, hL0, .nil, hF1, hO1⟩
    · rintro i σ G _ ⟨q', v', v6, v7, v8, v9, xs, rfl, eG, _⟩
      exact sq (eG _ _ Ll0 hl0)
    · rintro i y σ G hy ⟨q', v', v6, v7, v8, v9, xs, rfl, eG, hLG, dG, fG, oG⟩
      obtain ⟨e, he, hde⟩ := dys.get hy
      rw [List.getElem?_map] at he
      cases hl1 : F.ls[i]? with
      | none => rw [hl1] at he; cases he
      | some l =>
        rw [hl1] at he
        obtain rfl := (Option.some.inj he).symm
        have kT := TK.lst hL0 eG
        obtain ⟨ta, sa, rfl, hta, hsa⟩ := dv_lt hde
        have hta1 := kT.tup hta
        have hsa1 := kT.tup hsa
        have hcs1 := eG _ _ csL hcs0
        have gi := gT i
        have step := carL_take lv ns ⟨F, O, []⟩ hl1
        have hb := hlt l (List.mem_of_getElem? hl1)
        have hit := hg.1.it l (List.mem_of_getElem? hl1)
        have c5 := cnt_tk ns F.ls i
        have lps := carL_len lv ns (F.ls.take i) ⟨F, O, []⟩
        rw [List.length_take] at lps
        have lps2 : (carL lv ns ⟨F, O, []⟩ (F.ls.take i)).ps.length ≤ F.ls.length := by
          have : (⟨F, O, []⟩ : St9).ps.length = 0 := rfl
          omega
        generalize hst : carL lv ns ⟨F, O, []⟩ (F.ls.take i) = st0 at dG fG oG gi step lps2
        refine ⟨ta, _, rfl, st hta1, rfl, .int l.n, _, rfl, .int l.b, _, rfl, .ref sa, _, rfl, .int l.m, _, rfl, rfl, ?_⟩
        refine ⟨_, rfl, _, rfl, l.n, cs, _, nn, rfl, rfl, hcs1, _, rfl, ?_⟩
        by_cases c : l.n ∈ ns
        · refine itbF (by show (!decide (l.n ∈ ns)) = false; rw [decide_eq_true c]; rfl) ?_
          have gA := gd_ap1 (l := l) (by omega) gi hb.1 hb.2
          refine ⟨fun σ G => ∃ (q : Addr) (v : V) (xs : List V), σ = [some (.ref q), some v, some (.ref na), some (.bl lv), some (.ref cs), some (.ref L), some (.int l.n), some (.int l.b), some (.ref sa), some (.int l.m)] ∧ Ext L G0 G ∧ G L = some (.lst xs) ∧ DvA G xs ((ap1 st0 l).ps.map goD) ∧ FoAt C G q (ap1 st0 l).f ∧ OAt C G v (ap1 st0 l).o, ?_, ?_⟩
          · obtain ⟨f0, o0, ps0⟩ := st0
            cases o0 with
            | none =>
              obtain rfl : v' = .non := oG
              obtain ⟨dq, tlq, tgq, hq, _⟩ := id fG
              refine ⟨_, rfl, rfl, _, rfl, itbT rfl ?_⟩
              refine ⟨_, rfl, .inl ⟨rfl, _, sq hLG⟩, _, rfl, _, rfl, q', dq, _, rfl, hq, fl_no (by decide +kernel), q', f0, rfl, fG, by show 2 ≤ sizeLine; decide, fun U nU => ?_⟩
              have sU := same_new nU (o := .tup [.int l.n, .int f0.nx])
              have hU : (upd G U (.tup [.int l.n, .int f0.nx])) U = some (.tup [.int l.n, .int f0.nx]) := upd_same
              have eU := eG.trans (same_ext sU)
              have hLU := sU _ _ hLG
              have dU := dG.same sU
              have fU := fG.same sU
              have hqU := sU _ _ hq
              have hsU := sU _ _ hsa1
              have LU : U ≠ L := fun e => by rw [e, hLG] at nU; cases nU
              generalize upd G U (.tup [.int l.n, .int f0.nx]) = G1 at hU eU hLU dU fU hqU hsU
              refine ⟨L, _, _, rfl, rfl, hLU, lt2 _ (by rw [dU.len, List.length_map]; dsimp only at lps2 ⊢; omega), ?_⟩
              have e2 := eU.mut' (o := .lst (xs ++ [.ref U]))
              have kk : TK G1 (upd G1 L (.lst (xs ++ [.ref U]))) := TK.lst hLU (fun b o nb hb => by rw [upd_ne nb]; exact hb)
              have d2 : DvA (upd G1 L (.lst (xs ++ [.ref U]))) (xs ++ [.ref U]) ((ps0 ++ [(l.n, f0.nx)]).map goD) := by
                rw [List.map_append]
                exact (dU.app (.cons (.tup hU (.cons (.int _) (.cons (.int _) .nil))) .nil)).mut hLU (fun _ z => by cases z) (by rw [show ps0.map goD ++ [PyData.tuple [.int l.n, .int f0.nx]] = (ps0 ++ [(l.n, f0.nx)]).map goD by rw [List.map_append]; rfl]; exact tO_gos _)
              have f2 := fU.tk kk
              have hs2 := kk.tup hsU
              have hL2 : (upd G1 L (.lst (xs ++ [.ref U]))) L = some (.lst (xs ++ [.ref U])) := upd_same
              generalize upd G1 L (.lst (xs ++ [.ref U])) = G2 at e2 d2 f2 hs2 hL2
              obtain ⟨dq2, tlq2, tgq2, hq2, _⟩ := id f2
              have wl := gi.1.wf.len
              refine ⟨_, rfl, q', dq2, _, rfl, hq2, fl_no (by decide +kernel), _, rfl, _, rfl, q', sa, f0, l.b, l.s, rfl, f2, gi.1.wf.age, hb.1, hs2, hb.2, by dsimp only at wl; omega, fun q2 G3 s3 nq2 f3 => ?_⟩
              exact ⟨q2, .non, _, rfl, e2.trans (same_ext s3), s3 _ _ hL2, d2.same s3, f3, rfl⟩
            | some g0 =>
              obtain ⟨p2, rfl, gG⟩ := oG
              obtain ⟨dq, tlq, tgq, hq, _⟩ := id gG
              refine ⟨_, rfl, rfl, _, rfl, itbF rfl ?_⟩
              refine ⟨_, rfl, .inl ⟨rfl, _, sq hLG⟩, _, rfl, _, rfl, p2, dq, _, rfl, hq, fl_no (by decide +kernel), p2, g0, rfl, gG, by show 2 ≤ sizeLine; decide, fun U nU => ?_⟩
              have sU := same_new nU (o := .tup [.int l.n, .int g0.nx])
              have hU : (upd G U (.tup [.int l.n, .int g0.nx])) U = some (.tup [.int l.n, .int g0.nx]) := upd_same
              have eU := eG.trans (same_ext sU)
              have hLU := sU _ _ hLG
              have dU := dG.same sU
              have fU := fG.same sU
              have gU := gG.same sU
              have hsU := sU _ _ hsa1
              generalize upd G U (.tup [.int l.n, .int g0.nx]) = G1 at hU eU hLU dU fU gU hsU
              refine ⟨L, _, _, rfl, rfl, hLU, lt2 _ (by rw [dU.len, List.length_map]; dsimp only at lps2 ⊢; omega), ?_⟩
              have e2 := eU.mut' (o := .lst (xs ++ [.ref U]))
              have kk : TK G1 (upd G1 L (.lst (xs ++ [.ref U]))) := TK.lst hLU (fun b o nb hb => by rw [upd_ne nb]; exact hb)
              have d2 : DvA (upd G1 L (.lst (xs ++ [.ref U]))) (xs ++ [.ref U]) ((ps0 ++ [(l.n, g0.nx)]).map goD) := by
                rw [List.map_append]
                exact (dU.app (.cons (.tup hU (.cons (.int _) (.cons (.int _) .nil))) .nil)).mut hLU (fun _ z => by cases z) (by rw [show ps0.map goD ++ [PyData.tuple [.int l.n, .int g0.nx]] = (ps0 ++ [(l.n, g0.nx)]).map goD by rw [List.map_append]; rfl]; exact tO_gos _)
              have f2 := fU.tk kk
              have g2 := gU.tk kk
              have hs2 := kk.tup hsU
              have hL2 : (upd G1 L (.lst (xs ++ [.ref U]))) L = some (.lst (xs ++ [.ref U])) := upd_same
              generalize upd G1 L (.lst (xs ++ [.ref U])) = G2 at e2 d2 f2 g2 hs2 hL2
              obtain ⟨dq2, tlq2, tgq2, hq2, _⟩ := id g2
              have gg := gi.2 g0 rfl
              have wl := gg.wf.len
              refine ⟨_, rfl, p2, dq2, _, rfl, hq2, fl_no (by decide +kernel), _, rfl, _, rfl, p2, sa, g0, l.b, l.s, rfl, g2, gg.wf.age, hb.1, hs2, hb.2, by omega, fun q2 G3 s3 nq2 f3 => ?_⟩
              exact ⟨q', .ref q2, _, rfl, e2.trans (same_ext s3), s3 _ _ hL2, d2.same s3, f2.same s3, q2, rfl, f3⟩
          · rintro σ G1 ⟨q1, v1, xs1, rfl, e1, hL1, d1, f1', o1⟩
            refine ⟨_, rfl, _, rfl, ?_⟩
            rw [step, car1_in c]
            cases lv with
            | false =>
              exact itbF rfl ⟨q1, v1, _, _, _, _, xs1, rfl, e1, hL1, d1, f1', o1⟩
            | true =>
              refine itbT rfl ?_
              obtain ⟨dq, tlq, tgq, hq, _⟩ := id f1'
              refine ⟨_, rfl, q1, dq, _, rfl, hq, fl_no (by decide +kernel), _, rfl, by show 1 ≤ sizeLine; decide, fun U nU => ?_⟩
              have sU := same_new nU (o := .tup [.int l.n])
              have hU : (upd G1 U (.tup [.int l.n])) U = some (.tup ([l.n].map V.int)) := upd_same
              have eU := e1.trans (same_ext sU)
              have hLU := sU _ _ hL1
              have dU := d1.same sU
              have fU := f1'.same sU
              have oU := o1.same sU
              generalize upd G1 U (.tup [.int l.n]) = G2 at hU eU hLU dU fU oU
              have wl := gA.1.wf.len
              refine ⟨q1, U, _, [l.n], rfl, fU, gA.1.wf.age, ⟨.inr hU, fun n hn => by rw [List.mem_singleton.mp hn]; exact hit.1, by show 1 ≤ 1000; decide⟩, by omega, by omega, fun q2 G3 s3 nq2 f3 => ?_⟩
              exact ⟨q2, v1, _, _, _, _, xs1, rfl, eU.trans (same_ext s3), s3 _ _ hLU, dU.same s3, f3, oU.same s3⟩
        · refine itbT (by show (!decide (l.n ∈ ns)) = true; rw [decide_eq_false c]; rfl) ?_
          rw [step, car1_out c]
          exact ⟨q', v', _, _, _, _, xs, rfl, eG, hLG, dG, fG, oG⟩
    · rintro σ G ⟨q', v', v6, v7, v8, v9, xs, rfl, eG, hLG, dG, fG, oG⟩
      rw [ylen, List.take_length] at dG fG oG
      refine ⟨_, rfl, _, rfl, _, rfl, by show 3 ≤ sizeLine; decide, fun R nR => ?_⟩
      have sR := same_new nR (o := .tup [.ref q', v', .ref L])
      have sH : Same H G := fun b o hb => eG b o (fun z => by rw [z, nLH] at hb; cases hb) (s23 _ _ hb)
      exact q R _ (sH.trans sR) ⟨q', v', L, upd_same, fG.same sR, oG.same sR, .lst (sR _ _ hLG) (dG.same sR)⟩
theorem ok_cop {f : Addr} {fd : FuncData} (D_check : Def P w K mg base CX0 5 "_check_carried" nCc (spCc C)) (D_carried : Def P w K mg base CX0 7 "_carried" pCa (spCa C)) (F : Fun K "copied" "copied" sCop f fd) : FnOk P w K mg base CX0 8 f fd nCc (spCop C false) := by
  have nd := scCop.nd
  refine F.ok scCop (fun vs H Q E h => ?_) (fun cdv A outer s H vs Q E hr h => ?_)
  · obtain ⟨p, na, v, F, O, ns, k, rfl, _⟩ := h
    rfl
  · obtain ⟨p, na, v, F, O, ns, k, rfl, hF, hO, hn, hg, hk, q⟩ := h
    refine ⟨_, (pss_cons (ps_expr (pe_def D_check (hr.mono (by decide)) rfl pass0 (pa_cons (pv 0) (pa_cons (pv 1) (pa_cons (pv 2) pa_nil)))))
 (pss_one (ps_ret (pe_def D_carried (hr.mono (by decide)) rfl pass0 (pa_cons (pv 0) (pa_cons (pv 1) (pa_cons (pv 2) (pa_cons pe_bl pa_nil)))))))), ?_⟩
    refine ⟨_, rfl, _, rfl, _, rfl, p, na, v, F, O, ns, rfl, hF, hO, hn, fun H1 s1 => ?_⟩
    exact ⟨_, rfl, _, rfl, _, rfl, p, na, v, false, F, O, ns, k, rfl, hF.same s1, hO.same s1, ⟨hn.at_.same s1, hn.one, hn.len⟩, hg, hk, fun r H2 s2 hc => q r H2 (s1.trans s2) hc⟩
theorem ok_mov {f : Addr} {fd : FuncData} (D_check : Def P w K mg base CX0 5 "_check_carried" nCc (spCc C)) (D_carried : Def P w K mg base CX0 7 "_carried" pCa (spCa C)) (F : Fun K "moved" "moved" sMov f fd) : FnOk P w K mg base CX0 8 f fd nCc (spCop C true) := by
  have nd := scMov.nd
  refine F.ok scMov (fun vs H Q E h => ?_) (fun cdv A outer s H vs Q E hr h => ?_)
  · obtain ⟨p, na, v, F, O, ns, k, rfl, _⟩ := h
    rfl
  · obtain ⟨p, na, v, F, O, ns, k, rfl, hF, hO, hn, hg, hk, q⟩ := h
    refine ⟨_, (pss_cons (ps_expr (pe_def D_check (hr.mono (by decide)) rfl pass0 (pa_cons (pv 0) (pa_cons (pv 1) (pa_cons (pv 2) pa_nil)))))
 (pss_one (ps_ret (pe_def D_carried (hr.mono (by decide)) rfl pass0 (pa_cons (pv 0) (pa_cons (pv 1) (pa_cons (pv 2) (pa_cons pe_bl pa_nil)))))))), ?_⟩
    refine ⟨_, rfl, _, rfl, _, rfl, p, na, v, F, O, ns, rfl, hF, hO, hn, fun H1 s1 => ?_⟩
    exact ⟨_, rfl, _, rfl, _, rfl, p, na, v, true, F, O, ns, k, rfl, hF.same s1, hO.same s1, ⟨hn.at_.same s1, hn.one, hn.len⟩, hg, hk, fun r H2 s2 hc => q r H2 (s1.trans s2) hc⟩
end
end K1


set_option Elab.async false
set_option linter.all false
set_option maxRecDepth 100000
set_option maxHeartbeats 4000000
namespace K1
open PySem PySem.Spec PyProof.Rows L2 RZ
/-- all but p and the tables of code stay -/
def ENL (p : Addr) (H H' : Hp) : Prop := ∀ b o, b ≠ p → (∀ ps, o ≠ .tbl ps) → H b = some o → H' b = some o
theorem ENL.same {p : Addr} {H H1 H2 : Hp} (a : ENL p H H1) (s : Same H1 H2) : ENL p H H2 := fun b o n t h => s b o (a b o n t h)
theorem ENL.ext {p : Addr} {H H1 H2 : Hp} (a : ENL p H H1) (s : LamX.ExtN H1 H2) : ENL p H H2 := fun b o n t h => s b o (a b o n t h) t
theorem ENL.mut {p : Addr} {H H1 : Hp} {o : HO} (a : ENL p H H1) : ENL p H (upd H1 p o) := fun b u n t h => by rw [upd_ne n]; exact a b u n t h
theorem ENL.tk {p : Addr} {H H' : Hp} {xs : List V} (h : H p = some (.lst xs)) (a : ENL p H H') : TK H H' := fun b o hb nl nt => a b o (fun z => by rw [z, h] at hb; exact nl xs (Option.some.inj hb).symm) nt hb
theorem OAt.en {C : Addr} {H H' : Hp} {v : V} (s : LamX.ExtN H H') : ∀ {o : Option Fo}, OAt C H v o → OAt C H' v o
  | none, h => h
  | some _, ⟨p, e, h⟩ => ⟨p, e, Fo_ext h s⟩
theorem tabs_mutL {T : List (Addr × Str)} {D : Addr} {H : Hp} {xs : List V} {o : HO} (hD : H D = some (.lst xs)) (hT : LamX.Tabs T H) : LamX.Tabs T (upd H D o) := fun x hx => by
  obtain ⟨ps, h1, h2, h3⟩ := hT x hx
  refine ⟨ps, by rw [upd_ne (fun z => by rw [z, hD] at h1; cases h1)]; exact h1, h2, fun pos cv hc => ?_⟩
  obtain ⟨c', g1, g2⟩ := h3 pos cv hc
  exact ⟨c', g1, by rw [upd_ne (fun z => by rw [z, hD] at g2; cases g2)]; exact g2⟩
theorem in_int (k : Int) (ns : List Int) : inV (.int k) (ns.map V.int) = decide (k ∈ ns) := inV_ints k ns
abbrev sDu : Stmt := st__law_due
abbrev nDu : List Str := ["_law_one_here", "_law_other", "_law_numbers", "_law_is_moved", "_law_pairs", "_law_letter", "_law_target"]
abbrev pDu : List Str := ["_law_one_here", "_law_other", "_law_numbers", "_law_is_moved"]
theorem scDu : FnScope nDu pDu (defScope sDu) := ⟨rfl, rfl, rfl, by decide +kernel, rfl, by decide +kernel, by decide +kernel⟩
def spDu (C PA PT PS : Addr) : Sp := fun vs H Q _ => ∃ (p na : Addr) (v : V) (lv : Bool) (F : Fo) (O : Option Fo) (ns : List Int) (k : Nat), vs = [.ref p, v, .ref na, .bl lv] ∧ FoAt C H p F ∧ OAt C H v O ∧ H na = some (.lst (ns.map V.int)) ∧ Gd9 k ⟨F, O, []⟩ ∧ k + 2 * ns.length ≤ 800 ∧ LamX.Tabs (T3 PA PT PS) H ∧
  ∀ r H', LamX.ExtN H H' → LamX.Tabs (T3 PA PT PS) H' → CarAt C H' r (carL lv ns ⟨F, O, []⟩ F.ls) → Q (.ref r) H'
section
variable {P : Program} {w : World} {K : PySem.W.Frag} {mg : Str → Option Value} {base : Heap} {C PA PT PS : Addr}
set_option maxHeartbeats 8000000 in
theorem ok_du {f : Addr} {fd : FuncData} (T : Bk mg) (t : ClT K mg C) (M_letters : MDef P w K mg base CX0 1 C "letters" nSelf (spLetters C)) (M_next : MDef P w K mg base CX0 1 C "next_number" nSelf (spNext C)) (D_played : Def P w K mg base CX0 10 "played" pPlayed (spPlayed C PA PT PS))
    (F : Fun K "_law_due" "_law_due" sDu f fd) : FnOk P w K mg base CX0 11 f fd pDu (spDu C PA PT PS) := by
  have nd := scDu.nd
  refine F.ok scDu (fun vs H Q E h => ?_) (fun cdv A outer s H vs Q E hr h => ?_)
  · obtain ⟨p, na, v, lv, F, O, ns, k, rfl, _⟩ := h
    rfl
  · obtain ⟨p, na, v, lv, F, O, ns, k, rfl, hF, hO, hn, hg, hk, hT, q⟩ := h
    refine ⟨_, (pss_cons (ps_set (i := 4) nd rfl (Or.inl rfl) (pe_lst pa_nil))
 (pss_cons (ps_for PassesOwn.never rfl (pi_listK (K := K) rfl (pe_mdef0 M_letters t.cl (hr.mono (by decide)) pass0 (pv 0))) (pg_name (i := 5) nd rfl (Or.inl rfl))
  (pss_one (ps_if (pt_cmpR (op_in_seqK (K := K) rfl) (pe_ix (ix_tupK (K := K) rfl) (pv 5) pe_int (fun _ _ => rfl)) (pv 2) (by rfl))
  (C8.pss_cut (ps_set (i := 6) nd rfl (Or.inl rfl) (pe_ifExp (pt_cmpR op_isN (pv 1) pe_non (nomark _)) (pv 0) (pv 1)))
 (pss_cons (ps_expr (pe_bm PySem.F.plainAttrs_list PySem.F.slot_list_append PySem.F.type_list_append mt_append (pv 4) (pa_cons (pe_tup (pa_cons (pe_ix (ix_tupK (K := K) rfl) (pv 5) pe_int (fun _ _ => rfl)) (pa_cons (pe_mdef0 M_next t.cl (hr.mono (by decide)) pass0 (pv 6)) pa_nil))) pa_nil)))
 (C8.pss_cut (ps_if (pt_cmpR op_isN (pv 1) pe_non (nomark _))
  (pss_one (ps_set (i := 0) nd rfl (Or.inl rfl) (pe_def D_played (hr.mono (by decide)) rfl pass0 (pa_cons (pv 0) (pa_cons (pe_lst (pa_cons (pe_tup (pa_cons pe_str (pa_cons (pe_ix (ix_tupK (K := K) rfl) (pv 5) pe_int (fun _ _ => rfl)) (pa_cons (pe_ix (ix_tupK (K := K) rfl) (pv 5) pe_int (fun _ _ => rfl)) pa_nil)))) pa_nil)) pa_nil)))))
  (pss_one (ps_set (i := 1) nd rfl (Or.inl rfl) (pe_def D_played (hr.mono (by decide)) rfl pass0 (pa_cons (pv 1) (pa_cons (pe_lst (pa_cons (pe_tup (pa_cons pe_str (pa_cons (pe_ix (ix_tupK (K := K) rfl) (pv 5) pe_int (fun _ _ => rfl)) (pa_cons (pe_ix (ix_tupK (K := K) rfl) (pv 5) pe_int (fun _ _ => rfl)) pa_nil)))) pa_nil)) pa_nil))))))
 (pss_one (ps_set (i := 0) nd rfl (Or.inl rfl) (pe_def D_played (hr.mono (by decide)) rfl pass0 (pa_cons (pv 0) (pa_cons (pe_op op_rep (pe_lst (pa_cons (pe_tup (pa_cons pe_str (pa_cons (pe_lst (pa_cons (pe_ix (ix_tupK (K := K) rfl) (pv 5) pe_int (fun _ _ => rfl)) pa_nil)) pa_nil))) pa_nil)) (pe_callTy call_int1 (by rfl) T.int PyProof.Rows.boot_int (pa_cons (pv 3) pa_nil))) pa_nil))))))))
  pss_nil)))
 (pss_one (ps_ret (pe_tup (pa_cons (pv 0) (pa_cons (pv 1) (pa_cons (pv 4) pa_nil)))))))), ?_⟩
    refine ⟨Nat.zero_le _, fun L nL => ?_⟩
    have s2 := same_new nL (o := .lst [])
    have hL : (upd H L (.lst [])) L = some (.lst []) := upd_same
    generalize upd H L (.lst []) = H2 at s2 hL
    obtain ⟨dx, tl, tg, hp, _⟩ := id (hF.same s2)
    refine ⟨_, rfl, p, dx, _, rfl, hp, fl_no (by decide +kernel), p, F, rfl, hF.same s2, fun l0 G0 s3 nl0 hl => ?_⟩
    obtain ⟨ys, hl0, dys⟩ := Dv.lsts hl
    have s23 := s2.trans s3
    have hL0 := s3 _ _ hL
    have Ll0 : l0 ≠ L := fun e => by rw [e, hL] at nl0; cases nl0
    have hn0 := s23 _ _ hn
    have naL : na ≠ L := fun e => by rw [e, nL] at hn; cases hn
    have ylen := dys.len
    rw [List.length_map] at ylen
    have c4 : cnt ns F.ls ≤ ns.length := cnt_le hg.1.nd
    have hlt : ∀ l ∈ F.ls, 0 ≤ l.b ∧ OkSs l.s := fun l hl => ⟨(hg.1.it l hl).2.2, hg.1.wf.sg l hl⟩
    have gT := gd_carT lv ns (ls := F.ls) (k := k) (s := ⟨F, O, []⟩) (by omega) hg hlt
    have lF : F.ls.length + F.go.length ≤ k := hg.1.wf.len
    have hF1 : FoAt C G0 p F := hF.same s23
    have hO1 : OAt C G0 v O := hO.same s23
    have hT1 := hT.ext s23
    clear hp hF hO
    refine ⟨l0, rfl, ⟨_, sq hl0⟩, for_list (K := K) (a := l0) (xs := ys) (fun i σ G => ∃ (q : Addr) (v : V) (v5 v6 : Option V) (xs : List V), σ = [some (.ref q), some v, some (.ref na), some (.bl lv), some (.ref L), v5, v6] ∧ ENL L G0 G ∧ LamX.Tabs (T3 PA PT PS) G ∧ G L = some (.lst xs) ∧ DvA G xs ((carL lv ns ⟨F, O, []⟩ (F.ls.take i)).ps.map goD) ∧ FoAt C G q (carL lv ns ⟨F, O, []⟩ (F.ls.take i)).f ∧ OAt C G v (carL lv ns ⟨F, O, []⟩ (F.ls.take i)).o) ?_ ?_ ?_ ?_⟩
    · exact ⟨p, v, none, none, [], rfl, fun _ _ _ _ h => h, hT1, hL0, .nil, hF1, hO1⟩
    · rintro i σ G _ ⟨q', v', v5, v6, xs, rfl, eG, _⟩
      exact sq (eG _ _ Ll0 (fun _ z => by cases z) hl0)
    · rintro i y σ G hy ⟨q', v', v5, v6, xs, rfl, eG, tG, hLG, dG, fG, oG⟩
      obtain ⟨e, he, hde⟩ := dys.get hy
      rw [List.getElem?_map] at he
      cases hl1 : F.ls[i]? with
      | none => rw [hl1] at he; cases he
      | some l =>
        rw [hl1] at he
        obtain rfl := (Option.some.inj he).symm
        have kT := eG.tk hL0
        obtain ⟨ta, sa, rfl, hta, hsa⟩ := dv_lt hde
        have hta1 := kT.tup hta
        have hsa1 := kT.tup hsa
        have hn1 := eG _ _ naL (fun _ z => by cases z) hn0
        have gi := gT i
        have step := carL_take lv ns ⟨F, O, []⟩ hl1
        have hb := hlt l (List.mem_of_getElem? hl1)
        have hit := hg.1.it l (List.mem_of_getElem? hl1)
        have c5 := cnt_tk ns F.ls i
        have lps := carL_len lv ns (F.ls.take i) ⟨F, O, []⟩
        rw [List.length_take] at lps
        have lps2 : (carL lv ns ⟨F, O, []⟩ (F.ls.take i)).ps.length ≤ F.ls.length := by
          have : (⟨F, O, []⟩ : St9).ps.length = 0 := rfl
          omega
        generalize hst : carL lv ns ⟨F, O, []⟩ (F.ls.take i) = st0 at dG fG oG gi step lps2
        refine ⟨_, rfl, ta, _, 0, .int l.n, rfl, rfl, st hta1, atI_nat (j := 0) rfl, _, rfl, na, _, rfl, .inl (sq hn1), rfl, flat_ints ns, _, rfl, ?_⟩
        by_cases c : l.n ∈ ns
        · refine itbT (by show inV (V.int l.n) (ns.map V.int) = true; rw [in_int, decide_eq_true c]) ?_
          have gA := gd_ap1 (l := l) (by omega) gi hb.1 hb.2
          obtain ⟨f0, o0, ps0⟩ := st0
          refine ⟨fun σ G' => G' = G ∧ ∃ (tv : Addr) (g0 : Fo), σ = [some (.ref q'), some v', some (.ref na), some (.bl lv), some (.ref L), some (.ref ta), some (.ref tv)] ∧ FoAt C G tv g0 ∧ (ap1 ⟨f0, o0, ps0⟩ l).ps = ps0 ++ [(l.n, g0.nx)], ?_, ?_⟩
          · cases o0 with
            | none =>
              obtain rfl : v' = .non := oG
              exact ⟨_, rfl, rfl, _, rfl, itbT rfl ⟨_, rfl, rfl, q', f0, rfl, fG, rfl⟩⟩
            | some g0 =>
              obtain ⟨p2, rfl, gG⟩ := oG
              exact ⟨_, rfl, rfl, _, rfl, itbF rfl ⟨_, rfl, rfl, p2, g0, rfl, gG, rfl⟩⟩
          rintro σ G' ⟨hGG, tv, g0, rfl, gT0, eps⟩
          subst hGG
          obtain ⟨dq, tlq, tgq, hq, _⟩ := id gT0
          refine ⟨_, rfl, .inl ⟨rfl, _, sq hLG⟩, _, rfl, ta, _, 0, .int l.n, rfl, rfl, st hta1, atI_nat (j := 0) rfl, _, rfl, tv, dq, _, rfl, hq, fl_no (by decide +kernel), tv, g0, rfl, gT0, by show 2 ≤ sizeLine; decide, fun U nU => ?_⟩
          have sU := same_new nU (o := .tup [.int l.n, .int g0.nx])
          have hU : (upd G' U (.tup [.int l.n, .int g0.nx])) U = some (.tup [.int l.n, .int g0.nx]) := upd_same
          have eU := eG.same sU
          have tU := tG.ext sU
          have hLU := sU _ _ hLG
          have dU := dG.same sU
          have fU := fG.same sU
          have oU := oG.same sU
          generalize upd G' U (.tup [.int l.n, .int g0.nx]) = G1 at hU eU tU hLU dU fU oU
          refine ⟨L, _, _, rfl, rfl, hLU, lt2 _ (by rw [dU.len, List.length_map]; dsimp only at lps2 ⊢; omega), ?_⟩
          have e2 := eU.mut (o := .lst (xs ++ [.ref U]))
          have t2 := tabs_mutL (o := .lst (xs ++ [.ref U])) hLU tU
          have kk : TK G1 (upd G1 L (.lst (xs ++ [.ref U]))) := TK.lst hLU (fun b o nb hb => by rw [upd_ne nb]; exact hb)
          have d2 : DvA (upd G1 L (.lst (xs ++ [.ref U]))) (xs ++ [.ref U]) ((ap1 ⟨f0, o0, ps0⟩ l).ps.map goD) := by
            rw [eps, List.map_append]
            exact (dU.app (.cons (.tup hU (.cons (.int _) (.cons (.int _) .nil))) .nil)).mut hLU (fun _ z => by cases z) (by rw [show ps0.map goD ++ [PyData.tuple [.int l.n, .int g0.nx]] = (ps0 ++ [(l.n, g0.nx)]).map goD by rw [List.map_append]; rfl]; exact tO_gos _)
          have f2 := fU.tk kk
          have o2 := oU.tk kk
          have hL2 : (upd G1 L (.lst (xs ++ [.ref U]))) L = some (.lst (xs ++ [.ref U])) := upd_same
          generalize upd G1 L (.lst (xs ++ [.ref U])) = G2 at e2 t2 d2 f2 o2 hL2
          have k2 := e2.tk hL0
          have hta2 := k2.tup hta
          have hsa2 := k2.tup hsa
          refine ⟨fun σ G => ∃ (q : Addr) (v : V) (xs : List V), σ = [some (.ref q), some v, some (.ref na), some (.bl lv), some (.ref L), some (.ref ta), some (.ref tv)] ∧ ENL L G0 G ∧ LamX.Tabs (T3 PA PT PS) G ∧ G L = some (.lst xs) ∧ DvA G xs ((ap1 ⟨f0, o0, ps0⟩ l).ps.map goD) ∧ FoAt C G q (ap1 ⟨f0, o0, ps0⟩ l).f ∧ OAt C G v (ap1 ⟨f0, o0, ps0⟩ l).o, ?_, ?_⟩
          · -- the append
            cases o0 with
            | none =>
              obtain rfl : v' = .non := o2
              refine ⟨_, rfl, rfl, _, rfl, itbT rfl ?_⟩
              refine ⟨_, rfl, _, rfl, ta, _, 1, .int l.b, rfl, rfl, st hta2, atI_nat (j := 1) rfl, _, rfl, ta, _, 2, .ref sa, rfl, rfl, st hta2, atI_nat (j := 2) rfl, by show 3 ≤ sizeLine; decide, fun W nW => ⟨by show 1 ≤ sizeLine; decide, fun D nD => ?_⟩⟩
              have sW := same_new nW (o := .tup [.str "append", .int l.b, .ref sa])
              have sD := same_new nD (o := .lst [.ref W])
              have sWD := sW.trans sD
              have wq := gi.1.wf
              refine ⟨q', D, f0, [.ref W], [.app l.b l.s], _, rfl, f2.same sWD, wq, by show _ + 1 ≤ 1000; omega, upd_same, .cons ⟨sa, sD _ _ upd_same, sWD _ _ hsa2, hb.1, hb.2⟩ .nil, ⟨trivial, trivial⟩, t2.ext sWD, fun q3 G3 e3 t3 f3 => ?_⟩
              have e23 := (e2.same sWD).ext e3
              exact ⟨q3, .non, _, rfl, e23, t3, e3 _ _ (sWD _ _ hL2) (fun _ z => by cases z), (d2.same sWD).ext e3, f3, rfl⟩
            | some g1 =>
              obtain ⟨p2, rfl, gG⟩ := o2
              refine ⟨_, rfl, rfl, _, rfl, itbF rfl ?_⟩
              refine ⟨_, rfl, _, rfl, ta, _, 1, .int l.b, rfl, rfl, st hta2, atI_nat (j := 1) rfl, _, rfl, ta, _, 2, .ref sa, rfl, rfl, st hta2, atI_nat (j := 2) rfl, by show 3 ≤ sizeLine; decide, fun W nW => ⟨by show 1 ≤ sizeLine; decide, fun D nD => ?_⟩⟩
              have sW := same_new nW (o := .tup [.str "append", .int l.b, .ref sa])
              have sD := same_new nD (o := .lst [.ref W])
              have sWD := sW.trans sD
              have wq := (gi.2 g1 rfl).wf
              refine ⟨p2, D, g1, [.ref W], [.app l.b l.s], _, rfl, gG.same sWD, wq, by show _ + 1 ≤ 1000; omega, upd_same, .cons ⟨sa, sD _ _ upd_same, sWD _ _ hsa2, hb.1, hb.2⟩ .nil, ⟨trivial, trivial⟩, t2.ext sWD, fun q3 G3 e3 t3 f3 => ?_⟩
              have e23 := (e2.same sWD).ext e3
              exact ⟨q', .ref q3, _, rfl, e23, t3, e3 _ _ (sWD _ _ hL2) (fun _ z => by cases z), (d2.same sWD).ext e3, Fo_ext (f2.same sWD) e3, q3, rfl, f3⟩
          · rintro σ G3 ⟨q3, v3, xs3, rfl, e3, t3, hL3, d3, f3, o3⟩
            have hta3 := (e3.tk hL0).tup hta
            refine ⟨_, rfl, _, rfl, ta, _, 0, .int l.n, rfl, rfl, st hta3, atI_nat (j := 0) rfl, by show 1 ≤ sizeLine; decide, fun N nN => ⟨by show 2 ≤ sizeLine; decide, fun U nU => ⟨by show 1 ≤ sizeLine; decide, fun D nD => ?_⟩⟩⟩
            have s1 := same_new nN (o := .lst [.int l.n])
            have s2 := same_new nU (o := .tup [.str "remove", .ref N])
            have s3' := same_new nD (o := .lst [.ref U])
            have hN := (s2.trans s3') N _ upd_same
            have hU3 := s3' U _ upd_same
            have hD3 : (upd (upd (upd G3 N (.lst [.int l.n])) U (.tup [.str "remove", .ref N])) D (.lst [.ref U])) D = some (.lst [.ref U]) := upd_same
            have sA := (s1.trans s2).trans s3'
            generalize upd (upd (upd G3 N (.lst [.int l.n])) U (.tup [.str "remove", .ref N])) D (.lst [.ref U]) = G4 at hN hU3 hD3 sA
            have e4 := e3.same sA
            have t4 := t3.ext sA
            refine ⟨_, rfl, .inr ⟨lv, rfl, D, _, _, rfl, rfl, hD3, by cases lv <;> decide, by cases lv <;> decide, (by cases lv; exact (by decide : 1 * 0 ≤ sizeLine); exact (by decide : 1 * 1 ≤ sizeLine)), fun D2 nD2 => ?_⟩⟩
            have sB := same_new nD2 (o := .lst (List.replicate ((if lv = true then (1 : Int) else 0)).toNat [V.ref U]).flatten)
            have wl := gA.1.wf
            rw [step, car1_in c]
            refine ⟨q3, D2, (ap1 ⟨f0, o0, ps0⟩ l).f, _, if lv = true then [.rem [l.n]] else [], _, rfl, (f3.same sA).same sB, wl, by cases lv <;> (show _ + _ ≤ 1000) <;> (simp; omega), upd_same, ?_, by cases lv <;> simp [CanL, CanD], t4.ext sB, fun q5 G5 e5 t5 f5 => ?_⟩
            · cases lv with
              | false => exact .nil
              | true => exact .cons ⟨N, sB _ _ hU3, ⟨.inl (sB _ _ hN), fun n hn => by rw [List.mem_singleton.mp hn]; exact hit.1, by show 1 ≤ 1000; decide⟩⟩ .nil
            · refine ⟨q5, v3, _, _, xs3, rfl, (e4.same sB).ext e5, t5, e5 _ _ (sB _ _ (sA _ _ hL3)) (fun _ z => by cases z), ((d3.same sA).same sB).ext e5, ?_, ((o3.same sA).same sB).en e5⟩
              have : doesL (if lv = true then [.rem [l.n]] else []) (ap1 ⟨f0, o0, ps0⟩ l).f = rmv lv (ap1 ⟨f0, o0, ps0⟩ l).f l.n := by cases lv <;> rfl
              rw [this] at f5
              exact f5
        · refine itbF (by show inV (V.int l.n) (ns.map V.int) = false; rw [in_int, decide_eq_false c]) ?_
          rw [step, car1_out c]
          exact ⟨q', v', _, _, xs, rfl, eG, tG, hLG, dG, fG, oG⟩
    · rintro σ G ⟨q', v', v5, v6, xs, rfl, eG, tG, hLG, dG, fG, oG⟩
      rw [ylen, List.take_length] at dG fG oG
      refine ⟨_, rfl, _, rfl, _, rfl, by show 3 ≤ sizeLine; decide, fun R nR => ?_⟩
      have sR := same_new nR (o := .tup [.ref q', v', .ref L])
      have sH : LamX.ExtN H G := fun b o hb ht => eG b o (fun z => by rw [z, nL] at hb; cases hb) ht (s23 _ _ hb)
      exact q R _ (sH.trans (LamX.ExtN.of sR)) (tG.ext sR) ⟨q', v', L, upd_same, fG.same sR, oG.same sR, .lst (sR _ _ hLG) (dG.same sR)⟩
end
end K1


set_option Elab.async false
set_option linter.all false
set_option maxRecDepth 100000
set_option maxHeartbeats 4000000
namespace K1
open PySem PySem.Spec PyProof.Rows L2 RZ
theorem WellT.mono {H : Hp} {p : Addr} {k m : Nat} (w : WellT H p k) (h : k ≤ m) : WellT H p m := let ⟨c, a, t, e, t0, t1⟩ := w; ⟨c, a, t, e, t0, by omega⟩
theorem WellT.new {H : Hp} {p q : Addr} {k : Nat} {o : HO} (w : WellT H p k) (n : H q = none) : WellT (upd H q o) p k := w.keep fun u hu => same_new n _ _ hu
theorem WellT.sm {H H' : Hp} {p : Addr} {k : Nat} (w : WellT H p k) (s : Same H H') : WellT H' p k := w.keep fun u hu => s _ _ hu
theorem WellT.upd {H : Hp} {p q : Addr} {k : Nat} {o : HO} (w : WellT H p k) (n : q ≠ p) : WellT (L2.upd H q o) p k := let ⟨c, a, t, e, z⟩ := w; ⟨c, a, t, by rw [upd_ne n.symm]; exact e, z⟩
theorem WellT.ne {H : Hp} {p q : Addr} {k : Nat} (w : WellT H p k) (n : H q = none) : q ≠ p := w.at.ne n
def names9 : List Str := ["a", "answered", "b", "c", "d", "seen", "yy", "z"]
theorem asc9 : Asc names9 := by unfold Asc ltS; decide +kernel
theorem ok9 : ∀ x ∈ names9, okS x = true := by
  intro x hx
  rcases (show x = "a" ∨ x = "answered" ∨ x = "b" ∨ x = "c" ∨ x = "d" ∨ x = "seen" ∨ x = "yy" ∨ x = "z" by simpa [names9] using hx) with rfl | rfl | rfl | rfl | rfl | rfl | rfl | rfl <;> decide +kernel
theorem sorted_asc {ss ys : List Str} (ha : Asc ss) (hp : ys.Perm ss) (h : sortedS ys = true) : ys = ss := by
  refine List.Perm.eq_of_pairwise (le := fun a b => decide (¬ ltS b a)) (fun a b _ _ x y => ?_) ?_ ?_ hp
  · exact ltS_total (of_decide_eq_true y) (of_decide_eq_true x)
  · exact (sorted_pw h).imp fun k => decide_eq_true k
  · exact ha.imp fun k => decide_eq_true (ltS_asymm k)
theorem okSs9 {ss : List Str} (h : List.Sublist ss names9) : OkSs (ss.take 6) :=
  ⟨by rw [List.length_take]; omega, fun x hx => ok9 x (h.subset (List.mem_of_mem_take hx)), (List.Pairwise.sublist ((List.take_sublist 6 ss).trans h) asc9)⟩
abbrev sSo : Stmt := st__law_some
abbrev nSo : List Str := ["_law_well_here", "_law_names", "_law_name"]
abbrev pSo : List Str := ["_law_well_here"]
theorem scSo : FnScope nSo pSo (defScope sSo) := ⟨rfl, rfl, rfl, by decide +kernel, rfl, by decide +kernel, by decide +kernel⟩
def spSo : Sp := fun vs H Q _ => ∃ (p : Addr) (k : Nat), vs = [.ref p] ∧ WellT H p k ∧ k ≤ 90000 ∧ ∀ a ss H', Ext p H H' → WellT H' p (k + 8) → H' a = some (.tup (ss.map V.str)) → OkSs ss → Q (.ref a) H'
theorem go_heap {H2 : Hp} {P : Hp → Prop} (e : H2 = H2) (h : ∀ G, H2 = G → P G) : P H2 := h _ rfl
theorem sl_listK {X : Cx} {K : PySem.W.Frag} (h : X.K = K) : SlR X (rSlL K) := by subst h; exact sl_list
section
variable {P : Program} {w : World} {K : PySem.W.Frag} {mg : Str → Option Value} {base : Heap}
set_option maxHeartbeats 8000000 in
theorem ok_so {f : Addr} {fd : FuncData} (T : Bk mg) (D_draw : Def P w K mg base CX0 1 "_law_draw" pDraw spDraw) (F : Fun K "_law_some" "_law_some" sSo f fd) : FnOk P w K mg base CX0 2 f fd pSo spSo := by
  have nd := scSo.nd
  refine F.ok scSo (fun vs H Q E h => ?_) (fun cdv A outer s H vs Q E hr h => ?_)
  · obtain ⟨p, k, rfl, _⟩ := h
    rfl
  · obtain ⟨p, k, rfl, hw, hk, q⟩ := h
    refine ⟨_, (pss_cons (ps_set (i := 1) nd rfl (Or.inl rfl) (pe_lst (pa_cons pe_str (pa_cons pe_str (pa_cons pe_str (pa_cons pe_str (pa_cons pe_str (pa_cons pe_str (pa_cons pe_str (pa_cons pe_str pa_nil))))))))))
 (pss_one (ps_ret (pe_callTy (call_tuple_ofK (K := K) rfl) (by rfl) T.tuple PyProof.Rows.boot_tuple (pa_cons (pe_slice (sl_listK (K := K) rfl) (pe_callB (cr_sortedSK (K := K) rfl) (by rfl) T.sorted PyProof.Rows.boot_sorted (pa_cons (pe_lc (own := [("_law_name", 2)]) (g := gName 2) rfl nd (pi_listK (K := K) rfl (pv 1)) (blkOk_by (own := [("_law_name", 2)]) (N := nSo) (sc := defScope sSo) (by decide +kernel)) (fun _ _ _ _ _ => pg_name (i := 2) nd rfl (Or.inl rfl)) (fun _ _ _ _ _ => pts_one (pt_cmpR op_eq (pe_def D_draw (hr.mono (by decide)) rfl pass0 (pa_cons (pv 0) (pa_cons pe_int pa_nil))) pe_int (nomark _))) (fun _ _ _ _ _ => (pv 2))) pa_nil)) po_none (po_some pe_int)) pa_nil))))), ?_⟩
    refine ⟨lt1 _ (by show 8 ≤ 100000; decide), fun N nN => ?_⟩
    have s1 := same_new nN (o := .lst (names9.map V.str))
    have hN : (upd H N (.lst (names9.map V.str))) N = some (.lst (names9.map V.str)) := upd_same
    have Np := hw.ne nN
    have w1 := hw.sm s1
    refine go_heap (H2 := upd H N (.lst (names9.map V.str))) rfl fun G hG => ?_
    rw [hG] at s1 hN w1
    refine ⟨_, rfl, N, rfl, ⟨_, sq hN⟩, fun D hD => ?_⟩
    have Dp : D ≠ p := w1.ne hD
    have nDH : H D = none := s1.free hD
    refine lc_it (walk_list (K := K) (a := N) (xs := names9.map V.str)) (fun i G2 => Ext p G G2 ∧ WellT G2 p (k + i) ∧ ∃ ss : List Str, G2 D = some (.lst (ss.map V.str)) ∧ List.Sublist ss (names9.take i)) ⟨same_ext (same_new hD), w1.new hD, [], upd_same, by simp⟩ (fun i G2 _ h => sq (h.1 _ _ Np hN)) ?_ ?_
    · rintro i x G2 G3 hi ⟨e2, w2, ss, hD2, hs⟩ ⟨rfl, hx⟩
      have hi8 : i < 8 := hi
      rw [List.getElem?_map] at hx
      cases hz : names9[i]? with
      | none => rw [hz] at hx; cases hx
      | some z =>
        rw [hz] at hx
        obtain rfl := (Option.some.inj hx).symm
        have tk : names9.take (i + 1) = names9.take i ++ [z] := by rw [List.take_add_one, hz]; rfl
        refine ⟨rfl, _, rfl, p, 3, k + i, rfl, w2, by omega, by decide, by decide, fun d G4 d0 d2 e4 w4 => ⟨rfl, _, rfl, ?_⟩⟩
        have hD4 := e4 _ _ Dp hD2
        have ls : ss.length ≤ 8 := by
          have h1 := hs.length_le
          rw [List.length_take] at h1
          exact Nat.le_trans h1 (Nat.le_trans (Nat.min_le_right _ _) (by decide))
        by_cases c : d = 0
        · refine itbT (by simp [c]) ⟨_, rfl, _, hD4, lt2 _ (by rw [List.length_map]; omega), (e2.trans e4).mut hD, w4.upd Dp, ss ++ [z], by rw [upd_same, List.map_append]; rfl, ?_⟩
          rw [tk]
          exact hs.append (List.Sublist.refl [z])
        · refine itbF (by simp [c]) ⟨e2.trans e4, w4, ss, hD4, ?_⟩
          rw [tk]
          exact hs.trans (List.sublist_append_left _ _)
    · rintro G2 ⟨e2, w2, ss, hD2, hs⟩
      rw [List.length_map, List.take_length] at hs
      have ls : ss.length ≤ 8 := hs.length_le
      refine ⟨D, ss, rfl, sq hD2, by omega, fun ys p2 hp hsr np2 => ?_⟩
      obtain rfl := sorted_asc (List.Pairwise.sublist hs asc9) hp hsr
      have s3 := same_new (o := .lst (ys.map V.str)) np2
      have w3 := w2.sm s3
      refine ⟨6, rfl, p2, _, rfl, sq upd_same, fun p3 np3 => ?_⟩
      have ec : cutV (ys.map V.str) none (some 6) = (ys.take 6).map V.str := by
        unfold cutV
        have c1 : HT.sIx (ys.map V.str).length 0 none = 0 := rfl
        have c2 : HT.sIx (ys.map V.str).length (ys.map V.str).length (some 6) = min 6 ys.length := by
          have := HT.sIx_nat (ys.map V.str).length (ys.map V.str).length 6
          rw [List.length_map] at this ⊢
          exact this
        rw [c1, c2, List.drop_zero, Nat.sub_zero, List.map_take]
        by_cases h : 6 ≤ ys.length
        · rw [Nat.min_eq_left h]
        · rw [Nat.min_eq_right (by omega), List.take_of_length_le (by rw [List.length_map]; omega), List.take_of_length_le (by rw [List.length_map]; omega)]
      rw [ec]
      have s4 := s3.new np3 (o := .lst ((ys.take 6).map V.str))
      refine ⟨p3, _, rfl, .inl ⟨sq upd_same, fun l nl => ?_⟩⟩
      have s5 := s4.new nl (o := .tup ((ys.take 6).map V.str))
      exact q l _ _ (((same_ext s1).trans e2).trans (same_ext s5)) (w2.sm s5) upd_same (okSs9 hs)
end
end K1


set_option Elab.async false
set_option linter.all false
set_option maxRecDepth 100000
set_option maxHeartbeats 4000000
namespace K1
open PySem PySem.Spec PyProof.Rows L2 RZ
abbrev sDe : Stmt := st__law_deed
abbrev nDe : List Str := ["_law_well_here", "_law_folder", "_law_way", "_law_top", "_law_numbers", "_law_k"]
abbrev pDe : List Str := ["_law_well_here", "_law_folder"]
theorem scDe : FnScope nDe pDe (defScope sDe) := ⟨rfl, rfl, rfl, by decide +kernel, rfl, by decide +kernel, by decide +kernel⟩
def spDe (C : Addr) : Sp := fun vs H Q _ => ∃ (p x : Addr) (F : Fo) (j k : Nat), vs = [.ref p, .ref x] ∧ WellT H p k ∧ k ≤ 80000 ∧ FoAt C H x F ∧ Gd j F ∧ j ≤ 900 ∧ ∀ a d H', Ext p H H' → WellT H' p (k + 20) → DdAt H' a d → CanD F d → Q (.ref a) H'
theorem foat_well {C p x : Addr} {H H' : Hp} {F : Fo} {k : Nat} (h : FoAt C H x F) (w : WellT H p k) (e : Ext p H H') : FoAt C H' x F := h.tk (TK.ext w.at e)
theorem NumsAt.ext9 {p a : Addr} {H H' : Hp} {ns : List Int} (h : NumsAt H a ns) (n : a ≠ p) (e : Ext p H H') : NumsAt H' a ns := ⟨h.at_.imp (fun z => e _ _ n z) (fun z => e _ _ n z), h.one, h.len⟩
theorem tup_wt {p a : Addr} {H H' : Hp} {xs : List V} {k : Nat} (w : WellT H p k) (e : Ext p H H') (h : H a = some (.tup xs)) : H' a = some (.tup xs) := (TK.ext w.at e).tup h
section
variable {P : Program} {w : World} {K : PySem.W.Frag} {mg : Str → Option Value} {base : Heap} {C : Addr}
set_option maxHeartbeats 16000000 in
theorem ok_de {f : Addr} {fd : FuncData} (T : Bk mg) (t : ClT K mg C) (M_next : MDef P w K mg base CX0 1 C "next_number" nSelf (spNext C)) (M_mark : MDef P w K mg base CX0 1 C "mark" nSelf (spMark C)) (D_draw : Def P w K mg base CX0 1 "_law_draw" pDraw spDraw) (D_one : Def P w K mg base CX0 2 "_law_one" nOne spOne) (D_some : Def P w K mg base CX0 2 "_law_some" pSo spSo)
    (F : Fun K "_law_deed" "_law_deed" sDe f fd) : FnOk P w K mg base CX0 3 f fd pDe (spDe C) := by
  have nd := scDe.nd
  refine F.ok scDe (fun vs H Q E h => ?_) (fun cdv A outer s H vs Q E hr h => ?_)
  · obtain ⟨p, x, F, j, k, rfl, _⟩ := h
    rfl
  · obtain ⟨p, x, F, j, k, rfl, hw, hk, hF, gd, hj, q⟩ := h
    refine ⟨_, (C8.pss_cut (ps_asg (pe_tup (pa_cons (pe_def D_draw (hr.mono (by decide)) rfl pass0 (pa_cons (pv 0) (pa_cons pe_int pa_nil))) (pa_cons (pe_mdef0 M_next t.cl (hr.mono (by decide)) pass0 (pv 1)) pa_nil))) (pg_tup rfl (pgs_cons (pg_name (i := 2) nd rfl (Or.inl rfl)) (pgs_cons (pg_name (i := 3) nd rfl (Or.inr rfl)) pgs_nil))))
 (C8.pss_cut (ps_setLc (i := 4) (own := [("_law_k", 5)]) (g := gName 5) (tt := tYes) rfl nd rfl rfl (sw_true rfl rfl rfl (by decide +kernel)) (pi_range1 rfl T.range (pa_cons (pe_def D_draw (hr.mono (by decide)) rfl pass0 (pa_cons (pv 0) (pa_cons pe_int pa_nil))) pa_nil)) (blkOk_by (own := [("_law_k", 5)]) (N := nDe) (sc := defScope sDe) (by decide +kernel)) (fun _ _ _ _ _ => pg_name (i := 5) nd rfl (Or.inl rfl)) (fun _ _ _ _ _ => pts_nil) (fun _ _ _ _ _ => (pe_op op_add pe_int (pe_def D_draw (hr.mono (by decide)) rfl pass0 (pa_cons (pv 0) (pa_cons (pv 3) pa_nil))))))
 (C8.pss_cut (ps_set (i := 4) nd rfl (Or.inl rfl) (pe_ifExp (pt_cmpR op_eq (pe_def D_draw (hr.mono (by decide)) rfl pass0 (pa_cons (pv 0) (pa_cons pe_int pa_nil))) pe_int (nomark _)) (pe_callTy (call_tuple_ofK (K := K) rfl) (by rfl) T.tuple PyProof.Rows.boot_tuple (pa_cons (pv 4) pa_nil)) (pv 4)))
 (pss_cons (ps_if (pt_cmpR op_lt (pv 2) pe_int (nomark _))
  (pss_one (ps_ret (pe_tup (pa_cons pe_str (pa_cons (pe_def D_draw (hr.mono (by decide)) rfl pass0 (pa_cons (pv 0) (pa_cons pe_int pa_nil))) (pa_cons (pe_def D_some (hr.mono (by decide)) rfl pass0 (pa_cons (pv 0) pa_nil)) pa_nil))))))
  pss_nil)
 (pss_cons (ps_if (pt_cmpR op_eq (pv 2) pe_int (nomark _))
  (pss_one (ps_ret (pe_tup (pa_cons pe_str (pa_cons (pv 4) pa_nil)))))
  pss_nil)
 (pss_cons (ps_if (pt_cmpR op_eq (pv 2) pe_int (nomark _))
  (pss_one (ps_ret (pe_tup (pa_cons pe_str (pa_cons (pv 4) (pa_cons (pe_def D_some (hr.mono (by decide)) rfl pass0 (pa_cons (pv 0) pa_nil)) pa_nil))))))
  pss_nil)
 (pss_cons (ps_if (pt_cmpR op_eq (pv 2) pe_int (nomark _))
  (pss_one (ps_ret (pe_tup (pa_cons pe_str (pa_cons (pe_def D_draw (hr.mono (by decide)) rfl pass0 (pa_cons (pv 0) (pa_cons (pe_op op_add (pe_mdef0 M_mark t.cl (hr.mono (by decide)) pass0 (pv 1)) pe_int) pa_nil))) pa_nil)))))
  pss_nil)
 (pss_one (ps_ret (pe_tup (pa_cons (pe_def D_one (hr.mono (by decide)) rfl pass0 (pa_cons (pv 0) (pa_cons (pe_lst (pa_cons pe_str (pa_cons pe_str pa_nil))) pa_nil))) (pa_cons (pv 4) (pa_cons (pe_def D_one (hr.mono (by decide)) rfl pass0 (pa_cons (pv 0) (pa_cons (pe_lst (pa_cons pe_str (pa_cons pe_str (pa_cons pe_str (pa_cons pe_str (pa_cons pe_str pa_nil)))))) pa_nil))) pa_nil))))))))))))), ?_⟩
    have gnx := gd.nx
    have gmr := gd.mr
    refine ⟨fun σ G => ∃ d : Int, σ = [some (.ref p), some (.ref x), some (.int d), some (.int F.nx), none, none] ∧ 0 ≤ d ∧ d < 9 ∧ Ext p H G ∧ WellT G p (k + 1) ∧ FoAt C G x F, ?_, ?_⟩
    · refine ⟨_, rfl, p, 9, k, rfl, hw, by omega, by decide, by decide, fun d H1 d0 d9 e1 w1 => ?_⟩
      have hF1 := foat_well hF hw e1
      obtain ⟨dx, tl, tg, hx, _⟩ := id hF1
      refine ⟨_, rfl, x, dx, _, rfl, hx, fl_no (by decide +kernel), x, F, rfl, hF1, by show 2 ≤ sizeLine; decide, fun U nU => ?_⟩
      have sU := same_new nU (o := .tup [.int d, .int F.nx])
      exact ⟨U, _, rfl, st upd_same, rfl, .int d, _, rfl, .int F.nx, _, rfl, rfl, d, rfl, d0, d9, e1.trans (same_ext sU), w1.sm sU, hF1.same sU⟩
    rintro σ G ⟨d, rfl, d0, d9, e1, w1, hF1⟩
    refine ⟨fun σ G2 => ∃ (D : Addr) (ns : List Int), σ = [some (.ref p), some (.ref x), some (.int d), some (.int F.nx), some (.ref D), none] ∧ Ext p G G2 ∧ WellT G2 p (k + 6) ∧ G2 D = some (.lst (ns.map V.int)) ∧ D ≠ p ∧ (∀ n ∈ ns, 1 ≤ n) ∧ ns.length ≤ 4, ?_, ?_⟩
    · refine ⟨_, rfl, p, 5, k + 1, rfl, w1, by omega, by decide, by decide, fun m H2 m0 m5 e2 w2 => ?_⟩
      refine ⟨_, rfl, by omega, by omega, fun D nD => ?_⟩
      have Dp := w2.ne nD
      have hmn : m.toNat ≤ 4 := by omega
      refine lc_it walk_range (fun i G2 => ∃ ns : List Int, Ext p G G2 ∧ Ext p H2 G2 ∧ WellT G2 p (k + 2 + i) ∧ G2 D = some (.lst (ns.map V.int)) ∧ (∀ n ∈ ns, 1 ≤ n) ∧ ns.length = i) ⟨[], e2.trans (same_ext (same_new nD)), same_ext (same_new nD), w2.new nD, upd_same, fun n hn => (by cases hn), rfl⟩ (fun _ _ _ _ => trivial) ?_ ?_
      · rintro i y G2 G3 hi ⟨ns, eG, e3, w3, hD, h1, hl⟩ ⟨rfl, rfl⟩
        have hi4 : i < m.toNat := hi
        refine ⟨rfl, tyes ⟨_, rfl, _, rfl, p, F.nx, k + 2 + i, rfl, w3, by omega, by omega, by omega, fun c G4 c0 c1 e4 w4 => ⟨_, _, rfl, rfl, ?_⟩⟩⟩
        have hD4 := e4 _ _ Dp hD
        have nDG : G D = none := e2.free nD Dp
        refine ⟨_, hD4, lt2 _ (by rw [List.length_map]; omega), ns ++ [1 + c], (eG.trans e4).mut nDG, (e3.trans e4).mut nD, (w4.upd Dp).mono (by omega), by rw [upd_same, List.map_append]; rfl, fun n hn => ?_, by rw [List.length_append, hl]; rfl⟩
        rcases List.mem_append.mp hn with z | z
        · exact h1 n z
        · rw [List.mem_singleton.mp z]; omega
      · rintro G2 ⟨ns, eG, e3, w3, hD, h1, hl⟩
        have hl4 : ns.length = m.toNat := hl
        exact ⟨D, ns, rfl, eG, w3.mono (by omega), hD, Dp, h1, by omega⟩
    rintro σ G2 ⟨D, ns, rfl, e2, w2, hD, Dp, h1, hl⟩
    refine ⟨fun σ G3 => ∃ (na : Addr), σ = [some (.ref p), some (.ref x), some (.int d), some (.int F.nx), some (.ref na), none] ∧ Ext p G2 G3 ∧ WellT G3 p (k + 7) ∧ NumsAt G3 na ns ∧ na ≠ p, ?_, ?_⟩
    · refine ⟨_, rfl, p, 2, k + 6, rfl, w2, by omega, by decide, by decide, fun m H2 m0 m2 e3 w3 => ⟨rfl, _, rfl, ?_⟩⟩
      have hD3 := e3 _ _ Dp hD
      by_cases c : m = 0
      · refine itbT (by simp [c]) ⟨_, rfl, D, _, rfl, .inl ⟨sq hD3, fun l nl => ⟨l, rfl, e3.trans (same_ext (same_new nl)), w3.new nl, ⟨.inr upd_same, h1, by omega⟩, w3.ne nl⟩⟩⟩
      · exact itbF (by simp [c]) ⟨_, rfl, D, rfl, e3, w3, ⟨.inl hD3, h1, by omega⟩, Dp⟩
    rintro σ G3 ⟨na, rfl, e3, w3, hn, nap⟩
    have eA := (e1.trans e2).trans e3
    have hF3 := foat_well (foat_well hF1 w1 e2) w2 e3
    refine ⟨_, rfl, _, _, rfl, rfl, _, rfl, ?_⟩
    by_cases c1 : d < 3
    · refine itbT (decide_eq_true c1) ?_
      refine ⟨_, rfl, p, 4, k + 7, rfl, w3, by omega, by decide, by decide, fun b G4 b0 b4 e4 w4 => ?_⟩
      refine ⟨_, rfl, p, k + 8, rfl, w4, by omega, fun sa ss G5 e5 w5 hs ok => ⟨by show 3 ≤ sizeLine; decide, fun R nR => ?_⟩⟩
      have sR := same_new nR (o := .tup [.str "append", .int b, .ref sa])
      exact q R (.app b ss) _ (((eA.trans e4).trans e5).trans (same_ext sR)) ((w5.sm sR).mono (by omega)) ⟨sa, upd_same, sR _ _ hs, b0, ok⟩ trivial
    refine itbF (decide_eq_false c1) ⟨_, rfl, rfl, _, rfl, ?_⟩
    by_cases c2 : d = 3
    · refine itbT (by simp [c2]) ?_
      refine ⟨_, rfl, by show 2 ≤ sizeLine; decide, fun R nR => ?_⟩
      have sR := same_new nR (o := .tup [.str "remove", .ref na])
      exact q R (.rem ns) _ (eA.trans (same_ext sR)) ((w3.sm sR).mono (by omega)) ⟨na, upd_same, hn.ext9 nap (same_ext sR)⟩ trivial
    refine itbF (by simp [c2]) ⟨_, rfl, rfl, _, rfl, ?_⟩
    by_cases c3 : d = 4
    · refine itbT (by simp [c3]) ?_
      refine ⟨_, rfl, _, rfl, p, k + 7, rfl, w3, by omega, fun sa ss G5 e5 w5 hs ok => ⟨by show 3 ≤ sizeLine; decide, fun R nR => ?_⟩⟩
      have sR := same_new nR (o := .tup [.str "set", .ref na, .ref sa])
      exact q R (.set ns ss) _ ((eA.trans e5).trans (same_ext sR)) ((w5.sm sR).mono (by omega)) ⟨na, sa, upd_same, (hn.ext9 nap e5).ext9 nap (same_ext sR), sR _ _ hs, ok⟩ trivial
    refine itbF (by simp [c3]) ⟨_, rfl, rfl, _, rfl, ?_⟩
    by_cases c4 : d = 5
    · refine itbT (by simp [c4]) ?_
      obtain ⟨dx, tl, tg, hx, _⟩ := id hF3
      refine ⟨_, rfl, _, rfl, x, dx, _, rfl, hx, fl_no (by decide +kernel), x, F, rfl, hF3, _, _, rfl, rfl, p, F.mr + 1, k + 7, rfl, w3, by omega, by omega, by omega, fun m G4 m0 m1 e4 w4 => ⟨by show 2 ≤ sizeLine; decide, fun R nR => ?_⟩⟩
      have sR := same_new nR (o := .tup [.str "trim", .int m])
      exact q R (.trim m) _ ((eA.trans e4).trans (same_ext sR)) ((w4.sm sR).mono (by omega)) ⟨upd_same, m0⟩ (show m ≤ F.mr by omega)
    refine itbF (by simp [c4]) ?_
    refine ⟨_, rfl, by show 2 ≤ sizeLine; decide, fun L1 nL1 => ?_⟩
    have s1 := same_new nL1 (o := .lst [.str "add", .str "take"])
    have L1p := w3.ne nL1
    refine ⟨p, L1, _, k + 7, rfl, w3.sm s1, by omega, upd_same, by show 0 < 2; decide, by show 2 < 1073741824; decide, L1p, fun i y G4 hy e4 w4 => ?_⟩
    have hn4 := (hn.ext9 nap (same_ext s1)).ext9 nap e4
    have eB := (eA.trans (same_ext s1)).trans e4
    refine ⟨_, rfl, _, rfl, by show 5 ≤ sizeLine; decide, fun L2 nL2 => ?_⟩
    have s2 := same_new nL2 (o := .lst [.str "a", .str "answered", .str "c", .str "h", .str "z"])
    have L2p := w4.ne nL2
    refine ⟨p, L2, _, k + 8, rfl, w4.sm s2, by omega, upd_same, by show 0 < 5; decide, by show 5 < 1073741824; decide, L2p, fun i2 y2 G5 hy2 e5 w5 => ⟨by show 3 ≤ sizeLine; decide, fun R nR => ?_⟩⟩
    have hn5 := (hn4.ext9 nap (same_ext s2)).ext9 nap e5
    have sR := same_new nR (o := .tup [y, .ref na, y2])
    have eC := ((eB.trans (same_ext s2)).trans e5).trans (same_ext sR)
    have w6 := (w5.sm sR).mono (show k + 8 + 1 ≤ k + 20 by omega)
    have hn6 := hn5.ext9 nap (same_ext sR)
    have hz : ∃ z : Str, y2 = .str z ∧ okS z = true := by
      have hm := List.mem_of_getElem? hy2
      rcases (show y2 = .str "a" ∨ y2 = .str "answered" ∨ y2 = .str "c" ∨ y2 = .str "h" ∨ y2 = .str "z" by simpa using hm) with rfl | rfl | rfl | rfl | rfl <;> exact ⟨_, rfl, by decide +kernel⟩
    obtain ⟨z, rfl, okz⟩ := hz
    have hm := List.mem_of_getElem? hy
    rcases (show y = .str "add" ∨ y = .str "take" by simpa using hm) with rfl | rfl
    · exact q R (.add ns z) _ eC w6 ⟨na, upd_same, hn6, okz⟩ trivial
    · exact q R (.take ns z) _ eC w6 ⟨na, upd_same, hn6, okz⟩ trivial
end
end K1


set_option Elab.async false
set_option linter.all false
set_option maxRecDepth 100000
set_option maxHeartbeats 4000000
namespace K1
open PySem PySem.Spec PyProof.Rows L2 RZ
abbrev sBu : Stmt := st__law_built
abbrev nBu : List Str := ["_law_well_here", "_law_age", "_law_folder", "_law_k"]
abbrev pBu : List Str := ["_law_well_here", "_law_age"]
theorem scBu : FnScope nBu pBu (defScope sBu) := ⟨rfl, rfl, rfl, by decide +kernel, rfl, by decide +kernel, by decide +kernel⟩
theorem tabs_wt {T : List (Addr × Str)} {G G' : Hp} {W : Addr} {k : Nat} (t : LamX.Tabs T G) (w : WellT G W k) (e : Ext W G G') : LamX.Tabs T G' := fun p hp => by
  obtain ⟨c, m, tt, hw, _⟩ := w
  obtain ⟨ps, h1, h2, h3⟩ := t p hp
  refine ⟨ps, e _ _ (fun z => by rw [z, hw] at h1; cases h1) h1, h2, fun pos cv h => ?_⟩
  obtain ⟨cc, e1, e2⟩ := h3 pos cv h
  exact ⟨cc, e1, e _ _ (fun z => by rw [z, hw] at e2; cases e2) e2⟩
theorem WellT.en {H H' : Hp} {p : Addr} {k : Nat} (w : WellT H p k) (s : LamX.ExtN H H') : WellT H' p k := w.keep fun u hu => by
  obtain ⟨c, m, t, e, _⟩ := w
  rw [e] at hu
  cases hu
  exact s _ _ e fun _ z => by cases z
theorem ENL.wt {p : Addr} {H H1 H2 : Hp} (a : ENL p H H1) (s : Ext p H1 H2) : ENL p H H2 := fun b o n t h => s b o n (a b o n t h)
theorem ENL.refl {p : Addr} {H : Hp} : ENL p H H := fun _ _ _ _ h => h
def spBu (C PA PT PS : Addr) : Sp := fun vs H Q _ => ∃ (p : Addr) (age : Int) (k : Nat), vs = [.ref p, .int age] ∧ 1 ≤ age ∧ WellT H p k ∧ k ≤ 50000 ∧ LamX.Tabs (T3 PA PT PS) H ∧
  ∀ x F H', ENL p H H' → WellT H' p (k + 200) → LamX.Tabs (T3 PA PT PS) H' → FoAt C H' x F → Gd 8 F → Q (.ref x) H'
section
variable {P : Program} {w : World} {K : PySem.W.Frag} {mg : Str → Option Value} {base : Heap} {C PA PT PS : Addr}
set_option maxHeartbeats 8000000 in
theorem ok_bu {f : Addr} {fd : FuncData} (T : Bk mg) (t : ClT K mg C) (D_new : MkD P w K mg base C) (D_draw : Def P w K mg base CX0 1 "_law_draw" pDraw spDraw) (D_deed : Def P w K mg base CX0 3 "_law_deed" pDe (spDe C)) (D_played : Def P w K mg base CX0 10 "played" pPlayed (spPlayed C PA PT PS))
    (F : Fun K "_law_built" "_law_built" sBu f fd) : FnOk P w K mg base CX0 11 f fd pBu (spBu C PA PT PS) := by
  have nd := scBu.nd
  refine F.ok scBu (fun vs H Q E h => ?_) (fun cdv A outer s H vs Q E hr h => ?_)
  · obtain ⟨p, age, k, rfl, _⟩ := h
    rfl
  · obtain ⟨p, age, k, rfl, ha, hw, hk, hT, q⟩ := h
    refine ⟨_, (pss_cons (ps_set (i := 2) nd rfl (Or.inl rfl) (pe_new D_new t.gC (hr.mono (by decide)) rfl (pa_cons (pv 1) pa_nil)))
 (pss_cons (ps_for PassesOwn.never rfl (pi_range1 rfl T.range (pa_cons (pe_def D_draw (hr.mono (by decide)) rfl pass0 (pa_cons (pv 0) (pa_cons pe_int pa_nil))) pa_nil)) (pg_name (i := 3) nd rfl (Or.inl rfl))
  (pss_one (ps_set (i := 2) nd rfl (Or.inl rfl) (pe_def D_played (hr.mono (by decide)) rfl pass0 (pa_cons (pv 2) (pa_cons (pe_lst (pa_cons (pe_def D_deed (hr.mono (by decide)) rfl pass0 (pa_cons (pv 0) (pa_cons (pv 2) pa_nil))) pa_nil)) pa_nil))))))
 (pss_one (ps_ret (pv 2))))), ?_⟩
    refine ⟨_, rfl, fun x dx nx ndx nxd => ?_⟩
    refine ⟨x, dx, age, rfl, upd_same, ha, fun G tl tg k0 hx htl htg => ⟨rfl, ?_⟩⟩
    have sG : Same H G := fun b o hb => k0 b o (fun e => by rw [e, nx] at hb; cases hb) (by
      rw [upd_ne (fun e => by rw [e, nx] at hb; cases hb), upd_ne (fun e => by rw [e, ndx] at hb; cases hb)]; exact hb)
    have hF0 : FoAt C G x (fNew age) := ⟨dx, tl, tg, hx, .tup htl .nil, .tup htg .nil⟩
    refine ⟨_, rfl, p, 9, k, rfl, hw.sm sG, by omega, by decide, by decide, fun m H2 m0 m9 e2 w2 => ?_⟩
    have hF2 := foat_well hF0 (hw.sm sG) e2
    have t2 := tabs_wt (hT.ext sG) (hw.sm sG) e2
    have E2 : ENL p H H2 := (ENL.refl.same sG).wt e2
    refine ⟨_, rfl, by omega, by omega, for_range (lo := 0) (n := m.toNat) (fun i σ G => ∃ (y : Addr) (v3 : Option V) (F' : Fo), σ = [some (.ref p), some (.int age), some (.ref y), v3] ∧ ENL p H G ∧ WellT G p (k + 1 + 20 * i) ∧ LamX.Tabs (T3 PA PT PS) G ∧ FoAt C G y F' ∧ Gd i F') ?_ ?_ ?_⟩
    · exact ⟨x, none, _, rfl, E2, w2.mono (by omega), t2, hF2, gd_new ha⟩
    · rintro i σ G3 hi ⟨y, v3, F', rfl, e3, w3, t3, f3, g3⟩
      have hi8 : i < m.toNat := hi
      refine ⟨_, rfl, _, rfl, _, rfl, p, y, F', i, k + 1 + 20 * i, rfl, w3, by omega, f3, g3, by omega, fun a d G4 e4 w4 hd cd => ⟨by show 1 ≤ sizeLine; decide, fun D nD => ?_⟩⟩
      have sD := same_new nD (o := .lst [.ref a])
      have wf := g3.wf
      refine ⟨y, D, F', [.ref a], [d], i, rfl, (foat_well f3 w3 e4).same sD, wf, by show i + 1 ≤ 1000; omega, upd_same, .cons (hd.same sD) .nil, ⟨cd, trivial⟩, (tabs_wt t3 w3 e4).ext sD, fun z G5 e5 t5 f5 => ?_⟩
      exact ⟨z, _, does d F', rfl, ((e3.wt e4).same sD).ext e5, ((w4.sm sD).en e5).mono (by omega), t5, f5, gd_does (by omega) g3 hd.ok⟩
    · rintro σ G3 ⟨y, v3, F', rfl, e3, w3, t3, f3, g3⟩
      exact ⟨_, rfl, q y F' G3 e3 (w3.mono (by omega)) t3 f3 (g3.mono (by omega))⟩
end
end K1


set_option Elab.async false
set_option linter.all false
set_option maxRecDepth 100000
set_option maxHeartbeats 4000000
namespace K1
open PySem PySem.Spec PyProof.Rows L2 RZ
abbrev D9 (K : PySem.W.Frag) (C : Addr) : Eqv := fun x y H => DIns C (FoEq C) x y H ∨ (DFlat x y H ∨ DList (DTup K DFlat) x y H)
theorem mon9 {K : PySem.W.Frag} {C : Addr} : Mon (D9 K C) := (mon_ins FoEq.mon).or (mon_flat.or (mon_list (mon_tup mon_flat)))
theorem op_ne9 {X : Cx} {K : PySem.W.Frag} {C : Addr} {E : XK} (hK : X.K = K) (M : MDef X.prog X.w X.K X.mg X.base CX0 1 C "__eq__" nEq (spEq (FoEq C))) (hx : Passes CX0 X E) (hr : Room 3 X.A) : OpR X (compareOp .NotEq) (rNeG (D9 K C)) := by
  subst hK
  obtain ⟨f, fd, hm, hb, hF⟩ := M
  have h1 : EqG X 1 (DIns C (FoEq C)) := eqG_ins hF hm.1 hm.2 hb hx
  have h2 : EqG X 2 (DList (DTup X.K DFlat)) := eqG_list (mon_tup mon_flat) (eqG_tup mon_flat eqG_flat)
  exact op_neG mon9 ((h1.mono (by decide)).or ((eqG_flat.mono (by decide)).or h2)) hr
theorem d9_go {K : PySem.W.Frag} {C : Addr} {H : Hp} {v v' : V} : ∀ {o : Option Fo}, (∀ g, o = some g → ∀ l ∈ g.ls, OkSs l.s) → OAt C H v o → OAt C H v' o → D9 K C v v' H
  | none, _, h, h' => .inr (.inl (by obtain rfl : v = .non := h; obtain rfl : v' = .non := h'; exact ⟨rfl, rfl, rfl⟩))
  | some g, hs, ⟨p, e, h⟩, ⟨p', e', h'⟩ => by
    subst e; subst e'
    obtain ⟨dx, tl, tg, hp, _⟩ := id h
    obtain ⟨dy, tl', tg', hp', _⟩ := id h'
    exact .inl ⟨p, p', dx, dy, _, _, rfl, rfl, hp, hp', g, h, h', hs g rfl⟩
theorem pairs_eq {K : PySem.W.Frag} {H : Hp} : ∀ {ps : List (Int × Int)} {xs ys : List V}, DvA H xs (ps.map goD) → DvA H ys (ps.map goD) → Prs (DTup K DFlat) xs ys H
  | [], _, _, .nil, .nil => Prs.nil
  | g :: r, _, _, .cons h1 r1, .cons h2 r2 => by
    obtain ⟨a, rfl, ha⟩ := dv_go h1
    obtain ⟨b, rfl, hb⟩ := dv_go h2
    exact Prs.cons ⟨a, b, _, _, rfl, rfl, st ha, st hb, Prs.cons ⟨rfl, rfl, by simp [eqV]⟩ (Prs.cons ⟨rfl, rfl, by simp [eqV]⟩ Prs.nil)⟩ (pairs_eq r1 r2)
theorem nd_is : ∀ ns : List Int, noDicA (ns.map PyData.int) = true
  | [] => rfl
  | _ :: r => by
    show (true && noDicA (r.map PyData.int)) = true
    rw [nd_is r]; rfl
theorem lay_is : ∀ ns : List Int, PyData.canLayAll0 (ns.map PyData.int) = true ∧ PyData.depthAll (ns.map PyData.int) = 0
  | [] => ⟨rfl, rfl⟩
  | _ :: r => by
    obtain ⟨h1, h2⟩ := lay_is r
    refine ⟨?_, ?_⟩
    · show (true && PyData.canLayAll0 (r.map PyData.int)) = true
      rw [h1]; rfl
    · show max 0 (PyData.depthAll (r.map PyData.int)) = 0
      omega
def kpD (F : Fo) (ns : List Int) : PyData := .list [.list (F.ls.map ltD), .int F.mr, .list (ns.map PyData.int)]
theorem kp_nd (F : Fo) (ns : List Int) : noDic (kpD F ns) = true := by
  show (noDicA (F.ls.map ltD) && (true && (noDicA (ns.map PyData.int) && true))) = true
  rw [lts_nd, nd_is]; rfl
theorem kp_sh {F : Fo} (h : ∀ l ∈ F.ls, OkSs l.s) (ns : List Int) : SeqAt.shaped (kpD F ns) = true := by
  obtain ⟨a1, a2⟩ := lts_lay h
  obtain ⟨b1, b2⟩ := lay_is ns
  have e1 : PyData.canLay0 (kpD F ns) = true := by
    show (PyData.canLayAll0 (F.ls.map ltD) && (true && (PyData.canLayAll0 (ns.map PyData.int) && true))) = true
    rw [a1, b1]; rfl
  have e2 : PyData.depth (kpD F ns) ≤ 64 := by
    show max (PyData.depthAll (F.ls.map ltD) + 1) (max 0 (max (PyData.depthAll (ns.map PyData.int) + 1) 0)) + 1 ≤ 64
    omega
  unfold SeqAt.shaped
  rw [e1, decide_eq_true e2]; rfl
def ord (d : Int) (x y : Addr) : List V := if d = 0 then [.ref x, .ref y] else [.ref y, .ref x]
structure Sl (C PA PT PS W FL : Addr) (H : Addr × List V) (G : Hp) (k n : Nat) (d : Int) (x y : Addr) (X Y : Fo) : Prop where
  e : G H.1 = some (.lst H.2)
  w : WellT G W k
  t : LamX.Tabs (T3 PA PT PS) G
  l : G FL = some (.lst (ord d x y))
  fx : FoAt C G x X
  fy : FoAt C G y Y
  gx : Gd n X
  gy : Gd n Y
section
variable {C PA PT PS W FL : Addr} {H : Addr × List V} {G G' : Hp} {k k' n m : Nat} {d : Int} {x y : Addr} {X Y : Fo}
theorem Sl.same (s : Sl C PA PT PS W FL H G k n d x y X Y) (e : Same G G') : Sl C PA PT PS W FL H G' k n d x y X Y := ⟨e _ _ s.e, s.w.sm e, s.t.ext e, e _ _ s.l, s.fx.same e, s.fy.same e, s.gx, s.gy⟩
theorem Sl.en (s : Sl C PA PT PS W FL H G k n d x y X Y) (e : LamX.ExtN G G') (t : LamX.Tabs (T3 PA PT PS) G') : Sl C PA PT PS W FL H G' k n d x y X Y := ⟨e _ _ s.e (fun _ z => by cases z), s.w.en e, t, e _ _ s.l (fun _ z => by cases z), Fo_ext s.fx e, Fo_ext s.fy e, s.gx, s.gy⟩
theorem Sl.wt (s : Sl C PA PT PS W FL H G k n d x y X Y) (nW : H.1 ≠ W) (ne : FL ≠ W) (e : Ext W G G') (w : WellT G' W k') : Sl C PA PT PS W FL H G' k' n d x y X Y :=
  ⟨e _ _ nW s.e, w, tabs_wt s.t s.w e, e _ _ ne s.l, foat_well s.fx s.w e, foat_well s.fy s.w e, s.gx, s.gy⟩
theorem Sl.mono (s : Sl C PA PT PS W FL H G k n d x y X Y) (a : k ≤ k') (b : n ≤ m) : Sl C PA PT PS W FL H G k' m d x y X Y := ⟨s.e, s.w.mono a, s.t, s.l, s.fx, s.fy, s.gx.mono b, s.gy.mono b⟩
theorem Sl.turn (s : Sl C PA PT PS W FL H G k n 0 x y X Y) (hd : d = 0 ∨ d = 1) : ∃ x' y' X' Y', Sl C PA PT PS W FL H G k n d x' y' X' Y' := by
  rcases hd with rfl | rfl
  · exact ⟨x, y, X, Y, s⟩
  · exact ⟨y, x, Y, X, s.e, s.w, s.t, s.l, s.fy, s.fx, s.gy, s.gx⟩
theorem Sl.back (s : Sl C PA PT PS W FL H G k n d x y X Y) (hd : d = 0 ∨ d = 1) : ∃ x' y' X' Y', Sl C PA PT PS W FL H G k n 0 x' y' X' Y' := by
  rcases hd with rfl | rfl
  · exact ⟨x, y, X, Y, s⟩
  · exact ⟨y, x, Y, X, s.e, s.w, s.t, s.l, s.fy, s.fx, s.gy, s.gx⟩
end
theorem at_ord {d : Int} {x y : Addr} (hd : d = 0 ∨ d = 1) : (ord d x y)[d.toNat]? = some (.ref x) ∧ (ord d x y)[(1 - d).toNat]? = some (.ref y) := by
  rcases hd with rfl | rfl <;> exact ⟨rfl, rfl⟩
theorem set_ord0 {d : Int} {x y z : Addr} (hd : d = 0 ∨ d = 1) : (ord d x y).set d.toNat (.ref z) = ord d z y := by
  rcases hd with rfl | rfl <;> rfl
theorem set_ord1 {d : Int} {x y z : Addr} (hd : d = 0 ∨ d = 1) : (ord d x y).set (1 - d).toNat (.ref z) = ord d x z := by
  rcases hd with rfl | rfl <;> rfl
theorem carL_o {lv : Bool} {ns : List Int} : ∀ {ls : List Lt} {s : St9}, s.o = none ↔ (carL lv ns s ls).o = none
  | [], s => Iff.rfl
  | l :: r, s => by
    have h : s.o = none ↔ (car1 lv ns s l).o = none := by
      unfold car1
      split
      · obtain ⟨f, o, ps⟩ := s
        cases o with
        | none => exact ⟨fun _ => rfl, fun _ => rfl⟩
        | some g => exact ⟨fun z => (by cases z), fun z => (by cases z)⟩
      · exact Iff.rfl
    exact h.trans (carL_o (ls := r) (s := car1 lv ns s l))
end K1


set_option Elab.async false
set_option linter.all false
set_option maxRecDepth 100000
set_option maxHeartbeats 4000000
namespace K1
open PySem PySem.Spec PyProof.Rows L2 RZ
abbrev sLaw : Stmt := st_law
abbrev nLaw : List Str := ["_law_script", "_law_cell", "_law_well_here", "_law_folders", "_law_k", "_law_at", "_law_is_moved", "_law_one_here", "_law_other", "_law_numbers", "_law_due_here", "_law_kept", "_law_told", "_law_turn"]
abbrev pLaw : List Str := ["_law_script"]
theorem scLaw : FnScope nLaw pLaw (defScope sLaw) := ⟨rfl, rfl, rfl, by decide +kernel, rfl, by decide +kernel, by decide +kernel⟩
def spLaw (K : PySem.W.Frag) (PA PT PS : Addr) : Sp := fun vs H Q _ => ∃ (a : Addr) (xs : List Int), vs = [.ref a] ∧ SqL K H a (xs.map V.int) ∧ xs.length ≤ 63 ∧ LamX.Tabs (T3 PA PT PS) H ∧ ∀ H', Q (.bl true) H'
theorem par_go' {i j : Nat} {ta : TA} {tb : TS} {D : Ends} {σ : L2.St} {H : Hp} (h : ta σ H fun vs H1 => ∃ v w, vs = [v, w] ∧ tb D ((σ.set i (some v)).set j (some w)) H1) : tSeq (tPar i j ta) tb D σ H := h
theorem name_go' {i : Nat} {v : V} {σ : L2.St} {H : Hp} {Q : L2.St → Hp → Prop} (h : Q (σ.set i (some v)) H) : gName i v σ H Q := h
section
variable {P : Program} {w : World} {K : PySem.W.Frag} {mg : Str → Option Value} {base : Heap} {C PA PT PS : Addr}
set_option maxHeartbeats 16000000 in
theorem ok_law {f : Addr} {fd : FuncData} (T : Bk mg) (t : ClT K mg C) (D_cell : Def P w K mg base CX0 1 "_law_cell_at" nCell (spCell K)) (D_well : Def P w K mg base CX0 1 "_law_well" nWell spWell) (D_draw : Def P w K mg base CX0 1 "_law_draw" pDraw spDraw) (D_one : Def P w K mg base CX0 2 "_law_one" nOne spOne)
    (D_built : Def P w K mg base CX0 11 "_law_built" pBu (spBu C PA PT PS)) (D_due : Def P w K mg base CX0 11 "_law_due" pDu (spDu C PA PT PS)) (D_moved : Def P w K mg base CX0 8 "moved" nCc (spCop C true)) (D_copied : Def P w K mg base CX0 8 "copied" nCc (spCop C false))
    (M_letters : MDef P w K mg base CX0 1 C "letters" nSelf (spLetters C)) (M_mark : MDef P w K mg base CX0 1 C "mark" nSelf (spMark C)) (M_next : MDef P w K mg base CX0 1 C "next_number" nSelf (spNext C)) (M_eq : MDef P w K mg base CX0 1 C "__eq__" nEq (spEq (FoEq C)))
    (F : Fun K "law" "law" sLaw f fd) : FnOk P w K mg base CX0 12 f fd pLaw (spLaw K PA PT PS) := by
  have nd := scLaw.nd
  refine F.ok scLaw (fun vs H Q E h => ?_) (fun cdv A outer s H vs Q E hr h => ?_)
  · obtain ⟨a, ns, rfl, _⟩ := h
    rfl
  · obtain ⟨a, ns, rfl, hS, hln, hT, q⟩ := h
    refine ⟨_, (pss_cons (ps_for PassesOwn.never rfl (pi_listK (K := K) rfl (pe_op op_cat (pe_lst (pa_cons (pe_def D_cell (hr.mono (by decide)) rfl pass0 (pa_cons (pv 0) (pa_cons pe_int pa_nil))) pa_nil)) (pe_slice (sl_listK (K := K) rfl) (pv 0) (po_some pe_int) (po_some pe_int)))) (pg_name (i := 1) nd rfl (Or.inl rfl))
  (pss_cons (ps_set (i := 2) nd rfl (Or.inr rfl) (pe_def D_well (hr.mono (by decide)) rfl pass0 (pa_cons (pv 1) pa_nil)))
 (pss_cons (ps_set (i := 3) nd rfl (Or.inl rfl) (pe_lst (pa_cons (pe_def D_built (hr.mono (by decide)) rfl pass0 (pa_cons (pv 2) (pa_cons pe_int pa_nil))) (pa_cons (pe_def D_built (hr.mono (by decide)) rfl pass0 (pa_cons (pv 2) (pa_cons (pe_op op_add pe_int (pe_def D_draw (hr.mono (by decide)) rfl pass0 (pa_cons (pv 2) (pa_cons pe_int pa_nil)))) pa_nil))) pa_nil))))
 (pss_one (ps_for PassesOwn.never rfl (pi_range1 rfl T.range (pa_cons (pe_def D_draw (hr.mono (by decide)) rfl pass0 (pa_cons (pv 2) (pa_cons pe_int pa_nil))) pa_nil)) (pg_name (i := 4) nd rfl (Or.inl rfl))
  (C8.pss_cut (ps_par (i := 5) (j := 6) (by rfl) nd rfl rfl (by decide) rfl rfl (pa_cons (pe_def D_draw (hr.mono (by decide)) rfl pass0 (pa_cons (pv 2) (pa_cons pe_int pa_nil))) (pa_cons (pe_cmpR op_eq (pe_def D_draw (hr.mono (by decide)) rfl pass0 (pa_cons (pv 2) (pa_cons pe_int pa_nil))) pe_int (nomark _)) pa_nil)) (by rfl))
 (C8.pss_cut (ps_asg (pe_tup (pa_cons (pe_ix (ix_listK (K := K) rfl) (pv 3) (pv 5) (fun _ _ => rfl)) (pa_cons (pe_ix (ix_listK (K := K) rfl) (pv 3) (pe_op op_sub pe_int (pv 5)) (fun _ _ => rfl)) pa_nil))) (pg_tup rfl (pgs_cons (pg_name (i := 7) nd rfl (Or.inr rfl)) (pgs_cons (pg_name (i := 8) nd rfl (Or.inl rfl)) pgs_nil))))
 (C8.pss_cut (ps_set (i := 8) nd rfl (Or.inl rfl) (pe_def D_one (hr.mono (by decide)) rfl pass0 (pa_cons (pv 2) (pa_cons (pe_lst (pa_cons pe_non (pa_cons (pv 7) (pa_cons (pv 8) (pa_cons (pv 8) pa_nil))))) pa_nil))))
 (C8.pss_cut (ps_setLc (i := 9) (own := [("_law_turn", 13)]) (g := gName 13) (tt := tYes) rfl nd rfl rfl (sw_true rfl rfl rfl (by decide +kernel)) (pi_range1 rfl T.range (pa_cons (pe_def D_draw (hr.mono (by decide)) rfl pass0 (pa_cons (pv 2) (pa_cons pe_int pa_nil))) pa_nil)) (blkOk_by (own := [("_law_turn", 13)]) (N := nLaw) (sc := defScope sLaw) (by decide +kernel)) (fun _ _ _ _ _ => pg_name (i := 13) nd rfl (Or.inl rfl)) (fun _ _ _ _ _ => pts_nil) (fun _ _ _ _ _ => (pe_op op_add pe_int (pe_def D_draw (hr.mono (by decide)) rfl pass0 (pa_cons (pv 2) (pa_cons (pe_op op_add (pe_mdef0 M_next t.cl (hr.mono (by decide)) pass0 (pv 7)) pe_int) pa_nil))))))
 (pss_cons (ps_set (i := 10) nd rfl (Or.inl rfl) (pe_def D_due (hr.mono (by decide)) rfl pass0 (pa_cons (pv 7) (pa_cons (pv 8) (pa_cons (pv 9) (pa_cons (pv 6) pa_nil))))))
 (pss_cons (ps_set (i := 11) nd rfl (Or.inl rfl) (pe_lst (pa_cons (pe_mdef0 M_letters t.cl (hr.mono (by decide)) pass0 (pv 7)) (pa_cons (pe_mdef0 M_mark t.cl (hr.mono (by decide)) pass0 (pv 7)) (pa_cons (pe_callTy (call_list_ofK (K := K) rfl) (by rfl) T.list PyProof.Rows.boot_list (pa_cons (pv 9) pa_nil)) pa_nil)))))
 (C8.pss_cut (ps_set (i := 12) nd rfl (Or.inl rfl) (pe_ifExp (pt_val (pv 6)) (pe_def D_moved (hr.mono (by decide)) rfl pass0 (pa_cons (pv 7) (pa_cons (pv 8) (pa_cons (pv 9) pa_nil)))) (pe_def D_copied (hr.mono (by decide)) rfl pass0 (pa_cons (pv 7) (pa_cons (pv 8) (pa_cons (pe_callTy (call_tuple_ofK (K := K) rfl) (by rfl) T.tuple PyProof.Rows.boot_tuple (pa_cons (pv 9) pa_nil)) pa_nil))))))
 (pss_cons (ps_if (PW.pt (pw_or (pt_cmpR (op_ne9 (K := K) (C := C) rfl M_eq pass0 (hr.mono (by decide))) (pe_callTy (call_list_ofK (K := K) rfl) (by rfl) T.list PyProof.Rows.boot_list (pa_cons (pv 12) pa_nil)) (pe_callTy (call_list_ofK (K := K) rfl) (by rfl) T.list PyProof.Rows.boot_list (pa_cons (pv 10) pa_nil)) (nomark _)) (pw_or1 (pt_cmpR (op_neDK (K := K) rfl hr.units) (pe_lst (pa_cons (pe_mdef0 M_letters t.cl (hr.mono (by decide)) pass0 (pv 7)) (pa_cons (pe_mdef0 M_mark t.cl (hr.mono (by decide)) pass0 (pv 7)) (pa_cons (pv 9) pa_nil)))) (pv 11) (nomark _)))))
  pss_any
  pss_nil)
 (pss_cons (ps_asg (pe_ix (ix_tupK (K := K) rfl) (pv 12) pe_int (fun _ _ => rfl)) (pg_sub (pv 3) (pv 5) set_list))
 (pss_one (ps_if (pt_cmpR op_notN (pv 8) pe_non (nomark _))
  (pss_one (ps_asg (pe_ix (ix_tupK (K := K) rfl) (pv 12) pe_int (fun _ _ => rfl)) (pg_sub (pv 3) (pe_op op_sub pe_int (pv 5)) set_list)))
  pss_nil))))))))))))))))
 (pss_one (ps_ret pe_bl))), ?_⟩
    have sqS : ∀ {H1 H2 : Hp} {b : Addr} {xs : List V}, SqL K H1 b xs → Same H1 H2 → SqL K H2 b xs := fun {H1 H2 b xs} h s => by
      rcases h with (h | ⟨o, h⟩) | h
      · exact .inl (.inl (s _ _ h))
      · exact .inl (.inr ⟨o, s _ _ h⟩)
      · exact .inr h
    refine ⟨_, rfl, a, ns, 0, rfl, hS, by decide, fun c0 => ⟨lt1 _ (by show 1 ≤ 100000; decide), fun l1 nl1 => ?_⟩⟩
    have s1 := same_new (o := .lst [.int c0]) nl1
    refine ⟨_, rfl, 1, rfl, 3, rfl, a, _, rfl, sqS hS s1, fun l2 nl2 => ?_⟩
    have hcut : ∃ sub : List Int, cutV (ns.map V.int) (some 1) (some 3) = sub.map V.int ∧ sub.length ≤ 63 := by
      refine ⟨(ns.drop (HT.sIx (ns.map V.int).length 0 (some 1))).take (HT.sIx (ns.map V.int).length (ns.map V.int).length (some 3) - HT.sIx (ns.map V.int).length 0 (some 1)), ?_, ?_⟩
      · unfold cutV; rw [List.map_take, List.map_drop]
      · rw [List.length_take, List.length_drop]; omega
    obtain ⟨sub, ecut, hcl⟩ := hcut
    rw [ecut]
    have s2 := s1.new nl2 (o := .lst (sub.map V.int))
    refine ⟨l1, l2, _, _, rfl, rfl, same_new nl2 _ _ upd_same, upd_same, lt1 _ (by rw [List.length_map]; show 1 + sub.length ≤ 100000; omega), fun l3 nl3 => ?_⟩
    have s3 := s2.new nl3 (o := .lst ([V.int c0] ++ sub.map V.int))
    refine ⟨l3, rfl, ⟨_, sq upd_same⟩, for_list (K := K) (a := l3) (xs := (c0 :: sub).map V.int) (fun i σ H2 => ∃ v1 v2 v3 v4 v5 v6 v7 v8 v9 v10 v11 v12, σ = [some (.ref a), v1, v2, v3, v4, v5, v6, v7, v8, v9, v10, v11, v12, none] ∧ H2 l3 = some (.lst ((c0 :: sub).map V.int)) ∧ LamX.Tabs (T3 PA PT PS) H2) ?_ ?_ ?_ ?_⟩
    · exact ⟨none, none, none, none, none, none, none, none, none, none, none, none, rfl, upd_same, hT.ext s3⟩
    · rintro i σ H2 _ ⟨v1, v2, v3, v4, v5, v6, v7, v8, v9, v10, v11, v12, rfl, h3, _⟩
      exact sq h3
    · rintro i z σ H2 hx ⟨v1, v2, v3, v4, v5, v6, v7, v8, v9, v10, v11, v12, rfl, h3, t2⟩
      obtain ⟨cc, _, rfl⟩ := getD_map hx
      refine ⟨_, rfl, cc, rfl, fun W Ha nW sa wa => ?_⟩
      have ta := t2.ext sa
      refine ⟨_, rfl, W, 1, 0, rfl, by decide, wa, by decide, ta, fun x0 X0 G1 e1 w1 t1 f1 g1 => ?_⟩
      refine ⟨_, rfl, _, rfl, W, 2, 200, rfl, w1.mono (by omega), by decide, by decide, by decide, fun d1 G2 d10 d12 e2 w2 => ?_⟩
      have f2 := foat_well f1 w1 e2
      have t3 := tabs_wt t1 w1 e2
      refine ⟨_, _, rfl, rfl, W, 1 + d1, 201, rfl, by omega, w2, by decide, t3, fun x1 X1 G3 e3 w3 t4 f3 g3 => ?_⟩
      have W2 : ∃ xs, G2 W = some (.lst xs) := let ⟨c, m, tt, e, _⟩ := w2; ⟨_, e⟩
      obtain ⟨wl, hWl⟩ := W2
      have f4 : FoAt C G3 x0 X0 := f2.tk (e3.tk hWl)
      have E3 : LamX.ExtN H2 G3 := fun b o hb ht => e3 b o (fun z => by rw [z, nW] at hb; cases hb) ht ((e1.wt e2) b o (fun z => by rw [z, nW] at hb; cases hb) ht (sa _ _ hb))
      refine ⟨by show 2 ≤ sizeLine; decide, fun FL nFL => ?_⟩
      have FLW : FL ≠ W := w3.ne nFL
      have l3W : l3 ≠ W := ne_of_none h3 nW
      have l3F : l3 ≠ FL := fun z => by have := E3 _ _ h3 (fun _ z => by cases z); rw [z, nFL] at this; cases this
      have sF := same_new nFL (o := .lst [.ref x0, .ref x1])
      have S0 : Sl C PA PT PS W FL (l3, (c0 :: sub).map V.int) (upd G3 FL (.lst [.ref x0, .ref x1])) 401 8 0 x0 x1 X0 X1 := ⟨sF _ _ (E3 _ _ h3 (fun _ z => by cases z)), (w3.sm sF).mono (by omega), t4.ext sF, upd_same, f4.same sF, f3.same sF, g1, g3⟩
      generalize upd G3 FL (.lst [.ref x0, .ref x1]) = G4 at S0
      clear sF f4 f3 t4 w3 e3 f2 t3 w2 e2 hWl f1 t1 w1 e1
      refine ⟨_, rfl, W, 9, 401, rfl, S0.w, by decide, by decide, by decide, fun m G5 m0 m9 e5 w5 => ?_⟩
      have S5 := S0.wt l3W FLW e5 w5
      refine ⟨_, rfl, by omega, by omega, for_range (lo := 0) (n := m.toNat) (fun j σ G => ∃ v4 v5 v6 v7 v8 v9 v10 v11 v12 x y X Y, σ = [some (.ref a), some (.int cc), some (.ref W), some (.ref FL), v4, v5, v6, v7, v8, v9, v10, v11, v12, none] ∧ Sl C PA PT PS W FL (l3, (c0 :: sub).map V.int) G (402 + 20 * j) (8 + 8 * j) 0 x y X Y) ⟨_, _, _, _, _, _, _, _, _, x0, x1, X0, X1, rfl, S5.mono (by omega) (by omega)⟩ ?_ ?_⟩
      · rintro j σ G hj ⟨v4, v5, v6, v7, v8, v9, v10, v11, v12, x, y, X, Y, rfl, S⟩
        have hj8 : j < m.toNat := hj
        refine ⟨fun σ G => ∃ (d : Int) (lv : Bool), σ = [some (.ref a), some (.int cc), some (.ref W), some (.ref FL), some (.int (0 + (j : Int))), some (.int d), some (.bl lv), v7, v8, v9, v10, v11, v12, none] ∧ (d = 0 ∨ d = 1) ∧ Sl C PA PT PS W FL (l3, (c0 :: sub).map V.int) G (402 + 20 * j + 2) (8 + 8 * j) 0 x y X Y, ?_, ?_⟩
        · refine ⟨_, rfl, W, 2, 402 + 20 * j, rfl, S.w, by omega, by decide, by decide, fun d G6 d0 d2 e6 w6 => ?_⟩
          refine ⟨_, rfl, W, 2, 402 + 20 * j + 1, rfl, w6, by omega, by decide, by decide, fun b G7 b0 b2 e7 w7 => ⟨rfl, ?_⟩⟩
          exact ⟨_, _, rfl, d, _, rfl, by omega, (S.wt l3W FLW e6 w6).wt l3W FLW e7 w7⟩
        rintro σ G6 ⟨d, lv, rfl, hd, S6⟩
        obtain ⟨x, y, X, Y, S6⟩ := S6.turn hd
        obtain ⟨ao0, ao1⟩ := at_ord (x := x) (y := y) hd
        refine ⟨fun σ G => σ = [some (.ref a), some (.int cc), some (.ref W), some (.ref FL), some (.int (0 + (j : Int))), some (.int d), some (.bl lv), some (.ref x), some (.ref y), v9, v10, v11, v12, none] ∧ Sl C PA PT PS W FL (l3, (c0 :: sub).map V.int) G (402 + 20 * j + 2) (8 + 8 * j) d x y X Y, ?_, ?_⟩
        · refine ⟨_, rfl, _, rfl, FL, _, d, .ref x, rfl, rfl, sq S6.l, at_of (j := d.toNat) (by omega) ao0, _, rfl, _, rfl, _, _, rfl, rfl, FL, _, 1 - d, .ref y, rfl, rfl, sq S6.l, at_of (j := (1 - d).toNat) (by omega) ao1, by show 2 ≤ sizeLine; decide, fun U nU => ?_⟩
          exact ⟨U, _, rfl, st upd_same, rfl, .ref x, _, rfl, .ref y, _, rfl, rfl, rfl, S6.same (same_new nU)⟩
        rintro σ G7 ⟨rfl, S7⟩
        refine ⟨fun σ G => ∃ (v : V) (O : Option Fo), σ = [some (.ref a), some (.int cc), some (.ref W), some (.ref FL), some (.int (0 + (j : Int))), some (.int d), some (.bl lv), some (.ref x), some v, v9, v10, v11, v12, none] ∧ Sl C PA PT PS W FL (l3, (c0 :: sub).map V.int) G (402 + 20 * j + 3) (8 + 8 * j) d x y X Y ∧ OAt C G v O ∧ (∀ g, O = some g → Gd (8 + 8 * j) g), ?_, ?_⟩
        · refine ⟨_, rfl, _, rfl, _, rfl, _, rfl, by show 4 ≤ sizeLine; decide, fun L nL => ?_⟩
          have sL := same_new nL (o := .lst [.non, .ref x, .ref y, .ref y])
          have S8 := S7.same sL
          refine ⟨W, L, _, 402 + 20 * j + 2, rfl, S8.w, by omega, upd_same, by show 0 < 4; decide, by show 4 < 1073741824; decide, S7.w.ne nL, fun i v G9 hv e9 w9 => ?_⟩
          have S9 := S8.wt l3W FLW e9 w9
          have hm := List.mem_of_getElem? hv
          rcases (show v = .non ∨ v = .ref x ∨ v = .ref y by simpa using hm) with rfl | rfl | rfl
          · exact ⟨.non, none, rfl, S9, rfl, fun g hg => by cases hg⟩
          · exact ⟨.ref x, some X, rfl, S9, ⟨x, rfl, S9.fx⟩, fun g hg => by rw [← Option.some.inj hg]; exact S9.gx⟩
          · exact ⟨.ref y, some Y, rfl, S9, ⟨y, rfl, S9.fy⟩, fun g hg => by rw [← Option.some.inj hg]; exact S9.gy⟩
        rintro σ G8 ⟨v, O, rfl, S8, oA, oG⟩
        refine ⟨fun σ G => ∃ (D : Addr) (nn : List Int), σ = [some (.ref a), some (.int cc), some (.ref W), some (.ref FL), some (.int (0 + (j : Int))), some (.int d), some (.bl lv), some (.ref x), some v, some (.ref D), v10, v11, v12, none] ∧ Sl C PA PT PS W FL (l3, (c0 :: sub).map V.int) G (402 + 20 * j + 8) (8 + 8 * j) d x y X Y ∧ OAt C G v O ∧ G D = some (.lst (nn.map V.int)) ∧ (∀ n ∈ nn, 1 ≤ n) ∧ nn.length ≤ 4, ?_, ?_⟩
        · refine ⟨_, rfl, W, 5, 402 + 20 * j + 3, rfl, S8.w, by omega, by decide, by decide, fun c G9 cn0 cn5 e9 w9 => ?_⟩
          have S9 := S8.wt l3W FLW e9 w9
          have o9 : OAt C G9 v O := oA.tk (TK.ext S8.w.at e9)
          refine ⟨_, rfl, by omega, by omega, fun D nD => ?_⟩
          have DW : D ≠ W := w9.ne nD
          have DFL : FL ≠ D := fun z => by have := S9.l; rw [z, nD] at this; cases this
          have gnx := S9.gx.nx
          have l3D : l3 ≠ D := fun z => by have := S9.e; rw [show ((l3, (c0 :: sub).map V.int) : Addr × List V).1 = l3 from rfl, z, nD] at this; cases this
          refine lc_it walk_range (fun i G => ∃ nn : List Int, Sl C PA PT PS W FL (l3, (c0 :: sub).map V.int) G (402 + 20 * j + 4 + i) (8 + 8 * j) d x y X Y ∧ OAt C G v O ∧ G D = some (.lst (nn.map V.int)) ∧ (∀ n ∈ nn, 1 ≤ n) ∧ nn.length = i) ⟨[], (S9.same (same_new nD)).mono (by omega) (by omega), o9.same (same_new nD), upd_same, fun n hn => (by cases hn), rfl⟩ (fun _ _ _ _ => trivial) ?_ ?_
          · rintro i u G10 G11 hi ⟨nn, SA, oB, hD, h1, hl⟩ ⟨rfl, rfl⟩
            have hi4 : i < c.toNat := hi
            obtain ⟨dx, tl, tg, hx, _⟩ := id SA.fx
            refine ⟨rfl, tyes ⟨_, rfl, _, rfl, x, dx, _, rfl, hx, fl_no (by decide +kernel), x, X, rfl, SA.fx, _, _, rfl, rfl, W, X.nx + 1, 402 + 20 * j + 4 + i, rfl, SA.w, by omega, by omega, by omega, fun b G12 b0 b1 e12 w12 => ⟨_, _, rfl, rfl, ?_⟩⟩⟩
            have SB := SA.wt l3W FLW e12 w12
            have hD12 := e12 _ _ DW hD
            have oC : OAt C G12 v O := oB.tk (TK.ext SA.w.at e12)
            have kk : TK G12 (upd G12 D (.lst (nn.map V.int ++ [.int (1 + b)]))) := TK.lst hD12 (fun b o nb hb => by rw [upd_ne nb]; exact hb)
            refine ⟨_, hD12, lt2 _ (by rw [List.length_map]; omega), nn ++ [1 + b], ⟨by rw [upd_ne l3D]; exact SB.e, (SB.w.upd DW).mono (by omega), tabs_mutL hD12 SB.t, by rw [upd_ne DFL]; exact SB.l, SB.fx.tk kk, SB.fy.tk kk, SB.gx, SB.gy⟩, oC.tk kk, by rw [upd_same, List.map_append]; rfl, fun n hn => ?_, by rw [List.length_append, hl]; rfl⟩
            rcases List.mem_append.mp hn with z | z
            · exact h1 n z
            · rw [List.mem_singleton.mp z]; omega
          · rintro G10 ⟨nn, SA, oB, hD, h1, hl⟩
            have hl4 : nn.length = c.toNat := hl
            exact ⟨D, nn, rfl, SA.mono (by omega) (by omega), oB, hD, h1, by omega⟩
        rintro σ G9 ⟨D, nn, rfl, S9, o9, hD, hn1, hnl⟩
        have g9 : Gd9 (8 + 8 * j) ⟨X, O, []⟩ := ⟨S9.gx, oG⟩
        refine ⟨_, rfl, _, rfl, _, rfl, _, rfl, x, D, v, lv, X, O, nn, 8 + 8 * j, rfl, S9.fx, o9, hD, g9, by omega, S9.t, fun r1 G10 e10 t10 c1 => ?_⟩
        have SA := S9.en e10 t10
        have oA2 := o9.en e10
        have hDA : G10 D = some (.lst (nn.map V.int)) := e10 _ _ hD (fun _ z => by cases z)
        obtain ⟨dx, tl, tg, hx, _⟩ := id SA.fx
        refine ⟨_, rfl, x, dx, _, rfl, hx, fl_no (by decide +kernel), x, X, rfl, SA.fx, fun l0 G11 s11 nl0 dl0 => ?_⟩
        refine ⟨_, rfl, x, dx, _, rfl, s11 _ _ hx, fl_no (by decide +kernel), x, X, rfl, SA.fx.same s11, ?_⟩
        refine ⟨_, rfl, D, _, rfl, .inl (sq (s11 _ _ hDA)), fun n2 nn2 => ⟨by show 3 ≤ sizeLine; decide, fun Kp nKp => ?_⟩⟩
        have s12 := same_new nn2 (o := .lst (nn.map V.int))
        have s13 := same_new nKp (o := .lst [.ref l0, .int X.mr, .ref n2])
        have dK : Dv (upd (upd G11 n2 (.lst (nn.map V.int))) Kp (.lst [.ref l0, .int X.mr, .ref n2])) (.ref Kp) (kpD X nn) := .lst upd_same (.cons ((dl0.same s12).same s13) (.cons (.int _) (.cons (.lst (s13 _ _ upd_same) (dva_ints nn)) .nil)))
        have sB := (s11.trans s12).trans s13
        generalize upd (upd G11 n2 (.lst (nn.map V.int))) Kp (.lst [.ref l0, .int X.mr, .ref n2]) = G12 at dK sB
        clear s11 s12 s13 nn2 nKp dl0 nl0 hx
        have SB := SA.same sB
        have oB := oA2.same sB
        have hDB := sB _ _ hDA
        obtain ⟨q1, u1, L1, hr1, fq1, ou1, dL1⟩ := c1
        have c1' : CarAt C G12 r1 (carL lv nn ⟨X, O, []⟩ X.ls) := ⟨q1, u1, L1, sB _ _ hr1, fq1.same sB, ou1.same sB, dL1.same sB⟩
        refine ⟨fun σ G => ∃ r2, σ = [some (.ref a), some (.int cc), some (.ref W), some (.ref FL), some (.int (0 + (j : Int))), some (.int d), some (.bl lv), some (.ref x), some v, some (.ref D), some (.ref r1), some (.ref Kp), some (.ref r2), none] ∧ Same G12 G ∧ CarAt C G r2 (carL lv nn ⟨X, O, []⟩ X.ls), ?_, ?_⟩
        · refine ⟨_, rfl, _, rfl, ?_⟩
          cases lv with
          | true => exact itbT rfl ⟨_, rfl, _, rfl, _, rfl, x, D, v, X, O, nn, 8 + 8 * j, rfl, SB.fx, oB, ⟨.inl hDB, hn1, by omega⟩, g9, by omega, fun r2 G13 s13 c2 => ⟨r2, rfl, s13, c2⟩⟩
          | false =>
            refine itbF rfl ⟨_, rfl, _, rfl, _, rfl, D, _, rfl, .inl ⟨sq hDB, fun tn ntn => ?_⟩⟩
            have sN := same_new ntn (o := .tup (nn.map V.int))
            exact ⟨x, tn, v, X, O, nn, 8 + 8 * j, rfl, SB.fx.same sN, oB.same sN, ⟨.inr upd_same, hn1, by omega⟩, g9, by omega, fun r2 G13 s13 c2 => ⟨r2, rfl, sN.trans s13, c2⟩⟩
        rintro σ G13 ⟨r2, rfl, s13, q2, u2, L2, hr2, fq2, ou2, dL2⟩
        have SC := SB.same s13
        have hDC := s13 _ _ hDB
        have dKC := dK.same s13
        obtain ⟨q1, u1, L1, hr1, fq1, ou1, dL1⟩ := c1'
        have hcnt : cnt nn X.ls ≤ nn.length := cnt_le S9.gx.nd
        have gS := gd_carT lv nn (ls := X.ls) (k := 8 + 8 * j) (s := ⟨X, O, []⟩) (by omega) g9 (fun l hl => ⟨(S9.gx.it l hl).2.2, S9.gx.wf.sg l hl⟩) X.ls.length
        rw [List.take_length] at gS
        have gS' := gS.mono (show 8 + 8 * j + 2 * cnt nn X.ls ≤ 8 + 8 * (j + 1) by omega)
        have hon : O = none ↔ (carL lv nn ⟨X, O, []⟩ X.ls).o = none := carL_o (s := ⟨X, O, []⟩)
        generalize carL lv nn ⟨X, O, []⟩ X.ls = z at fq1 ou1 dL1 fq2 ou2 dL2 gS' hon
        clear gS
        refine ⟨_, rfl, r2, _, rfl, .inr (st hr2), fun m2 nm2 => ⟨_, rfl, r1, _, rfl, .inr (st ((s13.trans (same_new nm2 (o := .lst [.ref q2, u2, .ref L2]))) _ _ hr1)), fun m1 nm1 => ?_⟩⟩
        have sm2 := same_new nm2 (o := .lst [.ref q2, u2, .ref L2])
        have sm1 := same_new nm1 (o := .lst [.ref q1, u1, .ref L1])
        have sm := sm2.trans sm1
        have s1m := s13.trans sm
        obtain ⟨xs1, hL1, dv1⟩ := Dv.lsts dL1
        obtain ⟨xs2, hL2, dv2⟩ := Dv.lsts dL2
        refine ⟨⟨m2, m1, _, _, rfl, rfl, sm1 _ _ upd_same, upd_same, Prs.cons ?_ (Prs.cons ?_ (Prs.cons ?_ Prs.nil))⟩, fun G14 e14 => ?_⟩
        · exact d9_go (o := some z.f) (fun g hg l hl => by rw [← Option.some.inj hg] at hl; exact gS'.1.wf.sg l hl) ⟨q2, rfl, fq2.same sm⟩ ⟨q1, rfl, fq1.same s1m⟩
        · exact d9_go (o := z.o) (fun g hg l hl => (gS'.2 g hg).wf.sg l hl) (ou2.same sm) (ou1.same s1m)
        · exact .inr (.inr ⟨L2, L1, xs2, xs1, rfl, rfl, sm _ _ hL2, s1m _ _ hL1, pairs_eq (dv2.same sm) (dv1.same s1m)⟩)
        have e14' : Same G13 G14 := fun b o hb => e14 b o (sm _ _ hb)
        refine ⟨_, rfl, itbF rfl ?_⟩
        have SD := SC.same e14'
        obtain ⟨dx, tl, tg, hx, _⟩ := id SD.fx
        refine ⟨_, rfl, x, dx, _, rfl, hx, fl_no (by decide +kernel), x, X, rfl, SD.fx, fun l0 G15 s15 nl0 dl0 => ?_⟩
        refine ⟨_, rfl, x, dx, _, rfl, s15 _ _ hx, fl_no (by decide +kernel), x, X, rfl, SD.fx.same s15, ?_⟩
        refine ⟨_, rfl, by show 3 ≤ sizeLine; decide, fun K2 nK2 => ?_⟩
        have s16 := same_new nK2 (o := .lst [.ref l0, .int X.mr, .ref D])
        have sE := (e14'.trans s15).trans s16
        have dK2 : Dv (upd G15 K2 (.lst [.ref l0, .int X.mr, .ref D])) (.ref K2) (kpD X nn) := .lst upd_same (.cons (dl0.same s16) (.cons (.int _) (.cons (.lst (sE _ _ hDC) (dva_ints nn)) .nil)))
        have shK := kp_sh (F := X) S9.gx.wf.sg nn
        refine ⟨_, rfl, _, _, dK2.dp (kp_nd X nn), (dKC.same sE).dp (kp_nd X nn), shK, shK, _, rfl, itbF (by rw [eqv_same shK]; rfl) ?_⟩
        have SE := SC.same sE
        have fq3 := fq2.same sE
        have ou3 := ou2.same sE
        have hr3 := sE _ _ hr2
        generalize upd G15 K2 (.lst [.ref l0, .int X.mr, .ref D]) = G16 at SE fq3 ou3 hr3
        clear dK2 dKC sE s16 s15 dl0 nl0 hx SD e14' e14 sm sm1 sm2 s1m dv1 dv2 hL1 hL2
        refine ⟨_, rfl, r2, _, 0, .ref q2, rfl, rfl, st hr3, atI_nat (j := 0) rfl, .ref FL, rfl, _, rfl, FL, _, d, d.toNat, rfl, rfl, SE.l, ?_, ?_⟩
        · rcases hd with rfl | rfl <;> rfl
        have SF := SE.l
        have kk : TK G16 (upd G16 FL (.lst ((ord d x y).set d.toNat (.ref q2)))) := TK.lst SF (fun b o nb hb => by rw [upd_ne nb]; exact hb)
        have Snew : Sl C PA PT PS W FL (l3, (c0 :: sub).map V.int) (upd G16 FL (.lst ((ord d x y).set d.toNat (.ref q2)))) (402 + 20 * (j + 1)) (8 + 8 * (j + 1)) d q2 y z.f Y :=
          ⟨by rw [upd_ne l3F]; exact SE.e, (SE.w.upd FLW).mono (by omega), tabs_mutL SF SE.t, by rw [upd_same, set_ord0 hd], fq3.tk kk, SE.fy.tk kk, gS'.1, SE.gy.mono (by omega)⟩
        have ou4 := ou3.tk kk
        have hr4 := kk.tup hr3
        generalize upd G16 FL (.lst ((ord d x y).set d.toNat (.ref q2))) = G17 at Snew ou4 hr4
        refine ⟨_, rfl, rfl, _, rfl, ?_⟩
        cases O with
        | none =>
          obtain rfl : v = .non := oA
          refine itbF rfl ?_
          obtain ⟨x', y', X', Y', Sb⟩ := Snew.back hd
          exact ⟨_, _, _, _, _, _, _, _, _, x', y', X', Y', rfl, Sb⟩
        | some g0 =>
          obtain ⟨pv, rfl, _⟩ := oA
          refine itbT rfl ?_
          cases hzo : z.o with
          | none => exact absurd (hon.mpr hzo) (fun h => by cases h)
          | some g1 =>
            rw [hzo] at ou4
            obtain ⟨p4, rfl, f4⟩ := ou4
            refine ⟨_, rfl, r2, _, 1, .ref p4, rfl, rfl, st hr4, atI_nat (j := 1) rfl, .ref FL, rfl, _, rfl, _, _, rfl, rfl, FL, _, 1 - d, (1 - d).toNat, rfl, rfl, Snew.l, ?_, ?_⟩
            · rcases hd with rfl | rfl <;> rfl
            have SG := Snew.l
            have kk2 : TK G17 (upd G17 FL (.lst ((ord d q2 y).set (1 - d).toNat (.ref p4)))) := TK.lst SG (fun b o nb hb => by rw [upd_ne nb]; exact hb)
            have Sn2 : Sl C PA PT PS W FL (l3, (c0 :: sub).map V.int) (upd G17 FL (.lst ((ord d q2 y).set (1 - d).toNat (.ref p4)))) (402 + 20 * (j + 1)) (8 + 8 * (j + 1)) d q2 p4 z.f g1 :=
              ⟨by rw [upd_ne l3F]; exact Snew.e, Snew.w.upd FLW, tabs_mutL SG Snew.t, by rw [upd_same, set_ord1 hd], Snew.fx.tk kk2, f4.tk kk2, Snew.gx, gS'.2 g1 hzo⟩
            obtain ⟨x', y', X', Y', Sb⟩ := Sn2.back hd
            exact ⟨_, _, _, _, _, _, _, _, _, x', y', X', Y', rfl, Sb⟩
      · rintro σ G ⟨v4, v5, v6, v7, v8, v9, v10, v11, v12, x, y, X, Y, rfl, S⟩
        exact ⟨_, _, _, _, _, _, _, _, _, _, _, _, rfl, S.e, S.t⟩
    · rintro σ G ⟨v1, v2, v3, v4, v5, v6, v7, v8, v9, v10, v11, v12, rfl, _, _⟩
      exact q G
end
end K1


set_option Elab.async false
set_option linter.all false
set_option maxRecDepth 100000
set_option maxHeartbeats 4000000
namespace K1
open PySem PySem.Spec PyProof.Rows L2 RZ StX
/-! ### the end -/
def AtM (K : PySem.W.Frag) (C : Addr) (m q : Str) (st : Stmt) : Prop := ∃ (f : Addr) (fd : FuncData), Meth K C m f ∧ Fun K m q st f fd
def AtMC (K : PySem.W.Frag) (C : Addr) (m q : Str) (st : Stmt) (c : Addr) : Prop := ∃ (f : Addr) (oc : Value) (od : Option Addr) (kV doc pm : Value) (an : Option Addr) (ct : Value) (osl : Array (Option Value)),
  Meth K C m f ∧ K.lookup f = some ⟨oc, od, .func (PySem.W.fnOf m q (defArgs st) (defBody st) (defScope st) .none kV doc pm an (.ref c) ct), osl⟩ ∧ PySem.W.codeIn K (.ref c) q = true
section
variable {K : PySem.W.Frag} {h : Heap} {mg : Str → Option Value}
theorem cs_mk {x : Str} {n : Int} {t : Tok} {v : Value} (X : K.In h) (G : h.Ns mainGlobals mg) (a : PySem.W.nsIn K mainGlobals x = some (some v)) (e : v = .int n t) : ∃ t, mg x = some (.int n t) := ⟨t, by rw [PySem.W.mg_of X G a, e]⟩
theorem at_mk {x : Str} {st : Stmt} {f : Addr} {oc : Value} {od an : Option Addr} {osl : Array (Option Value)} {kV doc pm cdv ct : Value} (X : K.In h) (G : h.Ns mainGlobals mg) (a : PySem.W.nsIn K mainGlobals x = some (some (.ref f)))
    (l : K.lookup f = some ⟨oc, od, .func (PySem.W.fnOf x x (defArgs st) (defBody st) (defScope st) .none kV doc pm an cdv ct), osl⟩) (c : PySem.W.codeIn K cdv x = true) (k : PySem.W.keepIn K (.ref f) = true) : At K mg x st :=
  ⟨f, _, PySem.W.mg_of X G a, fun_mk l c k⟩
theorem atM_mk {C : Addr} {m q : Str} {st : Stmt} {f : Addr} {oc : Value} {od an : Option Addr} {osl : Array (Option Value)} {kV doc pm cdv ct : Value} (a : PySem.W.findIn K (.ref C) m = some (some (.ref f))) (n : PySem.W.isFn K (.ref f) = true)
    (l : K.lookup f = some ⟨oc, od, .func (PySem.W.fnOf m q (defArgs st) (defBody st) (defScope st) .none kV doc pm an cdv ct), osl⟩) (c : PySem.W.codeIn K cdv q = true) (k : PySem.W.keepIn K (.ref f) = true) : AtM K C m q st :=
  ⟨f, _, ⟨a, n, k⟩, fun_mk l c k⟩
theorem atMC_mk {C : Addr} {m q : Str} {st : Stmt} {f co : Addr} {oc : Value} {od an : Option Addr} {osl : Array (Option Value)} {kV doc pm ct : Value} (a : PySem.W.findIn K (.ref C) m = some (some (.ref f))) (n : PySem.W.isFn K (.ref f) = true)
    (l : K.lookup f = some ⟨oc, od, .func (PySem.W.fnOf m q (defArgs st) (defBody st) (defScope st) .none kV doc pm an (.ref co) ct), osl⟩) (c : PySem.W.codeIn K (.ref co) q = true) (k : PySem.W.keepIn K (.ref f) = true) : AtMC K C m q st co :=
  ⟨f, oc, od, kV, doc, pm, an, ct, osl, ⟨a, n, k⟩, l, c⟩
theorem AtM.mdef {P : Program} {w : World} {base : Heap} {CX : CXT} {k : Nat} {C : Addr} {m q : Str} {ps : List Str} {sp : Sp} {st : Stmt} (a : AtM K C m q st)
    (hb : ∀ (kV doc pm : Value) (an : Option Addr) (cdv ct : Value) (us : List Value), us.length = ps.length → bindArgs (PySem.W.fnOf m q (defArgs st) (defBody st) (defScope st) .none kV doc pm an cdv ct) ⟨us, []⟩ = pure (ps.zip us))
    (ok : ∀ (f : Addr) (fd : FuncData), Fun K m q st f fd → FnOk P w K mg base CX k f fd ps sp) : MDef P w K mg base CX k C m ps sp := by
  obtain ⟨f, fd, hm, F⟩ := a
  refine ⟨f, fd, hm, ?_, ok f fd F⟩
  obtain ⟨oc, od, kV, doc, pm, an, cdv, ct, osl, rfl, lk, hcd⟩ := F.ex
  exact F.binds hb
theorem AtMC.mdef {P : Program} {w : World} {base : Heap} {CX : CXT} {k : Nat} {C c : Addr} {m q : Str} {ps : List Str} {sp : Sp} {st : Stmt} (a : AtMC K C m q st c)
    (hb : ∀ (kV doc pm : Value) (an : Option Addr) (cdv ct : Value) (us : List Value), us.length = ps.length → bindArgs (PySem.W.fnOf m q (defArgs st) (defBody st) (defScope st) .none kV doc pm an cdv ct) ⟨us, []⟩ = pure (ps.zip us))
    (ok : ∀ {f : Addr} {oc : Value} {od : Option Addr} {kV doc pm : Value} {an : Option Addr} {ct : Value} {osl : Array (Option Value)}, K.lookup f = some ⟨oc, od, .func (PySem.W.fnOf m q (defArgs st) (defBody st) (defScope st) .none kV doc pm an (.ref c) ct), osl⟩ → PySem.W.codeIn K (.ref c) q = true → FnOk P w K mg base CX k f (PySem.W.fnOf m q (defArgs st) (defBody st) (defScope st) .none kV doc pm an (.ref c) ct) ps sp) : MDef P w K mg base CX k C m ps sp := by
  obtain ⟨f, oc, od, kV, doc, pm, an, ct, osl, hm, lk, hcd⟩ := a
  have F : Fun K m q st f _ := ⟨⟨oc, od, kV, doc, pm, an, .ref c, ct, osl, rfl, lk, hcd⟩, hm.kp⟩
  exact ⟨f, _, hm, F.binds hb, ok lk hcd⟩
end
def AtQ (K : PySem.W.Frag) (mg : Str → Option Value) (x q : Str) (st : Stmt) : Prop := ∃ (f : Addr) (fd : FuncData), mg x = some (.ref f) ∧ Fun K q q st f fd
theorem AtQ.def {P : Program} {w : World} {K : PySem.W.Frag} {mg : Str → Option Value} {base : Heap} {CX : CXT} {k : Nat} {x q : Str} {ps : List Str} {sp : Sp} {st : Stmt} (a : AtQ K mg x q st)
    (hb : ∀ (kV doc pm : Value) (an : Option Addr) (cdv ct : Value) (us : List Value), us.length = ps.length → bindArgs (PySem.W.fnOf q q (defArgs st) (defBody st) (defScope st) .none kV doc pm an cdv ct) ⟨us, []⟩ = pure (ps.zip us))
    (h : ∀ f fd, Fun K q q st f fd → FnOk P w K mg base CX k f fd ps sp) : Def P w K mg base CX k x ps sp := by
  obtain ⟨f, fd, hm, F⟩ := a
  exact ⟨f, fd, hm, F.kp, F.binds hb, h f fd F⟩
theorem atQ_mk {K : PySem.W.Frag} {h : Heap} {mg : Str → Option Value} {x q : Str} {st : Stmt} {f : Addr} {oc : Value} {od an : Option Addr} {osl : Array (Option Value)} {kV doc pm cdv ct : Value} (X : K.In h) (G : h.Ns mainGlobals mg) (a : PySem.W.nsIn K mainGlobals x = some (some (.ref f)))
    (l : K.lookup f = some ⟨oc, od, .func (PySem.W.fnOf q q (defArgs st) (defBody st) (defScope st) .none kV doc pm an cdv ct), osl⟩) (c : PySem.W.codeIn K cdv q = true) (k : PySem.W.keepIn K (.ref f) = true) : AtQ K mg x q st :=
  ⟨f, _, PySem.W.mg_of X G a, fun_mk l c k⟩
theorem all_mk {l : PySem.W.OpenLaw} {w : World} {K : PySem.W.Frag} {h : Heap} {mg : Str → Option Value} {fa f C fI c0 P0 c1 P1 c2 P2 : Addr} {oc kV dc pm cdv ct oI kI dI pI cI tI : Value} {od an oD aI : Option Addr} {sl sI : Array (Option Value)} (X : K.In h) (G : h.Ns mainGlobals mg) (hfa : mg "law" = some (.ref fa))
    (T : Bk mg) (Co : Cs mg) (t : ClT K mg C) (iC : C8.InsC K C) (mk : L2.Mk K C fI)
    (lI : K.lookup fI = some ⟨oI, oD, .func (PySem.W.fnOf "__init__" "Folder.__init__" (defArgs sInit) (defBody sInit) (defScope sInit) .none kI dI pI aI cI tI), sI⟩) (gI : PySem.W.codeIn K cI "Folder.__init__" = true) (hI : PySem.W.keepIn K (.ref fI) = true)
    (a0 : At K mg "is_integer" sIsInt)
    (a1 : At K mg "is_number" sIsNum)
    (a2 : At K mg "is_body" sIsBody)
    (a3 : At K mg "is_mark" sIsMark)
    (a4 : At K mg "is_sign" sIsSign)
    (a5 : At K mg "is_signs" sIsSigns)
    (a6 : At K mg "is_numbers" sIsNums)
    (a7 : At K mg "_check_numbers" sCkNums)
    (a8 : At K mg "_with_sign" sWith)
    (a9 : At K mg "_without_sign" sWout)
    (a10 : At K mg "_check_carried" sCc)
    (a11 : At K mg "_carried" sCa)
    (a12 : At K mg "copied" sCop)
    (a13 : At K mg "moved" sMov)
    (a14 : At K mg "is_deed" sIsDeed)
    (a15 : At K mg "can_be_done" sCan)
    (a16 : At K mg "done" sDone)
    (a17 : At K mg "played" sPlayed)
    (a18 : At K mg "_law_cell_at" sCell)
    (a19 : At K mg "_law_well" sWell)
    (a20 : At K mg "_law_draw" sDraw)
    (a21 : At K mg "_law_one" sOne)
    (a22 : At K mg "_law_some" sSo)
    (a23 : At K mg "_law_deed" sDe)
    (a24 : At K mg "_law_due" sDu)
    (a25 : At K mg "_law_built" sBu)
    (m0 : AtM K C "letters" "Folder.letters" sLetters)
    (m1 : AtM K C "mark" "Folder.mark" sMark)
    (m2 : AtM K C "next_number" "Folder.next_number" sNext)
    (m3 : AtM K C "appended" "Folder.appended" sApp)
    (m4 : AtM K C "_copied" "Folder._copied" sCopied)
    (m5 : AtM K C "removed" "Folder.removed" sRem)
    (m6 : AtM K C "trimmed" "Folder.trimmed" sTrim)
    (m7 : AtM K C "__eq__" "Folder.__eq__" sEq)
    (m8 : AtM K C "_signed" "Folder._signed" sSig)
    (b0 : AtMC K C "added" "Folder.added" sAdd c0)
    (b1 : AtMC K C "taken" "Folder.taken" sTake c1)
    (b2 : AtMC K C "set_to" "Folder.set_to" sSet c2)
    (aL : PySem.W.nsIn K mainGlobals "law" = some (some (.ref f))) (lL : K.lookup f = some ⟨oc, od, .func (PySem.W.fnOf "law" "law" (defArgs sLaw) (defBody sLaw) (defScope sLaw) .none kV dc pm an cdv ct), sl⟩) (cL' : PySem.W.codeIn K cdv "law" = true) (kL : PySem.W.keepIn K (.ref f) = true)
    (hP : ∀ p ∈ ([(c0, P0), (c1, P1), (c2, P2)] : List (Addr × Addr)), h.get? p.2 = some { cls := .none, data := .fields #[] }) (nP : ∀ p ∈ ([(c0, P0), (c1, P1), (c2, P2)] : List (Addr × Addr)), K.lookup p.2 = none) (hC : ∀ p ∈ ([(c0, P0), (c1, P1), (c2, P2)] : List (Addr × Addr)), PySem.W.CodeHd h p.1 p.2) (ap : Ap P0 P1 P2) :
    LamX.LawAtS l w K CX0 12 63 "_law_script" mg fa h := by
  have e := hfa.symm.trans (PySem.W.mg_of X G aL)
  cases e
  refine ⟨PySem.W.fnOf "law" "law" (defArgs sLaw) (defBody sLaw) (defScope sLaw) .none kV dc pm an cdv ct, [(c0, P0), (c1, P1), (c2, P2)], spLaw K P0 P1 P2, hP, nP, hC, fun s u => .of_eq rfl,
    fun H a ns hl _ hH hS => ⟨a, ns, rfl, hS, hl, fun p hp => ?_, fun _ => rfl⟩, fun base hb _ hTB => ?_⟩
  · simp only [T3, List.mem_cons, List.not_mem_nil, or_false] at hp
    rcases hp with rfl | rfl | rfl
    · exact LamX.TabS.nil (hH (c0, P0) (by simp))
    · exact LamX.TabS.nil (hH (c1, P1) (by simp))
    · exact LamX.TabS.nil (hH (c2, P2) (by simp))
  have TS0 := hTB (c0, P0) (by simp)
  have TS1 := hTB (c1, P1) (by simp)
  have TS2 := hTB (c2, P2) (by simp)
  have d_is_integer : Def l.prog w K mg base CX0 1 "is_integer" pV spInt := a0.def (fun _ _ _ _ _ _ us hl => match us, hl with | [_], _ => rfl) fun f fd F => ok_isInt T F
  have d_is_number : Def l.prog w K mg base CX0 2 "is_number" pV spNum := a1.def (fun _ _ _ _ _ _ us hl => match us, hl with | [_], _ => rfl) fun f fd F => ok_isNum d_is_integer F
  have d_is_body : Def l.prog w K mg base CX0 2 "is_body" pV spBody := a2.def (fun _ _ _ _ _ _ us hl => match us, hl with | [_], _ => rfl) fun f fd F => ok_isBody d_is_integer F
  have d_is_mark : Def l.prog w K mg base CX0 2 "is_mark" pV spBody := a3.def (fun _ _ _ _ _ _ us hl => match us, hl with | [_], _ => rfl) fun f fd F => ok_isMark d_is_integer F
  have d_is_sign : Def l.prog w K mg base CX0 1 "is_sign" pV spSign := a4.def (fun _ _ _ _ _ _ us hl => match us, hl with | [_], _ => rfl) fun f fd F => ok_isSign T Co F
  have d_is_signs : Def l.prog w K mg base CX0 2 "is_signs" pV spSigns := a5.def (fun _ _ _ _ _ _ us hl => match us, hl with | [_], _ => rfl) fun f fd F => ok_isSigns T Co d_is_sign F
  have d_is_numbers : Def l.prog w K mg base CX0 3 "is_numbers" pV spNums := a6.def (fun _ _ _ _ _ _ us hl => match us, hl with | [_], _ => rfl) fun f fd F => ok_isNums T d_is_number F
  have d_check_numbers : Def l.prog w K mg base CX0 4 "_check_numbers" nCkNums spCkNums := a7.def (fun _ _ _ _ _ _ us hl => match us, hl with | [_], _ => rfl) fun f fd F => ok_ckNums d_is_numbers F
  have d_with_sign : Def l.prog w K mg base CX0 1 "_with_sign" nWith spWith := a8.def (fun _ _ _ _ _ _ us hl => match us, hl with | [_, _], _ => rfl) fun f fd F => ok_with T Co F
  have d_without_sign : Def l.prog w K mg base CX0 1 "_without_sign" nWith spWout := a9.def (fun _ _ _ _ _ _ us hl => match us, hl with | [_, _], _ => rfl) fun f fd F => ok_wout T F
  have dNew : MkD l.prog w K mg base C := by
    have F : Fun K "__init__" "Folder.__init__" sInit fI _ := fun_mk lI gI hI
    exact ⟨fI, _, mk, F.binds (fun _ _ _ _ _ _ us hl => match us, hl with | [_, _], _ => rfl), ok_init t d_is_number F⟩
  have m_letters : MDef l.prog w K mg base CX0 1 C "letters" nSelf (spLetters C) := m0.mdef (fun _ _ _ _ _ _ us hl => match us, hl with | [_], _ => rfl) fun f fd F => ok_letters T t F
  have m_mark : MDef l.prog w K mg base CX0 1 C "mark" nSelf (spMark C) := m1.mdef (fun _ _ _ _ _ _ us hl => match us, hl with | [_], _ => rfl) fun f fd F => ok_mark t F
  have m_next_number : MDef l.prog w K mg base CX0 1 C "next_number" nSelf (spNext C) := m2.mdef (fun _ _ _ _ _ _ us hl => match us, hl with | [_], _ => rfl) fun f fd F => ok_next t F
  have m_copied : MDef l.prog w K mg base CX0 5 C "_copied" nSelf (spCopied C) := m4.mdef (fun _ _ _ _ _ _ us hl => match us, hl with | [_], _ => rfl) fun f fd F => ok_copied t dNew F
  have m_appended : MDef l.prog w K mg base CX0 6 C "appended" pApp (spApp C) := m3.mdef (fun _ _ _ _ _ _ us hl => match us, hl with | [_, _, _], _ => rfl) fun f fd F => ok_app t d_is_body d_is_signs m_copied F
  have m_removed : MDef l.prog w K mg base CX0 6 C "removed" pRem (spRem C) := m5.mdef (fun _ _ _ _ _ _ us hl => match us, hl with | [_, _], _ => rfl) fun f fd F => ok_rem T t d_check_numbers m_copied F
  have m_trimmed : MDef l.prog w K mg base CX0 6 C "trimmed" pTrim (spTrim C) := m6.mdef (fun _ _ _ _ _ _ us hl => match us, hl with | [_, _], _ => rfl) fun f fd F => ok_trim T t d_is_mark m_copied F
  have m_eq : MDef l.prog w K mg base CX0 1 C "__eq__" nEq (spEq (FoEq C)) := m7.mdef (fun _ _ _ _ _ _ us hl => match us, hl with | [_, _], _ => rfl) fun f fd F => ok_eq T t iC F
  have DS : SgD K C := ⟨m8⟩
  have m_added : MDef l.prog w K mg base CX0 8 C "added" nAdd (spSgn C P0 P1 P2 (fun z ss => wG ss z)) := b0.mdef (fun _ _ _ _ _ _ us hl => match us, hl with | [_, _, _], _ => rfl) fun lk hcd => ok_add T t ap DS TS0 d_check_numbers d_is_sign d_with_sign m_copied lk hcd
  have m_taken : MDef l.prog w K mg base CX0 8 C "taken" nAdd (spSgn C P0 P1 P2 (fun z ss => nS ss z)) := b1.mdef (fun _ _ _ _ _ _ us hl => match us, hl with | [_, _, _], _ => rfl) fun lk hcd => ok_take T t ap DS TS1 d_check_numbers d_is_sign d_without_sign m_copied lk hcd
  have m_set_to : MDef l.prog w K mg base CX0 8 C "set_to" nSet (spSet C P0 P1 P2) := b2.mdef (fun _ _ _ _ _ _ us hl => match us, hl with | [_, _, _], _ => rfl) fun lk hcd => ok_set T t ap DS TS2 d_check_numbers d_is_signs m_copied lk hcd
  have d_check_carried : Def l.prog w K mg base CX0 5 "_check_carried" nCc (spCc C) := a10.def (fun _ _ _ _ _ _ us hl => match us, hl with | [_, _, _], _ => rfl) fun f fd F => ok_cc T t iC d_check_numbers F
  have d_carried : Def l.prog w K mg base CX0 7 "_carried" pCa (spCa C) := a11.def (fun _ _ _ _ _ _ us hl => match us, hl with | [_, _, _, _], _ => rfl) fun f fd F => ok_ca T t m_letters m_next_number m_appended m_removed F
  have d_copied : Def l.prog w K mg base CX0 8 "copied" nCc (spCop C false) := a12.def (fun _ _ _ _ _ _ us hl => match us, hl with | [_, _, _], _ => rfl) fun f fd F => ok_cop d_check_carried d_carried F
  have d_moved : Def l.prog w K mg base CX0 8 "moved" nCc (spCop C true) := a13.def (fun _ _ _ _ _ _ us hl => match us, hl with | [_, _, _], _ => rfl) fun f fd F => ok_mov d_check_carried d_carried F
  have d_is_deed : Def l.prog w K mg base CX0 4 "is_deed" pV spIsDeed := a14.def (fun _ _ _ _ _ _ us hl => match us, hl with | [_], _ => rfl) fun f fd F => ok_isDeed T d_is_body d_is_sign d_is_signs d_is_numbers d_is_mark F
  have d_can_be_done : Def l.prog w K mg base CX0 5 "can_be_done" nCan (spCan C) := a15.def (fun _ _ _ _ _ _ us hl => match us, hl with | [_, _], _ => rfl) fun f fd F => ok_can t m_mark d_is_deed F
  have d_done : Def l.prog w K mg base CX0 9 "done" pDone (spDone C P0 P1 P2) := a16.def (fun _ _ _ _ _ _ us hl => match us, hl with | [_, _], _ => rfl) fun f fd F => ok_done t m_appended m_added m_taken m_set_to m_removed m_trimmed F
  have d_played : Def l.prog w K mg base CX0 10 "played" pPlayed (spPlayed C P0 P1 P2) := a17.def (fun _ _ _ _ _ _ us hl => match us, hl with | [_, _], _ => rfl) fun f fd F => ok_played T t iC d_can_be_done d_done F
  have d_law_cell_at : Def l.prog w K mg base CX0 1 "_law_cell_at" nCell (spCell K) := a18.def (fun _ _ _ _ _ _ us hl => match us, hl with | [_, _], _ => rfl) fun f fd F => ok_cell T.toBj F
  have d_law_well : Def l.prog w K mg base CX0 1 "_law_well" nWell spWell := a19.def (fun _ _ _ _ _ _ us hl => match us, hl with | [_], _ => rfl) fun f fd F => ok_well T.toBj F
  have d_law_draw : Def l.prog w K mg base CX0 1 "_law_draw" pDraw spDraw := a20.def (fun _ _ _ _ _ _ us hl => match us, hl with | [_, _], _ => rfl) fun f fd F => ok_draw T.toBj F
  have d_law_one : Def l.prog w K mg base CX0 2 "_law_one" nOne spOne := a21.def (fun _ _ _ _ _ _ us hl => match us, hl with | [_, _], _ => rfl) fun f fd F => ok_one T.toBj d_law_draw F
  have d_law_some : Def l.prog w K mg base CX0 2 "_law_some" pSo spSo := a22.def (fun _ _ _ _ _ _ us hl => match us, hl with | [_], _ => rfl) fun f fd F => ok_so T d_law_draw F
  have d_law_deed : Def l.prog w K mg base CX0 3 "_law_deed" pDe (spDe C) := a23.def (fun _ _ _ _ _ _ us hl => match us, hl with | [_, _], _ => rfl) fun f fd F => ok_de T t m_next_number m_mark d_law_draw d_law_one d_law_some F
  have d_law_due : Def l.prog w K mg base CX0 11 "_law_due" pDu (spDu C P0 P1 P2) := a24.def (fun _ _ _ _ _ _ us hl => match us, hl with | [_, _, _, _], _ => rfl) fun f fd F => ok_du T t m_letters m_next_number d_played F
  have d_law_built : Def l.prog w K mg base CX0 11 "_law_built" pBu (spBu C P0 P1 P2) := a25.def (fun _ _ _ _ _ _ us hl => match us, hl with | [_, _], _ => rfl) fun f fd F => ok_bu T t dNew d_law_draw d_law_deed d_played F
  exact ok_law T t d_law_cell_at d_law_well d_law_draw d_law_one d_law_built d_law_due d_moved d_copied m_letters m_mark m_next_number m_eq (fun_mk lL cL' kL)
theorem walk_tops {l : PySem.W.OpenLaw} {n k : Nat} {q : Program} {loose : List Str} {XP : (Str → Option Value) → Heap → Prop} {YP : World → Heap → Prop} {d : DefRec} {K : Params → PySem.W.Frag} {x : Str}
    (hn : l.most = some n) (hn2 : n ≤ sizeLine) (hdf : d.params.defaults = []) (hr : Room k callerA) (hY : ∀ (w : World) (h : Heap), YP w h → (K w.params).In h)
    (F : ∀ (w : World) (s : Shared) (mg mb : Str → Option Value) (fa : Addr) (h : Heap), (K w.params).In h → YP w h → PyProof.Rows.Top q (PySem.W.looseW q loose) (ExcName.means s.heap) mg mb h → mg d.name = some (.ref fa) → LamX.LawAtS l w (K w.params) CX0 k n x mg fa h) :
    PySem.W.WalkO q loose XP YP l.row.toRowW d [] (fun f vs => PySem.call f vs) := by
  refine Att.attach_callB hn hdf fun w s0 s1 mg mb fa o pm cd doc a vs ns G Y ho hd hcd hmg hobj hints hlen hbits hg => ?_
  have KX := hY w _ Y
  obtain ⟨fd, cs, sp, hT, nT, C, hb, hsp, hF⟩ := F w s0 mg mb fa _ KX Y G.T hmg
  exact LamX.law_callTs KX G.T.g G.T.b G.T.builtins G.T.nolimit hg hT nT C G.T.bmain hobj hints (Nat.le_trans hlen hn2) hr hF hb (fun H hH hS => hsp H a ns hlen hbits hH hS) fun _ _ _ z => z
end K1


open PySem PySem.W PyProof.Rows
set_option Elab.async false
set_option linter.all false
set_option maxRecDepth 100000 in
set_option maxHeartbeats 0 in
theorem PySem.Challenge.cw_mailtide_k09_whole_copies_and_moves_holds : PySem.Challenge.rw_mailtide_k09_whole_copies_and_moves.Holds := by
  w_on; o_law; k_head; (case hw => w_witness2)
  k_fill
  refine K1.walk_tops (l := PySem.Challenge.rw_mailtide_k09_whole_copies_and_moves) (n := 63) (k := 12) (x := "_law_script") rfl (by decide) rfl ⟨rfl, by decide, by decide⟩ (fun w h Y => PySem.W.km_in_of Y) ?F
  intro w s mg mb fa h KX Y G hmg
  have hTab := PySem.W.km_tabs_of Y
  refine' K1.all_mk (c0 := 253) (P0 := 249) (c1 := 260) (P1 := 256) (c2 := 267) (P2 := 263) KX G.g hmg ?T ?Co ?t ?iC ?mk ?lI ?gI ?hI ?a0 ?a1 ?a2 ?a3 ?a4 ?a5 ?a6 ?a7 ?a8 ?a9 ?a10 ?a11 ?a12 ?a13 ?a14 ?a15 ?a16 ?a17 ?a18 ?a19 ?a20 ?a21 ?a22 ?a23 ?a24 ?a25 ?m0 ?m1 ?m2 ?m3 ?m4 ?m5 ?m6 ?m7 ?m8 ?b0 ?b1 ?b2 ?aL ?lL ?cL ?kL (List.forall_mem_cons.mpr ⟨hTab _ (by simp), (List.forall_mem_cons.mpr ⟨hTab _ (by simp), (List.forall_mem_cons.mpr ⟨hTab _ (by simp), fun _ z => nomatch z⟩)⟩)⟩) (List.forall_mem_cons.mpr ⟨?n0N, (List.forall_mem_cons.mpr ⟨?n1N, (List.forall_mem_cons.mpr ⟨?n2N, fun _ z => nomatch z⟩)⟩)⟩) (List.forall_mem_cons.mpr ⟨PySem.W.codeHd_of_K KX ?h0H, (List.forall_mem_cons.mpr ⟨PySem.W.codeHd_of_K KX ?h1H, (List.forall_mem_cons.mpr ⟨PySem.W.codeHd_of_K KX ?h2H, fun _ z => nomatch z⟩)⟩)⟩) ⟨by decide, by decide, by decide⟩
  case T =>
    refine' ⟨⟨⟨PySem.W.mg_none_of KX G.g ?z0, PySem.W.mg_none_of KX G.g ?z1, PySem.W.mg_none_of KX G.g ?z2, PySem.W.mg_none_of KX G.g ?z3, PySem.W.mg_none_of KX G.g ?z4, PySem.W.mg_none_of KX G.g ?z5, PySem.W.mg_none_of KX G.g ?z6, PySem.W.mg_none_of KX G.g ?z7, PySem.W.mg_none_of KX G.g ?z8, PySem.W.mg_none_of KX G.g ?z9, PySem.W.mg_none_of KX G.g ?z10, PySem.W.mg_none_of KX G.g ?z11⟩, PySem.W.mg_none_of KX G.g ?z12, PySem.W.mg_none_of KX G.g ?z13⟩, PySem.W.mg_none_of KX G.g ?z14, PySem.W.mg_none_of KX G.g ?z15⟩
    (case z0 => k_is); (case z1 => k_is); (case z2 => k_is); (case z3 => k_is); (case z4 => k_is); (case z5 => k_is); (case z6 => k_is); (case z7 => k_is); (case z8 => k_is); (case z9 => k_is); (case z10 => k_is); (case z11 => k_is); (case z12 => k_is); (case z13 => k_is); (case z14 => k_is); (case z15 => k_is)
  case Co =>
    refine' ⟨K1.cs_mk KX G.g ?v0 ?w0, K1.cs_mk KX G.g ?v1 ?w1⟩
    (case v0 => k_is); (case w0 => rfl); (case v1 => k_is); (case w1 => rfl)
  case t =>
    refine' ⟨⟨?c0, ?c1, ?c2, ?c3⟩, PySem.W.mg_of KX G.g ?c4, ?n0, ?n1, ?n2, ?n3, ?n4, ?n5⟩
    (case c4 => k_is); (case c0 => k_is); (case c1 => k_is); (case c2 => k_is); (case c3 => k_is)
    (case n0 => show PySem.W.findIn _ _ _ = some none; k_is); (case n1 => show PySem.W.findIn _ _ _ = some none; k_is); (case n2 => show PySem.W.findIn _ _ _ = some none; k_is); (case n3 => show PySem.W.findIn _ _ _ = some none; k_is); (case n4 => show PySem.W.findIn _ _ _ = some none; k_is); (case n5 => show PySem.W.findIn _ _ _ = some none; k_is)
  case iC =>
    refine' ⟨⟨?c0, ?c1, ?c2, ?c3⟩, ?d0, ?d1, ?d2, ?d3, ?d4⟩
    (case c0 => k_is); (case c1 => k_is); (case c2 => k_is); (case c3 => k_is)
    (case d0 => k_is); (case d1 => k_is); (case d2 => k_is); (case d3 => k_is); (case d4 => first | k_is | rfl | kernel_rfl)
  case mk =>
    refine' ⟨?e0, ?e1, ?e2, ?e3⟩
    (case e0 => k_is); (case e1 => k_is); (case e2 => k_is); (case e3 => k_is)
  (case lI => k_is); (case gI => k_is); (case hI => k_is)
  case a0 =>
    refine' K1.at_mk KX G.g ?b ?l ?c ?k
    (case b => k_is); (case l => k_is); (case c => k_is); (case k => k_is)
  case a1 =>
    refine' K1.at_mk KX G.g ?b ?l ?c ?k
    (case b => k_is); (case l => k_is); (case c => k_is); (case k => k_is)
  case a2 =>
    refine' K1.at_mk KX G.g ?b ?l ?c ?k
    (case b => k_is); (case l => k_is); (case c => k_is); (case k => k_is)
  case a3 =>
    refine' K1.at_mk KX G.g ?b ?l ?c ?k
    (case b => k_is); (case l => k_is); (case c => k_is); (case k => k_is)
  case a4 =>
    refine' K1.at_mk KX G.g ?b ?l ?c ?k
    (case b => k_is); (case l => k_is); (case c => k_is); (case k => k_is)
  case a5 =>
    refine' K1.at_mk KX G.g ?b ?l ?c ?k
    (case b => k_is); (case l => k_is); (case c => k_is); (case k => k_is)
  case a6 =>
    refine' K1.at_mk KX G.g ?b ?l ?c ?k
    (case b => k_is); (case l => k_is); (case c => k_is); (case k => k_is)
  case a7 =>
    refine' K1.at_mk KX G.g ?b ?l ?c ?k
    (case b => k_is); (case l => k_is); (case c => k_is); (case k => k_is)
  case a8 =>
    refine' K1.at_mk KX G.g ?b ?l ?c ?k
    (case b => k_is); (case l => k_is); (case c => k_is); (case k => k_is)
  case a9 =>
    refine' K1.at_mk KX G.g ?b ?l ?c ?k
    (case b => k_is); (case l => k_is); (case c => k_is); (case k => k_is)
  case a10 =>
    refine' K1.at_mk KX G.g ?b ?l ?c ?k
    (case b => k_is); (case l => k_is); (case c => k_is); (case k => k_is)
  case a11 =>
    refine' K1.at_mk KX G.g ?b ?l ?c ?k
    (case b => k_is); (case l => k_is); (case c => k_is); (case k => k_is)
  case a12 =>
    refine' K1.at_mk KX G.g ?b ?l ?c ?k
    (case b => k_is); (case l => k_is); (case c => k_is); (case k => k_is)
  case a13 =>
    refine' K1.at_mk KX G.g ?b ?l ?c ?k
    (case b => k_is); (case l => k_is); (case c => k_is); (case k => k_is)
  case a14 =>
    refine' K1.at_mk KX G.g ?b ?l ?c ?k
    (case b => k_is); (case l => k_is); (case c => k_is); (case k => k_is)
  case a15 =>
    refine' K1.at_mk KX G.g ?b ?l ?c ?k
    (case b => k_is); (case l => k_is); (case c => k_is); (case k => k_is)
  case a16 =>
    refine' K1.at_mk KX G.g ?b ?l ?c ?k
    (case b => k_is); (case l => k_is); (case c => k_is); (case k => k_is)
  case a17 =>
    refine' K1.at_mk KX G.g ?b ?l ?c ?k
    (case b => k_is); (case l => k_is); (case c => k_is); (case k => k_is)
  case a18 =>
    refine' K1.at_mk KX G.g ?b ?l ?c ?k
    (case b => k_is); (case l => k_is); (case c => k_is); (case k => k_is)
  case a19 =>
    refine' K1.at_mk KX G.g ?b ?l ?c ?k
    (case b => k_is); (case l => k_is); (case c => k_is); (case k => k_is)
  case a20 =>
    refine' K1.at_mk KX G.g ?b ?l ?c ?k
    (case b => k_is); (case l => k_is); (case c => k_is); (case k => k_is)
  case a21 =>
    refine' K1.at_mk KX G.g ?b ?l ?c ?k
    (case b => k_is); (case l => k_is); (case c => k_is); (case k => k_is)
  case a22 =>
    refine' K1.at_mk KX G.g ?b ?l ?c ?k
    (case b => k_is); (case l => k_is); (case c => k_is); (case k => k_is)
  case a23 =>
    refine' K1.at_mk KX G.g ?b ?l ?c ?k
    (case b => k_is); (case l => k_is); (case c => k_is); (case k => k_is)
  case a24 =>
    refine' K1.at_mk KX G.g ?b ?l ?c ?k
    (case b => k_is); (case l => k_is); (case c => k_is); (case k => k_is)
  case a25 =>
    refine' K1.at_mk KX G.g ?b ?l ?c ?k
    (case b => k_is); (case l => k_is); (case c => k_is); (case k => k_is)
  case m0 =>
    refine' K1.atM_mk ?b ?n ?l ?c ?k
    (case b => k_is); (case n => k_is); (case l => k_is); (case c => k_is); (case k => k_is)
  case m1 =>
    refine' K1.atM_mk ?b ?n ?l ?c ?k
    (case b => k_is); (case n => k_is); (case l => k_is); (case c => k_is); (case k => k_is)
  case m2 =>
    refine' K1.atM_mk ?b ?n ?l ?c ?k
    (case b => k_is); (case n => k_is); (case l => k_is); (case c => k_is); (case k => k_is)
  case m3 =>
    refine' K1.atM_mk ?b ?n ?l ?c ?k
    (case b => k_is); (case n => k_is); (case l => k_is); (case c => k_is); (case k => k_is)
  case m4 =>
    refine' K1.atM_mk ?b ?n ?l ?c ?k
    (case b => k_is); (case n => k_is); (case l => k_is); (case c => k_is); (case k => k_is)
  case m5 =>
    refine' K1.atM_mk ?b ?n ?l ?c ?k
    (case b => k_is); (case n => k_is); (case l => k_is); (case c => k_is); (case k => k_is)
  case m6 =>
    refine' K1.atM_mk ?b ?n ?l ?c ?k
    (case b => k_is); (case n => k_is); (case l => k_is); (case c => k_is); (case k => k_is)
  case m7 =>
    refine' K1.atM_mk ?b ?n ?l ?c ?k
    (case b => k_is); (case n => k_is); (case l => k_is); (case c => k_is); (case k => k_is)
  case m8 =>
    refine' K1.atM_mk ?b ?n ?l ?c ?k
    (case b => k_is); (case n => k_is); (case l => k_is); (case c => k_is); (case k => k_is)
  case b0 =>
    refine' K1.atMC_mk ?b ?n ?l ?c ?k
    (case b => k_is); (case n => k_is); (case l => k_is); (case c => k_is); (case k => k_is)
  case b1 =>
    refine' K1.atMC_mk ?b ?n ?l ?c ?k
    (case b => k_is); (case n => k_is); (case l => k_is); (case c => k_is); (case k => k_is)
  case b2 =>
    refine' K1.atMC_mk ?b ?n ?l ?c ?k
    (case b => k_is); (case n => k_is); (case l => k_is); (case c => k_is); (case k => k_is)
  (case aL => k_is); (case lL => k_is); (case cL => k_is); (case kL => k_is)
  (case n0N => first | kernel_rfl | rfl)
  (case h0H => first | kernel_rfl | rfl)
  (case n1N => first | kernel_rfl | rfl)
  (case h1H => first | kernel_rfl | rfl)
  (case n2N => first | kernel_rfl | rfl)
  (case h2H => first | kernel_rfl | rfl)

