import PyProof.Rows.All
import Wide.All
import OpenK.AllK
import Wide.FinOn
import PySem.Challenge.RW_mailtide_k56_whole_ways_by_way_of_sights
import HandS.ForMost
import HandS.Exc
import HandS.TryOnly
import HandS.TryMany
import HandS.Lambda
import HandS.EndTab
import HandS.IsInst
import HandS.SortRule
import HandS.SortInts
import HandS.StrMore
import HandS.Conv
import HandS.Wide
import HandS.Flow
import HandS.Walk
import HandS.TupAny
import HandS.ListEq
import HandS.DeepEq
import KE.KExcSuper
import KE.GoesMore
import PyProof.Draws
import HandS.ForExc
import HandS.Zip
import HandS.DictTup
import HandS.DictComp
import KE.KDictDisplayH
import KE.KDictCopyH
import PyProof.WalkInts
import PyProof.MinMaxWalk
import HandS.Style
import HandS.WideBits
set_option Elab.async false
set_option linter.all false
set_option maxRecDepth 100000
namespace K1
open PySem PySem.Spec PyProof.Rows L2
def topS (i : Nat) : Stmt := PySem.Challenge.pw_mailtide_k56_whole_ways_by_way_of_sights.main.body.getD i (.Pass ⟨0, 0, 0, 0⟩)
abbrev st_TideError : Stmt := topS 1
abbrev st_BadValue : Stmt := topS 2
abbrev st_TooLarge : Stmt := topS 3
abbrev st_is_integer : Stmt := topS 6
abbrev st_is_number : Stmt := topS 7
abbrev st_is_mark : Stmt := topS 8
abbrev st_between : Stmt := topS 11
abbrev st_ways : Stmt := topS 12
abbrev st_most_at_once : Stmt := topS 13
abbrev st_fewest_at_once : Stmt := topS 14
abbrev st__between : Stmt := topS 15
abbrev st__increase : Stmt := topS 16
abbrev st__check_sights : Stmt := topS 17
abbrev st__is_sight : Stmt := topS 18
abbrev st__law_cell_at : Stmt := topS 20
abbrev st__law_well : Stmt := topS 21
abbrev st__law_draw : Stmt := topS 22
abbrev st__law_one : Stmt := topS 23
abbrev st__law_middle : Stmt := topS 24
abbrev st__law_pair : Stmt := topS 25
abbrev st__law_right : Stmt := topS 26
abbrev st__law_product : Stmt := topS 27
abbrev st__law_far_right : Stmt := topS 28
abbrev st_law : Stmt := topS 29
end K1


set_option Elab.async false
set_option linter.all false
set_option maxRecDepth 100000
set_option maxHeartbeats 4000000
namespace K1
open PySem PySem.Spec PyProof.Rows L2
/-! ### a def by its name -/
structure Def (P : Program) (w : World) (K : PySem.W.Frag) (mg : Str → Option Value) (base : Heap) (CX : CXT) (k : Nat) (x : Str) (ps : List Str) (sp : Sp) : Prop where
  ex : ∃ (f : Addr) (fd : FuncData), mg x = some (.ref f) ∧ PySem.W.keepIn K (.ref f) = true ∧ Binds K fd ps [] ∧ FnOk P w K mg base CX k f fd ps sp
section
variable {X : Cx} {CX : CXT} {k : Nat} {ps : List Str} {sp : Sp} {E : XK} {x : Str} {p pos : Pos} {e : Expr} {es : List Expr} {t : TA}
theorem pe_def (D : Def X.prog X.w X.K X.mg X.base CX k x ps sp) (hr : Room k X.A) (hg : Gl X x) (hx : Passes CX X E)
    (ha : PA X (e :: es) t) (hdb : (x == ("__debug__" : Str)) = false := by decide) (he : starEach (e :: es) X.env = (false, eval e X.env) :: starEach es X.env := by rfl) (hpl : (backTo pos (starEach es X.env)).any (·.1) = false := by rfl) :
    PE X (.Call (.Name x p) (e :: es) [] pos) (tCall sp [] E t) := by
  obtain ⟨f, fd, hm, hk, hb, F⟩ := D.ex
  exact pe_call F hr hg hm hk hb .nil hx ha hdb he hpl
theorem pe_def0 (D : Def X.prog X.w X.K X.mg X.base CX k x ps sp) (hr : Room k X.A) (hg : Gl X x) (hx : Passes CX X E)
    (hdb : (x == ("__debug__" : Str)) = false := by decide) : PE X (.Call (.Name x p) [] [] pos) (tCall sp [] E tNil) := by
  obtain ⟨f, fd, hm, hk, hb, F⟩ := D.ex
  exact pe_call0 F hr hg hm hk hb .nil hx hdb
end
/-! ### heaps: all that is tracked but p stays -/
def Ext (p : Addr) (H H' : Hp) : Prop := ∀ b o, b ≠ p → H b = some o → H' b = some o
theorem Ext.refl {p : Addr} (H : Hp) : Ext p H H := fun _ _ _ h => h
theorem Ext.trans {p : Addr} {H H1 H2 : Hp} (a : Ext p H H1) (b : Ext p H1 H2) : Ext p H H2 := fun c o n h => b c o n (a c o n h)
theorem Ext.self {p : Addr} {H H' : Hp} {o : HO} (a : Ext p H H') : Ext p H (upd H' p o) := fun c u n h => by rw [upd_ne n]; exact a c u n h
theorem Ext.new {p q : Addr} {H H' : Hp} {o : HO} (a : Ext p H H') (h : H' q = none) : Ext p H (upd H' q o) := fun c u n e => by
  have e' := a c u n e
  rw [upd_ne (ne_of_none e' h)]; exact e'
theorem Ext.mut {p q : Addr} {H H' : Hp} {o : HO} (a : Ext p H H') (h : H q = none) : Ext p H (upd H' q o) := fun c u n e => by
  rw [upd_ne (ne_of_none e h)]; exact a c u n e
theorem Ext.free {p q : Addr} {H H' : Hp} (a : Ext p H H') (h : H' q = none) (n : q ≠ p) : H q = none := by
  cases e : H q with
  | none => rfl
  | some o => rw [a q o n e] at h; cases h
theorem same_ext {p : Addr} {H H' : Hp} (a : Same H H') : Ext p H H' := fun b o _ h => a b o h
theorem same_new {q : Addr} {H : Hp} {o : HO} (h : H q = none) : Same H (upd H q o) := fun c u e => by
  rw [upd_ne (ne_of_none e h)]; exact e
theorem _root_.L2.Same.new {q : Addr} {H H' : Hp} {o : HO} (a : Same H H') (h : H' q = none) : Same H (upd H' q o) := a.trans (same_new h)
theorem _root_.L2.Same.mut {q : Addr} {H H' : Hp} {o : HO} (a : Same H H') (h : H q = none) : Same H (upd H' q o) := fun c u e => by
  rw [upd_ne (ne_of_none e h)]; exact a c u e
theorem lt1 (n : Nat) (h : n ≤ 100000) : n ≤ sizeLine := Nat.le_trans h (by decide)
theorem lt2 (n : Nat) (h : n ≤ 100000) : n < sizeLine := Nat.lt_of_le_of_lt h (by decide)
/-- a well: three ints -/
def WellAt (H : Hp) (p : Addr) : Prop := ∃ c m t : Int, H p = some (.lst [.int c, .int m, .int t])
theorem WellAt.new {H : Hp} {p q : Addr} {o : HO} (w : WellAt H p) (h : H q = none) : WellAt (upd H q o) p := by
  obtain ⟨c, m, t, e⟩ := w
  exact ⟨c, m, t, by rw [upd_ne (ne_of_none e h)]; exact e⟩
theorem WellAt.ne {H : Hp} {p q : Addr} (w : WellAt H p) (h : H q = none) : q ≠ p := by
  obtain ⟨c, m, t, e⟩ := w
  exact (ne_of_none e h).symm
theorem WellAt.upd {H : Hp} {p q : Addr} {o : HO} (w : WellAt H p) (h : q ≠ p) : WellAt (upd H q o) p := by
  obtain ⟨c, m, t, e⟩ := w
  exact ⟨c, m, t, by rw [upd_ne h.symm]; exact e⟩
theorem sq {K : PySem.W.Frag} {H : Hp} {a : Addr} {xs : List V} (h : H a = some (.lst xs)) : SqL K H a xs := .inl (.inl h)
theorem st {K : PySem.W.Frag} {H : Hp} {a : Addr} {xs : List V} (h : H a = some (.tup xs)) : SqT K H a xs := .inl (.inl h)
/-- names that the top leaves to the built-ins -/
structure Bi (mg : Str → Option Value) : Prop where
  int : mg "int" = none
  len : mg "len" = none
  str : mg "str" = none
  range : mg "range" = none
  max : mg "max" = none
  min : mg "min" = none
  sorted : mg "sorted" = none
  tuple : mg "tuple" = none
  list : mg "list" = none
  enumerate : mg "enumerate" = none
  isinstance : mg "isinstance" = none
  bool : mg "bool" = none
end K1
namespace K1
open PySem PySem.Spec PyProof.Rows L2
/-- a def of the text stands at its name -/
def At (K : PySem.W.Frag) (mg : Str → Option Value) (x : Str) (st : Stmt) : Prop := ∃ (f : Addr) (fd : FuncData), mg x = some (.ref f) ∧ Fun K x x st f fd
theorem At.def {P : Program} {w : World} {K : PySem.W.Frag} {mg : Str → Option Value} {base : Heap} {CX : CXT} {k : Nat} {x : Str} {ps : List Str} {sp : Sp} {st : Stmt} (a : At K mg x st)
    (hb : ∀ (kV doc pm : Value) (an : Option Addr) (cdv ct : Value) (us : List Value), us.length = ps.length → bindArgs (PySem.W.fnOf x x (defArgs st) (defBody st) (defScope st) .none kV doc pm an cdv ct) ⟨us, []⟩ = pure (ps.zip us))
    (h : ∀ f fd, Fun K x x st f fd → FnOk P w K mg base CX k f fd ps sp) : Def P w K mg base CX k x ps sp := by
  obtain ⟨f, fd, hm, F⟩ := a
  exact ⟨f, fd, hm, F.kp, F.binds hb, h f fd F⟩
end K1
namespace K1
open PySem PySem.Spec PyProof.Rows L2
def G : Int := 999999999999999999999999999999
/-- numbers that are there -/
structure There (ns : List Int) : Prop where
  asc : ns.Pairwise (· < ·)
  rng : ∀ n ∈ ns, 1 ≤ n ∧ n ≤ G
  len : ns.length ≤ 200
theorem getD_map {ns : List Int} {i : Nat} {y : V} (h : (ns.map V.int)[i]? = some y) : ∃ z, ns[i]? = some z ∧ y = .int z := by
  rw [List.getElem?_map] at h
  cases e : ns[i]? with
  | none => rw [e] at h; cases h
  | some z => rw [e] at h; exact ⟨z, rfl, (Option.some.inj h).symm⟩
theorem take_more {α : Type} {l : List α} {i : Nat} {x : α} (h : l[i]? = some x) : l.take (i + 1) = l.take i ++ [x] := by
  rw [List.take_add_one, h]; rfl
theorem lt_of_get {α : Type} {l : List α} {i : Nat} {x : α} (h : l[i]? = some x) : i < l.length := (List.getElem?_eq_some_iff.mp h).1
end K1
namespace K1
open PySem PySem.Spec PyProof.Rows L2
/-- a comprehension without a test -/
theorem tyes {σ : L2.St} {H : Hp} {A B : Hp → Prop} (h : A H) : tYes σ H (fun b H3 => if b = true then A H3 else B H3) := by
  show (if true = true then A H else B H)
  rw [if_pos rfl]
  exact h
/-- a test whose answer is known -/
theorem itbT {c : Bool} {A B : Prop} (hc : c = true) (h : A) : if c = true then A else B := by
  rw [if_pos hc]
  exact h
theorem itbF {c : Bool} {A B : Prop} (hc : c = false) (h : B) : if c = true then A else B := by
  rw [hc, if_neg Bool.false_ne_true]
  exact h
end K1
namespace K1
open PySem PySem.Spec PyProof.Rows L2
/-! ### rules with the written part by its name (for blocks) -/
section
variable {X : Cx} {K : PySem.W.Frag}
theorem call_lenK (h : X.K = K) : CallR X (.builtin "len") (fun xs H Q => ∃ p ys, xs = [.ref p] ∧ (SqL K H p ys ∨ SqT K H p ys) ∧ Q (.int ys.length) H) := by
  subst h; exact call_len_seq
theorem ix_listK (h : X.K = K) : IxR X (rIxL K) := by subst h; exact ix_list
theorem ix_tupK (h : X.K = K) : IxR X (rIxT K) := by subst h; exact ix_tup
theorem op_in_seqK (h : X.K = K) : OpR X (compareOp .In) (rIn K false) := by subst h; exact op_in_seq
theorem op_notIn_seqK (h : X.K = K) : OpR X (compareOp .NotIn) (rIn K true) := by subst h; exact op_notIn_seq
theorem op_eqDK (h : X.K = K) (hu : X.A.units + 64 < cLine) : OpR X (compareOp .Eq) (rEqD K) := by subst h; exact op_eqD hu
theorem op_neDK (h : X.K = K) (hu : X.A.units + 64 < cLine) : OpR X (compareOp .NotEq) (rNeD K) := by subst h; exact op_neD hu
theorem pi_listK {tg l : Expr} {tl : TE} (h : X.K = K) (hl : PE X l tl) : PI X tg l (iList K tl) := by subst h; exact pi_list hl
theorem pi_tupK {tg l : Expr} {tl : TE} (h : X.K = K) (hl : PE X l tl) : PI X tg l (iTup K tl) := by subst h; exact pi_tup hl
theorem call_list_ofK (h : X.K = K) : CallR X (.type "list") (fun xs H Q => ∃ p ys, xs = [.ref p] ∧ (SqL K H p ys ∨ SqT K H p ys) ∧ ∀ l, H l = none → Q (.ref l) (upd H l (.lst ys))) := by
  subst h; exact call_list_of
theorem call_tuple_ofK (h : X.K = K) : CallR X (.type "tuple") (fun xs H Q => ∃ p ys, xs = [.ref p] ∧ ((SqL K H p ys ∧ ∀ l, H l = none → Q (.ref l) (upd H l (.tup ys))) ∨ (SqT K H p ys ∧ Q (.ref p) H))) := by
  subst h; exact call_tuple_of
theorem pe_joinK {o e : Expr} {to te : TE} {apos pos : Pos} (h : X.K = K) (ho : PE X o to) (he : PE X e te) (hs : starEach [e] X.env = [(false, eval e X.env)] := by rfl) (hbase : attributeBase o "join" X.env (eval o X.env) = eval o X.env := by rfl) (hline : (apos.endLine == pos.line) = true := by rfl) :
    PE X (.Call (.Attribute o "join" apos) [e] [] pos) (tM1 (fun x xs H Q => ∃ a p, ∃ ys : List Str, x = .str a ∧ xs = [.ref p] ∧ (SqL K H p (ys.map V.str) ∨ SqT K H p (ys.map V.str)) ∧
      (ys.map (·.length)).sum + ys.length * a.length ≤ 16777216 ∧ Q (.str (Txt.join a ys)) H) to te) := by
  subst h; exact pe_join ho he hs hbase hline
end
end K1
namespace K1
open PySem PySem.Spec PyProof.Rows L2
section
variable {X : Cx} {K : PySem.W.Frag}
theorem cr_minK (h : X.K = K) (hc : X.calm = true) : CallR X (.builtin "min") (rMin K) := by subst h; exact cr_min hc
theorem cr_maxK (h : X.K = K) (hc : X.calm = true) : CallR X (.builtin "max") (rMax K) := by subst h; exact cr_max hc
end
/-! ### data that are compared -/
theorem dp_ints {K : PySem.W.Frag} {H : Hp} : ∀ ns : List Int, DpAll K H (ns.map V.int) (ns.map PyData.int)
  | [] => .nil
  | n :: r => .cons (.int n) (dp_ints r)
theorem dp_list {K : PySem.W.Frag} {H : Hp} {a : Addr} {ns : List Int} (h : SqL K H a (ns.map V.int)) : Dp K H (.ref a) (.list (ns.map PyData.int)) := .lst h (dp_ints ns)
theorem lay_ints : ∀ ns : List Int, PyData.canLayAll0 (ns.map PyData.int) = true
  | [] => by rfl
  | n :: r => by
    show (PyData.canLay0 (.int n) && PyData.canLayAll0 (r.map PyData.int)) = true
    rw [lay_ints r]; rfl
theorem depth_ints : ∀ ns : List Int, PyData.depthAll (ns.map PyData.int) = 0
  | [] => by rfl
  | n :: r => by
    show max (PyData.depth (.int n)) (PyData.depthAll (r.map PyData.int)) = 0
    rw [depth_ints r]; rfl
theorem shaped_ints (ns : List Int) : SeqAt.shaped (.list (ns.map PyData.int)) = true := by
  unfold SeqAt.shaped
  have h1 : PyData.canLay0 (.list (ns.map PyData.int)) = true := lay_ints ns
  have h2 : PyData.depth (.list (ns.map PyData.int)) = 1 := by
    show PyData.depthAll (ns.map PyData.int) + 1 = 1
    rw [depth_ints]
  rw [h1, h2]; rfl
theorem eqv_ints : ∀ xs ys : List Int, PyData.eqv (.list (xs.map PyData.int)) (.list (ys.map PyData.int)) = decide (xs = ys) := by
  have h : ∀ xs ys : List Int, PyData.eqvAll (xs.map PyData.int) (ys.map PyData.int) = decide (xs = ys) := by
    intro xs
    induction xs with
    | nil => intro ys; cases ys <;> simp [PyData.eqvAll]
    | cons x r ih =>
      intro ys
      cases ys with
      | nil => simp [PyData.eqvAll]
      | cons y t =>
        show (PyData.eqv (.int x) (.int y) && PyData.eqvAll (r.map PyData.int) (t.map PyData.int)) = decide (x :: r = y :: t)
        rw [ih, show PyData.eqv (.int x) (.int y) = (x == y) by simp [PyData.eqv]]
        by_cases e : x = y <;> by_cases e2 : r = t <;> simp [e, e2]
  intro xs ys
  show PyData.eqvAll (xs.map PyData.int) (ys.map PyData.int) = _
  exact h xs ys
theorem inV_ints (n : Int) : ∀ ns : List Int, inV (.int n) (ns.map V.int) = decide (n ∈ ns)
  | [] => by simp [inV]
  | m :: r => by
    have ih := inV_ints n r
    unfold inV at ih ⊢
    rw [List.map_cons, List.any_cons, ih]
    by_cases e : m = n
    · subst e; simp [eqV]
    · have e' : ¬ n = m := fun h => e h.symm
      simp [eqV, e, e']
theorem flat_ints : ∀ ns : List Int, (ns.map V.int).all flatV = true
  | [] => rfl
  | m :: r => by rw [List.map_cons, List.all_cons, flat_ints r]; rfl
/-- a list by a filter -/
def FiltBy (ns : List Int) (P : Int → Prop) (rs : List Int) : Prop := ∃ p : Int → Bool, (∀ n ∈ ns, (p n = true ↔ P n)) ∧ rs = ns.filter p
theorem FiltBy.eq {ns rs ts : List Int} {P R : Int → Prop} (h1 : FiltBy ns P rs) (h2 : FiltBy ns R ts) (h : ∀ n ∈ ns, (P n ↔ R n)) : rs = ts := by
  obtain ⟨p, hp, rfl⟩ := h1
  obtain ⟨q, hq, rfl⟩ := h2
  refine List.filter_congr fun n hn => ?_
  have a := hp n hn
  have b := hq n hn
  have c := h n hn
  cases e : p n <;> cases e2 : q n <;> simp_all
end K1


set_option Elab.async false
set_option linter.all false
set_option maxRecDepth 100000
set_option maxHeartbeats 4000000
/-! Own errors below an own error below ValueError, whose __init__ says super().__init__(a text) and then stores its one argument. -/
namespace PySem
namespace Tide
open PySem.W PySem.Calls PyProof.Rows PySem.HandSPX
def iA (fl : Str) (p1 p2 : Pos) : Arguments := { posonlyargs := [], args := [{ arg := "self", annotation := none, pos := p1 }, { arg := fl, annotation := none, pos := p2 }], vararg := none, kwonlyargs := [], kw_defaults := [], kwarg := none, defaults := [] }
def iB (fl tx : Str) (j : Nat) (q1 q2 q3 q4 q5 q6 q7 q8 q9 q10 : Pos) : List Stmt :=
  [.Expr (.Call (.Attribute (.Call (.Name "super" q1) [] [] q2) "__init__" q3) [.Constant (.str tx) j q4] [] q5) q6, .Assign [.Attribute (.Name "self" q7) fl q8] (.Name fl q9) q10]
def iS (fl : Str) : Scope := { kind := .function, names := [(PySem.Str.ofString "self", .local), (fl, .local), (PySem.Str.ofString "__class__", .free), (PySem.Str.ofString "super", .globalImplicit)], isGenerator := false, isCoroutine := false, more := [] }
/-- how the call of super().__init__ is run (shown at the text's own places) -/
def CallIs (tx : Str) (j : Nat) (q1 q2 q3 q4 q5 : Pos) : Prop := ∃ pl : Sem Bool, ∀ env : Env, eval (.Call (.Attribute (.Call (.Name "super" q1) [] [] q2) "__init__" q3) [.Constant (.str tx) j q4] [] q5) env = (do
      let ov ← attributeBase (.Call (.Name "super" q1) [] [] q2) "__init__" env (eval (.Call (.Name "super" q1) [] [] q2) env)
      standAt q3.atName
      let (f, first) ← holding [ov] (getMethod ov "__init__" pl)
      callWith q5 f first (backTo q5 (starEach [.Constant (.str tx) j q4] env)) [])
example : CallIs "no set text" 0 ⟨7, 8, 7, 13⟩ ⟨7, 8, 7, 15⟩ ⟨7, 8, 7, 24⟩ ⟨7, 25, 7, 38⟩ ⟨7, 8, 7, 39⟩ := ⟨_, fun env => by rfl⟩
/-- the fields' names -/
def FlOk (fl : Str) : Prop := ¬ fl = ("self" : Str) ∧ ¬ fl = ("__class__" : Str) ∧ ¬ fl = ("super" : Str) ∧ (fl == ("__debug__" : Str)) = false ∧
  ∀ (qual : Str) (body : List Stmt) (p1 p2 : Pos) (doc pm ct cd : Value) (an : Option Addr) (cc : Addr) (a b : Value), bindArgs (ksFn "__init__" qual (iA fl p1 p2) body (iS fl) .none .none doc pm an cd ct cc) ⟨[a, b], []⟩ = pure [(("self" : Str), a), (fl, b)]
theorem ok_value : FlOk "value" := ⟨by decide +kernel, by decide +kernel, by decide +kernel, by decide +kernel, fun _ _ _ _ _ _ _ _ _ _ _ _ => rfl⟩
theorem ok_at : FlOk "at" := ⟨by decide +kernel, by decide +kernel, by decide +kernel, by decide +kernel, fun _ _ _ _ _ _ _ _ _ _ _ _ => rfl⟩
theorem ok_why : FlOk "why" := ⟨by decide +kernel, by decide +kernel, by decide +kernel, by decide +kernel, fun _ _ _ _ _ _ _ _ _ _ _ _ => rfl⟩
theorem ok_limit : FlOk "limit" := ⟨by decide +kernel, by decide +kernel, by decide +kernel, by decide +kernel, fun _ _ _ _ _ _ _ _ _ _ _ _ => rfl⟩
/-- what the written part says of the class at C, of its __init__ at fI -/
structure TideTxt (prog : Program) (K : Frag) (mg : Str → Option Value) (x : Str) (C fI : Addr) (fl : Str) : Prop where
  gC : mg x = some (.ref C)
  ok : FlOk fl
  cls : ∃ nm q N bs bm sn sub ab col dd k0 k1 k2 k3 k5, K.lookup C = some (excClassObj nm q C N bs bm true sn sub ab col dd k0 k1 k2 k3 k5 "ValueError.__new__") ∧ refsVE bm = true
  sa : findIn K (.ref C) "__setattr__" = some (some (.builtin "object.__setattr__"))
  ga : findIn K (.ref C) "__getattribute__" = some (some (.builtin "BaseException.__getattribute__"))
  gg : findIn K (.ref C) "__getattr__" = some none
  noN : findIn K (.ref C) fl = some none
  iC : findIn K (.ref C) "__init__" = some (some (.ref fI))
  tC : typeIn K (.ref fI) = some (.type "function")
  kC : keepIn K (.ref C) = true
  exC : subIn K (.ref C) (.type "BaseException") = some true
  tyC : typeIn K (.ref C) = some (.type "type")
  hdC : hasDictIn K C = true
  te : exmOne K (.ref C) (.ref C) = some true
  sup : ks_superIn K C C "__init__" = some (some (.builtin "ValueError.__init__"))
  isV : subIn K (.ref C) (.type "ValueError") = some true
  self_ : mroIn K C (.ref C) = some true
  tpa : nsIn K cStatics "thirdparty.any" = some none
  nsu : mg "super" = none
  htop : (prog.main.scope.names.lookup ("super" : Str)).isSome = false
  fn : ∃ (oc : Value) (od : Option Addr) (doc pm ct : Value) (an : Option Addr) (osl : Array (Option Value)) (qual tx : Str) (j : Nat) (p1 p2 q1 q2 q3 q4 q5 q6 q7 q8 q9 q10 : Pos) (cda cc : Addr),
    K.lookup fI = some ⟨oc, od, .func (ksFn "__init__" qual (iA fl p1 p2) (iB fl tx j q1 q2 q3 q4 q5 q6 q7 q8 q9 q10) (iS fl) .none .none doc pm an (.ref cda) ct cc), osl⟩ ∧ codeIn K (.ref cda) qual = true ∧ CallIs tx j q1 q2 q3 q4 q5 ∧
    (∃ ccl cdd vs ccs file tf, K.lookup cda = some ⟨ccl, cdd, .fields vs, ccs⟩ ∧ vs[2]? = some (.str file tf) ∧ ((prog.main.file : Str) == file) = true) ∧ ∃ cl cld csl, K.lookup cc = some ⟨cl, cld, .cell (some (.ref C)), csl⟩
section
variable {fl : Str}
theorem lkT {β : Type} {a b : Str} {v : β} {l : List (Str × β)} (h : (a == b) = true) : List.lookup a ((b, v) :: l) = some v := by
  rw [List.lookup_cons, h]
theorem lkF {β : Type} {a b : Str} {v : β} {l : List (Str × β)} (h : (a == b) = false) : List.lookup a ((b, v) :: l) = List.lookup a l := by
  rw [List.lookup_cons, h]
theorem neB {a b : Str} (h : ¬ a = b) : (a == b) = false := beq_eq_false_iff_ne.mpr h
theorem lk_self : (iS fl).names.lookup ("self" : Str) = some .local := lkT (by decide +kernel)
theorem lk_fl (ok : FlOk fl) : (iS fl).names.lookup fl = some .local := (lkF (neB ok.1)).trans (lkT (beq_self_eq_true _))
theorem lk_cls (ok : FlOk fl) : (iS fl).names.lookup ("__class__" : Str) = some .free := (lkF (by decide +kernel)).trans ((lkF (neB fun h => ok.2.1 h.symm)).trans (lkT (by decide +kernel)))
theorem lk_super (ok : FlOk fl) : (iS fl).names.lookup ("super" : Str) = some .globalImplicit :=
  (lkF (by decide +kernel)).trans ((lkF (neB fun h => ok.2.2.1 h.symm)).trans ((lkF (by decide +kernel)).trans (lkT (by decide +kernel))))
end
theorem one_size (v : Value) : [v].length ≤ sizeLine := by
  rw [sizeLine_eq]
  exact (by decide : 1 ≤ 16777216)
/-- what __init__ leaves of a fresh exception at x -/
structure InitEnd (fl : Str) (h h' : Heap) (x C dx t1 : Addr) (v : Value) : Prop where
  keep : ∀ b o, b ≠ x → h.get? b = some o → h'.get? b = some o
  obj : h'.get? x = some { cls := .ref C, dict := some dx, data := .fields #[.ref t1, .none, .none, .none, .bool false, .none] }
  dbig : h.objs.size ≤ dx
  dne : dx ≠ x
  ns : h'.Ns1 dx (fun y => if y = fl then some v else none)
/-- a made one -/
structure OwnMade (fl : Str) (h h' : Heap) (e C d : Addr) (v : Value) : Prop where
  keep : ∀ b o, h.get? b = some o → h'.get? b = some o
  new : h.objs.size ≤ e
  obj : ∃ oe vs, h'.get? e = some oe ∧ oe.cls = .ref C ∧ oe.dict = some d ∧ oe.data = .fields vs ∧ vs[1]? = some .none
  dbig : h.objs.size ≤ d
  dne : d ≠ e
  ns : h'.Ns1 d (fun y => if y = fl then some v else none)
section
variable {prog : Program} {w : World} {A : Around} {E : Value → Shared → Prop} {R : Result → Shared → Prop} {s : Shared} {K : Frag} {mg mb : Str → Option Value} {C fI : Addr} {fl xn : Str}
theorem ldC {M : Model} {s : Shared} {env : Env} {m : Str → Option Value} {x : Str} {pos : Pos} {v : Value} {Q : Value → Shared → Prop} {A : Around} {E : Value → Shared → Prop} (hn : s.heap.Ns env.locals m) (hv : m x = some v) (h : Q v s)
    (hk : env.scope.kind = .function) (hl : env.kindOf x = some .local) (hd : (x == ("__debug__" : Str)) = false) :
    wpAny M A (eval (.Name x pos) env) Q E s := wpAny_Name (wpAny_loadName_local hk hl hn hv h) hd
/-- the built-in __init__ bound to the object, called -/
theorem call_mw {u e t0 : Addr} {rest : List Value} {Q : Value → Shared → Prop} {nm q : Str} {N : Addr} {bs bm : List Value} {hdct : Bool} {sn : List Str} {sub : List Value} {ab : Bool} {col : Option Bool} {dd : Option Addr} {k0 k1 k2 k3 k5 : Option Value}
    (hC : s.heap.get? C = some (excClassObj nm q C N bs bm hdct sn sub ab col dd k0 k1 k2 k3 k5 "ValueError.__new__")) (he : s.heap.get? e = some (excO C t0)) (hu : s.heap.get? u = some (kxs_mw "ValueError.__init__" e)) (hrest : rest.length ≤ sizeLine)
    (hq : ∀ h', (∀ b o, b ≠ e → s.heap.get? b = some o → h'.get? b = some o) → h'.get? e = some (excO C s.heap.objs.size) → Q .none { s with heap := h' }) :
    wpAny (model prog w) A (call (.ref u) rest) Q E s := by
  have FB := F.excBase_ValueError
  obtain ⟨hh, g, d, tk, os⟩ := s
  refine wpAny_call (codeAny_of_tree ?_)
  show wpAny _ A.in1 (callAny (.ref u) ⟨rest, []⟩) _ _ _
  simp only [callAny]
  refine wpAny_bind (wpAny_load hu ?_)
  simp only [kxs_mw, show (Value.type "method-wrapper" == Value.type "method" || Value.type "method-wrapper" == Value.type "builtin_function_or_method" || Value.type "method-wrapper" == Value.type "method-wrapper") = true by decide, if_true]
  refine KFB.if_so (by decide) ?_
  refine wpAny_bind (check_bound_init FB.toExcCallFacts hC he rfl ?_)
  refine wpAny_bind (wpAny_pure (wpAny_pure ?_))
  refine ⟨plainId_quiet FB.init.plain _, codeAny_builtin FB.initEntry ?_⟩
  exact exc_init_tree (cls := .ref C) (t0 := t0) (dv := none) (c2 := .none) (c3 := .none) (b4 := .bool false) he hrest fun h' k e' _ => hq h' k e'
theorem tide_init (T : TideTxt prog K mg xn C fI fl) {x t0 : Addr} {v : Value} (X : K.In s.heap) (hG : s.heap.Ns mainGlobals mg) (hB : s.heap.Ns builtinsNs mb) (hmb : mb "super" = some (.type "super")) (hlim : s.heap.NoLimit) (hx : s.heap.get? x = some (excO C t0)) (hnx : K.lookup x = none) (hroom : A.depth < recursionLimit)
    (hq : ∀ h' tk dx t1, InitEnd fl s.heap h' x C dx t1 v → R (.ok (.ret .none)) { s with heap := h', toks := tk }) :
    codeAny (model prog w) A (.call (.ref fI) ⟨[.ref x, v], []⟩) R s := by
  obtain ⟨oc, od, doc, pm, ct, an, osl, qual, tx, j, p1, p2, q1, q2, q3, q4, q5, q6, q7, q8, q9, q10, cda, cc, ho, hcd, ⟨pl, hpl⟩, ⟨ccl, cdd, vs, ccs, file, tf, hcda, hvs, hfile⟩, cl, cld, csl, hcell⟩ := T.fn
  obtain ⟨nm, q, N, bs, bm, sn, sub, ab, col, dd, k0, k1, k2, k3, k5, hC, hbm⟩ := T.cls
  obtain ⟨n1, n2, n3, n4, n5⟩ := T.ok
  have hcl : clsIn K C = some { name := nm, bases := bs, mro := .ref C :: bm, ns := N, qualname := q, hasDict := true, slotNames := sn, subclasses := sub, abstract := ab, collection := col, hasDel := false } := by unfold clsIn; rw [hC] <;> rfl
  have e1 : (("self" : Str) == fl) = false := by rw [beq_eq_false_iff_ne]; exact fun h => n1 h.symm
  have e1' : (fl == ("self" : Str)) = false := by rw [beq_eq_false_iff_ne]; exact n1
  have X₀ := X
  refine ks_codeAny_call_defAt (fd := ksFn "__init__" qual (iA fl p1 p2) (iB fl tx j q1 q2 q3 q4 q5 q6 q7 q8 q9 q10) (iS fl) .none .none doc pm an (.ref cda) ct cc) (body := iB fl tx j q1 q2 q3 q4 q5 q6 q7 q8 q9 q10) (binds := [("self", .ref x), (fl, v)]) hroom (X _ _ ho) rfl hlim (codeRec_of X hcd) rfl (BindsTo.of_eq ?_) ?_ ?_ (fun h₁ hns k => ?_) rfl rfl rfl
  · exact n5 _ _ _ _ _ _ _ _ _ _ _ _
  · intro y hy
    have hy : y ∈ [(PySem.Str.ofString "self", NameKind.local), (fl, .local), (PySem.Str.ofString "__class__", .free), (PySem.Str.ofString "super", .globalImplicit)] := hy
    simp only [List.mem_cons, List.not_mem_nil, or_false] at hy
    rcases hy with rfl | rfl | rfl | rfl <;> exact fun h => nomatch h
  · intro y hy
    simp only [List.mem_cons, List.not_mem_nil, or_false] at hy
    rcases hy with rfl | rfl
    · exact lk_self
    · exact lk_fl T.ok
  · have hxL : s.heap.objs.size ≠ x := Nat.ne_of_gt (Heap.lt_size hx)
    have X₁ : K.In h₁ := X.keeps k
    have hx₁ := k _ _ hx
    have I : InstAt h₁ x (excO C t0) C none := ⟨hx₁, rfl, rfl, trivial⟩
    refine ks_wpAt_execs_cons (ks_wpAt_Expr_any (ks_wpAt_MethodCall (ks_wpAt_super_base (f := fI) (cc := cda) (lk_super T.ok) (lk_cls T.ok) (by decide) rfl (X₁ _ _ ho) rfl rfl rfl (X₁ _ _ hcda) rfl hvs hfile T.htop ?_) (hpl _)))
    refine ks_loadName_global rfl (lk_super T.ok) (loadGlobal_builtin (hG.keeps k) T.nsu (hB.keeps k) hmb ⟨rfl, ?_⟩)
    refine wpAny_loadName_free rfl (lk_cls T.ok) rfl ⟨_, X₁ _ _ hcell, rfl⟩ ?_
    refine wpAny_loadName_local (v := .ref x) rfl lk_self hns ?_ ?_
    · exact (lkF (neB fun h => T.ok.1 h.symm)).trans (lkT (by decide +kernel))
    refine ks_wpAny_isType_cls (X₁ _ _ hC) rfl ⟨rfl, ?_⟩
    refine ks_wpAny_call_super (X₁ _ _ hC) rfl I.at_ I.cls (fun c e => by cases e) (looks_mroIn X₁ T.self_) (fun h₂ e₂ k₂ => ?_)
    have X₂ : K.In h₂ := X₁.keeps k₂
    have I₂ : InstAt h₂ x (excO C t0) C none := ⟨k₂ _ _ hx₁, rfl, rfl, trivial⟩
    have hsup : alongIn K "__init__" (((.ref C :: bm).dropWhile (· != .ref C)).drop 1) = some (some (.builtin "ValueError.__init__")) := by
      have h := T.sup
      unfold ks_superIn at h
      rw [hcl] at h
      exact h
    have hxC : x ≠ C := ks_ne X₂ I₂ hcl
    have hI : Looks (model prog w) h₂ (isInstance (.ref x) (.type "ValueError")) true := I₂.type.andThen (looks_subIn X₂ T.isV)
    refine kxs_getMethod kxs_ValueError e₂ (looks_opaque X₂ T.tpa) (l₀ := .ref C :: bm) (fun A Q E s k q => wpAny_bind ((looks_clsIn X₂ hcl) A _ E s k (wpAny_pure q))) rfl X₂ hsup hI hxC (by decide) ?_
    refine kxs_callWith (i := "ValueError.__init__") (x := x) rfl (evalArgs_plain ?_)
    show wpAny _ _ (spliced ((false, eval (.Constant (.str tx) j q4) _) :: backTo q5 (starEach [] _))) _ _ _
    refine Calls.spliced_cons ?_
    refine Calls.Constant_str (Calls.spliced_nil ⟨?_, ?_⟩)
    · exact Heap.get?_push_at rfl rfl
    refine call_mw (C := C) (t0 := t0) (Heap.get?_push_of_some _ (X₂ _ _ hC)) (Heap.get?_push_of_some _ I₂.at_) (Heap.get?_push_at rfl rfl) (one_size _) (fun h₃ k₃ e₃ => ?_)
    -- self.fl = fl
    have keep : ∀ b o, b ≠ x → s.heap.get? b = some o → h₃.get? b = some o := fun b o hb e => k₃ b o hb (Heap.get?_push_of_some _ (k₂ _ _ (k _ _ e)))
    have keep1 : ∀ b o, b ≠ x → h₁.get? b = some o → h₃.get? b = some o := fun b o hb e => k₃ b o hb (Heap.get?_push_of_some _ (k₂ _ _ e))
    have X₃ : K.In h₃ := fun a o e => keep a o (fun z => by rw [z, hnx] at e; cases e) (X a o e)
    have hns₃ : h₃.Ns s.heap.objs.size (fun y => [(("self" : Str), Value.ref x), (fl, v)].reverse.lookup y) := by
      obtain ⟨oL, es, ep, hL, r⟩ := hns
      exact ⟨oL, es, ep, keep1 _ _ hxL hL, r⟩
    show wpAt _ _ _ (execs _ _) _ _ _
    refine wpAt_of_wpAny (wpAny_execs_cons (plainObj_wpAny_Assign_Attribute ?_))
    refine ldC (v := v) hns₃ ?_ (ldC (v := .ref x) hns₃ ?_ ?_ rfl lk_self (by decide)) rfl (lk_fl T.ok) T.ok.2.2.2.1
    · exact lkT (beq_self_eq_true _)
    · exact (lkF (neB fun h => T.ok.1 h.symm)).trans (lkT (by decide +kernel))
    refine set_plain X₃ (ox := excO C _) (od := none) ⟨e₃, rfl, rfl, trivial⟩ T.sa ?_
    refine exc_osa X₃ e₃ hcl (show refsVE (.ref C :: bm) = true from hbm) rfl T.noN (fun h₄ tk₄ dx k₄ dn dne hx₄ hn₄ => ?_)
    show wpAny _ _ (execs _ _) _ _ _
    have z : s.heap.objs.size ≤ h₃.objs.size := by
      exact Nat.le_of_lt hns₃.lt
    refine wpAny_execs_nil (hq h₄ tk₄ dx _ ⟨fun b o hb e => k₄ b o hb (keep b o hb e), hx₄, Nat.le_trans z dn, dne, hn₄⟩)
theorem tide_made (T : TideTxt prog K mg xn C fI fl) {v : Value} (X : K.In s.heap) (hG : s.heap.Ns mainGlobals mg) (hB : s.heap.Ns builtinsNs mb) (hmb : mb "super" = some (.type "super")) (hlim : s.heap.NoLimit) (hroom : A.depth + 1 < recursionLimit)
    (hq : ∀ h' tk e d, OwnMade fl s.heap h' e C d v → R (.ok (.ret (.ref e))) { s with heap := h', toks := tk }) :
    codeAny (model prog w) A (.call (.ref C) ⟨[v], []⟩) R s := by
  obtain ⟨nm, q, N, bs, bm, sn, sub, ab, col, dd, k0, k1, k2, k3, k5, hC, hbm⟩ := T.cls
  obtain ⟨hp, g, dr, tk, os⟩ := s
  have k : ∀ b o, hp.get? b = some o → ((hp.push (kdv_tup [v])).push (excO C hp.objs.size)).get? b = some o := fun b o e => Heap.get?_push_of_some _ (Heap.get?_push_of_some _ e)
  have hget : ((hp.push (kdv_tup [v])).push (excO C hp.objs.size)).get? (hp.objs.size + 1) = some (excO C hp.objs.size) := by heap_get
  have hnx : K.lookup (hp.objs.size + 1) = none := by
    cases e : K.lookup (hp.objs.size + 1) with
    | none => rfl
    | some o =>
      have z : hp.get? (hp.objs.size + 1) = some o := X _ _ e
      exact absurd (Nat.lt_of_succ_lt (Heap.lt_size z)) (Nat.lt_irrefl _)
  refine call_own F.excBase_ValueError (fun X => refsVE_contains X bm hbm) (X _ _ hC) (looks_findIn X T.iC) (fun self => bind_fn X self T.tC) (one_size v) ?_
  refine tide_init (s := ⟨(hp.push (kdv_tup [v])).push (excO C hp.objs.size), g, dr, tk, os⟩) T (X.keeps k) (hG.keeps k) (hB.keeps k) hmb (hlim.keeps k) hget hnx ?_ fun h' tk' dx t1 ⟨k', hx, dn, dne, hns⟩ => ?_
  · show A.depth + 1 < recursionLimit
    exact hroom
  · have old : ∀ b o, hp.get? b = some o → h'.get? b = some o := fun b o e => k' b o (Nat.ne_of_lt (Nat.lt_succ_of_lt (Heap.lt_size e))) (k b o e)
    have z : hp.objs.size + 1 + 1 ≤ dx := by
      first
        | (simpa only [Heap.size_push] using dn)
        | exact dn
        | (have q := dn; rw [Heap.size_push, Heap.size_push] at q; exact q)
    exact ⟨rfl, hq h' tk' (hp.objs.size + 1) dx ⟨old, Nat.le_succ _, ⟨_, _, hx, rfl, rfl, rfl, rfl⟩, Nat.le_trans (Nat.le_trans (Nat.le_succ _) (Nat.le_succ _)) z, dne, hns⟩⟩
end
end Tide
end PySem
namespace L2
open PySem PySem.Spec PyProof.Rows
theorem relO_tide {fl : Str} {v : V} {v' : Value} (r : RelV v v') (f : Str) : RelO (List.lookup f [(fl, v)]) (if f = fl then some v' else none) := by
  by_cases hw : f = fl
  · subst hw
    rw [if_pos rfl]
    have q : List.lookup f [(f, v)] = some v := by simp [List.lookup]
    rw [q]
    exact r
  · rw [if_neg hw]
    have qw : (f == fl) = false := by simpa using hw
    have q2 : List.lookup f [(fl, v)] = none := by simp [List.lookup, qw]
    rw [q2]
    trivial
section
variable {X : Cx} {C fI : Addr} {fl xn : Str}
/-- E(e) -/
def tMkTide (C : Addr) (fl : Str) (ta : TA) : St → Hp → XK → Prop := fun σ H Q => ta σ H fun vs H1 => ∃ v, vs = [v] ∧ ∀ d, H1 d = none → Q (.ref C) (some d) (upd H1 d (.xd [(fl, v)]))
theorem pmk_tide {a : Expr} {ta : TA} {p pos : Pos} {k : Nat} (T : PySem.Tide.TideTxt X.prog X.K X.mg xn C fI fl) (hr : Room k X.A) (ha : PA X [a] ta) (hg : Gl X xn := by rfl) (hdb : (xn == ("__debug__" : Str)) = false := by decide)
    (he : starEach (a :: []) X.env = (false, eval a X.env) :: starEach [] X.env := by rfl) (hpl : (backTo pos (starEach [] X.env)).any (·.1) = false := by rfl) :
    PMk X (.Call (.Name xn p) [a] [] pos) (tMkTide C fl ta) := by
  intro pins s σ H Q I h
  refine wpAny_Call_Name_kw (ld_glob I hg T.gC ?_ hdb)
  refine PySem.W.callWith_K (h₀ := X.base) I.ok.mod.kin T.kC (thn (ha.run pos pins s σ H _ I h) fun us s1 hh => ?_) he hpl
  obtain ⟨vs, H1, I1, r1, v, ev, q1⟩ := hh
  subst ev
  refine ⟨I1.kIn, ?_⟩
  cases r1 with
  | cons rv rn =>
    rename_i v' us'
    cases rn
    show wpAny _ _ (call (.ref C) [v']) _ _ _
    have hlim := I1.nolimit
    have hG := I1.mod.glob.keeps I1.bk
    obtain ⟨mb, hB0, hmb0⟩ := I1.mod.blt
    have hB := hB0.keeps I1.bk
    have hmb : mb "super" = some (.type "super") := (hmb0 _ (by decide +kernel)).trans (by decide +kernel)
    obtain ⟨hp, g, dr, tk, os⟩ := s1
    refine wpAny_call (PySem.Tide.tide_made T I1.kIn hG hB hmb hlim (by have := hr.dp; omega) fun h' tk' e d M => ?_)
    show MkP X pins σ Q (.ref e) ⟨h', g, dr, tk', os⟩
    obtain ⟨oe, fv, hoe, hc, hd, hdat, h1⟩ := M.obj
    have hns := M.ns
    obtain ⟨G', g1, g2⟩ := restrict h' fun b => decide (b ≠ e)
    have gk : ∀ b, b ≠ e → G'.get? b = h'.get? b := fun b hb => g1 b (decide_eq_true hb)
    have ge : G'.get? e = none := g2 e (by simp)
    have old : ∀ b o, hp.get? b = some o → G'.get? b = some o := fun b o q => (gk b (Nat.ne_of_lt (Nat.lt_of_lt_of_le (Heap.lt_size q) M.new))).trans (M.keep b o q)
    have ob : ObjOk X.prog X.w (upd H1 d (.xd [(fl, v)])) G' d (.xd [(fl, v)]) :=
      ⟨_, hns.at (fun o q => (gk d M.dne).trans q), fun f => relO_tide rv f⟩
    have J : Inv X pins σ (upd H1 d (.xd [(fl, v)])) ⟨G', g, dr, tk', os⟩ := I1.laid (t' := tk') old M.dbig ob
    refine ⟨e, oe, fv, ⟨G', g, dr, tk', os⟩, _, .ref C, some d, rfl, J, fun b o q => ?_, ge, hoe, ⟨hc, hd⟩, hdat, h1, ?_, rfl, I1.bare, raises_own T.exC T.tyC, q1 d (I1.hok.fresh M.dbig)⟩
    · by_cases hb : b = e
      · have q' : G'.get? b = some o := q
        rw [hb, ge] at q'; cases q'
      · exact (gk b hb).symm.trans q
    · rw [upd_ne (Ne.symm M.dne)]
      exact I1.hok.fresh M.new
/-- raise E(e) -/
def tRaiseTide (C : Addr) (fl : Str) (W : WX) (ta : TA) : TS := fun _ σ H => tMkTide C fl ta σ H fun cls d H' => W cls d σ H'
theorem ps_raiseTide {a : Expr} {ta : TA} {W : WX} {p pos pos2 : Pos} {k : Nat} (hc : X.calm = true) (T : PySem.Tide.TideTxt X.prog X.K X.mg xn C fI fl) (hr : Room k X.A) (tk : Takes X W) (ha : PA X [a] ta) (hg : Gl X xn := by rfl) (hdb : (xn == ("__debug__" : Str)) = false := by decide)
    (he : starEach (a :: []) X.env = (false, eval a X.env) :: starEach [] X.env := by rfl) (hpl : (backTo pos (starEach [] X.env)).any (·.1) = false := by rfl) :
    PS X (.Raise (some (.Call (.Name xn p) [a] [] pos)) none pos2) (tRaiseTide C fl W ta) := ps_raise hc tk (pmk_tide T hr ha hg hdb he hpl)
/-- e.fl, e the exception that the suite holds (at a; its class cls, its dict d) -/
def tByTide (C : Addr) (fl : Str) (a : Addr) (cls : Value) (d : Option Addr) (te : TE) : TE := fun σ H Q => te σ H fun x H1 => x = .ref a ∧ cls = .ref C ∧ ∃ (dd : Addr) (v : V), d = some dd ∧ H1 dd = some (.xd [(fl, v)]) ∧ Q v H1
theorem pe_byTide {a : Addr} {oe : Obj} {cls : Value} {d : Option Addr} {pn : List (Addr × Obj)} {e : Expr} {te : TE} {pos : Pos} (T : PySem.Tide.TideTxt X.prog X.K X.mg xn C fI fl) (hz : Zc cls d oe) (hf : ∃ vs, oe.data = .fields vs) (he : PE (X.suite a ((a, oe) :: pn)) e te)
    (hb : attributeBase e fl X.env (eval e X.env) = eval e X.env) :
    PE (X.suite a ((a, oe) :: pn)) (.Attribute e fl pos) (tByTide C fl a cls d te) := by
  refine ⟨fun pins s σ H Q I h => ?_⟩
  refine attr_of hb (thn (he.run pins s σ H _ I h) fun u s1 hh => ?_)
  obtain ⟨x, H1, I1, rx, ex, ec, dd, v, ed, ea, q⟩ := hh
  subst ex
  obtain rfl : u = Value.ref a := rx
  subst ec
  subst ed
  obtain ⟨ha, _⟩ := I1.pin (a, oe) (List.mem_append_left _ List.mem_cons_self)
  obtain ⟨vs, hd⟩ := hf
  have hx : ObjOk X.prog X.w H1 s1.heap dd (.xd [(fl, v)]) := I1.hok dd _ ea
  obtain ⟨mA, hns, hr⟩ := hx
  obtain ⟨od, ho, hl⟩ := lookIn_ns hns
  have l : List.lookup fl [(fl, v)] = some v := by simp [List.lookup]
  obtain ⟨u, hu, ru⟩ := RelO.some_of (v := v) (o := mA fl) (by rw [← l]; exact hr fl)
  have J : PySem.W.InstAt s1.heap a oe C (some od) := ⟨ha, hz.1, by unfold PySem.W.notCls; rw [hd] <;> rfl, by rw [hz.2]; exact ho⟩
  exact HandSPX.exc_get I1.kIn J T.ga T.gg T.exC (PySem.W.findObj_own T.hdC T.noN rfl (by rw [hl, hu])) (handed_of ru) ⟨v, H1, I1.tok _, ru, q⟩
end
end L2


set_option Elab.async false
set_option linter.all false
set_option maxRecDepth 100000
set_option maxHeartbeats 4000000
/-! enumerate over a list or a tuple -/
namespace PySem
open Sem (wp)
open AutoSeq1 (wpAny_loadPart')
theorem my_enumerate_newT (l : Addr) (items : Array Value) (n : Nat) (dct : Option Addr) (sl : Array (Option Value)) :
    Meets (Builtin.«enumerate.__new__» ⟨[.type "enumerate", .ref l], []⟩) (fun _ R s => s.heap.get? l = some { cls := .type "tuple", dict := dct, data := .seq items n, slots := sl } ∧
      R (.ok (.ret (.ref (s.heap.push { cls := .type "tuple_iterator", data := .fields #[.ref l, .int 0 0] }).objs.size)))
        { s with heap := (s.heap.push { cls := .type "tuple_iterator", data := .fields #[.ref l, .int 0 0] }).push { cls := .type "enumerate", data := .fields #[.none, .bool false, .ref s.heap.objs.size, rawInt 0, .none, .none] } }) :=
  .of_wp fun prog w A R s h => by
    obtain ⟨hp, g, d, tk, os⟩ := s; obtain ⟨hl, h⟩ := h
    have hsub := sub_enumerate
    have hL : Heap.IsTuple (Shared.heap ⟨hp, g, d, tk, os⟩) l items := ⟨_, hl, rfl, n, rfl⟩
    wp_walk using wpAny_loadPart' hl
    refine wpAny_stack_any fun st => wpAny_pure ?_
    split
    · rename_i c _ _ _ _ _
      cases (c == Value.type "enumerate")
      · wp_walk using wpAny_loadPart' hl, wpAny_pyIter_tuple hL
        exact ⟨_, rfl, h⟩
      · wp_walk using wpAny_loadPart' hl, wpAny_pyIter_tuple hL
        exact ⟨_, rfl, h⟩
    · wp_walk using wpAny_loadPart' hl, wpAny_pyIter_tuple hL
      exact ⟨_, rfl, h⟩
section
variable {prog : Program} {w : World} {A : Around} {E : Value → Shared → Prop} {s : Shared}
theorem my_enumerate_tuple {l : Addr} {items : Array Value} {Q : Value → Shared → Prop} (hL : s.heap.IsTuple l items)
    (h : ∀ h', IsEnum h' (s.heap.objs.size + 1) s.heap.objs.size 0 .none → h'.IsTupleIter s.heap.objs.size l 0 → h'.objs.size = s.heap.objs.size + 2 →
      (∀ b o, s.heap.get? b = some o → h'.get? b = some o) → Q (.ref (s.heap.objs.size + 1)) { s with heap := h' }) :
    wpAny (model prog w) A (call (.type "enumerate") [.ref l]) Q E s := by
  obtain ⟨⟨c, dct, dt, sl⟩, hl, hc, n, hd⟩ := hL
  replace hc : c = .type "tuple" := hc
  replace hd : dt = .seq items n := hd
  subst hc hd
  refine callType_new F.called_enumerate (by decide) (F.typeCall_enumerate_1 _) (F.newCall_enumerate_1 _) (fun obj => F.args_object_init_2 obj _) F.entry_enumerate_new
    (my_enumerate_newT l items n dct sl) ⟨hl, ?_⟩
  have hz : (s.heap.push { cls := .type "tuple_iterator", data := .fields #[.ref l, .int 0 0] }).objs.size = s.heap.objs.size + 1 := Heap.size_push ..
  show _ ∧ _
  rw [hz]
  have he : IsEnum ((s.heap.push { cls := .type "tuple_iterator", data := .fields #[.ref l, .int 0 0] }).push
      { cls := .type "enumerate", data := .fields #[.none, .bool false, .ref s.heap.objs.size, rawInt 0, .none, .none] }) (s.heap.objs.size + 1) s.heap.objs.size 0 .none := by
    have := Heap.get?_push_size (s.heap.push { cls := .type "tuple_iterator", data := .fields #[.ref l, .int 0 0] })
      (o := { cls := .type "enumerate", data := .fields #[.none, .bool false, .ref s.heap.objs.size, rawInt 0, .none, .none] }) rfl
    rw [hz] at this; exact this
  refine ⟨⟨_, he, rfl⟩, h _ he ⟨_, Heap.get?_push_of_some _ (Heap.get?_push_size _ rfl), rfl, rfl⟩ (by rw [Heap.size_push, hz]) fun b o x => Heap.get?_push_of_some _ (Heap.get?_push_of_some _ x)⟩
end
end PySem
namespace L2
open PySem PySem.Spec PyProof.Rows
def IteT (K : PySem.W.Frag) (a : Addr) : It :=
  ⟨fun i H => ∃ (xs : List V) (x : V), SqT K H a xs ∧ xs[i]? = some x, fun i H v H' => ∃ T x, v = .ref T ∧ H T = none ∧ H' = upd H T (.tup [.int (i : Nat), x]) ∧ ∀ xs, SqT K H a xs → xs[i]? = some x, fun i H => ∃ xs : List V, SqT K H a xs ∧ i = xs.length⟩
theorem turn_enumT {P : Program} {w : World} {K : PySem.W.Frag} {elts : List Expr} {kk : Nat} {tpos : Pos} (a e it : Addr) :
    Turn P w K (.Tuple elts kk tpos) (IteT K a) [e, it] e (fun i h => (∃ old, IsEnum h e it ((i : Nat) : Int) old) ∧ h.IsTupleIter it a i ∧ e ≠ it ∧ e ≠ a ∧ it ≠ a) where
  mem := by simp
  obj := fun i h st b hb => by
    obtain ⟨⟨old, he⟩, ⟨o, ho, hc, hd⟩, _⟩ := st
    have e' : b = e ∨ b = it := by simpa using hb
    rcases e' with z | z
    · rw [z]; exact ⟨_, he, fun v q => nomatch q⟩
    · rw [z]; exact ⟨o, ho, fun v q => by rw [hd] at q; cases q⟩
  keep := fun i h h' st k => let ⟨⟨old, he⟩, hi, hne⟩ := st; ⟨⟨old, k e (by simp) _ he⟩, hi.at fun o q => k it (by simp) o q, hne⟩
  item := by
    intro X hP hw hK hc i pins s σ H E I hf st hg
    subst hP hw hK
    obtain ⟨⟨old, he⟩, hit, hne, hea, hia⟩ := st
    obtain ⟨xs, x, hq, hx⟩ := hg
    obtain ⟨its, rv, p, hz⟩ := I.tuple hq
    have p' : s.heap.IsTuple a its.toArray := p
    obtain ⟨u, hu, ru⟩ := rv.get hx
    have hel : e < s.heap.objs.size := Heap.lt_size he
    have hil : it < s.heap.objs.size := by obtain ⟨_, q, _⟩ := hit; exact Heap.lt_size q
    have D := Draws.tuple (prog := X.prog) (w := X.w) (A := X.A.in1) (I.ok.hd hc) it a hia.symm its.toArray
    refine wpAny_pyNext_enum_itemD D he ⟨hit, p'⟩ (by have := (List.getElem?_eq_some_iff.mp hu).1; simpa using this) hne (by simp [hne, hea]) fun x' h' tk hx' ho hit' hT hsz hk => ?_
    have hxu : x' = u := by
      have e1 : its[i]? = some x' := by simpa using hx'
      rw [hu] at e1
      exact (Option.some.inj e1).symm
    subst hxu
    obtain ⟨hit', _⟩ := hit'
    refine ⟨_, rfl, wpAny_letOwnedTupleGo_enum (s := { s with heap := h', toks := tk + 1 }) ho fun h'' he' sb => ?_⟩
    have hT2 : h''.get? s.heap.objs.size = some { cls := .type "tuple", data := .seq #[.int i tk, x'] } := (sb.2 _ (Nat.ne_of_gt hel)).trans hT
    have new : ObjOk X.prog X.w (upd H s.heap.objs.size (.tup [.int (i : Nat), x])) h'' s.heap.objs.size (.tup [.int (i : Nat), x]) :=
      ⟨by show 2 ≤ sizeLine; decide, [.int i tk, x'], .cons ⟨_, rfl⟩ (.cons ru .nil), ⟨_, hT2, rfl, _, rfl⟩⟩
    have I1 : Inv X pins σ (upd H s.heap.objs.size (.tup [.int (i : Nat), x])) { s with heap := h'', toks := tk + 1 } :=
      I.turnedNew (ch := [e, it]) (fun b ob hb q => (sb.2 b (fun z => hb (by simp [z]))).trans (hk b ob (fun z => hb (by simp [z])) (fun z => hb (by simp [z])) q)) hf (Nat.le_refl _) new
    refine ⟨.ref s.heap.objs.size, _, I1, rfl, ⟨_, x, rfl, I.hok.fresh (Nat.le_refl _), rfl, fun ys hy => by rw [I.tuple_inj hy hq]; exact hx⟩, ⟨⟨x', ?_⟩, hit'.at fun o q => (sb.2 it (Ne.symm hne)).trans q, hne, hea, hia⟩, fun b hb => ?_⟩
    · have e1 : ((i + 1 : Nat) : Int) = (i : Int) + 1 := by omega
      rw [e1]; exact he'
    · have hb' : b < s.heap.objs.size := by
        have e' : b = e ∨ b = it := by simpa using hb
        rcases e' with z | z
        · rw [z]; exact hel
        · rw [z]; exact hil
      rw [upd_ne (Nat.ne_of_lt hb')]
      exact (hf b hb).1
  done := by
    intro X hP hw hK hc i pins s σ H E I hf st hg
    subst hP hw hK
    obtain ⟨⟨old, he⟩, hit, hne, hea, hia⟩ := st
    obtain ⟨xs, hq, hx⟩ := hg
    obtain ⟨its, rv, p, hz⟩ := I.tuple hq
    have p' : s.heap.IsTuple a its.toArray := p
    obtain ⟨f0, f1, f2, f3, f4, f5⟩ := hf it (by simp)
    have hl := rv.length
    have D := Draws.tuple (prog := X.prog) (w := X.w) (A := X.A.in1) (I.ok.hd hc) it a hia.symm its.toArray
    have hn : i = its.toArray.size := by rw [hx, hl]; simp
    refine wpAny_pyNext_enum_endD D he ⟨hn ▸ hit, p'⟩ fun h' eb => ⟨rfl, I.turned (t' := s.toks) (fun b o hb q => eb b o hb q) f0 f1 f3 f4 f5⟩
  self := fun A i s Q E st h => let ⟨⟨_, he⟩, _⟩ := st; wpAny_pyIter_enum he h
/-- enumerate(list | tuple) -/
def iEnumS (K : PySem.W.Frag) (ta : TA) : TI := fun σ H R => ta σ H fun vs H1 => ∃ a xs, vs = [.ref a] ∧ ((SqL K H1 a xs ∧ R (Ite K a) H1) ∨ (SqT K H1 a xs ∧ R (IteT K a) H1))
theorem pi_enumS {X : Cx} {e : Expr} {ta : TA} {p pos tpos : Pos} {elts : List Expr} {kk : Nat} (hg : Gl X "enumerate") (hm : X.mg "enumerate" = none) (ha : PA X [e] ta) (hs : starEach [e] X.env = [(false, eval e X.env)] := by rfl) :
    PI X (.Tuple elts kk tpos) (.Call (.Name "enumerate" p) [e] [] pos) (iEnumS X.K ta) := by
  refine ⟨fun pins s σ H R I h => ?_⟩
  refine Call_ (ld_blt I hg hm boot_enumerate (PyProof.Rows.callWith_type1 (thn (ha.run pos pins s σ H _ I h) fun us s1 ⟨vs, H1, I1, r1, q1⟩ => ?_) hs rfl))
  obtain ⟨a, xs, ex, q1⟩ := q1
  subst ex
  cases r1 with
  | cons r rr =>
    cases rr
    cases r
    have fpk : ∀ b ∈ [s1.heap.objs.size + 1, s1.heap.objs.size], FpOk X pins H1 b := fun b hb => by
      have e' : b = s1.heap.objs.size + 1 ∨ b = s1.heap.objs.size := by simpa using hb
      have hle : s1.heap.objs.size ≤ b := by
        rcases e' with z | z
        · rw [z]; exact Nat.le_add_right _ _
        · rw [z]; exact Nat.le_refl _
      exact I1.fpOk hle (I1.hok.fresh hle)
    rcases q1 with ⟨hq, q⟩ | ⟨hq, q⟩
    · obtain ⟨its, rv, p', hz⟩ := I1.list hq
      refine call_enumerate_list p'.isList fun h' he hit hsz hk => wpAny_pyIter_enum he ?_
      have I2 : Inv X pins σ H1 { s1 with heap := h' } := I1.kept (t' := s1.toks) hk
      exact ⟨s1.heap.objs.size + 1, [s1.heap.objs.size + 1, s1.heap.objs.size], _, _, H1, rfl, I2, turn_enum a (s1.heap.objs.size + 1) s1.heap.objs.size, ⟨⟨.none, he⟩, hit, Nat.succ_ne_self _⟩, fpk, q⟩
    · obtain ⟨its, rv, p', hz⟩ := I1.tuple hq
      have hla : a < s1.heap.objs.size := by obtain ⟨o, ho, _⟩ := p'; exact Heap.lt_size ho
      refine my_enumerate_tuple (show s1.heap.IsTuple a its.toArray from p') fun h' he hit hsz hk => wpAny_pyIter_enum he ?_
      have I2 : Inv X pins σ H1 { s1 with heap := h' } := I1.kept (t' := s1.toks) hk
      exact ⟨s1.heap.objs.size + 1, [s1.heap.objs.size + 1, s1.heap.objs.size], _, _, H1, rfl, I2, turn_enumT a (s1.heap.objs.size + 1) s1.heap.objs.size, ⟨⟨.none, he⟩, hit, Nat.succ_ne_self _, Nat.ne_of_gt (Nat.lt_succ_of_lt hla), Nat.ne_of_gt hla⟩, fpk, q⟩
theorem pi_enumSK {X : Cx} {K : PySem.W.Frag} {e : Expr} {ta : TA} {p pos tpos : Pos} {elts : List Expr} {kk : Nat} (h : X.K = K) (hg : Gl X "enumerate") (hm : X.mg "enumerate" = none) (ha : PA X [e] ta) (hs : starEach [e] X.env = [(false, eval e X.env)] := by rfl) :
    PI X (.Tuple elts kk tpos) (.Call (.Name "enumerate" p) [e] [] pos) (iEnumS K ta) := by subst h; exact pi_enumS hg hm ha hs
/-- a for over it: the pair's own tuple is new; Pv by the turn -/
theorem for_enumS {K : PySem.W.Frag} {a : Addr} {xs : List V} {g : TG} {tb : TS} {D : Ends} {σ : St} {H0 H : Hp} (hq : SqL K H0 a xs ∨ SqT K H0 a xs) (Pv : Nat → St → Hp → Prop) (h0 : Pv 0 σ H) (hm : ∀ i σ' H', Pv i σ' H' → ∀ b o, H0 b = some o → H' b = some o)
    (hs : ∀ i x σ H T, xs[i]? = some x → Pv i σ H → H T = none → g (.ref T) σ (upd H T (.tup [.int (i : Nat), x])) fun σ2 H2 => tb { D with nx := Pv (i + 1), ct := Pv (i + 1), bk := D.nx } σ2 H2) (hd : ∀ σ H, Pv xs.length σ H → D.nx σ H) :
    ((SqL K H a xs ∧ ∃ W : Nat → Nat → St → Hp → Prop, (∃ m, W 0 m σ H) ∧ ∀ i m σ H, W i m σ H →
      ((Ite K a).stop i H ∧ D.nx σ H) ∨ ((Ite K a).go i H ∧ ∃ N : St → Hp → Prop, (∀ σ' H', N σ' H' → ∃ m', m' < m ∧ W (i + 1) m' σ' H') ∧ ∀ x H', (Ite K a).yld i H x H' → g x σ H' fun σ2 H2 => tb { D with nx := N, ct := N, bk := D.nx } σ2 H2)) ∨
     (SqT K H a xs ∧ ∃ W : Nat → Nat → St → Hp → Prop, (∃ m, W 0 m σ H) ∧ ∀ i m σ H, W i m σ H →
      ((IteT K a).stop i H ∧ D.nx σ H) ∨ ((IteT K a).go i H ∧ ∃ N : St → Hp → Prop, (∀ σ' H', N σ' H' → ∃ m', m' < m ∧ W (i + 1) m' σ' H') ∧ ∀ x H', (IteT K a).yld i H x H' → g x σ H' fun σ2 H2 => tb { D with nx := N, ct := N, bk := D.nx } σ2 H2))) := by
  have mL : ∀ {i σ' H'}, SqL K H0 a xs → Pv i σ' H' → SqL K H' a xs := fun {i σ' H'} h p => by
    have k := hm i σ' H' p
    rcases h with (h | ⟨o, h⟩) | h
    · exact .inl (.inl (k _ _ h))
    · exact .inl (.inr ⟨o, k _ _ h⟩)
    · exact .inr h
  have mT : ∀ {i σ' H'}, SqT K H0 a xs → Pv i σ' H' → SqT K H' a xs := fun {i σ' H'} h p => by
    have k := hm i σ' H' p
    rcases h with (h | ⟨o, h⟩) | h
    · exact .inl (.inl (k _ _ h))
    · exact .inl (.inr ⟨o, k _ _ h⟩)
    · exact .inr h
  rcases hq with h | h
  · refine .inl ⟨mL h h0, fun i m σ H => m = xs.length - i ∧ i ≤ xs.length ∧ Pv i σ H, ⟨xs.length, by simp, Nat.zero_le _, h0⟩, ?_⟩
    rintro i m σ H ⟨rfl, hi, p⟩
    have q := mL h p
    by_cases hlt : i < xs.length
    · refine .inr ⟨⟨xs, xs[i], q, by simp [hlt]⟩, Pv (i + 1), fun σ' H' p' => ⟨xs.length - (i + 1), by omega, rfl, hlt, p'⟩, fun x H' y => ?_⟩
      obtain ⟨T, z, rfl, nT, rfl, hz⟩ := y
      exact hs i z σ H T (hz xs q) p nT
    · have e : i = xs.length := by omega
      subst e
      exact .inl ⟨⟨xs, q, Nat.le_refl _⟩, hd σ H p⟩
  · refine .inr ⟨mT h h0, fun i m σ H => m = xs.length - i ∧ i ≤ xs.length ∧ Pv i σ H, ⟨xs.length, by simp, Nat.zero_le _, h0⟩, ?_⟩
    rintro i m σ H ⟨rfl, hi, p⟩
    have q := mT h p
    by_cases hlt : i < xs.length
    · refine .inr ⟨⟨xs, xs[i], q, by simp [hlt]⟩, Pv (i + 1), fun σ' H' p' => ⟨xs.length - (i + 1), by omega, rfl, hlt, p'⟩, fun x H' y => ?_⟩
      obtain ⟨T, z, rfl, nT, rfl, hz⟩ := y
      exact hs i z σ H T (hz xs q) p nT
    · have e : i = xs.length := by omega
      subst e
      exact .inl ⟨⟨xs, q, rfl⟩, hd σ H p⟩
end L2


set_option Elab.async false
set_option linter.all false
set_option maxRecDepth 100000
set_option maxHeartbeats 4000000
/-! try with several except clauses, each with a name or without one -/
namespace L2
open PySem PySem.Spec PyProof.Rows
def wManyA (K : PySem.W.Frag) (Wout : WX) (D : Ends) : List (Value × Option Nat × (Addr → Value → Option Addr → TS)) → WX
  | [] => Wout
  | (c, none, ts) :: r => fun cls d σ H => ∃ b, PySem.W.exmOne K cls c = some b ∧ (b = true → ∀ a, H a = none → ts a cls d D σ H) ∧ (b = false → wManyA K Wout D r cls d σ H)
  | (c, some i, ts) :: r => fun cls d σ H => ∃ b, PySem.W.exmOne K cls c = some b ∧ (b = true → i < σ.length → ∀ a, H a = none → ts a cls d { nx := fun σ' H' => D.nx (σ'.set i none) H', rt := D.rt, bk := fun σ' H' => D.bk (σ'.set i none) H', ct := fun σ' H' => D.ct (σ'.set i none) H' } (σ.set i (some (.ref a))) H) ∧
      (b = false → wManyA K Wout D r cls d σ H)
inductive HdsA (X : Cx) : List ExceptHandler → List (Value × Option Nat × (Addr → Value → Option Addr → TS)) → Prop
  | nil : HdsA X [] []
  | plain {x : Str} {c : Value} {ts : Addr → Value → Option Addr → TS} {b₀ : Stmt} {suite : List Stmt} {np pos' : Pos} {hds : List ExceptHandler} {l : List (Value × Option Nat × (Addr → Value → Option Addr → TS))} (hc : Names X x c)
      (hsu : ∀ (a : Addr) (oe : Obj) (cls : Value) (d : Option Addr) (pn : List (Addr × Obj)), Zc cls d oe → (∃ vs, oe.data = .fields vs) → PSs (X.suite a ((a, oe) :: pn)) (b₀ :: suite) (ts a cls d)) (r : HdsA X hds l) :
      HdsA X (.ExceptHandler (some (.Name x np)) none (b₀ :: suite) pos' :: hds) ((c, none, ts) :: l)
  | named {x n : Str} {i : Nat} {c : Value} {ts : Addr → Value → Option Addr → TS} {b₀ : Stmt} {suite : List Stmt} {np pos' : Pos} {hds : List ExceptHandler} {l : List (Value × Option Nat × (Addr → Value → Option Addr → TS))} (hi : X.N[i]? = some n) (hln : X.env.kindOf n = some .local) (hc : Names X x c)
      (hsu : ∀ (a : Addr) (oe : Obj) (cls : Value) (d : Option Addr) (pn : List (Addr × Obj)), Zc cls d oe → (∃ vs, oe.data = .fields vs) → PSs (X.suite a ((a, oe) :: pn)) (b₀ :: suite) (ts a cls d)) (r : HdsA X hds l) :
      HdsA X (.ExceptHandler (some (.Name x np)) (some n) (b₀ :: suite) pos' :: hds) ((c, some i, ts) :: l)
section
variable {X : Cx} {body : List Stmt} {h₀ : ExceptHandler} {hds : List ExceptHandler} {l : List (Value × Option Nat × (Addr → Value → Option Addr → TS))} {pos : Pos} {tb : WX → TS} {Wout : WX}
theorem ps_try_manyA (hs : X.stack = X.env :: X.outer) (hf : X.env.frame = some X.env.locals) (hN : X.N.Nodup) (tk : Takes X Wout)
    (hb : ∀ (W : WX) (pn : List (Addr × Obj)) (xe : Value → Shared → Prop), Takes (X.tr pn xe) W → PassesOwn (model X.prog X.w) X.A X.env xe → PSs (X.tr pn xe) body (tb W))
    (hh : HdsA X (h₀ :: hds) l) : PS X (.Try body (h₀ :: hds) [] [] pos) (fun D σ H => tb (wManyA X.K Wout D l) D σ H) := by
  refine ⟨fun pins s σ H D I h => ?_⟩
  have ok := I.ok
  have hfr : X.A.frames = some (X.env :: X.outer) := by rw [ok.frames, hs]
  refine wpAny_Try_except ?_
  refine wpAny_mono ((hb (wManyA X.K Wout D l) (X.pn ++ pins) (fun e s₁ => wpAny (model X.prog X.w) X.A (noteFrame e X.env) (fun _ s₂ => wpAny (model X.prog X.w) X.A (setFlight e none) (fun _ s₃ =>
    wpAny (model X.prog X.w) X.A (handleBy e X.env (h₀ :: hds)) (SP X pins D) X.xe s₃) X.xe s₂) X.xe s₁) (fun u s' xx => ?_) PassesOwn.looking).run [] s σ H D (I.toTry _) h) (fun f s1 hsp => ?_) (fun e s1 he => he)
  · -- the catch
    obtain ⟨a, B, sI, pins', σ', H', cls, d, rfl, J', nb, up, sky, na, os, ag, w⟩ := xx
    have J : Inv X pins σ' H' sI := J'.ofTry ok
    have sky' : Sky B (X.env :: X.outer) a (Zc cls d) X.env.locals s'.heap := by rw [← hs]; exact sky
    show wpAny (model X.prog X.w) X.A (noteFrame (.ref a) X.env) _ _ _
    refine Sky.land Zc.steady hfr hf sky' fun h3 fl3 up3 => ?_
    have J3 : Inv X pins σ' H' { s' with heap := h3 } := J.landed nb fl3.1 (up.trans up3) os ag
    obtain ⟨oe3, vs3, he3, hz3, hd3⟩ := fl3.there
    have notFr : ∀ {h : Heap} {o : Obj} {vs : Array Value}, h.FunFrames B (X.env :: X.outer) → h.get? a = some o → o.data = .fields vs → a ∉ frs (X.env :: X.outer) := fun {h o vs} ff e dd hm => by
      obtain ⟨_, o', e', hnf⟩ := ff.mem hm
      rw [e] at e'; cases e'
      exact hnf _ dd
    have nfr := notFr fl3.2.2.1 he3 hd3
    have nL : a ≠ X.env.locals := fun z => nfr (List.mem_filterMap.mpr ⟨X.env, List.mem_cons_self, by rw [hf, z]⟩)
    have nF : a ∉ X.fs := fun hm => by
      obtain ⟨e, he, q⟩ := List.mem_filterMap.mp hm
      exact nfr (List.mem_filterMap.mpr ⟨e, List.mem_cons_of_mem _ he, q⟩)
    have S3 := J3.suite he3 hd3 na nL nF
    have LT : PySem.W.Looks (model X.prog X.w) h3 (typeOf (.ref a)) cls := fun A Q E s k q => wpAny_typeOf_ref (k _ _ he3) (by rw [hz3.1]; exact q)
    have test : ∀ {x : Str} {np : Pos} {c : Value} (hc : Names X x c) {Q : Value → Shared → Prop} {E : Value → Shared → Prop}, Q c { s' with heap := h3 } → wpAny (model X.prog X.w) (X.A.mark (some (.ref a))) (eval (.Name x np) X.env) Q E { s' with heap := h3 } := fun {x np c} hc {Q E} q => by
      obtain ⟨hg, hdbg, hm | ⟨hm, hv, hnn⟩⟩ := hc
      · exact ld_glob (X := X.suite a ((a, oe3) :: (X.pn ++ pins))) S3 hg hm q hdbg
      · exact ld_blt (X := X.suite a ((a, oe3) :: (X.pn ++ pins))) S3 hg hm hv q hnn hdbg
    have go : ∀ {hds' : List ExceptHandler} {l' : List (Value × Option Nat × (Addr → Value → Option Addr → TS))}, HdsA X hds' l' → wManyA X.K Wout D l' cls d σ' H' →
        wpAny (model X.prog X.w) X.A (handleBy (.ref a) X.env hds') (SP X pins D) X.xe { s' with heap := h3 } := by
      intro hds' l' hk
      induction hk with
      | nil =>
        intro w
        refine wpAny_handleBy_nil ?_
        obtain ⟨k1, k2, k3, oe, vs, T, oT, ts', he, hz, hd, h1, hr⟩ := id fl3
        unfold PySem.passOn
        refine wpAny_bind (wpAny_field he hd h1 ?_)
        rw [if_neg (show ¬ ((Value.ref T == Value.none) = true) from by simp)]
        have fin : wpAny (model X.prog X.w) X.A (setFlight (.ref a) X.env.frame) (fun _ s4 => wpAny (model X.prog X.w) X.A (throw (.ref a) : Sem Flow) (SP X pins D) X.xe s4) X.xe { s' with heap := h3 } := by
          rw [hf]
          refine HandSPX.setFlight_upZ fl3 fun h4 hh4 up4 => wpAny_throw (tk _ _ ?_)
          exact ⟨a, B, sI, pins, σ', H', cls, d, rfl, J, nb, (up.trans up3).trans up4, .inr (.inr (by rw [hs]; exact hh4)), na, os, ag, w⟩
        first
          | exact wpAny_bind (wpAny_pure (wpAny_bind fin))
          | exact wpAny_bind fin
      | @plain x c ts b₀ suite np pos' hds2 l2 hc hsu r ih =>
        intro w
        obtain ⟨b, hb1, hyes, hno⟩ := w
        refine wpAny_handleBy_cons (codeAny_handlers_test ?_) (by intro q; cases q)
        have LM := PySem.W.exm_one (M := model X.prog X.w) (J3.kIn) LT hb1
        refine test hc (LM.here ?_)
        cases b with
        | true =>
          refine codeAny_handlers_suite ?_
          refine HandSPX.lands_againZ fl3 fun h4 fl4 up4 => ?_
          have J4 : Inv X pins σ' H' { s' with heap := h4 } := J.landed nb fl4.1 ((up.trans up3).trans up4) os ag
          obtain ⟨oe4, vs4, he4, hz4, hd4⟩ := fl4.there
          have S4 := J4.suite he4 hd4 na nL nF
          refine wpAny_mono ((hsu a oe4 cls d (X.pn ++ pins) hz4 ⟨_, hd4⟩).run [] _ _ H' _ S4 (hyes rfl a na)) (fun f s6 hsp => ?_) (fun _ _ z => False.elim z)
          cases f with
          | next =>
            obtain ⟨σ6, H6, S6, q6⟩ := hsp
            exact ⟨_, _, S6.unsuite ok, q6⟩
          | brk =>
            obtain ⟨σ6, H6, S6, q6⟩ := hsp
            exact ⟨_, _, S6.unsuite ok, q6⟩
          | cont =>
            obtain ⟨σ6, H6, S6, q6⟩ := hsp
            exact ⟨_, _, S6.unsuite ok, q6⟩
          | ret u =>
            obtain ⟨v6, σ6, H6, S6, r6, q6⟩ := hsp
            exact ⟨_, _, _, S6.unsuite ok, r6, q6⟩
        | false =>
          show wpAny _ X.A (handleBy (.ref a) X.env hds2) _ _ _
          exact ih (hno rfl)
      | @named x n i c ts b₀ suite np pos' hds2 l2 hi hln hc hsu r ih =>
        intro w
        have hloc : Loc X.env.scope n := .inl hln
        obtain ⟨b, hb1, hyes, hno⟩ := w
        refine wpAny_handleBy_cons (codeAny_handlers_test ?_) (by intro q; cases q)
        have LM := PySem.W.exm_one (M := model X.prog X.w) (J3.kIn) LT hb1
        refine test hc (LM.here ?_)
        cases b with
        | true =>
          refine codeAny_handlers_suite_as ?_
          refine HandSPX.lands_againZ fl3 fun h4 fl4 up4 => ?_
          have J4 : Inv X pins σ' H' { s' with heap := h4 } := J.landed nb fl4.1 ((up.trans up3).trans up4) os ag
          obtain ⟨oe4, vs4, he4, hz4, hd4⟩ := fl4.there
          have S4 := J4.suite he4 hd4 na nL nF
          refine store_ok (X := X.suite a ((a, oe4) :: (X.pn ++ pins))) (v := .ref a) S4 hN hi hloc rfl (fun s5 S5 => ?_) (.inr hln)
          refine wpAny_mono ((hsu a oe4 cls d (X.pn ++ pins) hz4 ⟨_, hd4⟩).run [] s5 _ H' _ S5 (hyes rfl (by rw [J.len]; exact (List.getElem?_eq_some_iff.mp hi).1) a na)) (fun f s6 hsp => ?_) (fun _ _ z => False.elim z)
          have end_ : ∀ {σ6 : St} {H6 : Hp} {Q : Shared → Prop}, Inv (X.suite a ((a, oe4) :: (X.pn ++ pins))) [] σ6 H6 s6 → (∀ s7, Inv X pins (σ6.set i none) H6 s7 → Q s7) →
              wpAny (model X.prog X.w) X.A (do bindName X.env n .none; unbindBehindTheSuite X.env n pos') (fun _ s7 => Q s7) X.xe s6 := fun {σ6 H6 Q} S6 hq => gone_ok (S6.unsuite ok) hN hi hln hq
          cases f with
          | next =>
            obtain ⟨σ6, H6, S6, q6⟩ := hsp
            exact end_ S6 fun s7 J7 => ⟨_, _, J7, q6⟩
          | brk =>
            obtain ⟨σ6, H6, S6, q6⟩ := hsp
            exact end_ S6 fun s7 J7 => ⟨_, _, J7, q6⟩
          | cont =>
            obtain ⟨σ6, H6, S6, q6⟩ := hsp
            exact end_ S6 fun s7 J7 => ⟨_, _, J7, q6⟩
          | ret u =>
            obtain ⟨v6, σ6, H6, S6, r6, q6⟩ := hsp
            exact end_ S6 fun s7 J7 => ⟨_, _, _, J7, r6, q6⟩
        | false =>
          show wpAny _ X.A (handleBy (.ref a) X.env hds2) _ _ _
          exact ih (hno rfl)
    exact go hh w
  · cases f with
    | next =>
      obtain ⟨σ', H', J', q⟩ := hsp
      exact wpAny_execs_nil ⟨σ', H', J'.ofTry ok, q⟩
    | brk =>
      obtain ⟨σ', H', J', q⟩ := hsp
      exact ⟨σ', H', J'.ofTry ok, q⟩
    | cont =>
      obtain ⟨σ', H', J', q⟩ := hsp
      exact ⟨σ', H', J'.ofTry ok, q⟩
    | ret u =>
      obtain ⟨v, σ', H', J', r, q⟩ := hsp
      exact ⟨v, σ', H', J'.ofTry ok, r, q⟩
end
end L2


set_option Elab.async false
set_option linter.all false
set_option maxRecDepth 100000
set_option maxHeartbeats 4000000
namespace K1
open PySem PySem.Spec PyProof.Rows L2 RZ
/-! ### values as data: what stands at a place, found in the call's own objects -/
mutual
inductive Dv (H : Hp) : V → PyData → Prop
  | non : Dv H .non .none
  | bl (b : Bool) : Dv H (.bl b) (.bool b)
  | int (i : Int) : Dv H (.int i) (.int i)
  | str (x : Str) : Dv H (.str x) (.str x)
  | lst {a : Addr} {xs : List V} {ds : List PyData} : H a = some (.lst xs) → DvA H xs ds → Dv H (.ref a) (.list ds)
  | tup {a : Addr} {xs : List V} {ds : List PyData} : H a = some (.tup xs) → DvA H xs ds → Dv H (.ref a) (.tuple ds)
  | dic {a : Addr} : H a = some (.dK []) → Dv H (.ref a) (.dict [])
inductive DvA (H : Hp) : List V → List PyData → Prop
  | nil : DvA H [] []
  | cons {v : V} {vs : List V} {d : PyData} {ds : List PyData} : Dv H v d → DvA H vs ds → DvA H (v :: vs) (d :: ds)
end
mutual
theorem Dv.ext {H H' : Hp} (e : LamX.ExtN H H') : ∀ {v : V} {d : PyData}, Dv H v d → Dv H' v d
  | _, _, .non => .non
  | _, _, .bl b => .bl b
  | _, _, .int i => .int i
  | _, _, .str x => .str x
  | _, _, .lst h a => .lst (e _ _ h fun _ z => by cases z) (DvA.ext e a)
  | _, _, .tup h a => .tup (e _ _ h fun _ z => by cases z) (DvA.ext e a)
  | _, _, .dic h => .dic (e _ _ h fun _ z => by cases z)
theorem DvA.ext {H H' : Hp} (e : LamX.ExtN H H') : ∀ {vs : List V} {ds : List PyData}, DvA H vs ds → DvA H' vs ds
  | _, _, .nil => .nil
  | _, _, .cons h r => .cons (Dv.ext e h) (DvA.ext e r)
end
theorem Dv.same {H H' : Hp} {v : V} {d : PyData} (h : Dv H v d) (s : Same H H') : Dv H' v d := h.ext (LamX.ExtN.of s)
theorem DvA.same {H H' : Hp} {v : List V} {d : List PyData} (h : DvA H v d) (s : Same H H') : DvA H' v d := h.ext (LamX.ExtN.of s)
mutual
def noDic : PyData → Bool
  | .list xs => noDicA xs
  | .tuple xs => noDicA xs
  | .dict _ => false
  | _ => true
def noDicA : List PyData → Bool
  | [] => true
  | x :: r => noDic x && noDicA r
end
mutual
theorem Dv.dp {K : PySem.W.Frag} {H : Hp} : ∀ {v : V} {d : PyData}, Dv H v d → noDic d = true → Dp K H v d
  | _, _, .non, _ => .non
  | _, _, .bl b, _ => .bl b
  | _, _, .int i, _ => .int i
  | _, _, .str x, _ => .str x
  | _, _, .lst h a, n => .lst (sq h) (DvA.dp a n)
  | _, _, .tup h a, n => .tup (st h) (DvA.dp a n)
  | _, _, .dic h, n => by cases n
theorem DvA.dp {K : PySem.W.Frag} {H : Hp} : ∀ {vs : List V} {ds : List PyData}, DvA H vs ds → noDicA ds = true → DpAll K H vs ds
  | _, _, .nil, _ => .nil
  | _, _, .cons h r, n => .cons (Dv.dp h ((Bool.and_eq_true _ _).mp n).1) (DvA.dp r ((Bool.and_eq_true _ _).mp n).2)
end
theorem DvA.len {H : Hp} : ∀ {vs : List V} {ds : List PyData}, DvA H vs ds → vs.length = ds.length
  | _, _, .nil => rfl
  | _, _, .cons _ r => congrArg (· + 1) (DvA.len r)
theorem DvA.get {H : Hp} : ∀ {vs : List V} {ds : List PyData}, DvA H vs ds → ∀ {i : Nat} {v : V}, vs[i]? = some v → ∃ d, ds[i]? = some d ∧ Dv H v d
  | _, _, .nil, i, v, h => by simp at h
  | _, _, .cons hd r, 0, v, h => ⟨_, rfl, by simp at h; exact h ▸ hd⟩
  | _, _, .cons hd r, i + 1, v, h => by simpa using DvA.get r (i := i) (v := v) (by simpa using h)
theorem DvA.app {H : Hp} : ∀ {vs : List V} {ds : List PyData} {us : List V} {es : List PyData}, DvA H vs ds → DvA H us es → DvA H (vs ++ us) (ds ++ es)
  | _, _, _, _, .nil, h => h
  | _, _, _, _, .cons hd r, h => .cons hd (DvA.app r h)
def tyN : PyData → String
  | .none => "NoneType"
  | .bool _ => "bool"
  | .int _ => "int"
  | .str _ => "str"
  | .list _ => "list"
  | .tuple _ => "tuple"
  | .dict _ => "dict"
theorem Dv.ty {K : PySem.W.Frag} {H : Hp} {v : V} {d : PyData} (h : Dv H v d) : TyX K H v (.type (tyN d)) := by
  cases h with
  | non => exact .base .non
  | bl b => exact .base (.bl b)
  | int i => exact .base (.int i)
  | str x => exact .base (.str x)
  | lst e _ => exact .base (.lst e)
  | tup e _ => exact .base (.tup e)
  | dic e => exact .base (.dK e)
/-! ### what the checks say of data -/
def isInt : PyData → Bool | .int _ => true | _ => false
def isNum : PyData → Bool | .int n => decide (1 ≤ n) | _ => false
def isStr : PyData → Bool | .str _ => true | _ => false
def isTup : PyData → Bool | .tuple _ => true | _ => false
def isSeq : PyData → Bool | .tuple _ => true | .list _ => true | _ => false
def itemsD : PyData → List PyData | .list xs => xs | .tuple xs => xs | _ => []
def dI : PyData → Int | .int n => n | _ => 0
def isNums (d : PyData) : Bool := isSeq d && (itemsD d).all isNum
def ascB (ns : List Int) : Bool := ((ns.zip (ns.drop 1)).map fun p => decide (p.1 < p.2)).all id
theorem kit_int (d : PyData) : ∃ b1 b2, kitB (tyN d) "int" = some b1 ∧ kitB (tyN d) "bool" = some b2 ∧ (b1 && !b2) = isInt d := by
  cases d with
  | none => exact ⟨false, false, (show kitB "NoneType" "int" = some false by decide +kernel), (show kitB "NoneType" "bool" = some false by decide +kernel), rfl⟩
  | bool b => exact ⟨true, true, (show kitB "bool" "int" = some true by decide +kernel), (show kitB "bool" "bool" = some true by decide +kernel), rfl⟩
  | int b => exact ⟨true, false, (show kitB "int" "int" = some true by decide +kernel), (show kitB "int" "bool" = some false by decide +kernel), rfl⟩
  | str b => exact ⟨false, false, (show kitB "str" "int" = some false by decide +kernel), (show kitB "str" "bool" = some false by decide +kernel), rfl⟩
  | list b => exact ⟨false, false, (show kitB "list" "int" = some false by decide +kernel), (show kitB "list" "bool" = some false by decide +kernel), rfl⟩
  | tuple b => exact ⟨false, false, (show kitB "tuple" "int" = some false by decide +kernel), (show kitB "tuple" "bool" = some false by decide +kernel), rfl⟩
  | dict b => exact ⟨false, false, (show kitB "dict" "int" = some false by decide +kernel), (show kitB "dict" "bool" = some false by decide +kernel), rfl⟩
theorem kit_str (d : PyData) : kitB (tyN d) "str" = some (isStr d) := by
  cases d with
  | none => exact (show kitB "NoneType" "str" = some false by decide +kernel)
  | bool b => exact (show kitB "bool" "str" = some false by decide +kernel)
  | int b => exact (show kitB "int" "str" = some false by decide +kernel)
  | str b => exact (show kitB "str" "str" = some true by decide +kernel)
  | list b => exact (show kitB "list" "str" = some false by decide +kernel)
  | tuple b => exact (show kitB "tuple" "str" = some false by decide +kernel)
  | dict b => exact (show kitB "dict" "str" = some false by decide +kernel)
theorem kit_tup (d : PyData) : kitB (tyN d) "tuple" = some (isTup d) := by
  cases d with
  | none => exact (show kitB "NoneType" "tuple" = some false by decide +kernel)
  | bool b => exact (show kitB "bool" "tuple" = some false by decide +kernel)
  | int b => exact (show kitB "int" "tuple" = some false by decide +kernel)
  | str b => exact (show kitB "str" "tuple" = some false by decide +kernel)
  | list b => exact (show kitB "list" "tuple" = some false by decide +kernel)
  | tuple b => exact (show kitB "tuple" "tuple" = some true by decide +kernel)
  | dict b => exact (show kitB "dict" "tuple" = some false by decide +kernel)
theorem kit_seq {K : PySem.W.Frag} (d : PyData) : PySem.W.kitAny K (.type (tyN d)) [.type "list", .type "tuple"] = some (isSeq d) := by
  have kt : ∀ {t : String} {b1 b2 : Bool}, kitB t "list" = some b1 → kitB t "tuple" = some b2 → PySem.W.kitAny K (.type t) [.type "list", .type "tuple"] = some (b1 || b2) := fun {t b1 b2} h1 h2 =>
    kitAny_cons (b := b1) (kit_ty h1) (fun e => by subst e; exact kitAny_cons (b := b2) (kit_ty h2) (fun e => by subst e; exact kitAny_nil) fun e => by subst e; rfl) fun e => by subst e; rfl
  cases d with
  | none => exact kt (t := "NoneType") (b1 := false) (b2 := false) (by decide +kernel) (by decide +kernel)
  | bool b => exact kt (t := "bool") (b1 := false) (b2 := false) (by decide +kernel) (by decide +kernel)
  | int b => exact kt (t := "int") (b1 := false) (b2 := false) (by decide +kernel) (by decide +kernel)
  | str b => exact kt (t := "str") (b1 := false) (b2 := false) (by decide +kernel) (by decide +kernel)
  | list b => exact kt (t := "list") (b1 := true) (b2 := false) (by decide +kernel) (by decide +kernel)
  | tuple b => exact kt (t := "tuple") (b1 := false) (b2 := true) (by decide +kernel) (by decide +kernel)
  | dict b => exact kt (t := "dict") (b1 := false) (b2 := false) (by decide +kernel) (by decide +kernel)
/-- a list or a tuple of the call's own -/
def SeqH (H : Hp) (a : Addr) (xs : List V) : Prop := H a = some (.lst xs) ∨ H a = some (.tup xs)
theorem SeqH.same {H H' : Hp} {a : Addr} {xs : List V} (h : SeqH H a xs) (s : Same H H') : SeqH H' a xs := h.imp (s _ _) (s _ _)
theorem SeqH.len {K : PySem.W.Frag} {H : Hp} {a : Addr} {xs : List V} (h : SeqH H a xs) : SqL K H a xs ∨ SqT K H a xs := h.imp sq st
theorem Dv.seq {H : Hp} {v : V} {d : PyData} (h : Dv H v d) (hs : isSeq d = true) : ∃ a xs, v = .ref a ∧ SeqH H a xs ∧ DvA H xs (itemsD d) := by
  cases h with
  | lst e r => exact ⟨_, _, rfl, .inl e, r⟩
  | tup e r => exact ⟨_, _, rfl, .inr e, r⟩
  | _ => cases hs
theorem Dv.tupD {H : Hp} {v : V} {d : PyData} (h : Dv H v d) (hs : isTup d = true) : ∃ a xs, v = .ref a ∧ H a = some (.tup xs) ∧ DvA H xs (itemsD d) ∧ d = .tuple (itemsD d) := by
  cases h with
  | tup e r => exact ⟨_, _, rfl, e, r, rfl⟩
  | _ => cases hs
/-- what a walk over a list or a tuple asks -/
def SeqR (K : PySem.W.Frag) (a : Addr) (H : Hp) (R : It → Hp → Prop) : Prop := ((∃ xs, SqL K H a xs) ∧ R (Itl K a) H) ∨ ((∃ xs, SqT K H a xs) ∧ R (Itt K a) H)
def ZipR (K : PySem.W.Frag) (a b : Addr) (xs ys : List V) (H : Hp) (R : It → Hp → Prop) : Prop := (SqL K H a xs ∧ SqL K H b ys ∧ R (Itz K a b) H) ∨ (SqT K H a xs ∧ SqT K H b ys ∧ R (ItzT K a b) H)
/-- a walk of a list or a tuple of the call's own -/
theorem seq_walk {K : PySem.W.Frag} {H : Hp} {a : Addr} {xs : List V} {R : It → Hp → Prop} (h : SeqH H a xs)
    (k : ∀ (J : It) (Gd : Hp → Prop), Walk J xs.length Gd (YAt xs) → (∀ H', Same H H' → Gd H') → R J H) : SeqR K a H R := by
  rcases h with h | h
  · exact .inl ⟨⟨xs, sq h⟩, k _ _ walk_list fun H' s => sq (s _ _ h)⟩
  · exact .inr ⟨⟨xs, st h⟩, k _ _ walk_tup fun H' s => st (s _ _ h)⟩
theorem walk_zipT {K : PySem.W.Frag} {a b : Addr} {xs ys : List V} {n : Nat} (hn : n = min xs.length ys.length) : Walk (ItzT K a b) n (fun H => SqT K H a xs ∧ SqT K H b ys) (YPair (fun i => xs[i]?) (fun i => ys[i]?)) := by
  subst hn
  refine ⟨fun i _ hi q => ?_, fun _ q => ⟨xs, ys, q.1, q.2, by omega⟩, fun i H v H' _ q y => ?_⟩
  · have h1 : i < xs.length := by omega
    have h2 : i < ys.length := by omega
    exact ⟨xs, ys, xs[i], ys[i], q.1, q.2, by simp [h1], by simp [h2]⟩
  · obtain ⟨T, x, z, h1, h2, h3, h4, h5⟩ := y
    exact ⟨T, x, z, h1, h2, h3, h4 xs q.1, h5 ys q.2⟩
theorem zip_walkL {K : PySem.W.Frag} {H : Hp} {a b : Addr} {xs ys : List V} {R : It → Hp → Prop} (h1 : H a = some (.lst xs)) (h2 : H b = some (.lst ys))
    (k : ∀ (J : It) (Gd : Hp → Prop), Walk J (min xs.length ys.length) Gd (YPair (fun i => xs[i]?) (fun i => ys[i]?)) → (∀ H', Same H H' → Gd H') → R J H) : ZipR K a b xs ys H R :=
  .inl ⟨sq h1, sq h2, k _ _ (walk_zip rfl) fun H' s => ⟨sq (s _ _ h1), sq (s _ _ h2)⟩⟩
theorem zip_walkT {K : PySem.W.Frag} {H : Hp} {a b : Addr} {xs ys : List V} {R : It → Hp → Prop} (h1 : H a = some (.tup xs)) (h2 : H b = some (.tup ys))
    (k : ∀ (J : It) (Gd : Hp → Prop), Walk J (min xs.length ys.length) Gd (YPair (fun i => xs[i]?) (fun i => ys[i]?)) → (∀ H', Same H H' → Gd H') → R J H) : ZipR K a b xs ys H R :=
  .inr ⟨st h1, st h2, k _ _ (walk_zipT rfl) fun H' s => ⟨st (s _ _ h1), st (s _ _ h2)⟩⟩
structure Bj (mg : Str → Option Value) : Prop extends Bi mg where
  all : mg "all" = none
  zip : mg "zip" = none
section
variable {X : Cx} {K : PySem.W.Frag}
theorem sl_seqK (h : X.K = K) : SlR X (fun x lo hi H Q => rSlL K x lo hi H Q ∨ rSlA K x lo hi H Q) := by subst h; exact SlR.or sl_list sl_tupA
theorem call_isiK1 (h : X.K = K) : CallR X (.builtin "isinstance") (rIsi K) := by subst h; exact call_isi
theorem call_isiTK (h : X.K = K) : CallR X (.builtin "isinstance") (rIsiT K) := by subst h; exact call_isiT
theorem cr_allK (h : X.K = K) (hc : X.calm = true) : CallR X (.builtin "all") (rAll K) := by subst h; exact cr_all hc
theorem ix_seqK (h : X.K = K) : IxR X (rIx K) := by subst h; exact ix_seq
theorem pe_const {x : Str} {pos : Pos} {n : Int} (hm : ∃ t, X.mg x = some (.int n t)) (hg : Gl X x) (hd : (x == ("__debug__" : Str)) = false := by decide) : PE X (.Name x pos) (tC (.int n)) := by
  obtain ⟨t, hm⟩ := hm
  exact pe_glob hg hm ⟨t, rfl⟩ hd
/-- a walk over a list or a tuple -/
def iSeq (K : PySem.W.Frag) (tl : TE) : TI := fun σ H R => tl σ H fun x H1 => ∃ a, x = .ref a ∧ SeqR K a H1 R
theorem pi_seqK {tg l : Expr} {tl : TE} (h : X.K = K) (hl : PE X l tl) : PI X tg l (iSeq K tl) := by
  subst h
  refine ⟨fun pins s σ H R I h => ?_⟩
  refine thn (hl.run pins s σ H _ I h) fun v s1 ⟨x, H1, I1, r1, q1⟩ => ?_
  obtain ⟨a, e, q1⟩ := q1
  subst e
  cases r1
  have fr : ∀ b ∈ [s1.heap.objs.size], FpOk X pins H1 b := fun b hb => by
    have e : b = s1.heap.objs.size := by simpa using hb
    subst e
    exact I1.fpOk (Nat.le_refl _) (I1.hok.fresh (Nat.le_refl _))
  rcases q1 with ⟨⟨xs, hq⟩, q⟩ | ⟨⟨xs, hq⟩, q⟩
  · obtain ⟨its, rv, p, hz⟩ := I1.list hq
    refine wpAny_pyIter_list p.isList ?_
    exact ⟨s1.heap.objs.size, [s1.heap.objs.size], _, _, H1, rfl, I1.kept (t' := s1.toks) fun b o e => Heap.get?_push_of_some _ e, turn_list a _, ⟨_, Heap.get?_push_size _ rfl, rfl, rfl⟩, fr, q⟩
  · obtain ⟨its, rv, p, hz⟩ := I1.tuple hq
    refine wpAny_pyIter_tuple (show s1.heap.IsTuple a its.toArray from p) ?_
    exact ⟨s1.heap.objs.size, [s1.heap.objs.size], _, _, H1, rfl, I1.kept (t' := s1.toks) fun b o e => Heap.get?_push_of_some _ e, turn_tuple a _, ⟨_, Heap.get?_push_size _ rfl, rfl, rfl⟩, fr, q⟩
def iZipS (K : PySem.W.Frag) (ta : TA) : TI := fun σ H R => ta σ H fun vs H1 => ∃ a b xs ys, vs = [.ref a, .ref b] ∧ ZipR K a b xs ys H1 R
theorem pi_zipSK {e e2 : Expr} {ta : TA} {p pos tpos : Pos} {elts : List Expr} {kk : Nat} (h : X.K = K) (hg : Gl X "zip") (hm : X.mg "zip" = none) (ha : PA X [e, e2] ta)
    (hs : starEach [e, e2] X.env = (false, eval e X.env) :: starEach [e2] X.env := by rfl) (hpl : (backTo pos (starEach [e2] X.env)).any (·.1) = false := by rfl) :
    PI X (.Tuple elts kk tpos) (.Call (.Name "zip" p) [e, e2] [] pos) (iZipS K ta) := by subst h; exact pi_zipA hg hm ha hs hpl
end
end K1


set_option Elab.async false
set_option linter.all false
set_option maxRecDepth 100000
set_option maxHeartbeats 4000000
/-! Dicts with tuple keys: a display of one pair, a comprehension, the items of a locked one. -/
namespace K1
open PySem PySem.Spec PyProof.Rows L2
/-! ### {(a, b): c} -/
def oneT (p : Addr) (Q : VK) (ps : List (V × V)) (G : Hp) : Prop := ∃ (ks : List L2.Key) (b : Addr) (y : V), ps = [(.ref b, y)] ∧ G p = some (.dT []) ∧ G b = some (.tup (ks.map kV)) ∧ Q (.ref p) (upd G p (.dT [(ks, y)]))
def tDisp1T (tk tv : TE) : TE := fun σ H Q => ∀ p, H p = none → tPairs [(tk, tv)] σ (upd H p (.dT [])) (oneT p Q)
theorem pe_disp1T {X : Cx} {pos : Pos} {k v : Expr} {tk tv : TE} (hu : X.A.units < cLine) (hk : PE X k tk) (hv : PE X v tv) : PE X (.Dict [some k] [v] pos) (tDisp1T tk tv) := by
  refine ⟨fun pins s σ H Q I q => ?_⟩
  have fresh := I.hok.fresh (Nat.le_refl s.heap.objs.size)
  have I0 := I.laid (a := s.heap.objs.size) (o := .dT []) (h' := s.heap.push { cls := .type "dict", data := .dict #[] }) (t' := s.toks) (fun _ _ z => Heap.get?_push_of_some _ z) (Nat.le_refl _) (dt_empty s.heap I.big)
  have len : (pairTrees [some k] [v] X.env pos).length = 1 := pairTrees_length [some k] [v] X.env pos rfl rfl
  have ne : pairTrees [some k] [v] X.env pos ≠ [] := fun z => by rw [z] at len; cases len
  rw [arm_eval_Dict, zip_pairTrees [some k] [v] X.env pos rfl rfl, dictDisplay_pairs _ ne (by rw [len]; decide)]
  refine wpAny_bind (wpAny_standAt (wpAny_bind (wpAny_subDictH (knd := tupleKind (mixKind X.prog X.w)) (Q := fun d s' => wpAny (model X.prog X.w) X.A (pure (Value.ref d)) (EP X pins σ Q) X.xe s') hu (by rw [len]; decide) ?_)))
  refine thn ((pps_cons hk hv pps_nil).run pins _ σ _ _ I0 (q _ fresh)) fun ws s2 ⟨ps, G, I2, rel, qq⟩ => ?_
  obtain ⟨ks, b, y, ep, hp, hb, q2⟩ := qq
  subst ep
  obtain ⟨u1, u2, rfl, ru, ry⟩ : ∃ u1 u2, ws = [(u1, u2)] ∧ RelV (.ref b) u1 ∧ RelV y u2 := by
    cases rel with
    | cons r1 r2 => cases r2; exact ⟨_, _, rfl, r1.1, r1.2⟩
  obtain rfl : u1 = Value.ref b := ru
  obtain ⟨z, hd, xs, rx, dd⟩ := dt_of I2.hok hp
  cases rx
  refine ⟨[(ks, b, u2)], ⟨rfl, rfl, key_of I2.hok hb, trivial⟩, dd, fun h' tk dd' hs => wpAny_pure ⟨.ref s.heap.objs.size, _, ?_, rfl, q2⟩⟩
  have e : storedAllH [] [(ks, b, u2)] = [(ks, b, u2)] := rfl
  rw [e] at dd'
  obtain ⟨ob, es, ep, ho, g2, g3, g4, _, g5⟩ := dd'
  refine d_write I2 (by rw [hp]; exact True.intro) hs ⟨ob, ho⟩ ⟨by rw [sizeLine_eq]; exact (by decide : 1 ≤ 16777216), hd, _, ?_, ob, es, ep, ho, g2, g3, g4, g5⟩
  refine .cons ⟨rfl, ?_, ry⟩ .nil
  rw [upd_ne (ne_of hb hp (fun z => nomatch z))]
  exact hb
/-! ### the items of a locked dict -/
section
variable {X : Cx} {pins : List (Addr × Obj)} {σ : L2.St} {H : Hp} {s : Shared} {d : Addr} {o : Obj}
theorem lockedT {kvs : List (List L2.Key × V)} (I : Inv X pins σ H s) (h : H d = some (.frz o (.dT kvs))) : (d == sysModules) = false ∧ ∃ (es : Array DictEntry) (ep : Nat), o.data = .dict es ep ∧ es.size = kvs.length ∧ DT.Raw s.heap d es ep ∧
    ∀ (i : Nat) (hi : i < es.size) (k : List L2.Key) (v : V), kvs[i]? = some (k, v) → ∃ q : Addr, es[i].key = .ref q ∧ H q = some (.tup (k.map kV)) ∧ RelV v es[i].val := by
  have all := I.hok d _ h
  obtain ⟨g, _, sm, xs, pr, o2, es, ep, g2, ex, dt, he, _⟩ := all
  rw [g] at g2
  cases g2
  have n1 : es.size = xs.length := size_of_entries he
  have n2 : kvs.length = xs.length := Paired.length pr
  refine ⟨sm, es, ep, dt, n1.trans n2.symm, ⟨o, g, ex, dt⟩, fun i hi k v hk => ?_⟩
  obtain ⟨b, hb, b1, b2, b3⟩ := paired_get pr hk
  have at_ := entry_at he i
  rw [hb, Array.getElem?_eq_getElem hi] at at_
  have e : es[i] = _ := Option.some.inj at_
  exact ⟨b.2.1, by rw [e]; rfl, b2, by rw [e]; exact b3⟩
end
def ItiT (d : Addr) (o : Obj) (kvs : List (List L2.Key × V)) : It :=
  ⟨fun i H => H d = some (.frz o (.dT kvs)) ∧ i < kvs.length, fun i H x H' => ∃ (T q : Addr) (k : List L2.Key) (v : V), kvs[i]? = some (k, v) ∧ H q = some (.tup (k.map kV)) ∧ x = .ref T ∧ H T = none ∧ H' = upd H T (.tup [.ref q, v]),
    fun i H => H d = some (.frz o (.dT kvs)) ∧ kvs.length ≤ i⟩
theorem turn_itemsT {P : Program} {w : World} {K : PySem.W.Frag} {d : Addr} {o : Obj} {es : Array DictEntry} {ep : Nat} {kvs : List (List L2.Key × V)} {elts : List Expr} {kk : Nat} {tpos : Pos} (it : Addr) (dt : o.data = .dict es ep) (hsz : es.size = kvs.length) :
    Turn P w K (.Tuple elts kk tpos) (ItiT d o kvs) [it] it (fun i h => ∃ ok ov, IsItemIter h it d i es.size ep ok ov) where
  mem := List.mem_singleton.mpr rfl
  obj := fun i h ⟨ok, ov, z⟩ b hb => by
    obtain rfl := List.mem_singleton.mp hb
    exact ⟨_, z, fun v e => nomatch e⟩
  keep := fun i h h' ⟨ok, ov, z⟩ k => ⟨ok, ov, k it (List.mem_singleton.mpr rfl) _ z⟩
  item := by
    intro X eP eW eK calm i pins s σ H E I fp ⟨ok, ov, at_⟩ ⟨hd, hi⟩
    subst eP eW eK
    obtain ⟨sm, es2, ep2, dt2, sz, raw, ent⟩ := lockedT I hd
    obtain ⟨rfl, rfl⟩ := dict_ep dt dt2
    have hi2 : i < es2.size := by omega
    obtain ⟨q, hq1, hq2, rv⟩ := ent i hi2 _ _ (List.getElem?_eq_getElem hi)
    have below : it < s.heap.objs.size := Heap.lt_size at_
    refine DT.nextI at_ raw hi2 fun h1 out tup _ stay => ⟨_, rfl, wpAny_letOwnedTupleGo_items (s := { s with heap := h1 }) out fun h2 at2 sb => ?_⟩
    have tup2 : h2.get? s.heap.objs.size = some { cls := .type "tuple", data := .seq #[es2[i].key, es2[i].val] } := (sb.2 _ (Nat.ne_of_gt below)).trans tup
    have obj : ObjOk X.prog X.w (upd H s.heap.objs.size (.tup [.ref q, kvs[i].2])) h2 s.heap.objs.size (.tup [.ref q, kvs[i].2]) :=
      ⟨by show 2 ≤ sizeLine; decide, [es2[i].key, es2[i].val], .cons hq1 (.cons rv .nil), ⟨_, tup2, rfl, _, rfl⟩⟩
    have I2 : Inv X pins σ (upd H s.heap.objs.size (.tup [.ref q, kvs[i].2])) { s with heap := h2 } :=
      I.turnedNew (t' := s.toks) (ch := [it]) (fun b ob hb e => (sb.2 b (by simpa using hb)).trans (stay b ob (by simpa using hb) e)) fp (Nat.le_refl _) obj
    refine ⟨.ref s.heap.objs.size, _, I2, rfl, ⟨_, q, _, _, List.getElem?_eq_getElem hi, hq2, rfl, I.hok.fresh (Nat.le_refl _), rfl⟩, ⟨_, _, at2⟩, fun b hb => ?_⟩
    obtain rfl := List.mem_singleton.mp hb
    rw [upd_ne (Nat.ne_of_lt below)]
    exact (fp b hb).1
  done := by
    intro X eP eW eK calm i pins s σ H E I fp ⟨ok, ov, at_⟩ ⟨hd, hi⟩
    subst eP eW eK
    obtain ⟨f0, f1, f2, f3, f4, f5⟩ := fp it (List.mem_singleton.mpr rfl)
    obtain ⟨sm, es2, ep2, dt2, sz, raw, ent⟩ := lockedT I hd
    obtain ⟨rfl, rfl⟩ := dict_ep dt dt2
    exact DT.endI (I.ok.hd calm) at_ raw (by omega) fun h1 eb => ⟨rfl, I.turned (t' := s.toks) (fun b ob hb e => eb b ob hb e) f0 f1 f3 f4 f5⟩
  self := fun A i s Q E ⟨_, _, z⟩ h => PySem.W.kcp_self z h
def iItemsT (td : TE) : TI := fun σ H R => td σ H fun x G => ∃ (d : Addr) (o : Obj) (kvs : List (List L2.Key × V)), x = .ref d ∧ G d = some (.frz o (.dT kvs)) ∧ R (ItiT d o kvs) G
theorem pi_itemsT {X : Cx} {e : Expr} {td : TE} {apos cpos : Pos} {elts : List Expr} {kk : Nat} {tpos : Pos} (he : PE X e td) (hb : attributeBase e "items" X.env (eval e X.env) = eval e X.env := by rfl) (hl : (apos.endLine == cpos.line) = true := by rfl) :
    PI X (.Tuple elts kk tpos) (.Call (.Attribute e "items" apos) [] [] cpos) (iItemsT td) := by
  refine ⟨fun pins s σ H R I q => wpAny_Call_method (T := "dict") (id := "dict.items") hb rfl hl F.plainAttrs_dict F.slot_dict_items F.type_dict_items (thn (he.run pins s σ H _ I q) fun u s1 ⟨x, G, I1, rx, d, o, kvs, ex, hd, q1⟩ => ?_)⟩
  subst ex
  obtain rfl : u = Value.ref d := rx
  obtain ⟨sm, es, ep, dt, sz, raw, ent⟩ := lockedT I1 hd
  obtain ⟨ob, ho, hx, hdat⟩ := id raw
  refine ⟨raw.typeIs, fun b z => ?_, ?_⟩
  · cases z
    exact ⟨ob, ho, hx.2.1⟩
  have I2 : Inv X pins σ G { s1 with heap := s1.heap.push { cls := .type "dict_items", data := .fields #[.ref d] } } := I1.kept (t' := s1.toks) fun b ob z => Heap.get?_push_of_some _ z
  have fin : wpAny (model X.prog X.w) X.A (pyIter (.ref s1.heap.objs.size)) (PIE X pins σ (.Tuple elts kk tpos) R) X.xe { s1 with heap := s1.heap.push { cls := .type "dict_items", data := .fields #[.ref d] } } :=
    DT.iterI (d := d) (es := es) (ep := ep) ⟨_, Heap.get?_push_size _ rfl, rfl, rfl⟩ (raw.push _) (pi_one (tk := s1.toks) I2 _ (turn_itemsT _ dt sz) ⟨.none, .none, Heap.get?_push_size _ rfl⟩ q1)
  show wpAny _ _ (callWith cpos (.builtin "dict.items") [.ref d] [] []) _ X.xe s1
  exact method_meetsIn F.slot_dict_items F.entry_dict_items rfl (PySem.evalArgs_none ⟨rfl, raw.typeIs, F.args_dict_items_1 _, _, DT.meetsItems (es := es) (ep := ep) sm, raw, fin⟩)
end K1


set_option Elab.async false
set_option linter.all false
set_option maxRecDepth 100000
set_option maxHeartbeats 4000000
/-! A dict comprehension whose keys are tuples. -/
namespace K1
open PySem PySem.Spec PyProof.Rows L2
theorem put_dT {X : Cx} {pins : List (Addr × Obj)} {σ : L2.St} {H : Hp} {s : Shared} {E : Value → Shared → Prop} {D q : Addr} {kvs : List (List L2.Key × V)} {k : List L2.Key} {v : V} {u r : Value} {Q : Unit → Shared → Prop} (hu : X.A.units < cLine) (I : Inv X pins σ H s)
    (hD : H D = some (.dT kvs)) (hz : kvs.length < sizeLine) (hq : H q = some (.tup (k.map kV))) (ry : RelV (.ref q) u) (rv : RelV v r) (h : ∀ s', Inv X pins σ (upd H D (.dT (putK kvs k v))) s' → Q () s') : wpAny (model X.prog X.w) X.A (dictSet D u r) Q E s := by
  cases (show u = Value.ref q from ry)
  obtain ⟨z, hd, xs, rel, dd⟩ := dt_of I.hok hD
  have z2 : xs.length ≤ sizeLine := by rw [← Paired.length rel]; exact z
  have l2 : (putK kvs k v).length ≤ sizeLine := by have := length_putK kvs k v; omega
  refine wpAny_dictSet_heap (hsz := z2) (knd := tupleKind (mixKind X.prog X.w)) hu (key_of I.hok hq) dd fun h' dd' hs => h _ ?_
  obtain ⟨ob, es, ep, ho, g2, g3, g4, _, g5⟩ := dd'
  refine d_write I (by rw [hD]; exact True.intro) hs ⟨ob, ho⟩ ⟨l2, hd, _, (rel.put k hq rv).keeps fun c ys ec => ?_, ob, es, ep, ho, g2, g3, g4, g5⟩
  rw [upd_ne (ne_of ec hD (fun z => nomatch z))]
  exact ec
/-- what one turn asks: the new dict at D -/
def turnT (g : TG) (tt : TT) (tk tv : TE) (vs : List Nat) (σ : L2.St) (D : Addr) (Nx : Hp → Prop) (x : V) (G : Hp) : Prop :=
  g x (wipe σ vs) G fun σ2 G2 => wipe σ2 vs = wipe σ vs ∧ tt σ2 G2 fun b G3 => if b = true then tk σ2 G3 fun y G4 => tv σ2 G4 fun z G5 =>
    ∃ (kvs : List (List L2.Key × V)) (k : List L2.Key) (q : Addr), y = .ref q ∧ G5 q = some (.tup (k.map kV)) ∧ G5 D = some (.dT kvs) ∧ kvs.length < sizeLine ∧ Nx (upd G5 D (.dT (putK kvs k z))) else Nx G3
def tDcT (wi : TI) (g : TG) (tt : TT) (tk tv : TE) (vs : List Nat) : TE := fun σ H Q => wi σ H fun J G => ∀ D, G D = none → ∃ W : Nat → Nat → Hp → Prop, (∃ m, W 0 m (upd G D (.dT []))) ∧ ∀ i m G1, W i m G1 →
  (J.stop i G1 ∧ Q (.ref D) G1) ∨ (J.go i G1 ∧ ∃ Nx : Hp → Prop, (∀ G', Nx G' → ∃ m', m' < m ∧ W (i + 1) m' G') ∧ ∀ x G', J.yld i G1 x G' → turnT g tt tk tv vs σ D Nx x G')
theorem dcT_core {X : Cx} {pins : List (Addr × Obj)} {s : Shared} {σ : L2.St} {H : Hp} {Q : VK} {kx vx tg iter : Expr} {ifs : List Expr} {scope : Scope} {own : List (Str × Nat)} {pos pos2 : Pos} {wi : TI} {g : TG} {tt : TT} {tk tv : TE} {use : Option (Value → Sem Unit)} {Qf : Value → Shared → Prop}
    (hu : X.A.units < cLine) (calm : X.calm = true) (hN : X.N.Nodup) (I : Inv X pins σ H s) (hi : PI X tg iter wi) (ok : BlkOk X.N X.env.scope scope own)
    (hg : ∀ (s : Shared) (G : Hp) (C : Addr) (cl : List (Str × Addr)) (fp : List Addr), PG (X.blk s G scope (compEnvC scope cl C X.env) fp) tg g) (ht : ∀ (s : Shared) (G : Hp) (C : Addr) (cl : List (Str × Addr)) (fp : List Addr), PTs (X.blk s G scope (compEnvC scope cl C X.env) fp) ifs tt)
    (hk : ∀ (s : Shared) (G : Hp) (C : Addr) (cl : List (Str × Addr)) (fp : List Addr), PE (X.blk s G scope (compEnvC scope cl C X.env) fp) kx tk) (hv : ∀ (s : Shared) (G : Hp) (C : Addr) (cl : List (Str × Addr)) (fp : List Addr), PE (X.blk s G scope (compEnvC scope cl C X.env) fp) vx tv)
    (hs : ∀ x, foldedSetIterable iter X.env x = pure x) (h : tDcT wi g tt tk tv (own.map (·.2)) σ H Q)
    (fin0 : ∀ D C s' m G, Inv X pins σ G s' → Q (.ref D) G → s'.heap.Ns C m → FpOk X pins G C → compPost (model X.prog X.w) X.A X.xe use Qf (.ref D) C (.ok .next) s') :
    wpAny (model X.prog X.w) X.A (comprehension (.DictComp kx vx [⟨tg, iter, ifs, 0⟩] scope pos) scope X.env pos2 newDict false (eval iter X.env) use) Qf X.xe s := by
  have frees : ∀ y ∈ scope.names, y.2 = .free → ∃ c, X.env.cells.lookup y.1 = some c := fun y hy e => (ok.free y hy e).elim (fun k => I.ok.has _ (.inl k)) fun k => I.ok.has _ (.inr k)
  refine wpAny_comprehension_free (use := use) rfl hs (closure_ok frees) ok.kind (fun y hy e => by rw [ok.uniq y hy, e]) (thn (hi.run pins s σ H _ I h) fun xv s1 hx => thn hx fun itv s2 ⟨it, fp, tn, J, G2, e, I2, T, st2, f2, q⟩ => ?_)
  subst e
  refine wpAny_newObj_type (newEnv_comp ?_)
  generalize eD : s2.heap.objs.size = D
  have freeD : G2 D = none := I2.hok.fresh (Nat.le_of_eq eD)
  obtain ⟨W, ⟨m0, w0⟩, step⟩ := q D freeD
  generalize e3 : ({ s2 with heap := s2.heap.push { cls := .type "dict", data := .dict #[] } } : Shared) = s3
  have I3 : Inv X pins σ (upd G2 D (.dT [])) s3 := by
    rw [← e3]
    refine I2.laid (t' := s2.toks) (fun _ _ z => Heap.get?_push_of_some _ z) (Nat.le_of_eq eD) ?_
    rw [← eD]
    exact dt_empty s2.heap I2.big
  have heap3 : s3.heap = s2.heap.push { cls := .type "dict", data := .dict #[] } := by rw [← e3]
  have small : ∀ b ∈ fp, b < s2.heap.objs.size := fun b hb => let ⟨_, z, _⟩ := T.obj _ _ st2 b hb; Heap.lt_size z
  have f3 : ∀ b ∈ fp, FpOk X pins (upd G2 D (.dT [])) b ∧ b < s3.heap.objs.size := fun b hb => by
    have lt := small b hb
    refine ⟨⟨?_, (f2 b hb).2⟩, by rw [heap3, Heap.size_push]; exact Nat.lt_succ_of_lt lt⟩
    rw [upd_ne (by rw [← eD]; exact Nat.ne_of_lt lt)]; exact (f2 b hb).1
  have st3 : tn 0 s3.heap := T.keep _ _ _ st2 fun b _ o z => by rw [heap3]; exact Heap.get?_push_of_some _ z
  have I4 := block_start I3 ok hN f3
  have pg := hg s3 (upd G2 D (.dT [])) s3.heap.objs.size (cellsFrom (s3.heap.objs.size + 1) scope.names (cloFrom X.env.cells scope.names [])) fp
  have pt := ht s3 (upd G2 D (.dT [])) s3.heap.objs.size (cellsFrom (s3.heap.objs.size + 1) scope.names (cloFrom X.env.cells scope.names [])) fp
  have pk := hk s3 (upd G2 D (.dT [])) s3.heap.objs.size (cellsFrom (s3.heap.objs.size + 1) scope.names (cloFrom X.env.cells scope.names [])) fp
  have pv := hv s3 (upd G2 D (.dT [])) s3.heap.objs.size (cellsFrom (s3.heap.objs.size + 1) scope.names (cloFrom X.env.cells scope.names [])) fp
  show codeAny _ _ (.compStart (.DictComp kx vx [⟨tg, iter, ifs, 0⟩] scope pos) 0 (.ref it) (.ref D) (compEnvC scope (cellsFrom (s3.heap.objs.size + 1) scope.names (cloFrom X.env.cells scope.names [])) s3.heap.objs.size X.env)) (compPost (model X.prog X.w) X.A X.xe use Qf (.ref D) s3.heap.objs.size) { s3 with heap := pushCells (s3.heap.push { cls := .type "dict", data := .dict #[] }) scope.names }
  have none3 : ∀ b ∈ fp, (upd G2 D (.dT [])) b = none := fun b hb => (f3 b hb).1.1
  generalize eC : compEnvC scope (cellsFrom (s3.heap.objs.size + 1) scope.names (cloFrom X.env.cells scope.names [])) s3.heap.objs.size X.env = ce at I4 pg pt pk pv ⊢
  have loc : ce.locals = s3.heap.objs.size := by subst eC; rfl
  generalize eG : upd G2 D (.dT []) = G3 at I3 I4 pg pt pk pv w0 none3 f3
  generalize e4 : ({ s3 with heap := pushCells (s3.heap.push { cls := .type "dict", data := .dict #[] }) scope.names } : Shared) = s4 at I4 ⊢
  have st4 : tn 0 s4.heap := T.keep _ _ _ st3 fun b _ o z => by rw [← e4]; exact pushCells_keeps _ _ _ _ (Heap.get?_push_of_some _ z)
  have own_ : ∀ {σ' : L2.St} {G' : Hp} {s' : Shared}, Inv (X.blk s3 G3 scope ce fp) [] σ' G' s' → (∀ b ∈ fp, G' b = none) → ∀ b ∈ fp, FpOk (X.blk s3 G3 scope ce fp) [] G' b := fun {σ' G' s'} I' hn b hb =>
    ⟨hn b hb, (I'.ok.exf b hb).1, I'.ok.exfs b hb, .inl hb, fun x c z => (I'.ok.exf b hb).2 x c z, fun p hp => absurd (show p ∈ ([] : List (Addr × Obj)) ++ [] from hp) (by simp)⟩
  have loop : codeAny (model X.prog X.w) X.A (.compLoop (.DictComp kx vx [⟨tg, iter, ifs, 0⟩] scope pos) 0 (.ref it) (.ref D) ce) (compPost (model X.prog X.w) X.A X.xe use Qf (.ref D) s3.heap.objs.size) s4 := by
    refine compLoop_anyD (fun n s' => ∃ i G', Inv (X.blk s3 G3 scope ce fp) [] (wipe σ (own.map (·.2))) G' s' ∧ tn i s'.heap ∧ (∀ b ∈ fp, G' b = none) ∧ W i n G') ?_ m0 ⟨0, G3, I4, st4, none3, w0⟩
    rintro n s5 ⟨i, G5, I5, st5, n5, w5⟩
    rcases step i n G5 w5 with ⟨stop, qq⟩ | ⟨go, Nx, hNx, turn⟩
    · refine thnF (T.done (X.blk s3 G3 scope ce fp) rfl rfl rfl calm i [] s5 _ G5 (fun _ _ => False) I5 (own_ I5 n5) st5 stop) fun r s6 ⟨hr, I6⟩ => ?_
      subst hr
      have I7 : Inv X pins σ G5 s6 := I3.call' (ch := fp) I6.os I6.base I6.hok I6.bare fun b hb => ⟨(f3 b hb).1.2.2.2.1, (f3 b hb).1.2.1, (f3 b hb).1.2.2.2.2.1, (f3 b hb).1.2.2.2.2.2⟩
      have nC : G5 s3.heap.objs.size = none := by have z : G5 ce.locals = none := I6.free; rw [loc] at z; exact z
      obtain ⟨m, hn, _⟩ := I6.loc
      have hn : s6.heap.Ns ce.locals m := hn
      rw [loc] at hn
      exact fin0 D s3.heap.objs.size s6 m G5 I7 qq hn (I3.fpOk (Nat.le_refl _) nC)
    · refine thnF (T.item (X.blk s3 G3 scope ce fp) rfl rfl rfl calm i [] s5 _ G5 (fun _ _ => False) I5 (own_ I5 n5) st5 go) fun r s6 ⟨u, hr, h6⟩ => ?_
      subst hr
      refine thnF h6 fun _ s7 ⟨x, G7, I7, r7, y7, st7, n7⟩ => ?_
      have J7 := I7.pinned (own_ I7 n7) (T.obj _ _ st7)
      refine thnF (pg.run _ s7 _ G7 x u _ J7 r7 (turn x G7 y7)) fun _ s8 ⟨σ8, G8, I8, hw8, q8⟩ => ?_
      refine thnF (pt.run _ s8 σ8 G8 _ I8 q8) fun b s9 ⟨G9, I9, q9⟩ => ?_
      have fin : ∀ {s' : Shared} {G' : Hp}, Inv (X.blk s3 G3 scope ce fp) ([] ++ pinsAt fp s7.heap) σ8 G' s' → Nx G' → ∃ m, m < n ∧ ∃ i G', Inv (X.blk s3 G3 scope ce fp) [] (wipe σ (own.map (·.2))) G' s' ∧ tn i s'.heap ∧ (∀ b ∈ fp, G' b = none) ∧ W i m G' := fun {s' G'} I' nx => by
        obtain ⟨m', less, w'⟩ := hNx G' nx
        have still : ∀ b ∈ fp, ∀ o, s7.heap.get? b = some o → s'.heap.get? b = some o ∧ G' b = none := fun b hb o z => let y := I'.pin (b, o) (List.mem_append_right _ (List.mem_append_right _ (mem_pinsAt hb z))); ⟨y.1, y.2.1⟩
        refine ⟨m', less, i + 1, G', (I'.unpinned (pins := [])).weak (by rw [← hw8, wipe_length]) (fun j v z => by rw [← hw8] at z; exact (wipe_some z).1), T.keep _ _ _ st7 fun b hb o z => (still b hb o z).1, fun b hb => ?_, w'⟩
        obtain ⟨o, z, _⟩ := T.obj _ _ st7 b hb
        exact (still b hb o z).2
      cases b with
      | false =>
        simp only [Bool.false_eq_true, if_false] at q9 ⊢
        exact fin I9 q9
      | true =>
        simp only [if_true] at q9 ⊢
        refine thnF (pk.run _ s9 σ8 G9 _ I9 q9) fun z s10 ⟨yk, G10, I10, r10, q10⟩ => thnF (pv.run _ s10 σ8 G10 _ I10 q10) fun z2 s11 ⟨yv, G11, I11, r11, kvs, k, kq, ek, hkq, hD11, hz11, nx⟩ => ?_
        subst ek
        exact put_dT (X := X.blk s3 G3 scope ce fp) hu I11 hD11 hz11 hkq r10 r11 fun s12 I12 => fin I12 nx
  exact codeAny_compStart_dict loop (T.self X.A 0 _ _ _ st4 loop)
/-- as a value -/
theorem pe_dcT {X : Cx} {kx vx tg iter : Expr} {ifs : List Expr} {scope : Scope} {own : List (Str × Nat)} {pos : Pos} {wi : TI} {g : TG} {tt : TT} {tk tv : TE} (hu : X.A.units < cLine) (calm : X.calm = true) (hN : X.N.Nodup) (hi : PI X tg iter wi) (ok : BlkOk X.N X.env.scope scope own)
    (hg : ∀ (s : Shared) (G : Hp) (C : Addr) (cl : List (Str × Addr)) (fp : List Addr), PG (X.blk s G scope (compEnvC scope cl C X.env) fp) tg g) (ht : ∀ (s : Shared) (G : Hp) (C : Addr) (cl : List (Str × Addr)) (fp : List Addr), PTs (X.blk s G scope (compEnvC scope cl C X.env) fp) ifs tt)
    (hk : ∀ (s : Shared) (G : Hp) (C : Addr) (cl : List (Str × Addr)) (fp : List Addr), PE (X.blk s G scope (compEnvC scope cl C X.env) fp) kx tk) (hv : ∀ (s : Shared) (G : Hp) (C : Addr) (cl : List (Str × Addr)) (fp : List Addr), PE (X.blk s G scope (compEnvC scope cl C X.env) fp) vx tv)
    (hs : ∀ x, foldedSetIterable iter X.env x = pure x := by intro _; rfl) : PE X (.DictComp kx vx [⟨tg, iter, ifs, 0⟩] scope pos) (tDcT wi g tt tk tv (own.map (·.2))) := by
  refine ⟨fun pins s σ H Q I h => ?_⟩
  rw [arm_eval_DictComp]
  refine dcT_core hu calm hN I hi ok hg ht hk hv hs h fun D C s' m G I' q hn ⟨k0, k1, k2, k3, k4, k5⟩ => ⟨m, hn, fun h'' sb => ?_⟩
  exact ⟨.ref D, G, I'.turned (t' := s'.toks) (fun b o hb z => (sb.2 b hb).trans z) k0 k1 k3 k4 k5, rfl, q⟩
/-- name = {..} on one line, the name a local -/
theorem ps_setDcT {X : Cx} {i : Nat} {y : Str} {py : Pos} {kx vx tg iter : Expr} {ifs : List Expr} {scope : Scope} {own : List (Str × Nat)} {pos spos : Pos} {wi : TI} {g : TG} {tt : TT} {tk tv : TE} (hu : X.A.units < cLine) (calm : X.calm = true) (hN : X.N.Nodup) (hy : X.N[i]? = some y) (hyl : X.env.scope.names.lookup y = some .local)
    (hsw : swapsWith (.DictComp kx vx [⟨tg, iter, ifs, 0⟩] scope pos) (some (.Name y py)) spos.line X.env = pure true) (hi : PI X tg iter wi) (ok : BlkOk X.N X.env.scope scope own)
    (hg : ∀ (s : Shared) (G : Hp) (C : Addr) (cl : List (Str × Addr)) (fp : List Addr), PG (X.blk s G scope (compEnvC scope cl C X.env) fp) tg g) (ht : ∀ (s : Shared) (G : Hp) (C : Addr) (cl : List (Str × Addr)) (fp : List Addr), PTs (X.blk s G scope (compEnvC scope cl C X.env) fp) ifs tt)
    (hk : ∀ (s : Shared) (G : Hp) (C : Addr) (cl : List (Str × Addr)) (fp : List Addr), PE (X.blk s G scope (compEnvC scope cl C X.env) fp) kx tk) (hv : ∀ (s : Shared) (G : Hp) (C : Addr) (cl : List (Str × Addr)) (fp : List Addr), PE (X.blk s G scope (compEnvC scope cl C X.env) fp) vx tv)
    (hs : ∀ x, foldedSetIterable iter X.env x = pure x := by intro _; rfl) : PS X (.Assign [.Name y py] (.DictComp kx vx [⟨tg, iter, ifs, 0⟩] scope pos) spos) (tAsg (tDcT wi g tt tk tv (own.map (·.2))) (gName i)) := by
  refine ⟨fun pins s σ H D I h => ?_⟩
  rw [exec_Assign_Name_used _ _ _ _ hsw]
  refine wpAny_bind (wpAny_standAt (wpAny_bind ?_)); show wpAny _ X.A (do let _ ← comprehension (.DictComp kx vx [⟨tg, iter, ifs, 0⟩] scope pos) scope X.env (firstIterPos [⟨tg, iter, ifs, 0⟩] pos) newDict false (eval iter X.env) (some (assign (.Name y py) X.env))) _ _ s
  have h : tDcT wi g tt tk tv (own.map (·.2)) σ H (fun x G => gName i x σ G D.nx) := h
  refine wpAny_bind (thn (dcT_core (Qf := fun _ s' => SP X pins D .next s') hu calm hN I hi ok hg ht hk hv hs h fun L C s' m G I' q hn ⟨k0, k1, k2, k3, k4, k5⟩ => ?_) fun _ s' z => wpAny_pure (wpAny_pure z))
  show wpAny _ _ (assign (.Name y py) X.env (.ref L)) _ _ _; refine wpAny_assign_Name (store_ok2 (v := V.ref L) I' hN hy (.inl hyl) rfl (fun s2 I2 ⟨a, sb, ha⟩ => ?_) (.inr hyl))
  have apart : C ≠ a := ha.elim (fun z => by rw [z]; exact k1) fun z e => k4 y a z e.symm
  exact ⟨m, hn.sameBut sb apart, fun h3 sb3 => ⟨_, G, I2.turned (t' := s2.toks) (fun b o hb z => (sb3.2 b hb).trans z) k0 k1 k3 k4 k5, q⟩⟩
theorem sw_trueD {kx vx : Expr} {gs : List Comprehension} {scope : Scope} {pos py : Pos} {y : Str} {l : Nat} {env : Env} (hk : env.scope.kind = .function) (hy : env.scope.names.lookup y = some .local) (hl : (py.line == pos.line) = true)
    (ha : (scope.names.any fun (n, k) => n == y && (k == .local || k == .cell)) = false) : swapsWith (.DictComp kx vx gs scope pos) (some (.Name y py)) l env = pure true := by
  have e1 : env.kindOf y = some .local := hy
  have e2 : env.blockKind = .function := by unfold Env.blockKind; rw [hk]; rfl
  unfold swapsWith
  simp only [e2, e1, ha, Expr.pos, hl]; rfl
end K1


set_option Elab.async false
set_option linter.all false
set_option maxRecDepth 100000
set_option maxHeartbeats 4000000
/-! d.update(a dict of one pair), both with tuple keys. -/
namespace K1
open PySem PySem.Spec PyProof.Rows L2
def rUpdT : V → List V → Hp → VK → Prop := fun x xs H Q => ∃ (a b : Addr) (kvs : List (List L2.Key × V)) (k : List L2.Key) (v : V), x = .ref a ∧ xs = [.ref b] ∧ a ≠ b ∧ H a = some (.dT kvs) ∧ H b = some (.dT [(k, v)]) ∧ kvs.length < sizeLine ∧ Q .non (upd H a (.dT (putK kvs k v)))
theorem mt_updT {X : Cx} (hu : X.A.units + 1 < cLine) : MtR X "dict.update" rUpdT := by
  intro pins s σ H x xs v us Q I rx rxs h
  obtain ⟨a, b, kvs, k, w, rfl, rfl, ab, ha, hb, hz, q⟩ := h
  cases rx
  obtain ⟨u1, rfl, r1⟩ := vals1 rxs
  cases r1
  obtain ⟨za, hda, as, ra, da⟩ := dt_of I.hok ha
  obtain ⟨zb, hdb, bs, rb, db⟩ := dt_of I.hok hb
  obtain ⟨c, u, rfl, hc, ru⟩ : ∃ c u, bs = [(k, c, u)] ∧ H c = some (.tup (k.map kV)) ∧ RelV w u := by
    cases rb with
    | @cons p q ps qs h t =>
      cases t
      obtain ⟨q1, q2, q3⟩ := q
      obtain ⟨h1, h2, h3⟩ := h
      have e : k = q1 := h1
      subst e
      exact ⟨q2, q3, rfl, h2, h3⟩
  have la : as.length = kvs.length := (Paired.length ra).symm
  have key := key_of I.hok hc
  refine call_update_dictH (knd := tupleKind (mixKind X.prog X.w)) (tupleKind_room_in1 hu) ab hdb da db (.inr ⟨fun y hy => ?_, List.nodup_cons.mpr ⟨fun z => (by cases z), List.nodup_nil⟩⟩) (by rw [la]; show kvs.length + 1 ≤ sizeLine; omega) fun h' dd' _ hs => ?_
  · rw [List.mem_singleton] at hy
    subst hy
    obtain ⟨o, its, n, g1, g2, g3, _⟩ := key
    exact ⟨o, g1, g2⟩
  · have e : storedAllH as [(k, c, u)] = storedH as k c u := rfl
    rw [e] at dd'
    obtain ⟨ob, es, ep, ho, g2, g3, g4, _, g5⟩ := dd'
    have l2 : (putK kvs k w).length ≤ sizeLine := by have := length_putK kvs k w; omega
    have I2 : Inv X pins σ (upd H a (.dT (putK kvs k w))) { s with heap := h' } := by
      refine d_write (t' := s.toks) I (by rw [ha]; exact True.intro) hs ⟨ob, ho⟩ ⟨l2, hda, _, (ra.put k hc ru).keeps fun c' ys ec => ?_, ob, es, ep, ho, g2, g3, g4, g5⟩
      rw [upd_ne (ne_of ec ha (fun z => nomatch z))]
      exact ec
    exact ⟨.non, _, I2, rfl, q⟩
end K1


set_option Elab.async false
set_option linter.all false
set_option maxRecDepth 100000
set_option maxHeartbeats 4000000
/-! min of three ints. -/
namespace PySem
open Sem (wp)
section
variable {prog : Program} {w : World} {A : Around} {E : Value → Shared → Prop} {s : Shared}
theorem my_args_min3 (a b c : Value) : argsOk "min" ⟨[a, b, c], []⟩ := by unfold argsOk; kernel_rfl
theorem my_min_three {a b c : Value} {Q : Value → Shared → Prop}
    (h : wpAny (model prog w) A.in1 (pyIter (.ref s.heap.objs.size)) (fun it s2 => ∃ I fp wr n P St bt, it = .ref I ∧ Walks prog w A.in1 I fp wr n P St ∧ St 0 s2.heap ∧ (∀ z ∈ fp, z < s2.heap.objs.size) ∧ 0 < n ∧ CmpOf prog w A.in1 .Lt P bt ∧
      ∀ v h' tk, P (argBest bt (n - 1)) v → (∀ z o, z ∉ wr → s2.heap.get? z = some o → h'.get? z = some o) → Q v { s2 with heap := h', toks := tk }) E { s with heap := s.heap.push { cls := .type "tuple", data := .seq #[a, b, c] } }) :
    wpAny (model prog w) A (call (.builtin "min") [a, b, c]) Q E s := by
  refine call_function_tree F.kind_min F.plain_min F.entry_min (my_args_min3 _ _ _) ?_
  show wpAny _ A.in1 (Builtin.Builtins.bindParams "min" ["key", "default"] 0 ⟨[], []⟩ >>= _) _ _ s; refine wpAny_bind (wpAny_of_eq (show Builtin.Builtins.bindParams "min" ["key", "default"] 0 ⟨[], []⟩ = pure [none, none] from rfl) ?_)
  show wpAny _ A.in1 (newTuple [a, b, c] >>= _) _ _ s
  refine wpAny_bind (wpAny_newObj_type (wpAny_bind (wpAny_mono h (fun it s2 ⟨I, fp, wr, n, P, St, bt, e, W, st0, small, hn, cmp, hQ⟩ => ?_) fun _ _ e => e)))
  subst e
  refine wpAny_bind (wpAny_newObj_type ?_)
  have apart : s2.heap.objs.size ∉ fp := fun z => Nat.lt_irrefl _ (small _ z)
  rw [show (toString "min" ++ toString ".loop" : String) = "min.loop" by decide]
  refine wpAny_pure ⟨plainId_quiet F.plain_min_loop _, codeAny_min_loop_first W bt cmp s2.heap.objs.size apart hn (W.frame _ _ _ st0 fun z _ o e => Heap.get?_push_of_some _ e) (Heap.get?_push_size _ rfl) fun v h' tk hP hk => ?_⟩
  exact hQ v h' tk hP fun z o n e => hk z o n (Nat.ne_of_lt (Heap.lt_size e)) (Heap.get?_push_of_some _ e)
theorem my_min_ints {a b c : Int} {t u r : Tok} {Q : Value → Shared → Prop} (hh : A.handled = none)
    (h : ∀ (m : Int) (y : Tok) h' tk, (m = a ∨ m = b ∨ m = c) → m ≤ a → m ≤ b → m ≤ c → (∀ z o, s.heap.get? z = some o → h'.get? z = some o) → Q (.int m y) { s with heap := h', toks := tk }) :
    wpAny (model prog w) A (call (.builtin "min") [.int a t, .int b u, .int c r]) Q E s := by
  have isT : (s.heap.push { cls := .type "tuple", data := .seq #[.int a t, .int b u, .int c r] }).IsTuple s.heap.objs.size (intItems #[(a, t), (b, u), (c, r)]) := ⟨_, Heap.get?_push_size _ rfl, rfl, 0, by simp [intItems]⟩
  refine my_min_three (wpAny_pyIter_tuple isT ?_)
  have sz : (s.heap.push { cls := .type "tuple", data := .seq #[.int a t, .int b u, .int c r] }).objs.size = s.heap.objs.size + 1 := Heap.size_push ..
  refine ⟨_, [_, s.heap.objs.size], [_], _, _, _, _, rfl, Walks.tuple (A := A.in1) hh _ s.heap.objs.size (by rw [sz]; exact Nat.ne_of_lt (Nat.lt_succ_self _)) (intItems #[(a, t), (b, u), (c, r)]), ⟨⟨_, Heap.get?_push_size _ rfl, rfl, rfl⟩, isT.push _⟩, fun z hz => ?_, by simp [intItems],
    CmpOf.ints_lt (numAt #[(a, t), (b, u), (c, r)]) (fun _ _ => intItems_at), fun v h' tk hP hk => ?_⟩
  · show z < ((s.heap.push _).push _).objs.size
    rw [Heap.size_push, sz]
    simp only [List.mem_cons, List.not_mem_nil, or_false] at hz
    rcases hz with rfl | rfl
    · rw [sz]; exact Nat.lt_succ_self _
    · exact Nat.lt_succ_of_lt (Nat.lt_succ_self _)
  · have old : ∀ z o, s.heap.get? z = some o → h'.get? z = some o := fun z o e => by
      refine hk z o (fun hm => ?_) (Heap.get?_push_of_some _ (Heap.get?_push_of_some _ e))
      have lt := Heap.lt_size e
      rw [List.mem_singleton] at hm
      rw [hm, sz] at lt
      exact Nat.lt_irrefl _ (Nat.lt_of_succ_lt lt)
    have hP : (intItems #[(a, t), (b, u), (c, r)])[argBest (fun i j => decide (numAt #[(a, t), (b, u), (c, r)] i < numAt #[(a, t), (b, u), (c, r)] j)) 2]? = some v := by
      have e : (intItems #[(a, t), (b, u), (c, r)]).size - 1 = 2 := by simp [intItems]
      rw [← e]; exact hP
    by_cases c1 : b < a
    · by_cases c2 : c < b
      · have e : argBest (fun i j => decide (numAt #[(a, t), (b, u), (c, r)] i < numAt #[(a, t), (b, u), (c, r)] j)) 2 = 2 := by simp [argBest, numAt, c1, c2]
        rw [e] at hP
        obtain rfl : Value.int c r = v := by simpa [intItems] using hP
        exact h c r h' tk (.inr (.inr rfl)) (by omega) (by omega) (by omega) old
      · have e : argBest (fun i j => decide (numAt #[(a, t), (b, u), (c, r)] i < numAt #[(a, t), (b, u), (c, r)] j)) 2 = 1 := by simp [argBest, numAt, c1, c2]
        rw [e] at hP
        obtain rfl : Value.int b u = v := by simpa [intItems] using hP
        exact h b u h' tk (.inr (.inl rfl)) (by omega) (by omega) (by omega) old
    · by_cases c2 : c < a
      · have e : argBest (fun i j => decide (numAt #[(a, t), (b, u), (c, r)] i < numAt #[(a, t), (b, u), (c, r)] j)) 2 = 2 := by simp [argBest, numAt, c1, c2]
        rw [e] at hP
        obtain rfl : Value.int c r = v := by simpa [intItems] using hP
        exact h c r h' tk (.inr (.inr rfl)) (by omega) (by omega) (by omega) old
      · have e : argBest (fun i j => decide (numAt #[(a, t), (b, u), (c, r)] i < numAt #[(a, t), (b, u), (c, r)] j)) 2 = 0 := by simp [argBest, numAt, c1, c2]
        rw [e] at hP
        obtain rfl : Value.int a t = v := by simpa [intItems] using hP
        exact h a t h' tk (.inl rfl) (by omega) (by omega) (by omega) old
end
end PySem
namespace K1
open PySem PySem.Spec PyProof.Rows L2
def rMin3 : List V → Hp → VK → Prop := fun xs H Q => ∃ i j k, xs = [.int i, .int j, .int k] ∧ ∀ m, (m = i ∨ m = j ∨ m = k) → m ≤ i → m ≤ j → m ≤ k → Q (.int m) H
theorem call_min3 {X : Cx} (hc : X.calm = true) : CallR X (.builtin "min") rMin3 := by
  intro pins s σ H xs us Q I r h
  obtain ⟨i, j, k, rfl, q⟩ := h
  cases r with
  | cons r1 r =>
  obtain ⟨u2, u3, rfl, r2, r3⟩ := vals2 r
  obtain ⟨t1, rfl⟩ := r1
  obtain ⟨t2, rfl⟩ := r2
  obtain ⟨t3, rfl⟩ := r3
  exact my_min_ints (I.ok.hd hc) fun m y h' tk a b c d old => ⟨.int m, H, I.kept old, ⟨_, rfl⟩, q m a b c d⟩
end K1


set_option Elab.async false
set_option linter.all false
set_option maxRecDepth 100000
set_option maxHeartbeats 4000000
/-! The table of rows of changes, as mathematics. -/
namespace K1
open PySem PySem.Spec PyProof.Rows L2
abbrev PK := Int × Int
abbrev Tab := List (PK × Int)
def getP : Tab → PK → Option Int
  | [], _ => none
  | e :: r, p => if e.1 = p then some e.2 else getP r p
def valP (t : Tab) (p : PK) : Int := (getP t p).getD 0
def hasP (t : Tab) (p : PK) : Bool := (getP t p).isSome
def putP (t : Tab) (p : PK) (n : Int) : Tab := if hasP t p = true then t.map (fun e => if e.1 = p then (e.1, n) else e) else t ++ [(p, n)]
def incP (t : Tab) (p : PK) (n : Int) : Tab := putP t p (valP t p + n)
theorem getP_app (p : PK) : ∀ t r : Tab, getP (t ++ r) p = (getP t p).or (getP r p)
  | [], r => rfl
  | e :: t, r => by
    show (if e.1 = p then some e.2 else getP (t ++ r) p) = (if e.1 = p then some e.2 else getP t p).or (getP r p)
    by_cases h : e.1 = p
    · rw [if_pos h, if_pos h]; rfl
    · rw [if_neg h, if_neg h, getP_app p t r]
theorem getP_map (p q : PK) (n : Int) : ∀ t : Tab, getP (t.map fun e => if e.1 = p then (e.1, n) else e) q = if q = p then (getP t q).map (fun _ => n) else getP t q
  | [] => by
    by_cases h : q = p
    · rw [if_pos h]; rfl
    · rw [if_neg h]; rfl
  | e :: t => by
    have ih := getP_map p q n t
    rw [List.map_cons]
    by_cases h : e.1 = p
    · rw [if_pos h]
      show (if e.1 = q then some n else _) = _
      show _ = if q = p then (if e.1 = q then some e.2 else getP t q).map _ else (if e.1 = q then some e.2 else getP t q)
      by_cases h2 : e.1 = q
      · rw [if_pos h2, if_pos h2, if_pos (h2.symm.trans h)]; rfl
      · rw [if_neg h2, if_neg h2, ih]
    · rw [if_neg h]
      show (if e.1 = q then some e.2 else _) = _
      show _ = if q = p then (if e.1 = q then some e.2 else getP t q).map _ else (if e.1 = q then some e.2 else getP t q)
      by_cases h2 : e.1 = q
      · rw [if_pos h2, if_pos h2, if_neg (fun z => h (h2.trans z))]
      · rw [if_neg h2, if_neg h2, ih]
theorem getP_put (t : Tab) (p q : PK) (n : Int) : getP (putP t p n) q = if q = p then some n else getP t q := by
  unfold putP hasP
  by_cases h : (getP t p).isSome = true
  · rw [if_pos h, getP_map]
    by_cases e : q = p
    · rw [if_pos e, if_pos e, e]
      obtain ⟨x, hx⟩ := Option.isSome_iff_exists.mp h
      rw [hx]; rfl
    · rw [if_neg e, if_neg e]
  · rw [if_neg h, getP_app]
    show (getP t q).or (if p = q then some n else none) = _
    by_cases e : q = p
    · have hn : getP t q = none := by
        rw [e]
        cases z : getP t p with
        | none => rfl
        | some x => rw [z] at h; exact absurd rfl h
      rw [if_pos e, hn, if_pos e.symm]; rfl
    · rw [if_neg e, if_neg (fun z => e z.symm), Option.or_none]
theorem val_inc (t : Tab) (p q : PK) (n : Int) : valP (incP t p n) q = valP t q + if q = p then n else 0 := by
  show (getP (putP t p (valP t p + n)) q).getD 0 = _
  rw [getP_put]
  by_cases h : q = p
  · rw [if_pos h, if_pos h, h]; rfl
  · rw [if_neg h, if_neg h, Int.add_zero]; rfl
def keysP (t : Tab) : List PK := t.map (·.1)
theorem hasP_mem (p : PK) : ∀ t : Tab, hasP t p = true ↔ p ∈ keysP t
  | [] => by simp [hasP, getP, keysP]
  | e :: t => by
    have ih := hasP_mem p t
    show (if e.1 = p then some e.2 else getP t p).isSome = true ↔ p ∈ e.1 :: keysP t
    by_cases h : e.1 = p
    · rw [if_pos h]; simp [h]
    · rw [if_neg h, List.mem_cons]
      exact ih.trans ⟨.inr, fun z => z.elim (fun y => absurd y.symm h) id⟩
theorem keys_put (t : Tab) (p : PK) (n : Int) : keysP (putP t p n) = if hasP t p = true then keysP t else keysP t ++ [p] := by
  unfold putP
  by_cases h : hasP t p = true
  · rw [if_pos h, if_pos h]
    unfold keysP
    rw [List.map_map]
    refine List.map_congr_left fun e _ => ?_
    show (if e.1 = p then (e.1, n) else e).1 = e.1
    by_cases z : e.1 = p
    · rw [if_pos z]
    · rw [if_neg z]
  · rw [if_neg h, if_neg h]
    unfold keysP
    rw [List.map_append]; rfl
theorem nd_put {t : Tab} (h : (keysP t).Nodup) (p : PK) (n : Int) : (keysP (putP t p n)).Nodup := by
  rw [keys_put]
  by_cases c : hasP t p = true
  · rw [if_pos c]; exact h
  · rw [if_neg c]
    refine List.nodup_append.mpr ⟨h, List.nodup_cons.mpr ⟨fun z => (by cases z), List.nodup_nil⟩, fun a ha b hb e => ?_⟩
    rw [List.mem_singleton] at hb
    subst hb e
    exact c ((hasP_mem _ _).mpr ha)
theorem mem_put {t : Tab} {p q : PK} {n : Int} (h : q ∈ keysP (putP t p n)) : q ∈ keysP t ∨ q = p := by
  rw [keys_put] at h
  by_cases c : hasP t p = true
  · rw [if_pos c] at h; exact .inl h
  · rw [if_neg c, List.mem_append, List.mem_singleton] at h; exact h
theorem len_put (t : Tab) (p : PK) (n : Int) : (putP t p n).length ≤ t.length + 1 := by
  unfold putP
  by_cases h : hasP t p = true
  · rw [if_pos h, List.length_map]; omega
  · rw [if_neg h, List.length_append]; simp
/-! one entry: three sums -/
def inc3 (S f0 : Int) (t : Tab) (e : PK × Int) : Tab :=
  incP (incP (incP t (e.1.1 + 1, e.1.2) (e.2 * S)) (e.1.1, e.1.2 + 1) (e.2 * (f0 + e.1.1 - e.1.2))) e.1 (e.2 * (f0 + e.1.1 - e.1.2) * (S - 1))
def ctr (S f0 : Int) (q : PK) (e : PK × Int) : Int :=
  (if e.1 = (q.1 - 1, q.2) then e.2 * S else 0) + (if e.1 = (q.1, q.2 - 1) then e.2 * (f0 + q.1 - (q.2 - 1)) else 0) + (if e.1 = q then e.2 * ((f0 + q.1 - q.2) * (S - 1)) else 0)
theorem val_inc3 (S f0 : Int) (t : Tab) (e : PK × Int) (q : PK) : valP (inc3 S f0 t e) q = valP t q + ctr S f0 q e := by
  obtain ⟨⟨c, g⟩, n⟩ := e
  obtain ⟨a, b⟩ := q
  show valP (incP (incP (incP t (c + 1, g) (n * S)) (c, g + 1) (n * (f0 + c - g))) (c, g) (n * (f0 + c - g) * (S - 1))) (a, b) = _
  rw [val_inc, val_inc, val_inc]
  show _ = valP t (a, b) + ((if (c, g) = (a - 1, b) then n * S else 0) + (if (c, g) = (a, b - 1) then n * (f0 + a - (b - 1)) else 0) + (if (c, g) = (a, b) then n * ((f0 + a - b) * (S - 1)) else 0))
  have e1 : (if ((a, b) : PK) = (c + 1, g) then n * S else 0) = if ((c, g) : PK) = (a - 1, b) then n * S else 0 := by
    by_cases h : c = a - 1 ∧ g = b
    · rw [if_pos (by rw [h.1, h.2]; congr 1; omega), if_pos (by rw [h.1, h.2])]
    · rw [if_neg (fun z => h (by have := Prod.mk.inj z; omega)), if_neg (fun z => h (by have := Prod.mk.inj z; omega))]
  have e2 : (if ((a, b) : PK) = (c, g + 1) then n * (f0 + c - g) else 0) = if ((c, g) : PK) = (a, b - 1) then n * (f0 + a - (b - 1)) else 0 := by
    by_cases h : c = a ∧ g = b - 1
    · rw [if_pos (by rw [h.1, h.2]; congr 1; omega), if_pos (by rw [h.1, h.2]), h.1, h.2]
    · rw [if_neg (fun z => h (by have := Prod.mk.inj z; omega)), if_neg (fun z => h (by have := Prod.mk.inj z; omega))]
  have e3 : (if ((a, b) : PK) = (c, g) then n * (f0 + c - g) * (S - 1) else 0) = if ((c, g) : PK) = (a, b) then n * ((f0 + a - b) * (S - 1)) else 0 := by
    by_cases h : c = a ∧ g = b
    · rw [if_pos (by rw [h.1, h.2]), if_pos (by rw [h.1, h.2]), h.1, h.2, Int.mul_assoc]
    · rw [if_neg (fun z => h (by have := Prod.mk.inj z; omega)), if_neg (fun z => h (by have := Prod.mk.inj z; omega))]
  rw [e1, e2, e3]
  omega
def sumI (ns : List Int) : Int := ns.foldr (· + ·) 0
theorem val_fold (S f0 : Int) (q : PK) : ∀ (rows t : Tab), valP (rows.foldl (inc3 S f0) t) q = valP t q + sumI (rows.map (ctr S f0 q))
  | [], t => by show valP t q = valP t q + 0; omega
  | e :: r, t => by
    show valP (r.foldl (inc3 S f0) (inc3 S f0 t e)) q = valP t q + (ctr S f0 q e + sumI (r.map (ctr S f0 q)))
    rw [val_fold S f0 q r, val_inc3]
    omega
theorem sum_add {α : Type} (f g : α → Int) : ∀ l : List α, sumI (l.map fun e => f e + g e) = sumI (l.map f) + sumI (l.map g)
  | [] => rfl
  | e :: r => by
    show f e + g e + sumI (r.map fun e => f e + g e) = (f e + sumI (r.map f)) + (g e + sumI (r.map g))
    rw [sum_add f g r]
    omega
theorem sum_at (p : PK) (k : Int) : ∀ t : Tab, (keysP t).Nodup → sumI (t.map fun e => if e.1 = p then e.2 * k else 0) = valP t p * k
  | [], _ => by show (0 : Int) = 0 * k; omega
  | e :: r, h => by
    have h' := List.nodup_cons.mp (show (e.1 :: keysP r).Nodup from h)
    show (if e.1 = p then e.2 * k else 0) + sumI (r.map fun e => if e.1 = p then e.2 * k else 0) = ((if e.1 = p then some e.2 else getP r p).getD 0) * k
    rw [sum_at p k r h'.2]
    by_cases z : e.1 = p
    · rw [if_pos z, if_pos z]
      have hn : getP r p = none := by
        cases y : getP r p with
        | none => rfl
        | some x =>
          have : hasP r p = true := by unfold hasP; rw [y]; rfl
          rw [← z] at this
          exact absurd ((hasP_mem _ _).mp this) h'.1
      show e.2 * k + (getP r p).getD 0 * k = e.2 * k
      rw [hn]
      show e.2 * k + 0 * k = e.2 * k
      omega
    · rw [if_neg z, if_neg z]
      show 0 + valP r p * k = _
      rw [Int.zero_add]; rfl
def boxB (cm wt : Int) (p : PK) : Bool := decide (p.1 ≤ cm) && decide (p.2 ≤ wt)
def boxed (cm wt : Int) (t : Tab) : Tab := t.filter fun e => boxB cm wt e.1
theorem getP_filter (f : PK → Bool) (p : PK) : ∀ t : Tab, getP (t.filter fun e => f e.1) p = if f p = true then getP t p else none
  | [] => by
    by_cases h : f p = true
    · rw [if_pos h]; rfl
    · rw [if_neg h]; rfl
  | e :: r => by
    have ih := getP_filter f p r
    rw [List.filter_cons]
    show _ = if f p = true then (if e.1 = p then some e.2 else getP r p) else none
    by_cases c : f e.1 = true
    · rw [if_pos c]
      show (if e.1 = p then some e.2 else getP (r.filter fun e => f e.1) p) = _
      by_cases z : e.1 = p
      · rw [if_pos z, if_pos z, if_pos (z ▸ c)]
      · rw [if_neg z, if_neg z, ih]
    · rw [if_neg c, ih]
      by_cases z : e.1 = p
      · rw [if_neg (z ▸ c), if_neg (z ▸ c)]
      · rw [if_neg z]
/-- one step of the table -/
def stepP (S f0 cm wt : Int) (t : Tab) : Tab := boxed cm wt (t.foldl (inc3 S f0) [])
def Rw (S f0 cm wt : Int) : Nat → Int → Int → Int
  | 0, c, g => if c = 0 ∧ g = 0 then 1 else 0
  | i + 1, c, g => if c ≤ cm ∧ g ≤ wt then Rw S f0 cm wt i (c - 1) g * S + Rw S f0 cm wt i c (g - 1) * (f0 + c - (g - 1)) + Rw S f0 cm wt i c g * ((f0 + c - g) * (S - 1)) else 0
/-- a good table -/
structure GoodT (S f0 cm wt : Int) (i : Nat) (t : Tab) : Prop where
  nd : (keysP t).Nodup
  lo : ∀ p ∈ keysP t, 0 ≤ p.1 ∧ 0 ≤ p.2
  hi : ∀ p ∈ keysP t, p.1 ≤ cm ∧ p.2 ≤ wt
  val : ∀ c g, valP t (c, g) = Rw S f0 cm wt i c g
theorem nd_inc3 {S f0 : Int} {t : Tab} (h : (keysP t).Nodup) (e : PK × Int) : (keysP (inc3 S f0 t e)).Nodup := nd_put (nd_put (nd_put h _ _) _ _) _ _
theorem lo_inc3 {S f0 : Int} {t : Tab} {e : PK × Int} (h : ∀ p ∈ keysP t, 0 ≤ p.1 ∧ 0 ≤ p.2) (he : 0 ≤ e.1.1 ∧ 0 ≤ e.1.2) : ∀ p ∈ keysP (inc3 S f0 t e), 0 ≤ p.1 ∧ 0 ≤ p.2 := by
  intro p hp
  rcases mem_put hp with hp | rfl
  · rcases mem_put hp with hp | rfl
    · rcases mem_put hp with hp | rfl
      · exact h p hp
      · exact ⟨by show 0 ≤ e.1.1 + 1; omega, he.2⟩
    · exact ⟨he.1, by show 0 ≤ e.1.2 + 1; omega⟩
  · exact he
theorem len_inc3 (S f0 : Int) (t : Tab) (e : PK × Int) : (inc3 S f0 t e).length ≤ t.length + 3 := by
  have h1 := len_put t (e.1.1 + 1, e.1.2) (valP t (e.1.1 + 1, e.1.2) + e.2 * S)
  have h2 := len_put (incP t (e.1.1 + 1, e.1.2) (e.2 * S)) (e.1.1, e.1.2 + 1) (valP (incP t (e.1.1 + 1, e.1.2) (e.2 * S)) (e.1.1, e.1.2 + 1) + e.2 * (f0 + e.1.1 - e.1.2))
  have h3 := len_put (incP (incP t (e.1.1 + 1, e.1.2) (e.2 * S)) (e.1.1, e.1.2 + 1) (e.2 * (f0 + e.1.1 - e.1.2))) e.1 (valP (incP (incP t (e.1.1 + 1, e.1.2) (e.2 * S)) (e.1.1, e.1.2 + 1) (e.2 * (f0 + e.1.1 - e.1.2))) e.1 + e.2 * (f0 + e.1.1 - e.1.2) * (S - 1))
  show (putP (putP (putP t _ _) _ _) _ _).length ≤ _
  have h1 : (putP t (e.1.1 + 1, e.1.2) (valP t (e.1.1 + 1, e.1.2) + e.2 * S)).length ≤ t.length + 1 := h1
  have h2 : (putP (putP t (e.1.1 + 1, e.1.2) (valP t (e.1.1 + 1, e.1.2) + e.2 * S)) (e.1.1, e.1.2 + 1) (valP (incP t (e.1.1 + 1, e.1.2) (e.2 * S)) (e.1.1, e.1.2 + 1) + e.2 * (f0 + e.1.1 - e.1.2))).length ≤ (putP t (e.1.1 + 1, e.1.2) (valP t (e.1.1 + 1, e.1.2) + e.2 * S)).length + 1 := h2
  exact Nat.le_trans h3 (by
    show (putP (putP t (e.1.1 + 1, e.1.2) (valP t (e.1.1 + 1, e.1.2) + e.2 * S)) (e.1.1, e.1.2 + 1) (valP (incP t (e.1.1 + 1, e.1.2) (e.2 * S)) (e.1.1, e.1.2 + 1) + e.2 * (f0 + e.1.1 - e.1.2))).length + 1 ≤ t.length + 3
    omega)
theorem fold_nd (S f0 : Int) : ∀ (rows t : Tab), (keysP t).Nodup → (keysP (rows.foldl (inc3 S f0) t)).Nodup
  | [], t, h => h
  | e :: r, t, h => fold_nd S f0 r _ (nd_inc3 h e)
theorem fold_lo (S f0 : Int) : ∀ (rows t : Tab), (∀ p ∈ keysP rows, 0 ≤ p.1 ∧ 0 ≤ p.2) → (∀ p ∈ keysP t, 0 ≤ p.1 ∧ 0 ≤ p.2) → ∀ p ∈ keysP (rows.foldl (inc3 S f0) t), 0 ≤ p.1 ∧ 0 ≤ p.2
  | [], t, _, h => h
  | e :: r, t, hr, h => fold_lo S f0 r _ (fun p hp => hr p (List.mem_cons_of_mem _ hp)) (lo_inc3 h (hr e.1 List.mem_cons_self))
theorem fold_len (S f0 : Int) : ∀ (rows t : Tab), (rows.foldl (inc3 S f0) t).length ≤ t.length + 3 * rows.length
  | [], t => by show t.length ≤ _; omega
  | e :: r, t => by
    have h1 := fold_len S f0 r (inc3 S f0 t e)
    have h2 := len_inc3 S f0 t e
    show (r.foldl (inc3 S f0) (inc3 S f0 t e)).length ≤ _
    rw [List.length_cons]
    omega
theorem keys_filter (f : PK → Bool) (t : Tab) : keysP (t.filter fun e => f e.1) = (keysP t).filter f := by
  unfold keysP
  rw [List.filter_map]; rfl
theorem good_step {S f0 cm wt : Int} {i : Nat} {t : Tab} (h : GoodT S f0 cm wt i t) : GoodT S f0 cm wt (i + 1) (stepP S f0 cm wt t) := by
  have n0 : (keysP ([] : Tab)).Nodup := List.nodup_nil
  have l0 : ∀ p ∈ keysP ([] : Tab), 0 ≤ p.1 ∧ 0 ≤ p.2 := fun p hp => by cases hp
  have nd := fold_nd S f0 t [] n0
  refine ⟨?_, fun p hp => ?_, fun p hp => ?_, fun c g => ?_⟩
  · show (keysP (List.filter _ _)).Nodup
    rw [keys_filter]
    exact nd.sublist List.filter_sublist
  · have hp : p ∈ keysP (List.filter _ _) := hp
    rw [keys_filter, List.mem_filter] at hp
    exact fold_lo S f0 t [] h.lo l0 p hp.1
  · have hp : p ∈ keysP (List.filter _ _) := hp
    rw [keys_filter, List.mem_filter] at hp
    have := hp.2
    unfold boxB at this
    rw [Bool.and_eq_true] at this
    exact ⟨of_decide_eq_true this.1, of_decide_eq_true this.2⟩
  · show (getP (List.filter (fun e => boxB cm wt e.1) _) (c, g)).getD 0 = if c ≤ cm ∧ g ≤ wt then _ else 0
    rw [getP_filter]
    by_cases b : c ≤ cm ∧ g ≤ wt
    · rw [if_pos (by show (decide (c ≤ cm) && decide (g ≤ wt)) = true; rw [decide_eq_true b.1, decide_eq_true b.2]; rfl), if_pos b]
      show valP (t.foldl (inc3 S f0) []) (c, g) = _
      rw [val_fold]
      show (0 : Int) + _ = _
      have e : ∀ q : PK, sumI (t.map (ctr S f0 q)) = valP t (q.1 - 1, q.2) * S + valP t (q.1, q.2 - 1) * (f0 + q.1 - (q.2 - 1)) + valP t q * ((f0 + q.1 - q.2) * (S - 1)) := fun q => by
        show sumI (t.map fun e => (if e.1 = (q.1 - 1, q.2) then e.2 * S else 0) + (if e.1 = (q.1, q.2 - 1) then e.2 * (f0 + q.1 - (q.2 - 1)) else 0) + (if e.1 = q then e.2 * ((f0 + q.1 - q.2) * (S - 1)) else 0)) = _
        rw [sum_add (fun e : PK × Int => (if e.1 = (q.1 - 1, q.2) then e.2 * S else 0) + (if e.1 = (q.1, q.2 - 1) then e.2 * (f0 + q.1 - (q.2 - 1)) else 0)) (fun e => if e.1 = q then e.2 * ((f0 + q.1 - q.2) * (S - 1)) else 0),
          sum_add (fun e : PK × Int => if e.1 = (q.1 - 1, q.2) then e.2 * S else 0) (fun e => if e.1 = (q.1, q.2 - 1) then e.2 * (f0 + q.1 - (q.2 - 1)) else 0), sum_at _ _ _ h.nd, sum_at _ _ _ h.nd, sum_at _ _ _ h.nd]
      rw [e (c, g), Int.zero_add, h.val, h.val, h.val]
    · rw [if_neg b, if_neg (fun z => b (by
        have z : (decide (c ≤ cm) && decide (g ≤ wt)) = true := z
        rw [Bool.and_eq_true] at z
        exact ⟨of_decide_eq_true z.1, of_decide_eq_true z.2⟩))]
      rfl
def t0 : Tab := [((0, 0), 1)]
theorem good0 {S f0 cm wt : Int} (h1 : 0 ≤ cm) (h2 : 0 ≤ wt) : GoodT S f0 cm wt 0 t0 := by
  refine ⟨List.nodup_cons.mpr ⟨fun z => (by cases z), List.nodup_nil⟩, fun p hp => ?_, fun p hp => ?_, fun c g => ?_⟩
  · rw [show p = (0, 0) from List.mem_singleton.mp hp]; exact ⟨Int.le_refl _, Int.le_refl _⟩
  · rw [show p = (0, 0) from List.mem_singleton.mp hp]; exact ⟨h1, h2⟩
  · show (if ((0, 0) : PK) = (c, g) then some 1 else none).getD 0 = if c = 0 ∧ g = 0 then (1 : Int) else 0
    by_cases h : c = 0 ∧ g = 0
    · rw [if_pos (by rw [h.1, h.2]), if_pos h]; rfl
    · rw [if_neg (fun z => h (by have := Prod.mk.inj z; omega)), if_neg h]; rfl
/-! how long a table can be -/
theorem nodup_le {α : Type} [DecidableEq α] : ∀ (l m : List α), l.Nodup → (∀ x ∈ l, x ∈ m) → l.length ≤ m.length
  | [], m, _, _ => Nat.zero_le _
  | a :: l, m, h, hm => by
    have h' := List.nodup_cons.mp h
    have ha := hm a List.mem_cons_self
    have ih := nodup_le l (m.erase a) h'.2 fun x hx => (List.mem_erase_of_ne (fun e => h'.1 (by rw [← e]; exact hx))).mpr (hm x (List.mem_cons_of_mem _ hx))
    rw [List.length_erase_of_mem ha] at ih
    have : 0 < m.length := List.length_pos_of_mem ha
    rw [List.length_cons]
    omega
def boxL : List PK := (List.range 61).flatMap fun i => (List.range 61).map fun j => (((i : Nat) : Int), ((j : Nat) : Int))
theorem boxL_len : boxL.length = 3721 := by decide +kernel
theorem good_len {S f0 cm wt : Int} {i : Nat} {t : Tab} (h : GoodT S f0 cm wt i t) (h1 : cm ≤ 60) (h2 : wt ≤ 60) : t.length ≤ 3721 := by
  have e : t.length = (keysP t).length := by unfold keysP; rw [List.length_map]
  rw [e, ← boxL_len]
  refine nodup_le _ _ h.nd fun p hp => ?_
  obtain ⟨a, b⟩ := h.lo p hp
  obtain ⟨c, d⟩ := h.hi p hp
  refine List.mem_flatMap.mpr ⟨p.1.toNat, List.mem_range.mpr (by omega), List.mem_map.mpr ⟨p.2.toNat, List.mem_range.mpr (by omega), ?_⟩⟩
  show (((p.1.toNat : Nat) : Int), ((p.2.toNat : Nat) : Int)) = p
  rw [Int.toNat_of_nonneg a, Int.toNat_of_nonneg b]
/-! the three families -/
theorem Rw_zero (S f0 cm wt : Int) : ∀ (i : Nat) (c g : Int), (c < 0 ∨ g < 0 ∨ (i : Int) < c + g) → Rw S f0 cm wt i c g = 0
  | 0, c, g, h => by
    show (if c = 0 ∧ g = 0 then (1 : Int) else 0) = 0
    rw [if_neg (by omega)]
  | i + 1, c, g, h => by
    show (if c ≤ cm ∧ g ≤ wt then Rw S f0 cm wt i (c - 1) g * S + Rw S f0 cm wt i c (g - 1) * (f0 + c - (g - 1)) + Rw S f0 cm wt i c g * ((f0 + c - g) * (S - 1)) else 0) = 0
    rw [Rw_zero S f0 cm wt i (c - 1) g (by omega), Rw_zero S f0 cm wt i c (g - 1) (by omega), Rw_zero S f0 cm wt i c g (by omega)]
    simp
theorem Rw_came (S f0 : Int) (n : Nat) : ∀ i : Nat, i ≤ n → Rw S f0 n 0 i i 0 = S ^ i
  | 0, _ => by simp [Rw]
  | i + 1, h => by
    show (if ((i + 1 : Nat) : Int) ≤ n ∧ (0 : Int) ≤ 0 then Rw S f0 n 0 i (((i + 1 : Nat) : Int) - 1) 0 * S + Rw S f0 n 0 i ((i + 1 : Nat) : Int) (0 - 1) * (f0 + ((i + 1 : Nat) : Int) - (0 - 1)) + Rw S f0 n 0 i ((i + 1 : Nat) : Int) 0 * ((f0 + ((i + 1 : Nat) : Int) - 0) * (S - 1)) else 0) = S ^ (i + 1)
    rw [if_pos (by omega), Rw_zero S f0 n 0 i _ (0 - 1) (by omega), Rw_zero S f0 n 0 i ((i + 1 : Nat) : Int) 0 (by omega), show ((i + 1 : Nat) : Int) - 1 = (i : Int) by omega, Rw_came S f0 n i (by omega), Int.pow_succ]
    simp
def fallI (f0 : Int) : Nat → Int
  | 0 => 1
  | i + 1 => fallI f0 i * (f0 - i)
theorem Rw_went (S f0 : Int) (n : Nat) : ∀ i : Nat, i ≤ n → Rw S f0 0 n i 0 i = fallI f0 i
  | 0, _ => rfl
  | i + 1, h => by
    show (if (0 : Int) ≤ 0 ∧ ((i + 1 : Nat) : Int) ≤ n then Rw S f0 0 n i (0 - 1) ((i + 1 : Nat) : Int) * S + Rw S f0 0 n i 0 (((i + 1 : Nat) : Int) - 1) * (f0 + 0 - (((i + 1 : Nat) : Int) - 1)) + Rw S f0 0 n i 0 ((i + 1 : Nat) : Int) * ((f0 + 0 - ((i + 1 : Nat) : Int)) * (S - 1)) else 0) = fallI f0 i * (f0 - i)
    rw [if_pos (by omega), Rw_zero S f0 0 n i (0 - 1) _ (by omega), Rw_zero S f0 0 n i 0 ((i + 1 : Nat) : Int) (by omega), show ((i + 1 : Nat) : Int) - 1 = (i : Int) by omega, Rw_went S f0 n i (by omega)]
    simp
theorem Rw_chgd (S f0 : Int) : ∀ i : Nat, Rw S f0 0 0 i 0 0 = (f0 * (S - 1)) ^ i
  | 0 => by simp [Rw]
  | i + 1 => by
    show (if (0 : Int) ≤ 0 ∧ (0 : Int) ≤ 0 then Rw S f0 0 0 i (0 - 1) 0 * S + Rw S f0 0 0 i 0 (0 - 1) * (f0 + 0 - (0 - 1)) + Rw S f0 0 0 i 0 0 * ((f0 + 0 - 0) * (S - 1)) else 0) = _
    rw [if_pos (by omega), Rw_zero S f0 0 0 i (0 - 1) 0 (by omega), Rw_zero S f0 0 0 i 0 (0 - 1) (by omega), Rw_chgd S f0 i, Int.pow_succ]
    simp
/-! the table as the dict holds it -/
def kkP (p : PK) : List L2.Key := [.inl p.1, .inl p.2]
def kvP (t : Tab) : List (List L2.Key × V) := t.map fun e => (kkP e.1, V.int e.2)
theorem kkP_inj {p q : PK} (h : kkP p = kkP q) : p = q := by
  have h1 := List.cons.inj h
  have h2 := List.cons.inj h1.2
  exact Prod.ext (Sum.inl.inj h1.1) (Sum.inl.inj h2.1)
theorem valV_kvP (p : PK) : ∀ t : Tab, valV (kvP t) (kkP p) = (getP t p).map V.int
  | [] => rfl
  | e :: t => by
    show valV ((kkP e.1, V.int e.2) :: kvP t) (kkP p) = (if e.1 = p then some e.2 else getP t p).map V.int
    by_cases h : e.1 = p
    · rw [if_pos h, valV_pos (p := (kkP e.1, V.int e.2)) (by rw [h])]; rfl
    · rw [if_neg h, valV_neg (p := (kkP e.1, V.int e.2)) (fun z => h (kkP_inj z)), valV_kvP p t]
theorem putK_kvP (t : Tab) (p : PK) (n : Int) : putK (kvP t) (kkP p) (.int n) = kvP (putP t p n) := by
  unfold putK putP
  have e : ((kvP t).any fun kv => decide (kv.1 = kkP p)) = hasP t p := by
    rw [valV_any, valV_kvP]
    unfold hasP
    cases getP t p <;> rfl
  rw [e]
  by_cases h : hasP t p = true
  · rw [if_pos h, if_pos h]
    unfold kvP
    rw [List.map_map, List.map_map]
    refine List.map_congr_left fun x _ => ?_
    show (if kkP x.1 = kkP p then (kkP x.1, V.int n) else (kkP x.1, V.int x.2)) = (kkP (if x.1 = p then (x.1, n) else x).1, V.int (if x.1 = p then (x.1, n) else x).2)
    by_cases z : x.1 = p
    · rw [if_pos z, if_pos (by rw [z])]
    · rw [if_neg z, if_neg (fun y => z (kkP_inj y))]
  · rw [if_neg h, if_neg h]
    unfold kvP
    rw [List.map_append]; rfl
theorem kvP_len (t : Tab) : (kvP t).length = t.length := List.length_map _
theorem kvP_get {t : Tab} {i : Nat} {k : List L2.Key} {v : V} (h : (kvP t)[i]? = some (k, v)) : ∃ e, t[i]? = some e ∧ k = kkP e.1 ∧ v = .int e.2 := by
  unfold kvP at h
  rw [List.getElem?_map] at h
  cases z : t[i]? with
  | none => rw [z] at h; cases h
  | some e => rw [z] at h; have := Option.some.inj h; exact ⟨e, rfl, (Prod.mk.inj this).1.symm, (Prod.mk.inj this).2.symm⟩
theorem mem_getP {t : Tab} {e : PK × Int} (nd : (keysP t).Nodup) (h : e ∈ t) : getP t e.1 = some e.2 := by
  induction t with
  | nil => cases h
  | cons a r ih =>
    have h' := List.nodup_cons.mp (show (a.1 :: keysP r).Nodup from nd)
    show (if a.1 = e.1 then some a.2 else getP r e.1) = some e.2
    rcases List.mem_cons.mp h with rfl | h
    · rw [if_pos rfl]
    · rw [if_neg (fun z => h'.1 (by rw [z]; exact List.mem_map_of_mem h)), ih h'.2 h]
/-- the table that the comprehension has made by i turns -/
theorem take_box {cm wt : Int} {t : Tab} {i : Nat} {e : PK × Int} (nd : (keysP t).Nodup) (h : t[i]? = some e) :
    boxed cm wt (t.take (i + 1)) = if boxB cm wt e.1 = true then putP (boxed cm wt (t.take i)) e.1 e.2 else boxed cm wt (t.take i) := by
  rw [take_more h]
  unfold boxed
  rw [List.filter_append]
  by_cases b : boxB cm wt e.1 = true
  · rw [if_pos b, List.filter_cons_of_pos (p := fun e : PK × Int => boxB cm wt e.1) b]
    unfold putP
    have hn : ¬ hasP ((t.take i).filter fun e => boxB cm wt e.1) e.1 = true := fun z => by
      rw [hasP_mem, keys_filter, List.mem_filter] at z
      have hi := lt_of_get h
      have e2 : t = t.take i ++ e :: t.drop (i + 1) := by
        rw [List.getElem?_eq_getElem hi] at h
        rw [← Option.some.inj h, ← List.drop_eq_getElem_cons hi, List.take_append_drop]
      rw [e2] at nd
      unfold keysP at nd
      rw [List.map_append, List.map_cons] at nd
      exact (List.nodup_append.mp nd).2.2 e.1 z.1 e.1 List.mem_cons_self rfl
    rw [if_neg hn]; rfl
  · rw [if_neg b, List.filter_cons_of_neg (p := fun e : PK × Int => boxB cm wt e.1) b, List.filter_nil, List.append_nil]
end K1


set_option Elab.async false
set_option linter.all false
set_option maxRecDepth 100000
set_option maxHeartbeats 4000000
namespace K1
open PySem PySem.Spec PyProof.Rows L2 RZ
abbrev sIsInt : Stmt := st_is_integer
abbrev sIsNum : Stmt := st_is_number
abbrev sIsMark : Stmt := st_is_mark
abbrev nV : List Str := ["value"]
abbrev pV : List Str := ["value"]
theorem scIsInt : FnScope nV pV (defScope sIsInt) := ⟨rfl, rfl, rfl, by decide +kernel, rfl, by decide +kernel, by decide +kernel⟩
theorem scIsNum : FnScope nV pV (defScope sIsNum) := ⟨rfl, rfl, rfl, by decide +kernel, rfl, by decide +kernel, by decide +kernel⟩
theorem scIsMark : FnScope nV pV (defScope sIsMark) := ⟨rfl, rfl, rfl, by decide +kernel, rfl, by decide +kernel, by decide +kernel⟩
abbrev sSight : Stmt := st__is_sight
abbrev nSight : List Str := ["value", "age", "count", "upcoming", "mark"]
theorem scSight : FnScope nSight pV (defScope sSight) := ⟨rfl, rfl, rfl, by decide +kernel, rfl, by decide +kernel, by decide +kernel⟩
/-- a def that tells a bool of one value, and makes nothing -/
def spB1 (f : PyData → Bool) : Sp := fun vs H Q _ => ∃ (x : V) (d : PyData), vs = [x] ∧ Dv H x d ∧ Q (.bl (f d)) H
def isMark : PyData → Bool | .int n => decide (0 ≤ n) | _ => false
def sightB : PyData → Bool
  | .tuple [a, c, n, m] => isNum a && (isInt c && (isNum n && (isMark m && ((decide (0 ≤ dI c) && decide (dI c < dI n)) && (!decide (dI m < 2 * (dI n - 1) - dI c) && (decide (1 < dI n) || decide (dI m = 0)))))))
  | _ => false
theorem intB {d : PyData} (h : isInt d = true) : ∃ n, d = .int n := by
  cases d with
  | int n => exact ⟨n, rfl⟩
  | _ => cases h
theorem numB {d : PyData} (h : isNum d = true) : ∃ n, d = .int n ∧ 1 ≤ n := by
  cases d with
  | int n => exact ⟨n, rfl, of_decide_eq_true h⟩
  | _ => cases h
theorem markB {d : PyData} (h : isMark d = true) : ∃ n, d = .int n ∧ 0 ≤ n := by
  cases d with
  | int n => exact ⟨n, rfl, of_decide_eq_true h⟩
  | _ => cases h
theorem Dv.intV {H : Hp} {x : V} {n : Int} (h : Dv H x (.int n)) : x = .int n := by
  cases h; rfl
section
variable {P : Program} {w : World} {K : PySem.W.Frag} {mg : Str → Option Value} {base : Heap}
theorem ok_isInt {f : Addr} {fd : FuncData} (T : Bj mg) (F : Fun K "is_integer" "is_integer" sIsInt f fd) : FnOk P w K mg base CX0 1 f fd pV (spB1 isInt) := by
  refine F.ok scIsInt (fun vs H Q E h => ?_) (fun cdv A outer s H vs Q E hr h => ?_)
  · obtain ⟨x, d, rfl, _⟩ := h
    rfl
  · obtain ⟨x, d, rfl, hd, q⟩ := h
    obtain ⟨b1, b2, h1, h2, hb⟩ := kit_int d
    have ty := hd.ty (K := K)
    refine ⟨_, (pss_one (ps_ret (pe_and (pe_callB (call_isiK1 (K := K) rfl) (by rfl) T.isinstance PyProof.Rows.boot_isinstance (pa_cons (pv 0) (pa_cons (pe_bltn (v := .ty "int") rfl T.int PyProof.Rows.boot_int rfl) pa_nil))) (pe_one (pe_not (pe_callB (call_isiK1 (K := K) rfl) (by rfl) T.isinstance PyProof.Rows.boot_isinstance (pa_cons (pv 0) (pa_cons (pe_bltn (v := .ty "bool") rfl T.bool PyProof.Rows.boot_bool rfl) pa_nil)))))))), ?_⟩
    refine ⟨_, rfl, x, .ty "int", .type _, .type "int", b1, rfl, .ty _, ty, kit_ty h1, _, rfl, ?_⟩
    rw [← hb] at q
    cases b1 with
    | true => exact itbT rfl ⟨_, rfl, x, .ty "bool", .type _, .type "bool", b2, rfl, .ty _, ty, kit_ty h2, _, rfl, q⟩
    | false => exact itbF rfl q
theorem def_isInt (T : Bj mg) (a : At K mg "is_integer" sIsInt) : Def P w K mg base CX0 1 "is_integer" pV (spB1 isInt) :=
  a.def (fun _ _ _ _ _ _ us hl => match us, hl with | [_], _ => rfl) fun f fd F => ok_isInt T F
theorem ok_isNum {f : Addr} {fd : FuncData} (T : Bj mg) (D_is_integer : Def P w K mg base CX0 1 "is_integer" pV (spB1 isInt)) (F : Fun K "is_number" "is_number" sIsNum f fd) : FnOk P w K mg base CX0 2 f fd pV (spB1 isNum) := by
  refine F.ok scIsNum (fun vs H Q E h => ?_) (fun cdv A outer s H vs Q E hr h => ?_)
  · obtain ⟨x, d, rfl, _⟩ := h
    rfl
  · obtain ⟨x, d, rfl, hd, q⟩ := h
    refine ⟨_, (pss_one (ps_ret (pe_and (pe_def D_is_integer (hr.mono (by decide)) rfl pass0 (pa_cons (pv 0) pa_nil)) (pe_one (pe_cmpR op_ge (pv 0) pe_int (nomark _)))))), ?_⟩
    refine ⟨_, rfl, x, d, rfl, hd, _, rfl, ?_⟩
    cases hd with
    | int n => exact itbT rfl ⟨_, rfl, _, _, rfl, rfl, q⟩
    | _ => exact itbF rfl q
theorem def_isNum (T : Bj mg) (D_is_integer : Def P w K mg base CX0 1 "is_integer" pV (spB1 isInt)) (a : At K mg "is_number" sIsNum) : Def P w K mg base CX0 2 "is_number" pV (spB1 isNum) :=
  a.def (fun _ _ _ _ _ _ us hl => match us, hl with | [_], _ => rfl) fun f fd F => ok_isNum T D_is_integer F
theorem ok_isMark {f : Addr} {fd : FuncData} (T : Bj mg) (D_is_integer : Def P w K mg base CX0 1 "is_integer" pV (spB1 isInt)) (F : Fun K "is_mark" "is_mark" sIsMark f fd) : FnOk P w K mg base CX0 2 f fd pV (spB1 isMark) := by
  refine F.ok scIsMark (fun vs H Q E h => ?_) (fun cdv A outer s H vs Q E hr h => ?_)
  · obtain ⟨x, d, rfl, _⟩ := h
    rfl
  · obtain ⟨x, d, rfl, hd, q⟩ := h
    refine ⟨_, (pss_one (ps_ret (pe_and (pe_def D_is_integer (hr.mono (by decide)) rfl pass0 (pa_cons (pv 0) pa_nil)) (pe_one (pe_cmpR op_ge (pv 0) pe_int (nomark _)))))), ?_⟩
    refine ⟨_, rfl, x, d, rfl, hd, _, rfl, ?_⟩
    cases hd with
    | int n => exact itbT rfl ⟨_, rfl, _, _, rfl, rfl, q⟩
    | _ => exact itbF rfl q
theorem def_isMark (T : Bj mg) (D_is_integer : Def P w K mg base CX0 1 "is_integer" pV (spB1 isInt)) (a : At K mg "is_mark" sIsMark) : Def P w K mg base CX0 2 "is_mark" pV (spB1 isMark) :=
  a.def (fun _ _ _ _ _ _ us hl => match us, hl with | [_], _ => rfl) fun f fd F => ok_isMark T D_is_integer F
theorem ok_sight {f : Addr} {fd : FuncData} (T : Bj mg) (D_is_integer : Def P w K mg base CX0 1 "is_integer" pV (spB1 isInt)) (D_is_number : Def P w K mg base CX0 2 "is_number" pV (spB1 isNum)) (D_is_mark : Def P w K mg base CX0 2 "is_mark" pV (spB1 isMark))
    (F : Fun K "_is_sight" "_is_sight" sSight f fd) : FnOk P w K mg base CX0 3 f fd pV (spB1 sightB) := by
  have nd := scSight.nd
  refine F.ok scSight (fun vs H Q E h => ?_) (fun cdv A outer s H vs Q E hr h => ?_)
  · obtain ⟨x, d, rfl, _⟩ := h
    rfl
  · obtain ⟨x, d, rfl, hd, q⟩ := h
    refine ⟨_, (pss_cons (ps_if (PW.pt (pw_or (pt_not (pt_val (pe_callB (call_isiK1 (K := K) rfl) (by rfl) T.isinstance PyProof.Rows.boot_isinstance (pa_cons (pv 0) (pa_cons (pe_bltn (v := .ty "tuple") rfl T.tuple PyProof.Rows.boot_tuple rfl) pa_nil))))) (pw_or1 (pt_cmpR op_ne (pe_callB (call_lenK (K := K) rfl) (by rfl) T.len PySem.boot_len (pa_cons (pv 0) pa_nil)) pe_int (nomark _)))))
  (pss_one (ps_ret pe_bl))
  pss_nil)
 (pss_cons (ps_asg (pv 0) (pg_tup rfl (pgs_cons (pg_name (i := 1) nd rfl (Or.inl rfl)) (pgs_cons (pg_name (i := 2) nd rfl (Or.inl rfl)) (pgs_cons (pg_name (i := 3) nd rfl (Or.inl rfl)) (pgs_cons (pg_name (i := 4) nd rfl (Or.inl rfl)) pgs_nil))))))
 (pss_cons (ps_if (PW.pt (pw_or (pt_not (pt_val (pe_def D_is_number (hr.mono (by decide)) rfl pass0 (pa_cons (pv 1) pa_nil)))) (pw_or (pt_not (pt_val (pe_def D_is_integer (hr.mono (by decide)) rfl pass0 (pa_cons (pv 2) pa_nil)))) (pw_or (pt_not (pt_val (pe_def D_is_number (hr.mono (by decide)) rfl pass0 (pa_cons (pv 3) pa_nil)))) (pw_or1 (pt_not (pt_val (pe_def D_is_mark (hr.mono (by decide)) rfl pass0 (pa_cons (pv 4) pa_nil)))))))))
  (pss_one (ps_ret pe_bl))
  pss_nil)
 (pss_cons (ps_if (PW.pt (pw_or (pt_not (pt_chain op_le op_lt pe_int (pv 2) (pv 3))) (pw_or1 (pt_cmpR op_lt (pv 4) (pe_op op_sub (pe_op op_mul pe_int (pe_op op_sub (pv 3) pe_int)) (pv 2)) (nomark _)))))
  (pss_one (ps_ret pe_bl))
  pss_nil)
 (pss_one (ps_ret (pe_or (pe_cmpR op_gt (pv 3) pe_int (nomark _)) (pe_one (pe_cmpR op_eq (pv 4) pe_int (nomark _)))))))))), ?_⟩
    refine ⟨_, rfl, x, .ty "tuple", .type _, .type "tuple", isTup d, rfl, .ty _, hd.ty, kit_ty (kit_tup d), _, rfl, ?_⟩
    by_cases hs : isTup d = true
    · obtain ⟨a, xs, rfl, ha, hA, ed⟩ := hd.tupD hs
      have hlen := hA.len
      generalize itemsD d = ds at hA ed hlen
      subst ed
      refine itbF rfl ⟨_, rfl, a, xs, rfl, .inr (st ha), rfl, _, rfl, ?_⟩
      by_cases h4 : ds.length = 4
      · refine itbF (by rw [hlen, h4]; rfl) ?_
        match ds, xs, hA, h4 with
        | [d1, d2, d3, d4], _, .cons (v := x1) h1 (.cons (v := x2) h2 (.cons (v := x3) h3 (.cons (v := x4) hm .nil))), _ =>
          have e0 : sightB (.tuple [d1, d2, d3, d4]) = (isNum d1 && (isInt d2 && (isNum d3 && (isMark d4 && ((decide (0 ≤ dI d2) && decide (dI d2 < dI d3)) && (!decide (dI d4 < 2 * (dI d3 - 1) - dI d2) && (decide (1 < dI d3) || decide (dI d4 = 0)))))))) := rfl
          rw [e0] at q
          refine ⟨_, rfl, a, _, rfl, st ha, rfl, x1, _, rfl, x2, _, rfl, x3, _, rfl, x4, _, rfl, rfl, ?_⟩
          refine ⟨_, rfl, x1, d1, rfl, h1, _, rfl, ?_⟩
          by_cases n1 : isNum d1 = true
          · rw [n1] at q ⊢
            refine itbF rfl ⟨_, rfl, x2, d2, rfl, h2, _, rfl, ?_⟩
            by_cases n2 : isInt d2 = true
            · rw [n2] at q ⊢
              refine itbF rfl ⟨_, rfl, x3, d3, rfl, h3, _, rfl, ?_⟩
              by_cases n3 : isNum d3 = true
              · rw [n3] at q ⊢
                refine itbF rfl ⟨_, rfl, x4, d4, rfl, hm, _, rfl, ?_⟩
                by_cases n4 : isMark d4 = true
                · rw [n4] at q ⊢
                  refine itbF rfl ?_
                  obtain ⟨c, rfl⟩ := intB n2
                  obtain ⟨n, rfl, _⟩ := numB n3
                  obtain ⟨m, rfl, _⟩ := markB n4
                  obtain rfl := h2.intV
                  obtain rfl := h3.intV
                  obtain rfl := hm.intV
                  have q : Q (.bl ((decide (0 ≤ c) && decide (c < n)) && (!decide (m < 2 * (n - 1) - c) && (decide (1 < n) || decide (m = 0))))) H := q
                  refine ⟨_, rfl, _, _, rfl, rfl, _, rfl, ?_⟩
                  by_cases c1 : 0 ≤ c
                  · rw [decide_eq_true c1] at q
                    refine itbT (decide_eq_true c1) ⟨_, rfl, _, _, rfl, rfl, _, rfl, ?_⟩
                    by_cases c2 : c < n
                    · rw [decide_eq_true c2] at q
                      refine itbF (by rw [decide_eq_true c2]; rfl) ⟨_, rfl, _, rfl, _, _, rfl, rfl, _, _, rfl, rfl, .inl ⟨by decide, by decide⟩, _, rfl, _, _, rfl, rfl, _, _, rfl, rfl, _, rfl, ?_⟩
                      by_cases c3 : m < 2 * (n - 1) - c
                      · rw [decide_eq_true c3] at q
                        exact itbT (decide_eq_true c3) q
                      · rw [decide_eq_false c3] at q
                        refine itbF (decide_eq_false c3) ⟨_, rfl, _, _, rfl, rfl, _, rfl, ?_⟩
                        by_cases c4 : 1 < n
                        · rw [decide_eq_true c4] at q
                          exact itbT (decide_eq_true c4) q
                        · rw [decide_eq_false c4] at q
                          refine itbF (decide_eq_false c4) ⟨_, rfl, rfl, ?_⟩
                          have e : decide (V.int m = V.int 0) = decide (m = 0) := decide_eq_decide.mpr ⟨fun h => V.int.inj h, fun h => by rw [h]⟩
                          rw [e]
                          exact q
                    · rw [decide_eq_false c2] at q
                      exact itbT (by rw [decide_eq_false c2]; rfl) (itbT rfl q)
                  · rw [decide_eq_false c1] at q
                    exact itbF (decide_eq_false c1) ⟨_, rfl, itbT rfl (itbT rfl q)⟩
                · have n4' : isMark d4 = false := by simpa using n4
                  rw [n4'] at q ⊢
                  exact itbT rfl q
              · have n3' : isNum d3 = false := by simpa using n3
                rw [n3'] at q ⊢
                exact itbT rfl (itbT rfl q)
            · have n2' : isInt d2 = false := by simpa using n2
              rw [n2'] at q ⊢
              exact itbT rfl (itbT rfl q)
          · have n1' : isNum d1 = false := by simpa using n1
            rw [n1'] at q ⊢
            exact itbT rfl (itbT rfl q)
      · refine itbT ?_ ?_
        · rw [decide_eq_false fun h => ?_]
          · rfl
          · have := V.int.inj h
            omega
        · have e : sightB (.tuple ds) = false := by
            match ds, h4 with
            | [], _ => rfl
            | [_], _ => rfl
            | [_, _], _ => rfl
            | [_, _, _], _ => rfl
            | [_, _, _, _], h => exact absurd rfl h
            | _ :: _ :: _ :: _ :: _ :: _, _ => rfl
          rw [e] at q
          exact q
    · have hs' : isTup d = false := by simpa using hs
      refine itbT (by rw [hs']; rfl) (itbT rfl ?_)
      have e : sightB d = false := by
        cases d with
        | tuple _ => cases hs'
        | _ => rfl
      rw [e] at q
      exact q
theorem def_sight (T : Bj mg) (D_is_integer : Def P w K mg base CX0 1 "is_integer" pV (spB1 isInt)) (D_is_number : Def P w K mg base CX0 2 "is_number" pV (spB1 isNum)) (D_is_mark : Def P w K mg base CX0 2 "is_mark" pV (spB1 isMark)) (a : At K mg "_is_sight" sSight) :
    Def P w K mg base CX0 3 "_is_sight" pV (spB1 sightB) :=
  a.def (fun _ _ _ _ _ _ us hl => match us, hl with | [_], _ => rfl) fun f fd F => ok_sight T D_is_integer D_is_number D_is_mark F
end
end K1


set_option Elab.async false
set_option linter.all false
set_option maxRecDepth 100000
set_option maxHeartbeats 4000000
namespace K1
open PySem PySem.Spec PyProof.Rows L2 RZ
/-- the errors at, value, why -/
def ErrAt (C : Addr) (fl : Str) (v : V) (H : Hp) (E : XK) : Prop := ∀ (d : Addr) (H' : Hp), Same H H' → H' d = some (.xd [(fl, v)]) → E (.ref C) (some d) H'
theorem ErrAt.same {C : Addr} {fl : Str} {v : V} {H H1 : Hp} {E : XK} (h : ErrAt C fl v H E) (s : Same H H1) : ErrAt C fl v H1 E := fun d H' s' e => h d H' (s.trans s') e
/-- what is never reached -/
theorem pss_any {X : Cx} {b : List Stmt} : PSs X b (fun _ _ _ => False) := ⟨fun _ _ _ _ _ _ h => h.elim⟩
structure Sg where
  a : Int
  c : Int
  n : Int
  m : Int
def sgD (s : Sg) : PyData := .tuple [.int s.a, .int s.c, .int s.n, .int s.m]
def sgV (s : Sg) : List V := [.int s.a, .int s.c, .int s.n, .int s.m]
def SgAt (H : Hp) (a : Addr) (s : Sg) : Prop := H a = some (.tup (sgV s))
theorem sight_of {d : PyData} (h : sightB d = true) : ∃ s : Sg, d = sgD s := by
  match d, h with
  | .tuple [d1, d2, d3, d4], h =>
    have h : (isNum d1 && (isInt d2 && (isNum d3 && (isMark d4 && ((decide (0 ≤ dI d2) && decide (dI d2 < dI d3)) && (!decide (dI d4 < 2 * (dI d3 - 1) - dI d2) && (decide (1 < dI d3) || decide (dI d4 = 0)))))))) = true := h
    simp only [Bool.and_eq_true] at h
    obtain ⟨n1, n2, n3, n4, _⟩ := h
    obtain ⟨a, rfl, _⟩ := numB n1
    obtain ⟨c, rfl⟩ := intB n2
    obtain ⟨n, rfl, _⟩ := numB n3
    obtain ⟨m, rfl, _⟩ := markB n4
    exact ⟨⟨a, c, n, m⟩, rfl⟩
theorem Dv.sg {H : Hp} {x : V} {s : Sg} (h : Dv H x (sgD s)) : ∃ a, x = .ref a ∧ SgAt H a s := by
  cases h with
  | tup e r =>
    cases r with
    | cons h1 r =>
    cases r with
    | cons h2 r =>
    cases r with
    | cons h3 r =>
    cases r with
    | cons h4 r =>
    cases r
    rw [h1.intV, h2.intV, h3.intV, h4.intV] at e
    exact ⟨_, rfl, e⟩
theorem SgAt.same {H H' : Hp} {a : Addr} {s : Sg} (h : SgAt H a s) (e : Same H H') : SgAt H' a s := e _ _ h
theorem SgAt.dv {H : Hp} {a : Addr} {s : Sg} (h : SgAt H a s) : Dv H (.ref a) (sgD s) := .tup h (.cons (.int _) (.cons (.int _) (.cons (.int _) (.cons (.int _) .nil))))
abbrev sCheck : Stmt := st__check_sights
abbrev nTwo : List Str := ["one", "other"]
theorem scCheck : FnScope nTwo nTwo (defScope sCheck) := ⟨rfl, rfl, rfl, by decide +kernel, rfl, by decide +kernel, by decide +kernel⟩
def spCheck (CV : Addr) : Sp := fun vs H Q E => ∃ (x y : V) (dx dy : PyData), vs = [x, y] ∧ Dv H x dx ∧ Dv H y dy ∧ (sightB dx = true → sightB dy = true → Q .non H) ∧ (sightB dx = false → ErrAt CV "why" (.str "one") H E) ∧
  (sightB dx = true → sightB dy = false → ErrAt CV "why" (.str "other") H E)
abbrev sBtw : Stmt := st__between
abbrev nBtw : List Str := ["one", "other", "came", "went", "changed"]
theorem scBtw : FnScope nBtw nTwo (defScope sBtw) := ⟨rfl, rfl, rfl, by decide +kernel, rfl, by decide +kernel, by decide +kernel⟩
def came (s t : Sg) : Int := t.n - s.n
def went (s t : Sg) : Int := s.c + came s t - t.c
def chgd (s t : Sg) : Int := t.m - s.m - came s t - went s t
def btw (s t : Sg) : Option (Int × Int × Int) := if s.a ≠ t.a ∨ came s t < 0 ∨ went s t < 0 ∨ chgd s t < 0 then none else if chgd s t ≠ 0 ∧ s.c = 0 ∧ came s t = 0 then none else some (came s t, went s t, chgd s t)
def spBtw : Sp := fun vs H Q _ => ∃ (a b : Addr) (s t : Sg), vs = [.ref a, .ref b] ∧ SgAt H a s ∧ SgAt H b t ∧ (btw s t = none → Q .non H) ∧
  (∀ c w g, btw s t = some (c, w, g) → ∀ p, H p = none → Q (.ref p) (upd H p (.tup [.int c, .int w, .int g])))
theorem deqI (a b : Int) : decide (V.int a = V.int b) = decide (a = b) := decide_eq_decide.mpr ⟨fun h => V.int.inj h, fun h => by rw [h]⟩
section
variable {P : Program} {w : World} {K : PySem.W.Frag} {mg : Str → Option Value} {base : Heap} {CV fV : Addr}
theorem ok_check {f : Addr} {fd : FuncData} (TV : PySem.Tide.TideTxt P K mg "BadValue" CV fV "why") (D_is_sight : Def P w K mg base CX0 3 "_is_sight" pV (spB1 sightB)) (F : Fun K "_check_sights" "_check_sights" sCheck f fd) :
    FnOk P w K mg base (L2.CX P w) 4 f fd nTwo (spCheck CV) := by
  refine F.okX scCheck (fun vs H Q E h => ?_) (fun cdv A outer s H vs Q E hr h => ?_)
  · obtain ⟨x, y, dx, dy, rfl, _⟩ := h
    rfl
  · obtain ⟨x, y, dx, dy, rfl, hx, hy, q, e1, e2⟩ := h
    refine ⟨_, (pss_cons (ps_if (pt_not (pt_val (pe_def D_is_sight (hr.mono (by decide)) rfl pass0 (pa_cons (pv 0) pa_nil))))
  (pss_one (ps_raiseTide rfl TV hr (takes_of rfl rfl rfl rfl) (pa_cons pe_str pa_nil)))
  pss_nil)
 (pss_one (ps_if (pt_not (pt_val (pe_def D_is_sight (hr.mono (by decide)) rfl pass0 (pa_cons (pv 1) pa_nil))))
  (pss_one (ps_raiseTide rfl TV hr (takes_of rfl rfl rfl rfl) (pa_cons pe_str pa_nil)))
  pss_nil))), ?_⟩
    refine ⟨_, rfl, x, dx, rfl, hx, _, rfl, ?_⟩
    by_cases c1 : sightB dx = true
    · refine itbF (by rw [c1]; rfl) ⟨_, rfl, y, dy, rfl, hy, _, rfl, ?_⟩
      by_cases c2 : sightB dy = true
      · exact itbF (by rw [c2]; rfl) (q c1 c2)
      · have c2' : sightB dy = false := by simpa using c2
        exact itbT (by rw [c2']; rfl) ⟨_, rfl, fun dd nd => e2 c1 c2' dd _ (same_new nd) upd_same⟩
    · have c1' : sightB dx = false := by simpa using c1
      exact itbT (by rw [c1']; rfl) ⟨_, rfl, fun dd nd => e1 c1' dd _ (same_new nd) upd_same⟩
theorem def_check (TV : PySem.Tide.TideTxt P K mg "BadValue" CV fV "why") (D_is_sight : Def P w K mg base CX0 3 "_is_sight" pV (spB1 sightB)) (a : At K mg "_check_sights" sCheck) : Def P w K mg base (L2.CX P w) 4 "_check_sights" nTwo (spCheck CV) :=
  a.def (fun _ _ _ _ _ _ us hl => match us, hl with | [_, _], _ => rfl) fun f fd F => ok_check TV D_is_sight F
theorem ok_btw {f : Addr} {fd : FuncData} (T : Bj mg) (F : Fun K "_between" "_between" sBtw f fd) : FnOk P w K mg base CX0 1 f fd nTwo spBtw := by
  have nd := scBtw.nd
  refine F.ok scBtw (fun vs H Q E h => ?_) (fun cdv A outer s H vs Q E hr h => ?_)
  · obtain ⟨a, b, s, t, rfl, _⟩ := h
    rfl
  · obtain ⟨a, b, s, t, rfl, ha, hb, q1, q2⟩ := h
    refine ⟨_, (pss_cons (ps_set (i := 2) nd rfl (Or.inl rfl) (pe_op op_sub (pe_ix (ix_tupK (K := K) rfl) (pv 1) pe_int (fun _ _ => rfl)) (pe_ix (ix_tupK (K := K) rfl) (pv 0) pe_int (fun _ _ => rfl))))
 (pss_cons (ps_set (i := 3) nd rfl (Or.inl rfl) (pe_op op_sub (pe_op op_add (pe_ix (ix_tupK (K := K) rfl) (pv 0) pe_int (fun _ _ => rfl)) (pv 2)) (pe_ix (ix_tupK (K := K) rfl) (pv 1) pe_int (fun _ _ => rfl))))
 (pss_cons (ps_set (i := 4) nd rfl (Or.inl rfl) (pe_op op_sub (pe_op op_sub (pe_op op_sub (pe_ix (ix_tupK (K := K) rfl) (pv 1) pe_int (fun _ _ => rfl)) (pe_ix (ix_tupK (K := K) rfl) (pv 0) pe_int (fun _ _ => rfl))) (pv 2)) (pv 3)))
 (pss_cons (ps_if (PW.pt (pw_or (pt_cmpR op_ne (pe_ix (ix_tupK (K := K) rfl) (pv 0) pe_int (fun _ _ => rfl)) (pe_ix (ix_tupK (K := K) rfl) (pv 1) pe_int (fun _ _ => rfl)) (nomark _)) (pw_or1 (pt_cmpR op_lt (pe_callB (call_min3 rfl) (by rfl) T.min PyProof.Rows.boot_min (pa_cons (pv 2) (pa_cons (pv 3) (pa_cons (pv 4) pa_nil)))) pe_int (nomark _)))))
  (pss_one (ps_ret pe_non))
  pss_nil)
 (pss_cons (ps_if (PW.pt (pw_and (pt_truth (pv 4) (by intro _; rfl)) (pw_and (pt_not (pt_truth (pe_ix (ix_tupK (K := K) rfl) (pv 0) pe_int (fun _ _ => rfl)) (by intro _; rfl))) (pw_and1 (pt_not (pt_truth (pv 2) (by intro _; rfl)))))))
  (pss_one (ps_ret pe_non))
  pss_nil)
 (pss_one (ps_ret (pe_tup (pa_cons (pv 2) (pa_cons (pv 3) (pa_cons (pv 4) pa_nil))))))))))), ?_⟩
    have A0 : SqT K H a (sgV s) := st ha
    have B0 : SqT K H b (sgV t) := st hb
    refine ⟨_, rfl, b, _, 2, .int t.n, rfl, rfl, B0, atI_nat (j := 2) rfl, _, rfl, a, _, 2, .int s.n, rfl, rfl, A0, atI_nat (j := 2) rfl, _, _, rfl, rfl, ?_⟩
    refine ⟨_, rfl, a, _, 1, .int s.c, rfl, rfl, A0, atI_nat (j := 1) rfl, _, rfl, _, _, rfl, rfl, _, rfl, b, _, 1, .int t.c, rfl, rfl, B0, atI_nat (j := 1) rfl, _, _, rfl, rfl, ?_⟩
    refine ⟨_, rfl, b, _, 3, .int t.m, rfl, rfl, B0, atI_nat (j := 3) rfl, _, rfl, a, _, 3, .int s.m, rfl, rfl, A0, atI_nat (j := 3) rfl, _, _, rfl, rfl, _, rfl, _, _, rfl, rfl, _, rfl, _, _, rfl, rfl, ?_⟩
    refine ⟨_, rfl, a, _, 0, .int s.a, rfl, rfl, A0, atI_nat (j := 0) rfl, _, rfl, b, _, 0, .int t.a, rfl, rfl, B0, atI_nat (j := 0) rfl, rfl, _, rfl, ?_⟩
    by_cases c1 : s.a = t.a
    · refine itbF (by rw [c1]; simp) ⟨_, rfl, _, rfl, _, rfl, _, _, _, rfl, fun m h1 h2 h3 h4 => ⟨_, _, rfl, rfl, _, rfl, ?_⟩⟩
      have h2 : m ≤ came s t := h2
      have h3 : m ≤ went s t := h3
      have h4 : m ≤ chgd s t := h4
      have h1 : m = came s t ∨ m = went s t ∨ m = chgd s t := h1
      by_cases c2 : m < 0
      · refine itbT (decide_eq_true c2) (q1 ?_)
        unfold btw
        rw [if_pos (by omega)]
      · refine itbF (decide_eq_false c2) ?_
        have nn : ¬ (s.a ≠ t.a ∨ came s t < 0 ∨ went s t < 0 ∨ chgd s t < 0) := by omega
        unfold btw at q1 q2
        rw [if_neg nn] at q1 q2
        refine ⟨_, rfl, (chgd s t != 0), rfl, ?_⟩
        by_cases c3 : chgd s t = 0
        · refine itbF (by simp [c3]) ?_
          rw [if_neg (by omega)] at q2
          exact ⟨_, rfl, _, rfl, _, rfl, (by show 3 ≤ sizeLine; decide), fun p np => q2 _ _ _ rfl p np⟩
        · refine itbT (by simp [c3]) ⟨_, rfl, a, _, 1, .int s.c, rfl, rfl, A0, atI_nat (j := 1) rfl, (s.c != 0), rfl, ?_⟩
          by_cases c4 : s.c = 0
          · refine itbT (by rw [c4]; rfl) ⟨_, rfl, (came s t != 0), rfl, ?_⟩
            by_cases c5 : came s t = 0
            · refine itbT (by simp [c5]) (q1 ?_)
              rw [if_pos ⟨c3, c4, c5⟩]
            · refine itbF (by simp [c5]) ?_
              rw [if_neg (by omega)] at q2
              exact ⟨_, rfl, _, rfl, _, rfl, (by show 3 ≤ sizeLine; decide), fun p np => q2 _ _ _ rfl p np⟩
          · refine itbF (by simp [c4]) (itbF rfl ?_)
            rw [if_neg (by omega)] at q2
            exact ⟨_, rfl, _, rfl, _, rfl, (by show 3 ≤ sizeLine; decide), fun p np => q2 _ _ _ rfl p np⟩
    · refine itbT (by simp [deqI, c1]) (itbT rfl (q1 ?_))
      unfold btw
      rw [if_pos (.inl c1)]
theorem def_btw (T : Bj mg) (a : At K mg "_between" sBtw) : Def P w K mg base CX0 1 "_between" nTwo spBtw :=
  a.def (fun _ _ _ _ _ _ us hl => match us, hl with | [_, _], _ => rfl) fun f fd F => ok_btw T F
end
end K1


set_option Elab.async false
set_option linter.all false
set_option maxRecDepth 100000
set_option maxHeartbeats 4000000
namespace K1
open PySem PySem.Spec PyProof.Rows L2 RZ
inductive Er
  | why (s : Str)
  | lim (n : Int)
def ErE (CV CL : Addr) (H : Hp) (E : XK) : Er → Prop
  | .why s => ErrAt CV "why" (.str s) H E
  | .lim n => ErrAt CL "limit" (.int n) H E
theorem ErE.same {CV CL : Addr} {H H' : Hp} {E : XK} {e : Er} (h : ErE CV CL H E e) (s : Same H H') : ErE CV CL H' E e := by
  cases e with
  | why z => exact ErrAt.same h s
  | lim z => exact ErrAt.same h s
inductive Res
  | ok (d : PyData)
  | er (e : Er)
def sgOf : PyData → Sg
  | .tuple [a, c, n, m] => ⟨dI a, dI c, dI n, dI m⟩
  | _ => ⟨0, 0, 0, 0⟩
theorem sgOf_sgD (s : Sg) : sgOf (sgD s) = s := rfl
def ckR (dx dy : PyData) : Option Er := if sightB dx = true then (if sightB dy = true then none else some (.why "other")) else some (.why "one")
/-- a call's end, by data -/
def Ends1 (CV CL : Addr) (H : Hp) (Q : VK) (E : XK) : Res → Prop
  | .ok d => ∀ v H', Same H H' → Dv H' v d → Q v H'
  | .er e => ErE CV CL H E e
def spR (CV CL : Addr) (okd : List PyData → Prop) (f : List PyData → Res) : Sp := fun vs H Q E => ∃ ds, DvA H vs ds ∧ okd ds ∧ Ends1 CV CL H Q E (f ds)
/-- a function of two sights that are checked first -/
def twoR (f : Sg → Sg → PyData) : List PyData → Res
  | [dx, dy] => match ckR dx dy with
    | some e => .er e
    | none => .ok (f (sgOf dx) (sgOf dy))
  | _ => .ok .none
def isTwo (ds : List PyData) : Prop := ds.length = 2
def btwD (s t : Sg) : PyData := match btw s t with
  | none => .none
  | some (c, w, g) => .tuple [.int c, .int w, .int g]
def mostD (s t : Sg) : PyData := match btw s t with
  | none => .none
  | some (c, _, _) => .int (s.c + c)
def fewD (s t : Sg) : PyData := match btw s t with
  | none => .none
  | some (_, w, _) => .int (if 0 > s.c - w then 0 else s.c - w)
def lessI (i j : Int) : Int := if j < i then j else i
def moreI (i j : Int) : Int := if j > i then j else i
abbrev sBetween : Stmt := st_between
abbrev sMost : Stmt := st_most_at_once
abbrev sFew : Stmt := st_fewest_at_once
abbrev nMost : List Str := ["one", "other", "numbers"]
theorem scBetween : FnScope nTwo nTwo (defScope sBetween) := ⟨rfl, rfl, rfl, by decide +kernel, rfl, by decide +kernel, by decide +kernel⟩
theorem scMost : FnScope nMost nTwo (defScope sMost) := ⟨rfl, rfl, rfl, by decide +kernel, rfl, by decide +kernel, by decide +kernel⟩
theorem scFew : FnScope nMost nTwo (defScope sFew) := ⟨rfl, rfl, rfl, by decide +kernel, rfl, by decide +kernel, by decide +kernel⟩
/-- what is known of two arguments -/
theorem two_cases {CV CL : Addr} {f : Sg → Sg → PyData} {vs : List V} {H : Hp} {Q : VK} {E : XK} (h : spR CV CL isTwo (twoR f) vs H Q E) :
    ∃ x y dx dy, vs = [x, y] ∧ Dv H x dx ∧ Dv H y dy ∧ (sightB dx = false → ErrAt CV "why" (.str "one") H E) ∧ (sightB dx = true → sightB dy = false → ErrAt CV "why" (.str "other") H E) ∧
      (sightB dx = true → sightB dy = true → ∃ a b s t, x = .ref a ∧ y = .ref b ∧ SgAt H a s ∧ SgAt H b t ∧ ∀ v H', Same H H' → Dv H' v (f s t) → Q v H') := by
  obtain ⟨ds, hA, hl, q⟩ := h
  have hl : ds.length = 2 := hl
  match ds, vs, hA, hl with
  | [dx, dy], _, .cons (v := x) h1 (.cons (v := y) h2 .nil), _ =>
    have q : Ends1 CV CL H Q E (match ckR dx dy with | some e => .er e | none => .ok (f (sgOf dx) (sgOf dy))) := q
    refine ⟨x, y, dx, dy, rfl, h1, h2, fun c => ?_, fun c1 c2 => ?_, fun c1 c2 => ?_⟩
    · have e : ckR dx dy = some (.why "one") := by unfold ckR; rw [c, if_neg Bool.false_ne_true]
      rw [e] at q
      exact q
    · have e : ckR dx dy = some (.why "other") := by unfold ckR; rw [c1, c2, if_pos rfl, if_neg Bool.false_ne_true]
      rw [e] at q
      exact q
    · have e : ckR dx dy = none := by unfold ckR; rw [c1, c2, if_pos rfl, if_pos rfl]
      rw [e] at q
      obtain ⟨s, rfl⟩ := sight_of c1
      obtain ⟨t, rfl⟩ := sight_of c2
      obtain ⟨a, rfl, ha⟩ := h1.sg
      obtain ⟨b, rfl, hb⟩ := h2.sg
      exact ⟨a, b, s, t, rfl, rfl, ha, hb, q⟩
section
variable {P : Program} {w : World} {K : PySem.W.Frag} {mg : Str → Option Value} {base : Heap} {CV CL : Addr}
theorem ok_between {f : Addr} {fd : FuncData} (D_check_sights : Def P w K mg base (L2.CX P w) 4 "_check_sights" nTwo (spCheck CV)) (D_btw : Def P w K mg base CX0 1 "_between" nTwo spBtw) (F : Fun K "between" "between" sBetween f fd) :
    FnOk P w K mg base (L2.CX P w) 5 f fd nTwo (spR CV CL isTwo (twoR btwD)) := by
  refine F.okX scBetween (fun vs H Q E h => ?_) (fun cdv A outer s H vs Q E hr h => ?_)
  · obtain ⟨x, y, dx, dy, rfl, _⟩ := two_cases h
    rfl
  · obtain ⟨x, y, dx, dy, rfl, hx, hy, e1, e2, q⟩ := two_cases h
    refine ⟨_, (pss_cons (ps_expr (pe_def D_check_sights (hr.mono (by decide)) rfl (passes_call (takes_of rfl rfl rfl rfl) (fun _ _ _ _ h => h)) (pa_cons (pv 0) (pa_cons (pv 1) pa_nil))))
 (pss_one (ps_ret (pe_def D_btw (hr.mono (by decide)) rfl pass0 (pa_cons (pv 0) (pa_cons (pv 1) pa_nil)))))), ?_⟩
    refine ⟨_, rfl, _, rfl, x, y, dx, dy, rfl, hx, hy, fun c1 c2 => ?_, e1, e2⟩
    obtain ⟨a, b, s, t, rfl, rfl, ha, hb, q⟩ := q c1 c2
    refine ⟨_, rfl, _, rfl, a, b, s, t, rfl, ha, hb, fun e => q _ _ (fun _ _ h => h) ?_, fun c w g e p np => q _ _ (same_new np) ?_⟩
    · unfold btwD; rw [e]; exact .non
    · unfold btwD; rw [e]; exact .tup upd_same (.cons (.int _) (.cons (.int _) (.cons (.int _) .nil)))
theorem ok_most {f : Addr} {fd : FuncData} (D_check_sights : Def P w K mg base (L2.CX P w) 4 "_check_sights" nTwo (spCheck CV)) (D_btw : Def P w K mg base CX0 1 "_between" nTwo spBtw) (F : Fun K "most_at_once" "most_at_once" sMost f fd) :
    FnOk P w K mg base (L2.CX P w) 5 f fd nTwo (spR CV CL isTwo (twoR mostD)) := by
  have nd := scMost.nd
  refine F.okX scMost (fun vs H Q E h => ?_) (fun cdv A outer s H vs Q E hr h => ?_)
  · obtain ⟨x, y, dx, dy, rfl, _⟩ := two_cases h
    rfl
  · obtain ⟨x, y, dx, dy, rfl, hx, hy, e1, e2, q⟩ := two_cases h
    refine ⟨_, (pss_cons (ps_expr (pe_def D_check_sights (hr.mono (by decide)) rfl (passes_call (takes_of rfl rfl rfl rfl) (fun _ _ _ _ h => h)) (pa_cons (pv 0) (pa_cons (pv 1) pa_nil))))
 (pss_cons (ps_set (i := 2) nd rfl (Or.inl rfl) (pe_def D_btw (hr.mono (by decide)) rfl pass0 (pa_cons (pv 0) (pa_cons (pv 1) pa_nil))))
 (pss_cons (ps_if (pt_cmpR op_isN (pv 2) pe_non (nomark _))
  (pss_one (ps_ret pe_non))
  pss_nil)
 (pss_one (ps_ret (pe_op op_add (pe_ix (ix_tupK (K := K) rfl) (pv 0) pe_int (fun _ _ => rfl)) (pe_ix (ix_tupK (K := K) rfl) (pv 2) pe_int (fun _ _ => rfl)))))))), ?_⟩
    refine ⟨_, rfl, _, rfl, x, y, dx, dy, rfl, hx, hy, fun c1 c2 => ?_, e1, e2⟩
    obtain ⟨a, b, s, t, rfl, rfl, ha, hb, q⟩ := q c1 c2
    refine ⟨_, rfl, _, rfl, a, b, s, t, rfl, ha, hb, fun e => ⟨_, rfl, rfl, _, rfl, itbT rfl (q _ _ (fun _ _ h => h) ?_)⟩, fun c w g e p np => ⟨_, rfl, rfl, _, rfl, itbF rfl ?_⟩⟩
    · unfold mostD; rw [e]; exact .non
    · refine ⟨_, rfl, a, _, 1, .int s.c, rfl, rfl, st (same_new np _ _ ha), atI_nat (j := 1) rfl, _, rfl, p, _, 0, .int c, rfl, rfl, st upd_same, atI_nat (j := 0) rfl, _, _, rfl, rfl, q _ _ (same_new np) ?_⟩
      unfold mostD; rw [e]; exact .int _
theorem ok_few {f : Addr} {fd : FuncData} (T : Bj mg) (D_check_sights : Def P w K mg base (L2.CX P w) 4 "_check_sights" nTwo (spCheck CV)) (D_btw : Def P w K mg base CX0 1 "_between" nTwo spBtw) (F : Fun K "fewest_at_once" "fewest_at_once" sFew f fd) :
    FnOk P w K mg base (L2.CX P w) 5 f fd nTwo (spR CV CL isTwo (twoR fewD)) := by
  have nd := scFew.nd
  refine F.okX scFew (fun vs H Q E h => ?_) (fun cdv A outer s H vs Q E hr h => ?_)
  · obtain ⟨x, y, dx, dy, rfl, _⟩ := two_cases h
    rfl
  · obtain ⟨x, y, dx, dy, rfl, hx, hy, e1, e2, q⟩ := two_cases h
    refine ⟨_, (pss_cons (ps_expr (pe_def D_check_sights (hr.mono (by decide)) rfl (passes_call (takes_of rfl rfl rfl rfl) (fun _ _ _ _ h => h)) (pa_cons (pv 0) (pa_cons (pv 1) pa_nil))))
 (pss_cons (ps_set (i := 2) nd rfl (Or.inl rfl) (pe_def D_btw (hr.mono (by decide)) rfl pass0 (pa_cons (pv 0) (pa_cons (pv 1) pa_nil))))
 (pss_cons (ps_if (pt_cmpR op_isN (pv 2) pe_non (nomark _))
  (pss_one (ps_ret pe_non))
  pss_nil)
 (pss_one (ps_ret (pe_callB (call_max2 rfl) (by rfl) T.max PyProof.Rows.boot_max (pa_cons (pe_op op_sub (pe_ix (ix_tupK (K := K) rfl) (pv 0) pe_int (fun _ _ => rfl)) (pe_ix (ix_tupK (K := K) rfl) (pv 2) pe_int (fun _ _ => rfl))) (pa_cons pe_int pa_nil)))))))), ?_⟩
    refine ⟨_, rfl, _, rfl, x, y, dx, dy, rfl, hx, hy, fun c1 c2 => ?_, e1, e2⟩
    obtain ⟨a, b, s, t, rfl, rfl, ha, hb, q⟩ := q c1 c2
    refine ⟨_, rfl, _, rfl, a, b, s, t, rfl, ha, hb, fun e => ⟨_, rfl, rfl, _, rfl, itbT rfl (q _ _ (fun _ _ h => h) ?_)⟩, fun c w g e p np => ⟨_, rfl, rfl, _, rfl, itbF rfl ?_⟩⟩
    · unfold fewD; rw [e]; exact .non
    · refine ⟨_, rfl, a, _, 1, .int s.c, rfl, rfl, st (same_new np _ _ ha), atI_nat (j := 1) rfl, _, rfl, p, _, 1, .int w, rfl, rfl, st upd_same, atI_nat (j := 1) rfl, _, _, rfl, rfl, _, _, rfl, q _ _ (same_new np) ?_⟩
      unfold fewD; rw [e]; exact .int _
theorem def_between (D_check_sights : Def P w K mg base (L2.CX P w) 4 "_check_sights" nTwo (spCheck CV)) (D_btw : Def P w K mg base CX0 1 "_between" nTwo spBtw) (a : At K mg "between" sBetween) : Def P w K mg base (L2.CX P w) 5 "between" nTwo (spR CV CL isTwo (twoR btwD)) :=
  a.def (fun _ _ _ _ _ _ us hl => match us, hl with | [_, _], _ => rfl) fun f fd F => ok_between D_check_sights D_btw F
theorem def_most (D_check_sights : Def P w K mg base (L2.CX P w) 4 "_check_sights" nTwo (spCheck CV)) (D_btw : Def P w K mg base CX0 1 "_between" nTwo spBtw) (a : At K mg "most_at_once" sMost) : Def P w K mg base (L2.CX P w) 5 "most_at_once" nTwo (spR CV CL isTwo (twoR mostD)) :=
  a.def (fun _ _ _ _ _ _ us hl => match us, hl with | [_, _], _ => rfl) fun f fd F => ok_most D_check_sights D_btw F
theorem def_few (T : Bj mg) (D_check_sights : Def P w K mg base (L2.CX P w) 4 "_check_sights" nTwo (spCheck CV)) (D_btw : Def P w K mg base CX0 1 "_between" nTwo spBtw) (a : At K mg "fewest_at_once" sFew) : Def P w K mg base (L2.CX P w) 5 "fewest_at_once" nTwo (spR CV CL isTwo (twoR fewD)) :=
  a.def (fun _ _ _ _ _ _ us hl => match us, hl with | [_, _], _ => rfl) fun f fd F => ok_few T D_check_sights D_btw F
end
end K1


set_option Elab.async false
set_option linter.all false
set_option maxRecDepth 100000
set_option maxHeartbeats 4000000
namespace K1
open PySem PySem.Spec PyProof.Rows L2 RZ
/-! ### walks of the dict -/
theorem walk_itemsT {d : Addr} {o : Obj} {kvs : List (List L2.Key × V)} : Walk (ItiT d o kvs) kvs.length (fun H => H d = some (.frz o (.dT kvs)))
    (fun i H x H' => ∃ (T q : Addr) (k : List L2.Key) (v : V), kvs[i]? = some (k, v) ∧ H q = some (.tup (k.map kV)) ∧ x = .ref T ∧ H T = none ∧ H' = upd H T (.tup [.ref q, v])) :=
  ⟨fun _ _ lt q => ⟨q, lt⟩, fun _ q => ⟨q, Nat.le_refl _⟩, fun _ _ _ _ _ _ y => y⟩
theorem dcT_it {J : It} {n : Nat} {Gd : Hp → Prop} {Y : Nat → Hp → V → Hp → Prop} (wk : Walk J n Gd Y) {g : TG} {tt : TT} {tk tv : TE} {vs : List Nat} {σ : L2.St} {G0 : Hp} {D : Addr} {Qd : Hp → Prop} (Pv : Nat → Hp → Prop) (p0 : Pv 0 (upd G0 D (.dT []))) (pG : ∀ i G, i ≤ n → Pv i G → Gd G)
    (ps : ∀ i x G G', i < n → Pv i G → Y i G x G' → turnT g tt tk tv vs σ D (Pv (i + 1)) x G') (pd : ∀ G, Pv n G → Qd G) :
    ∃ W : Nat → Nat → Hp → Prop, (∃ m, W 0 m (upd G0 D (.dT []))) ∧ ∀ i m G1, W i m G1 → (J.stop i G1 ∧ Qd G1) ∨ (J.go i G1 ∧ ∃ Nx : Hp → Prop, (∀ G', Nx G' → ∃ m', m' < m ∧ W (i + 1) m' G') ∧ ∀ x G', J.yld i G1 x G' → turnT g tt tk tv vs σ D Nx x G') := by
  refine ⟨fun j k G => k = n - j ∧ j ≤ n ∧ Pv j G, ⟨n, (by simp), Nat.zero_le _, p0⟩, ?_⟩
  rintro j k G ⟨rfl, jn, pj⟩
  have gd := pG j G jn pj
  by_cases lt : j < n
  · exact .inr ⟨wk.goes j G lt gd, Pv (j + 1), fun G' pj' => ⟨n - (j + 1), by omega, rfl, lt, pj'⟩, fun x G' y => ps j x G G' lt pj (wk.yields j G x G' lt gd y)⟩
  · obtain rfl : j = n := by omega
    exact .inl ⟨wk.stops G gd, pd G pj⟩
theorem op_leSame : True := trivial
abbrev sInc : Stmt := st__increase
abbrev nInc : List Str := ["table", "key", "many"]
theorem scInc : FnScope nInc nInc (defScope sInc) := ⟨rfl, rfl, rfl, by decide +kernel, rfl, by decide +kernel, by decide +kernel⟩
def spInc : Sp := fun vs H Q _ => ∃ (a b : Addr) (t : Tab) (p : PK) (n : Int), vs = [.ref a, .ref b, .int n] ∧ H a = some (.dT (kvP t)) ∧ H b = some (.tup [.int p.1, .int p.2]) ∧ t.length ≤ 100000 ∧ Q .non (upd H a (.dT (kvP (incP t p n))))
theorem getD_kvP (t : Tab) (p : PK) : (valV (kvP t) (kkP p)).getD (.int 0) = .int (valP t p) := by
  rw [valV_kvP]
  unfold valP
  cases getP t p <;> rfl
/-- the names of kinds -/
structure Cs (mg : Str → Option Value) : Prop where
  MOST_SIGNS : ∃ t, mg "MOST_SIGNS" = some (.int 6 t)
  MOST_MARKS : ∃ t, mg "MOST_MARKS" = some (.int 60 t)
def waysD (s t : Sg) (k : Int) : Res := match btw s t with
  | none => .ok (.int 0)
  | some (c, w, g) => if 60 < t.m - s.m then .er (.lim 60) else .ok (.int (Rw (2 ^ k.toNat) s.c c w (c + w + g).toNat c w))
def sgnOk (d : PyData) : Bool := isInt d && (decide (0 ≤ dI d) && decide (dI d ≤ 6))
def waysR : List PyData → Res
  | [dx, dy, ds] => match ckR dx dy with
    | some e => .er e
    | none => if sgnOk ds = true then waysD (sgOf dx) (sgOf dy) (dI ds) else .er (.why "s")
  | _ => .ok .none
def waysOk : List PyData → Prop
  | [dx, _, _] => sightB dx = true → (sgOf dx).c ≤ 1000
  | _ => False
theorem btw_some {s t : Sg} {c w g : Int} (h : btw s t = some (c, w, g)) : 0 ≤ c ∧ 0 ≤ w ∧ 0 ≤ g ∧ c + w + g = t.m - s.m := by
  unfold btw at h
  by_cases c1 : s.a ≠ t.a ∨ came s t < 0 ∨ went s t < 0 ∨ chgd s t < 0
  · rw [if_pos c1] at h; cases h
  · rw [if_neg c1] at h
    by_cases c2 : chgd s t ≠ 0 ∧ s.c = 0 ∧ came s t = 0
    · rw [if_pos c2] at h; cases h
    · rw [if_neg c2] at h
      have := Option.some.inj h
      obtain ⟨e1, e2⟩ := Prod.mk.inj this
      obtain ⟨e2, e3⟩ := Prod.mk.inj e2
      have e3' : chgd s t = t.m - s.m - came s t - went s t := rfl
      omega
theorem sight_c {s : Sg} (h : sightB (sgD s) = true) : 0 ≤ s.c := by
  have h : (isNum (.int s.a) && (isInt (.int s.c) && (isNum (.int s.n) && (isMark (.int s.m) && ((decide (0 ≤ s.c) && decide (s.c < s.n)) && (!decide (s.m < 2 * (s.n - 1) - s.c) && (decide (1 < s.n) || decide (s.m = 0)))))))) = true := h
  simp only [Bool.and_eq_true] at h
  exact of_decide_eq_true h.2.2.2.2.1.1
theorem kvP_app_len (t : Tab) : (kvP t).length = t.length := kvP_len t
theorem pow_small {j : Nat} (h : j ≤ 6) : (0 : Int) ≤ 1 * 2 ^ j ∧ (1 : Int) * 2 ^ j ≤ 64 := by
  rcases (by omega : j = 0 ∨ j = 1 ∨ j = 2 ∨ j = 3 ∨ j = 4 ∨ j = 5 ∨ j = 6) with rfl | rfl | rfl | rfl | rfl | rfl | rfl <;> decide
theorem mem_keys {t : Tab} {i : Nat} {e : PK × Int} (h : t[i]? = some e) : e.1 ∈ keysP t := List.mem_map_of_mem (List.mem_of_getElem? h)
abbrev sWays : Stmt := st_ways
abbrev nWays : List Str := ["one", "other", "s", "numbers", "came", "went", "changed", "sets", "rows", "_", "longer", "comes", "goes", "many", "there", "key"]
abbrev pWays : List Str := ["one", "other", "s"]
theorem scWays : FnScope nWays pWays (defScope sWays) := ⟨rfl, rfl, rfl, by decide +kernel, rfl, by decide +kernel, by decide +kernel⟩
section
variable {P : Program} {w : World} {K : PySem.W.Frag} {mg : Str → Option Value} {base : Heap} {CV CL fV fL : Addr}
theorem ok_inc {f : Addr} {fd : FuncData} (F : Fun K "_increase" "_increase" sInc f fd) : FnOk P w K mg base CX0 1 f fd nInc spInc := by
  refine F.ok scInc (fun vs H Q E h => ?_) (fun cdv A outer s H vs Q E hr h => ?_)
  · obtain ⟨a, b, t, p, n, rfl, _⟩ := h
    rfl
  · obtain ⟨a, b, t, p, n, rfl, ha, hb, hl, q⟩ := h
    have hb : H b = some (.tup ((kkP p).map kV)) := hb
    refine ⟨_, (pss_one (ps_dput (hu_of hr) (pv 0) (pv 1) (pe_op op_add (pe_dget2 (hu_of hr) (pv 0) (pv 1) pe_int ⟨rfl, rfl, rfl, rfl⟩) (pv 2)) rfl)), ?_⟩
    refine ⟨_, rfl, a, rfl, .inr ⟨_, .inl ha⟩, _, rfl, _, DGet.t ha hb, _, rfl, _, _, getD_kvP t p, rfl, _, rfl, _, rfl, a, _, rfl, DPut.t ha hb ?_, ?_⟩
    · rw [kvP_len]; exact Nat.lt_of_le_of_lt hl (by decide)
    · rw [putK_kvP]; exact q
theorem def_inc (a : At K mg "_increase" sInc) : Def P w K mg base CX0 1 "_increase" nInc spInc :=
  a.def (fun _ _ _ _ _ _ us hl => match us, hl with | [_, _, _], _ => rfl) fun f fd F => ok_inc F
set_option maxHeartbeats 8000000 in
theorem ok_ways {f : Addr} {fd : FuncData} (T : Bj mg) (C : Cs mg) (TV : PySem.Tide.TideTxt P K mg "BadValue" CV fV "why") (TL : PySem.Tide.TideTxt P K mg "TooLarge" CL fL "limit") (D_is_integer : Def P w K mg base CX0 1 "is_integer" pV (spB1 isInt))
    (D_check_sights : Def P w K mg base (L2.CX P w) 4 "_check_sights" nTwo (spCheck CV)) (D_btw : Def P w K mg base CX0 1 "_between" nTwo spBtw) (D_increase : Def P w K mg base CX0 1 "_increase" nInc spInc) (F : Fun K "ways" "ways" sWays f fd) :
    FnOk P w K mg base (L2.CX P w) 5 f fd pWays (spR CV CL waysOk waysR) := by
  have nd := scWays.nd
  have split : ∀ {vs : List V} {H : Hp} {Q : VK} {E : XK}, spR CV CL waysOk waysR vs H Q E → ∃ x y z dx dy dz, vs = [x, y, z] ∧ Dv H x dx ∧ Dv H y dy ∧ Dv H z dz ∧ waysOk [dx, dy, dz] ∧ Ends1 CV CL H Q E (waysR [dx, dy, dz]) := by
    rintro vs H Q E ⟨ds, hA, ok, q⟩
    match ds, vs, hA, ok with
    | [], _, _, ok => exact ok.elim
    | [_], _, _, ok => exact ok.elim
    | [_, _], _, _, ok => exact ok.elim
    | [dx, dy, dz], _, .cons h1 (.cons h2 (.cons h3 .nil)), ok => exact ⟨_, _, _, _, _, _, rfl, h1, h2, h3, ok, q⟩
    | _ :: _ :: _ :: _ :: _, _, _, ok => exact ok.elim
  refine F.okX scWays (fun vs H Q E h => ?_) (fun cdv A outer s0 H vs Q E hr h => ?_)
  · obtain ⟨x, y, z, dx, dy, dz, rfl, _⟩ := split h
    rfl
  · obtain ⟨x, y, z, dx, dy, dz, rfl, hx, hy, hz, ok, q⟩ := split h
    refine ⟨_, (pss_cons (ps_expr (pe_def D_check_sights (hr.mono (by decide)) rfl (passes_call (takes_of rfl rfl rfl rfl) (fun _ _ _ _ h => h)) (pa_cons (pv 0) (pa_cons (pv 1) pa_nil))))
 (pss_cons (ps_if (PW.pt (pw_or (pt_not (pt_val (pe_def D_is_integer (hr.mono (by decide)) rfl pass0 (pa_cons (pv 2) pa_nil)))) (pw_or1 (pt_not (pt_chain op_le op_le pe_int (pv 2) (pe_const C.MOST_SIGNS rfl))))))
  (pss_one (ps_raiseTide rfl TV hr (takes_of rfl rfl rfl rfl) (pa_cons pe_str pa_nil)))
  pss_nil)
 (pss_cons (ps_set (i := 3) nd rfl (Or.inl rfl) (pe_def D_btw (hr.mono (by decide)) rfl pass0 (pa_cons (pv 0) (pa_cons (pv 1) pa_nil))))
 (pss_cons (ps_if (pt_cmpR op_isN (pv 3) pe_non (nomark _))
  (pss_one (ps_ret pe_int))
  pss_nil)
 (pss_cons (ps_if (pt_cmpR op_gt (pe_op op_sub (pe_ix (ix_tupK (K := K) rfl) (pv 1) pe_int (fun _ _ => rfl)) (pe_ix (ix_tupK (K := K) rfl) (pv 0) pe_int (fun _ _ => rfl))) (pe_const C.MOST_MARKS rfl) (nomark _))
  (pss_one (ps_raiseTide rfl TL hr (takes_of rfl rfl rfl rfl) (pa_cons (pe_const C.MOST_MARKS rfl) pa_nil)))
  pss_nil)
 (pss_cons (ps_asg (pv 3) (pg_tup rfl (pgs_cons (pg_name (i := 4) nd rfl (Or.inr rfl)) (pgs_cons (pg_name (i := 5) nd rfl (Or.inr rfl)) (pgs_cons (pg_name (i := 6) nd rfl (Or.inl rfl)) pgs_nil)))))
 (pss_cons (ps_set (i := 7) nd rfl (Or.inl rfl) (pe_op op_shl pe_int (pv 2)))
 (pss_cons (ps_set (i := 8) nd rfl (Or.inl rfl) (pe_disp1T (Nat.lt_of_succ_lt (hu_of hr)) (pe_tup (pa_cons pe_int (pa_cons pe_int pa_nil))) pe_int))
 (C8.pss_cut (ps_for (passes_of rfl) rfl (pi_range1 rfl T.range (pa_cons (pe_op op_add (pe_op op_add (pv 4) (pv 5)) (pv 6)) pa_nil)) (pg_name (i := 9) nd rfl (Or.inl rfl))
  (pss_cons (ps_set (i := 10) nd rfl (Or.inr rfl) pe_dnewT)
  (C8.pss_cut (ps_lock (ps_for (passes_of rfl) rfl (pi_itemsT (pv 8)) (pg_tup rfl (pgs_cons (pg_tup rfl (pgs_cons (pg_name (i := 11) nd rfl (Or.inl rfl)) (pgs_cons (pg_name (i := 12) nd rfl (Or.inl rfl)) pgs_nil))) (pgs_cons (pg_name (i := 13) nd rfl (Or.inl rfl)) pgs_nil)))
    (pss_cons (ps_set (i := 14) nd rfl (Or.inl rfl) (pe_op op_sub (pe_op op_add (pe_ix (ix_tupK (K := K) rfl) (pv 0) pe_int (fun _ _ => rfl)) (pv 11)) (pv 12)))
    (pss_cons (ps_expr (pe_def D_increase (hr.mono (by decide)) rfl pass0 (pa_cons (pv 10) (pa_cons (pe_tup (pa_cons (pe_op op_add (pv 11) pe_int) (pa_cons (pv 12) pa_nil))) (pa_cons (pe_op op_mul (pv 13) (pv 7)) pa_nil)))))
    (pss_cons (ps_expr (pe_def D_increase (hr.mono (by decide)) rfl pass0 (pa_cons (pv 10) (pa_cons (pe_tup (pa_cons (pv 11) (pa_cons (pe_op op_add (pv 12) pe_int) pa_nil))) (pa_cons (pe_op op_mul (pv 13) (pv 14)) pa_nil)))))
    (pss_one (ps_expr (pe_def D_increase (hr.mono (by decide)) rfl pass0 (pa_cons (pv 10) (pa_cons (pe_tup (pa_cons (pv 11) (pa_cons (pv 12) pa_nil))) (pa_cons (pe_op op_mul (pe_op op_mul (pv 13) (pv 14)) (pe_op op_sub (pv 7) pe_int)) pa_nil)))))))))))
  (pss_one (ps_lock (ps_setDcT (i := 8) (own := [("key", 15)]) (g := gName 15) (Nat.lt_of_succ_lt (hu_of hr)) rfl nd rfl rfl (sw_trueD rfl rfl rfl (by decide +kernel)) (pi_keys (pv 10)) (blkOk_by (own := [("key", 15)]) (N := nWays) (sc := defScope sWays) (by decide +kernel)) (fun _ _ _ _ _ => pg_name (i := 15) nd rfl (Or.inl rfl))
    (fun _ _ _ _ _ => pts_one (PW.pt (pw_and (pt_cmpR op_le (pe_ix (ix_tupK (K := K) rfl) (pv 15) pe_int (fun _ _ => rfl)) (pv 4) (nomark _)) (pw_and1 (pt_cmpR op_le (pe_ix (ix_tupK (K := K) rfl) (pv 15) pe_int (fun _ _ => rfl)) (pv 5) (nomark _))))))
    (fun _ _ _ _ _ => pv 15) (fun _ _ _ _ _ => pe_dget (hu_of hr) (pv 10) (pv 15) (fun _ _ => rfl))))))))
 (pss_one (ps_ret (pe_dget2 (hu_of hr) (pv 8) (pe_tup (pa_cons (pv 4) (pa_cons (pv 5) pa_nil))) pe_int ⟨rfl, rfl, rfl, rfl⟩)))))))))))), ?_⟩
    have eW : waysR [dx, dy, dz] = (match ckR dx dy with | some e => .er e | none => if sgnOk dz = true then waysD (sgOf dx) (sgOf dy) (dI dz) else .er (.why "s")) := rfl
    rw [eW] at q
    refine ⟨_, rfl, _, rfl, x, y, dx, dy, rfl, hx, hy, fun c1 c2 => ?_, fun c => ?_, fun c1 c2 => ?_⟩
    rotate_left
    · have e : ckR dx dy = some (.why "one") := by unfold ckR; rw [c, if_neg Bool.false_ne_true]
      rw [e] at q
      exact q
    · have e : ckR dx dy = some (.why "other") := by unfold ckR; rw [c1, c2, if_pos rfl, if_neg Bool.false_ne_true]
      rw [e] at q
      exact q
    have e : ckR dx dy = none := by unfold ckR; rw [c1, c2, if_pos rfl, if_pos rfl]
    rw [e] at q
    have q : Ends1 CV CL H Q E (if sgnOk dz = true then waysD (sgOf dx) (sgOf dy) (dI dz) else .er (.why "s")) := q
    have small : (sgOf dx).c ≤ 1000 := ok c1
    obtain ⟨s, rfl⟩ := sight_of c1
    obtain ⟨t, rfl⟩ := sight_of c2
    obtain ⟨a, rfl, ha⟩ := hx.sg
    obtain ⟨b, rfl, hb⟩ := hy.sg
    rw [sgOf_sgD] at small
    rw [sgOf_sgD, sgOf_sgD] at q
    have big0 := sight_c c1
    refine ⟨_, rfl, z, dz, rfl, hz, _, rfl, ?_⟩
    by_cases n1 : isInt dz = true
    rotate_left
    · have n1' : isInt dz = false := by simpa using n1
      have e : sgnOk dz = false := by unfold sgnOk; rw [n1']; rfl
      rw [e, if_neg Bool.false_ne_true] at q
      exact itbT (by rw [n1']; rfl) (itbT rfl ⟨_, rfl, fun dd nd => q dd _ (same_new nd) upd_same⟩)
    obtain ⟨k, rfl⟩ := intB n1
    obtain rfl := hz.intV
    refine itbF rfl ⟨_, rfl, _, _, rfl, rfl, _, rfl, ?_⟩
    by_cases k0 : 0 ≤ k
    rotate_left
    · have e : sgnOk (.int k) = false := by show (true && (decide (0 ≤ k) && _)) = false; rw [decide_eq_false k0]; rfl
      rw [e, if_neg Bool.false_ne_true] at q
      exact itbF (decide_eq_false k0) ⟨_, rfl, itbT rfl ⟨_, rfl, fun dd nd => q dd _ (same_new nd) upd_same⟩⟩
    refine itbT (decide_eq_true k0) ⟨_, _, rfl, rfl, _, rfl, ?_⟩
    by_cases k6 : k ≤ 6
    rotate_left
    · have e : sgnOk (.int k) = false := by show (true && (decide (0 ≤ k) && decide (k ≤ 6))) = false; rw [decide_eq_false k6, Bool.and_false, Bool.and_false]
      rw [e, if_neg Bool.false_ne_true] at q
      exact itbT (by rw [decide_eq_false k6]; rfl) ⟨_, rfl, fun dd nd => q dd _ (same_new nd) upd_same⟩
    have e6 : sgnOk (.int k) = true := by show (true && (decide (0 ≤ k) && decide (k ≤ 6))) = true; rw [decide_eq_true k0, decide_eq_true k6]; rfl
    rw [e6, if_pos rfl] at q
    have q : Ends1 CV CL H Q E (waysD s t k) := q
    unfold waysD at q
    refine itbF (by rw [decide_eq_true k6]; rfl) ⟨_, rfl, _, rfl, a, b, s, t, rfl, ha, hb, fun e => ?_, fun c w' g e p np => ?_⟩
    · rw [e] at q
      exact ⟨_, rfl, rfl, _, rfl, itbT rfl (q _ _ (fun _ _ h => h) (.int 0))⟩
    rw [e] at q
    obtain ⟨c0, w0, g0, sum⟩ := btw_some e
    have q : Ends1 CV CL H Q E (if 60 < t.m - s.m then .er (.lim 60) else .ok (.int (Rw (2 ^ k.toNat) s.c c w' (c + w' + g).toNat c w'))) := q
    have s1 := same_new (o := .tup [.int c, .int w', .int g]) np
    refine ⟨_, rfl, rfl, _, rfl, itbF rfl ⟨_, rfl, b, _, 3, .int t.m, rfl, rfl, st (s1 _ _ hb), atI_nat (j := 3) rfl, _, rfl, a, _, 3, .int s.m, rfl, rfl, st (s1 _ _ ha), atI_nat (j := 3) rfl, _, _, rfl, rfl, _, _, rfl, rfl, _, rfl, ?_⟩⟩
    by_cases big : 60 < t.m - s.m
    · rw [if_pos big] at q
      exact itbT (decide_eq_true big) ⟨_, rfl, fun dd nd => q dd _ (s1.new nd) upd_same⟩
    rw [if_neg big] at q
    have q : ∀ v H', Same H H' → Dv H' v (.int (Rw (2 ^ k.toNat) s.c c w' (c + w' + g).toNat c w')) → Q v H' := q
    have eS : (1 : Int) * 2 ^ k.toNat = 2 ^ k.toNat := Int.one_mul _
    rw [← eS] at q
    have hS := pow_small (j := k.toNat) (by omega)
    refine itbF (decide_eq_false big) ⟨_, rfl, p, _, rfl, st upd_same, rfl, _, _, rfl, _, _, rfl, _, _, rfl, rfl, ?_⟩
    refine ⟨_, rfl, _, _, rfl, rfl, ⟨k0, by omega, by decide⟩, fun R nR => ⟨(by show 2 ≤ sizeLine; decide), fun T nT => ?_⟩⟩
    have ap : R ≠ T := fun z => by rw [← z, upd_same] at nT; cases nT
    refine ⟨kkP (0, 0), T, .int 1, rfl, by rw [upd_ne ap]; exact upd_same, upd_same, ?_⟩
    have hRn : H R = none := s1.free nR
    have s2 := (s1.new (o := .dT []) nR).new (o := .tup [.int 0, .int 0]) nT
    have s3 := s2.mut (o := .dT [(kkP (0, 0), V.int 1)]) hRn
    generalize hG0 : upd (upd (upd (upd H p (.tup [.int c, .int w', .int g])) R (.dT [])) T (.tup [.int 0, .int 0])) R (.dT [(kkP (0, 0), V.int 1)]) = G0 at s3
    have hR0 : G0 R = some (.dT (kvP t0)) := by rw [← hG0]; exact upd_same
    refine ⟨fun σ G => ∃ (R : Addr) (t' : Tab) (v9 v10 v11 v12 v13 v14 : Option V), σ = [some (.ref a), some (.ref b), some (.int k), some (.ref p), some (.int c), some (.int w'), some (.int g), some (.int (1 * 2 ^ k.toNat)), some (.ref R), v9, v10, v11, v12, v13, v14, none] ∧ Same H G ∧ H R = none ∧
      G R = some (.dT (kvP t')) ∧ GoodT (1 * 2 ^ k.toNat) s.c c w' (c + w' + g).toNat t', ?_, ?_⟩
    rotate_left
    · rintro σ G ⟨R', t', v9, v10, v11, v12, v13, v14, rfl, sG, nR', hR', good⟩
      refine ⟨_, rfl, R', rfl, .inr ⟨_, .inl hR'⟩, _, rfl, _, rfl, (by show 2 ≤ sizeLine; decide), fun U nU => ⟨_, DGet.t (k := kkP (c, w')) (same_new nU _ _ hR') upd_same, ?_⟩⟩
      rw [getD_kvP, good.val]
      exact q _ _ (sG.new nU) (.int _)
    refine ⟨_, rfl, _, rfl, _, _, rfl, rfl, _, rfl, _, _, rfl, rfl, _, rfl, by omega, by omega, for_range (lo := 0) (n := (c + w' + g).toNat) (fun i σ G => ∃ (R : Addr) (t' : Tab) (v9 v10 v11 v12 v13 v14 : Option V), σ = [some (.ref a), some (.ref b), some (.int k), some (.ref p), some (.int c), some (.int w'), some (.int g), some (.int (1 * 2 ^ k.toNat)), some (.ref R), v9, v10, v11, v12, v13, v14, none] ∧ Same H G ∧ H R = none ∧
      G R = some (.dT (kvP t')) ∧ GoodT (1 * 2 ^ k.toNat) s.c c w' i t') ⟨R, t0, none, none, none, none, none, none, rfl, s3, hRn, hR0, good0 c0 w0⟩ ?_ (fun _ _ h => h)⟩
    rintro i σ G hi ⟨R1, t1, v9, v10, v11, v12, v13, v14, rfl, sG, nR1, hR1, good⟩
    refine fun L nL => ?_
    have hLn : H L = none := sG.free nL
    have apL : R1 ≠ L := fun z => by rw [z, nL] at hR1; cases hR1
    have sL := sG.new (o := .dT []) nL
    have hR2 : (upd G L (.dT [])) R1 = some (.dT (kvP t1)) := by rw [upd_ne apL]; exact hR1
    have hL2 : (upd G L (.dT [])) L = some (.dT (kvP [])) := upd_same
    generalize upd G L (.dT []) = G1 at sL hR2 hL2
    refine ⟨fun σ G' => ∃ (v11 v12 v13 v14 : Option V), σ = [some (.ref a), some (.ref b), some (.int k), some (.ref p), some (.int c), some (.int w'), some (.int g), some (.int (1 * 2 ^ k.toNat)), some (.ref R1), some (.int (0 + (i : Int))), some (.ref L), v11, v12, v13, v14, none] ∧ Same H G' ∧ 
      G' L = some (.dT (kvP (t1.foldl (inc3 (1 * 2 ^ k.toNat) s.c) []))), ?_, ?_⟩
    · refine ⟨R1, .dT (kvP t1), hR2, trivial, fun od => ⟨_, rfl, R1, od, kvP t1, rfl, upd_same, for_it walk_itemsT (fun j σ G' => ∃ (v11 v12 v13 v14 : Option V), σ = [some (.ref a), some (.ref b), some (.int k), some (.ref p), some (.int c), some (.int w'), some (.int g), some (.int (1 * 2 ^ k.toNat)), some (.ref R1), some (.int (0 + (i : Int))), some (.ref L), v11, v12, v13, v14, none] ∧ Same H G' ∧
        G' R1 = some (.frz od (.dT (kvP t1))) ∧ G' L = some (.dT (kvP ((t1.take j).foldl (inc3 (1 * 2 ^ k.toNat) s.c) [])))) ⟨v11, v12, v13, v14, rfl, sL.mut nR1, upd_same, by rw [upd_ne apL.symm]; exact hL2⟩ (fun j σ G' _ ⟨_, _, _, _, _, _, h, _⟩ => h) ?_ ?_⟩⟩
      · rintro j x σ G' G'' hj ⟨u11, u12, u13, u14, rfl, sJ, fR, fL⟩ ⟨U, qq, kk, v, hk, hq, rfl, nU, rfl⟩
        obtain ⟨⟨⟨ec, eg⟩, en⟩, he, rfl, rfl⟩ := kvP_get hk
        have hj : j < t1.length := by rw [kvP_len] at hj; exact hj
        have hm : (ec, eg) ∈ keysP t1 := mem_keys he
        obtain ⟨lo1, lo2⟩ := good.lo _ hm
        obtain ⟨hi1, hi2⟩ := good.hi _ hm
        have lo1 : 0 ≤ ec := lo1
        have lo2 : 0 ≤ eg := lo2
        have hi1 : ec ≤ c := hi1
        have hi2 : eg ≤ w' := hi2
        have hq : G' qq = some (.tup [.int ec, .int eg]) := hq
        have len1 : ((t1.take j).foldl (inc3 (1 * 2 ^ k.toNat) s.c) []).length ≤ 20000 := by
          have h1 := fold_len (1 * 2 ^ k.toNat) s.c (t1.take j) []
          have h2 := good_len good (by omega) (by omega)
          have h3 : ([] : Tab).length = 0 := rfl
          rw [List.length_take] at h1
          omega
        have step : (t1.take (j + 1)).foldl (inc3 (1 * 2 ^ k.toNat) s.c) [] = inc3 (1 * 2 ^ k.toNat) s.c ((t1.take j).foldl (inc3 (1 * 2 ^ k.toNat) s.c) []) ((ec, eg), en) := by rw [take_more he, List.foldl_append]; rfl
        generalize (t1.take j).foldl (inc3 (1 * 2 ^ k.toNat) s.c) [] = lt at fL len1 step
        have n1 := sJ.new (o := .tup [.ref qq, .int en]) nU
        have fR1 : (upd G' U (.tup [.ref qq, .int en])) R1 = some (.frz od (.dT (kvP t1))) := same_new nU _ _ fR
        have fL1 : (upd G' U (.tup [.ref qq, .int en])) L = some (.dT (kvP lt)) := same_new nU _ _ fL
        refine ⟨U, _, rfl, st upd_same, rfl, .ref qq, _, rfl, qq, _, rfl, st (same_new nU _ _ hq), rfl, .int ec, _, rfl, .int eg, _, rfl, rfl, .int en, _, rfl, rfl, ?_⟩
        generalize upd G' U (.tup [.ref qq, .int en]) = A1 at n1 fR1 fL1
        refine ⟨_, rfl, a, _, 1, .int s.c, rfl, rfl, st (n1 _ _ ha), atI_nat (j := 1) rfl, _, rfl, _, _, rfl, rfl, _, rfl, _, _, rfl, rfl, ?_⟩
        refine ⟨_, rfl, _, rfl, _, _, rfl, rfl, _, rfl, (by show 2 ≤ sizeLine; decide), fun U1 nU1 => ⟨_, rfl, _, rfl, _, _, rfl, rfl, .inr ⟨by omega, by omega⟩, L, U1, lt, (ec + 1, eg), _, rfl, same_new nU1 _ _ fL1, upd_same, by omega, ?_⟩⟩
        have n2 := (n1.new (o := .tup [.int (ec + 1), .int eg]) nU1).mut (o := .dT (kvP (incP lt (ec + 1, eg) (en * (1 * 2 ^ k.toNat))))) hLn
        have fR2 : (upd (upd A1 U1 (.tup [.int (ec + 1), .int eg])) L (.dT (kvP (incP lt (ec + 1, eg) (en * (1 * 2 ^ k.toNat)))))) R1 = some (.frz od (.dT (kvP t1))) := by rw [upd_ne apL]; exact same_new nU1 _ _ fR1
        have fL2 : (upd (upd A1 U1 (.tup [.int (ec + 1), .int eg])) L (.dT (kvP (incP lt (ec + 1, eg) (en * (1 * 2 ^ k.toNat)))))) L = some (.dT (kvP (incP lt (ec + 1, eg) (en * (1 * 2 ^ k.toNat))))) := upd_same
        have len2 : (incP lt (ec + 1, eg) (en * (1 * 2 ^ k.toNat))).length ≤ 20001 := Nat.le_trans (len_put _ _ _) (by omega)
        refine ⟨_, rfl, _, rfl, _, rfl, _, _, rfl, rfl, (by show 2 ≤ sizeLine; decide), fun U2 nU2 => ⟨_, rfl, _, rfl, _, _, rfl, rfl, .inr ⟨by omega, by omega⟩, L, U2, incP lt (ec + 1, eg) (en * (1 * 2 ^ k.toNat)), (ec, eg + 1), _, rfl, same_new nU2 _ _ fL2, upd_same, by omega, ?_⟩⟩
        have n3 := (n2.new (o := .tup [.int ec, .int (eg + 1)]) nU2).mut (o := .dT (kvP (incP (incP lt (ec + 1, eg) (en * (1 * 2 ^ k.toNat))) (ec, eg + 1) (en * (s.c + ec - eg))))) hLn
        have fR3 := (show (upd (upd (upd (upd A1 U1 (.tup [.int (ec + 1), .int eg])) L (.dT (kvP (incP lt (ec + 1, eg) (en * (1 * 2 ^ k.toNat)))))) U2 (.tup [.int ec, .int (eg + 1)])) L (.dT (kvP (incP (incP lt (ec + 1, eg) (en * (1 * 2 ^ k.toNat))) (ec, eg + 1) (en * (s.c + ec - eg)))))) R1 = some (.frz od (.dT (kvP t1))) by rw [upd_ne apL]; exact same_new nU2 _ _ fR2)
        have fL3 := (show (upd (upd (upd (upd A1 U1 (.tup [.int (ec + 1), .int eg])) L (.dT (kvP (incP lt (ec + 1, eg) (en * (1 * 2 ^ k.toNat)))))) U2 (.tup [.int ec, .int (eg + 1)])) L (.dT (kvP (incP (incP lt (ec + 1, eg) (en * (1 * 2 ^ k.toNat))) (ec, eg + 1) (en * (s.c + ec - eg)))))) L = some (.dT (kvP (incP (incP lt (ec + 1, eg) (en * (1 * 2 ^ k.toNat))) (ec, eg + 1) (en * (s.c + ec - eg))))) from upd_same)
        have len3 : (incP (incP lt (ec + 1, eg) (en * (1 * 2 ^ k.toNat))) (ec, eg + 1) (en * (s.c + ec - eg))).length ≤ 20002 := Nat.le_trans (len_put _ _ _) (by omega)
        refine ⟨_, rfl, _, rfl, _, rfl, (by show 2 ≤ sizeLine; decide), fun U3 nU3 => ⟨_, rfl, _, rfl, _, _, rfl, rfl, .inr ⟨by omega, by omega⟩, _, rfl, _, _, rfl, rfl, _, _, rfl, rfl, .inr ⟨by omega, by omega⟩, L, U3, incP (incP lt (ec + 1, eg) (en * (1 * 2 ^ k.toNat))) (ec, eg + 1) (en * (s.c + ec - eg)), (ec, eg), _, rfl, same_new nU3 _ _ fL3, upd_same, by omega, ?_⟩⟩
        refine ⟨_, _, _, _, rfl, (n3.new nU3).mut hLn, by rw [upd_ne apL]; exact same_new nU3 _ _ fR3, ?_⟩
        rw [upd_same, step]
        rfl
      · rintro σ G' ⟨u11, u12, u13, u14, rfl, sJ, fR, fL⟩
        rw [kvP_len, List.take_length] at fL
        exact ⟨fR, u11, u12, u13, u14, rfl, sJ.mut nR1, by rw [upd_ne apL.symm]; exact fL⟩
    · rintro σ G' ⟨u11, u12, u13, u14, rfl, sJ, fL⟩
      have gstep := good_step good
      have nd2 := fold_nd (1 * 2 ^ k.toNat) s.c t1 [] List.nodup_nil
      have len2 : (t1.foldl (inc3 (1 * 2 ^ k.toNat) s.c) []).length ≤ 100000 := by
        have h1 := fold_len (1 * 2 ^ k.toNat) s.c t1 []
        have h2 := good_len good (by omega) (by omega)
        have h3 : ([] : Tab).length = 0 := rfl
        omega
      unfold stepP at gstep
      generalize t1.foldl (inc3 (1 * 2 ^ k.toNat) s.c) [] = lt at fL gstep nd2 len2
      refine ⟨L, .dT (kvP lt), fL, trivial, fun od => ⟨_, rfl, L, od, rfl, .inr ⟨kvP lt, upd_same, fun D nD => ?_⟩⟩⟩
      have sF := sJ.mut (o := .frz od (.dT (kvP lt))) hLn
      have nD0 : H D = none := sF.free nD
      have apD : D ≠ L := fun z => by rw [z, upd_same] at nD; cases nD
      refine dcT_it walk_keysT (fun j G'' => Same H G'' ∧ G'' L = some (.frz od (.dT (kvP lt))) ∧ G'' D = some (.dT (kvP (boxed c w' (lt.take j))))) ⟨sF.new nD, by rw [upd_ne apD.symm]; exact upd_same, upd_same⟩ (fun j G'' _ h => h.2.1) ?_ ?_
      · rintro j x G2 G3 hj ⟨sK, hL3, hD3⟩ ⟨rfl, kk, v, qq, hk, rfl, hq⟩
        obtain ⟨⟨⟨ec, eg⟩, en⟩, he, rfl, rfl⟩ := kvP_get hk
        have hq : G3 qq = some (.tup [.int ec, .int eg]) := hq
        have hl : (boxed c w' (lt.take j)).length ≤ 100000 := by
          have h1 : (boxed c w' (lt.take j)).length ≤ (lt.take j).length := List.length_filter_le _ _
          rw [List.length_take] at h1
          omega
        have tk := take_box (cm := c) (wt := w') nd2 he
        have get := mem_getP nd2 (List.mem_of_getElem? he)
        have yes : ec ≤ c → eg ≤ w' → boxB c w' (ec, eg) = true := fun z1 z2 => by
          show (decide (ec ≤ c) && decide (eg ≤ w')) = true
          rw [decide_eq_true z1, decide_eq_true z2]; rfl
        have no : ¬ (ec ≤ c ∧ eg ≤ w') → ¬ boxB c w' (ec, eg) = true := fun z y => z (by
          have y : (decide (ec ≤ c) && decide (eg ≤ w')) = true := y
          rw [Bool.and_eq_true] at y
          exact ⟨of_decide_eq_true y.1, of_decide_eq_true y.2⟩)
        have nope : ¬ (ec ≤ c ∧ eg ≤ w') → Same H G3 ∧ G3 L = some (.frz od (.dT (kvP lt))) ∧ G3 D = some (.dT (kvP (boxed c w' (lt.take (j + 1))))) := fun z => ⟨sK, hL3, by rw [tk, if_neg (no z)]; exact hD3⟩
        refine ⟨rfl, _, rfl, qq, _, 0, .int ec, rfl, rfl, st hq, atI_nat (j := 0) rfl, _, rfl, _, _, rfl, rfl, _, rfl, ?_⟩
        by_cases z1 : ec ≤ c
        · refine itbT (decide_eq_true z1) ⟨_, rfl, qq, _, 1, .int eg, rfl, rfl, st hq, atI_nat (j := 1) rfl, _, rfl, _, _, rfl, rfl, _, rfl, ?_⟩
          by_cases z2 : eg ≤ w'
          · refine itbT (decide_eq_true z2) ⟨_, rfl, _, rfl, _, rfl, L, .int en, rfl, .inr ⟨kvP lt, kkP (ec, eg), qq, .inr ⟨od, hL3⟩, rfl, hq, ?_⟩, kvP (boxed c w' (lt.take j)), kkP (ec, eg), qq, rfl, hq, hD3, ?_, ?_⟩
            · rw [valV_kvP, get]; rfl
            · rw [kvP_len]; exact Nat.lt_of_le_of_lt hl (by decide)
            · rw [putK_kvP, tk, if_pos (yes z1 z2)]
              exact ⟨sK.mut nD0, by rw [upd_ne apD.symm]; exact hL3, upd_same⟩
          · exact itbF (decide_eq_false z2) (nope fun h => z2 h.2)
        · exact itbF (decide_eq_false z1) (itbF rfl (nope fun h => z1 h.1))
      · rintro G'' ⟨sK, hL3, hD3⟩
        rw [kvP_len, List.take_length] at hD3
        exact ⟨hL3, D, boxed c w' lt, _, _, u11, u12, u13, u14, rfl, sK.mut hLn, nD0, by rw [upd_ne apD]; exact hD3, gstep⟩
theorem def_ways (T : Bj mg) (C : Cs mg) (TV : PySem.Tide.TideTxt P K mg "BadValue" CV fV "why") (TL : PySem.Tide.TideTxt P K mg "TooLarge" CL fL "limit") (D_is_integer : Def P w K mg base CX0 1 "is_integer" pV (spB1 isInt))
    (D_check_sights : Def P w K mg base (L2.CX P w) 4 "_check_sights" nTwo (spCheck CV)) (D_btw : Def P w K mg base CX0 1 "_between" nTwo spBtw) (D_increase : Def P w K mg base CX0 1 "_increase" nInc spInc) (a : At K mg "ways" sWays) :
    Def P w K mg base (L2.CX P w) 5 "ways" pWays (spR CV CL waysOk waysR) :=
  a.def (fun _ _ _ _ _ _ us hl => match us, hl with | [_, _, _], _ => rfl) fun f fd F => ok_ways T C TV TL D_is_integer D_check_sights D_btw D_increase F
end
end K1


set_option Elab.async false
set_option linter.all false
set_option maxRecDepth 100000
set_option maxHeartbeats 4000000
namespace K1
open PySem PySem.Spec PyProof.Rows L2 RZ
/-! ### the draws -/
abbrev sCell : Stmt := st__law_cell_at
abbrev sWell : Stmt := st__law_well
abbrev sDraw : Stmt := st__law_draw
abbrev sOne : Stmt := st__law_one
abbrev nCell : List Str := ["_law_script", "_law_k"]
theorem scCell : FnScope nCell nCell (defScope sCell) := ⟨rfl, rfl, rfl, by decide +kernel, rfl, by decide +kernel, by decide +kernel⟩
abbrev nWell : List Str := ["_law_cell"]
theorem scWell : FnScope nWell nWell (defScope sWell) := ⟨rfl, rfl, rfl, by decide +kernel, rfl, by decide +kernel, by decide +kernel⟩
abbrev nDraw : List Str := ["_law_well_here", "_law_many", "_law_found", "_law_salt", "_law_base", "_law_number"]
abbrev pDraw : List Str := ["_law_well_here", "_law_many"]
theorem scDraw : FnScope nDraw pDraw (defScope sDraw) := ⟨rfl, rfl, rfl, by decide +kernel, rfl, by decide +kernel, by decide +kernel⟩
abbrev nOne : List Str := ["_law_well_here", "_law_some"]
theorem scOne : FnScope nOne nOne (defScope sOne) := ⟨rfl, rfl, rfl, by decide +kernel, rfl, by decide +kernel, by decide +kernel⟩
/-- a well, at most k of whose draws are done by its number -/
def WellT (H : Hp) (p : Addr) (k : Nat) : Prop := ∃ c m t : Int, H p = some (.lst [.int c, .int m, .int t]) ∧ 0 ≤ t ∧ t ≤ k
theorem WellT.at {H : Hp} {p : Addr} {k : Nat} (w : WellT H p k) : WellAt H p := let ⟨c, m, t, e, _⟩ := w; ⟨c, m, t, e⟩
theorem WellT.keep {H H' : Hp} {p : Addr} {k : Nat} (w : WellT H p k) (s : ∀ o, H p = some o → H' p = some o) : WellT H' p k := let ⟨c, m, t, e, h⟩ := w; ⟨c, m, t, s _ e, h⟩
def spCell (K : PySem.W.Frag) : Sp := fun vs H Q _ => ∃ (a : Addr) (ns : List Int) (k : Int), vs = [.ref a, .int k] ∧ SqL K H a (ns.map V.int) ∧ 0 ≤ k ∧ ∀ n : Int, Q (.int n) H
def spWell : Sp := fun vs H Q _ => ∃ (c : Int), vs = [.int c] ∧ ∀ (p : Addr) (H' : Hp), H p = none → Same H H' → WellT H' p 0 → Q (.ref p) H'
def spDraw : Sp := fun vs H Q _ => ∃ (p : Addr) (b : Int) (k : Nat), vs = [.ref p, .int b] ∧ WellT H p k ∧ k ≤ 100000 ∧ 0 < b ∧ b < 1073741824 ∧
  ∀ (d : Int) (H' : Hp), 0 ≤ d → d < b → Ext p H H' → WellT H' p (k + 1) → Q (.int d) H'
def spOne : Sp := fun vs H Q _ => ∃ (p a : Addr) (xs : List V) (k : Nat), vs = [.ref p, .ref a] ∧ WellT H p k ∧ k ≤ 100000 ∧ H a = some (.lst xs) ∧ 0 < xs.length ∧ xs.length < 1073741824 ∧ a ≠ p ∧
  ∀ (i : Nat) (x : V) (H' : Hp), xs[i]? = some x → Ext p H H' → WellT H' p (k + 1) → Q x H'
section
variable {P : Program} {w : World} {K : PySem.W.Frag} {mg : Str → Option Value} {base : Heap}
theorem ok_cell {f : Addr} {fd : FuncData} (T : Bj mg) (F : Fun K "_law_cell_at" "_law_cell_at" sCell f fd) : FnOk P w K mg base CX0 1 f fd nCell (spCell K) := by
  have nd := scCell.nd
  refine F.ok scCell (fun vs H Q E h => ?_) (fun cdv A outer s H vs Q E hr h => ?_)
  · obtain ⟨a, ns, k, rfl, _⟩ := h
    rfl
  · obtain ⟨a, ns, k, rfl, hS, h0, q⟩ := h
    refine ⟨_, (pss_cons (ps_if (pt_cmpR op_lt (pv 1) (pe_callB (call_lenK (K := K) rfl) (by rfl) T.len PySem.boot_len (pa_cons (pv 0) pa_nil)) (nomark _))
  (pss_one (ps_ret (pe_ix (ix_listK (K := K) rfl) (pv 0) (pv 1) (fun _ _ => rfl))))
  pss_nil)
 (pss_one (ps_ret pe_int))), ?_⟩
    refine ⟨_, rfl, _, rfl, a, _, rfl, .inl hS, _, _, rfl, rfl, _, rfl, ite2 (fun c => ?_) (fun c => q 0)⟩
    have c' : k < ns.length := by simpa using c
    have hi : k.toNat < ns.length := by omega
    exact ⟨_, rfl, _, rfl, a, _, k, .int ns[k.toNat], rfl, rfl, hS, at_of (j := k.toNat) (by omega) (by simp [hi]), q _⟩
theorem ok_well {f : Addr} {fd : FuncData} (T : Bj mg) (F : Fun K "_law_well" "_law_well" sWell f fd) : FnOk P w K mg base CX0 1 f fd nWell spWell := by
  have nd := scWell.nd
  refine F.ok scWell (fun vs H Q E h => ?_) (fun cdv A outer s H vs Q E hr h => ?_)
  · obtain ⟨c, rfl, _⟩ := h
    rfl
  · obtain ⟨c, rfl, q⟩ := h
    refine ⟨_, (pss_one (ps_ret (pe_lst (pa_cons (pe_ix (ix_listK (K := K) rfl) (pe_lst (pa_cons pe_int (pa_cons (pv 0) pa_nil))) (pe_callTy call_int1 (by rfl) T.int PyProof.Rows.boot_int (pa_cons (pe_cmpR op_ge (pv 0) (pe_op op_pow pe_int pe_int) (nomark _)) pa_nil)) (fun _ _ => rfl)) (pa_cons (pv 0) (pa_cons pe_int pa_nil)))))), ?_⟩
    refine ⟨_, rfl, (by show 2 ≤ sizeLine; decide), fun l nl => ⟨_, rfl, _, _, rfl, rfl, ⟨by decide, by decide, by decide⟩, _, _, rfl, rfl, .inr ⟨_, rfl, ?_⟩⟩⟩
    have s1 := same_new (o := .lst [.int 0, .int c]) nl
    have fin : ∀ (n : Int), ∀ p, (upd H l (.lst [.int 0, .int c])) p = none → Q (.ref p) (upd (upd H l (.lst [.int 0, .int c])) p (.lst [.int n, .int c, .int 0])) := fun n p np => q p _ (s1.free np) (s1.new np) ⟨n, c, 0, upd_same, by decide, by decide⟩
    by_cases h : c ≥ 10 ^ (18 : Int).toNat
    · rw [decide_eq_true h]
      exact ⟨l, _, 1, .int c, rfl, rfl, sq upd_same, atI_nat (j := 1) rfl, _, rfl, (by show 3 ≤ sizeLine; decide), fin c⟩
    · rw [decide_eq_false h]
      exact ⟨l, _, 0, .int 0, rfl, rfl, sq upd_same, atI_nat (j := 0) rfl, _, rfl, (by show 3 ≤ sizeLine; decide), fin 0⟩
theorem ok_draw {f : Addr} {fd : FuncData} (T : Bj mg) (F : Fun K "_law_draw" "_law_draw" sDraw f fd) : FnOk P w K mg base CX0 1 f fd pDraw spDraw := by
  have nd := scDraw.nd
  refine F.ok scDraw (fun vs H Q E h => ?_) (fun cdv A outer s H vs Q E hr h => ?_)
  · obtain ⟨p, b, k, rfl, _⟩ := h
    rfl
  · obtain ⟨p, b, k, rfl, ⟨c, m, t, hp, t0, tk⟩, hk, hb0, hb1, q'⟩ := h
    have q : ∀ (d c m t : Int), 0 ≤ d → d < b → 0 ≤ t → t ≤ (k + 1 : Nat) → Q (.int d) (upd H p (.lst [.int c, .int m, .int t])) := fun d c m t h1 h2 h3 h4 => q' d _ h1 h2 (Ext.refl H).self ⟨c, m, t, upd_same, h3, h4⟩
    refine ⟨_, (pss_cons (ps_if (pt_cmpR op_gt (pe_ix (ix_listK (K := K) rfl) (pv 0) pe_int (fun _ _ => rfl)) pe_int (nomark _))
  (pss_cons (ps_set (i := 2) nd rfl (Or.inl rfl) (pe_op op_mod (pe_callTy call_int1 (by rfl) T.int PyProof.Rows.boot_int (pa_cons (pe_ix (ix_listK (K := K) rfl) (pv 0) pe_int (fun _ _ => rfl)) pa_nil)) (pv 1)))
 (pss_cons (ps_asg (pe_op op_fdiv (pe_ix (ix_listK (K := K) rfl) (pv 0) pe_int (fun _ _ => rfl)) (pv 1)) (pg_sub (pv 0) pe_int set_list))
 (pss_one (ps_ret (pv 2)))))
  pss_nil)
 (pss_cons (ps_asg (pe_op op_add (pe_ix (ix_listK (K := K) rfl) (pv 0) pe_int (fun _ _ => rfl)) pe_int) (pg_sub (pv 0) pe_int set_list))
 (pss_cons (ps_set (i := 3) nd rfl (Or.inl rfl) (pe_op op_mod (pe_callTy call_int1 (by rfl) T.int PyProof.Rows.boot_int (pa_cons (pe_op op_fdivW (pe_ix (ix_listK (K := K) rfl) (pv 0) pe_int (fun _ _ => rfl)) pe_int) pa_nil)) pe_int))
 (pss_cons (ps_set (i := 4) nd rfl (Or.inl rfl) (pe_op op_add (pe_op op_add (pe_op op_add (pe_op op_mod (pe_callTy call_int1 (by rfl) T.int PyProof.Rows.boot_int (pa_cons (pe_ix (ix_listK (K := K) rfl) (pv 0) pe_int (fun _ _ => rfl)) pa_nil)) pe_int) (pe_op op_mul pe_int (pe_ix (ix_listK (K := K) rfl) (pv 0) pe_int (fun _ _ => rfl)))) (pv 3)) pe_int))
 (pss_cons (ps_set (i := 5) nd rfl (Or.inl rfl) (pe_op op_mod (pe_callTy call_int1 (by rfl) T.int PyProof.Rows.boot_int (pa_cons (pe_op op_pow (pv 4) pe_int) pa_nil)) pe_int))
 (pss_cons (ps_set (i := 5) nd rfl (Or.inl rfl) (pe_op op_mod (pe_callTy call_int1 (by rfl) T.int PyProof.Rows.boot_int (pa_cons (pe_op op_mul (pv 5) (pe_op op_add (pe_op op_add (pe_op op_fdiv (pv 5) pe_int) pe_int) (pe_ix (ix_listK (K := K) rfl) (pv 0) pe_int (fun _ _ => rfl)))) pa_nil)) pe_int))
 (pss_one (ps_ret (pe_op op_mod (pe_callTy call_int1 (by rfl) T.int PyProof.Rows.boot_int (pa_cons (pe_op op_mod (pe_callTy call_int1 (by rfl) T.int PyProof.Rows.boot_int (pa_cons (pe_op op_mul (pv 5) (pe_op op_add (pe_op op_fdiv (pv 5) pe_int) pe_int)) pa_nil)) pe_int) pa_nil)) (pv 1)))))))))), ?_⟩
    have r0 : ∀ x y z : Int, SqL K (upd H p (.lst [.int x, .int y, .int z])) p [.int x, .int y, .int z] := fun x y z => .inl (.inl upd_same)
    have hS : SqL K H p [.int c, .int m, .int t] := .inl (.inl hp)
    have rg : ∀ z : Int, 0 ≤ z % b ∧ z % b < b := fun z => ⟨Int.emod_nonneg _ (by omega), Int.emod_lt_of_pos _ hb0⟩
    refine ⟨.ref p, rfl, p, _, 0, .int c, rfl, rfl, hS, atI_nat (j := 0) rfl, _, _, rfl, rfl, _, rfl, ?_⟩
    refine ite2 (fun _ => ?_) (fun _ => ?_)
    · refine ⟨.ref p, rfl, p, _, 0, .int c, rfl, rfl, hS, atI_nat (j := 0) rfl, .inl ⟨c, rfl, _, rfl, c, b, rfl, rfl, hb0, ?_⟩⟩
      refine ⟨.ref p, rfl, p, _, 0, .int c, rfl, rfl, hS, atI_nat (j := 0) rfl, _, rfl, c, b, rfl, rfl, ⟨hb0, hb1⟩, ?_⟩
      refine ⟨.ref p, rfl, p, _, 0, 0, rfl, rfl, hp, rfl, ?_⟩
      exact ⟨_, rfl, q (c % b) (c / b) m t (rg c).1 (rg c).2 t0 (by omega)⟩
    · refine ⟨.ref p, rfl, p, _, 2, .int t, rfl, rfl, hS, atI_nat (j := 2) rfl, _, _, rfl, rfl, ?_⟩
      refine ⟨.ref p, rfl, p, _, 2, 2, rfl, rfl, hp, rfl, ?_⟩
      refine ⟨.ref p, rfl, p, _, 1, .int m, rfl, rfl, r0 c m (t + 1), atI_nat (j := 1) rfl, _, _, rfl, rfl, wide_div (b := 31) (by decide) (by decide) (by decide) (by decide), .inl ⟨_, rfl, _, _, rfl, rfl, (by show (0 : Int) < _; decide), ?_⟩⟩
      refine ⟨.ref p, rfl, p, _, 1, .int m, rfl, rfl, r0 c m (t + 1), atI_nat (j := 1) rfl, .inl ⟨_, rfl, _, _, rfl, rfl, (by show (0 : Int) < _; decide), ?_⟩⟩
      refine ⟨.ref p, rfl, p, _, 2, .int (t + 1), rfl, rfl, r0 c m (t + 1), atI_nat (j := 2) rfl, _, _, rfl, rfl, .inl ⟨by decide, by decide⟩, _, _, rfl, rfl, _, rfl, _, _, rfl, rfl, _, _, rfl, rfl, ?_⟩
      have b0 : (m % 2147483629 + 7919 * (t + 1) + m / 2147483629 % 65521 + 1).natAbs < 2 ^ 64 := by
        have h1 : 0 ≤ m % 2147483629 ∧ m % 2147483629 < 2147483629 := ⟨Int.emod_nonneg _ (by decide), Int.emod_lt_of_pos _ (by decide)⟩
        have h2 : 0 ≤ m / 2147483629 % 65521 ∧ m / 2147483629 % 65521 < 65521 := ⟨Int.emod_nonneg _ (by decide), Int.emod_lt_of_pos _ (by decide)⟩
        exact Nat.lt_of_lt_of_le (show _ < 10000000000 by omega) (by decide)
      refine ⟨_, rfl, m % 2147483629 + 7919 * (t + 1) + m / 2147483629 % 65521 + 1, 5, rfl, rfl, ⟨by decide, by decide, b0⟩, .inl ⟨_, rfl, _, _, rfl, rfl, (by show (0 : Int) < _; decide), ?_⟩⟩
      generalize he : (m % 2147483629 + 7919 * (t + 1) + m / 2147483629 % 65521 + 1) ^ (5 : Int).toNat % 2147483647 = e
      have e0 : 0 ≤ e ∧ e < 2147483647 := by rw [← he]; exact ⟨Int.emod_nonneg _ (by decide), Int.emod_lt_of_pos _ (by decide)⟩
      refine ⟨_, rfl, _, rfl, _, _, rfl, rfl, ⟨by decide, by decide⟩, _, _, rfl, rfl, .ref p, rfl, p, _, 2, .int (t + 1), rfl, rfl, r0 c m (t + 1), atI_nat (j := 2) rfl, _, _, rfl, rfl, _, _, rfl, rfl, .inl ⟨by omega, by omega⟩, .inl ⟨_, rfl, _, _, rfl, rfl, (by show (0 : Int) < _; decide), ?_⟩⟩
      generalize hg : e * (e / 1009 + 69621 + (t + 1)) % 2147483629 = g
      have g0 : 0 ≤ g ∧ g < 2147483629 := by rw [← hg]; exact ⟨Int.emod_nonneg _ (by decide), Int.emod_lt_of_pos _ (by decide)⟩
      refine ⟨_, rfl, _, rfl, _, _, rfl, rfl, ⟨by decide, by decide⟩, _, _, rfl, rfl, _, _, rfl, rfl, .inl ⟨by omega, by omega⟩, .inl ⟨_, rfl, _, _, rfl, rfl, (by show (0 : Int) < _; decide), .inl ⟨_, rfl, _, rfl, _, _, rfl, rfl, hb0, ?_⟩⟩⟩
      exact q _ c m (t + 1) (rg _).1 (rg _).2 (by omega) (by omega)
theorem ok_one {f : Addr} {fd : FuncData} (T : Bj mg) (D_draw : Def P w K mg base CX0 1 "_law_draw" pDraw spDraw) (F : Fun K "_law_one" "_law_one" sOne f fd) : FnOk P w K mg base CX0 2 f fd nOne spOne := by
  refine F.ok scOne (fun vs H Q E h => ?_) (fun cdv A outer s H vs Q E hr h => ?_)
  · obtain ⟨p, a, xs, k, rfl, _⟩ := h
    rfl
  · obtain ⟨p, a, xs, k, rfl, hw, hk, ha, h0, h1, nap, q⟩ := h
    refine ⟨_, (pss_one (ps_ret (pe_ix (ix_listK (K := K) rfl) (pv 1) (pe_def D_draw (hr.mono (by decide)) rfl pass0 (pa_cons (pv 0) (pa_cons (pe_callB (call_lenK (K := K) rfl) (by rfl) T.len PySem.boot_len (pa_cons (pv 1) pa_nil)) pa_nil))) (fun _ _ => rfl)))), ?_⟩
    refine ⟨_, rfl, _, rfl, _, rfl, a, xs, rfl, .inl (sq ha), ?_⟩
    refine ⟨p, xs.length, k, rfl, hw, hk, by omega, by omega, fun d H' d0 d1 hx hw' => ?_⟩
    have hi : d.toNat < xs.length := by omega
    have hg : xs[d.toNat]? = some xs[d.toNat] := List.getElem?_eq_getElem hi
    exact ⟨a, xs, d, _, rfl, rfl, sq (hx _ _ nap ha), at_of (j := d.toNat) (by omega) hg, q _ _ _ hg hx hw'⟩
end
end K1


set_option Elab.async false
set_option linter.all false
set_option maxRecDepth 100000
set_option maxHeartbeats 4000000
namespace K1
open PySem PySem.Spec PyProof.Rows L2 RZ
/-! ### what tells data, whatever new objects are made meanwhile -/
def Gv (T : List (Addr × Str)) (te : TE) (σ : L2.St) (H : Hp) (d : PyData) : Prop := ∀ H1, LamX.ExtN H H1 → LamX.Tabs T H1 → ∀ Q : VK, (∀ v H2, LamX.ExtN H1 H2 → LamX.Tabs T H2 → Dv H2 v d → Q v H2) → te σ H1 Q
def GvA (T : List (Addr × Str)) (ta : TA) (σ : L2.St) (H : Hp) (ds : List PyData) : Prop := ∀ H1, LamX.ExtN H H1 → LamX.Tabs T H1 → ∀ Q : List V → Hp → Prop, (∀ vs H2, LamX.ExtN H1 H2 → LamX.Tabs T H2 → DvA H2 vs ds → Q vs H2) → ta σ H1 Q
section
variable {T : List (Addr × Str)} {σ : L2.St} {H : Hp} {te tf : TE} {ta : TA} {d : PyData} {ds es : List PyData}
theorem gv_c {v : V} (h : ∀ H, Dv H v d) : Gv T (tC v) σ H d := fun H1 _ t Q k => k v H1 (.refl _) t (h H1)
theorem gv_int (n : Int) : Gv T (tC (.int n)) σ H (.int n) := gv_c fun _ => .int n
theorem gv_str (n : Str) : Gv T (tC (.str n)) σ H (.str n) := gv_c fun _ => .str n
theorem gv_bl (n : Bool) : Gv T (tC (.bl n)) σ H (.bool n) := gv_c fun _ => .bl n
theorem gv_non : Gv T (tC .non) σ H .none := gv_c fun _ => .non
theorem gv_var {i : Nat} {v : V} (hi : σ[i]? = some (some v)) (h : Dv H v d) : Gv T (tVar i) σ H d := fun H1 e t Q k => ⟨v, hi, k v H1 (.refl _) t (h.ext e)⟩
theorem gv_nil : GvA T tNil σ H [] := fun H1 _ t Q k => k [] H1 (.refl _) t .nil
theorem gv_cons (h1 : Gv T te σ H d) (h2 : GvA T ta σ H ds) : GvA T (tCons te ta) σ H (d :: ds) := fun H1 e t Q k =>
  h1 H1 e t _ fun x H2 e2 t2 hx => h2 H2 (e.trans e2) t2 _ fun xs H3 e3 t3 hxs => k (x :: xs) H3 (e2.trans e3) t3 (.cons (hx.ext e3) hxs)
theorem gv_tup (h : GvA T ta σ H ds) (hl : ds.length ≤ 1000 := by exact Nat.le_of_ble_eq_true rfl) : Gv T (tTup ta) σ H (.tuple ds) := fun H1 e t Q k =>
  h H1 e t _ fun xs H2 e2 t2 hxs => ⟨lt1 _ (by rw [hxs.len]; omega), fun p np => k _ _ (e2.trans (LamX.ExtN.of (same_new np))) (t2.ext (same_new np)) (.tup upd_same (hxs.same (same_new np)))⟩
theorem gv_lst (h : GvA T ta σ H ds) (hl : ds.length ≤ 1000 := by exact Nat.le_of_ble_eq_true rfl) : Gv T (tLst ta) σ H (.list ds) := fun H1 e t Q k =>
  h H1 e t _ fun xs H2 e2 t2 hxs => ⟨lt1 _ (by rw [hxs.len]; omega), fun p np => k _ _ (e2.trans (LamX.ExtN.of (same_new np))) (t2.ext (same_new np)) (.lst upd_same (hxs.same (same_new np)))⟩
theorem Dv.lstD {v : V} (h : Dv H v (.list ds)) : ∃ a xs, v = .ref a ∧ H a = some (.lst xs) ∧ DvA H xs ds := by
  cases h with
  | lst e r => exact ⟨_, _, rfl, e, r⟩
theorem gv_cat (h1 : Gv T te σ H (.list ds)) (h2 : Gv T tf σ H (.list es)) (hl : ds.length + es.length ≤ 1000) : Gv T (tOp rCat te tf) σ H (.list (ds ++ es)) := fun H1 e t Q k =>
  h1 H1 e t _ fun x H2 e2 t2 hx => h2 H2 (e.trans e2) t2 _ fun y H3 e3 t3 hy => by
    obtain ⟨a, xs, rfl, ha, hA⟩ := (hx.ext e3).lstD
    obtain ⟨b, ys, rfl, hb, hB⟩ := hy.lstD
    exact ⟨a, b, xs, ys, rfl, rfl, ha, hb, lt1 _ (by rw [hA.len, hB.len]; omega), fun p np => k _ _ ((e2.trans e3).trans (LamX.ExtN.of (same_new np))) (t3.ext (same_new np)) (.lst upd_same ((hA.app hB).same (same_new np)))⟩
theorem DvA.rep {xs : List V} (h : DvA H xs ds) : ∀ n : Nat, DvA H (List.replicate n xs).flatten (List.replicate n ds).flatten
  | 0 => .nil
  | n + 1 => by
    rw [List.replicate_succ, List.replicate_succ, List.flatten_cons, List.flatten_cons]
    exact h.app (DvA.rep h n)
theorem gv_rep {n : Nat} (h1 : Gv T te σ H (.list ds)) (hl : ds.length * n ≤ 1000) (hn : n ≤ 1000) : Gv T (tOp rRep te (tC (.int (n : Int)))) σ H (.list (List.replicate n ds).flatten) := fun H1 e t Q k =>
  h1 H1 e t _ fun x H2 e2 t2 hx => by
    obtain ⟨a, xs, rfl, ha, hA⟩ := hx.lstD
    refine ⟨a, n, xs, rfl, rfl, ha, by omega, by omega, lt1 _ (by rw [hA.len, Int.toNat_natCast]; omega), fun p np => ?_⟩
    rw [Int.toNat_natCast]
    exact k _ _ (e2.trans (LamX.ExtN.of (same_new np))) (t2.ext (same_new np)) (.lst upd_same ((hA.rep n).same (same_new np)))
end
theorem passN {X : Cx} : Passes (L2.CX X.prog X.w) X (fun _ _ _ => False) := fun _ _ _ _ _ _ _ ⟨_, _, _, _, _, _, _, _, _, _, _, _, h⟩ => h.elim
/-! ### calls, as data -/
section
variable {CV CL : Addr} {T : List (Addr × Str)} {σ : L2.St} {H : Hp} {te tf : TE} {ta : TA} {d : PyData} {ds : List PyData} {okd : List PyData → Prop} {f : List PyData → Res}
theorem gv_call {E : XK} (hok : okd ds) (hf : f ds = .ok d) (ha : GvA T ta σ H ds) : Gv T (tCall (spR CV CL okd f) [] E ta) σ H d := fun H1 e t Q k =>
  ha H1 e t _ fun vs H2 e2 t2 hA => ⟨ds, by rw [List.append_nil]; exact hA, hok, by
    rw [hf]
    exact fun v H3 s3 hv => k v H3 (e2.trans (LamX.ExtN.of s3)) (t2.ext s3) hv⟩
theorem gv_op0 {g : Int → Int → V} {i j n : Int} (h : g i j = .int n) (h1 : Gv T te σ H (.int i)) (h2 : Gv T tf σ H (.int j)) : Gv T (tOp (rI0 g) te tf) σ H (.int n) := fun H1 e t Q k =>
  h1 H1 e t _ fun x H2 e2 t2 hx => h2 H2 (e.trans e2) t2 _ fun y H3 e3 t3 hy => by
    obtain rfl := hx.intV
    obtain rfl := hy.intV
    exact ⟨i, j, rfl, rfl, k _ H3 (e2.trans e3) t3 (by rw [h]; exact .int n)⟩
theorem gv_add {i j : Int} (h1 : Gv T te σ H (.int i)) (h2 : Gv T tf σ H (.int j)) : Gv T (tOp (rI0 fun i j => .int (i + j)) te tf) σ H (.int (i + j)) := gv_op0 rfl h1 h2
theorem gv_sub {i j : Int} (h1 : Gv T te σ H (.int i)) (h2 : Gv T tf σ H (.int j)) : Gv T (tOp (rI0 fun i j => .int (i - j)) te tf) σ H (.int (i - j)) := gv_op0 rfl h1 h2
theorem gv_mul {i j : Int} (c : CMul i j) (h1 : Gv T te σ H (.int i)) (h2 : Gv T tf σ H (.int j)) : Gv T (tOp (rI CMul fun i j => .int (i * j)) te tf) σ H (.int (i * j)) := fun H1 e t Q k =>
  h1 H1 e t _ fun x H2 e2 t2 hx => h2 H2 (e.trans e2) t2 _ fun y H3 e3 t3 hy => by
    obtain rfl := hx.intV
    obtain rfl := hy.intV
    exact ⟨i, j, rfl, rfl, c, k _ H3 (e2.trans e3) t3 (.int _)⟩
theorem gv_neg {n : Int} : Gv T (tUn (rU fun i => .int (-i)) (tC (.int n))) σ H (.int (-n)) := fun H1 _ t Q k => ⟨n, rfl, k _ H1 (.refl _) t (.int _)⟩
theorem Dv.tup4 {H : Hp} {v : V} {d1 d2 d3 d4 : PyData} (h : Dv H v (.tuple [d1, d2, d3, d4])) : ∃ a x1 x2 x3 x4, v = .ref a ∧ H a = some (.tup [x1, x2, x3, x4]) ∧ Dv H x1 d1 ∧ Dv H x2 d2 ∧ Dv H x3 d3 ∧ Dv H x4 d4 := by
  cases h with
  | tup e r =>
    match r with
    | .cons h1 (.cons h2 (.cons h3 (.cons h4 .nil))) => exact ⟨_, _, _, _, _, rfl, e, h1, h2, h3, h4⟩
theorem cut1 (xs : List V) : cutV xs (some 1) none = xs.drop 1 := by
  unfold cutV
  rw [show (1 : Int) = ((1 : Nat) : Int) from rfl, HT.sIx_nat, HT.sIx_none]
  cases xs with
  | nil => rfl
  | cons x r =>
    rw [show min 1 (x :: r).length = 1 by rw [List.length_cons]; omega]
    exact List.take_of_length_le (by simp)
/-- (x,) + t[1:] -/
theorem gv_swap {K : PySem.W.Frag} {tx : TE} {d0 d1 d2 d3 d4 : PyData} (h1 : Gv T tx σ H d0) (h2 : Gv T te σ H (.tuple [d1, d2, d3, d4])) :
    Gv T (tOp (rCatA K) (tTup (tCons tx tNil)) (tSl (rSlA K) te (tPart (tC (.int 1))) tNoPart)) σ H (.tuple [d0, d2, d3, d4]) := fun H1 e t Q k =>
  h1 H1 e t _ fun x H2 e2 t2 hx => ⟨(by show 1 ≤ sizeLine; decide), fun p np => h2 _ ((e.trans e2).trans (LamX.ExtN.of (same_new np))) (t2.ext (same_new np)) _ fun v H3 e3 t3 hv => by
    obtain ⟨b, x1, x2, x3, x4, rfl, hb, g1, g2, g3, g4⟩ := hv.tup4
    have hp : H3 p = some (.tup [x]) := e3 _ _ upd_same fun _ z => by cases z
    have hx3 := (hx.same (same_new (o := .tup [x]) np)).ext e3
    refine ⟨1, rfl, b, _, rfl, st hb, fun hw => ?_, fun _ q nq => ?_⟩
    · have := hw.1
      rw [show (1 : Int) = ((1 : Nat) : Int) from rfl, HT.sIx_nat] at this
      simp at this
    · have sq := same_new (o := .tup (cutV [x1, x2, x3, x4] (some 1) none)) nq
      have ec : cutV [x1, x2, x3, x4] (some 1) none = [x2, x3, x4] := by rw [cut1]; rfl
      refine ⟨p, q, [x], _, rfl, rfl, st (sq _ _ hp), st upd_same, by rw [ec]; show 1 + 3 ≤ sizeLine; decide, fun z => (by cases z), fun _ z => (by rw [ec] at z; cases z), fun _ _ r nr => ?_⟩
      have sr := sq.new (o := .tup ([x] ++ cutV [x1, x2, x3, x4] (some 1) none)) nr
      refine k _ _ (((e2.trans (LamX.ExtN.of (same_new np))).trans e3).trans (LamX.ExtN.of sr)) (t3.ext sr) ?_
      rw [ec] at sr ⊢
      exact .tup upd_same (.cons (hx3.same sr) (.cons (g2.same sr) (.cons (g3.same sr) (.cons (g4.same sr) .nil))))⟩
end
/-! ### comparisons of data that are alike -/
theorem gv_ne {K : PySem.W.Frag} {T : List (Addr × Str)} {σ : L2.St} {H : Hp} {te tf : TE} {d : PyData} (h1 : Gv T te σ H d) (h2 : Gv T tf σ H d) (hn : noDic d = true) (hs : SeqAt.shaped d = true) {H1 : Hp} (e1 : LamX.ExtN H H1) (t1 : LamX.Tabs T H1) {A B : Hp → Prop}
    (k : ∀ H2, LamX.ExtN H1 H2 → LamX.Tabs T H2 → B H2) : tTest (tOp (rNeD K) te tf) σ H1 (fun c H2 => if c = true then A H2 else B H2) :=
  h1 H1 e1 t1 _ fun x H2 e2 t2 hx => h2 H2 (e1.trans e2) t2 _ fun y H3 e3 t3 hy =>
    ⟨d, d, (hx.ext e3).dp hn, hy.dp hn, hs, hs, _, rfl, itbF (by rw [SeqAt.eqv_refl _ (SeqAt.canLay_of_shaped hs)]; rfl) (k H3 (e2.trans e3) t3)⟩
theorem gv_eq {K : PySem.W.Frag} {T : List (Addr × Str)} {σ : L2.St} {H : Hp} {te tf : TE} {d : PyData} (h1 : Gv T te σ H d) (h2 : Gv T tf σ H d) (hn : noDic d = true) (hs : SeqAt.shaped d = true) {H1 : Hp} (e1 : LamX.ExtN H H1) (t1 : LamX.Tabs T H1) {Q : VK}
    (k : ∀ H2, LamX.ExtN H1 H2 → LamX.Tabs T H2 → Q (.bl true) H2) : tOp (rEqD K) te tf σ H1 Q :=
  h1 H1 e1 t1 _ fun x H2 e2 t2 hx => h2 H2 (e1.trans e2) t2 _ fun y H3 e3 t3 hy =>
    ⟨d, d, (hx.ext e3).dp hn, hy.dp hn, hs, hs, by rw [SeqAt.eqv_refl _ (SeqAt.canLay_of_shaped hs)]; exact k H3 (e2.trans e3) t3⟩
/-! ### rules that tell data -/
section
variable {X : Cx}
def tG (T : List (Addr × Str)) (te : TE) : TE := fun σ H Q => ∃ d, LamX.Tabs T H ∧ Gv T te σ H d ∧ ∀ v H2, LamX.ExtN H H2 → LamX.Tabs T H2 → Dv H2 v d → Q v H2
def tNe (T : List (Addr × Str)) (te tf : TE) : TT := fun σ H Q => ∃ d, LamX.Tabs T H ∧ Gv T te σ H d ∧ Gv T tf σ H d ∧ noDic d = true ∧ SeqAt.shaped d = true ∧ ∀ H2, LamX.ExtN H H2 → LamX.Tabs T H2 → Q false H2
def tEqG (T : List (Addr × Str)) (te tf : TE) : TE := fun σ H Q => ∃ d, LamX.Tabs T H ∧ Gv T te σ H d ∧ Gv T tf σ H d ∧ noDic d = true ∧ SeqAt.shaped d = true ∧ ∀ H2, LamX.ExtN H H2 → LamX.Tabs T H2 → Q (.bl true) H2
theorem pe_weak {e : Expr} {t t' : TE} (h : PE X e t) (k : ∀ σ H Q, t' σ H Q → t σ H Q) : PE X e t' := ⟨fun pins s σ H Q I q => h.run pins s σ H Q I (k σ H Q q)⟩
theorem pt_weak {e : Expr} {t t' : TT} (h : PT X e t) (k : ∀ σ H Q, t' σ H Q → t σ H Q) : PT X e t' := ⟨fun pins s σ H Q I q => h.run pins s σ H Q I (k σ H Q q)⟩
theorem pe_G (T : List (Addr × Str)) {e : Expr} {te : TE} (h : PE X e te) : PE X e (tG T te) := pe_weak h fun σ H Q ⟨d, t, g, k⟩ => g H (.refl _) t Q k
theorem pt_neG (T : List (Addr × Str)) {K : PySem.W.Frag} {e : Expr} {te tf : TE} (h : PT X e (tTest (tOp (rNeD K) te tf))) : PT X e (tNe T te tf) := pt_weak h fun σ H Q ⟨d, t, g1, g2, hn, hs, k⟩ =>
  g1 H (.refl _) t _ fun x H2 e2 t2 hx => g2 H2 e2 t2 _ fun y H3 e3 t3 hy => ⟨d, d, (hx.ext e3).dp hn, hy.dp hn, hs, hs, _, rfl, by rw [SeqAt.eqv_refl _ (SeqAt.canLay_of_shaped hs)]; exact k H3 (e2.trans e3) t3⟩
theorem pe_eqG (T : List (Addr × Str)) {K : PySem.W.Frag} {e : Expr} {te tf : TE} (h : PE X e (tOp (rEqD K) te tf)) : PE X e (tEqG T te tf) := pe_weak h fun σ H Q ⟨d, t, g1, g2, hn, hs, k⟩ =>
  g1 H (.refl _) t _ fun x H2 e2 t2 hx => g2 H2 e2 t2 _ fun y H3 e3 t3 hy => ⟨d, d, (hx.ext e3).dp hn, hy.dp hn, hs, hs, by rw [SeqAt.eqv_refl _ (SeqAt.canLay_of_shaped hs)]; exact k H3 (e2.trans e3) t3⟩
/-- what is None -/
def tNn (T : List (Addr × Str)) (te : TE) : TT := fun σ H Q => LamX.Tabs T H ∧ Gv T te σ H .none ∧ ∀ H2, LamX.ExtN H H2 → LamX.Tabs T H2 → Q false H2
theorem pt_nnG (T : List (Addr × Str)) {e : Expr} {te : TE} (h : PT X e (tTest (tOp (fun x y H Q => y = .non ∧ Q (.bl (!decide (x = .non))) H) te (tC .non)))) : PT X e (tNn T te) := pt_weak h fun σ H Q ⟨t, g, k⟩ =>
  g H (.refl _) t _ fun x H2 e2 t2 hx => by
    cases hx
    exact ⟨rfl, _, rfl, k H2 e2 t2⟩
end
end K1


set_option Elab.async false
set_option linter.all false
set_option maxRecDepth 100000
set_option maxHeartbeats 4000000
/-! The law's own table of rows of changes, as mathematics. -/
namespace K1
open PySem PySem.Spec PyProof.Rows L2
def Lw (S f0 : Int) : Nat → Int → Int → Int
  | 0, c, g => if c = 0 ∧ g = 0 then 1 else 0
  | i + 1, c, g => Lw S f0 i (c - 1) g * S + Lw S f0 i c (g - 1) * (f0 + c - (g - 1)) + Lw S f0 i c g * ((f0 + c - g) * (S - 1))
theorem Rw_Lw {S f0 cm wt : Int} (h1 : 0 ≤ cm) (h2 : 0 ≤ wt) : ∀ (i : Nat) (c g : Int), Rw S f0 cm wt i c g = if c ≤ cm ∧ g ≤ wt then Lw S f0 i c g else 0
  | 0, c, g => by
    show (if c = 0 ∧ g = 0 then (1 : Int) else 0) = if c ≤ cm ∧ g ≤ wt then (if c = 0 ∧ g = 0 then (1 : Int) else 0) else 0
    by_cases h : c = 0 ∧ g = 0
    · rw [if_pos h, if_pos (by omega)]
    · rw [if_neg h]; split <;> rfl
  | i + 1, c, g => by
    show (if c ≤ cm ∧ g ≤ wt then Rw S f0 cm wt i (c - 1) g * S + Rw S f0 cm wt i c (g - 1) * (f0 + c - (g - 1)) + Rw S f0 cm wt i c g * ((f0 + c - g) * (S - 1)) else 0) = _
    by_cases h : c ≤ cm ∧ g ≤ wt
    · rw [if_pos h, if_pos h, Rw_Lw h1 h2 i, Rw_Lw h1 h2 i, Rw_Lw h1 h2 i, if_pos (by omega), if_pos (by omega), if_pos h]; rfl
    · rw [if_neg h, if_neg h]
def incL (S f0 : Int) (t : Tab) (e : PK × Int) : Tab :=
  if 0 < f0 + e.1.1 - e.1.2 then incP (incP (incP t (e.1.1 + 1, e.1.2) (e.2 * S)) (e.1.1, e.1.2 + 1) (e.2 * (f0 + e.1.1 - e.1.2))) e.1 (e.2 * ((f0 + e.1.1 - e.1.2) * (S - 1))) else incP t (e.1.1 + 1, e.1.2) (e.2 * S)
theorem val_incL (S f0 : Int) (t : Tab) (e : PK × Int) (q : PK) (h0 : 0 ≤ f0 + e.1.1 - e.1.2) : valP (incL S f0 t e) q = valP t q + ctr S f0 q e := by
  unfold incL
  by_cases c : 0 < f0 + e.1.1 - e.1.2
  · rw [if_pos c]
    have h := val_inc3 S f0 t e q
    unfold inc3 at h
    rw [Int.mul_assoc] at h
    exact h
  · rw [if_neg c]
    obtain ⟨⟨a, b⟩, n⟩ := e
    obtain ⟨x, y⟩ := q
    have z : f0 + a - b = 0 := by
      have h0 : 0 ≤ f0 + a - b := h0
      have c : ¬ 0 < f0 + a - b := c
      omega
    rw [val_inc]
    show valP t (x, y) + (if ((x, y) : PK) = (a + 1, b) then n * S else 0) = valP t (x, y) + ((if ((a, b) : PK) = (x - 1, y) then n * S else 0) + (if ((a, b) : PK) = (x, y - 1) then n * (f0 + x - (y - 1)) else 0) + (if ((a, b) : PK) = (x, y) then n * ((f0 + x - y) * (S - 1)) else 0))
    have e2 : (if ((a, b) : PK) = (x, y - 1) then n * (f0 + x - (y - 1)) else 0) = 0 := by
      by_cases k : ((a, b) : PK) = (x, y - 1)
      · have := Prod.mk.inj k
        rw [if_pos k, show f0 + x - (y - 1) = 0 by omega, Int.mul_zero]
      · rw [if_neg k]
    have e3 : (if ((a, b) : PK) = (x, y) then n * ((f0 + x - y) * (S - 1)) else 0) = 0 := by
      by_cases k : ((a, b) : PK) = (x, y)
      · have := Prod.mk.inj k
        rw [if_pos k, show f0 + x - y = 0 by omega, Int.zero_mul, Int.mul_zero]
      · rw [if_neg k]
    have e1 : (if ((x, y) : PK) = (a + 1, b) then n * S else 0) = if ((a, b) : PK) = (x - 1, y) then n * S else 0 := by
      by_cases k : a = x - 1 ∧ b = y
      · rw [if_pos (by rw [k.1, k.2]; congr 1; omega), if_pos (by rw [k.1, k.2])]
      · rw [if_neg (fun z => k (by have := Prod.mk.inj z; omega)), if_neg (fun z => k (by have := Prod.mk.inj z; omega))]
    rw [e1, e2, e3]
    omega
theorem val_foldL (S f0 : Int) (q : PK) : ∀ (rows t : Tab), (∀ e ∈ rows, 0 ≤ f0 + e.1.1 - e.1.2) → valP (rows.foldl (incL S f0) t) q = valP t q + sumI (rows.map (ctr S f0 q))
  | [], t, _ => by show valP t q = valP t q + 0; omega
  | e :: r, t, h => by
    show valP (r.foldl (incL S f0) (incL S f0 t e)) q = valP t q + (ctr S f0 q e + sumI (r.map (ctr S f0 q)))
    rw [val_foldL S f0 q r _ (fun e he => h e (List.mem_cons_of_mem _ he)), val_incL _ _ _ _ _ (h e List.mem_cons_self)]
    omega
theorem mem_incP {t : Tab} {p q : PK} {n : Int} : q ∈ keysP (incP t p n) ↔ q ∈ keysP t ∨ q = p := by
  constructor
  · exact mem_put
  · intro h
    show q ∈ keysP (putP t p _)
    rw [keys_put]
    by_cases c : hasP t p = true
    · rw [if_pos c]
      rcases h with h | rfl
      · exact h
      · exact (hasP_mem _ _).mp c
    · rw [if_neg c, List.mem_append, List.mem_singleton]; exact h
def gives (f0 : Int) (e p : PK) : Prop := p = (e.1 + 1, e.2) ∨ (0 < f0 + e.1 - e.2 ∧ (p = (e.1, e.2 + 1) ∨ p = e))
theorem mem_incL {S f0 : Int} {t : Tab} {e : PK × Int} {p : PK} : p ∈ keysP (incL S f0 t e) ↔ p ∈ keysP t ∨ gives f0 e.1 p := by
  unfold incL gives
  by_cases c : 0 < f0 + e.1.1 - e.1.2
  · rw [if_pos c, mem_incP, mem_incP, mem_incP]
    constructor
    · rintro (((h | h) | h) | h)
      · exact .inl h
      · exact .inr (.inl h)
      · exact .inr (.inr ⟨c, .inl h⟩)
      · exact .inr (.inr ⟨c, .inr h⟩)
    · rintro (h | h | ⟨_, h | h⟩)
      · exact .inl (.inl (.inl h))
      · exact .inl (.inl (.inr h))
      · exact .inl (.inr h)
      · exact .inr h
  · rw [if_neg c, mem_incP]
    constructor
    · rintro (h | h)
      · exact .inl h
      · exact .inr (.inl h)
    · rintro (h | h | ⟨h, _⟩)
      · exact .inl h
      · exact .inr h
      · exact absurd h c
theorem mem_foldL {S f0 : Int} {p : PK} : ∀ (rows t : Tab), p ∈ keysP (rows.foldl (incL S f0) t) ↔ p ∈ keysP t ∨ ∃ e ∈ keysP rows, gives f0 e p
  | [], t => by
    constructor
    · exact .inl
    · rintro (h | ⟨e, h, _⟩)
      · exact h
      · cases h
  | e :: r, t => by
    show p ∈ keysP (r.foldl (incL S f0) (incL S f0 t e)) ↔ _
    rw [mem_foldL r, mem_incL]
    constructor
    · rintro ((h | h) | ⟨x, hx, h⟩)
      · exact .inl h
      · exact .inr ⟨e.1, List.mem_cons_self, h⟩
      · exact .inr ⟨x, List.mem_cons_of_mem _ hx, h⟩
    · rintro (h | ⟨x, hx, h⟩)
      · exact .inl (.inl h)
      · rcases List.mem_cons.mp hx with rfl | hx
        · exact .inl (.inr h)
        · exact .inr ⟨x, hx, h⟩
theorem nd_incL {S f0 : Int} {t : Tab} (h : (keysP t).Nodup) (e : PK × Int) : (keysP (incL S f0 t e)).Nodup := by
  unfold incL
  split
  · exact nd_put (nd_put (nd_put h _ _) _ _) _ _
  · exact nd_put h _ _
theorem nd_foldL (S f0 : Int) : ∀ (rows t : Tab), (keysP t).Nodup → (keysP (rows.foldl (incL S f0) t)).Nodup
  | [], t, h => h
  | e :: r, t, h => nd_foldL S f0 r _ (nd_incL h e)
theorem len_incL (S f0 : Int) (t : Tab) (e : PK × Int) : (incL S f0 t e).length ≤ t.length + 3 := by
  unfold incL
  split
  · have h1 := len_put t (e.1.1 + 1, e.1.2) (valP t (e.1.1 + 1, e.1.2) + e.2 * S)
    generalize hA : putP t (e.1.1 + 1, e.1.2) (valP t (e.1.1 + 1, e.1.2) + e.2 * S) = A at h1
    show (incP (incP (putP t (e.1.1 + 1, e.1.2) (valP t (e.1.1 + 1, e.1.2) + e.2 * S)) _ _) _ _).length ≤ _
    rw [hA]
    have h2 := len_put A (e.1.1, e.1.2 + 1) (valP A (e.1.1, e.1.2 + 1) + e.2 * (f0 + e.1.1 - e.1.2))
    generalize hB : putP A (e.1.1, e.1.2 + 1) (valP A (e.1.1, e.1.2 + 1) + e.2 * (f0 + e.1.1 - e.1.2)) = B at h2
    show (incP (putP A (e.1.1, e.1.2 + 1) (valP A (e.1.1, e.1.2 + 1) + e.2 * (f0 + e.1.1 - e.1.2))) _ _).length ≤ _
    rw [hB]
    have h3 := len_put B e.1 (valP B e.1 + e.2 * ((f0 + e.1.1 - e.1.2) * (S - 1)))
    exact Nat.le_trans h3 (by omega)
  · exact Nat.le_trans (len_put _ _ _) (by omega)
theorem len_foldL (S f0 : Int) : ∀ (rows t : Tab), (rows.foldl (incL S f0) t).length ≤ t.length + 3 * rows.length
  | [], t => by show t.length ≤ _; omega
  | e :: r, t => by
    have h1 := len_foldL S f0 r (incL S f0 t e)
    have h2 := len_incL S f0 t e
    show (r.foldl (incL S f0) (incL S f0 t e)).length ≤ _
    rw [List.length_cons]
    omega
def reach (f0 : Int) (i : Nat) (c w : Int) : Prop := 0 ≤ c ∧ 0 ≤ w ∧ c + w ≤ i ∧ w ≤ f0 + c ∧ (c + w < i → 0 < f0 + c)
structure GoodL (S f0 : Int) (i : Nat) (t : Tab) : Prop where
  nd : (keysP t).Nodup
  val : ∀ c w, valP t (c, w) = Lw S f0 i c w
  mem : ∀ c w, (c, w) ∈ keysP t ↔ reach f0 i c w
theorem goodL0 {S f0 : Int} (h : 0 ≤ f0) : GoodL S f0 0 t0 := by
  refine ⟨List.nodup_cons.mpr ⟨fun z => (by cases z), List.nodup_nil⟩, fun c g => ?_, fun c w => ?_⟩
  · show (if ((0, 0) : PK) = (c, g) then some 1 else none).getD 0 = if c = 0 ∧ g = 0 then (1 : Int) else 0
    by_cases h : c = 0 ∧ g = 0
    · rw [if_pos (by rw [h.1, h.2]), if_pos h]; rfl
    · rw [if_neg (fun z => h (by have := Prod.mk.inj z; omega)), if_neg h]; rfl
  · show (c, w) ∈ [((0, 0) : PK)] ↔ _
    rw [List.mem_singleton]
    unfold reach
    constructor
    · intro z
      have := Prod.mk.inj z
      omega
    · intro z
      rw [show c = 0 by omega, show w = 0 by omega]
theorem goodL_step {S f0 : Int} {i : Nat} {t : Tab} (f : 0 ≤ f0) (h : GoodL S f0 i t) : GoodL S f0 (i + 1) (t.foldl (incL S f0) []) := by
  have cnt : ∀ e ∈ t, 0 ≤ f0 + e.1.1 - e.1.2 := fun e he => by
    have r := (h.mem e.1.1 e.1.2).mp (List.mem_map_of_mem he)
    unfold reach at r
    omega
  refine ⟨nd_foldL S f0 t [] List.nodup_nil, fun c g => ?_, fun c w => ?_⟩
  · rw [val_foldL _ _ _ _ _ cnt]
    show (0 : Int) + _ = _
    have e : ∀ q : PK, sumI (t.map (ctr S f0 q)) = valP t (q.1 - 1, q.2) * S + valP t (q.1, q.2 - 1) * (f0 + q.1 - (q.2 - 1)) + valP t q * ((f0 + q.1 - q.2) * (S - 1)) := fun q => by
      show sumI (t.map fun e => (if e.1 = (q.1 - 1, q.2) then e.2 * S else 0) + (if e.1 = (q.1, q.2 - 1) then e.2 * (f0 + q.1 - (q.2 - 1)) else 0) + (if e.1 = q then e.2 * ((f0 + q.1 - q.2) * (S - 1)) else 0)) = _
      rw [sum_add (fun e : PK × Int => (if e.1 = (q.1 - 1, q.2) then e.2 * S else 0) + (if e.1 = (q.1, q.2 - 1) then e.2 * (f0 + q.1 - (q.2 - 1)) else 0)) (fun e => if e.1 = q then e.2 * ((f0 + q.1 - q.2) * (S - 1)) else 0),
        sum_add (fun e : PK × Int => if e.1 = (q.1 - 1, q.2) then e.2 * S else 0) (fun e => if e.1 = (q.1, q.2 - 1) then e.2 * (f0 + q.1 - (q.2 - 1)) else 0), sum_at _ _ _ h.nd, sum_at _ _ _ h.nd, sum_at _ _ _ h.nd]
    rw [e (c, g), Int.zero_add, h.val, h.val, h.val]; rfl
  · rw [mem_foldL]
    unfold reach
    constructor
    · rintro (z | ⟨⟨a, b⟩, he, z⟩)
      · cases z
      · have r := (h.mem a b).mp he
        unfold reach at r
        unfold gives at z
        rcases z with z | ⟨p, z | z⟩
        · have := Prod.mk.inj z; omega
        · have := Prod.mk.inj z; have p : 0 < f0 + a - b := p; omega
        · have := Prod.mk.inj z; have p : 0 < f0 + a - b := p; omega
    · intro r
      refine .inr ?_
      by_cases w0 : 0 < w
      · exact ⟨(c, w - 1), (h.mem _ _).mpr (by unfold reach; omega), .inr ⟨by show 0 < f0 + c - (w - 1); omega, .inl (by show (c, w) = (c, w - 1 + 1); congr 1; omega)⟩⟩
      · by_cases c1 : c < (i : Int) + 1
        · exact ⟨(c, w), (h.mem _ _).mpr (by unfold reach; omega), .inr ⟨by show 0 < f0 + c - w; omega, .inr rfl⟩⟩
        · exact ⟨(c - 1, w), (h.mem _ _).mpr (by unfold reach; omega), .inl (by show (c, w) = (c - 1 + 1, w); congr 1; omega)⟩
theorem goodL_len {S f0 : Int} {i : Nat} {t : Tab} (h : GoodL S f0 i t) (h1 : i ≤ 60) : t.length ≤ 3721 := by
  have e : t.length = (keysP t).length := by unfold keysP; rw [List.length_map]
  rw [e, ← boxL_len]
  refine nodup_le _ _ h.nd fun p hp => ?_
  have r := (h.mem p.1 p.2).mp hp
  unfold reach at r
  refine List.mem_flatMap.mpr ⟨p.1.toNat, List.mem_range.mpr (by omega), List.mem_map.mpr ⟨p.2.toNat, List.mem_range.mpr (by omega), ?_⟩⟩
  show (((p.1.toNat : Nat) : Int), ((p.2.toNat : Nat) : Int)) = p
  rw [Int.toNat_of_nonneg r.1, Int.toNat_of_nonneg r.2.1]
/-! the table as the law's dict holds it -/
def en (f0 u0 : Int) (i : Nat) (p : PK) : List L2.Key := [.inl (f0 + p.1 - p.2), .inl (u0 + p.1), .inl p.2, .inl ((i : Int) - p.1 - p.2)]
theorem en_inj {f0 u0 : Int} {i : Nat} {p q : PK} (h : en f0 u0 i p = en f0 u0 i q) : p = q := by
  have h1 := List.cons.inj h
  have h2 := List.cons.inj h1.2
  have h3 := List.cons.inj h2.2
  have e1 := Sum.inl.inj h2.1
  have e2 := Sum.inl.inj h3.1
  exact Prod.ext (by omega) e2
section
variable {f0 u0 : Int} {i : Nat}
def kvE (f0 u0 : Int) (i : Nat) (t : Tab) : List (List L2.Key × V) := t.map fun e => (en f0 u0 i e.1, V.int e.2)
theorem valV_kvE (p : PK) : ∀ t : Tab, valV (kvE f0 u0 i t) (en f0 u0 i p) = (getP t p).map V.int
  | [] => rfl
  | e :: t => by
    show valV ((en f0 u0 i e.1, V.int e.2) :: kvE f0 u0 i t) (en f0 u0 i p) = (if e.1 = p then some e.2 else getP t p).map V.int
    by_cases h : e.1 = p
    · rw [if_pos h, valV_pos (p := (en f0 u0 i e.1, V.int e.2)) (by rw [h])]; rfl
    · rw [if_neg h, valV_neg (p := (en f0 u0 i e.1, V.int e.2)) (fun z => h (en_inj z)), valV_kvE p t]
theorem putK_kvE (t : Tab) (p : PK) (n : Int) : putK (kvE f0 u0 i t) (en f0 u0 i p) (.int n) = kvE f0 u0 i (putP t p n) := by
  unfold putK putP
  have e : ((kvE f0 u0 i t).any fun kv => decide (kv.1 = en f0 u0 i p)) = hasP t p := by
    rw [valV_any, valV_kvE]
    unfold hasP
    cases getP t p <;> rfl
  rw [e]
  by_cases h : hasP t p = true
  · rw [if_pos h, if_pos h]
    unfold kvE
    rw [List.map_map, List.map_map]
    refine List.map_congr_left fun x _ => ?_
    show (if en f0 u0 i x.1 = en f0 u0 i p then (en f0 u0 i x.1, V.int n) else (en f0 u0 i x.1, V.int x.2)) = (en f0 u0 i (if x.1 = p then (x.1, n) else x).1, V.int (if x.1 = p then (x.1, n) else x).2)
    by_cases z : x.1 = p
    · rw [if_pos z, if_pos (by rw [z])]
    · rw [if_neg z, if_neg (fun y => z (en_inj y))]
  · rw [if_neg h, if_neg h]
    unfold kvE
    rw [List.map_append]; rfl
theorem kvE_len (t : Tab) : (kvE f0 u0 i t).length = t.length := List.length_map _
theorem kvE_get {t : Tab} {j : Nat} {k : List L2.Key} {v : V} (h : (kvE f0 u0 i t)[j]? = some (k, v)) : ∃ e, t[j]? = some e ∧ k = en f0 u0 i e.1 ∧ v = .int e.2 := by
  unfold kvE at h
  rw [List.getElem?_map] at h
  cases z : t[j]? with
  | none => rw [z] at h; cases h
  | some e => rw [z] at h; have := Option.some.inj h; exact ⟨e, rfl, (Prod.mk.inj this).1.symm, (Prod.mk.inj this).2.symm⟩
theorem getD_kvE (t : Tab) (p : PK) : (valV (kvE f0 u0 i t) (en f0 u0 i p)).getD (.int 0) = .int (valP t p) := by
  rw [valV_kvE]
  unfold valP
  cases getP t p <;> rfl
def V4 (a b c d : Int) : List V := [.int a, .int b, .int c, .int d]
theorem en_at (c w : Int) : (en f0 u0 i (c, w)).map kV = V4 (f0 + c - w) (u0 + c) w ((i : Int) - c - w) := rfl
theorem en_come (c w : Int) : (en f0 u0 (i + 1) (c + 1, w)).map kV = V4 (f0 + c - w + 1) (u0 + c + 1) w ((i : Int) - c - w) := by
  show V4 (f0 + (c + 1) - w) (u0 + (c + 1)) w (((i + 1 : Nat) : Int) - (c + 1) - w) = _
  rw [show f0 + (c + 1) - w = f0 + c - w + 1 by omega, show u0 + (c + 1) = u0 + c + 1 by omega, show ((i + 1 : Nat) : Int) - (c + 1) - w = (i : Int) - c - w by omega]
theorem en_go (c w : Int) : (en f0 u0 (i + 1) (c, w + 1)).map kV = V4 (f0 + c - w - 1) (u0 + c) (w + 1) ((i : Int) - c - w) := by
  show V4 (f0 + c - (w + 1)) (u0 + c) (w + 1) (((i + 1 : Nat) : Int) - c - (w + 1)) = _
  rw [show f0 + c - (w + 1) = f0 + c - w - 1 by omega, show ((i + 1 : Nat) : Int) - c - (w + 1) = (i : Int) - c - w by omega]
theorem en_chg (c w : Int) : (en f0 u0 (i + 1) (c, w)).map kV = V4 (f0 + c - w) (u0 + c) w ((i : Int) - c - w + 1) := by
  show V4 (f0 + c - w) (u0 + c) w (((i + 1 : Nat) : Int) - c - w) = _
  rw [show ((i + 1 : Nat) : Int) - c - w = (i : Int) - c - w + 1 by omega]
end
end K1


set_option Elab.async false
set_option linter.all false
set_option maxRecDepth 100000
set_option maxHeartbeats 4000000
/-! Rows of changes by way of a sight between, as mathematics. -/
namespace K1
open PySem PySem.Spec PyProof.Rows L2 RZ
section
variable {S f0 : Int}
theorem Lw_zero (hf : 0 ≤ f0) : ∀ (i : Nat) (c g : Int), (c < 0 ∨ g < 0 ∨ (i : Int) < c + g ∨ f0 + c < g) → Lw S f0 i c g = 0
  | 0, c, g, h => by
    show (if c = 0 ∧ g = 0 then (1 : Int) else 0) = 0
    rw [if_neg (by omega)]
  | i + 1, c, g, h => by
    show Lw S f0 i (c - 1) g * S + Lw S f0 i c (g - 1) * (f0 + c - (g - 1)) + Lw S f0 i c g * ((f0 + c - g) * (S - 1)) = 0
    have e1 : Lw S f0 i (c - 1) g = 0 := Lw_zero hf i _ _ (by omega)
    have e3 : Lw S f0 i c g = 0 := Lw_zero hf i _ _ (by omega)
    have e2 : Lw S f0 i c (g - 1) * (f0 + c - (g - 1)) = 0 := by
      by_cases k : f0 + c - (g - 1) = 0
      · rw [k, Int.mul_zero]
      · rw [Lw_zero hf i _ _ (by omega), Int.zero_mul]
    rw [e1, e2, e3, Int.zero_mul, Int.zero_mul]; rfl
theorem Lw_not_reach (hf : 0 ≤ f0) {i : Nat} {c g : Int} (h : ¬ reach f0 i c g) : Lw S f0 i c g = 0 := by
  by_cases k : c < 0 ∨ g < 0 ∨ (i : Int) < c + g ∨ f0 + c < g
  · exact Lw_zero hf i c g k
  · unfold reach at h
    have c0 : c = 0 := by omega
    have f1 : f0 = 0 := by omega
    have g0 : g = 0 := by omega
    subst c0 f1 g0
    match i, h with
    | 0, h => omega
    | i + 1, h =>
      show Lw S 0 i (0 - 1) 0 * S + Lw S 0 i 0 (0 - 1) * (0 + 0 - (0 - 1)) + Lw S 0 i 0 0 * ((0 + 0 - 0) * (S - 1)) = 0
      rw [Lw_zero hf i _ _ (by omega), Lw_zero hf i _ _ (by omega)]
      simp
theorem Lw_nonneg (hf : 0 ≤ f0) (hS : 1 ≤ S) : ∀ (i : Nat) (c g : Int), 0 ≤ Lw S f0 i c g
  | 0, c, g => by
    show 0 ≤ (if c = 0 ∧ g = 0 then (1 : Int) else 0)
    split <;> decide
  | i + 1, c, g => by
    show 0 ≤ Lw S f0 i (c - 1) g * S + Lw S f0 i c (g - 1) * (f0 + c - (g - 1)) + Lw S f0 i c g * ((f0 + c - g) * (S - 1))
    have h1 := Int.mul_nonneg (Lw_nonneg hf hS i (c - 1) g) (by omega : 0 ≤ S)
    have h2 : 0 ≤ Lw S f0 i c (g - 1) * (f0 + c - (g - 1)) := by
      by_cases k : 0 ≤ f0 + c - (g - 1)
      · exact Int.mul_nonneg (Lw_nonneg hf hS i _ _) k
      · rw [Lw_zero hf i c (g - 1) (by omega), Int.zero_mul]; exact Int.le_refl _
    have h3 : 0 ≤ Lw S f0 i c g * ((f0 + c - g) * (S - 1)) := by
      by_cases k : 0 ≤ f0 + c - g
      · exact Int.mul_nonneg (Lw_nonneg hf hS i _ _) (Int.mul_nonneg k (by omega))
      · rw [Lw_zero hf i c g (by omega), Int.zero_mul]; exact Int.le_refl _
    omega
theorem Lw_pos (hf : 0 ≤ f0) (hS : 2 ≤ S) : ∀ (i : Nat) (c g : Int), reach f0 i c g → 0 < Lw S f0 i c g
  | 0, c, g, h => by
    show 0 < (if c = 0 ∧ g = 0 then (1 : Int) else 0)
    unfold reach at h
    rw [if_pos (by omega)]; decide
  | i + 1, c, g, h => by
    show 0 < Lw S f0 i (c - 1) g * S + Lw S f0 i c (g - 1) * (f0 + c - (g - 1)) + Lw S f0 i c g * ((f0 + c - g) * (S - 1))
    have n1 := Int.mul_nonneg (Lw_nonneg hf (by omega : 1 ≤ S) i (c - 1) g) (by omega : 0 ≤ S)
    have n2 : 0 ≤ Lw S f0 i c (g - 1) * (f0 + c - (g - 1)) := by
      by_cases k : 0 ≤ f0 + c - (g - 1)
      · exact Int.mul_nonneg (Lw_nonneg hf (by omega) i _ _) k
      · rw [Lw_zero hf i c (g - 1) (by omega), Int.zero_mul]; exact Int.le_refl _
    have n3 : 0 ≤ Lw S f0 i c g * ((f0 + c - g) * (S - 1)) := by
      by_cases k : 0 ≤ f0 + c - g
      · exact Int.mul_nonneg (Lw_nonneg hf (by omega) i _ _) (Int.mul_nonneg k (by omega))
      · rw [Lw_zero hf i c g (by omega), Int.zero_mul]; exact Int.le_refl _
    unfold reach at h
    by_cases w0 : 0 < g
    · have := Int.mul_pos (Lw_pos hf hS i c (g - 1) (by unfold reach; omega)) (by omega : 0 < f0 + c - (g - 1))
      omega
    · by_cases c1 : c < (i : Int) + 1
      · have := Int.mul_pos (Lw_pos hf hS i c g (by unfold reach; omega)) (Int.mul_pos (by omega : 0 < f0 + c - g) (by omega : 0 < S - 1))
        omega
      · have := Int.mul_pos (Lw_pos hf hS i (c - 1) g (by unfold reach; omega)) (by omega : 0 < S)
        omega
theorem sum_mul {α : Type} (f : α → Int) (k : Int) : ∀ l : List α, sumI (l.map f) * k = sumI (l.map fun e => f e * k)
  | [] => Int.zero_mul k
  | e :: l => by
    show (f e + sumI (l.map f)) * k = f e * k + sumI (l.map fun e => f e * k)
    rw [Int.add_mul, sum_mul f k l]
theorem sum_congr {α : Type} {f g : α → Int} : ∀ {l : List α}, (∀ e ∈ l, f e = g e) → sumI (l.map f) = sumI (l.map g)
  | [], _ => rfl
  | e :: l, h => by
    show f e + sumI (l.map f) = g e + sumI (l.map g)
    rw [h e List.mem_cons_self, sum_congr fun x hx => h x (List.mem_cons_of_mem _ hx)]
theorem sum_one (h : PK → Int) (q : PK) : ∀ l : List PK, l.Nodup → sumI (l.map fun p => h p * (if p = q then 1 else 0)) = if q ∈ l then h q else 0
  | [], _ => rfl
  | e :: l, nd => by
    obtain ⟨n1, n2⟩ := List.nodup_cons.mp nd
    show h e * (if e = q then 1 else 0) + sumI (l.map fun p => h p * (if p = q then 1 else 0)) = _
    rw [sum_one h q l n2]
    by_cases c : e = q
    · subst c
      rw [if_pos rfl, if_neg n1, if_pos List.mem_cons_self]; omega
    · rw [if_neg c]
      by_cases m : q ∈ l
      · rw [if_pos m, if_pos (List.mem_cons_of_mem _ m)]; omega
      · rw [if_neg m, if_neg (fun z => by rcases List.mem_cons.mp z with rfl | z; exact c rfl; exact m z)]; omega
theorem Lw_by (hf : 0 ≤ f0) (ps : List PK) (nd : ps.Nodup) (i : Nat) (C G : Int) (cov : ∀ a b, a ≤ C → b ≤ G → (a, b) ∉ ps → Lw S f0 i a b = 0) :
    ∀ (j : Nat) (c g : Int), c ≤ C → g ≤ G → Lw S f0 (i + j) c g = sumI (ps.map fun p => Lw S f0 i p.1 p.2 * Lw S (f0 + p.1 - p.2) j (c - p.1) (g - p.2))
  | 0, c, g, hc, hg => by
    have e : sumI (ps.map fun p => Lw S f0 i p.1 p.2 * Lw S (f0 + p.1 - p.2) 0 (c - p.1) (g - p.2)) = sumI (ps.map fun p => Lw S f0 i p.1 p.2 * (if p = (c, g) then 1 else 0)) :=
      sum_congr fun p _ => by
        show Lw S f0 i p.1 p.2 * (if c - p.1 = 0 ∧ g - p.2 = 0 then 1 else 0) = _
        by_cases k : p = (c, g)
        · rw [if_pos k, if_pos (by rw [k]; constructor <;> omega)]
        · rw [if_neg k, if_neg (fun z => k (Prod.ext (by omega) (by omega)))]
    rw [e, sum_one (fun p => Lw S f0 i p.1 p.2) (c, g) ps nd]
    by_cases m : (c, g) ∈ ps
    · rw [if_pos m]; rfl
    · rw [if_neg m]; exact cov c g hc hg m
  | j + 1, c, g, hc, hg => by
    show Lw S f0 (i + j) (c - 1) g * S + Lw S f0 (i + j) c (g - 1) * (f0 + c - (g - 1)) + Lw S f0 (i + j) c g * ((f0 + c - g) * (S - 1)) = _
    rw [Lw_by hf ps nd i C G cov j (c - 1) g (by omega) hg, Lw_by hf ps nd i C G cov j c (g - 1) hc (by omega), Lw_by hf ps nd i C G cov j c g hc hg, sum_mul, sum_mul, sum_mul, ← sum_add, ← sum_add]
    refine sum_congr fun p _ => ?_
    show _ = Lw S f0 i p.1 p.2 * (Lw S (f0 + p.1 - p.2) j (c - p.1 - 1) (g - p.2) * S + Lw S (f0 + p.1 - p.2) j (c - p.1) (g - p.2 - 1) * (f0 + p.1 - p.2 + (c - p.1) - (g - p.2 - 1)) + Lw S (f0 + p.1 - p.2) j (c - p.1) (g - p.2) * ((f0 + p.1 - p.2 + (c - p.1) - (g - p.2)) * (S - 1)))
    rw [show c - p.1 - 1 = c - 1 - p.1 by omega, show g - p.2 - 1 = g - 1 - p.2 by omega, show f0 + p.1 - p.2 + (c - p.1) - (g - 1 - p.2) = f0 + c - (g - 1) by omega, show f0 + p.1 - p.2 + (c - p.1) - (g - p.2) = f0 + c - g by omega, Int.mul_add, Int.mul_add, Int.mul_assoc, Int.mul_assoc, Int.mul_assoc]
end
end K1


set_option Elab.async false
set_option linter.all false
set_option maxRecDepth 100000
set_option maxHeartbeats 4000000
/-! Sights between two sights, as data. -/
namespace K1
open PySem PySem.Spec PyProof.Rows L2 RZ
def dD (s t : Sg) : Nat := (t.m - s.m).toNat
def hitP (s t : Sg) : Prop := reach s.c (dD s t) (came s t) (went s t) ∧ s.a = t.a
instance (s t : Sg) : Decidable (hitP s t) := by unfold hitP reach; infer_instance
def manyD (S : Int) (s t : Sg) : Int := if hitP s t then Lw S s.c (dD s t) (came s t) (went s t) else 0
theorem hit_btw {s t : Sg} (c0 : 0 ≤ s.c) (t0 : 0 ≤ t.c) (m0 : s.m ≤ t.m) : btw s t = if hitP s t then some (came s t, went s t, (dD s t : Int) - came s t - went s t) else none := by
  have dd : ((dD s t : Nat) : Int) = t.m - s.m := Int.toNat_of_nonneg (by omega)
  have w0 : went s t = s.c + came s t - t.c := rfl
  have g0 : chgd s t = t.m - s.m - came s t - went s t := rfl
  unfold btw
  by_cases h : hitP s t
  · rw [if_pos h]
    unfold hitP reach at h
    rw [if_neg (by omega), if_neg (by omega), g0, ← dd]
  · rw [if_neg h]
    unfold hitP reach at h
    by_cases c1 : s.a ≠ t.a ∨ came s t < 0 ∨ went s t < 0 ∨ chgd s t < 0
    · rw [if_pos c1]
    · rw [if_neg c1, if_pos (by omega)]
theorem many_W {S : Int} {s t : Sg} (c0 : 0 ≤ s.c) (a : s.a = t.a) : manyD S s t = Lw S s.c (dD s t) (came s t) (went s t) := by
  unfold manyD
  by_cases h : hitP s t
  · rw [if_pos h]
  · rw [if_neg h, Lw_not_reach c0 (fun z => h ⟨z, a⟩)]
/-- the least count at a mark -/
def loC (top mk : Int) : Int := if 2 * (top - 1) - mk > 0 then 2 * (top - 1) - mk else 0
def midRow (s : Sg) (top mk : Int) : List Sg := if top > 1 ∨ mk = 0 then (List.range (top - loC top mk).toNat).map (fun j => ⟨s.a, loC top mk + (j : Nat), top, mk⟩) else []
def mids (s t : Sg) (mk : Int) : List Sg := (List.range (t.n + 1 - s.n).toNat).flatMap fun i => midRow s (s.n + (i : Nat)) mk
theorem mem_row {s u : Sg} {top mk : Int} : u ∈ midRow s top mk ↔ u.a = s.a ∧ u.n = top ∧ u.m = mk ∧ loC top mk ≤ u.c ∧ u.c < top ∧ (top > 1 ∨ mk = 0) := by
  unfold midRow
  by_cases h : top > 1 ∨ mk = 0
  · rw [if_pos h, List.mem_map]
    constructor
    · rintro ⟨j, hj, rfl⟩
      have := List.mem_range.mp hj
      exact ⟨rfl, rfl, rfl, by show loC top mk ≤ loC top mk + (j : Nat); omega, by show loC top mk + (j : Nat) < top; omega, h⟩
    · rintro ⟨h1, h2, h3, h4, h5, _⟩
      refine ⟨(u.c - loC top mk).toNat, List.mem_range.mpr (by omega), ?_⟩
      obtain ⟨a, c, n, m⟩ := u
      have h1 : a = s.a := h1
      have h2 : n = top := h2
      have h3 : m = mk := h3
      have h4 : loC top mk ≤ c := h4
      subst h1 h2 h3
      show Sg.mk s.a (loC n m + (((c - loC n m).toNat : Nat) : Int)) n m = _
      have h4 : loC n m ≤ c := h4
      rw [Int.toNat_of_nonneg (by omega), show loC n m + (c - loC n m) = c by omega]
  · rw [if_neg h]
    constructor
    · intro z; cases z
    · exact fun z => absurd z.2.2.2.2.2 h
theorem mem_mids {s t u : Sg} {mk : Int} : u ∈ mids s t mk ↔ s.n ≤ u.n ∧ u.n ≤ t.n ∧ u.a = s.a ∧ u.m = mk ∧ loC u.n mk ≤ u.c ∧ u.c < u.n ∧ (u.n > 1 ∨ mk = 0) := by
  unfold mids
  rw [List.mem_flatMap]
  constructor
  · rintro ⟨i, hi, h⟩
    have := List.mem_range.mp hi
    obtain ⟨h1, h2, h3, h4, h5, h6⟩ := mem_row.mp h
    rw [h2]
    exact ⟨by omega, by omega, h1, h3, h4, by omega, h6⟩
  · rintro ⟨h1, h2, h3, h4, h5, h6, h7⟩
    refine ⟨(u.n - s.n).toNat, List.mem_range.mpr (by omega), ?_⟩
    rw [Int.toNat_of_nonneg (by omega), show s.n + (u.n - s.n) = u.n by omega]
    exact mem_row.mpr ⟨h3, rfl, h4, h5, h6, h7⟩
def pkU (s u : Sg) : PK := (u.n - s.n, s.c + (u.n - s.n) - u.c)
theorem nd_ps (s t : Sg) (mk : Int) : ((mids s t mk).map (pkU s)).Nodup := by
  unfold List.Nodup mids
  rw [List.pairwise_map, List.pairwise_flatMap]
  constructor
  · intro i _
    unfold midRow
    split
    · rw [List.pairwise_map]
      refine List.pairwise_lt_range.imp fun {a b} h z => ?_
      have := (Prod.mk.inj z).2
      have e : s.c + (s.n + (i : Int) - s.n) - (loC (s.n + (i : Int)) mk + (a : Int)) = s.c + (s.n + (i : Int) - s.n) - (loC (s.n + (i : Int)) mk + (b : Int)) := this
      omega
    · exact List.Pairwise.nil
  · refine List.pairwise_lt_range.imp fun {a b} h x hx y hy z => ?_
    have h1 := (mem_row.mp hx).2.1
    have h2 := (mem_row.mp hy).2.1
    have := (Prod.mk.inj z).1
    omega
/-- what is known of a sight -/
structure SgOk (s : Sg) : Prop where
  c0 : 0 ≤ s.c
  cn : s.c < s.n
  lo : 2 * (s.n - 1) - s.c ≤ s.m
  one : 1 < s.n ∨ s.m = 0
theorem SgOk.mid {s t u : Sg} {mk : Int} (h : u ∈ mids s t mk) : SgOk u ∧ u.a = s.a ∧ u.m = mk := by
  obtain ⟨h1, h2, h3, h4, h5, h6, h7⟩ := mem_mids.mp h
  unfold loC at h5
  refine ⟨⟨?_, h6, ?_, ?_⟩, h3, h4⟩
  · split at h5 <;> omega
  · rw [h4]; split at h5 <;> omega
  · rw [h4]; omega
theorem cover {s t : Sg} {mk : Int} (ok : SgOk s) (m0 : s.m ≤ mk) {S : Int} : ∀ a b : Int, a ≤ came s t → b ≤ went s t → (a, b) ∉ (mids s t mk).map (pkU s) → Lw S s.c (mk - s.m).toNat a b = 0 := fun a b ha hb hn => by
  refine Lw_not_reach ok.c0 fun r => hn ?_
  unfold reach at r
  have ha : a ≤ t.n - s.n := ha
  have e : (((mk - s.m).toNat : Nat) : Int) = mk - s.m := Int.toNat_of_nonneg (by omega)
  rw [e] at r
  have o1 := ok.c0
  have o2 := ok.cn
  have o3 := ok.lo
  have o4 := ok.one
  refine List.mem_map.mpr ⟨⟨s.a, s.c + a - b, s.n + a, mk⟩, mem_mids.mpr ⟨by show s.n ≤ s.n + a; omega, by show s.n + a ≤ t.n; omega, rfl, rfl, ?_, by show s.c + a - b < s.n + a; omega, ?_⟩, ?_⟩
  · show loC (s.n + a) mk ≤ s.c + a - b
    unfold loC
    split <;> omega
  · show s.n + a > 1 ∨ mk = 0
    omega
  · show ((s.n + a - s.n, s.c + (s.n + a - s.n) - (s.c + a - b)) : PK) = (a, b)
    exact Prod.ext (by show s.n + a - s.n = a; omega) (by show s.c + (s.n + a - s.n) - (s.c + a - b) = b; omega)
/-- the product over all sights at a mark between -/
theorem sum_mids {S : Int} {s t : Sg} {mk : Int} (os : SgOk s) (a : s.a = t.a) (m0 : s.m ≤ mk) (m1 : mk ≤ t.m) : sumI ((mids s t mk).map fun u => manyD S s u * manyD S u t) = manyD S s t := by
  have h := Lw_by (S := S) os.c0 ((mids s t mk).map (pkU s)) (nd_ps s t mk) (mk - s.m).toNat (came s t) (went s t) (cover os m0) (t.m - mk).toNat (came s t) (went s t) (Int.le_refl _) (Int.le_refl _)
  rw [many_W os.c0 a]
  unfold dD
  rw [show (t.m - s.m).toNat = (mk - s.m).toNat + (t.m - mk).toNat by omega, h, List.map_map]
  refine sum_congr fun u hu => ?_
  obtain ⟨ou, ua, um⟩ := SgOk.mid hu
  rw [many_W os.c0 ua.symm, many_W ou.c0 (ua.trans a)]
  show Lw S s.c (u.m - s.m).toNat (u.n - s.n) (s.c + (u.n - s.n) - u.c) * Lw S u.c (t.m - u.m).toNat (t.n - u.n) (u.c + (t.n - u.n) - t.c) = Lw S s.c (mk - s.m).toNat (u.n - s.n) (s.c + (u.n - s.n) - u.c) * Lw S (s.c + (u.n - s.n) - (s.c + (u.n - s.n) - u.c)) (t.m - mk).toNat (t.n - s.n - (u.n - s.n)) (s.c + (t.n - s.n) - t.c - (s.c + (u.n - s.n) - u.c))
  rw [um, show s.c + (u.n - s.n) - (s.c + (u.n - s.n) - u.c) = u.c by omega, show t.n - s.n - (u.n - s.n) = t.n - u.n by omega, show s.c + (t.n - s.n) - t.c - (s.c + (u.n - s.n) - u.c) = u.c + (t.n - u.n) - t.c by omega]
theorem many_nonneg {S : Int} {s t : Sg} (c0 : 0 ≤ s.c) (hS : 1 ≤ S) : 0 ≤ manyD S s t := by
  unfold manyD
  split
  · exact Lw_nonneg c0 hS _ _ _
  · exact Int.le_refl _
theorem many_pos {S : Int} {s t : Sg} (c0 : 0 ≤ s.c) (hS : 2 ≤ S) (h : hitP s t) : 0 < manyD S s t := by
  unfold manyD
  rw [if_pos h]
  exact Lw_pos c0 hS _ _ _ h.1
theorem many_hit {S : Int} {s t : Sg} (h : 0 < manyD S s t) : hitP s t := by
  unfold manyD at h
  by_cases k : hitP s t
  · exact k
  · rw [if_neg k] at h; exact absurd h (by decide)
/-! ### the counts between -/
def okU (s t u : Sg) : Prop := hitP s u ∧ hitP u t
instance (s t u : Sg) : Decidable (okU s t u) := by unfold okU; infer_instance
def cntsAt (s t : Sg) (mk : Int) : List Int := ((mids s t mk).filter fun u => decide (okU s t u)).map Sg.c
def cnts (s t : Sg) : Nat → List Int := fun i => (List.range i).flatMap fun j => cntsAt s t (s.m + (j : Nat))
theorem mem_cnts {s t : Sg} {n : Int} : n ∈ cnts s t (t.m + 1 - s.m).toNat ↔ ∃ mk u, s.m ≤ mk ∧ mk ≤ t.m ∧ u ∈ mids s t mk ∧ okU s t u ∧ u.c = n := by
  unfold cnts cntsAt
  rw [List.mem_flatMap]
  constructor
  · rintro ⟨j, hj, h⟩
    have := List.mem_range.mp hj
    obtain ⟨u, hu, rfl⟩ := List.mem_map.mp h
    obtain ⟨h1, h2⟩ := List.mem_filter.mp hu
    exact ⟨_, u, by omega, by omega, h1, of_decide_eq_true h2, rfl⟩
  · rintro ⟨mk, u, h1, h2, h3, h4, rfl⟩
    refine ⟨(mk - s.m).toNat, List.mem_range.mpr (by omega), ?_⟩
    rw [Int.toNat_of_nonneg (by omega), show s.m + (mk - s.m) = mk by omega]
    exact List.mem_map.mpr ⟨u, List.mem_filter.mpr ⟨h3, decide_eq_true h4⟩, rfl⟩
def fewI (s t : Sg) : Int := if 0 > s.c - went s t then 0 else s.c - went s t
theorem cnts_between {s t : Sg} {n : Int} (os : SgOk s) (h : n ∈ cnts s t (t.m + 1 - s.m).toNat) : fewI s t ≤ n ∧ n ≤ s.c + came s t := by
  obtain ⟨mk, u, h1, h2, h3, ⟨h4, h5⟩, rfl⟩ := mem_cnts.mp h
  obtain ⟨ou, ua, um⟩ := SgOk.mid h3
  have o1 := ou.c0
  have w1 : went s u = s.c + (u.n - s.n) - u.c := rfl
  have w2 : went u t = u.c + (t.n - u.n) - t.c := rfl
  have w3 : went s t = s.c + (t.n - s.n) - t.c := rfl
  have c1 : came s u = u.n - s.n := rfl
  have c2 : came u t = t.n - u.n := rfl
  have c3 : came s t = t.n - s.n := rfl
  unfold hitP reach at h4 h5
  unfold fewI
  constructor
  · split <;> omega
  · omega
theorem most_in {s t : Sg} (os : SgOk s) (t0 : 0 ≤ t.c) (m0 : s.m ≤ t.m) (h : hitP s t) : s.c + came s t ∈ cnts s t (t.m + 1 - s.m).toNat := by
  have dd : ((dD s t : Nat) : Int) = t.m - s.m := Int.toNat_of_nonneg (by omega)
  obtain ⟨o1, o2, o3, o4⟩ := os
  have h' := h
  unfold hitP reach at h'
  rw [dd] at h'
  have w3 : went s t = s.c + (t.n - s.n) - t.c := rfl
  have c3 : came s t = t.n - s.n := rfl
  refine mem_cnts.mpr ⟨s.m + came s t, ⟨s.a, s.c + came s t, t.n, s.m + came s t⟩, by omega, by omega, mem_mids.mpr ⟨by show s.n ≤ t.n; omega, Int.le_refl _, rfl, rfl, ?_, by show s.c + came s t < t.n; omega, by show t.n > 1 ∨ s.m + came s t = 0; omega⟩, ⟨⟨?_, rfl⟩, ⟨?_, h'.2⟩⟩, rfl⟩
  · show loC t.n (s.m + came s t) ≤ s.c + came s t
    unfold loC
    split <;> omega
  · have e : ((dD s ⟨s.a, s.c + came s t, t.n, s.m + came s t⟩ : Nat) : Int) = came s t := by unfold dD; show (((s.m + came s t - s.m).toNat : Nat) : Int) = _; omega
    have e1 : came s ⟨s.a, s.c + came s t, t.n, s.m + came s t⟩ = came s t := rfl
    have e2 : went s ⟨s.a, s.c + came s t, t.n, s.m + came s t⟩ = 0 := by show s.c + (t.n - s.n) - (s.c + came s t) = 0; omega
    unfold reach
    rw [e, e1, e2]
    omega
  · have e : ((dD ⟨s.a, s.c + came s t, t.n, s.m + came s t⟩ t : Nat) : Int) = t.m - s.m - came s t := by unfold dD; show (((t.m - (s.m + came s t)).toNat : Nat) : Int) = _; omega
    have e1 : came ⟨s.a, s.c + came s t, t.n, s.m + came s t⟩ t = 0 := by show t.n - t.n = 0; omega
    have e2 : went ⟨s.a, s.c + came s t, t.n, s.m + came s t⟩ t = went s t := by show s.c + came s t + (t.n - t.n) - t.c = _; omega
    unfold reach
    rw [e, e1, e2]
    show 0 ≤ 0 ∧ 0 ≤ went s t ∧ 0 + went s t ≤ t.m - s.m - came s t ∧ went s t ≤ s.c + came s t + 0 ∧ (0 + went s t < t.m - s.m - came s t → 0 < s.c + came s t + 0)
    omega
theorem few_in {s t : Sg} (os : SgOk s) (t0 : 0 ≤ t.c) (m0 : s.m ≤ t.m) (h : hitP s t) : fewI s t ∈ cnts s t (t.m + 1 - s.m).toNat := by
  have dd : ((dD s t : Nat) : Int) = t.m - s.m := Int.toNat_of_nonneg (by omega)
  obtain ⟨o1, o2, o3, o4⟩ := os
  have h' := h
  unfold hitP reach at h'
  rw [dd] at h'
  have w3 : went s t = s.c + (t.n - s.n) - t.c := rfl
  have c3 : came s t = t.n - s.n := rfl
  have fe : fewI s t = if 0 > s.c - went s t then 0 else s.c - went s t := rfl
  -- b letters go first, and with them the changes if none comes
  obtain ⟨b, hb⟩ : ∃ b, b = s.c - fewI s t := ⟨_, rfl⟩
  obtain ⟨x, hx⟩ : ∃ x : Int, x = if came s t = 0 then t.m - s.m - came s t - went s t else 0 := ⟨_, rfl⟩
  have b1 : 0 ≤ b ∧ b ≤ s.c ∧ b ≤ went s t ∧ (b < went s t → b = s.c) := by rw [hb, fe]; split <;> omega
  have x1 : 0 ≤ x ∧ x ≤ t.m - s.m - came s t - went s t ∧ (came s t = 0 → x = t.m - s.m - came s t - went s t) ∧ (came s t ≠ 0 → x = 0) := by rw [hx]; split <;> omega
  have fb : fewI s t = s.c - b := by omega
  refine mem_cnts.mpr ⟨s.m + b + x, ⟨s.a, s.c - b, s.n, s.m + b + x⟩, by omega, by omega, mem_mids.mpr ⟨Int.le_refl _, by show s.n ≤ t.n; omega, rfl, rfl, ?_, by show s.c - b < s.n; omega, by show s.n > 1 ∨ s.m + b + x = 0; omega⟩, ⟨⟨?_, rfl⟩, ⟨?_, h'.2⟩⟩, fb.symm⟩
  · show loC s.n (s.m + b + x) ≤ s.c - b
    unfold loC
    split <;> omega
  · have e : ((dD s ⟨s.a, s.c - b, s.n, s.m + b + x⟩ : Nat) : Int) = b + x := by unfold dD; show (((s.m + b + x - s.m).toNat : Nat) : Int) = _; omega
    have e1 : came s ⟨s.a, s.c - b, s.n, s.m + b + x⟩ = 0 := by show s.n - s.n = 0; omega
    have e2 : went s ⟨s.a, s.c - b, s.n, s.m + b + x⟩ = b := by show s.c + (s.n - s.n) - (s.c - b) = b; omega
    unfold reach
    rw [e, e1, e2]
    omega
  · have e : ((dD ⟨s.a, s.c - b, s.n, s.m + b + x⟩ t : Nat) : Int) = t.m - s.m - b - x := by unfold dD; show (((t.m - (s.m + b + x)).toNat : Nat) : Int) = _; omega
    have e1 : came ⟨s.a, s.c - b, s.n, s.m + b + x⟩ t = came s t := rfl
    have e2 : went ⟨s.a, s.c - b, s.n, s.m + b + x⟩ t = went s t - b := by show s.c - b + (t.n - s.n) - t.c = _; omega
    unfold reach
    rw [e, e1, e2]
    show 0 ≤ came s t ∧ 0 ≤ went s t - b ∧ came s t + (went s t - b) ≤ t.m - s.m - b - x ∧ went s t - b ≤ s.c - b + came s t ∧ (came s t + (went s t - b) < t.m - s.m - b - x → 0 < s.c - b + came s t)
    omega
end K1


set_option Elab.async false
set_option linter.all false
set_option maxRecDepth 100000
set_option maxHeartbeats 4000000
/-! The law's table of three numbers. -/
namespace K1
open PySem PySem.Spec PyProof.Rows L2 RZ
abbrev bI (b : Bool) : Int := if b = true then 1 else 0
def mx0 (x : Int) : Int := if x > 0 then x else 0
def Pq (S f0 c w g : Int) : Int := if 0 ≤ c ∧ 0 ≤ w ∧ 0 ≤ g then Lw S f0 (c + w + g).toNat c w else 0
theorem Pq_in {S f0 c w g : Int} (h : 0 ≤ c ∧ 0 ≤ w ∧ 0 ≤ g) : Pq S f0 c w g = Lw S f0 (c + w + g).toNat c w := if_pos h
theorem Pq_out {S f0 c w g : Int} (h : ¬ (0 ≤ c ∧ 0 ≤ w ∧ 0 ≤ g)) : Pq S f0 c w g = 0 := if_neg h
theorem Pq_step {S f0 c w g : Int} (hf : 0 ≤ f0) (h : 0 ≤ c ∧ 0 ≤ w ∧ 0 ≤ g) :
    (bI (decide (c + w + g = 0)) + Pq S f0 (c - 1) w g * S + Pq S f0 c (w - 1) g * mx0 (f0 + c - w + 1) + Pq S f0 c w (g - 1) * mx0 (f0 + c - w) * (S - 1)) * bI (decide (f0 + c - w ≥ 0)) = Pq S f0 c w g := by
  rw [Pq_in h]
  by_cases t0 : 0 ≤ f0 + c - w
  rotate_left
  · rw [decide_eq_false (show ¬ f0 + c - w ≥ 0 by omega), Lw_zero hf _ _ _ (by omega)]
    show _ * (0 : Int) = 0
    rw [Int.mul_zero]
  rw [decide_eq_true (show f0 + c - w ≥ 0 by omega)]
  show (_ : Int) * 1 = _
  rw [Int.mul_one]
  have m1 : mx0 (f0 + c - w + 1) = f0 + c - (w - 1) := by unfold mx0; rw [if_pos (by omega)]; omega
  have m0 : mx0 (f0 + c - w) = f0 + c - w := by unfold mx0; split <;> omega
  rw [m1, m0, Int.mul_assoc]
  by_cases z : c + w + g = 0
  · rw [decide_eq_true z, Pq_out (by omega), Pq_out (by omega), Pq_out (by omega), show (c + w + g).toNat = 0 by omega, Int.zero_mul, Int.zero_mul, Int.zero_mul]
    show (1 : Int) + 0 + 0 + 0 = if c = 0 ∧ w = 0 then 1 else 0
    rw [if_pos (by omega)]; rfl
  rw [decide_eq_false z]
  obtain ⟨i, hi⟩ : ∃ i : Nat, (c + w + g).toNat = i + 1 := ⟨(c + w + g).toNat - 1, by omega⟩
  rw [hi]
  show (0 : Int) + Pq S f0 (c - 1) w g * S + Pq S f0 c (w - 1) g * (f0 + c - (w - 1)) + Pq S f0 c w (g - 1) * ((f0 + c - w) * (S - 1)) = Lw S f0 i (c - 1) w * S + Lw S f0 i c (w - 1) * (f0 + c - (w - 1)) + Lw S f0 i c w * ((f0 + c - w) * (S - 1))
  have e1 : Pq S f0 (c - 1) w g = Lw S f0 i (c - 1) w := by
    by_cases k : 0 ≤ c - 1
    · rw [Pq_in ⟨k, h.2⟩, show (c - 1 + w + g).toNat = i by omega]
    · rw [Pq_out (fun z => k z.1), Lw_zero hf _ _ _ (.inl (by omega))]
  have e2 : Pq S f0 c (w - 1) g = Lw S f0 i c (w - 1) := by
    by_cases k : 0 ≤ w - 1
    · rw [Pq_in ⟨h.1, k, h.2.2⟩, show (c + (w - 1) + g).toNat = i by omega]
    · rw [Pq_out (fun z => k z.2.1), Lw_zero hf _ _ _ (.inr (.inl (by omega)))]
  have e3 : Pq S f0 c w (g - 1) = Lw S f0 i c w := by
    by_cases k : 0 ≤ g - 1
    · rw [Pq_in ⟨h.1, h.2.1, k⟩, show (c + w + (g - 1)).toNat = i by omega]
    · rw [Pq_out (fun z => k z.2.2), Lw_zero hf _ _ _ (.inr (.inr (.inl (by omega))))]
  rw [e1, e2, e3, Int.zero_add]
def k3 (c w g : Int) : List L2.Key := [.inl c, .inl w, .inl g]
theorem k3_inj {c w g c' w' g' : Int} (h : k3 c w g = k3 c' w' g') : c = c' ∧ w = w' ∧ g = g' := by
  have h1 := List.cons.inj h
  have h2 := List.cons.inj h1.2
  have h3 := List.cons.inj h2.2
  exact ⟨Sum.inl.inj h1.1, Sum.inl.inj h2.1, Sum.inl.inj h3.1⟩
/-- what is done before (C, W, G) -/
def doneT (B E C W G c w g : Int) : Prop := 0 ≤ c ∧ 0 ≤ w ∧ 0 ≤ g ∧ w ≤ B ∧ g ≤ E ∧ (c < C ∨ c = C ∧ (w < W ∨ w = W ∧ g < G))
instance (B E C W G c w g : Int) : Decidable (doneT B E C W G c w g) := by unfold doneT; infer_instance
def BookT (S f0 B E C W G : Int) (kvs : List (List L2.Key × V)) : Prop := ∀ c w g, valV kvs (k3 c w g) = if doneT B E C W G c w g then some (.int (Pq S f0 c w g)) else none
theorem BookT.get {S f0 B E C W G : Int} {kvs : List (List L2.Key × V)} (h : BookT S f0 B E C W G kvs) {c w g : Int} (k : doneT B E C W G c w g ∨ ¬ (0 ≤ c ∧ 0 ≤ w ∧ 0 ≤ g)) : (valV kvs (k3 c w g)).getD (.int 0) = .int (Pq S f0 c w g) := by
  rw [h c w g]
  rcases k with k | k
  · rw [if_pos k]; rfl
  · rw [if_neg (fun z => k (by unfold doneT at z; omega)), Pq_out k]; rfl
theorem BookT.put {S f0 B E C W G : Int} {kvs : List (List L2.Key × V)} (h : BookT S f0 B E C W G kvs) (h0 : 0 ≤ C ∧ 0 ≤ W ∧ 0 ≤ G ∧ W ≤ B ∧ G ≤ E) : BookT S f0 B E C W (G + 1) (putK kvs (k3 C W G) (.int (Pq S f0 C W G))) := fun c w g => by
  rw [valV_put]
  by_cases e : k3 c w g = k3 C W G
  · rw [if_pos e]
    obtain ⟨rfl, rfl, rfl⟩ := k3_inj e
    rw [if_pos (by unfold doneT; omega)]
  · rw [if_neg e, h c w g]
    have ne : ¬ (c = C ∧ w = W ∧ g = G) := fun z => e (by rw [z.1, z.2.1, z.2.2])
    by_cases k : doneT B E C W G c w g
    · rw [if_pos k, if_pos (by unfold doneT at *; omega)]
    · rw [if_neg k, if_neg (by unfold doneT at *; omega)]
theorem BookT.row {S f0 B E C W : Int} {kvs : List (List L2.Key × V)} (h : BookT S f0 B E C W (E + 1) kvs) (h0 : 0 ≤ W) : BookT S f0 B E C (W + 1) 0 kvs := fun c w g => by
  rw [h c w g]
  by_cases k : doneT B E C W (E + 1) c w g
  · rw [if_pos k, if_pos (by unfold doneT at *; omega)]
  · rw [if_neg k, if_neg (by unfold doneT at *; omega)]
theorem BookT.page {S f0 B E C : Int} {kvs : List (List L2.Key × V)} (h : BookT S f0 B E C (B + 1) 0 kvs) : BookT S f0 B E (C + 1) 0 0 kvs := fun c w g => by
  rw [h c w g]
  by_cases k : doneT B E C (B + 1) 0 c w g
  · rw [if_pos k, if_pos (by unfold doneT at *; omega)]
  · rw [if_neg k, if_neg (by unfold doneT at *; omega)]
theorem BookT.nil (S f0 B E : Int) : BookT S f0 B E 0 0 0 [] := fun c w g => by
  rw [if_neg (by unfold doneT; omega)]; rfl
abbrev sProd : Stmt := st__law_product
abbrev nProd : List Str := ["_law_count", "_law_told", "_law_kinds", "_law_found", "_law_came", "_law_went", "_law_changed", "_law_there", "_law_many"]
abbrev pProd : List Str := ["_law_count", "_law_told", "_law_kinds"]
theorem scProd : FnScope nProd pProd (defScope sProd) := ⟨rfl, rfl, rfl, by decide +kernel, rfl, by decide +kernel, by decide +kernel⟩
def spProd : Sp := fun vs H Q _ => ∃ (T : Addr) (f0 S c w g : Int), vs = [.int f0, .ref T, .int S] ∧ H T = some (.tup [.int c, .int w, .int g]) ∧ (0 ≤ f0 ∧ f0 ≤ 100) ∧ (0 ≤ c ∧ c ≤ 20) ∧ (0 ≤ w ∧ w ≤ 20) ∧ (0 ≤ g ∧ g ≤ 20) ∧ (1 ≤ S ∧ S ≤ 64) ∧
  ∀ H', Same H H' → Q (.int (Lw S f0 (c + w + g).toNat c w)) H'
abbrev PSt (T D : Addr) (f0 S : Int) (v4 v5 v6 v7 v8 : Option V) : L2.St := [some (.int f0), some (.ref T), some (.int S), some (.ref D), v4, v5, v6, v7, v8]
section
variable {P : Program} {w : World} {K : PySem.W.Frag} {mg : Str → Option Value} {base : Heap}
theorem ok_prod {f : Addr} {fd : FuncData} (T : Bj mg) (F : Fun K "_law_product" "_law_product" sProd f fd) : FnOk P w K mg base CX0 1 f fd pProd spProd := by
  have nd := scProd.nd
  refine F.ok scProd (fun vs H Q E h => ?_) (fun cdv A outer s0 H vs Q E hr h => ?_)
  · obtain ⟨T, f0, S, c, w, g, rfl, _⟩ := h
    rfl
  · obtain ⟨L, f0, S, c, w, g, rfl, hL, hf, hc, hw, hg, hS, q⟩ := h
    refine ⟨_, (pss_cons (ps_set (i := 3) nd rfl (Or.inl rfl) pe_dnewT)
 (C8.pss_cut (ps_for PassesOwn.never rfl (pi_range1 rfl T.range (pa_cons (pe_op op_add (pe_ix (ix_tupK (K := K) rfl) (pv 1) pe_int (fun _ _ => rfl)) pe_int) pa_nil)) (pg_name (i := 4) nd rfl (Or.inl rfl))
  (pss_one (ps_for PassesOwn.never rfl (pi_range1 rfl T.range (pa_cons (pe_op op_add (pe_ix (ix_tupK (K := K) rfl) (pv 1) pe_int (fun _ _ => rfl)) pe_int) pa_nil)) (pg_name (i := 5) nd rfl (Or.inl rfl))
  (pss_one (ps_for PassesOwn.never rfl (pi_range1 rfl T.range (pa_cons (pe_op op_add (pe_ix (ix_tupK (K := K) rfl) (pv 1) pe_int (fun _ _ => rfl)) pe_int) pa_nil)) (pg_name (i := 6) nd rfl (Or.inl rfl))
  (pss_cons (ps_set (i := 7) nd rfl (Or.inl rfl) (pe_op op_sub (pe_op op_add (pv 0) (pv 4)) (pv 5)))
 (pss_cons (ps_set (i := 8) nd rfl (Or.inl rfl) (pe_callTy call_int1 (by rfl) T.int PyProof.Rows.boot_int (pa_cons (pe_cmpR op_eq (pe_op op_add (pe_op op_add (pv 4) (pv 5)) (pv 6)) pe_int (nomark _)) pa_nil)))
 (pss_cons (ps_set (i := 8) nd rfl (Or.inl rfl) (pe_op op_add (pv 8) (pe_op op_mul (pe_dget2 (hu_of hr) (pv 3) (pe_tup (pa_cons (pe_op op_sub (pv 4) pe_int) (pa_cons (pv 5) (pa_cons (pv 6) pa_nil)))) pe_int ⟨rfl, rfl, rfl, rfl⟩) (pv 2))))
 (pss_cons (ps_set (i := 8) nd rfl (Or.inl rfl) (pe_op op_add (pv 8) (pe_op op_mul (pe_dget2 (hu_of hr) (pv 3) (pe_tup (pa_cons (pv 4) (pa_cons (pe_op op_sub (pv 5) pe_int) (pa_cons (pv 6) pa_nil)))) pe_int ⟨rfl, rfl, rfl, rfl⟩) (pe_callB (call_max2 rfl) (by rfl) T.max PyProof.Rows.boot_max (pa_cons pe_int (pa_cons (pe_op op_add (pv 7) pe_int) pa_nil))))))
 (pss_cons (ps_set (i := 8) nd rfl (Or.inl rfl) (pe_op op_add (pv 8) (pe_op op_mul (pe_op op_mul (pe_dget2 (hu_of hr) (pv 3) (pe_tup (pa_cons (pv 4) (pa_cons (pv 5) (pa_cons (pe_op op_sub (pv 6) pe_int) pa_nil)))) pe_int ⟨rfl, rfl, rfl, rfl⟩) (pe_callB (call_max2 rfl) (by rfl) T.max PyProof.Rows.boot_max (pa_cons pe_int (pa_cons (pv 7) pa_nil)))) (pe_op op_sub (pv 2) pe_int))))
 (pss_one (ps_dput (hu_of hr) (pv 3) (pe_tup (pa_cons (pv 4) (pa_cons (pv 5) (pa_cons (pv 6) pa_nil)))) (pe_op op_mul (pv 8) (pe_callTy call_int1 (by rfl) T.int PyProof.Rows.boot_int (pa_cons (pe_cmpR op_ge (pv 7) pe_int (nomark _)) pa_nil))) (by rfl)))))))))))))
 (pss_one (ps_ret (pe_dget (hu_of hr) (pv 3) (pv 1) (fun _ _ => rfl)))))), ?_⟩
    refine fun D nD => ?_
    have sD := same_new (o := .dT []) nD
    have hD0 : (upd H D (.dT [])) D = some (.dT []) := upd_same
    generalize upd H D (.dT []) = G0 at sD hD0
    refine ⟨fun σ G => ∃ (kvs : List (List L2.Key × V)) (v4 v5 v6 v7 v8 : Option V), σ = PSt L D f0 S v4 v5 v6 v7 v8 ∧ Same H G ∧ G D = some (.dT kvs) ∧ BookT S f0 w g (c + 1) 0 0 kvs, ?_, ?_⟩
    rotate_left
    · rintro σ G ⟨kvs, v4, v5, v6, v7, v8, rfl, sG, hD, bk⟩
      refine ⟨_, rfl, _, rfl, D, .int (Pq S f0 c w g), rfl, .inr ⟨kvs, k3 c w g, L, .inl hD, rfl, sG _ _ hL, ((bk c w g).trans (if_pos (by unfold doneT; omega))).symm⟩, ?_⟩
      rw [Pq_in ⟨hc.1, hw.1, hg.1⟩]; exact q G sG
    refine ⟨_, rfl, L, _, 0, .int c, rfl, rfl, st (sD _ _ hL), atI_nat (j := 0) rfl, _, _, rfl, rfl, _, rfl, by omega, by omega, for_range (lo := 0) (n := (c + 1).toNat) (fun i σ G => ∃ (kvs : List (List L2.Key × V)) (v4 v5 v6 v7 v8 : Option V), σ = PSt L D f0 S v4 v5 v6 v7 v8 ∧ Same H G ∧ G D = some (.dT kvs) ∧ BookT S f0 w g (0 + (i : Int)) 0 0 kvs ∧ kvs.length ≤ i * 441)
      ⟨[], none, none, none, none, none, rfl, sD, hD0, BookT.nil _ _ _ _, Nat.zero_le _⟩ ?_ ?_⟩
    rotate_left
    · rintro σ G ⟨kvs, v4, v5, v6, v7, v8, rfl, sG, hD, bk, _⟩
      rw [show (0 : Int) + (((c + 1).toNat : Nat) : Int) = c + 1 by omega] at bk
      exact ⟨kvs, v4, v5, v6, v7, v8, rfl, sG, hD, bk⟩
    rintro i σ G hi ⟨kvs, v4, v5, v6, v7, v8, rfl, sG, hD, bk, ln⟩
    refine ⟨_, rfl, L, _, 1, .int w, rfl, rfl, st (sG _ _ hL), atI_nat (j := 1) rfl, _, _, rfl, rfl, _, rfl, by omega, by omega, for_range (lo := 0) (n := (w + 1).toNat) (fun j σ G => ∃ (kvs : List (List L2.Key × V)) (v5 v6 v7 v8 : Option V), σ = PSt L D f0 S (some (.int (0 + (i : Int)))) v5 v6 v7 v8 ∧ Same H G ∧ G D = some (.dT kvs) ∧ BookT S f0 w g (0 + (i : Int)) (0 + (j : Int)) 0 kvs ∧ kvs.length ≤ i * 441 + j * 21)
      ⟨kvs, v5, v6, v7, v8, rfl, sG, hD, by rw [show (0 : Int) + ((0 : Nat) : Int) = 0 from rfl]; exact bk, by omega⟩ ?_ ?_⟩
    rotate_left
    · rintro σ G ⟨kvs, v5, v6, v7, v8, rfl, sG, hD, bk, ln⟩
      rw [show (0 : Int) + (((w + 1).toNat : Nat) : Int) = w + 1 by omega] at bk
      refine ⟨kvs, _, v5, v6, v7, v8, rfl, sG, hD, ?_, by omega⟩
      have e : (0 : Int) + ((i + 1 : Nat) : Int) = 0 + (i : Int) + 1 := by omega
      rw [e]
      exact bk.page
    rintro j σ G hj ⟨kvs, v5, v6, v7, v8, rfl, sG, hD, bk, ln⟩
    refine ⟨_, rfl, L, _, 2, .int g, rfl, rfl, st (sG _ _ hL), atI_nat (j := 2) rfl, _, _, rfl, rfl, _, rfl, by omega, by omega, for_range (lo := 0) (n := (g + 1).toNat) (fun k σ G => ∃ (kvs : List (List L2.Key × V)) (v6 v7 v8 : Option V), σ = PSt L D f0 S (some (.int (0 + (i : Int)))) (some (.int (0 + (j : Int)))) v6 v7 v8 ∧ Same H G ∧ G D = some (.dT kvs) ∧ BookT S f0 w g (0 + (i : Int)) (0 + (j : Int)) (0 + (k : Int)) kvs ∧ kvs.length ≤ i * 441 + j * 21 + k)
      ⟨kvs, v6, v7, v8, rfl, sG, hD, by rw [show (0 : Int) + ((0 : Nat) : Int) = 0 from rfl]; exact bk, by omega⟩ ?_ ?_⟩
    rotate_left
    · rintro σ G ⟨kvs, v6, v7, v8, rfl, sG, hD, bk, ln⟩
      rw [show (0 : Int) + (((g + 1).toNat : Nat) : Int) = g + 1 by omega] at bk
      refine ⟨kvs, _, v6, v7, v8, rfl, sG, hD, ?_, by omega⟩
      have e : (0 : Int) + ((j + 1 : Nat) : Int) = 0 + (j : Int) + 1 := by omega
      rw [e]
      exact bk.row (by omega)
    rintro k σ G hk ⟨kvs, v6, v7, v8, rfl, sG, hD, bk, ln⟩
    have dn : D ≠ D → False := fun z => z rfl
    have hDn : H D = none := nD
    obtain ⟨ci, hci⟩ : ∃ ci : Int, ci = 0 + (i : Int) := ⟨_, rfl⟩
    obtain ⟨wj, hwj⟩ : ∃ wj : Int, wj = 0 + (j : Int) := ⟨_, rfl⟩
    obtain ⟨gk, hgk⟩ : ∃ gk : Int, gk = 0 + (k : Int) := ⟨_, rfl⟩
    rw [← hci, ← hwj, ← hgk] at bk
    rw [← hci, ← hwj, ← hgk]
    have bc : 0 ≤ ci ∧ ci ≤ 20 := by omega
    have bw : 0 ≤ wj ∧ wj ≤ w := by omega
    have bg : 0 ≤ gk ∧ gk ≤ g := by omega
    refine ⟨_, rfl, _, rfl, _, _, rfl, rfl, _, rfl, _, _, rfl, rfl, ?_⟩
    refine ⟨_, rfl, _, rfl, _, _, rfl, rfl, _, rfl, _, _, rfl, rfl, rfl, .inr ⟨_, rfl, ?_⟩⟩
    have mb : ∀ x : Int, -200 ≤ x → x ≤ 200 → -(2 ^ 64) < (if x > 0 then x else 0) ∧ (if x > 0 then x else 0) < 2 ^ 64 := fun x h1 h2 => by split <;> omega
    refine ⟨_, rfl, _, rfl, D, rfl, .inr ⟨_, .inl hD⟩, _, rfl, _, _, rfl, rfl, _, rfl, _, rfl, (by show 3 ≤ sizeLine; decide), fun U1 nU1 => ⟨_, DGet.t (k := k3 (ci - 1) wj gk) (same_new nU1 _ _ hD) upd_same, _, rfl, _, _, bk.get (by unfold doneT; omega), rfl, .inr ⟨by omega, by omega⟩, _, _, rfl, rfl, ?_⟩⟩
    have s1 := sG.new (o := .tup [.int (ci - 1), .int wj, .int gk]) nU1
    have hD1 := same_new (o := .tup [.int (ci - 1), .int wj, .int gk]) nU1 _ _ hD
    generalize upd G U1 (.tup [.int (ci - 1), .int wj, .int gk]) = G1 at s1 hD1 ⊢
    refine ⟨_, rfl, _, rfl, D, rfl, .inr ⟨_, .inl hD1⟩, _, rfl, _, rfl, _, _, rfl, rfl, _, rfl, (by show 3 ≤ sizeLine; decide), fun U2 nU2 => ⟨_, DGet.t (k := k3 ci (wj - 1) gk) (same_new nU2 _ _ hD1) upd_same, _, rfl, _, _, rfl, rfl, _, _, rfl, _, _, bk.get (by unfold doneT; omega), rfl, .inr (mb (f0 + ci - wj + 1) (by omega) (by omega)), _, _, rfl, rfl, ?_⟩⟩
    have s2 := s1.new (o := .tup [.int ci, .int (wj - 1), .int gk]) nU2
    have hD2 := same_new (o := .tup [.int ci, .int (wj - 1), .int gk]) nU2 _ _ hD1
    generalize upd G1 U2 (.tup [.int ci, .int (wj - 1), .int gk]) = G2 at s2 hD2 ⊢
    refine ⟨_, rfl, _, rfl, D, rfl, .inr ⟨_, .inl hD2⟩, _, rfl, _, rfl, _, rfl, _, _, rfl, rfl, (by show 3 ≤ sizeLine; decide), fun U3 nU3 => ⟨_, DGet.t (k := k3 ci wj (gk - 1)) (same_new nU3 _ _ hD2) upd_same, _, rfl, _, _, rfl, _, _, bk.get (by unfold doneT; omega), rfl, .inr (mb (f0 + ci - wj) (by omega) (by omega)), _, rfl, _, _, rfl, rfl, _, _, rfl, rfl, .inr ⟨by omega, by omega⟩, _, _, rfl, rfl, ?_⟩⟩
    have s3 := s2.new (o := .tup [.int ci, .int wj, .int (gk - 1)]) nU3
    have hD3 := same_new (o := .tup [.int ci, .int wj, .int (gk - 1)]) nU3 _ _ hD2
    generalize upd G2 U3 (.tup [.int ci, .int wj, .int (gk - 1)]) = G3 at s3 hD3 ⊢
    have b01 : ∀ b : Bool, -(2 ^ 64) < (if b = true then (1 : Int) else 0) ∧ (if b = true then (1 : Int) else 0) < 2 ^ 64 := fun b => by cases b <;> decide
    refine ⟨_, rfl, _, rfl, _, _, rfl, rfl, .inr ⟨_, rfl, _, _, rfl, rfl, .inr (b01 _), ?_⟩⟩
    refine ⟨_, rfl, _, rfl, _, rfl, _, rfl, (by show 3 ≤ sizeLine; decide), fun U4 nU4 => ⟨D, _, rfl, .inr ⟨kvs, k3 ci wj gk, U4, same_new nU4 _ _ hD3, rfl, upd_same, lt2 _ (by omega), rfl⟩, ?_⟩⟩
    refine ⟨_, _, _, _, rfl, (s3.new nU4).mut hDn, upd_same, ?_, ?_⟩
    · have e : (0 : Int) + ((k + 1 : Nat) : Int) = gk + 1 := by omega
      rw [e]
      have st := Pq_step (S := S) (g := gk) hf.1 ⟨bc.1, bw.1, bg.1⟩
      have := bk.put ⟨bc.1, bw.1, bg.1, bw.2, bg.2⟩
      rw [← st] at this
      rw [← deqI] at this
      exact this
    · refine Nat.le_trans (length_putK _ _ _) (by omega)
theorem def_prod (T : Bj mg) (a : At K mg "_law_product" sProd) : Def P w K mg base CX0 1 "_law_product" pProd spProd :=
  a.def (fun _ _ _ _ _ _ us hl => match us, hl with | [_, _, _], _ => rfl) fun f fd F => ok_prod T F
end
end K1


set_option Elab.async false
set_option linter.all false
set_option maxRecDepth 100000
set_option maxHeartbeats 4000000
namespace K1
open PySem PySem.Spec PyProof.Rows L2 RZ
/-- values that are sights -/
def SgL (H : Hp) : List V → List Sg → Prop
  | [], [] => True
  | x :: xs, u :: us => (∃ a, x = .ref a ∧ SgAt H a u) ∧ SgL H xs us
  | _, _ => False
theorem SgL.app {H : Hp} {a : Addr} {u : Sg} (ha : SgAt H a u) : ∀ {xs : List V} {us : List Sg}, SgL H xs us → SgL H (xs ++ [.ref a]) (us ++ [u])
  | [], [], _ => ⟨⟨a, rfl, ha⟩, trivial⟩
  | _ :: _, _ :: _, h => ⟨h.1, SgL.app ha h.2⟩
theorem SgL.keep {H H' : Hp} (k : ∀ a u, SgAt H a u → SgAt H' a u) : ∀ {xs : List V} {us : List Sg}, SgL H xs us → SgL H' xs us
  | [], [], _ => trivial
  | _ :: _, _ :: _, ⟨⟨a, e, h⟩, t⟩ => ⟨⟨a, e, k _ _ h⟩, SgL.keep k t⟩
theorem SgL.get {H : Hp} : ∀ {xs : List V} {us : List Sg} {i : Nat} {x : V}, SgL H xs us → xs[i]? = some x → ∃ a u, us[i]? = some u ∧ x = .ref a ∧ SgAt H a u
  | x :: _, u :: _, 0, _, ⟨⟨a, e, h⟩, _⟩, hx => ⟨a, u, rfl, (Option.some.inj hx).symm.trans e, h⟩
  | _ :: _, _ :: _, i + 1, _, ⟨_, t⟩, hx => SgL.get (i := i) t (by simpa using hx)
theorem SgL.len {H : Hp} : ∀ {xs : List V} {us : List Sg}, SgL H xs us → xs.length = us.length
  | [], [], _ => rfl
  | _ :: _, _ :: _, h => by rw [List.length_cons, List.length_cons, SgL.len h.2]
theorem SgL.same {H H' : Hp} {xs : List V} {us : List Sg} (h : SgL H xs us) (s : Same H H') : SgL H' xs us := h.keep fun _ _ z => s _ _ z
theorem SgL.mut {H : Hp} {L : Addr} {o : HO} {ys xs : List V} {us : List Sg} (h : SgL H xs us) (hL : H L = some (.lst ys)) : SgL (upd H L o) xs us := h.keep fun a u z => by
  show (upd H L o) a = _
  rw [upd_ne (fun e => by rw [e] at z; have z : H L = _ := z; rw [hL] at z; cases z)]; exact z
abbrev sMid : Stmt := st__law_middle
abbrev nMid : List Str := ["_law_one_here", "_law_other", "_law_mark", "_law_found", "_law_top", "_law_count"]
abbrev pMid : List Str := ["_law_one_here", "_law_other", "_law_mark"]
theorem scMid : FnScope nMid pMid (defScope sMid) := ⟨rfl, rfl, rfl, by decide +kernel, rfl, by decide +kernel, by decide +kernel⟩
def spMid : Sp := fun vs H Q _ => ∃ (S O : Addr) (s t : Sg) (mk : Int), vs = [.ref S, .ref O, .int mk] ∧ SgAt H S s ∧ SgAt H O t ∧ 0 ≤ s.n ∧ s.n ≤ 100 ∧ 0 ≤ t.n ∧ t.n ≤ 100 ∧ 0 ≤ mk ∧ mk ≤ 10000 ∧
  ∀ (L : Addr) (xs : List V) (H' : Hp), Same H H' → H L = none → H' L = some (.lst xs) → SgL H' xs (mids s t mk) → xs.length ≤ 10100 → Q (.ref L) H'
def midsTo (s : Sg) (mk : Int) (i : Nat) : List Sg := (List.range i).flatMap fun i => midRow s (s.n + (i : Nat)) mk
theorem midsTo_succ (s : Sg) (mk : Int) (i : Nat) : midsTo s mk (i + 1) = midsTo s mk i ++ midRow s (s.n + (i : Nat)) mk := by
  unfold midsTo
  rw [List.range_succ, List.flatMap_append]
  show _ ++ (midRow s (s.n + (i : Nat)) mk ++ []) = _
  rw [List.append_nil]
def rowTo (s : Sg) (top mk : Int) (j : Nat) : List Sg := if top > 1 ∨ mk = 0 then (List.range j).map (fun j => ⟨s.a, loC top mk + (j : Nat), top, mk⟩) else []
theorem rowTo_succ (s : Sg) (top mk : Int) (j : Nat) : rowTo s top mk (j + 1) = rowTo s top mk j ++ (if top > 1 ∨ mk = 0 then [⟨s.a, loC top mk + (j : Nat), top, mk⟩] else []) := by
  unfold rowTo
  by_cases h : top > 1 ∨ mk = 0
  · rw [if_pos h, if_pos h, if_pos h, List.range_succ, List.map_append]; rfl
  · rw [if_neg h, if_neg h, if_neg h]; rfl
abbrev MSt (S O L : Addr) (mk : Int) (v4 v5 : Option V) : L2.St := [some (.ref S), some (.ref O), some (.int mk), some (.ref L), v4, v5]
section
variable {P : Program} {w : World} {K : PySem.W.Frag} {mg : Str → Option Value} {base : Heap}
theorem ok_mid {f : Addr} {fd : FuncData} (T : Bj mg) (F : Fun K "_law_middle" "_law_middle" sMid f fd) : FnOk P w K mg base CX0 1 f fd pMid spMid := by
  have nd := scMid.nd
  refine F.ok scMid (fun vs H Q E h => ?_) (fun cdv A outer s0 H vs Q E hr h => ?_)
  · obtain ⟨S, O, s, t, mk, rfl, _⟩ := h
    rfl
  · obtain ⟨S, O, s, t, mk, rfl, hS, hO, sn, sn2, tn0, tn, m0, m1, q⟩ := h
    refine ⟨_, (pss_cons (ps_set (i := 3) nd rfl (Or.inl rfl) (pe_lst pa_nil))
 (C8.pss_cut (ps_for PassesOwn.never rfl (pi_range2 rfl T.range (pa_cons (pe_ix (ix_tupK (K := K) rfl) (pv 0) pe_int (fun _ _ => rfl)) (pa_cons (pe_op op_add (pe_ix (ix_tupK (K := K) rfl) (pv 1) pe_int (fun _ _ => rfl)) pe_int) pa_nil))) (pg_name (i := 4) nd rfl (Or.inl rfl))
  (pss_one (ps_for PassesOwn.never rfl (pi_range2 rfl T.range (pa_cons (pe_callB (call_max2 rfl) (by rfl) T.max PyProof.Rows.boot_max (pa_cons pe_int (pa_cons (pe_op op_sub (pe_op op_mul pe_int (pe_op op_sub (pv 4) pe_int)) (pv 2)) pa_nil))) (pa_cons (pv 4) pa_nil))) (pg_name (i := 5) nd rfl (Or.inl rfl))
  (pss_one (ps_if (PW.pt (pw_or (pt_cmpR op_gt (pv 4) pe_int (nomark _)) (pw_or1 (pt_cmpR op_eq (pv 2) pe_int (nomark _)))))
  (pss_one (ps_expr (pe_bm PySem.F.plainAttrs_list PySem.F.slot_list_append PySem.F.type_list_append mt_append (pv 3) (pa_cons (pe_tup (pa_cons (pe_ix (ix_tupK (K := K) rfl) (pv 0) pe_int (fun _ _ => rfl)) (pa_cons (pv 5) (pa_cons (pv 4) (pa_cons (pv 2) pa_nil))))) pa_nil))))
  pss_nil)))))
 (pss_one (ps_ret (pv 3))))), ?_⟩
    refine ⟨(by show 0 ≤ sizeLine; decide), fun L nL => ?_⟩
    have s1 := same_new (o := .lst []) nL
    have hL1 : (upd H L (.lst [])) L = some (.lst []) := upd_same
    generalize upd H L (.lst []) = G0 at s1 hL1
    refine ⟨fun σ G => ∃ (xs : List V) (v4 v5 : Option V), σ = MSt S O L mk v4 v5 ∧ Same H G ∧ G L = some (.lst xs) ∧ SgL G xs (mids s t mk) ∧ xs.length ≤ 10100, ?_, ?_⟩
    rotate_left
    · rintro σ G ⟨xs, v4, v5, rfl, sG, hL, hx, ln⟩
      exact ⟨_, rfl, q L xs G sG nL hL hx ln⟩
    refine ⟨_, rfl, S, _, 2, .int s.n, rfl, rfl, st (s1 _ _ hS), atI_nat (j := 2) rfl, _, rfl, O, _, 2, .int t.n, rfl, rfl, st (s1 _ _ hO), atI_nat (j := 2) rfl, _, _, rfl, rfl, _, _, rfl, ⟨by omega, by omega, by omega, by omega⟩, for_range (lo := s.n) (n := (t.n + 1 - s.n).toNat) (fun i σ G => ∃ (xs : List V) (v4 v5 : Option V), σ = MSt S O L mk v4 v5 ∧ Same H G ∧ G L = some (.lst xs) ∧ SgL G xs (midsTo s mk i) ∧ xs.length ≤ i * 100)
      ⟨[], none, none, rfl, s1, hL1, trivial, Nat.zero_le _⟩ ?_ ?_⟩
    rotate_left
    · rintro σ G ⟨xs, v4, v5, rfl, sG, hL, hx, ln⟩
      exact ⟨xs, v4, v5, rfl, sG, hL, hx, by omega⟩
    rintro i σ G hi ⟨xs, v4, v5, rfl, sG, hL, hx, ln⟩
    obtain ⟨top, ht⟩ : ∃ top : Int, top = s.n + (i : Int) := ⟨_, rfl⟩
    rw [← ht]
    have lo1 : 0 ≤ loC top mk ∧ loC top mk ≤ 300 := by unfold loC; split <;> omega
    refine ⟨_, rfl, _, _, rfl, rfl, _, _, rfl, rfl, .inl ⟨by decide, by decide⟩, _, rfl, _, _, rfl, rfl, _, _, rfl, _, rfl, _, _, rfl, ⟨?_, ?_, by omega, by omega⟩, for_range (lo := loC top mk) (n := (top - loC top mk).toNat) (fun j σ G => ∃ (xs : List V) (v5 : Option V), σ = MSt S O L mk (some (.int top)) v5 ∧ Same H G ∧ G L = some (.lst xs) ∧ SgL G xs (midsTo s mk i ++ rowTo s top mk j) ∧ xs.length ≤ i * 100 + j)
      ⟨xs, v5, rfl, sG, hL, ?_, by omega⟩ ?_ ?_⟩
    · exact Int.le_trans (by decide) lo1.1
    · exact Int.lt_of_le_of_lt lo1.2 (by decide)
    · have e : rowTo s top mk 0 = [] := by unfold rowTo; split <;> rfl
      rw [e, List.append_nil]; exact hx
    rotate_left
    · rintro σ G ⟨xs, v5, rfl, sG, hL, hx, ln⟩
      refine ⟨xs, _, v5, rfl, sG, hL, ?_, by omega⟩
      rw [midsTo_succ, ← ht]; exact hx
    rintro j σ G hj ⟨xs, v5, rfl, sG, hL, hx, ln⟩
    obtain ⟨cn, hcn⟩ : ∃ cn : Int, cn = loC top mk + (j : Int) := ⟨_, rfl⟩
    have eR : top > 1 ∨ mk = 0 → rowTo s top mk (j + 1) = rowTo s top mk j ++ [⟨s.a, cn, top, mk⟩] := fun z => by rw [rowTo_succ, if_pos z, hcn]
    have eN : ¬ (top > 1 ∨ mk = 0) → rowTo s top mk (j + 1) = rowTo s top mk j := fun z => by rw [rowTo_succ, if_neg z, List.append_nil]
    rw [← hcn]
    refine ⟨_, rfl, _, _, rfl, rfl, _, rfl, ?_⟩
    by_cases c1 : top > 1
    · refine itbT (decide_eq_true c1) (itbT rfl ?_)
      refine ⟨_, rfl, .inl ⟨rfl, _, sq hL⟩, _, rfl, S, _, 0, .int s.a, rfl, rfl, st (sG _ _ hS), atI_nat (j := 0) rfl, _, rfl, _, rfl, _, rfl, (by show 4 ≤ sizeLine; decide), fun U nU => ?_⟩
      have nUL : U ≠ L := fun z => by rw [z, hL] at nU; cases nU
      have hL2 := same_new (o := .tup [.int s.a, .int cn, .int top, .int mk]) nU _ _ hL
      have hx2 := (hx.same (same_new (o := .tup [.int s.a, .int cn, .int top, .int mk]) nU)).app (a := U) (u := ⟨s.a, cn, top, mk⟩) upd_same
      refine ⟨L, xs, .ref U, rfl, rfl, hL2, lt2 _ (by omega), xs ++ [.ref U], _, rfl, (sG.new nU).mut nL, upd_same, ?_, by rw [List.length_append]; show xs.length + 1 ≤ _; omega⟩
      rw [eR (.inl c1), ← List.append_assoc]
      exact hx2.mut hL2
    refine itbF (decide_eq_false c1) ⟨_, rfl, rfl, _, rfl, ?_⟩
    by_cases c2 : mk = 0
    · refine itbT (by rw [deqI]; exact decide_eq_true c2) ?_
      refine ⟨_, rfl, .inl ⟨rfl, _, sq hL⟩, _, rfl, S, _, 0, .int s.a, rfl, rfl, st (sG _ _ hS), atI_nat (j := 0) rfl, _, rfl, _, rfl, _, rfl, (by show 4 ≤ sizeLine; decide), fun U nU => ?_⟩
      have nUL : U ≠ L := fun z => by rw [z, hL] at nU; cases nU
      have hL2 := same_new (o := .tup [.int s.a, .int cn, .int top, .int mk]) nU _ _ hL
      have hx2 := (hx.same (same_new (o := .tup [.int s.a, .int cn, .int top, .int mk]) nU)).app (a := U) (u := ⟨s.a, cn, top, mk⟩) upd_same
      refine ⟨L, xs, .ref U, rfl, rfl, hL2, lt2 _ (by omega), xs ++ [.ref U], _, rfl, (sG.new nU).mut nL, upd_same, ?_, by rw [List.length_append]; show xs.length + 1 ≤ _; omega⟩
      rw [eR (.inr c2), ← List.append_assoc]
      exact hx2.mut hL2
    · refine itbF (by rw [deqI]; exact decide_eq_false c2) ⟨xs, _, rfl, sG, hL, ?_, by omega⟩
      rw [eN (fun z => z.elim c1 c2)]
      exact hx
theorem def_mid (T : Bj mg) (a : At K mg "_law_middle" sMid) : Def P w K mg base CX0 1 "_law_middle" pMid spMid :=
  a.def (fun _ _ _ _ _ _ us hl => match us, hl with | [_, _, _], _ => rfl) fun f fd F => ok_mid T F
end
end K1


set_option Elab.async false
set_option linter.all false
set_option maxRecDepth 100000
set_option maxHeartbeats 4000000
namespace K1
open PySem PySem.Spec PyProof.Rows L2 RZ
theorem sightB_mk {s : Sg} (a : 1 ≤ s.a) (o : SgOk s) : sightB (sgD s) = true := by
  obtain ⟨c, n, m, o⟩ := o
  show (isNum (.int s.a) && (isInt (.int s.c) && (isNum (.int s.n) && (isMark (.int s.m) && ((decide (0 ≤ s.c) && decide (s.c < s.n)) && (!decide (s.m < 2 * (s.n - 1) - s.c) && (decide (1 < s.n) || decide (s.m = 0)))))))) = true
  have e1 : isNum (.int s.a) = true := decide_eq_true a
  have e2 : isNum (.int s.n) = true := decide_eq_true (by omega)
  have e3 : isMark (.int s.m) = true := decide_eq_true (by omega)
  have e4 : isInt (.int s.c) = true := rfl
  have e5 : (decide (1 < s.n) || decide (s.m = 0)) = true := by rcases o with h | h <;> simp [h]
  rw [e1, e2, e3, e4, e5, decide_eq_true c, decide_eq_true n, decide_eq_false (by omega)]; rfl
theorem ckR_ok {s t : Sg} (h1 : sightB (sgD s) = true) (h2 : sightB (sgD t) = true) : ckR (sgD s) (sgD t) = none := by
  unfold ckR; rw [h1, h2, if_pos rfl, if_pos rfl]
theorem twoR_ok {f : Sg → Sg → PyData} {s t : Sg} (h1 : sightB (sgD s) = true) (h2 : sightB (sgD t) = true) : twoR f [sgD s, sgD t] = .ok (f s t) := by
  show (match ckR (sgD s) (sgD t) with | some e => Res.er e | none => .ok (f (sgOf (sgD s)) (sgOf (sgD t)))) = _
  rw [ckR_ok h1 h2]; rfl
theorem waysR_ok {s t : Sg} {k : Int} (h1 : sightB (sgD s) = true) (h2 : sightB (sgD t) = true) (k0 : 0 ≤ k) (k6 : k ≤ 6) : waysR [sgD s, sgD t, .int k] = waysD s t k := by
  show (match ckR (sgD s) (sgD t) with | some e => Res.er e | none => if sgnOk (.int k) = true then waysD (sgOf (sgD s)) (sgOf (sgD t)) k else .er (.why "s")) = _
  rw [ckR_ok h1 h2]
  show (if sgnOk (.int k) = true then waysD (sgOf (sgD s)) (sgOf (sgD t)) k else .er (.why "s")) = _
  rw [if_pos (by show (true && (decide (0 ≤ k) && decide (k ≤ 6))) = true; rw [decide_eq_true k0, decide_eq_true k6]; rfl)]
  rfl
theorem ways_many {s t : Sg} {n : Nat} (c0 : 0 ≤ s.c) (t0 : 0 ≤ t.c) (m0 : s.m ≤ t.m) (m1 : t.m - s.m ≤ 60) : waysD s t (n : Int) = .ok (.int (manyD (2 ^ n) s t)) := by
  have dd : ((dD s t : Nat) : Int) = t.m - s.m := Int.toNat_of_nonneg (by omega)
  unfold waysD manyD
  rw [hit_btw c0 t0 m0]
  by_cases h : hitP s t
  · rw [if_pos h, if_pos h]
    show (if 60 < t.m - s.m then Res.er (.lim 60) else .ok (.int (Rw (2 ^ (n : Int).toNat) s.c (came s t) (went s t) (came s t + went s t + ((dD s t : Int) - came s t - went s t)).toNat (came s t) (went s t)))) = _
    have h' := h
    unfold hitP reach at h'
    rw [if_neg (by omega), Rw_Lw h'.1.1 h'.1.2.1, if_pos ⟨Int.le_refl _, Int.le_refl _⟩, show (came s t + went s t + ((dD s t : Int) - came s t - went s t)).toNat = dD s t by omega]
    rfl
  · rw [if_neg h, if_neg h]
theorem pow_lo : ∀ n : Nat, n < 7 → (1 : Int) ≤ 2 ^ n ∧ (2 : Int) ^ n ≤ 64 := by
  have h : ∀ n : Fin 7, (1 : Int) ≤ 2 ^ n.val ∧ (2 : Int) ^ n.val ≤ 64 := by decide
  exact fun n hn => h ⟨n, hn⟩
theorem par_go {i j : Nat} {ta : TA} {tb : TS} {D : Ends} {σ : L2.St} {H : Hp} (h : ta σ H fun vs H1 => ∃ v w, vs = [v, w] ∧ tb D ((σ.set i (some v)).set j (some w)) H1) : tSeq (tPar i j ta) tb D σ H := h
def FrN (p : Addr) (H H' : Hp) : Prop := ∀ b o, b ≠ p → H b = some o → (∀ ps, o ≠ .tbl ps) → H' b = some o
theorem sqF {K : PySem.W.Frag} {H H' : Hp} {p a : Addr} {xs : List V} (h : SqL K H a xs) (np : H p = none) (e : FrN p H H') : SqL K H' a xs := by
  rcases h with (h | ⟨o, h⟩) | h
  · exact .inl (.inl (e _ _ (ne_of_none h np) h fun _ z => by cases z))
  · exact .inl (.inr ⟨o, e _ _ (ne_of_none h np) h fun _ z => by cases z⟩)
  · exact .inr h
theorem FrN.trans {p : Addr} {A B C : Hp} (x : FrN p A B) (y : FrN p B C) : FrN p A C := fun b o n h k => y b o n (x b o n h k) k
theorem FrN.same {p : Addr} {A B : Hp} (x : Same A B) : FrN p A B := fun b o _ h _ => x b o h
theorem FrN.ext {p : Addr} {A B : Hp} (x : Ext p A B) : FrN p A B := fun b o n h _ => x b o n h
theorem FrN.extN {p : Addr} {A B : Hp} (x : LamX.ExtN A B) : FrN p A B := fun b o _ h k => x b o h k
theorem FrN.sg {p : Addr} {A B : Hp} (x : FrN p A B) {a : Addr} {s : Sg} (n : a ≠ p) (h : SgAt A a s) : SgAt B a s := x _ _ n h fun _ z => by cases z
theorem WellT.extN {H H' : Hp} {p : Addr} {k : Nat} (w : WellT H p k) (e : LamX.ExtN H H') : WellT H' p k := w.keep fun o h => by
  obtain ⟨c, m, t, hw, _⟩ := w
  rw [hw] at h
  obtain rfl := Option.some.inj h
  exact e _ _ hw fun _ z => by cases z
theorem WellT.same {H H' : Hp} {p : Addr} {k : Nat} (w : WellT H p k) (e : Same H H') : WellT H' p k := w.keep fun o h => e _ _ h
theorem WellT.new {H : Hp} {p q : Addr} {k : Nat} {o : HO} (w : WellT H p k) (n : H q = none) : WellT (upd H q o) p k := w.same (same_new n)
theorem kinds_at : ∀ n : Nat, n < 7 → [V.int 1, V.int 2, V.int 4, V.int 8, V.int 16, V.int 32, V.int 64][n]? = some (.int (2 ^ n))
  | 0, _ => by rw [show (2 : Int) ^ 0 = 1 from by decide]; rfl
  | 1, _ => by rw [show (2 : Int) ^ 1 = 2 from by decide]; rfl
  | 2, _ => by rw [show (2 : Int) ^ 2 = 4 from by decide]; rfl
  | 3, _ => by rw [show (2 : Int) ^ 3 = 8 from by decide]; rfl
  | 4, _ => by rw [show (2 : Int) ^ 4 = 16 from by decide]; rfl
  | 5, _ => by rw [show (2 : Int) ^ 5 = 32 from by decide]; rfl
  | 6, _ => by rw [show (2 : Int) ^ 6 = 64 from by decide]; rfl
theorem tabs0 (H : Hp) : LamX.Tabs [] H := fun p hp => nomatch hp
/-- what ways tells of two sights -/
theorem gv_ways {CV CL : Addr} {T : List (Addr × Str)} {σ : L2.St} {H : Hp} {ta : TA} {s t : Sg} {n : Nat} {E : XK} (os : SgOk s) (ot : SgOk t) (sa : 1 ≤ s.a) (ta1 : 1 ≤ t.a) (hn : n < 7) (m0 : s.m ≤ t.m) (m1 : t.m - s.m ≤ 60) (c1 : s.c ≤ 1000) (ha : GvA T ta σ H [sgD s, sgD t, .int (n : Int)]) :
    Gv T (tCall (spR CV CL waysOk waysR) [] E ta) σ H (.int (manyD (2 ^ n) s t)) :=
  gv_call (show waysOk [sgD s, sgD t, .int (n : Int)] from fun _ => c1) ((waysR_ok (sightB_mk sa os) (sightB_mk ta1 ot) (by omega) (by omega)).trans (ways_many os.c0 ot.c0 m0 m1)) ha
theorem gv_two {CV CL : Addr} {T : List (Addr × Str)} {σ : L2.St} {H : Hp} {ta : TA} {f : Sg → Sg → PyData} {s t : Sg} {E : XK} (os : SgOk s) (ot : SgOk t) (sa : 1 ≤ s.a) (ta1 : 1 ≤ t.a) (ha : GvA T ta σ H [sgD s, sgD t]) :
    Gv T (tCall (spR CV CL isTwo (twoR f)) [] E ta) σ H (f s t) := gv_call (show isTwo [sgD s, sgD t] from rfl) (twoR_ok (sightB_mk sa os) (sightB_mk ta1 ot)) ha
abbrev sPair : Stmt := st__law_pair
abbrev nPair : List Str := ["_law_well_here", "_law_top", "_law_count", "_law_one_here", "_law_came", "_law_went", "_law_changed"]
abbrev pPair : List Str := ["_law_well_here"]
theorem scPair : FnScope nPair pPair (defScope sPair) := ⟨rfl, rfl, rfl, by decide +kernel, rfl, by decide +kernel, by decide +kernel⟩
abbrev sFar : Stmt := st__law_far_right
abbrev nFar : List Str := ["_law_well_here", "_law_count", "_law_signs", "_law_came", "_law_changed", "_law_went", "_law_one_here", "_law_other"]
abbrev pFar : List Str := ["_law_well_here"]
theorem scFar : FnScope nFar pFar (defScope sFar) := ⟨rfl, rfl, rfl, by decide +kernel, rfl, by decide +kernel, by decide +kernel⟩
/-- what the law's pair keeps to -/
structure PairOk (s t : Sg) : Prop where
  os : SgOk s
  ot : SgOk t
  a1 : 1 ≤ s.a
  aa : s.a = t.a
  n6 : s.n ≤ 6
  n20 : t.n ≤ 20
  m0 : s.m ≤ t.m
  m1 : t.m - s.m ≤ 20
  m2 : s.m ≤ 30
  hit : hitP s t
def cwg (s t : Sg) : List V := [.int (came s t), .int (went s t), .int ((dD s t : Int) - came s t - went s t)]
def spPair : Sp := fun vs H Q _ => ∃ (p : Addr) (k : Nat), vs = [.ref p] ∧ WellT H p k ∧ k ≤ 90000 ∧ ∀ (R S O U : Addr) (s t : Sg) (H' : Hp), PairOk s t → Ext p H H' → WellT H' p (k + 6) → H' R = some (.tup [.ref S, .ref O, .ref U]) → SgAt H' S s → SgAt H' O t → H' U = some (.tup (cwg s t)) → S ≠ p → O ≠ p → U ≠ p → Q (.ref R) H'
def spFar : Sp := fun vs H Q _ => ∃ (p : Addr) (k : Nat), vs = [.ref p] ∧ WellT H p k ∧ k ≤ 90000 ∧ ∀ (H' : Hp), FrN p H H' → WellT H' p (k + 5) → Q (.bl true) H'
section
variable {P : Program} {w : World} {K : PySem.W.Frag} {mg : Str → Option Value} {base : Heap} {CV CL : Addr}
theorem bI_01 (b : Bool) : 0 ≤ bI b ∧ bI b ≤ 1 := by unfold bI; split <;> decide
theorem mul_bI (d : Int) (b : Bool) : d * bI b = d ∧ b = true ∨ d * bI b = 0 ∧ b = false := by
  cases b
  · exact .inr ⟨Int.mul_zero d, rfl⟩
  · exact .inl ⟨Int.mul_one d, rfl⟩
theorem ok_pair {f : Addr} {fd : FuncData} (T : Bj mg) (D_draw : Def P w K mg base CX0 1 "_law_draw" pDraw spDraw) (F : Fun K "_law_pair" "_law_pair" sPair f fd) : FnOk P w K mg base CX0 2 f fd pPair spPair := by
  have nd := scPair.nd
  refine F.ok scPair (fun vs H Q E h => ?_) (fun cdv A outer s0 H vs Q E hr h => ?_)
  · obtain ⟨p, k, rfl, _⟩ := h
    rfl
  · obtain ⟨p, k, rfl, hw, hk, q⟩ := h
    refine ⟨_, (pss_cons (ps_set (i := 1) nd rfl (Or.inl rfl) (pe_op op_add pe_int (pe_def D_draw (hr.mono (by decide)) rfl pass0 (pa_cons (pv 0) (pa_cons pe_int pa_nil)))))
 (pss_cons (ps_set (i := 2) nd rfl (Or.inl rfl) (pe_def D_draw (hr.mono (by decide)) rfl pass0 (pa_cons (pv 0) (pa_cons (pv 1) pa_nil))))
 (pss_cons (ps_set (i := 3) nd rfl (Or.inl rfl) (pe_tup (pa_cons pe_int (pa_cons (pv 2) (pa_cons (pv 1) (pa_cons (pe_op op_add (pe_op op_sub (pe_op op_mul pe_int (pe_op op_sub (pv 1) pe_int)) (pv 2)) (pe_op op_mul (pe_def D_draw (hr.mono (by decide)) rfl pass0 (pa_cons (pv 0) (pa_cons pe_int pa_nil))) (pe_callTy call_int1 (by rfl) T.int PyProof.Rows.boot_int (pa_cons (pe_cmpR op_gt (pv 1) pe_int (nomark _)) pa_nil)))) pa_nil))))))
 (pss_cons (ps_par (i := 4) (j := 5) (by rfl) nd rfl rfl (by decide) rfl rfl (pa_cons (pe_def D_draw (hr.mono (by decide)) rfl pass0 (pa_cons (pv 0) (pa_cons pe_int pa_nil))) (pa_cons (pe_def D_draw (hr.mono (by decide)) rfl pass0 (pa_cons (pv 0) (pa_cons pe_int pa_nil))) pa_nil)) (by rfl))
 (pss_cons (ps_set (i := 5) nd rfl (Or.inl rfl) (pe_callB (call_min2 rfl) (by rfl) T.min PyProof.Rows.boot_min (pa_cons (pv 5) (pa_cons (pe_op op_add (pv 2) (pv 4)) pa_nil))))
 (pss_cons (ps_set (i := 6) nd rfl (Or.inl rfl) (pe_op op_mul (pe_def D_draw (hr.mono (by decide)) rfl pass0 (pa_cons (pv 0) (pa_cons pe_int pa_nil))) (pe_callTy call_int1 (by rfl) T.int PyProof.Rows.boot_int (pa_cons (pe_cmpR op_gt (pe_op op_add (pv 2) (pv 4)) pe_int (nomark _)) pa_nil))))
 (pss_one (ps_ret (pe_tup (pa_cons (pv 3) (pa_cons (pe_tup (pa_cons pe_int (pa_cons (pe_op op_sub (pe_op op_add (pv 2) (pv 4)) (pv 5)) (pa_cons (pe_op op_add (pv 1) (pv 4)) (pa_cons (pe_op op_add (pe_op op_add (pe_op op_add (pe_ix (ix_tupK (K := K) rfl) (pv 3) pe_int (fun _ _ => rfl)) (pv 4)) (pv 5)) (pv 6)) pa_nil))))) (pa_cons (pe_tup (pa_cons (pv 4) (pa_cons (pv 5) (pa_cons (pv 6) pa_nil)))) pa_nil)))))))))))), ?_⟩
    refine ⟨_, rfl, p, 6, k, rfl, hw, by omega, by decide, by decide, fun d1 H1 a0 a1 e1 w1 => ⟨_, _, rfl, rfl, ?_⟩⟩
    refine ⟨_, rfl, _, rfl, p, 1 + d1, k + 1, rfl, w1, by omega, by omega, by omega, fun d2 H2 b0 b1 e2 w2 => ?_⟩
    refine ⟨_, rfl, _, rfl, _, rfl, _, _, rfl, rfl, _, _, rfl, rfl, .inl ⟨by decide, by decide⟩, _, rfl, _, _, rfl, rfl, ?_⟩
    refine ⟨_, rfl, p, 9, k + 2, rfl, w2, by omega, by decide, by decide, fun d3 H3 c0 c1 e3 w3 => ?_⟩
    refine ⟨_, rfl, _, _, rfl, rfl, .inr ⟨_, rfl, _, _, rfl, rfl, .inl ⟨by omega, by omega⟩, _, _, rfl, rfl, (by show 4 ≤ sizeLine; decide), fun S nS => ?_⟩⟩
    obtain ⟨M, hM⟩ : ∃ M : Int, M = 2 * (1 + d1 - 1) - d2 + d3 * bI (decide (1 + d1 > 1)) := ⟨_, rfl⟩
    have hb1 := mul_bI d3 (decide (1 + d1 > 1))
    dsimp only
    rw [← hM]
    have wS := w3.new (o := .tup [.int 3, .int d2, .int (1 + d1), .int M]) nS
    have nSp : S ≠ p := w3.at.ne nS
    have eS := ((e1.trans e2).trans e3).new (o := .tup [.int 3, .int d2, .int (1 + d1), .int M]) nS
    have hS : SgAt (upd H3 S (.tup [.int 3, .int d2, .int (1 + d1), .int M])) S ⟨3, d2, 1 + d1, M⟩ := upd_same
    generalize upd H3 S (.tup [.int 3, .int d2, .int (1 + d1), .int M]) = G at wS eS hS ⊢
    refine par_go ?_
    refine ⟨_, rfl, p, 6, k + 3, rfl, wS, by omega, by decide, by decide, fun d4 H4 f0 f1 e4 w4 => ⟨_, rfl, p, 6, k + 4, rfl, w4, by omega, by decide, by decide, fun d5 H5 g0 g1 e5 w5 => ⟨_, _, rfl, ?_⟩⟩⟩
    refine ⟨_, rfl, _, rfl, _, rfl, _, _, rfl, rfl, _, _, rfl, ?_⟩
    obtain ⟨w', hw'⟩ : ∃ w' : Int, w' = if d2 + d4 < d5 then d2 + d4 else d5 := ⟨_, rfl⟩
    have w1' : 0 ≤ w' ∧ w' ≤ 5 ∧ w' ≤ d2 + d4 := by rw [hw']; split <;> omega
    dsimp only
    rw [← hw']
    refine ⟨_, rfl, p, 9, k + 5, rfl, w5, by omega, by decide, by decide, fun d6 H6 i0 i1 e6 w6 => ⟨_, rfl, _, rfl, _, _, rfl, rfl, _, _, rfl, rfl, .inr ⟨_, rfl, _, _, rfl, rfl, .inl ⟨by omega, by omega⟩, ?_⟩⟩⟩
    obtain ⟨X, hX⟩ : ∃ X : Int, X = d6 * bI (decide (d2 + d4 > 0)) := ⟨_, rfl⟩
    have hb2 := mul_bI d6 (decide (d2 + d4 > 0))
    dsimp only
    rw [← hX]
    have hS6 : SgAt H6 S ⟨3, d2, 1 + d1, M⟩ := e6 _ _ nSp (e5 _ _ nSp (e4 _ _ nSp hS))
    refine ⟨_, rfl, _, rfl, _, rfl, _, _, rfl, rfl, _, rfl, _, _, rfl, rfl, _, rfl, _, rfl, _, _, rfl, rfl, _, rfl, S, _, 3, .int M, rfl, rfl, st hS6, atI_nat (j := 3) rfl, _, rfl, _, _, rfl, rfl, _, rfl, _, _, rfl, rfl, _, rfl, _, _, rfl, rfl, (by show 4 ≤ sizeLine; decide), fun O nO => ⟨_, rfl, _, rfl, _, rfl, (by show 3 ≤ sizeLine; decide), fun U nU => ⟨(by show 3 ≤ sizeLine; decide), fun R nR => ?_⟩⟩⟩
    have wO := w6.new (o := .tup [.int 3, .int (d2 + d4 - w'), .int (1 + d1 + d4), .int (M + d4 + w' + X)]) nO
    have nOp : O ≠ p := w6.at.ne nO
    have wU := wO.new (o := .tup [.int d4, .int w', .int X]) nU
    have nUp : U ≠ p := wO.at.ne nU
    have sO := same_new (o := .tup [.int 3, .int (d2 + d4 - w'), .int (1 + d1 + d4), .int (M + d4 + w' + X)]) nO
    have sU := same_new (o := .tup [.int d4, .int w', .int X]) nU
    have sR := same_new (o := .tup [.ref S, .ref O, .ref U]) nR
    rw [decide_eq_true_iff, decide_eq_false_iff_not] at hb1 hb2
    have dd : ((dD ⟨3, d2, 1 + d1, M⟩ ⟨3, d2 + d4 - w', 1 + d1 + d4, M + d4 + w' + X⟩ : Nat) : Int) = d4 + w' + X := by
      unfold dD
      show (((M + d4 + w' + X - M).toNat : Nat) : Int) = _
      omega
    have hc : came ⟨3, d2, 1 + d1, M⟩ ⟨3, d2 + d4 - w', 1 + d1 + d4, M + d4 + w' + X⟩ = d4 := by show 1 + d1 + d4 - (1 + d1) = d4; omega
    have hg : went ⟨3, d2, 1 + d1, M⟩ ⟨3, d2 + d4 - w', 1 + d1 + d4, M + d4 + w' + X⟩ = w' := by unfold went; rw [hc]; show d2 + d4 - (d2 + d4 - w') = w'; omega
    refine q R S O U ⟨3, d2, 1 + d1, M⟩ ⟨3, d2 + d4 - w', 1 + d1 + d4, M + d4 + w' + X⟩ _ ⟨⟨b0, ?_, ?_, ?_⟩, ⟨?_, ?_, ?_, ?_⟩, by show (1 : Int) ≤ 3; decide, rfl, by show 1 + d1 ≤ 6; omega, by show 1 + d1 + d4 ≤ 20; omega, by show M ≤ M + d4 + w' + X; omega, by show M + d4 + w' + X - M ≤ 20; omega, by show M ≤ 30; omega, ⟨?_, rfl⟩⟩
      (((((eS.trans e4).trans e5).trans e6).new nO |>.new nU).new nR) (wU.new nR) upd_same (sR _ _ (sU _ _ (sO _ _ hS6))) (sR _ _ (sU _ _ upd_same)) (sR _ _ ?_) nSp nOp nUp
    · show d2 < 1 + d1; omega
    · show 2 * (1 + d1 - 1) - d2 ≤ M; omega
    · show 1 < 1 + d1 ∨ M = 0; omega
    · show 0 ≤ d2 + d4 - w'; omega
    · show d2 + d4 - w' < 1 + d1 + d4; omega
    · show 2 * (1 + d1 + d4 - 1) - (d2 + d4 - w') ≤ M + d4 + w' + X; omega
    · show 1 < 1 + d1 + d4 ∨ M + d4 + w' + X = 0; omega
    · unfold reach
      rw [dd, hc, hg]
      show 0 ≤ d4 ∧ 0 ≤ w' ∧ d4 + w' ≤ d4 + w' + X ∧ w' ≤ d2 + d4 ∧ (d4 + w' < d4 + w' + X → 0 < d2 + d4)
      omega
    · rw [upd_same]
      unfold cwg
      rw [dd, hc, hg, show d4 + w' + X - d4 - w' = X by omega]
theorem ok_far {f : Addr} {fd : FuncData} (T : Bj mg) (D_draw : Def P w K mg base CX0 1 "_law_draw" pDraw spDraw) (D_product : Def P w K mg base CX0 1 "_law_product" pProd spProd) (D_ways : Def P w K mg base (L2.CX P w) 5 "ways" pWays (spR CV CL waysOk waysR)) (F : Fun K "_law_far_right" "_law_far_right" sFar f fd) :
    FnOk P w K mg base CX0 6 f fd pFar spFar := by
  have nd := scFar.nd
  refine F.ok scFar (fun vs H Q E h => ?_) (fun cdv A outer s0 H vs Q E hr h => ?_)
  · obtain ⟨p, k, rfl, _⟩ := h
    rfl
  · obtain ⟨p, k, rfl, hw, hk, q⟩ := h
    refine ⟨_, (pss_cons (ps_par (i := 1) (j := 2) (by rfl) nd rfl rfl (by decide) rfl rfl (pa_cons (pe_def D_draw (hr.mono (by decide)) rfl pass0 (pa_cons (pv 0) (pa_cons pe_int pa_nil))) (pa_cons (pe_def D_draw (hr.mono (by decide)) rfl pass0 (pa_cons (pv 0) (pa_cons pe_int pa_nil))) pa_nil)) (by rfl))
 (pss_cons (ps_par (i := 3) (j := 4) (by rfl) nd rfl rfl (by decide) rfl rfl (pa_cons (pe_op op_add pe_int (pe_def D_draw (hr.mono (by decide)) rfl pass0 (pa_cons (pv 0) (pa_cons pe_int pa_nil)))) (pa_cons (pe_def D_draw (hr.mono (by decide)) rfl pass0 (pa_cons (pv 0) (pa_cons pe_int pa_nil))) pa_nil)) (by rfl))
 (pss_cons (ps_set (i := 5) nd rfl (Or.inl rfl) (pe_def D_draw (hr.mono (by decide)) rfl pass0 (pa_cons (pv 0) (pa_cons (pe_op op_add (pe_callB (call_min2 rfl) (by rfl) T.min PyProof.Rows.boot_min (pa_cons pe_int (pa_cons (pe_op op_add (pv 1) (pv 3)) pa_nil))) pe_int) pa_nil))))
 (pss_cons (ps_set (i := 6) nd rfl (Or.inl rfl) (pe_tup (pa_cons pe_int (pa_cons (pv 1) (pa_cons (pe_op op_add (pv 1) pe_int) (pa_cons (pv 1) pa_nil))))))
 (pss_cons (ps_set (i := 7) nd rfl (Or.inl rfl) (pe_tup (pa_cons pe_int (pa_cons (pe_op op_sub (pe_op op_add (pv 1) (pv 3)) (pv 5)) (pa_cons (pe_op op_add (pe_op op_add (pv 1) (pv 3)) pe_int) (pa_cons (pe_op op_add (pe_op op_add (pe_op op_add (pv 1) (pv 3)) (pv 5)) (pv 4)) pa_nil))))))
 (pss_one (ps_ret (pe_eqG [] (pe_cmpR (op_eqDK (K := K) rfl hr.units) (pe_def D_ways (hr.mono (by decide)) rfl passN (pa_cons (pv 6) (pa_cons (pv 7) (pa_cons (pv 2) pa_nil)))) (pe_def D_product (hr.mono (by decide)) rfl pass0 (pa_cons (pv 1) (pa_cons (pe_tup (pa_cons (pv 3) (pa_cons (pv 5) (pa_cons (pv 4) pa_nil)))) (pa_cons (pe_ix (ix_listK (K := K) rfl) (pe_lst (pa_cons pe_int (pa_cons pe_int (pa_cons pe_int (pa_cons pe_int (pa_cons pe_int (pa_cons pe_int (pa_cons pe_int pa_nil)))))))) (pv 2) (fun _ _ => rfl)) pa_nil)))) (nomark _)))))))))), ?_⟩
    refine par_go ?_
    refine ⟨_, rfl, p, 9, k, rfl, hw, by omega, by decide, by decide, fun d1 H1 a0 a1 e1 w1 => ⟨_, rfl, p, 7, k + 1, rfl, w1, by omega, by decide, by decide, fun d2 H2 b0 b1 e2 w2 => ⟨_, _, rfl, ?_⟩⟩⟩
    refine par_go ?_
    refine ⟨_, rfl, p, 20, k + 2, rfl, w2, by omega, by decide, by decide, fun d3 H3 c0 c1 e3 w3 => ⟨_, _, rfl, rfl, _, rfl, p, 20, k + 3, rfl, w3, by omega, by decide, by decide, fun d4 H4 f0 f1 e4 w4 => ⟨_, _, rfl, ?_⟩⟩⟩
    obtain ⟨B, hB⟩ : ∃ B : Int, B = if d1 + (1 + d3) < 20 then d1 + (1 + d3) else 20 := ⟨_, rfl⟩
    have B1 : 0 ≤ B ∧ B ≤ 20 ∧ B ≤ d1 + (1 + d3) := by rw [hB]; split <;> omega
    refine ⟨_, rfl, _, rfl, _, rfl, _, _, rfl, rfl, _, _, rfl, _, _, rfl, rfl, ?_⟩
    dsimp only
    rw [← hB]
    refine ⟨p, B + 1, k + 4, rfl, w4, by omega, by omega, by omega, fun d5 H5 g0 g1 e5 w5 => ?_⟩
    refine ⟨_, rfl, _, rfl, _, _, rfl, rfl, _, rfl, (by show 4 ≤ sizeLine; decide), fun S nS => ?_⟩
    refine ⟨_, rfl, _, rfl, _, _, rfl, rfl, _, rfl, _, _, rfl, rfl, _, rfl, _, rfl, _, _, rfl, rfl, _, _, rfl, rfl, _, rfl, _, rfl, _, _, rfl, rfl, _, rfl, _, _, rfl, rfl, _, rfl, _, _, rfl, rfl, (by show 4 ≤ sizeLine; decide), fun O nO => ?_⟩
    obtain ⟨C, hC⟩ : ∃ C : Int, C = 1 + d3 := ⟨_, rfl⟩
    dsimp only
    rw [← hC] at B1 ⊢
    have wS := w5.new (o := .tup [.int 2, .int d1, .int (d1 + 1), .int d1]) nS
    have sS := same_new (o := .tup [.int 2, .int d1, .int (d1 + 1), .int d1]) nS
    have sO := same_new (o := .tup [.int 2, .int (d1 + C - d5), .int (d1 + C + 1), .int (d1 + C + d5 + d4)]) nO
    have wO := wS.new (o := .tup [.int 2, .int (d1 + C - d5), .int (d1 + C + 1), .int (d1 + C + d5 + d4)]) nO
    have hS : SgAt (upd (upd H5 S (.tup [.int 2, .int d1, .int (d1 + 1), .int d1])) O (.tup [.int 2, .int (d1 + C - d5), .int (d1 + C + 1), .int (d1 + C + d5 + d4)])) S ⟨2, d1, d1 + 1, d1⟩ := sO _ _ upd_same
    have hO : SgAt (upd (upd H5 S (.tup [.int 2, .int d1, .int (d1 + 1), .int d1])) O (.tup [.int 2, .int (d1 + C - d5), .int (d1 + C + 1), .int (d1 + C + d5 + d4)])) O ⟨2, d1 + C - d5, d1 + C + 1, d1 + C + d5 + d4⟩ := upd_same
    have fr : FrN p H (upd (upd H5 S (.tup [.int 2, .int d1, .int (d1 + 1), .int d1])) O (.tup [.int 2, .int (d1 + C - d5), .int (d1 + C + 1), .int (d1 + C + d5 + d4)])) := (FrN.ext ((((e1.trans e2).trans e3).trans e4).trans e5)).trans (FrN.same (sS.trans sO))
    generalize (upd (upd H5 S (.tup [.int 2, .int d1, .int (d1 + 1), .int d1])) O (.tup [.int 2, .int (d1 + C - d5), .int (d1 + C + 1), .int (d1 + C + d5 + d4)])) = G at wO hS hO fr ⊢
    obtain ⟨n, rfl⟩ : ∃ n : Nat, d2 = n := ⟨d2.toNat, by omega⟩
    have hn : n < 7 := by omega
    have pl := pow_lo n hn
    have os : SgOk ⟨2, d1, d1 + 1, d1⟩ := ⟨a0, by show d1 < d1 + 1; omega, by show 2 * (d1 + 1 - 1) - d1 ≤ d1; omega, by show 1 < d1 + 1 ∨ d1 = 0; omega⟩
    have ot : SgOk ⟨2, d1 + C - d5, d1 + C + 1, d1 + C + d5 + d4⟩ := ⟨by show 0 ≤ d1 + C - d5; omega, by show d1 + C - d5 < d1 + C + 1; omega, by show 2 * (d1 + C + 1 - 1) - (d1 + C - d5) ≤ d1 + C + d5 + d4; omega, by show 1 < d1 + C + 1 ∨ d1 + C + d5 + d4 = 0; omega⟩
    have ev : manyD (2 ^ n) ⟨2, d1, d1 + 1, d1⟩ ⟨2, d1 + C - d5, d1 + C + 1, d1 + C + d5 + d4⟩ = Lw (2 ^ n) d1 (C + d5 + d4).toNat C d5 := by
      rw [many_W (s := ⟨2, d1, d1 + 1, d1⟩) (t := ⟨2, d1 + C - d5, d1 + C + 1, d1 + C + d5 + d4⟩) a0 rfl]
      show Lw (2 ^ n) d1 (d1 + C + d5 + d4 - d1).toNat (d1 + C + 1 - (d1 + 1)) (d1 + (d1 + C + 1 - (d1 + 1)) - (d1 + C - d5)) = _
      rw [show d1 + C + 1 - (d1 + 1) = C by omega, show d1 + C - (d1 + C - d5) = d5 by omega, show d1 + C + d5 + d4 - d1 = C + d5 + d4 by omega]
    refine ⟨.int (manyD (2 ^ n) ⟨2, d1, d1 + 1, d1⟩ ⟨2, d1 + C - d5, d1 + C + 1, d1 + C + d5 + d4⟩), tabs0 _, gv_ways os ot (by show (1 : Int) ≤ 2; decide) (by show (1 : Int) ≤ 2; decide) hn (by show d1 ≤ d1 + C + d5 + d4; omega) (by show d1 + C + d5 + d4 - d1 ≤ 60; omega) (by show d1 ≤ 1000; omega) (gv_cons (gv_var rfl hS.dv) (gv_cons (gv_var rfl hO.dv) (gv_cons (gv_var rfl (.int _)) gv_nil))), ?_, rfl, rfl, fun H2 e2 _ => q H2 (fr.trans (FrN.extN e2)) (wO.extN e2)⟩
    rw [ev]
    intro G1 eG _ Q' kq
    refine ⟨_, rfl, _, rfl, _, rfl, _, rfl, (by show 3 ≤ sizeLine; decide), fun U nU => ⟨(by show 7 ≤ sizeLine; decide), fun L nL => ⟨_, rfl, L, _, (n : Int), .int (2 ^ n), rfl, rfl, sq upd_same, atI_nat (kinds_at n hn), U, d1, 2 ^ n, C, d5, d4, rfl, same_new nL _ _ upd_same, ⟨a0, by omega⟩, ⟨by omega, by omega⟩, ⟨by omega, by omega⟩, ⟨by omega, by omega⟩, pl, fun H' s' => kq _ H' ?_ (tabs0 _) (.int _)⟩⟩⟩
    exact LamX.ExtN.of ((((same_new nU).new nL)).trans s')
theorem def_pair (T : Bj mg) (D_draw : Def P w K mg base CX0 1 "_law_draw" pDraw spDraw) (a : At K mg "_law_pair" sPair) : Def P w K mg base CX0 2 "_law_pair" pPair spPair :=
  a.def (fun _ _ _ _ _ _ us hl => match us, hl with | [_], _ => rfl) fun f fd F => ok_pair T D_draw F
theorem def_far (T : Bj mg) (D_draw : Def P w K mg base CX0 1 "_law_draw" pDraw spDraw) (D_product : Def P w K mg base CX0 1 "_law_product" pProd spProd) (D_ways : Def P w K mg base (L2.CX P w) 5 "ways" pWays (spR CV CL waysOk waysR)) (a : At K mg "_law_far_right" sFar) : Def P w K mg base CX0 6 "_law_far_right" pFar spFar :=
  a.def (fun _ _ _ _ _ _ us hl => match us, hl with | [_], _ => rfl) fun f fd F => ok_far T D_draw D_product D_ways F
end
end K1


set_option Elab.async false
set_option linter.all false
set_option maxRecDepth 100000
set_option maxHeartbeats 4000000
namespace K1
open PySem PySem.Spec PyProof.Rows L2 RZ
theorem Lw_le {S f0 : Int} (hf : 0 ≤ f0) (hf2 : f0 ≤ 100) (hS : 1 ≤ S) (hS2 : S ≤ 64) : ∀ (i : Nat) (c g : Int), i ≤ 60 → Lw S f0 i c g ≤ 2 ^ (14 * i)
  | 0, c, g, _ => by
    show (if c = 0 ∧ g = 0 then (1 : Int) else 0) ≤ 2 ^ 0
    split <;> decide
  | i + 1, c, g, hi => by
    show Lw S f0 i (c - 1) g * S + Lw S f0 i c (g - 1) * (f0 + c - (g - 1)) + Lw S f0 i c g * ((f0 + c - g) * (S - 1)) ≤ 2 ^ (14 * (i + 1))
    have p : (0 : Int) ≤ 2 ^ (14 * i) := Int.le_of_lt (Int.pow_pos (by decide))
    have e : (2 : Int) ^ (14 * (i + 1)) = 2 ^ (14 * i) * 16384 := by rw [show 14 * (i + 1) = 14 * i + 14 by omega, Int.pow_add]; rfl
    rw [e]
    have b1 := Lw_le hf hf2 hS hS2 i (c - 1) g (by omega)
    have b2 := Lw_le hf hf2 hS hS2 i c (g - 1) (by omega)
    have b3 := Lw_le hf hf2 hS hS2 i c g (by omega)
    have h1 : Lw S f0 i (c - 1) g * S ≤ 2 ^ (14 * i) * 64 := Int.mul_le_mul b1 hS2 (by omega) p
    have h2 : Lw S f0 i c (g - 1) * (f0 + c - (g - 1)) ≤ 2 ^ (14 * i) * 200 := by
      by_cases k : c < 0 ∨ g - 1 < 0 ∨ (i : Int) < c + (g - 1) ∨ f0 + c < g - 1
      · rw [Lw_zero hf i _ _ k, Int.zero_mul]; exact Int.mul_nonneg p (by decide)
      · exact Int.mul_le_mul b2 (by omega) (by omega) p
    have h3 : Lw S f0 i c g * ((f0 + c - g) * (S - 1)) ≤ 2 ^ (14 * i) * 12800 := by
      by_cases k : c < 0 ∨ g < 0 ∨ (i : Int) < c + g ∨ f0 + c < g
      · rw [Lw_zero hf i _ _ k, Int.zero_mul]; exact Int.mul_nonneg p (by decide)
      · have m1 : (f0 + c - g) * (S - 1) ≤ 200 * 64 := Int.mul_le_mul (by omega) (by omega) (by omega) (by decide)
        have m0 : 0 ≤ (f0 + c - g) * (S - 1) := Int.mul_nonneg (by omega) (by omega)
        exact Int.mul_le_mul b3 (by omega) m0 p
    omega
theorem pow2_mono {a b : Nat} (h : a ≤ b) : (2 : Int) ^ a ≤ 2 ^ b := by
  obtain ⟨d, rfl⟩ := Nat.exists_eq_add_of_le h
  rw [Int.pow_add]
  have h0 : (0 : Int) < 2 ^ d := Int.pow_pos (by decide)
  have h1 : (2 : Int) ^ a * 1 ≤ 2 ^ a * 2 ^ d := Int.mul_le_mul_of_nonneg_left (by omega) (Int.le_of_lt (Int.pow_pos (by decide)))
  rw [Int.mul_one] at h1
  exact h1
theorem many_abs {S : Int} {s t : Sg} (os : SgOk s) (c1 : s.c ≤ 100) (hS : 1 ≤ S) (hS2 : S ≤ 64) (m : t.m - s.m ≤ 60) : (manyD S s t).natAbs < 2 ^ 841 := by
  have h0 := many_nonneg (S := S) (s := s) (t := t) os.c0 hS
  have h1 : manyD S s t ≤ 2 ^ 840 := by
    unfold manyD
    split
    · refine Int.le_trans (Lw_le os.c0 c1 hS hS2 _ _ _ (by unfold dD; omega)) ?_
      have : 14 * dD s t ≤ 840 := by unfold dD; omega
      exact pow2_mono this
    · exact Int.le_of_lt (Int.pow_pos (by decide))
  have e : ((2 ^ 841 : Nat) : Int) = 2 ^ 841 := by decide +kernel
  have e2 : (2 : Int) ^ 840 < 2 ^ 841 := by decide +kernel
  omega
abbrev sRight : Stmt := st__law_right
abbrev nRight : List Str := ["_law_one_here", "_law_other", "_law_told", "_law_signs", "_law_mark", "_law_many", "_law_middle_here", "_law_ahead", "_law_after", "_law_first", "_law_second", "_law_k"]
abbrev pRight : List Str := ["_law_one_here", "_law_other", "_law_told", "_law_signs", "_law_mark"]
theorem scRight : FnScope nRight pRight (defScope sRight) := ⟨rfl, rfl, rfl, by decide +kernel, rfl, by decide +kernel, by decide +kernel⟩
def spRight : Sp := fun vs H Q _ => ∃ (S O U : Addr) (s t : Sg) (n : Nat) (mk : Int), vs = [.ref S, .ref O, .ref U, .int (n : Int), .int mk] ∧ SgAt H S s ∧ SgAt H O t ∧ H U = some (.tup (cwg s t)) ∧ PairOk s t ∧ n < 7 ∧ s.m ≤ mk ∧ mk ≤ t.m ∧ ∀ H', LamX.ExtN H H' → Q (.bl true) H'
theorem btwD_hit {s t : Sg} (c0 : 0 ≤ s.c) (t0 : 0 ≤ t.c) (m0 : s.m ≤ t.m) (h : hitP s t) : btwD s t = .tuple [.int (came s t), .int (went s t), .int ((dD s t : Int) - came s t - went s t)] := by
  unfold btwD
  rw [hit_btw c0 t0 m0, if_pos h]
theorem _root_.L2.LamX.ExtN.lstv {H H' : Hp} {a : Addr} {xs : List V} (e : LamX.ExtN H H') (h : H a = some (.lst xs)) : H' a = some (.lst xs) := e _ _ h fun _ z => by cases z
theorem _root_.L2.LamX.ExtN.tupv {H H' : Hp} {a : Addr} {xs : List V} (e : LamX.ExtN H H') (h : H a = some (.tup xs)) : H' a = some (.tup xs) := e _ _ h fun _ z => by cases z
def prodS (S : Int) (s t u : Sg) : Int := manyD S s u * manyD S u t
abbrev RgSt (S O U : Addr) (n : Nat) (mk many : Int) (v6 v7 v8 v9 v10 v11 : Option V) : L2.St := [some (.ref S), some (.ref O), some (.ref U), some (.int (n : Int)), some (.int mk), some (.int many), v6, v7, v8, v9, v10, v11]
theorem Dv.intv {H : Hp} {x : V} {n : Int} (h : Dv H x (.int n)) : x = .int n := by cases h; rfl
theorem DvA.pair {H : Hp} {vs : List V} {d e : PyData} (h : DvA H vs [d, e]) : ∃ x y, vs = [x, y] ∧ Dv H x d ∧ Dv H y e := by
  cases h with
  | cons h1 h =>
  cases h with
  | cons h2 h =>
  cases h
  exact ⟨_, _, rfl, h1, h2⟩
theorem Dv.tup3i {H : Hp} {v : V} {a b c : Int} (h : Dv H v (.tuple [.int a, .int b, .int c])) : ∃ p, v = .ref p ∧ H p = some (.tup [.int a, .int b, .int c]) := by
  cases h with
  | tup e r =>
  cases r with
  | cons h1 r =>
  cases r with
  | cons h2 r =>
  cases r with
  | cons h3 r =>
  cases r
  cases h1; cases h2; cases h3
  exact ⟨_, rfl, e⟩
theorem Dv.pairT {H : Hp} {v : V} {d e : PyData} (h : Dv H v (.tuple [d, e])) : ∃ p x y, v = .ref p ∧ H p = some (.tup [x, y]) ∧ Dv H x d ∧ Dv H y e := by
  cases h with
  | tup h1 r =>
    obtain ⟨x, y, rfl, hx, hy⟩ := r.pair
    exact ⟨_, x, y, rfl, h1, hx, hy⟩
section
variable {P : Program} {w : World} {K : PySem.W.Frag} {mg : Str → Option Value} {base : Heap} {CV CL : Addr}
theorem ok_right {f : Addr} {fd : FuncData} (T : Bj mg) (D_middle : Def P w K mg base CX0 1 "_law_middle" pMid spMid) (D_between : Def P w K mg base (L2.CX P w) 5 "between" nTwo (spR CV CL isTwo (twoR btwD))) (D_ways : Def P w K mg base (L2.CX P w) 5 "ways" pWays (spR CV CL waysOk waysR))
    (F : Fun K "_law_right" "_law_right" sRight f fd) : FnOk P w K mg base CX0 6 f fd pRight spRight := by
  have nd := scRight.nd
  refine F.ok scRight (fun vs H Q E h => ?_) (fun cdv A outer s0 H vs Q E hr h => ?_)
  · obtain ⟨S, O, U, s, t, n, mk, rfl, _⟩ := h
    rfl
  · obtain ⟨S, O, U, s, t, n, mk, rfl, hS, hO, hU, ok, hn, m0, m1, q⟩ := h
    refine ⟨_, (pss_cons (ps_set (i := 5) nd rfl (Or.inl rfl) pe_int)
 (C8.pss_cut (ps_for PassesOwn.never rfl (pi_listK (K := K) rfl (pe_def D_middle (hr.mono (by decide)) rfl pass0 (pa_cons (pv 0) (pa_cons (pv 1) (pa_cons (pv 4) pa_nil))))) (pg_name (i := 6) nd rfl (Or.inl rfl))
  (pss_cons (ps_par (i := 7) (j := 8) (by rfl) nd rfl rfl (by decide) rfl rfl (pa_cons (pe_def D_ways (hr.mono (by decide)) rfl passN (pa_cons (pv 0) (pa_cons (pv 6) (pa_cons (pv 3) pa_nil)))) (pa_cons (pe_def D_ways (hr.mono (by decide)) rfl passN (pa_cons (pv 6) (pa_cons (pv 1) (pa_cons (pv 3) pa_nil)))) pa_nil)) (by rfl))
 (pss_cons (ps_set (i := 5) nd rfl (Or.inl rfl) (pe_op op_add (pv 5) (pe_op op_mulX (pv 7) (pv 8))))
 (pss_one (ps_if (pt_cmpR op_gt (pe_op op_mulX (pv 7) (pv 8)) pe_int (nomark _))
  (pss_cons (ps_asg (pe_G [] (pe_tup (pa_cons (pe_def D_between (hr.mono (by decide)) rfl passN (pa_cons (pv 0) (pa_cons (pv 6) pa_nil))) (pa_cons (pe_def D_between (hr.mono (by decide)) rfl passN (pa_cons (pv 6) (pa_cons (pv 1) pa_nil))) pa_nil)))) (pg_tup rfl (pgs_cons (pg_name (i := 9) nd rfl (Or.inr rfl)) (pgs_cons (pg_name (i := 10) nd rfl (Or.inr rfl)) pgs_nil))))
 (pss_one (ps_if (pt_neG [] (pt_cmpR (op_neDK (K := K) rfl hr.units) (pe_lc (own := [("_law_k", 11)]) (g := gName 11) (tt := tYes) rfl nd (pi_range1 rfl T.range (pa_cons pe_int pa_nil)) (blkOk_by (own := [("_law_k", 11)]) (N := nRight) (sc := defScope sRight) (by decide +kernel)) (fun _ _ _ _ _ => pg_name (i := 11) nd rfl (Or.inl rfl)) (fun _ _ _ _ _ => pts_nil) (fun _ _ _ _ _ => (pe_op op_add (pe_ix (ix_tupK (K := K) rfl) (pv 9) (pv 11) (fun _ _ => rfl)) (pe_ix (ix_tupK (K := K) rfl) (pv 10) (pv 11) (fun _ _ => rfl))))) (pe_callTy (call_list_ofK (K := K) rfl) (by rfl) T.list PyProof.Rows.boot_list (pa_cons (pv 2) pa_nil)) (nomark _)))
  (pss_one (ps_ret pe_bl))
  pss_nil)))
  pss_nil)))))
 (pss_one (ps_ret (pe_eqG [] (pe_cmpR (op_eqDK (K := K) rfl hr.units) (pv 5) (pe_def D_ways (hr.mono (by decide)) rfl passN (pa_cons (pv 0) (pa_cons (pv 1) (pa_cons (pv 3) pa_nil)))) (nomark _))))))), ?_⟩
    have pl := pow_lo n hn
    obtain ⟨os, ot, a1, aa, n6, n20, m0', m1', m2, hit⟩ := ok
    have os' := os
    obtain ⟨q1, q2, q3, q4⟩ := os'
    have ot' := ot
    obtain ⟨r1, r2, r3, r4⟩ := ot'
    refine ⟨fun σ G => ∃ v6 v7 v8 v9 v10 v11, σ = RgSt S O U n mk (manyD (2 ^ n) s t) v6 v7 v8 v9 v10 v11 ∧ LamX.ExtN H G, ?_, ?_⟩
    rotate_left
    · rintro σ G ⟨v6, v7, v8, v9, v10, v11, rfl, eG⟩
      exact ⟨.int (manyD (2 ^ n) s t), tabs0 _, gv_var rfl (.int _), gv_ways os ot a1 (by omega) hn m0' (by omega) (by omega) (gv_cons (gv_var rfl (hS.dv.ext eG)) (gv_cons (gv_var rfl (hO.dv.ext eG)) (gv_cons (gv_var rfl (.int _)) gv_nil))), rfl, rfl, fun H2 e2 _ => q H2 (eG.trans e2)⟩
    refine ⟨_, rfl, _, rfl, _, rfl, S, O, s, t, mk, rfl, hS, hO, by omega, by omega, by omega, by omega, by omega, by omega, fun L xs H1 s1 nL hL hx ln => ⟨L, rfl, ⟨_, sq hL⟩, for_list (xs := xs) (fun i σ G => ∃ v6 v7 v8 v9 v10 v11, σ = RgSt S O U n mk (sumI (((mids s t mk).take i).map (prodS (2 ^ n) s t))) v6 v7 v8 v9 v10 v11 ∧ LamX.ExtN H1 G) ⟨none, none, none, none, none, none, rfl, .refl _⟩ (fun i σ G _ ⟨_, _, _, _, _, _, _, e⟩ => sq (e.lstv hL)) ?_ ?_⟩⟩
    rotate_left
    · rintro σ G ⟨v6, v7, v8, v9, v10, v11, rfl, eG⟩
      rw [hx.len, List.take_length]
      have e := sum_mids (S := 2 ^ n) os aa m0 m1
      have e2 : sumI ((mids s t mk).map (prodS (2 ^ n) s t)) = manyD (2 ^ n) s t := e
      rw [e2]
      exact ⟨_, _, _, _, _, _, rfl, (LamX.ExtN.of s1).trans eG⟩
    rintro i x σ G hi ⟨v6, v7, v8, v9, v10, v11, rfl, eG⟩
    obtain ⟨a, u, hu, rfl, ha⟩ := hx.get hi
    have mu : u ∈ mids s t mk := List.mem_of_getElem? hu
    obtain ⟨ou, ua, um⟩ := SgOk.mid mu
    have mm := mem_mids.mp mu
    have hSG : ∀ {Z}, LamX.ExtN G Z → Dv Z (.ref S) (sgD s) := fun e => (hS.dv.ext (LamX.ExtN.of s1)).ext (eG.trans e)
    have hOG : ∀ {Z}, LamX.ExtN G Z → Dv Z (.ref O) (sgD t) := fun e => (hO.dv.ext (LamX.ExtN.of s1)).ext (eG.trans e)
    have haG : ∀ {Z}, LamX.ExtN G Z → Dv Z (.ref a) (sgD u) := fun e => ha.dv.ext (eG.trans e)
    have ou' := ou
    obtain ⟨w1, w2, w3, w4⟩ := ou'
    have step : sumI (((mids s t mk).take (i + 1)).map (prodS (2 ^ n) s t)) = sumI (((mids s t mk).take i).map (prodS (2 ^ n) s t)) + prodS (2 ^ n) s t u := by
      rw [take_more hu, List.map_append]
      generalize ((mids s t mk).take i).map (prodS (2 ^ n) s t) = l
      show sumI (l ++ [prodS (2 ^ n) s t u]) = _
      induction l with
      | nil => show prodS (2 ^ n) s t u + 0 = 0 + prodS (2 ^ n) s t u; omega
      | cons z l ih => show z + sumI (l ++ [prodS (2 ^ n) s t u]) = z + sumI l + prodS (2 ^ n) s t u; omega
    rw [step]
    refine par_go ?_
    refine gv_cons (gv_ways (CV := CV) (CL := CL) (n := n) (s := s) (t := u) os ou a1 (by omega) hn (by omega) (by omega) (by omega) (gv_cons (gv_var rfl (hSG (.refl _))) (gv_cons (gv_var rfl (haG (.refl _))) (gv_cons (gv_var rfl (.int _)) gv_nil)))) (gv_cons (gv_ways (CV := CV) (CL := CL) (n := n) (s := u) (t := t) ou ot (by omega) (by omega) hn (by omega) (by omega) (by omega) (gv_cons (gv_var rfl (haG (.refl _))) (gv_cons (gv_var rfl (hOG (.refl _))) (gv_cons (gv_var rfl (.int _)) gv_nil)))) gv_nil) G (.refl _) (tabs0 _) _ fun vs G1 e1 _ hA => ?_
    obtain ⟨x, y, rfl, hx1, hy1⟩ := hA.pair
    obtain rfl := hx1.intv
    obtain rfl := hy1.intv
    have mx : CMulX (manyD (2 ^ n) s u) (manyD (2 ^ n) u t) := mulx_ok (many_abs os (by omega) pl.1 pl.2 (by omega)) (many_abs ou (by omega) pl.1 pl.2 (by omega)) (by decide)
    refine ⟨_, _, rfl, ?_⟩
    refine ⟨_, rfl, _, rfl, _, rfl, _, _, rfl, rfl, mx, _, _, rfl, rfl, ?_⟩
    refine ⟨_, rfl, _, rfl, _, _, rfl, rfl, mx, _, _, rfl, rfl, _, rfl, ?_⟩
    by_cases pos : 0 < manyD (2 ^ n) s u * manyD (2 ^ n) u t
    rotate_left
    · exact itbF (decide_eq_false pos) ⟨_, _, _, _, _, _, rfl, eG.trans e1⟩
    refine itbT (decide_eq_true pos) ?_
    have p1 := many_nonneg (S := 2 ^ n) (s := s) (t := u) q1 pl.1
    have p2 := many_nonneg (S := 2 ^ n) (s := u) (t := t) w1 pl.1
    have h1 : hitP s u := many_hit (S := 2 ^ n) (by
      rcases Int.lt_or_eq_of_le p1 with h | h
      · exact h
      · rw [← h, Int.zero_mul] at pos; exact absurd pos (by decide))
    have h2 : hitP u t := many_hit (S := 2 ^ n) (by
      rcases Int.lt_or_eq_of_le p2 with h | h
      · exact h
      · rw [← h, Int.mul_zero] at pos; exact absurd pos (by decide))
    have g1 := btwD_hit q1 w1 (by omega) h1
    have g2 := btwD_hit w1 r1 (by omega) h2
    refine ⟨.tuple [btwD s u, btwD u t], tabs0 _, gv_tup (gv_cons (gv_two (CV := CV) (CL := CL) os ou a1 (by omega) (gv_cons (gv_var rfl (hSG e1)) (gv_cons (gv_var rfl (haG e1)) gv_nil))) (gv_cons (gv_two (CV := CV) (CL := CL) ou ot (by omega) (by omega) (gv_cons (gv_var rfl (haG e1)) (gv_cons (gv_var rfl (hOG e1)) gv_nil))) gv_nil)), fun v G2 e2 _ hv => ?_⟩
    rw [g1, g2] at hv
    obtain ⟨pp, x, y, rfl, hp, hx9, hy10⟩ := hv.pairT
    obtain ⟨a9, rfl, h9⟩ := hx9.tup3i
    obtain ⟨a10, rfl, h10⟩ := hy10.tup3i
    refine ⟨pp, _, rfl, st hp, rfl, .ref a9, _, rfl, .ref a10, _, rfl, rfl, ?_⟩
    have sumC : came s u + came u t = came s t := by unfold came; omega
    have sumW : went s u + went u t = went s t := by unfold went came; omega
    have d1 : ((dD s u : Nat) : Int) = u.m - s.m := Int.toNat_of_nonneg (by omega)
    have d2 : ((dD u t : Nat) : Int) = t.m - u.m := Int.toNat_of_nonneg (by omega)
    have d3 : ((dD s t : Nat) : Int) = t.m - s.m := Int.toNat_of_nonneg (by omega)
    have sumG : ((dD s u : Int) - came s u - went s u) + ((dD u t : Int) - came u t - went u t) = (dD s t : Int) - came s t - went s t := by omega
    generalize came s u = c1, went s u = x1, (dD s u : Int) - came s u - went s u = y1, came u t = c2, went u t = x2, (dD u t : Int) - came u t - went u t = y2 at *
    have lU : ∀ {Z}, LamX.ExtN G2 Z → Z U = some (.tup (cwg s t)) := fun e => (LamX.ExtN.of s1 |>.trans eG |>.trans e1 |>.trans e2 |>.trans e).tupv hU
    refine ⟨.list [.int (came s t), .int (went s t), .int ((dD s t : Int) - came s t - went s t)], tabs0 _, ?_, ?_, rfl, rfl, fun G3 e3 _ => itbF rfl ⟨_, _, _, _, _, _, rfl, ((eG.trans e1).trans e2).trans e3⟩⟩
    · intro Z eZ _ Q' kq
      have z9 := eZ.tupv h9
      have z10 := eZ.tupv h10
      refine ⟨3, rfl, by decide, by decide, fun D nD => lc_it walk_range (fun i G => Same Z G ∧ G D = some (.lst (([came s t, went s t, (dD s t : Int) - came s t - went s t].take i).map V.int))) ⟨same_new nD, upd_same⟩ (fun _ _ _ _ => True.intro) ?_ ?_⟩
      · rintro i x G G' hi ⟨sG, hD⟩ ⟨rfl, rfl⟩
        match i, hi with
        | 0, _ => exact ⟨rfl, tyes ⟨_, rfl, _, rfl, a9, _, 0, .int c1, rfl, rfl, st (sG _ _ z9), atI_nat (j := 0) rfl, _, rfl, _, rfl, a10, _, 0, .int c2, rfl, rfl, st (sG _ _ z10), atI_nat (j := 0) rfl, _, _, rfl, rfl, _, hD, (by show 0 < sizeLine; decide), sG.mut nD, by rw [upd_same, ← sumC]; rfl⟩⟩
        | 1, _ => exact ⟨rfl, tyes ⟨_, rfl, _, rfl, a9, _, 1, .int x1, rfl, rfl, st (sG _ _ z9), atI_nat (j := 1) rfl, _, rfl, _, rfl, a10, _, 1, .int x2, rfl, rfl, st (sG _ _ z10), atI_nat (j := 1) rfl, _, _, rfl, rfl, _, hD, (by show 1 < sizeLine; decide), sG.mut nD, by rw [upd_same, ← sumW]; rfl⟩⟩
        | 2, _ => exact ⟨rfl, tyes ⟨_, rfl, _, rfl, a9, _, 2, .int y1, rfl, rfl, st (sG _ _ z9), atI_nat (j := 2) rfl, _, rfl, _, rfl, a10, _, 2, .int y2, rfl, rfl, st (sG _ _ z10), atI_nat (j := 2) rfl, _, _, rfl, rfl, _, hD, (by show 2 < sizeLine; decide), sG.mut nD, by rw [upd_same, ← sumG]; rfl⟩⟩
      · rintro G' ⟨sG, hD⟩
        exact kq _ _ (LamX.ExtN.of sG) (tabs0 _) (.lst hD (.cons (.int _) (.cons (.int _) (.cons (.int _) .nil))))
    · intro Z eZ _ Q' kq
      exact ⟨_, rfl, U, _, rfl, .inr (st (lU eZ)), fun l nl => kq _ _ (LamX.ExtN.of (same_new nl)) (tabs0 _) (.lst upd_same (.cons (.int _) (.cons (.int _) (.cons (.int _) .nil))))⟩
theorem def_right (T : Bj mg) (D_middle : Def P w K mg base CX0 1 "_law_middle" pMid spMid) (D_between : Def P w K mg base (L2.CX P w) 5 "between" nTwo (spR CV CL isTwo (twoR btwD))) (D_ways : Def P w K mg base (L2.CX P w) 5 "ways" pWays (spR CV CL waysOk waysR))
    (a : At K mg "_law_right" sRight) : Def P w K mg base CX0 6 "_law_right" pRight spRight :=
  a.def (fun _ _ _ _ _ _ us hl => match us, hl with | [_, _, _, _, _], _ => rfl) fun f fd F => ok_right T D_middle D_between D_ways F
end
end K1


set_option Elab.async false
set_option linter.all false
set_option maxRecDepth 100000
set_option maxHeartbeats 4000000
namespace K1
open PySem PySem.Spec PyProof.Rows L2 RZ
theorem cr_minI {X : Cx} {K : PySem.W.Frag} (h : X.K = K) (hc : X.calm = true) : CallR X (.builtin "min") (rMin K) := by subst h; exact cr_min hc
theorem cr_maxI {X : Cx} {K : PySem.W.Frag} (h : X.K = K) (hc : X.calm = true) : CallR X (.builtin "max") (rMax K) := by subst h; exact cr_max hc
theorem sl_listK {X : Cx} {K : PySem.W.Frag} (h : X.K = K) : SlR X (rSlL K) := by subst h; exact sl_list
/-- a test for None -/
def tIs (T : List (Addr × Str)) (te : TE) : TT := fun σ H Q => ∃ d b, LamX.Tabs T H ∧ Gv T te σ H d ∧ (b = true ↔ d ≠ .none) ∧ ∀ H2, LamX.ExtN H H2 → LamX.Tabs T H2 → Q b H2
theorem pt_isG {X : Cx} (T : List (Addr × Str)) {e : Expr} {te : TE} (h : PT X e (tTest (tOp (fun x y H Q => y = .non ∧ Q (.bl (!decide (x = .non))) H) te (tC .non)))) : PT X e (tIs T te) := pt_weak h fun σ H Q ⟨d, b, t, g, hb, k⟩ =>
  g H (.refl _) t _ fun x H2 e2 t2 hx => by
    refine ⟨rfl, _, rfl, ?_⟩
    have e : (!decide (x = .non)) = b := by
      cases hx with
      | non => cases b with
        | false => rfl
        | true => exact absurd rfl (hb.mp rfl)
      | _ => cases b with
        | true => rfl
        | false => exact absurd (hb.mpr (fun z => by cases z)) Bool.false_ne_true
    rw [e]
    exact k H2 e2 t2
theorem FrN.refl (p : Addr) (H : Hp) : FrN p H H := fun _ _ _ h _ => h
theorem FrN.over {p C : Addr} {A B G : Hp} {o : HO} (x : FrN p A B) (nC : B C = none) (y : FrN C (upd B C o) G) : FrN p A G := fun b u n h k => by
  have hb := x b u n h k
  have ne := ne_of_none hb nC
  exact y b u ne (by rw [upd_ne ne]; exact hb) k
theorem FrN.self {p : Addr} {A B : Hp} {o : HO} (x : FrN p A B) : FrN p A (upd B p o) := fun b u n h k => by rw [upd_ne n]; exact x b u n h k
abbrev sLaw : Stmt := st_law
abbrev nLaw : List Str := ["_law_script", "_law_cell", "_law_well_here", "_law_one_here", "_law_other", "_law_told", "_law_signs", "_law_counts", "_law_mark", "_law_middle_here"]
abbrev pLaw : List Str := ["_law_script"]
theorem scLaw : FnScope nLaw pLaw (defScope sLaw) := ⟨rfl, rfl, rfl, by decide +kernel, rfl, by decide +kernel, by decide +kernel⟩
def spLaw (K : PySem.W.Frag) : Sp := fun vs H Q _ => ∃ (a : Addr) (xs : List Int), vs = [.ref a] ∧ SqL K H a (xs.map V.int) ∧ xs.length ≤ 63 ∧ ∀ H', Q (.bl true) H'
theorem fewD_hit {s t : Sg} (c0 : 0 ≤ s.c) (t0 : 0 ≤ t.c) (m0 : s.m ≤ t.m) (h : hitP s t) : fewD s t = .int (fewI s t) := by
  unfold fewD
  rw [hit_btw c0 t0 m0, if_pos h]; rfl
theorem mostD_hit {s t : Sg} (c0 : 0 ≤ s.c) (t0 : 0 ≤ t.c) (m0 : s.m ≤ t.m) (h : hitP s t) : mostD s t = .int (s.c + came s t) := by
  unfold mostD
  rw [hit_btw c0 t0 m0, if_pos h]
theorem btwD_none {s t : Sg} (c0 : 0 ≤ s.c) (t0 : 0 ≤ t.c) (m0 : s.m ≤ t.m) : decide (hitP s t) = true ↔ btwD s t ≠ .none := by
  unfold btwD
  rw [hit_btw c0 t0 m0]
  by_cases h : hitP s t
  · rw [if_pos h, decide_eq_true h]; exact ⟨fun _ z => (by cases z), fun _ => rfl⟩
  · rw [if_neg h, decide_eq_false h]; exact ⟨fun z => (by cases z), fun z => absurd rfl z⟩
theorem cnts_succ (s t : Sg) (i : Nat) : cnts s t (i + 1) = cnts s t i ++ cntsAt s t (s.m + (i : Nat)) := by
  unfold cnts
  rw [List.range_succ, List.flatMap_append]
  show _ ++ (cntsAt s t (s.m + (i : Nat)) ++ []) = _
  rw [List.append_nil]
def cTo (s t : Sg) (mk : Int) (j : Nat) : List Int := (((mids s t mk).take j).filter fun u => decide (okU s t u)).map Sg.c
theorem cTo_succ {s t u : Sg} {mk : Int} {j : Nat} (h : (mids s t mk)[j]? = some u) : cTo s t mk (j + 1) = cTo s t mk j ++ (if okU s t u then [u.c] else []) := by
  unfold cTo
  rw [take_more h, List.filter_append, List.map_append]
  congr 1
  by_cases k : okU s t u
  · rw [if_pos k, List.filter_cons_of_pos (by exact decide_eq_true k)]; rfl
  · rw [if_neg k, List.filter_cons_of_neg (by rw [decide_eq_false k]; exact Bool.false_ne_true)]; rfl
abbrev LwSt (a p S O U : Addr) (cc : Int) (n : Nat) (C : Addr) (v8 v9 : Option V) : L2.St := [some (.ref a), some (.int cc), some (.ref p), some (.ref S), some (.ref O), some (.ref U), some (.int (n : Int)), some (.ref C), v8, v9]
section
variable {P : Program} {w : World} {K : PySem.W.Frag} {mg : Str → Option Value} {base : Heap} {CV CL : Addr}
set_option maxHeartbeats 8000000 in
theorem ok_law {f : Addr} {fd : FuncData} (T : Bj mg)
    (D_cell_at : Def P w K mg base CX0 1 "_law_cell_at" nCell (spCell K)) (D_well : Def P w K mg base CX0 1 "_law_well" nWell spWell) (D_draw : Def P w K mg base CX0 1 "_law_draw" pDraw spDraw)
    (D_pair : Def P w K mg base CX0 2 "_law_pair" pPair spPair) (D_far_right : Def P w K mg base CX0 6 "_law_far_right" pFar spFar) (D_middle : Def P w K mg base CX0 1 "_law_middle" pMid spMid) (D_right : Def P w K mg base CX0 6 "_law_right" pRight spRight)
    (D_between : Def P w K mg base (L2.CX P w) 5 "between" nTwo (spR CV CL isTwo (twoR btwD))) (D_ways : Def P w K mg base (L2.CX P w) 5 "ways" pWays (spR CV CL waysOk waysR))
    (D_most_at_once : Def P w K mg base (L2.CX P w) 5 "most_at_once" nTwo (spR CV CL isTwo (twoR mostD))) (D_fewest_at_once : Def P w K mg base (L2.CX P w) 5 "fewest_at_once" nTwo (spR CV CL isTwo (twoR fewD)))
    (F : Fun K "law" "law" sLaw f fd) : FnOk P w K mg base CX0 7 f fd pLaw (spLaw K) := by
  have nd := scLaw.nd
  refine F.ok scLaw (fun vs H Q E h => ?_) (fun cdv A outer s0 H vs Q E hr h => ?_)
  · obtain ⟨a, ns, rfl, _⟩ := h
    rfl
  · obtain ⟨a, ns, rfl, hS, hl, q⟩ := h
    refine ⟨_, (C8.pss_cut (ps_for PassesOwn.never rfl (pi_listK (K := K) rfl (pe_op op_cat (pe_lst (pa_cons (pe_def D_cell_at (hr.mono (by decide)) rfl pass0 (pa_cons (pv 0) (pa_cons pe_int pa_nil))) pa_nil)) (pe_slice (sl_listK (K := K) rfl) (pv 0) (po_some pe_int) (po_some pe_int)))) (pg_name (i := 1) nd rfl (Or.inl rfl))
  (pss_cons (ps_set (i := 2) nd rfl (Or.inl rfl) (pe_def D_well (hr.mono (by decide)) rfl pass0 (pa_cons (pv 1) pa_nil)))
 (pss_cons (ps_asg (pe_def D_pair (hr.mono (by decide)) rfl pass0 (pa_cons (pv 2) pa_nil)) (pg_tup rfl (pgs_cons (pg_name (i := 3) nd rfl (Or.inl rfl)) (pgs_cons (pg_name (i := 4) nd rfl (Or.inl rfl)) (pgs_cons (pg_name (i := 5) nd rfl (Or.inl rfl)) pgs_nil)))))
 (pss_cons (ps_set (i := 6) nd rfl (Or.inl rfl) (pe_def D_draw (hr.mono (by decide)) rfl pass0 (pa_cons (pv 2) (pa_cons pe_int pa_nil))))
 (pss_cons (ps_if (PW.pt (pw_or (pt_neG [] (pt_cmpR (op_neDK (K := K) rfl hr.units) (pe_def D_between (hr.mono (by decide)) rfl passN (pa_cons (pv 3) (pa_cons (pv 4) pa_nil))) (pv 5) (nomark _))) (pw_or1 (pt_not (pt_val (pe_def D_far_right (hr.mono (by decide)) rfl pass0 (pa_cons (pv 2) pa_nil)))))))
  (pss_one (ps_ret pe_bl))
  pss_nil)
 (pss_cons (ps_if (pt_not (pt_val (pe_def D_right (hr.mono (by decide)) rfl pass0 (pa_cons (pv 3) (pa_cons (pv 4) (pa_cons (pv 5) (pa_cons (pv 6) (pa_cons (pe_op op_add (pe_ix (ix_tupK (K := K) rfl) (pv 3) pe_int (fun _ _ => rfl)) (pe_def D_draw (hr.mono (by decide)) rfl pass0 (pa_cons (pv 2) (pa_cons (pe_op op_add (pe_op op_sub (pe_ix (ix_tupK (K := K) rfl) (pv 4) pe_int (fun _ _ => rfl)) (pe_ix (ix_tupK (K := K) rfl) (pv 3) pe_int (fun _ _ => rfl))) pe_int) pa_nil)))) pa_nil))))))))
  (pss_one (ps_ret pe_bl))
  pss_nil)
 (pss_cons (ps_set (i := 7) nd rfl (Or.inl rfl) (pe_lst pa_nil))
 (C8.pss_cut (ps_for PassesOwn.never rfl (pi_range2 rfl T.range (pa_cons (pe_ix (ix_tupK (K := K) rfl) (pv 3) pe_int (fun _ _ => rfl)) (pa_cons (pe_op op_add (pe_ix (ix_tupK (K := K) rfl) (pv 4) pe_int (fun _ _ => rfl)) pe_int) pa_nil))) (pg_name (i := 8) nd rfl (Or.inl rfl))
  (pss_one (ps_for PassesOwn.never rfl (pi_listK (K := K) rfl (pe_def D_middle (hr.mono (by decide)) rfl pass0 (pa_cons (pv 3) (pa_cons (pv 4) (pa_cons (pv 8) pa_nil))))) (pg_name (i := 9) nd rfl (Or.inl rfl))
  (pss_one (ps_if (PW.pt (pw_and (pt_isG [] (pt_cmpR op_notN (pe_def D_between (hr.mono (by decide)) rfl passN (pa_cons (pv 3) (pa_cons (pv 9) pa_nil))) pe_non (nomark _))) (pw_and1 (pt_isG [] (pt_cmpR op_notN (pe_def D_between (hr.mono (by decide)) rfl passN (pa_cons (pv 9) (pa_cons (pv 4) pa_nil))) pe_non (nomark _))))))
  (pss_one (ps_expr (pe_bm PySem.F.plainAttrs_list PySem.F.slot_list_append PySem.F.type_list_append mt_append (pv 7) (pa_cons (pe_ix (ix_tupK (K := K) rfl) (pv 9) pe_int (fun _ _ => rfl)) pa_nil))))
  pss_nil)))))
 (pss_cons (ps_if (pt_neG [] (pt_cmpR (op_neDK (K := K) rfl hr.units) (pe_lst (pa_cons (pe_def D_fewest_at_once (hr.mono (by decide)) rfl passN (pa_cons (pv 3) (pa_cons (pv 4) pa_nil))) (pa_cons (pe_def D_most_at_once (hr.mono (by decide)) rfl passN (pa_cons (pv 3) (pa_cons (pv 4) pa_nil))) pa_nil))) (pe_lst (pa_cons (pe_callB (cr_minI (K := K) rfl rfl) (by rfl) T.min PyProof.Rows.boot_min (pa_cons (pv 7) pa_nil)) (pa_cons (pe_callB (cr_maxI (K := K) rfl rfl) (by rfl) T.max PyProof.Rows.boot_max (pa_cons (pv 7) pa_nil)) pa_nil))) (nomark _)))
  (pss_one (ps_ret pe_bl))
  pss_nil)
 (pss_one (ps_if (PW.pt (pw_and (pt_cmpR op_gt (pv 6) pe_int (nomark _)) (pw_and1 (pt_cmpR (op_eqDK (K := K) rfl hr.units) (pe_def D_ways (hr.mono (by decide)) rfl passN (pa_cons (pv 3) (pa_cons (pv 4) (pa_cons (pv 6) pa_nil)))) pe_int (nomark _)))))
  (pss_one (ps_ret pe_bl))
  pss_nil)))))))))))
 (pss_one (ps_ret pe_bl))), ?_⟩
    have sqS : ∀ {H1 H2 : Hp} {b : Addr} {xs : List V}, SqL K H1 b xs → Same H1 H2 → SqL K H2 b xs := fun {H1 H2 b xs} h s => by
      rcases h with (h | ⟨o, h⟩) | h
      · exact .inl (.inl (s _ _ h))
      · exact .inl (.inr ⟨o, s _ _ h⟩)
      · exact .inr h
    refine ⟨fun _ _ => True, ?_, fun σ H1 _ => q H1⟩
    refine ⟨_, rfl, a, ns, 0, rfl, hS, by decide, fun c0 => ⟨lt1 _ (by show 1 ≤ 100000; decide), fun l1 nl1 => ?_⟩⟩
    have s1 := same_new (o := .lst [.int c0]) nl1
    refine ⟨_, rfl, 1, rfl, 3, rfl, a, _, rfl, sqS hS s1, fun l2 nl2 => ?_⟩
    have hcut : cutV (ns.map V.int) (some 1) (some 3) = ((ns.drop (HT.sIx (ns.map V.int).length 0 (some 1))).take (HT.sIx (ns.map V.int).length (ns.map V.int).length (some 3) - HT.sIx (ns.map V.int).length 0 (some 1))).map V.int := by
      unfold cutV
      rw [List.map_take, List.map_drop]
    have hcl : ((ns.drop (HT.sIx (ns.map V.int).length 0 (some 1))).take (HT.sIx (ns.map V.int).length (ns.map V.int).length (some 3) - HT.sIx (ns.map V.int).length 0 (some 1))).length ≤ 63 := by
      rw [List.length_take, List.length_drop]; omega
    rw [hcut]
    generalize (ns.drop (HT.sIx (ns.map V.int).length 0 (some 1))).take (HT.sIx (ns.map V.int).length (ns.map V.int).length (some 3) - HT.sIx (ns.map V.int).length 0 (some 1)) = sub at hcl
    have s2 := s1.new nl2 (o := .lst (sub.map V.int))
    refine ⟨l1, l2, _, _, rfl, rfl, same_new nl2 _ _ upd_same, upd_same, lt1 _ (by rw [List.length_map]; show 1 + sub.length ≤ 100000; omega), fun l3 nl3 => ?_⟩
    have s3 := s2.new nl3 (o := .lst ([V.int c0] ++ sub.map V.int))
    refine ⟨l3, rfl, ⟨_, sq upd_same⟩, for_list (K := K) (a := l3) (xs := (c0 :: sub).map V.int) (fun i σ H2 => ∃ v1 v2 v3 v4 v5 v6 v7 v8 v9, σ = [some (.ref a), v1, v2, v3, v4, v5, v6, v7, v8, v9] ∧ SqL K H2 a (ns.map V.int) ∧ H2 l3 = some (.lst ((c0 :: sub).map V.int))) ?_ ?_ ?_ (fun _ _ _ => True.intro)⟩
    · exact ⟨none, none, none, none, none, none, none, none, none, rfl, sqS hS s3, upd_same⟩
    · rintro i σ H2 _ ⟨v1, v2, v3, v4, v5, v6, v7, v8, v9, rfl, _, h3⟩
      exact sq h3
    rintro i x σ H2 hx ⟨v1, v2, v3, v4, v5, v6, v7, v8, v9, rfl, hS2, h3⟩
    obtain ⟨cc, _, rfl⟩ := getD_map hx
    refine ⟨_, rfl, cc, rfl, fun p Ha np sa wa => ?_⟩
    refine ⟨_, rfl, p, 0, rfl, wa, by omega, fun R S O U s t H3 ok e3 w3 hR hs ht hu nS nO nU => ⟨R, _, rfl, st hR, rfl, .ref S, _, rfl, .ref O, _, rfl, .ref U, _, rfl, rfl, ?_⟩⟩
    refine ⟨_, rfl, p, 7, 6, rfl, w3, by omega, by decide, by decide, fun g H4 g0 g1 e4 w4 => ?_⟩
    obtain ⟨n, rfl⟩ : ∃ n : Nat, g = n := ⟨g.toNat, by omega⟩
    have hn : n < 7 := by omega
    have pl := pow_lo n hn
    have ok' := ok
    obtain ⟨os, ot, a1, aa, n6, n20, m0, m1, m2, hit⟩ := ok'
    have os' := os
    obtain ⟨q1, q2, q3, q4⟩ := os'
    have ot' := ot
    obtain ⟨r1, r2, r3, r4⟩ := ot'
    have hs4 : SgAt H4 S s := e4 _ _ nS hs
    have ht4 : SgAt H4 O t := e4 _ _ nO ht
    have hu4 := e4 _ _ nU hu
    have fr4 : FrN p H2 H4 := (FrN.same sa).trans (FrN.ext (e3.trans e4))
    have dvU : ∀ {Z}, Z U = some (.tup (cwg s t)) → Dv Z (.ref U) (btwD s t) := fun h => by
      rw [btwD_hit q1 r1 m0 hit]
      exact .tup h (.cons (.int _) (.cons (.int _) (.cons (.int _) .nil)))
    refine ⟨btwD s t, tabs0 _, gv_two os ot a1 (by omega) (gv_cons (gv_var rfl hs4.dv) (gv_cons (gv_var rfl ht4.dv) gv_nil)), gv_var rfl (dvU hu4), by rw [btwD_hit q1 r1 m0 hit]; rfl, by rw [btwD_hit q1 r1 m0 hit]; rfl, fun H5 e5 _ => itbF rfl ?_⟩
    have w5 := w4.extN e5
    refine ⟨_, rfl, p, 7, rfl, w5, by omega, fun H6 f6 w6 => ⟨_, rfl, itbF rfl ?_⟩⟩
    have f46 : FrN p H4 H6 := (FrN.extN e5).trans f6
    have hs6 := f46.sg nS hs4
    have ht6 := f46.sg nO ht4
    have hu6 : H6 U = some (.tup (cwg s t)) := f46 _ _ nU hu4 fun _ z => by cases z
    have fr6 := fr4.trans f46
    clear f46 f6 e5 w5 w4 hs4 ht4 hu4 fr4 e3 w3 hR hs ht hu e4
    refine ⟨_, rfl, _, rfl, _, rfl, _, rfl, _, rfl, S, _, 3, .int s.m, rfl, rfl, st hs6, atI_nat (j := 3) rfl, _, rfl, _, rfl, O, _, 3, .int t.m, rfl, rfl, st ht6, atI_nat (j := 3) rfl, _, rfl, S, _, 3, .int s.m, rfl, rfl, st hs6, atI_nat (j := 3) rfl, _, _, rfl, rfl, _, _, rfl, rfl, p, t.m - s.m + 1, 12, rfl, w6, by omega, by omega, by omega, fun d H7 d0 d1 e7 w7 => ⟨_, _, rfl, rfl, S, O, U, s, t, n, s.m + d, rfl, e7 _ _ nS hs6, e7 _ _ nO ht6, e7 _ _ nU hu6, ok, hn, by omega, by omega, fun H8 e8 => ⟨_, rfl, itbF rfl ?_⟩⟩⟩
    have f68 : FrN p H6 H8 := (FrN.ext e7).trans (FrN.extN e8)
    have hs8 := f68.sg nS hs6
    have ht8 := f68.sg nO ht6
    have fr8 := fr6.trans f68
    clear f68 e8 w7 e7 w6 hs6 ht6 hu6 fr6
    refine ⟨(by show 0 ≤ sizeLine; decide), fun C nC => ?_⟩
    have hC9 : (upd H8 C (.lst [])) C = some (.lst (([] : List Int).map V.int)) := upd_same
    have hs9 : SgAt (upd H8 C (.lst [])) S s := same_new nC _ _ hs8
    have ht9 : SgAt (upd H8 C (.lst [])) O t := same_new nC _ _ ht8
    have nSC : S ≠ C := ne_of_none hs8 nC
    have nOC : O ≠ C := ne_of_none ht8 nC
    have fin : ∀ {G}, FrN C (upd H8 C (.lst [])) G → SqL K G a (ns.map V.int) ∧ G l3 = some (.lst ((c0 :: sub).map V.int)) := fun e => by
      have fr := fr8.over nC e
      exact ⟨sqF hS2 np fr, fr _ _ (ne_of_none h3 np) h3 fun _ z => by cases z⟩
    generalize upd H8 C (.lst []) = H9 at hC9 hs9 ht9 fin ⊢
    refine ⟨fun σ G => ∃ (cs : List Int) (v8 v9 : Option V), σ = LwSt a p S O U cc n C v8 v9 ∧ FrN C H9 G ∧ G C = some (.lst (cs.map V.int)) ∧ cs = cnts s t (t.m + 1 - s.m).toNat, ?_, ?_⟩
    · refine ⟨_, rfl, S, _, 3, .int s.m, rfl, rfl, st hs9, atI_nat (j := 3) rfl, _, rfl, O, _, 3, .int t.m, rfl, rfl, st ht9, atI_nat (j := 3) rfl, _, _, rfl, rfl, _, _, rfl, ⟨by omega, by omega, by omega, by omega⟩, for_range (lo := s.m) (n := (t.m + 1 - s.m).toNat) (fun i σ G => ∃ (cs : List Int) (v8 v9 : Option V), σ = LwSt a p S O U cc n C v8 v9 ∧ FrN C H9 G ∧ G C = some (.lst (cs.map V.int)) ∧ cs = cnts s t i ∧ cs.length ≤ i * 10100)
        ⟨[], _, _, rfl, FrN.refl _ _, hC9, rfl, Nat.zero_le _⟩ ?_ ?_⟩
      rotate_left
      · rintro σ G ⟨cs, v8, v9, rfl, fG, hC, hcs, _⟩
        exact ⟨cs, v8, v9, rfl, fG, hC, hcs⟩
      rintro i σ G hi ⟨cs, v8, v9, rfl, fG, hC, hcs, ln⟩
      obtain ⟨mk, hmk⟩ : ∃ mk : Int, mk = s.m + (i : Int) := ⟨_, rfl⟩
      rw [← hmk]
      refine ⟨_, rfl, _, rfl, _, rfl, S, O, s, t, mk, rfl, fG.sg nSC hs9, fG.sg nOC ht9, by omega, by omega, by omega, by omega, by omega, by omega, fun L xs G1 sG1 nL hL hx lx => ⟨L, rfl, ⟨_, sq hL⟩, for_list (xs := xs) (fun j σ G' => ∃ (cs' : List Int) (v9 : Option V), σ = LwSt a p S O U cc n C (some (.int mk)) v9 ∧ FrN C G1 G' ∧ G' C = some (.lst (cs'.map V.int)) ∧ cs' = cs ++ cTo s t mk j ∧ cs'.length ≤ i * 10100 + j) ⟨cs, v9, rfl, FrN.refl _ _, sG1 _ _ hC, by show cs = cs ++ []; rw [List.append_nil], by omega⟩ (fun j σ G' _ ⟨_, _, _, e, _⟩ => sq (e _ _ (fun z => by rw [z, hC] at nL; cases nL) hL fun _ z => by cases z)) ?_ ?_⟩⟩
      rotate_left
      · rintro σ G' ⟨cs', v9, rfl, fG', hC', hcs', ln'⟩
        refine ⟨cs', _, v9, rfl, (fG.trans (FrN.same sG1)).trans fG', hC', ?_, by omega⟩
        rw [hcs', hx.len, cnts_succ, ← hmk, hcs]
        unfold cTo cntsAt
        rw [List.take_length]
      rintro j x σ G' hj ⟨cs', v9, rfl, fG', hC', hcs', ln'⟩
      obtain ⟨b, u, hu, rfl, hb⟩ := hx.get hj
      have mu : u ∈ mids s t mk := List.mem_of_getElem? hu
      obtain ⟨ou, ua, um⟩ := SgOk.mid mu
      have ou' := ou
      obtain ⟨w1, w2, w3, w4⟩ := ou'
      have nbC : b ≠ C := fun z => by rw [z] at hb; have hb : G1 C = _ := hb; rw [sG1 _ _ hC] at hb; cases hb
      have frG := (fG.trans (FrN.same sG1)).trans fG'
      have hsG := frG.sg nSC hs9
      have htG := frG.sg nOC ht9
      have hbG := fG'.sg nbC hb
      have jl : j < (mids s t mk).length := lt_of_get hu
      have jx := hx.len
      have no : ∀ {Z}, LamX.ExtN G' Z → ¬ okU s t u → ∃ (cs' : List Int) (v9 : Option V), LwSt a p S O U cc n C (some (.int mk)) (some (.ref b)) = LwSt a p S O U cc n C (some (.int mk)) v9 ∧ FrN C G1 Z ∧ Z C = some (.lst (cs'.map V.int)) ∧ cs' = cs ++ cTo s t mk (j + 1) ∧ cs'.length ≤ i * 10100 + (j + 1) := fun e k =>
        ⟨cs', _, rfl, fG'.trans (FrN.extN e), e.lstv hC', by rw [cTo_succ hu, if_neg k, List.append_nil]; exact hcs', by omega⟩
      refine ⟨btwD s u, decide (hitP s u), tabs0 _, gv_two os ou a1 (by omega) (gv_cons (gv_var rfl hsG.dv) (gv_cons (gv_var rfl hbG.dv) gv_nil)), btwD_none q1 w1 (by omega), fun G2 e2 _ => ?_⟩
      by_cases h1 : hitP s u
      rotate_left
      · exact itbF (decide_eq_false h1) (itbF rfl (no e2 fun z => h1 z.1))
      refine itbT (decide_eq_true h1) ⟨btwD u t, decide (hitP u t), tabs0 _, gv_two ou ot (by omega) (by omega) (gv_cons (gv_var rfl (hbG.dv.ext e2)) (gv_cons (gv_var rfl (htG.dv.ext e2)) gv_nil)), btwD_none w1 r1 (by omega), fun G3 e3 _ => ?_⟩
      by_cases h2 : hitP u t
      rotate_left
      · exact itbF (decide_eq_false h2) (no (e2.trans e3) fun z => h2 z.2)
      have hC3 := (e2.trans e3).lstv hC'
      refine itbT (decide_eq_true h2) ⟨_, rfl, .inl ⟨rfl, _, sq hC3⟩, _, rfl, b, _, 1, .int u.c, rfl, rfl, st ((e2.trans e3).tupv hbG), atI_nat (j := 1) rfl, C, cs'.map V.int, .int u.c, rfl, rfl, hC3, ?_, ?_⟩
      · rw [List.length_map]; exact Nat.lt_of_le_of_lt (show cs'.length ≤ 300000 by omega) (by decide)
      · refine ⟨cs' ++ [u.c], _, rfl, (fG'.trans (FrN.extN (e2.trans e3))).self, by rw [upd_same, List.map_append]; rfl, ?_, by rw [List.length_append]; show cs'.length + 1 ≤ _; omega⟩
        rw [cTo_succ hu, if_pos ⟨h1, h2⟩, ← List.append_assoc, ← hcs']
    rintro σ G ⟨cs, v8, v9, rfl, fG, hC, hcs⟩
    have hsG := fG.sg nSC hs9
    have htG := fG.sg nOC ht9
    have fi := few_in os r1 m0 hit
    have mi := most_in os r1 m0 hit
    rw [← hcs] at fi mi
    have inb : ∀ z ∈ cs, fewI s t ≤ z ∧ z ≤ s.c + came s t := fun z hz => cnts_between os (by rw [← hcs]; exact hz)
    refine ⟨.list [.int (fewI s t), .int (s.c + came s t)], tabs0 _, gv_lst (gv_cons (by rw [← fewD_hit q1 r1 m0 hit]; exact gv_two os ot a1 (by omega) (gv_cons (gv_var rfl hsG.dv) (gv_cons (gv_var rfl htG.dv) gv_nil))) (gv_cons (by rw [← mostD_hit q1 r1 m0 hit]; exact gv_two os ot a1 (by omega) (gv_cons (gv_var rfl hsG.dv) (gv_cons (gv_var rfl htG.dv) gv_nil))) gv_nil)), gv_lst (gv_cons ?_ (gv_cons ?_ gv_nil)), rfl, rfl, fun G2 e2 _ => itbF rfl ?_⟩
    · intro Z eZ _ Q' kq
      refine ⟨_, rfl, C, cs, rfl, sq (eZ.lstv hC), List.length_pos_of_mem fi, fun m hm hle => kq _ Z (.refl _) (tabs0 _) ?_⟩
      rw [show m = fewI s t from Int.le_antisymm (hle _ fi) (inb m hm).1]
      exact .int _
    · intro Z eZ _ Q' kq
      refine ⟨_, rfl, C, cs, rfl, sq (eZ.lstv hC), List.length_pos_of_mem mi, fun m hm hle => kq _ Z (.refl _) (tabs0 _) ?_⟩
      rw [show m = s.c + came s t from Int.le_antisymm (inb m hm).2 (hle _ mi)]
      exact .int _
    refine ⟨_, rfl, _, _, rfl, rfl, _, rfl, ?_⟩
    by_cases c7 : (n : Int) > 0
    rotate_left
    · obtain ⟨z1, z2⟩ := fin (fG.trans (FrN.extN e2))
      exact itbF (decide_eq_false c7) (itbF rfl ⟨_, _, _, _, _, _, _, _, _, rfl, z1, z2⟩)
    refine itbT (decide_eq_true c7) ?_
    have gw := gv_ways (CV := CV) (CL := CL) (T := []) (n := n) (σ := LwSt a p S O U cc n C v8 v9) (H := G2) (E := fun _ _ _ => False) os ot a1 (by omega) hn m0 (by omega) (by omega) (gv_cons (gv_var (i := 3) rfl (hsG.dv.ext e2)) (gv_cons (gv_var (i := 4) rfl (htG.dv.ext e2)) (gv_cons (gv_var (i := 6) rfl (.int _)) gv_nil)))
    refine gw G2 (.refl _) (tabs0 _) _ fun x G3 e3 _ hx => ?_
    obtain rfl := hx.intv
    have two : (2 : Int) ≤ 2 ^ n := by
      have := pow2_mono (show 1 ≤ n by omega)
      exact this
    have vp := many_pos (S := 2 ^ n) q1 two hit
    obtain ⟨z1, z2⟩ := fin (fG.trans (FrN.extN (e2.trans e3)))
    refine ⟨.int (manyD (2 ^ n) s t), .int 0, .int _, .int _, rfl, rfl, _, rfl, itbF ?_ ⟨_, _, _, _, _, _, _, _, _, rfl, z1, z2⟩⟩
    rw [show PyData.eqv (.int (manyD (2 ^ n) s t)) (.int 0) = (manyD (2 ^ n) s t == 0) by simp [PyData.eqv]]
    exact beq_eq_false_iff_ne.mpr (fun z => by rw [z] at vp; exact absurd vp (by decide))
end
end K1


set_option Elab.async false
set_option linter.all false
set_option maxRecDepth 100000
set_option maxHeartbeats 4000000
namespace K1
open PySem PySem.Spec PyProof.Rows L2 RZ
/-! ### the end -/
section
variable {K : PySem.W.Frag} {h : Heap} {mg : Str → Option Value}
theorem cs_mk {x : Str} {n : Int} {t : Tok} {v : Value} (X : K.In h) (G : h.Ns mainGlobals mg) (a : PySem.W.nsIn K mainGlobals x = some (some v)) (e : v = .int n t) : ∃ t, mg x = some (.int n t) := ⟨t, by rw [PySem.W.mg_of X G a, e]⟩
theorem at_mk {x : Str} {st : Stmt} {f : Addr} {oc : Value} {od an : Option Addr} {osl : Array (Option Value)} {kV doc pm cdv ct : Value} (X : K.In h) (G : h.Ns mainGlobals mg) (a : PySem.W.nsIn K mainGlobals x = some (some (.ref f)))
    (l : K.lookup f = some ⟨oc, od, .func (PySem.W.fnOf x x (defArgs st) (defBody st) (defScope st) .none kV doc pm an cdv ct), osl⟩) (c : PySem.W.codeIn K cdv x = true) (k : PySem.W.keepIn K (.ref f) = true) : At K mg x st :=
  ⟨f, _, PySem.W.mg_of X G a, fun_mk l c k⟩
/-- an error of the class at S is what its own clause names -/
theorem exm_own {S : Addr} (h1 : PySem.W.subIn K (.ref S) (.type "BaseException") = some true) (h2 : PySem.W.isClsIn K S = true) (h3 : PySem.W.typeIn K (.ref S) = some (.type "type")) (h4 : PySem.W.subIn K (.ref S) (.ref S) = some true) :
    PySem.W.exmOne K (.ref S) (.ref S) = some true := by
  unfold PySem.W.exmOne
  unfold PySem.W.kitCls
  unfold PySem.W.isClsIn at h2
  simp only [h1, h2, h3, h4]
  simp
theorem tide_mk {prog : Program} {x fl qual tx : Str} {C fI cda cc : Addr} {nm q : Str} {N : Addr} {bs BM : List Value} {sn : List Str} {sub : List Value} {ab : Bool} {col : Option Bool} {dd : Option Addr} {m0 m1 m2 m3 m5 : Option Value}
    {oc doc pm ct ccl cl : Value} {od an cdd cld : Option Addr} {osl ccs csl : Array (Option Value)} {j : Nat} {p1 p2 q1 q2 q3 q4 q5 q6 q7 q8 q9 q10 : Pos} {vs : Array Value} {file : Str} {tf : Tok} (X : K.In h) (G : h.Ns mainGlobals mg) (ok : PySem.Tide.FlOk fl)
    (ci : PySem.Tide.CallIs tx j q1 q2 q3 q4 q5) (htop : (prog.main.scope.names.lookup ("super" : Str)).isSome = false)
    (aC : PySem.W.nsIn K mainGlobals x = some (some (.ref C))) (xL : K.lookup C = some (PySem.excClassObj nm q C N bs BM true sn sub ab col dd m0 m1 m2 m3 m5 "ValueError.__new__")) (bm : PySem.HandSPX.refsVE BM = true)
    (sa : PySem.W.findIn K (.ref C) "__setattr__" = some (some (.builtin "object.__setattr__"))) (ga : PySem.W.findIn K (.ref C) "__getattribute__" = some (some (.builtin "BaseException.__getattribute__"))) (gg : PySem.W.findIn K (.ref C) "__getattr__" = some none) (nb : PySem.W.findIn K (.ref C) fl = some none)
    (a1 : PySem.W.findIn K (.ref C) "__init__" = some (some (.ref fI))) (t1 : PySem.W.typeIn K (.ref fI) = some (.type "function"))
    (l1 : K.lookup fI = some ⟨oc, od, .func (PySem.W.ksFn "__init__" qual (PySem.Tide.iA fl p1 p2) (PySem.Tide.iB fl tx j q1 q2 q3 q4 q5 q6 q7 q8 q9 q10) (PySem.Tide.iS fl) .none .none doc pm an (.ref cda) ct cc), osl⟩) (c1 : PySem.W.codeIn K (.ref cda) qual = true)
    (n1 : K.lookup cda = some ⟨ccl, cdd, .fields vs, ccs⟩) (n2 : vs[2]? = some (.str file tf)) (n3 : ((prog.main.file : Str) == file) = true) (n4 : K.lookup cc = some ⟨cl, cld, .cell (some (.ref C)), csl⟩)
    (kC : PySem.W.keepIn K (.ref C) = true) (eC : PySem.W.subIn K (.ref C) (.type "BaseException") = some true) (tC : PySem.W.typeIn K (.ref C) = some (.type "type")) (hC : PySem.W.hasDictIn K C = true) (iC : PySem.W.isClsIn K C = true) (sC : PySem.W.subIn K (.ref C) (.ref C) = some true)
    (su : PySem.W.ks_superIn K C C "__init__" = some (some (.builtin "ValueError.__init__"))) (vC : PySem.W.subIn K (.ref C) (.type "ValueError") = some true) (mC : PySem.W.mroIn K C (.ref C) = some true) (tpa : PySem.W.nsIn K PySem.cStatics "thirdparty.any" = some none)
    (ns : PySem.W.nsIn K mainGlobals "super" = some none) : PySem.Tide.TideTxt prog K mg x C fI fl :=
  { gC := PySem.W.mg_of X G aC, ok := ok, cls := ⟨nm, q, N, bs, BM, sn, sub, ab, col, dd, m0, m1, m2, m3, m5, xL, bm⟩, sa := sa, ga := ga, gg := gg, noN := nb, iC := a1, tC := t1, kC := kC, exC := eC, tyC := tC, hdC := hC, te := exm_own eC iC tC sC, sup := su, isV := vC, self_ := mC, tpa := tpa,
    nsu := PySem.W.mg_none_of X G ns, htop := htop,
    fn := ⟨oc, od, doc, pm, ct, an, osl, qual, tx, j, p1, p2, q1, q2, q3, q4, q5, q6, q7, q8, q9, q10, cda, cc, l1, c1, ci, ⟨ccl, cdd, vs, ccs, file, tf, n1, n2, n3⟩, ⟨cl, cld, csl, n4⟩⟩ }
end
section
variable {P : Program} {w : World} {K : PySem.W.Frag} {mg : Str → Option Value} {base : Heap} {CV CL PA PL c : Addr}
theorem def_cell (T : Bj mg) (a : At K mg "_law_cell_at" sCell) : Def P w K mg base CX0 1 "_law_cell_at" nCell (spCell K) :=
  a.def (fun _ _ _ _ _ _ us hl => match us, hl with | [_, _], _ => rfl) fun f fd F => ok_cell T F
theorem def_well (T : Bj mg) (a : At K mg "_law_well" sWell) : Def P w K mg base CX0 1 "_law_well" nWell spWell :=
  a.def (fun _ _ _ _ _ _ us hl => match us, hl with | [_], _ => rfl) fun f fd F => ok_well T F
theorem def_draw (T : Bj mg) (a : At K mg "_law_draw" sDraw) : Def P w K mg base CX0 1 "_law_draw" pDraw spDraw :=
  a.def (fun _ _ _ _ _ _ us hl => match us, hl with | [_, _], _ => rfl) fun f fd F => ok_draw T F
end
theorem all_mk {l : PySem.W.OpenLaw} {w : World} {K : PySem.W.Frag} {h : Heap} {mg : Str → Option Value} {fa f CV CL fV fL : Addr} {oc kV dc pm cdv ct : Value} {od an : Option Addr} {sl : Array (Option Value)} (X : K.In h) (G : h.Ns mainGlobals mg) (hfa : mg "law" = some (.ref fa))
    (TV : PySem.Tide.TideTxt l.prog K mg "BadValue" CV fV "why") (TL : PySem.Tide.TideTxt l.prog K mg "TooLarge" CL fL "limit") (T : Bj mg) (C : Cs mg)
    (a0 : At K mg "is_integer" sIsInt)
    (a1 : At K mg "is_number" sIsNum)
    (a2 : At K mg "is_mark" sIsMark)
    (a3 : At K mg "between" sBetween)
    (a4 : At K mg "ways" sWays)
    (a5 : At K mg "_between" sBtw)
    (a6 : At K mg "_increase" sInc)
    (a7 : At K mg "_check_sights" sCheck)
    (a8 : At K mg "_is_sight" sSight)
    (a9 : At K mg "_law_cell_at" sCell)
    (a10 : At K mg "_law_well" sWell)
    (a11 : At K mg "_law_draw" sDraw)
    (a12 : At K mg "most_at_once" sMost)
    (a13 : At K mg "fewest_at_once" sFew)
    (a14 : At K mg "_law_pair" sPair)
    (a15 : At K mg "_law_far_right" sFar)
    (a16 : At K mg "_law_middle" sMid)
    (a17 : At K mg "_law_product" sProd)
    (a18 : At K mg "_law_right" sRight)
    (aL : PySem.W.nsIn K mainGlobals "law" = some (some (.ref f))) (lL : K.lookup f = some ⟨oc, od, .func (PySem.W.fnOf "law" "law" (defArgs sLaw) (defBody sLaw) (defScope sLaw) .none kV dc pm an cdv ct), sl⟩) (cL' : PySem.W.codeIn K cdv "law" = true) (kL : PySem.W.keepIn K (.ref f) = true) :
    LamX.LawAtS l w K CX0 7 63 "_law_script" mg fa h := by
  have e := hfa.symm.trans (PySem.W.mg_of X G aL)
  cases e
  refine ⟨PySem.W.fnOf "law" "law" (defArgs sLaw) (defBody sLaw) (defScope sLaw) .none kV dc pm an cdv ct, [], spLaw K, (fun p z => nomatch z), (fun p z => nomatch z), (fun p z => nomatch z), fun s u => .of_eq rfl,
    fun H a ns hl _ hH hS => ⟨a, ns, rfl, hS, hl, fun _ => rfl⟩, fun base hb _ hTB => ?_⟩
  have dInt := def_isInt (P := l.prog) (w := w) (base := base) T a0
  have dNum := def_isNum T dInt a1
  have dMark := def_isMark T dInt a2
  have dSight := def_sight T dInt dNum dMark a8
  have dCheck := def_check TV dSight a7
  have dBtw := def_btw (P := l.prog) (w := w) (base := base) T a5
  have dInc := def_inc (P := l.prog) (w := w) (base := base) a6
  have dBetween := def_between (CL := CL) dCheck dBtw a3
  have dWays := def_ways T C TV TL dInt dCheck dBtw dInc a4
  have dMost := def_most (CL := CL) dCheck dBtw a12
  have dFew := def_few (CL := CL) T dCheck dBtw a13
  have dCell := def_cell (P := l.prog) (w := w) (base := base) T a9
  have dWell := def_well (P := l.prog) (w := w) (base := base) T a10
  have dDraw := def_draw (P := l.prog) (w := w) (base := base) T a11
  have dPair := def_pair T dDraw a14
  have dProd := def_prod (P := l.prog) (w := w) (base := base) T a17
  have dFar := def_far T dDraw dProd dWays a15
  have dMid := def_mid (P := l.prog) (w := w) (base := base) T a16
  have dRight := def_right T dMid dBetween dWays a18
  have F : Fun K "law" "law" sLaw fa _ := ⟨⟨oc, od, kV, dc, pm, an, cdv, ct, sl, rfl, lL, cL'⟩, kL⟩
  exact ok_law T dCell dWell dDraw dPair dFar dMid dRight dBetween dWays dMost dFew F
end K1


open PySem PySem.W PyProof.Rows
set_option Elab.async false
set_option linter.all false
set_option maxRecDepth 100000 in
set_option maxHeartbeats 0 in
theorem PySem.Challenge.cw_mailtide_k56_whole_ways_by_way_of_sights_holds : PySem.Challenge.rw_mailtide_k56_whole_ways_by_way_of_sights.Holds := by
  w_on; o_law; k_head; (case hw => w_witness2)
  k_fill
  refine LamX.walk_ofTs (l := PySem.Challenge.rw_mailtide_k56_whole_ways_by_way_of_sights) (n := 63) (k := 7) (x := "_law_script") (CX := fun _ => L2.CX0) rfl (by decide) rfl ⟨rfl, by decide, by decide⟩ (fun w h Y => PySem.W.kIn_of Y) ?F (fun _ _ _ _ _ z => z)
  intro w mg mb h Y KX Gg hmg
  refine' K1.all_mk KX Gg hmg ?TV ?TL ?T ?C ?a0 ?a1 ?a2 ?a3 ?a4 ?a5 ?a6 ?a7 ?a8 ?a9 ?a10 ?a11 ?a12 ?a13 ?a14 ?a15 ?a16 ?a17 ?a18 ?aL ?lL ?cL ?kL
  case TV =>
    refine' K1.tide_mk (tx := "a wrong value") (j := 0) (p1 := ⟨6, 17, 6, 21⟩) (p2 := ⟨6, 23, 6, 26⟩) (q1 := ⟨7, 8, 7, 13⟩) (q2 := ⟨7, 8, 7, 15⟩) (q3 := ⟨7, 8, 7, 24⟩) (q4 := ⟨7, 25, 7, 40⟩) (q5 := ⟨7, 8, 7, 41⟩) (q6 := ⟨7, 8, 7, 41⟩) (q7 := ⟨8, 8, 8, 12⟩) (q8 := ⟨8, 8, 8, 16⟩) (q9 := ⟨8, 19, 8, 22⟩) (q10 := ⟨8, 8, 8, 22⟩) KX Gg PySem.Tide.ok_why ⟨_, fun env => by rfl⟩ (by decide +kernel) ?vaC ?vxL ?vbm ?vsa ?vga ?vgg ?vnb ?va1 ?vt1 ?vl1 ?vc1 ?vn1 ?vn2 ?vn3 ?vn4 ?vkC ?veC ?vtC ?vhC ?viC ?vsC ?vsu ?vvC ?vmC ?vtpa ?vns
    (case vaC => k_is)
    (case vxL => k_is)
    (case vbm => decide +kernel)
    (case vsa => k_is)
    (case vga => k_is)
    (case vgg => k_is)
    (case vnb => k_is)
    (case va1 => k_is)
    (case vt1 => k_is)
    (case vl1 => k_is)
    (case vc1 => k_is)
    (case vn1 => k_is)
    (case vn2 => rfl)
    (case vn3 => decide +kernel)
    (case vn4 => k_is)
    (case vkC => k_is)
    (case veC => k_is)
    (case vtC => k_is)
    (case vhC => k_is)
    (case viC => k_is)
    (case vsC => k_is)
    (case vsu => ks_is)
    (case vvC => k_is)
    (case vmC => k_is)
    (case vtpa => k_is)
    (case vns => k_is)
  case TL =>
    refine' K1.tide_mk (tx := "above the limit") (j := 0) (p1 := ⟨11, 17, 11, 21⟩) (p2 := ⟨11, 23, 11, 28⟩) (q1 := ⟨12, 8, 12, 13⟩) (q2 := ⟨12, 8, 12, 15⟩) (q3 := ⟨12, 8, 12, 24⟩) (q4 := ⟨12, 25, 12, 42⟩) (q5 := ⟨12, 8, 12, 43⟩) (q6 := ⟨12, 8, 12, 43⟩) (q7 := ⟨13, 8, 13, 12⟩) (q8 := ⟨13, 8, 13, 18⟩) (q9 := ⟨13, 21, 13, 26⟩) (q10 := ⟨13, 8, 13, 26⟩) KX Gg PySem.Tide.ok_limit ⟨_, fun env => by rfl⟩ (by decide +kernel) ?laC ?lxL ?lbm ?lsa ?lga ?lgg ?lnb ?la1 ?lt1 ?ll1 ?lc1 ?ln1 ?ln2 ?ln3 ?ln4 ?lkC ?leC ?ltC ?lhC ?liC ?lsC ?lsu ?lvC ?lmC ?ltpa ?lns
    (case laC => k_is)
    (case lxL => k_is)
    (case lbm => decide +kernel)
    (case lsa => k_is)
    (case lga => k_is)
    (case lgg => k_is)
    (case lnb => k_is)
    (case la1 => k_is)
    (case lt1 => k_is)
    (case ll1 => k_is)
    (case lc1 => k_is)
    (case ln1 => k_is)
    (case ln2 => rfl)
    (case ln3 => decide +kernel)
    (case ln4 => k_is)
    (case lkC => k_is)
    (case leC => k_is)
    (case ltC => k_is)
    (case lhC => k_is)
    (case liC => k_is)
    (case lsC => k_is)
    (case lsu => ks_is)
    (case lvC => k_is)
    (case lmC => k_is)
    (case ltpa => k_is)
    (case lns => k_is)
  case T =>
    refine' ⟨⟨PySem.W.mg_none_of KX Gg ?z0, PySem.W.mg_none_of KX Gg ?z1, PySem.W.mg_none_of KX Gg ?z2, PySem.W.mg_none_of KX Gg ?z3, PySem.W.mg_none_of KX Gg ?z4, PySem.W.mg_none_of KX Gg ?z5, PySem.W.mg_none_of KX Gg ?z6, PySem.W.mg_none_of KX Gg ?z7, PySem.W.mg_none_of KX Gg ?z8, PySem.W.mg_none_of KX Gg ?z9, PySem.W.mg_none_of KX Gg ?z10, PySem.W.mg_none_of KX Gg ?z11⟩, PySem.W.mg_none_of KX Gg ?z12, PySem.W.mg_none_of KX Gg ?z13⟩
    (case z0 => k_is); (case z1 => k_is); (case z2 => k_is); (case z3 => k_is); (case z4 => k_is); (case z5 => k_is); (case z6 => k_is); (case z7 => k_is); (case z8 => k_is); (case z9 => k_is); (case z10 => k_is); (case z11 => k_is); (case z12 => k_is); (case z13 => k_is)
  case C =>
    refine' ⟨K1.cs_mk KX Gg ?v0 ?w0, K1.cs_mk KX Gg ?v1 ?w1⟩
    (case v0 => k_is); (case w0 => rfl); (case v1 => k_is); (case w1 => rfl)
  case a0 =>
    refine' K1.at_mk KX Gg ?b ?l ?c ?k
    (case b => k_is); (case l => k_is); (case c => k_is); (case k => k_is)
  case a1 =>
    refine' K1.at_mk KX Gg ?b ?l ?c ?k
    (case b => k_is); (case l => k_is); (case c => k_is); (case k => k_is)
  case a2 =>
    refine' K1.at_mk KX Gg ?b ?l ?c ?k
    (case b => k_is); (case l => k_is); (case c => k_is); (case k => k_is)
  case a3 =>
    refine' K1.at_mk KX Gg ?b ?l ?c ?k
    (case b => k_is); (case l => k_is); (case c => k_is); (case k => k_is)
  case a4 =>
    refine' K1.at_mk KX Gg ?b ?l ?c ?k
    (case b => k_is); (case l => k_is); (case c => k_is); (case k => k_is)
  case a5 =>
    refine' K1.at_mk KX Gg ?b ?l ?c ?k
    (case b => k_is); (case l => k_is); (case c => k_is); (case k => k_is)
  case a6 =>
    refine' K1.at_mk KX Gg ?b ?l ?c ?k
    (case b => k_is); (case l => k_is); (case c => k_is); (case k => k_is)
  case a7 =>
    refine' K1.at_mk KX Gg ?b ?l ?c ?k
    (case b => k_is); (case l => k_is); (case c => k_is); (case k => k_is)
  case a8 =>
    refine' K1.at_mk KX Gg ?b ?l ?c ?k
    (case b => k_is); (case l => k_is); (case c => k_is); (case k => k_is)
  case a9 =>
    refine' K1.at_mk KX Gg ?b ?l ?c ?k
    (case b => k_is); (case l => k_is); (case c => k_is); (case k => k_is)
  case a10 =>
    refine' K1.at_mk KX Gg ?b ?l ?c ?k
    (case b => k_is); (case l => k_is); (case c => k_is); (case k => k_is)
  case a11 =>
    refine' K1.at_mk KX Gg ?b ?l ?c ?k
    (case b => k_is); (case l => k_is); (case c => k_is); (case k => k_is)
  case a12 =>
    refine' K1.at_mk KX Gg ?b ?l ?c ?k
    (case b => k_is); (case l => k_is); (case c => k_is); (case k => k_is)
  case a13 =>
    refine' K1.at_mk KX Gg ?b ?l ?c ?k
    (case b => k_is); (case l => k_is); (case c => k_is); (case k => k_is)
  case a14 =>
    refine' K1.at_mk KX Gg ?b ?l ?c ?k
    (case b => k_is); (case l => k_is); (case c => k_is); (case k => k_is)
  case a15 =>
    refine' K1.at_mk KX Gg ?b ?l ?c ?k
    (case b => k_is); (case l => k_is); (case c => k_is); (case k => k_is)
  case a16 =>
    refine' K1.at_mk KX Gg ?b ?l ?c ?k
    (case b => k_is); (case l => k_is); (case c => k_is); (case k => k_is)
  case a17 =>
    refine' K1.at_mk KX Gg ?b ?l ?c ?k
    (case b => k_is); (case l => k_is); (case c => k_is); (case k => k_is)
  case a18 =>
    refine' K1.at_mk KX Gg ?b ?l ?c ?k
    (case b => k_is); (case l => k_is); (case c => k_is); (case k => k_is)
  (case aL => k_is); (case lL => k_is); (case cL => k_is); (case kL => k_is)

