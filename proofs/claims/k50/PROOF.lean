import PyProof.Rows.All
import Wide.All
import OpenK.AllK
import Wide.FinOn
import PySem.Challenge.RW_mailtide_k50_whole_rounds_and_probes
import HandS.ForMost
import HandS.Exc
import HandS.TryOnly
import HandS.TryMany
import HandS.Lambda
import HandS.EndTab
import HandS.IsInst
import HandS.SortRule
import HandS.SortInts
import HandS.StrMore
import HandS.Conv
import HandS.Wide
import HandS.Flow
import HandS.Walk
import HandS.TupAny
import HandS.ListEq
import HandS.DeepEq
import KE.KExcSuper
import KE.GoesMore
import PyProof.Draws
import HandS.ForExc
import HandS.Zip
import HandS.DictTup
import HandS.DictComp
import KE.KDictDisplayH
import HandS.SortKw
import HandS.Sort
import HandS.TupSets
import HandS.Defaults
import KE.DataMinMax
import KE.DatumOrd
import HandS.MakeKwOnly
import HandS.Style
set_option Elab.async false
set_option linter.all false
set_option maxRecDepth 100000
namespace K1
open PySem PySem.Spec PyProof.Rows L2
def topS (i : Nat) : Stmt := PySem.Challenge.pw_mailtide_k50_whole_rounds_and_probes.main.body.getD i (.Pass ⟨0, 0, 0, 0⟩)
abbrev st__wall : Stmt := topS 0
abbrev st_TideError : Stmt := topS 2
abbrev st_BadValue : Stmt := topS 3
abbrev st_is_integer : Stmt := topS 5
abbrev st_Probing : Stmt := topS 7
abbrev st__is_clear : Stmt := topS 8
abbrev st__halves : Stmt := topS 9
abbrev st_least_probes : Stmt := topS 12
abbrev st_least_rounds : Stmt := topS 13
abbrev st_curve : Stmt := topS 14
abbrev st__curve : Stmt := topS 15
abbrev st__check_many : Stmt := topS 16
abbrev st__law_draw : Stmt := topS 18
abbrev st__law_one : Stmt := topS 19
abbrev st__law_well : Stmt := topS 20
abbrev st__law_best : Stmt := topS 21
abbrev st__law_both : Stmt := topS 22
abbrev st__law_either : Stmt := topS 23
abbrev st__law_front : Stmt := topS 24
abbrev st__law_right : Stmt := topS 25
abbrev st__law_great_right : Stmt := topS 26
abbrev st_law : Stmt := topS 27
end K1


set_option Elab.async false
set_option linter.all false
set_option maxRecDepth 100000
set_option maxHeartbeats 4000000
namespace K1
open PySem PySem.Spec PyProof.Rows L2
/-! ### a def by its name -/
structure Def (P : Program) (w : World) (K : PySem.W.Frag) (mg : Str → Option Value) (base : Heap) (CX : CXT) (k : Nat) (x : Str) (ps : List Str) (sp : Sp) : Prop where
  ex : ∃ (f : Addr) (fd : FuncData), mg x = some (.ref f) ∧ PySem.W.keepIn K (.ref f) = true ∧ Binds K fd ps [] ∧ FnOk P w K mg base CX k f fd ps sp
section
variable {X : Cx} {CX : CXT} {k : Nat} {ps : List Str} {sp : Sp} {E : XK} {x : Str} {p pos : Pos} {e : Expr} {es : List Expr} {t : TA}
theorem pe_def (D : Def X.prog X.w X.K X.mg X.base CX k x ps sp) (hr : Room k X.A) (hg : Gl X x) (hx : Passes CX X E)
    (ha : PA X (e :: es) t) (hdb : (x == ("__debug__" : Str)) = false := by decide) (he : starEach (e :: es) X.env = (false, eval e X.env) :: starEach es X.env := by rfl) (hpl : (backTo pos (starEach es X.env)).any (·.1) = false := by rfl) :
    PE X (.Call (.Name x p) (e :: es) [] pos) (tCall sp [] E t) := by
  obtain ⟨f, fd, hm, hk, hb, F⟩ := D.ex
  exact pe_call F hr hg hm hk hb .nil hx ha hdb he hpl
theorem pe_def0 (D : Def X.prog X.w X.K X.mg X.base CX k x ps sp) (hr : Room k X.A) (hg : Gl X x) (hx : Passes CX X E)
    (hdb : (x == ("__debug__" : Str)) = false := by decide) : PE X (.Call (.Name x p) [] [] pos) (tCall sp [] E tNil) := by
  obtain ⟨f, fd, hm, hk, hb, F⟩ := D.ex
  exact pe_call0 F hr hg hm hk hb .nil hx hdb
end
/-! ### heaps: all that is tracked but p stays -/
def Ext (p : Addr) (H H' : Hp) : Prop := ∀ b o, b ≠ p → H b = some o → H' b = some o
theorem Ext.refl {p : Addr} (H : Hp) : Ext p H H := fun _ _ _ h => h
theorem Ext.trans {p : Addr} {H H1 H2 : Hp} (a : Ext p H H1) (b : Ext p H1 H2) : Ext p H H2 := fun c o n h => b c o n (a c o n h)
theorem Ext.self {p : Addr} {H H' : Hp} {o : HO} (a : Ext p H H') : Ext p H (upd H' p o) := fun c u n h => by rw [upd_ne n]; exact a c u n h
theorem Ext.new {p q : Addr} {H H' : Hp} {o : HO} (a : Ext p H H') (h : H' q = none) : Ext p H (upd H' q o) := fun c u n e => by
  have e' := a c u n e
  rw [upd_ne (ne_of_none e' h)]; exact e'
theorem Ext.mut {p q : Addr} {H H' : Hp} {o : HO} (a : Ext p H H') (h : H q = none) : Ext p H (upd H' q o) := fun c u n e => by
  rw [upd_ne (ne_of_none e h)]; exact a c u n e
theorem Ext.free {p q : Addr} {H H' : Hp} (a : Ext p H H') (h : H' q = none) (n : q ≠ p) : H q = none := by
  cases e : H q with
  | none => rfl
  | some o => rw [a q o n e] at h; cases h
theorem same_ext {p : Addr} {H H' : Hp} (a : Same H H') : Ext p H H' := fun b o _ h => a b o h
theorem same_new {q : Addr} {H : Hp} {o : HO} (h : H q = none) : Same H (upd H q o) := fun c u e => by
  rw [upd_ne (ne_of_none e h)]; exact e
theorem _root_.L2.Same.new {q : Addr} {H H' : Hp} {o : HO} (a : Same H H') (h : H' q = none) : Same H (upd H' q o) := a.trans (same_new h)
theorem _root_.L2.Same.mut {q : Addr} {H H' : Hp} {o : HO} (a : Same H H') (h : H q = none) : Same H (upd H' q o) := fun c u e => by
  rw [upd_ne (ne_of_none e h)]; exact a c u e
theorem lt1 (n : Nat) (h : n ≤ 100000) : n ≤ sizeLine := Nat.le_trans h (by decide)
theorem lt2 (n : Nat) (h : n ≤ 100000) : n < sizeLine := Nat.lt_of_le_of_lt h (by decide)
/-- a well: three ints -/
def WellAt (H : Hp) (p : Addr) : Prop := ∃ c m t : Int, H p = some (.lst [.int c, .int m, .int t])
theorem WellAt.new {H : Hp} {p q : Addr} {o : HO} (w : WellAt H p) (h : H q = none) : WellAt (upd H q o) p := by
  obtain ⟨c, m, t, e⟩ := w
  exact ⟨c, m, t, by rw [upd_ne (ne_of_none e h)]; exact e⟩
theorem WellAt.ne {H : Hp} {p q : Addr} (w : WellAt H p) (h : H q = none) : q ≠ p := by
  obtain ⟨c, m, t, e⟩ := w
  exact (ne_of_none e h).symm
theorem WellAt.upd {H : Hp} {p q : Addr} {o : HO} (w : WellAt H p) (h : q ≠ p) : WellAt (upd H q o) p := by
  obtain ⟨c, m, t, e⟩ := w
  exact ⟨c, m, t, by rw [upd_ne h.symm]; exact e⟩
theorem sq {K : PySem.W.Frag} {H : Hp} {a : Addr} {xs : List V} (h : H a = some (.lst xs)) : SqL K H a xs := .inl (.inl h)
theorem st {K : PySem.W.Frag} {H : Hp} {a : Addr} {xs : List V} (h : H a = some (.tup xs)) : SqT K H a xs := .inl (.inl h)
/-- names that the top leaves to the built-ins -/
structure Bi (mg : Str → Option Value) : Prop where
  int : mg "int" = none
  len : mg "len" = none
  str : mg "str" = none
  range : mg "range" = none
  max : mg "max" = none
  min : mg "min" = none
  sorted : mg "sorted" = none
  tuple : mg "tuple" = none
  list : mg "list" = none
  enumerate : mg "enumerate" = none
  isinstance : mg "isinstance" = none
  bool : mg "bool" = none
end K1
namespace K1
open PySem PySem.Spec PyProof.Rows L2
/-- a def of the text stands at its name -/
def At (K : PySem.W.Frag) (mg : Str → Option Value) (x : Str) (st : Stmt) : Prop := ∃ (f : Addr) (fd : FuncData), mg x = some (.ref f) ∧ Fun K x x st f fd
theorem At.def {P : Program} {w : World} {K : PySem.W.Frag} {mg : Str → Option Value} {base : Heap} {CX : CXT} {k : Nat} {x : Str} {ps : List Str} {sp : Sp} {st : Stmt} (a : At K mg x st)
    (hb : ∀ (kV doc pm : Value) (an : Option Addr) (cdv ct : Value) (us : List Value), us.length = ps.length → bindArgs (PySem.W.fnOf x x (defArgs st) (defBody st) (defScope st) .none kV doc pm an cdv ct) ⟨us, []⟩ = pure (ps.zip us))
    (h : ∀ f fd, Fun K x x st f fd → FnOk P w K mg base CX k f fd ps sp) : Def P w K mg base CX k x ps sp := by
  obtain ⟨f, fd, hm, F⟩ := a
  exact ⟨f, fd, hm, F.kp, F.binds hb, h f fd F⟩
end K1
namespace K1
open PySem PySem.Spec PyProof.Rows L2
def G : Int := 999999999999999999999999999999
/-- numbers that are there -/
structure There (ns : List Int) : Prop where
  asc : ns.Pairwise (· < ·)
  rng : ∀ n ∈ ns, 1 ≤ n ∧ n ≤ G
  len : ns.length ≤ 200
theorem getD_map {ns : List Int} {i : Nat} {y : V} (h : (ns.map V.int)[i]? = some y) : ∃ z, ns[i]? = some z ∧ y = .int z := by
  rw [List.getElem?_map] at h
  cases e : ns[i]? with
  | none => rw [e] at h; cases h
  | some z => rw [e] at h; exact ⟨z, rfl, (Option.some.inj h).symm⟩
theorem take_more {α : Type} {l : List α} {i : Nat} {x : α} (h : l[i]? = some x) : l.take (i + 1) = l.take i ++ [x] := by
  rw [List.take_add_one, h]; rfl
theorem lt_of_get {α : Type} {l : List α} {i : Nat} {x : α} (h : l[i]? = some x) : i < l.length := (List.getElem?_eq_some_iff.mp h).1
end K1
namespace K1
open PySem PySem.Spec PyProof.Rows L2
/-- a comprehension without a test -/
theorem tyes {σ : L2.St} {H : Hp} {A B : Hp → Prop} (h : A H) : tYes σ H (fun b H3 => if b = true then A H3 else B H3) := by
  show (if true = true then A H else B H)
  rw [if_pos rfl]
  exact h
/-- a test whose answer is known -/
theorem itbT {c : Bool} {A B : Prop} (hc : c = true) (h : A) : if c = true then A else B := by
  rw [if_pos hc]
  exact h
theorem itbF {c : Bool} {A B : Prop} (hc : c = false) (h : B) : if c = true then A else B := by
  rw [hc, if_neg Bool.false_ne_true]
  exact h
end K1
namespace K1
open PySem PySem.Spec PyProof.Rows L2
/-! ### rules with the written part by its name (for blocks) -/
section
variable {X : Cx} {K : PySem.W.Frag}
theorem call_lenK (h : X.K = K) : CallR X (.builtin "len") (fun xs H Q => ∃ p ys, xs = [.ref p] ∧ (SqL K H p ys ∨ SqT K H p ys) ∧ Q (.int ys.length) H) := by
  subst h; exact call_len_seq
theorem ix_listK (h : X.K = K) : IxR X (rIxL K) := by subst h; exact ix_list
theorem ix_tupK (h : X.K = K) : IxR X (rIxT K) := by subst h; exact ix_tup
theorem op_in_seqK (h : X.K = K) : OpR X (compareOp .In) (rIn K false) := by subst h; exact op_in_seq
theorem op_notIn_seqK (h : X.K = K) : OpR X (compareOp .NotIn) (rIn K true) := by subst h; exact op_notIn_seq
theorem op_eqDK (h : X.K = K) (hu : X.A.units + 64 < cLine) : OpR X (compareOp .Eq) (rEqD K) := by subst h; exact op_eqD hu
theorem op_neDK (h : X.K = K) (hu : X.A.units + 64 < cLine) : OpR X (compareOp .NotEq) (rNeD K) := by subst h; exact op_neD hu
theorem pi_listK {tg l : Expr} {tl : TE} (h : X.K = K) (hl : PE X l tl) : PI X tg l (iList K tl) := by subst h; exact pi_list hl
theorem pi_tupK {tg l : Expr} {tl : TE} (h : X.K = K) (hl : PE X l tl) : PI X tg l (iTup K tl) := by subst h; exact pi_tup hl
theorem call_list_ofK (h : X.K = K) : CallR X (.type "list") (fun xs H Q => ∃ p ys, xs = [.ref p] ∧ (SqL K H p ys ∨ SqT K H p ys) ∧ ∀ l, H l = none → Q (.ref l) (upd H l (.lst ys))) := by
  subst h; exact call_list_of
theorem call_tuple_ofK (h : X.K = K) : CallR X (.type "tuple") (fun xs H Q => ∃ p ys, xs = [.ref p] ∧ ((SqL K H p ys ∧ ∀ l, H l = none → Q (.ref l) (upd H l (.tup ys))) ∨ (SqT K H p ys ∧ Q (.ref p) H))) := by
  subst h; exact call_tuple_of
theorem pe_joinK {o e : Expr} {to te : TE} {apos pos : Pos} (h : X.K = K) (ho : PE X o to) (he : PE X e te) (hs : starEach [e] X.env = [(false, eval e X.env)] := by rfl) (hbase : attributeBase o "join" X.env (eval o X.env) = eval o X.env := by rfl) (hline : (apos.endLine == pos.line) = true := by rfl) :
    PE X (.Call (.Attribute o "join" apos) [e] [] pos) (tM1 (fun x xs H Q => ∃ a p, ∃ ys : List Str, x = .str a ∧ xs = [.ref p] ∧ (SqL K H p (ys.map V.str) ∨ SqT K H p (ys.map V.str)) ∧
      (ys.map (·.length)).sum + ys.length * a.length ≤ 16777216 ∧ Q (.str (Txt.join a ys)) H) to te) := by
  subst h; exact pe_join ho he hs hbase hline
end
end K1
namespace K1
open PySem PySem.Spec PyProof.Rows L2
section
variable {X : Cx} {K : PySem.W.Frag}
theorem cr_minK (h : X.K = K) (hc : X.calm = true) : CallR X (.builtin "min") (rMin K) := by subst h; exact cr_min hc
theorem cr_maxK (h : X.K = K) (hc : X.calm = true) : CallR X (.builtin "max") (rMax K) := by subst h; exact cr_max hc
end
/-! ### data that are compared -/
theorem dp_ints {K : PySem.W.Frag} {H : Hp} : ∀ ns : List Int, DpAll K H (ns.map V.int) (ns.map PyData.int)
  | [] => .nil
  | n :: r => .cons (.int n) (dp_ints r)
theorem dp_list {K : PySem.W.Frag} {H : Hp} {a : Addr} {ns : List Int} (h : SqL K H a (ns.map V.int)) : Dp K H (.ref a) (.list (ns.map PyData.int)) := .lst h (dp_ints ns)
theorem lay_ints : ∀ ns : List Int, PyData.canLayAll0 (ns.map PyData.int) = true
  | [] => by rfl
  | n :: r => by
    show (PyData.canLay0 (.int n) && PyData.canLayAll0 (r.map PyData.int)) = true
    rw [lay_ints r]; rfl
theorem depth_ints : ∀ ns : List Int, PyData.depthAll (ns.map PyData.int) = 0
  | [] => by rfl
  | n :: r => by
    show max (PyData.depth (.int n)) (PyData.depthAll (r.map PyData.int)) = 0
    rw [depth_ints r]; rfl
theorem shaped_ints (ns : List Int) : SeqAt.shaped (.list (ns.map PyData.int)) = true := by
  unfold SeqAt.shaped
  have h1 : PyData.canLay0 (.list (ns.map PyData.int)) = true := lay_ints ns
  have h2 : PyData.depth (.list (ns.map PyData.int)) = 1 := by
    show PyData.depthAll (ns.map PyData.int) + 1 = 1
    rw [depth_ints]
  rw [h1, h2]; rfl
theorem eqv_ints : ∀ xs ys : List Int, PyData.eqv (.list (xs.map PyData.int)) (.list (ys.map PyData.int)) = decide (xs = ys) := by
  have h : ∀ xs ys : List Int, PyData.eqvAll (xs.map PyData.int) (ys.map PyData.int) = decide (xs = ys) := by
    intro xs
    induction xs with
    | nil => intro ys; cases ys <;> simp [PyData.eqvAll]
    | cons x r ih =>
      intro ys
      cases ys with
      | nil => simp [PyData.eqvAll]
      | cons y t =>
        show (PyData.eqv (.int x) (.int y) && PyData.eqvAll (r.map PyData.int) (t.map PyData.int)) = decide (x :: r = y :: t)
        rw [ih, show PyData.eqv (.int x) (.int y) = (x == y) by simp [PyData.eqv]]
        by_cases e : x = y <;> by_cases e2 : r = t <;> simp [e, e2]
  intro xs ys
  show PyData.eqvAll (xs.map PyData.int) (ys.map PyData.int) = _
  exact h xs ys
theorem inV_ints (n : Int) : ∀ ns : List Int, inV (.int n) (ns.map V.int) = decide (n ∈ ns)
  | [] => by simp [inV]
  | m :: r => by
    have ih := inV_ints n r
    unfold inV at ih ⊢
    rw [List.map_cons, List.any_cons, ih]
    by_cases e : m = n
    · subst e; simp [eqV]
    · have e' : ¬ n = m := fun h => e h.symm
      simp [eqV, e, e']
theorem flat_ints : ∀ ns : List Int, (ns.map V.int).all flatV = true
  | [] => rfl
  | m :: r => by rw [List.map_cons, List.all_cons, flat_ints r]; rfl
/-- a list by a filter -/
def FiltBy (ns : List Int) (P : Int → Prop) (rs : List Int) : Prop := ∃ p : Int → Bool, (∀ n ∈ ns, (p n = true ↔ P n)) ∧ rs = ns.filter p
theorem FiltBy.eq {ns rs ts : List Int} {P R : Int → Prop} (h1 : FiltBy ns P rs) (h2 : FiltBy ns R ts) (h : ∀ n ∈ ns, (P n ↔ R n)) : rs = ts := by
  obtain ⟨p, hp, rfl⟩ := h1
  obtain ⟨q, hq, rfl⟩ := h2
  refine List.filter_congr fun n hn => ?_
  have a := hp n hn
  have b := hq n hn
  have c := h n hn
  cases e : p n <;> cases e2 : q n <;> simp_all
end K1


set_option Elab.async false
set_option linter.all false
set_option maxRecDepth 100000
set_option maxHeartbeats 4000000
/-! Own errors below an own error below ValueError, whose __init__ says super().__init__(a text) and then stores its one argument. -/
namespace PySem
namespace Tide
open PySem.W PySem.Calls PyProof.Rows PySem.HandSPX
def iA (fl : Str) (p1 p2 : Pos) : Arguments := { posonlyargs := [], args := [{ arg := "self", annotation := none, pos := p1 }, { arg := fl, annotation := none, pos := p2 }], vararg := none, kwonlyargs := [], kw_defaults := [], kwarg := none, defaults := [] }
def iB (fl tx : Str) (j : Nat) (q1 q2 q3 q4 q5 q6 q7 q8 q9 q10 : Pos) : List Stmt :=
  [.Expr (.Call (.Attribute (.Call (.Name "super" q1) [] [] q2) "__init__" q3) [.Constant (.str tx) j q4] [] q5) q6, .Assign [.Attribute (.Name "self" q7) fl q8] (.Name fl q9) q10]
def iS (fl : Str) : Scope := { kind := .function, names := [(PySem.Str.ofString "self", .local), (fl, .local), (PySem.Str.ofString "__class__", .free), (PySem.Str.ofString "super", .globalImplicit)], isGenerator := false, isCoroutine := false, more := [] }
/-- how the call of super().__init__ is run (shown at the text's own places) -/
def CallIs (tx : Str) (j : Nat) (q1 q2 q3 q4 q5 : Pos) : Prop := ∃ pl : Sem Bool, ∀ env : Env, eval (.Call (.Attribute (.Call (.Name "super" q1) [] [] q2) "__init__" q3) [.Constant (.str tx) j q4] [] q5) env = (do
      let ov ← attributeBase (.Call (.Name "super" q1) [] [] q2) "__init__" env (eval (.Call (.Name "super" q1) [] [] q2) env)
      standAt q3.atName
      let (f, first) ← holding [ov] (getMethod ov "__init__" pl)
      callWith q5 f first (backTo q5 (starEach [.Constant (.str tx) j q4] env)) [])
example : CallIs "no set text" 0 ⟨7, 8, 7, 13⟩ ⟨7, 8, 7, 15⟩ ⟨7, 8, 7, 24⟩ ⟨7, 25, 7, 38⟩ ⟨7, 8, 7, 39⟩ := ⟨_, fun env => by rfl⟩
/-- the fields' names -/
def FlOk (fl : Str) : Prop := ¬ fl = ("self" : Str) ∧ ¬ fl = ("__class__" : Str) ∧ ¬ fl = ("super" : Str) ∧ (fl == ("__debug__" : Str)) = false ∧
  ∀ (qual : Str) (body : List Stmt) (p1 p2 : Pos) (doc pm ct cd : Value) (an : Option Addr) (cc : Addr) (a b : Value), bindArgs (ksFn "__init__" qual (iA fl p1 p2) body (iS fl) .none .none doc pm an cd ct cc) ⟨[a, b], []⟩ = pure [(("self" : Str), a), (fl, b)]
theorem ok_value : FlOk "value" := ⟨by decide +kernel, by decide +kernel, by decide +kernel, by decide +kernel, fun _ _ _ _ _ _ _ _ _ _ _ _ => rfl⟩
theorem ok_at : FlOk "at" := ⟨by decide +kernel, by decide +kernel, by decide +kernel, by decide +kernel, fun _ _ _ _ _ _ _ _ _ _ _ _ => rfl⟩
theorem ok_why : FlOk "why" := ⟨by decide +kernel, by decide +kernel, by decide +kernel, by decide +kernel, fun _ _ _ _ _ _ _ _ _ _ _ _ => rfl⟩
theorem ok_limit : FlOk "limit" := ⟨by decide +kernel, by decide +kernel, by decide +kernel, by decide +kernel, fun _ _ _ _ _ _ _ _ _ _ _ _ => rfl⟩
/-- what the written part says of the class at C, of its __init__ at fI -/
structure TideTxt (prog : Program) (K : Frag) (mg : Str → Option Value) (x : Str) (C fI : Addr) (fl : Str) : Prop where
  gC : mg x = some (.ref C)
  ok : FlOk fl
  cls : ∃ nm q N bs bm sn sub ab col dd k0 k1 k2 k3 k5, K.lookup C = some (excClassObj nm q C N bs bm true sn sub ab col dd k0 k1 k2 k3 k5 "ValueError.__new__") ∧ refsVE bm = true
  sa : findIn K (.ref C) "__setattr__" = some (some (.builtin "object.__setattr__"))
  ga : findIn K (.ref C) "__getattribute__" = some (some (.builtin "BaseException.__getattribute__"))
  gg : findIn K (.ref C) "__getattr__" = some none
  noN : findIn K (.ref C) fl = some none
  iC : findIn K (.ref C) "__init__" = some (some (.ref fI))
  tC : typeIn K (.ref fI) = some (.type "function")
  kC : keepIn K (.ref C) = true
  exC : subIn K (.ref C) (.type "BaseException") = some true
  tyC : typeIn K (.ref C) = some (.type "type")
  hdC : hasDictIn K C = true
  te : exmOne K (.ref C) (.ref C) = some true
  sup : ks_superIn K C C "__init__" = some (some (.builtin "ValueError.__init__"))
  isV : subIn K (.ref C) (.type "ValueError") = some true
  self_ : mroIn K C (.ref C) = some true
  tpa : nsIn K cStatics "thirdparty.any" = some none
  nsu : mg "super" = none
  htop : (prog.main.scope.names.lookup ("super" : Str)).isSome = false
  fn : ∃ (oc : Value) (od : Option Addr) (doc pm ct : Value) (an : Option Addr) (osl : Array (Option Value)) (qual tx : Str) (j : Nat) (p1 p2 q1 q2 q3 q4 q5 q6 q7 q8 q9 q10 : Pos) (cda cc : Addr),
    K.lookup fI = some ⟨oc, od, .func (ksFn "__init__" qual (iA fl p1 p2) (iB fl tx j q1 q2 q3 q4 q5 q6 q7 q8 q9 q10) (iS fl) .none .none doc pm an (.ref cda) ct cc), osl⟩ ∧ codeIn K (.ref cda) qual = true ∧ CallIs tx j q1 q2 q3 q4 q5 ∧
    (∃ ccl cdd vs ccs file tf, K.lookup cda = some ⟨ccl, cdd, .fields vs, ccs⟩ ∧ vs[2]? = some (.str file tf) ∧ ((prog.main.file : Str) == file) = true) ∧ ∃ cl cld csl, K.lookup cc = some ⟨cl, cld, .cell (some (.ref C)), csl⟩
section
variable {fl : Str}
theorem lkT {β : Type} {a b : Str} {v : β} {l : List (Str × β)} (h : (a == b) = true) : List.lookup a ((b, v) :: l) = some v := by
  rw [List.lookup_cons, h]
theorem lkF {β : Type} {a b : Str} {v : β} {l : List (Str × β)} (h : (a == b) = false) : List.lookup a ((b, v) :: l) = List.lookup a l := by
  rw [List.lookup_cons, h]
theorem neB {a b : Str} (h : ¬ a = b) : (a == b) = false := beq_eq_false_iff_ne.mpr h
theorem lk_self : (iS fl).names.lookup ("self" : Str) = some .local := lkT (by decide +kernel)
theorem lk_fl (ok : FlOk fl) : (iS fl).names.lookup fl = some .local := (lkF (neB ok.1)).trans (lkT (beq_self_eq_true _))
theorem lk_cls (ok : FlOk fl) : (iS fl).names.lookup ("__class__" : Str) = some .free := (lkF (by decide +kernel)).trans ((lkF (neB fun h => ok.2.1 h.symm)).trans (lkT (by decide +kernel)))
theorem lk_super (ok : FlOk fl) : (iS fl).names.lookup ("super" : Str) = some .globalImplicit :=
  (lkF (by decide +kernel)).trans ((lkF (neB fun h => ok.2.2.1 h.symm)).trans ((lkF (by decide +kernel)).trans (lkT (by decide +kernel))))
end
theorem one_size (v : Value) : [v].length ≤ sizeLine := by
  rw [sizeLine_eq]
  exact (by decide : 1 ≤ 16777216)
/-- what __init__ leaves of a fresh exception at x -/
structure InitEnd (fl : Str) (h h' : Heap) (x C dx t1 : Addr) (v : Value) : Prop where
  keep : ∀ b o, b ≠ x → h.get? b = some o → h'.get? b = some o
  obj : h'.get? x = some { cls := .ref C, dict := some dx, data := .fields #[.ref t1, .none, .none, .none, .bool false, .none] }
  dbig : h.objs.size ≤ dx
  dne : dx ≠ x
  ns : h'.Ns1 dx (fun y => if y = fl then some v else none)
/-- a made one -/
structure OwnMade (fl : Str) (h h' : Heap) (e C d : Addr) (v : Value) : Prop where
  keep : ∀ b o, h.get? b = some o → h'.get? b = some o
  new : h.objs.size ≤ e
  obj : ∃ oe vs, h'.get? e = some oe ∧ oe.cls = .ref C ∧ oe.dict = some d ∧ oe.data = .fields vs ∧ vs[1]? = some .none
  dbig : h.objs.size ≤ d
  dne : d ≠ e
  ns : h'.Ns1 d (fun y => if y = fl then some v else none)
section
variable {prog : Program} {w : World} {A : Around} {E : Value → Shared → Prop} {R : Result → Shared → Prop} {s : Shared} {K : Frag} {mg mb : Str → Option Value} {C fI : Addr} {fl xn : Str}
theorem ldC {M : Model} {s : Shared} {env : Env} {m : Str → Option Value} {x : Str} {pos : Pos} {v : Value} {Q : Value → Shared → Prop} {A : Around} {E : Value → Shared → Prop} (hn : s.heap.Ns env.locals m) (hv : m x = some v) (h : Q v s)
    (hk : env.scope.kind = .function) (hl : env.kindOf x = some .local) (hd : (x == ("__debug__" : Str)) = false) :
    wpAny M A (eval (.Name x pos) env) Q E s := wpAny_Name (wpAny_loadName_local hk hl hn hv h) hd
/-- the built-in __init__ bound to the object, called -/
theorem call_mw {u e t0 : Addr} {rest : List Value} {Q : Value → Shared → Prop} {nm q : Str} {N : Addr} {bs bm : List Value} {hdct : Bool} {sn : List Str} {sub : List Value} {ab : Bool} {col : Option Bool} {dd : Option Addr} {k0 k1 k2 k3 k5 : Option Value}
    (hC : s.heap.get? C = some (excClassObj nm q C N bs bm hdct sn sub ab col dd k0 k1 k2 k3 k5 "ValueError.__new__")) (he : s.heap.get? e = some (excO C t0)) (hu : s.heap.get? u = some (kxs_mw "ValueError.__init__" e)) (hrest : rest.length ≤ sizeLine)
    (hq : ∀ h', (∀ b o, b ≠ e → s.heap.get? b = some o → h'.get? b = some o) → h'.get? e = some (excO C s.heap.objs.size) → Q .none { s with heap := h' }) :
    wpAny (model prog w) A (call (.ref u) rest) Q E s := by
  have FB := F.excBase_ValueError
  obtain ⟨hh, g, d, tk, os⟩ := s
  refine wpAny_call (codeAny_of_tree ?_)
  show wpAny _ A.in1 (callAny (.ref u) ⟨rest, []⟩) _ _ _
  simp only [callAny]
  refine wpAny_bind (wpAny_load hu ?_)
  simp only [kxs_mw, show (Value.type "method-wrapper" == Value.type "method" || Value.type "method-wrapper" == Value.type "builtin_function_or_method" || Value.type "method-wrapper" == Value.type "method-wrapper") = true by decide, if_true]
  refine KFB.if_so (by decide) ?_
  refine wpAny_bind (check_bound_init FB.toExcCallFacts hC he rfl ?_)
  refine wpAny_bind (wpAny_pure (wpAny_pure ?_))
  refine ⟨plainId_quiet FB.init.plain _, codeAny_builtin FB.initEntry ?_⟩
  exact exc_init_tree (cls := .ref C) (t0 := t0) (dv := none) (c2 := .none) (c3 := .none) (b4 := .bool false) he hrest fun h' k e' _ => hq h' k e'
theorem tide_init (T : TideTxt prog K mg xn C fI fl) {x t0 : Addr} {v : Value} (X : K.In s.heap) (hG : s.heap.Ns mainGlobals mg) (hB : s.heap.Ns builtinsNs mb) (hmb : mb "super" = some (.type "super")) (hlim : s.heap.NoLimit) (hx : s.heap.get? x = some (excO C t0)) (hnx : K.lookup x = none) (hroom : A.depth < recursionLimit)
    (hq : ∀ h' tk dx t1, InitEnd fl s.heap h' x C dx t1 v → R (.ok (.ret .none)) { s with heap := h', toks := tk }) :
    codeAny (model prog w) A (.call (.ref fI) ⟨[.ref x, v], []⟩) R s := by
  obtain ⟨oc, od, doc, pm, ct, an, osl, qual, tx, j, p1, p2, q1, q2, q3, q4, q5, q6, q7, q8, q9, q10, cda, cc, ho, hcd, ⟨pl, hpl⟩, ⟨ccl, cdd, vs, ccs, file, tf, hcda, hvs, hfile⟩, cl, cld, csl, hcell⟩ := T.fn
  obtain ⟨nm, q, N, bs, bm, sn, sub, ab, col, dd, k0, k1, k2, k3, k5, hC, hbm⟩ := T.cls
  obtain ⟨n1, n2, n3, n4, n5⟩ := T.ok
  have hcl : clsIn K C = some { name := nm, bases := bs, mro := .ref C :: bm, ns := N, qualname := q, hasDict := true, slotNames := sn, subclasses := sub, abstract := ab, collection := col, hasDel := false } := by unfold clsIn; rw [hC] <;> rfl
  have e1 : (("self" : Str) == fl) = false := by rw [beq_eq_false_iff_ne]; exact fun h => n1 h.symm
  have e1' : (fl == ("self" : Str)) = false := by rw [beq_eq_false_iff_ne]; exact n1
  have X₀ := X
  refine ks_codeAny_call_defAt (fd := ksFn "__init__" qual (iA fl p1 p2) (iB fl tx j q1 q2 q3 q4 q5 q6 q7 q8 q9 q10) (iS fl) .none .none doc pm an (.ref cda) ct cc) (body := iB fl tx j q1 q2 q3 q4 q5 q6 q7 q8 q9 q10) (binds := [("self", .ref x), (fl, v)]) hroom (X _ _ ho) rfl hlim (codeRec_of X hcd) rfl (BindsTo.of_eq ?_) ?_ ?_ (fun h₁ hns k => ?_) rfl rfl rfl
  · exact n5 _ _ _ _ _ _ _ _ _ _ _ _
  · intro y hy
    have hy : y ∈ [(PySem.Str.ofString "self", NameKind.local), (fl, .local), (PySem.Str.ofString "__class__", .free), (PySem.Str.ofString "super", .globalImplicit)] := hy
    simp only [List.mem_cons, List.not_mem_nil, or_false] at hy
    rcases hy with rfl | rfl | rfl | rfl <;> exact fun h => nomatch h
  · intro y hy
    simp only [List.mem_cons, List.not_mem_nil, or_false] at hy
    rcases hy with rfl | rfl
    · exact lk_self
    · exact lk_fl T.ok
  · have hxL : s.heap.objs.size ≠ x := Nat.ne_of_gt (Heap.lt_size hx)
    have X₁ : K.In h₁ := X.keeps k
    have hx₁ := k _ _ hx
    have I : InstAt h₁ x (excO C t0) C none := ⟨hx₁, rfl, rfl, trivial⟩
    refine ks_wpAt_execs_cons (ks_wpAt_Expr_any (ks_wpAt_MethodCall (ks_wpAt_super_base (f := fI) (cc := cda) (lk_super T.ok) (lk_cls T.ok) (by decide) rfl (X₁ _ _ ho) rfl rfl rfl (X₁ _ _ hcda) rfl hvs hfile T.htop ?_) (hpl _)))
    refine ks_loadName_global rfl (lk_super T.ok) (loadGlobal_builtin (hG.keeps k) T.nsu (hB.keeps k) hmb ⟨rfl, ?_⟩)
    refine wpAny_loadName_free rfl (lk_cls T.ok) rfl ⟨_, X₁ _ _ hcell, rfl⟩ ?_
    refine wpAny_loadName_local (v := .ref x) rfl lk_self hns ?_ ?_
    · exact (lkF (neB fun h => T.ok.1 h.symm)).trans (lkT (by decide +kernel))
    refine ks_wpAny_isType_cls (X₁ _ _ hC) rfl ⟨rfl, ?_⟩
    refine ks_wpAny_call_super (X₁ _ _ hC) rfl I.at_ I.cls (fun c e => by cases e) (looks_mroIn X₁ T.self_) (fun h₂ e₂ k₂ => ?_)
    have X₂ : K.In h₂ := X₁.keeps k₂
    have I₂ : InstAt h₂ x (excO C t0) C none := ⟨k₂ _ _ hx₁, rfl, rfl, trivial⟩
    have hsup : alongIn K "__init__" (((.ref C :: bm).dropWhile (· != .ref C)).drop 1) = some (some (.builtin "ValueError.__init__")) := by
      have h := T.sup
      unfold ks_superIn at h
      rw [hcl] at h
      exact h
    have hxC : x ≠ C := ks_ne X₂ I₂ hcl
    have hI : Looks (model prog w) h₂ (isInstance (.ref x) (.type "ValueError")) true := I₂.type.andThen (looks_subIn X₂ T.isV)
    refine kxs_getMethod kxs_ValueError e₂ (looks_opaque X₂ T.tpa) (l₀ := .ref C :: bm) (fun A Q E s k q => wpAny_bind ((looks_clsIn X₂ hcl) A _ E s k (wpAny_pure q))) rfl X₂ hsup hI hxC (by decide) ?_
    refine kxs_callWith (i := "ValueError.__init__") (x := x) rfl (evalArgs_plain ?_)
    show wpAny _ _ (spliced ((false, eval (.Constant (.str tx) j q4) _) :: backTo q5 (starEach [] _))) _ _ _
    refine Calls.spliced_cons ?_
    refine Calls.Constant_str (Calls.spliced_nil ⟨?_, ?_⟩)
    · exact Heap.get?_push_at rfl rfl
    refine call_mw (C := C) (t0 := t0) (Heap.get?_push_of_some _ (X₂ _ _ hC)) (Heap.get?_push_of_some _ I₂.at_) (Heap.get?_push_at rfl rfl) (one_size _) (fun h₃ k₃ e₃ => ?_)
    -- self.fl = fl
    have keep : ∀ b o, b ≠ x → s.heap.get? b = some o → h₃.get? b = some o := fun b o hb e => k₃ b o hb (Heap.get?_push_of_some _ (k₂ _ _ (k _ _ e)))
    have keep1 : ∀ b o, b ≠ x → h₁.get? b = some o → h₃.get? b = some o := fun b o hb e => k₃ b o hb (Heap.get?_push_of_some _ (k₂ _ _ e))
    have X₃ : K.In h₃ := fun a o e => keep a o (fun z => by rw [z, hnx] at e; cases e) (X a o e)
    have hns₃ : h₃.Ns s.heap.objs.size (fun y => [(("self" : Str), Value.ref x), (fl, v)].reverse.lookup y) := by
      obtain ⟨oL, es, ep, hL, r⟩ := hns
      exact ⟨oL, es, ep, keep1 _ _ hxL hL, r⟩
    show wpAt _ _ _ (execs _ _) _ _ _
    refine wpAt_of_wpAny (wpAny_execs_cons (plainObj_wpAny_Assign_Attribute ?_))
    refine ldC (v := v) hns₃ ?_ (ldC (v := .ref x) hns₃ ?_ ?_ rfl lk_self (by decide)) rfl (lk_fl T.ok) T.ok.2.2.2.1
    · exact lkT (beq_self_eq_true _)
    · exact (lkF (neB fun h => T.ok.1 h.symm)).trans (lkT (by decide +kernel))
    refine set_plain X₃ (ox := excO C _) (od := none) ⟨e₃, rfl, rfl, trivial⟩ T.sa ?_
    refine exc_osa X₃ e₃ hcl (show refsVE (.ref C :: bm) = true from hbm) rfl T.noN (fun h₄ tk₄ dx k₄ dn dne hx₄ hn₄ => ?_)
    show wpAny _ _ (execs _ _) _ _ _
    have z : s.heap.objs.size ≤ h₃.objs.size := by
      exact Nat.le_of_lt hns₃.lt
    refine wpAny_execs_nil (hq h₄ tk₄ dx _ ⟨fun b o hb e => k₄ b o hb (keep b o hb e), hx₄, Nat.le_trans z dn, dne, hn₄⟩)
theorem tide_made (T : TideTxt prog K mg xn C fI fl) {v : Value} (X : K.In s.heap) (hG : s.heap.Ns mainGlobals mg) (hB : s.heap.Ns builtinsNs mb) (hmb : mb "super" = some (.type "super")) (hlim : s.heap.NoLimit) (hroom : A.depth + 1 < recursionLimit)
    (hq : ∀ h' tk e d, OwnMade fl s.heap h' e C d v → R (.ok (.ret (.ref e))) { s with heap := h', toks := tk }) :
    codeAny (model prog w) A (.call (.ref C) ⟨[v], []⟩) R s := by
  obtain ⟨nm, q, N, bs, bm, sn, sub, ab, col, dd, k0, k1, k2, k3, k5, hC, hbm⟩ := T.cls
  obtain ⟨hp, g, dr, tk, os⟩ := s
  have k : ∀ b o, hp.get? b = some o → ((hp.push (kdv_tup [v])).push (excO C hp.objs.size)).get? b = some o := fun b o e => Heap.get?_push_of_some _ (Heap.get?_push_of_some _ e)
  have hget : ((hp.push (kdv_tup [v])).push (excO C hp.objs.size)).get? (hp.objs.size + 1) = some (excO C hp.objs.size) := by heap_get
  have hnx : K.lookup (hp.objs.size + 1) = none := by
    cases e : K.lookup (hp.objs.size + 1) with
    | none => rfl
    | some o =>
      have z : hp.get? (hp.objs.size + 1) = some o := X _ _ e
      exact absurd (Nat.lt_of_succ_lt (Heap.lt_size z)) (Nat.lt_irrefl _)
  refine call_own F.excBase_ValueError (fun X => refsVE_contains X bm hbm) (X _ _ hC) (looks_findIn X T.iC) (fun self => bind_fn X self T.tC) (one_size v) ?_
  refine tide_init (s := ⟨(hp.push (kdv_tup [v])).push (excO C hp.objs.size), g, dr, tk, os⟩) T (X.keeps k) (hG.keeps k) (hB.keeps k) hmb (hlim.keeps k) hget hnx ?_ fun h' tk' dx t1 ⟨k', hx, dn, dne, hns⟩ => ?_
  · show A.depth + 1 < recursionLimit
    exact hroom
  · have old : ∀ b o, hp.get? b = some o → h'.get? b = some o := fun b o e => k' b o (Nat.ne_of_lt (Nat.lt_succ_of_lt (Heap.lt_size e))) (k b o e)
    have z : hp.objs.size + 1 + 1 ≤ dx := by
      first
        | (simpa only [Heap.size_push] using dn)
        | exact dn
        | (have q := dn; rw [Heap.size_push, Heap.size_push] at q; exact q)
    exact ⟨rfl, hq h' tk' (hp.objs.size + 1) dx ⟨old, Nat.le_succ _, ⟨_, _, hx, rfl, rfl, rfl, rfl⟩, Nat.le_trans (Nat.le_trans (Nat.le_succ _) (Nat.le_succ _)) z, dne, hns⟩⟩
end
end Tide
end PySem
namespace L2
open PySem PySem.Spec PyProof.Rows
theorem relO_tide {fl : Str} {v : V} {v' : Value} (r : RelV v v') (f : Str) : RelO (List.lookup f [(fl, v)]) (if f = fl then some v' else none) := by
  by_cases hw : f = fl
  · subst hw
    rw [if_pos rfl]
    have q : List.lookup f [(f, v)] = some v := by simp [List.lookup]
    rw [q]
    exact r
  · rw [if_neg hw]
    have qw : (f == fl) = false := by simpa using hw
    have q2 : List.lookup f [(fl, v)] = none := by simp [List.lookup, qw]
    rw [q2]
    trivial
section
variable {X : Cx} {C fI : Addr} {fl xn : Str}
/-- E(e) -/
def tMkTide (C : Addr) (fl : Str) (ta : TA) : St → Hp → XK → Prop := fun σ H Q => ta σ H fun vs H1 => ∃ v, vs = [v] ∧ ∀ d, H1 d = none → Q (.ref C) (some d) (upd H1 d (.xd [(fl, v)]))
theorem pmk_tide {a : Expr} {ta : TA} {p pos : Pos} {k : Nat} (T : PySem.Tide.TideTxt X.prog X.K X.mg xn C fI fl) (hr : Room k X.A) (ha : PA X [a] ta) (hg : Gl X xn := by rfl) (hdb : (xn == ("__debug__" : Str)) = false := by decide)
    (he : starEach (a :: []) X.env = (false, eval a X.env) :: starEach [] X.env := by rfl) (hpl : (backTo pos (starEach [] X.env)).any (·.1) = false := by rfl) :
    PMk X (.Call (.Name xn p) [a] [] pos) (tMkTide C fl ta) := by
  intro pins s σ H Q I h
  refine wpAny_Call_Name_kw (ld_glob I hg T.gC ?_ hdb)
  refine PySem.W.callWith_K (h₀ := X.base) I.ok.mod.kin T.kC (thn (ha.run pos pins s σ H _ I h) fun us s1 hh => ?_) he hpl
  obtain ⟨vs, H1, I1, r1, v, ev, q1⟩ := hh
  subst ev
  refine ⟨I1.kIn, ?_⟩
  cases r1 with
  | cons rv rn =>
    rename_i v' us'
    cases rn
    show wpAny _ _ (call (.ref C) [v']) _ _ _
    have hlim := I1.nolimit
    have hG := I1.mod.glob.keeps I1.bk
    obtain ⟨mb, hB0, hmb0⟩ := I1.mod.blt
    have hB := hB0.keeps I1.bk
    have hmb : mb "super" = some (.type "super") := (hmb0 _ (by decide +kernel)).trans (by decide +kernel)
    obtain ⟨hp, g, dr, tk, os⟩ := s1
    refine wpAny_call (PySem.Tide.tide_made T I1.kIn hG hB hmb hlim (by have := hr.dp; omega) fun h' tk' e d M => ?_)
    show MkP X pins σ Q (.ref e) ⟨h', g, dr, tk', os⟩
    obtain ⟨oe, fv, hoe, hc, hd, hdat, h1⟩ := M.obj
    have hns := M.ns
    obtain ⟨G', g1, g2⟩ := restrict h' fun b => decide (b ≠ e)
    have gk : ∀ b, b ≠ e → G'.get? b = h'.get? b := fun b hb => g1 b (decide_eq_true hb)
    have ge : G'.get? e = none := g2 e (by simp)
    have old : ∀ b o, hp.get? b = some o → G'.get? b = some o := fun b o q => (gk b (Nat.ne_of_lt (Nat.lt_of_lt_of_le (Heap.lt_size q) M.new))).trans (M.keep b o q)
    have ob : ObjOk X.prog X.w (upd H1 d (.xd [(fl, v)])) G' d (.xd [(fl, v)]) :=
      ⟨_, hns.at (fun o q => (gk d M.dne).trans q), fun f => relO_tide rv f⟩
    have J : Inv X pins σ (upd H1 d (.xd [(fl, v)])) ⟨G', g, dr, tk', os⟩ := I1.laid (t' := tk') old M.dbig ob
    refine ⟨e, oe, fv, ⟨G', g, dr, tk', os⟩, _, .ref C, some d, rfl, J, fun b o q => ?_, ge, hoe, ⟨hc, hd⟩, hdat, h1, ?_, rfl, I1.bare, raises_own T.exC T.tyC, q1 d (I1.hok.fresh M.dbig)⟩
    · by_cases hb : b = e
      · have q' : G'.get? b = some o := q
        rw [hb, ge] at q'; cases q'
      · exact (gk b hb).symm.trans q
    · rw [upd_ne (Ne.symm M.dne)]
      exact I1.hok.fresh M.new
/-- raise E(e) -/
def tRaiseTide (C : Addr) (fl : Str) (W : WX) (ta : TA) : TS := fun _ σ H => tMkTide C fl ta σ H fun cls d H' => W cls d σ H'
theorem ps_raiseTide {a : Expr} {ta : TA} {W : WX} {p pos pos2 : Pos} {k : Nat} (hc : X.calm = true) (T : PySem.Tide.TideTxt X.prog X.K X.mg xn C fI fl) (hr : Room k X.A) (tk : Takes X W) (ha : PA X [a] ta) (hg : Gl X xn := by rfl) (hdb : (xn == ("__debug__" : Str)) = false := by decide)
    (he : starEach (a :: []) X.env = (false, eval a X.env) :: starEach [] X.env := by rfl) (hpl : (backTo pos (starEach [] X.env)).any (·.1) = false := by rfl) :
    PS X (.Raise (some (.Call (.Name xn p) [a] [] pos)) none pos2) (tRaiseTide C fl W ta) := ps_raise hc tk (pmk_tide T hr ha hg hdb he hpl)
/-- e.fl, e the exception that the suite holds (at a; its class cls, its dict d) -/
def tByTide (C : Addr) (fl : Str) (a : Addr) (cls : Value) (d : Option Addr) (te : TE) : TE := fun σ H Q => te σ H fun x H1 => x = .ref a ∧ cls = .ref C ∧ ∃ (dd : Addr) (v : V), d = some dd ∧ H1 dd = some (.xd [(fl, v)]) ∧ Q v H1
theorem pe_byTide {a : Addr} {oe : Obj} {cls : Value} {d : Option Addr} {pn : List (Addr × Obj)} {e : Expr} {te : TE} {pos : Pos} (T : PySem.Tide.TideTxt X.prog X.K X.mg xn C fI fl) (hz : Zc cls d oe) (hf : ∃ vs, oe.data = .fields vs) (he : PE (X.suite a ((a, oe) :: pn)) e te)
    (hb : attributeBase e fl X.env (eval e X.env) = eval e X.env) :
    PE (X.suite a ((a, oe) :: pn)) (.Attribute e fl pos) (tByTide C fl a cls d te) := by
  refine ⟨fun pins s σ H Q I h => ?_⟩
  refine attr_of hb (thn (he.run pins s σ H _ I h) fun u s1 hh => ?_)
  obtain ⟨x, H1, I1, rx, ex, ec, dd, v, ed, ea, q⟩ := hh
  subst ex
  obtain rfl : u = Value.ref a := rx
  subst ec
  subst ed
  obtain ⟨ha, _⟩ := I1.pin (a, oe) (List.mem_append_left _ List.mem_cons_self)
  obtain ⟨vs, hd⟩ := hf
  have hx : ObjOk X.prog X.w H1 s1.heap dd (.xd [(fl, v)]) := I1.hok dd _ ea
  obtain ⟨mA, hns, hr⟩ := hx
  obtain ⟨od, ho, hl⟩ := lookIn_ns hns
  have l : List.lookup fl [(fl, v)] = some v := by simp [List.lookup]
  obtain ⟨u, hu, ru⟩ := RelO.some_of (v := v) (o := mA fl) (by rw [← l]; exact hr fl)
  have J : PySem.W.InstAt s1.heap a oe C (some od) := ⟨ha, hz.1, by unfold PySem.W.notCls; rw [hd] <;> rfl, by rw [hz.2]; exact ho⟩
  exact HandSPX.exc_get I1.kIn J T.ga T.gg T.exC (PySem.W.findObj_own T.hdC T.noN rfl (by rw [hl, hu])) (handed_of ru) ⟨v, H1, I1.tok _, ru, q⟩
end
end L2


set_option Elab.async false
set_option linter.all false
set_option maxRecDepth 100000
set_option maxHeartbeats 4000000
/-! enumerate over a list or a tuple -/
namespace PySem
open Sem (wp)
open AutoSeq1 (wpAny_loadPart')
theorem my_enumerate_newT (l : Addr) (items : Array Value) (n : Nat) (dct : Option Addr) (sl : Array (Option Value)) :
    Meets (Builtin.«enumerate.__new__» ⟨[.type "enumerate", .ref l], []⟩) (fun _ R s => s.heap.get? l = some { cls := .type "tuple", dict := dct, data := .seq items n, slots := sl } ∧
      R (.ok (.ret (.ref (s.heap.push { cls := .type "tuple_iterator", data := .fields #[.ref l, .int 0 0] }).objs.size)))
        { s with heap := (s.heap.push { cls := .type "tuple_iterator", data := .fields #[.ref l, .int 0 0] }).push { cls := .type "enumerate", data := .fields #[.none, .bool false, .ref s.heap.objs.size, rawInt 0, .none, .none] } }) :=
  .of_wp fun prog w A R s h => by
    obtain ⟨hp, g, d, tk, os⟩ := s; obtain ⟨hl, h⟩ := h
    have hsub := sub_enumerate
    have hL : Heap.IsTuple (Shared.heap ⟨hp, g, d, tk, os⟩) l items := ⟨_, hl, rfl, n, rfl⟩
    wp_walk using wpAny_loadPart' hl
    refine wpAny_stack_any fun st => wpAny_pure ?_
    split
    · rename_i c _ _ _ _ _
      cases (c == Value.type "enumerate")
      · wp_walk using wpAny_loadPart' hl, wpAny_pyIter_tuple hL
        exact ⟨_, rfl, h⟩
      · wp_walk using wpAny_loadPart' hl, wpAny_pyIter_tuple hL
        exact ⟨_, rfl, h⟩
    · wp_walk using wpAny_loadPart' hl, wpAny_pyIter_tuple hL
      exact ⟨_, rfl, h⟩
section
variable {prog : Program} {w : World} {A : Around} {E : Value → Shared → Prop} {s : Shared}
theorem my_enumerate_tuple {l : Addr} {items : Array Value} {Q : Value → Shared → Prop} (hL : s.heap.IsTuple l items)
    (h : ∀ h', IsEnum h' (s.heap.objs.size + 1) s.heap.objs.size 0 .none → h'.IsTupleIter s.heap.objs.size l 0 → h'.objs.size = s.heap.objs.size + 2 →
      (∀ b o, s.heap.get? b = some o → h'.get? b = some o) → Q (.ref (s.heap.objs.size + 1)) { s with heap := h' }) :
    wpAny (model prog w) A (call (.type "enumerate") [.ref l]) Q E s := by
  obtain ⟨⟨c, dct, dt, sl⟩, hl, hc, n, hd⟩ := hL
  replace hc : c = .type "tuple" := hc
  replace hd : dt = .seq items n := hd
  subst hc hd
  refine callType_new F.called_enumerate (by decide) (F.typeCall_enumerate_1 _) (F.newCall_enumerate_1 _) (fun obj => F.args_object_init_2 obj _) F.entry_enumerate_new
    (my_enumerate_newT l items n dct sl) ⟨hl, ?_⟩
  have hz : (s.heap.push { cls := .type "tuple_iterator", data := .fields #[.ref l, .int 0 0] }).objs.size = s.heap.objs.size + 1 := Heap.size_push ..
  show _ ∧ _
  rw [hz]
  have he : IsEnum ((s.heap.push { cls := .type "tuple_iterator", data := .fields #[.ref l, .int 0 0] }).push
      { cls := .type "enumerate", data := .fields #[.none, .bool false, .ref s.heap.objs.size, rawInt 0, .none, .none] }) (s.heap.objs.size + 1) s.heap.objs.size 0 .none := by
    have := Heap.get?_push_size (s.heap.push { cls := .type "tuple_iterator", data := .fields #[.ref l, .int 0 0] })
      (o := { cls := .type "enumerate", data := .fields #[.none, .bool false, .ref s.heap.objs.size, rawInt 0, .none, .none] }) rfl
    rw [hz] at this; exact this
  refine ⟨⟨_, he, rfl⟩, h _ he ⟨_, Heap.get?_push_of_some _ (Heap.get?_push_size _ rfl), rfl, rfl⟩ (by rw [Heap.size_push, hz]) fun b o x => Heap.get?_push_of_some _ (Heap.get?_push_of_some _ x)⟩
end
end PySem
namespace L2
open PySem PySem.Spec PyProof.Rows
def IteT (K : PySem.W.Frag) (a : Addr) : It :=
  ⟨fun i H => ∃ (xs : List V) (x : V), SqT K H a xs ∧ xs[i]? = some x, fun i H v H' => ∃ T x, v = .ref T ∧ H T = none ∧ H' = upd H T (.tup [.int (i : Nat), x]) ∧ ∀ xs, SqT K H a xs → xs[i]? = some x, fun i H => ∃ xs : List V, SqT K H a xs ∧ i = xs.length⟩
theorem turn_enumT {P : Program} {w : World} {K : PySem.W.Frag} {elts : List Expr} {kk : Nat} {tpos : Pos} (a e it : Addr) :
    Turn P w K (.Tuple elts kk tpos) (IteT K a) [e, it] e (fun i h => (∃ old, IsEnum h e it ((i : Nat) : Int) old) ∧ h.IsTupleIter it a i ∧ e ≠ it ∧ e ≠ a ∧ it ≠ a) where
  mem := by simp
  obj := fun i h st b hb => by
    obtain ⟨⟨old, he⟩, ⟨o, ho, hc, hd⟩, _⟩ := st
    have e' : b = e ∨ b = it := by simpa using hb
    rcases e' with z | z
    · rw [z]; exact ⟨_, he, fun v q => nomatch q⟩
    · rw [z]; exact ⟨o, ho, fun v q => by rw [hd] at q; cases q⟩
  keep := fun i h h' st k => let ⟨⟨old, he⟩, hi, hne⟩ := st; ⟨⟨old, k e (by simp) _ he⟩, hi.at fun o q => k it (by simp) o q, hne⟩
  item := by
    intro X hP hw hK hc i pins s σ H E I hf st hg
    subst hP hw hK
    obtain ⟨⟨old, he⟩, hit, hne, hea, hia⟩ := st
    obtain ⟨xs, x, hq, hx⟩ := hg
    obtain ⟨its, rv, p, hz⟩ := I.tuple hq
    have p' : s.heap.IsTuple a its.toArray := p
    obtain ⟨u, hu, ru⟩ := rv.get hx
    have hel : e < s.heap.objs.size := Heap.lt_size he
    have hil : it < s.heap.objs.size := by obtain ⟨_, q, _⟩ := hit; exact Heap.lt_size q
    have D := Draws.tuple (prog := X.prog) (w := X.w) (A := X.A.in1) (I.ok.hd hc) it a hia.symm its.toArray
    refine wpAny_pyNext_enum_itemD D he ⟨hit, p'⟩ (by have := (List.getElem?_eq_some_iff.mp hu).1; simpa using this) hne (by simp [hne, hea]) fun x' h' tk hx' ho hit' hT hsz hk => ?_
    have hxu : x' = u := by
      have e1 : its[i]? = some x' := by simpa using hx'
      rw [hu] at e1
      exact (Option.some.inj e1).symm
    subst hxu
    obtain ⟨hit', _⟩ := hit'
    refine ⟨_, rfl, wpAny_letOwnedTupleGo_enum (s := { s with heap := h', toks := tk + 1 }) ho fun h'' he' sb => ?_⟩
    have hT2 : h''.get? s.heap.objs.size = some { cls := .type "tuple", data := .seq #[.int i tk, x'] } := (sb.2 _ (Nat.ne_of_gt hel)).trans hT
    have new : ObjOk X.prog X.w (upd H s.heap.objs.size (.tup [.int (i : Nat), x])) h'' s.heap.objs.size (.tup [.int (i : Nat), x]) :=
      ⟨by show 2 ≤ sizeLine; decide, [.int i tk, x'], .cons ⟨_, rfl⟩ (.cons ru .nil), ⟨_, hT2, rfl, _, rfl⟩⟩
    have I1 : Inv X pins σ (upd H s.heap.objs.size (.tup [.int (i : Nat), x])) { s with heap := h'', toks := tk + 1 } :=
      I.turnedNew (ch := [e, it]) (fun b ob hb q => (sb.2 b (fun z => hb (by simp [z]))).trans (hk b ob (fun z => hb (by simp [z])) (fun z => hb (by simp [z])) q)) hf (Nat.le_refl _) new
    refine ⟨.ref s.heap.objs.size, _, I1, rfl, ⟨_, x, rfl, I.hok.fresh (Nat.le_refl _), rfl, fun ys hy => by rw [I.tuple_inj hy hq]; exact hx⟩, ⟨⟨x', ?_⟩, hit'.at fun o q => (sb.2 it (Ne.symm hne)).trans q, hne, hea, hia⟩, fun b hb => ?_⟩
    · have e1 : ((i + 1 : Nat) : Int) = (i : Int) + 1 := by omega
      rw [e1]; exact he'
    · have hb' : b < s.heap.objs.size := by
        have e' : b = e ∨ b = it := by simpa using hb
        rcases e' with z | z
        · rw [z]; exact hel
        · rw [z]; exact hil
      rw [upd_ne (Nat.ne_of_lt hb')]
      exact (hf b hb).1
  done := by
    intro X hP hw hK hc i pins s σ H E I hf st hg
    subst hP hw hK
    obtain ⟨⟨old, he⟩, hit, hne, hea, hia⟩ := st
    obtain ⟨xs, hq, hx⟩ := hg
    obtain ⟨its, rv, p, hz⟩ := I.tuple hq
    have p' : s.heap.IsTuple a its.toArray := p
    obtain ⟨f0, f1, f2, f3, f4, f5⟩ := hf it (by simp)
    have hl := rv.length
    have D := Draws.tuple (prog := X.prog) (w := X.w) (A := X.A.in1) (I.ok.hd hc) it a hia.symm its.toArray
    have hn : i = its.toArray.size := by rw [hx, hl]; simp
    refine wpAny_pyNext_enum_endD D he ⟨hn ▸ hit, p'⟩ fun h' eb => ⟨rfl, I.turned (t' := s.toks) (fun b o hb q => eb b o hb q) f0 f1 f3 f4 f5⟩
  self := fun A i s Q E st h => let ⟨⟨_, he⟩, _⟩ := st; wpAny_pyIter_enum he h
/-- enumerate(list | tuple) -/
def iEnumS (K : PySem.W.Frag) (ta : TA) : TI := fun σ H R => ta σ H fun vs H1 => ∃ a xs, vs = [.ref a] ∧ ((SqL K H1 a xs ∧ R (Ite K a) H1) ∨ (SqT K H1 a xs ∧ R (IteT K a) H1))
theorem pi_enumS {X : Cx} {e : Expr} {ta : TA} {p pos tpos : Pos} {elts : List Expr} {kk : Nat} (hg : Gl X "enumerate") (hm : X.mg "enumerate" = none) (ha : PA X [e] ta) (hs : starEach [e] X.env = [(false, eval e X.env)] := by rfl) :
    PI X (.Tuple elts kk tpos) (.Call (.Name "enumerate" p) [e] [] pos) (iEnumS X.K ta) := by
  refine ⟨fun pins s σ H R I h => ?_⟩
  refine Call_ (ld_blt I hg hm boot_enumerate (PyProof.Rows.callWith_type1 (thn (ha.run pos pins s σ H _ I h) fun us s1 ⟨vs, H1, I1, r1, q1⟩ => ?_) hs rfl))
  obtain ⟨a, xs, ex, q1⟩ := q1
  subst ex
  cases r1 with
  | cons r rr =>
    cases rr
    cases r
    have fpk : ∀ b ∈ [s1.heap.objs.size + 1, s1.heap.objs.size], FpOk X pins H1 b := fun b hb => by
      have e' : b = s1.heap.objs.size + 1 ∨ b = s1.heap.objs.size := by simpa using hb
      have hle : s1.heap.objs.size ≤ b := by
        rcases e' with z | z
        · rw [z]; exact Nat.le_add_right _ _
        · rw [z]; exact Nat.le_refl _
      exact I1.fpOk hle (I1.hok.fresh hle)
    rcases q1 with ⟨hq, q⟩ | ⟨hq, q⟩
    · obtain ⟨its, rv, p', hz⟩ := I1.list hq
      refine call_enumerate_list p'.isList fun h' he hit hsz hk => wpAny_pyIter_enum he ?_
      have I2 : Inv X pins σ H1 { s1 with heap := h' } := I1.kept (t' := s1.toks) hk
      exact ⟨s1.heap.objs.size + 1, [s1.heap.objs.size + 1, s1.heap.objs.size], _, _, H1, rfl, I2, turn_enum a (s1.heap.objs.size + 1) s1.heap.objs.size, ⟨⟨.none, he⟩, hit, Nat.succ_ne_self _⟩, fpk, q⟩
    · obtain ⟨its, rv, p', hz⟩ := I1.tuple hq
      have hla : a < s1.heap.objs.size := by obtain ⟨o, ho, _⟩ := p'; exact Heap.lt_size ho
      refine my_enumerate_tuple (show s1.heap.IsTuple a its.toArray from p') fun h' he hit hsz hk => wpAny_pyIter_enum he ?_
      have I2 : Inv X pins σ H1 { s1 with heap := h' } := I1.kept (t' := s1.toks) hk
      exact ⟨s1.heap.objs.size + 1, [s1.heap.objs.size + 1, s1.heap.objs.size], _, _, H1, rfl, I2, turn_enumT a (s1.heap.objs.size + 1) s1.heap.objs.size, ⟨⟨.none, he⟩, hit, Nat.succ_ne_self _, Nat.ne_of_gt (Nat.lt_succ_of_lt hla), Nat.ne_of_gt hla⟩, fpk, q⟩
theorem pi_enumSK {X : Cx} {K : PySem.W.Frag} {e : Expr} {ta : TA} {p pos tpos : Pos} {elts : List Expr} {kk : Nat} (h : X.K = K) (hg : Gl X "enumerate") (hm : X.mg "enumerate" = none) (ha : PA X [e] ta) (hs : starEach [e] X.env = [(false, eval e X.env)] := by rfl) :
    PI X (.Tuple elts kk tpos) (.Call (.Name "enumerate" p) [e] [] pos) (iEnumS K ta) := by subst h; exact pi_enumS hg hm ha hs
/-- a for over it: the pair's own tuple is new; Pv by the turn -/
theorem for_enumS {K : PySem.W.Frag} {a : Addr} {xs : List V} {g : TG} {tb : TS} {D : Ends} {σ : St} {H0 H : Hp} (hq : SqL K H0 a xs ∨ SqT K H0 a xs) (Pv : Nat → St → Hp → Prop) (h0 : Pv 0 σ H) (hm : ∀ i σ' H', Pv i σ' H' → ∀ b o, H0 b = some o → H' b = some o)
    (hs : ∀ i x σ H T, xs[i]? = some x → Pv i σ H → H T = none → g (.ref T) σ (upd H T (.tup [.int (i : Nat), x])) fun σ2 H2 => tb { D with nx := Pv (i + 1), ct := Pv (i + 1), bk := D.nx } σ2 H2) (hd : ∀ σ H, Pv xs.length σ H → D.nx σ H) :
    ((SqL K H a xs ∧ ∃ W : Nat → Nat → St → Hp → Prop, (∃ m, W 0 m σ H) ∧ ∀ i m σ H, W i m σ H →
      ((Ite K a).stop i H ∧ D.nx σ H) ∨ ((Ite K a).go i H ∧ ∃ N : St → Hp → Prop, (∀ σ' H', N σ' H' → ∃ m', m' < m ∧ W (i + 1) m' σ' H') ∧ ∀ x H', (Ite K a).yld i H x H' → g x σ H' fun σ2 H2 => tb { D with nx := N, ct := N, bk := D.nx } σ2 H2)) ∨
     (SqT K H a xs ∧ ∃ W : Nat → Nat → St → Hp → Prop, (∃ m, W 0 m σ H) ∧ ∀ i m σ H, W i m σ H →
      ((IteT K a).stop i H ∧ D.nx σ H) ∨ ((IteT K a).go i H ∧ ∃ N : St → Hp → Prop, (∀ σ' H', N σ' H' → ∃ m', m' < m ∧ W (i + 1) m' σ' H') ∧ ∀ x H', (IteT K a).yld i H x H' → g x σ H' fun σ2 H2 => tb { D with nx := N, ct := N, bk := D.nx } σ2 H2))) := by
  have mL : ∀ {i σ' H'}, SqL K H0 a xs → Pv i σ' H' → SqL K H' a xs := fun {i σ' H'} h p => by
    have k := hm i σ' H' p
    rcases h with (h | ⟨o, h⟩) | h
    · exact .inl (.inl (k _ _ h))
    · exact .inl (.inr ⟨o, k _ _ h⟩)
    · exact .inr h
  have mT : ∀ {i σ' H'}, SqT K H0 a xs → Pv i σ' H' → SqT K H' a xs := fun {i σ' H'} h p => by
    have k := hm i σ' H' p
    rcases h with (h | ⟨o, h⟩) | h
    · exact .inl (.inl (k _ _ h))
    · exact .inl (.inr ⟨o, k _ _ h⟩)
    · exact .inr h
  rcases hq with h | h
  · refine .inl ⟨mL h h0, fun i m σ H => m = xs.length - i ∧ i ≤ xs.length ∧ Pv i σ H, ⟨xs.length, by simp, Nat.zero_le _, h0⟩, ?_⟩
    rintro i m σ H ⟨rfl, hi, p⟩
    have q := mL h p
    by_cases hlt : i < xs.length
    · refine .inr ⟨⟨xs, xs[i], q, by simp [hlt]⟩, Pv (i + 1), fun σ' H' p' => ⟨xs.length - (i + 1), by omega, rfl, hlt, p'⟩, fun x H' y => ?_⟩
      obtain ⟨T, z, rfl, nT, rfl, hz⟩ := y
      exact hs i z σ H T (hz xs q) p nT
    · have e : i = xs.length := by omega
      subst e
      exact .inl ⟨⟨xs, q, Nat.le_refl _⟩, hd σ H p⟩
  · refine .inr ⟨mT h h0, fun i m σ H => m = xs.length - i ∧ i ≤ xs.length ∧ Pv i σ H, ⟨xs.length, by simp, Nat.zero_le _, h0⟩, ?_⟩
    rintro i m σ H ⟨rfl, hi, p⟩
    have q := mT h p
    by_cases hlt : i < xs.length
    · refine .inr ⟨⟨xs, xs[i], q, by simp [hlt]⟩, Pv (i + 1), fun σ' H' p' => ⟨xs.length - (i + 1), by omega, rfl, hlt, p'⟩, fun x H' y => ?_⟩
      obtain ⟨T, z, rfl, nT, rfl, hz⟩ := y
      exact hs i z σ H T (hz xs q) p nT
    · have e : i = xs.length := by omega
      subst e
      exact .inl ⟨⟨xs, q, rfl⟩, hd σ H p⟩
end L2


set_option Elab.async false
set_option linter.all false
set_option maxRecDepth 100000
set_option maxHeartbeats 4000000
namespace K1
open PySem PySem.Spec PyProof.Rows L2 RZ
/-! ### values as data: what stands at a place, found in the call's own objects -/
mutual
inductive Dv (H : Hp) : V → PyData → Prop
  | non : Dv H .non .none
  | bl (b : Bool) : Dv H (.bl b) (.bool b)
  | int (i : Int) : Dv H (.int i) (.int i)
  | str (x : Str) : Dv H (.str x) (.str x)
  | lst {a : Addr} {xs : List V} {ds : List PyData} : H a = some (.lst xs) → DvA H xs ds → Dv H (.ref a) (.list ds)
  | tup {a : Addr} {xs : List V} {ds : List PyData} : H a = some (.tup xs) → DvA H xs ds → Dv H (.ref a) (.tuple ds)
  | dic {a : Addr} : H a = some (.dK []) → Dv H (.ref a) (.dict [])
inductive DvA (H : Hp) : List V → List PyData → Prop
  | nil : DvA H [] []
  | cons {v : V} {vs : List V} {d : PyData} {ds : List PyData} : Dv H v d → DvA H vs ds → DvA H (v :: vs) (d :: ds)
end
mutual
theorem Dv.ext {H H' : Hp} (e : LamX.ExtN H H') : ∀ {v : V} {d : PyData}, Dv H v d → Dv H' v d
  | _, _, .non => .non
  | _, _, .bl b => .bl b
  | _, _, .int i => .int i
  | _, _, .str x => .str x
  | _, _, .lst h a => .lst (e _ _ h fun _ z => by cases z) (DvA.ext e a)
  | _, _, .tup h a => .tup (e _ _ h fun _ z => by cases z) (DvA.ext e a)
  | _, _, .dic h => .dic (e _ _ h fun _ z => by cases z)
theorem DvA.ext {H H' : Hp} (e : LamX.ExtN H H') : ∀ {vs : List V} {ds : List PyData}, DvA H vs ds → DvA H' vs ds
  | _, _, .nil => .nil
  | _, _, .cons h r => .cons (Dv.ext e h) (DvA.ext e r)
end
theorem Dv.same {H H' : Hp} {v : V} {d : PyData} (h : Dv H v d) (s : Same H H') : Dv H' v d := h.ext (LamX.ExtN.of s)
theorem DvA.same {H H' : Hp} {v : List V} {d : List PyData} (h : DvA H v d) (s : Same H H') : DvA H' v d := h.ext (LamX.ExtN.of s)
mutual
def noDic : PyData → Bool
  | .list xs => noDicA xs
  | .tuple xs => noDicA xs
  | .dict _ => false
  | _ => true
def noDicA : List PyData → Bool
  | [] => true
  | x :: r => noDic x && noDicA r
end
mutual
theorem Dv.dp {K : PySem.W.Frag} {H : Hp} : ∀ {v : V} {d : PyData}, Dv H v d → noDic d = true → Dp K H v d
  | _, _, .non, _ => .non
  | _, _, .bl b, _ => .bl b
  | _, _, .int i, _ => .int i
  | _, _, .str x, _ => .str x
  | _, _, .lst h a, n => .lst (sq h) (DvA.dp a n)
  | _, _, .tup h a, n => .tup (st h) (DvA.dp a n)
  | _, _, .dic h, n => by cases n
theorem DvA.dp {K : PySem.W.Frag} {H : Hp} : ∀ {vs : List V} {ds : List PyData}, DvA H vs ds → noDicA ds = true → DpAll K H vs ds
  | _, _, .nil, _ => .nil
  | _, _, .cons h r, n => .cons (Dv.dp h ((Bool.and_eq_true _ _).mp n).1) (DvA.dp r ((Bool.and_eq_true _ _).mp n).2)
end
theorem DvA.len {H : Hp} : ∀ {vs : List V} {ds : List PyData}, DvA H vs ds → vs.length = ds.length
  | _, _, .nil => rfl
  | _, _, .cons _ r => congrArg (· + 1) (DvA.len r)
theorem DvA.get {H : Hp} : ∀ {vs : List V} {ds : List PyData}, DvA H vs ds → ∀ {i : Nat} {v : V}, vs[i]? = some v → ∃ d, ds[i]? = some d ∧ Dv H v d
  | _, _, .nil, i, v, h => by simp at h
  | _, _, .cons hd r, 0, v, h => ⟨_, rfl, by simp at h; exact h ▸ hd⟩
  | _, _, .cons hd r, i + 1, v, h => by simpa using DvA.get r (i := i) (v := v) (by simpa using h)
theorem DvA.app {H : Hp} : ∀ {vs : List V} {ds : List PyData} {us : List V} {es : List PyData}, DvA H vs ds → DvA H us es → DvA H (vs ++ us) (ds ++ es)
  | _, _, _, _, .nil, h => h
  | _, _, _, _, .cons hd r, h => .cons hd (DvA.app r h)
def tyN : PyData → String
  | .none => "NoneType"
  | .bool _ => "bool"
  | .int _ => "int"
  | .str _ => "str"
  | .list _ => "list"
  | .tuple _ => "tuple"
  | .dict _ => "dict"
theorem Dv.ty {K : PySem.W.Frag} {H : Hp} {v : V} {d : PyData} (h : Dv H v d) : TyX K H v (.type (tyN d)) := by
  cases h with
  | non => exact .base .non
  | bl b => exact .base (.bl b)
  | int i => exact .base (.int i)
  | str x => exact .base (.str x)
  | lst e _ => exact .base (.lst e)
  | tup e _ => exact .base (.tup e)
  | dic e => exact .base (.dK e)
/-! ### what the checks say of data -/
def isInt : PyData → Bool | .int _ => true | _ => false
def isNum : PyData → Bool | .int n => decide (1 ≤ n) | _ => false
def isStr : PyData → Bool | .str _ => true | _ => false
def isTup : PyData → Bool | .tuple _ => true | _ => false
def isSeq : PyData → Bool | .tuple _ => true | .list _ => true | _ => false
def itemsD : PyData → List PyData | .list xs => xs | .tuple xs => xs | _ => []
def dI : PyData → Int | .int n => n | _ => 0
def isNums (d : PyData) : Bool := isSeq d && (itemsD d).all isNum
def ascB (ns : List Int) : Bool := ((ns.zip (ns.drop 1)).map fun p => decide (p.1 < p.2)).all id
theorem kit_int (d : PyData) : ∃ b1 b2, kitB (tyN d) "int" = some b1 ∧ kitB (tyN d) "bool" = some b2 ∧ (b1 && !b2) = isInt d := by
  cases d with
  | none => exact ⟨false, false, (show kitB "NoneType" "int" = some false by decide +kernel), (show kitB "NoneType" "bool" = some false by decide +kernel), rfl⟩
  | bool b => exact ⟨true, true, (show kitB "bool" "int" = some true by decide +kernel), (show kitB "bool" "bool" = some true by decide +kernel), rfl⟩
  | int b => exact ⟨true, false, (show kitB "int" "int" = some true by decide +kernel), (show kitB "int" "bool" = some false by decide +kernel), rfl⟩
  | str b => exact ⟨false, false, (show kitB "str" "int" = some false by decide +kernel), (show kitB "str" "bool" = some false by decide +kernel), rfl⟩
  | list b => exact ⟨false, false, (show kitB "list" "int" = some false by decide +kernel), (show kitB "list" "bool" = some false by decide +kernel), rfl⟩
  | tuple b => exact ⟨false, false, (show kitB "tuple" "int" = some false by decide +kernel), (show kitB "tuple" "bool" = some false by decide +kernel), rfl⟩
  | dict b => exact ⟨false, false, (show kitB "dict" "int" = some false by decide +kernel), (show kitB "dict" "bool" = some false by decide +kernel), rfl⟩
theorem kit_str (d : PyData) : kitB (tyN d) "str" = some (isStr d) := by
  cases d with
  | none => exact (show kitB "NoneType" "str" = some false by decide +kernel)
  | bool b => exact (show kitB "bool" "str" = some false by decide +kernel)
  | int b => exact (show kitB "int" "str" = some false by decide +kernel)
  | str b => exact (show kitB "str" "str" = some true by decide +kernel)
  | list b => exact (show kitB "list" "str" = some false by decide +kernel)
  | tuple b => exact (show kitB "tuple" "str" = some false by decide +kernel)
  | dict b => exact (show kitB "dict" "str" = some false by decide +kernel)
theorem kit_tup (d : PyData) : kitB (tyN d) "tuple" = some (isTup d) := by
  cases d with
  | none => exact (show kitB "NoneType" "tuple" = some false by decide +kernel)
  | bool b => exact (show kitB "bool" "tuple" = some false by decide +kernel)
  | int b => exact (show kitB "int" "tuple" = some false by decide +kernel)
  | str b => exact (show kitB "str" "tuple" = some false by decide +kernel)
  | list b => exact (show kitB "list" "tuple" = some false by decide +kernel)
  | tuple b => exact (show kitB "tuple" "tuple" = some true by decide +kernel)
  | dict b => exact (show kitB "dict" "tuple" = some false by decide +kernel)
theorem kit_seq {K : PySem.W.Frag} (d : PyData) : PySem.W.kitAny K (.type (tyN d)) [.type "list", .type "tuple"] = some (isSeq d) := by
  have kt : ∀ {t : String} {b1 b2 : Bool}, kitB t "list" = some b1 → kitB t "tuple" = some b2 → PySem.W.kitAny K (.type t) [.type "list", .type "tuple"] = some (b1 || b2) := fun {t b1 b2} h1 h2 =>
    kitAny_cons (b := b1) (kit_ty h1) (fun e => by subst e; exact kitAny_cons (b := b2) (kit_ty h2) (fun e => by subst e; exact kitAny_nil) fun e => by subst e; rfl) fun e => by subst e; rfl
  cases d with
  | none => exact kt (t := "NoneType") (b1 := false) (b2 := false) (by decide +kernel) (by decide +kernel)
  | bool b => exact kt (t := "bool") (b1 := false) (b2 := false) (by decide +kernel) (by decide +kernel)
  | int b => exact kt (t := "int") (b1 := false) (b2 := false) (by decide +kernel) (by decide +kernel)
  | str b => exact kt (t := "str") (b1 := false) (b2 := false) (by decide +kernel) (by decide +kernel)
  | list b => exact kt (t := "list") (b1 := true) (b2 := false) (by decide +kernel) (by decide +kernel)
  | tuple b => exact kt (t := "tuple") (b1 := false) (b2 := true) (by decide +kernel) (by decide +kernel)
  | dict b => exact kt (t := "dict") (b1 := false) (b2 := false) (by decide +kernel) (by decide +kernel)
/-- a list or a tuple of the call's own -/
def SeqH (H : Hp) (a : Addr) (xs : List V) : Prop := H a = some (.lst xs) ∨ H a = some (.tup xs)
theorem SeqH.same {H H' : Hp} {a : Addr} {xs : List V} (h : SeqH H a xs) (s : Same H H') : SeqH H' a xs := h.imp (s _ _) (s _ _)
theorem SeqH.len {K : PySem.W.Frag} {H : Hp} {a : Addr} {xs : List V} (h : SeqH H a xs) : SqL K H a xs ∨ SqT K H a xs := h.imp sq st
theorem Dv.seq {H : Hp} {v : V} {d : PyData} (h : Dv H v d) (hs : isSeq d = true) : ∃ a xs, v = .ref a ∧ SeqH H a xs ∧ DvA H xs (itemsD d) := by
  cases h with
  | lst e r => exact ⟨_, _, rfl, .inl e, r⟩
  | tup e r => exact ⟨_, _, rfl, .inr e, r⟩
  | _ => cases hs
theorem Dv.tupD {H : Hp} {v : V} {d : PyData} (h : Dv H v d) (hs : isTup d = true) : ∃ a xs, v = .ref a ∧ H a = some (.tup xs) ∧ DvA H xs (itemsD d) ∧ d = .tuple (itemsD d) := by
  cases h with
  | tup e r => exact ⟨_, _, rfl, e, r, rfl⟩
  | _ => cases hs
/-- what a walk over a list or a tuple asks -/
def SeqR (K : PySem.W.Frag) (a : Addr) (H : Hp) (R : It → Hp → Prop) : Prop := ((∃ xs, SqL K H a xs) ∧ R (Itl K a) H) ∨ ((∃ xs, SqT K H a xs) ∧ R (Itt K a) H)
def ZipR (K : PySem.W.Frag) (a b : Addr) (xs ys : List V) (H : Hp) (R : It → Hp → Prop) : Prop := (SqL K H a xs ∧ SqL K H b ys ∧ R (Itz K a b) H) ∨ (SqT K H a xs ∧ SqT K H b ys ∧ R (ItzT K a b) H)
/-- a walk of a list or a tuple of the call's own -/
theorem seq_walk {K : PySem.W.Frag} {H : Hp} {a : Addr} {xs : List V} {R : It → Hp → Prop} (h : SeqH H a xs)
    (k : ∀ (J : It) (Gd : Hp → Prop), Walk J xs.length Gd (YAt xs) → (∀ H', Same H H' → Gd H') → R J H) : SeqR K a H R := by
  rcases h with h | h
  · exact .inl ⟨⟨xs, sq h⟩, k _ _ walk_list fun H' s => sq (s _ _ h)⟩
  · exact .inr ⟨⟨xs, st h⟩, k _ _ walk_tup fun H' s => st (s _ _ h)⟩
theorem walk_zipT {K : PySem.W.Frag} {a b : Addr} {xs ys : List V} {n : Nat} (hn : n = min xs.length ys.length) : Walk (ItzT K a b) n (fun H => SqT K H a xs ∧ SqT K H b ys) (YPair (fun i => xs[i]?) (fun i => ys[i]?)) := by
  subst hn
  refine ⟨fun i _ hi q => ?_, fun _ q => ⟨xs, ys, q.1, q.2, by omega⟩, fun i H v H' _ q y => ?_⟩
  · have h1 : i < xs.length := by omega
    have h2 : i < ys.length := by omega
    exact ⟨xs, ys, xs[i], ys[i], q.1, q.2, by simp [h1], by simp [h2]⟩
  · obtain ⟨T, x, z, h1, h2, h3, h4, h5⟩ := y
    exact ⟨T, x, z, h1, h2, h3, h4 xs q.1, h5 ys q.2⟩
theorem zip_walkL {K : PySem.W.Frag} {H : Hp} {a b : Addr} {xs ys : List V} {R : It → Hp → Prop} (h1 : H a = some (.lst xs)) (h2 : H b = some (.lst ys))
    (k : ∀ (J : It) (Gd : Hp → Prop), Walk J (min xs.length ys.length) Gd (YPair (fun i => xs[i]?) (fun i => ys[i]?)) → (∀ H', Same H H' → Gd H') → R J H) : ZipR K a b xs ys H R :=
  .inl ⟨sq h1, sq h2, k _ _ (walk_zip rfl) fun H' s => ⟨sq (s _ _ h1), sq (s _ _ h2)⟩⟩
theorem zip_walkT {K : PySem.W.Frag} {H : Hp} {a b : Addr} {xs ys : List V} {R : It → Hp → Prop} (h1 : H a = some (.tup xs)) (h2 : H b = some (.tup ys))
    (k : ∀ (J : It) (Gd : Hp → Prop), Walk J (min xs.length ys.length) Gd (YPair (fun i => xs[i]?) (fun i => ys[i]?)) → (∀ H', Same H H' → Gd H') → R J H) : ZipR K a b xs ys H R :=
  .inr ⟨st h1, st h2, k _ _ (walk_zipT rfl) fun H' s => ⟨st (s _ _ h1), st (s _ _ h2)⟩⟩
structure Bj (mg : Str → Option Value) : Prop extends Bi mg where
  all : mg "all" = none
  zip : mg "zip" = none
section
variable {X : Cx} {K : PySem.W.Frag}
theorem sl_seqK (h : X.K = K) : SlR X (fun x lo hi H Q => rSlL K x lo hi H Q ∨ rSlA K x lo hi H Q) := by subst h; exact SlR.or sl_list sl_tupA
theorem call_isiK1 (h : X.K = K) : CallR X (.builtin "isinstance") (rIsi K) := by subst h; exact call_isi
theorem call_isiTK (h : X.K = K) : CallR X (.builtin "isinstance") (rIsiT K) := by subst h; exact call_isiT
theorem cr_allK (h : X.K = K) (hc : X.calm = true) : CallR X (.builtin "all") (rAll K) := by subst h; exact cr_all hc
theorem ix_seqK (h : X.K = K) : IxR X (rIx K) := by subst h; exact ix_seq
theorem pe_const {x : Str} {pos : Pos} {n : Int} (hm : ∃ t, X.mg x = some (.int n t)) (hg : Gl X x) (hd : (x == ("__debug__" : Str)) = false := by decide) : PE X (.Name x pos) (tC (.int n)) := by
  obtain ⟨t, hm⟩ := hm
  exact pe_glob hg hm ⟨t, rfl⟩ hd
/-- a walk over a list or a tuple -/
def iSeq (K : PySem.W.Frag) (tl : TE) : TI := fun σ H R => tl σ H fun x H1 => ∃ a, x = .ref a ∧ SeqR K a H1 R
theorem pi_seqK {tg l : Expr} {tl : TE} (h : X.K = K) (hl : PE X l tl) : PI X tg l (iSeq K tl) := by
  subst h
  refine ⟨fun pins s σ H R I h => ?_⟩
  refine thn (hl.run pins s σ H _ I h) fun v s1 ⟨x, H1, I1, r1, q1⟩ => ?_
  obtain ⟨a, e, q1⟩ := q1
  subst e
  cases r1
  have fr : ∀ b ∈ [s1.heap.objs.size], FpOk X pins H1 b := fun b hb => by
    have e : b = s1.heap.objs.size := by simpa using hb
    subst e
    exact I1.fpOk (Nat.le_refl _) (I1.hok.fresh (Nat.le_refl _))
  rcases q1 with ⟨⟨xs, hq⟩, q⟩ | ⟨⟨xs, hq⟩, q⟩
  · obtain ⟨its, rv, p, hz⟩ := I1.list hq
    refine wpAny_pyIter_list p.isList ?_
    exact ⟨s1.heap.objs.size, [s1.heap.objs.size], _, _, H1, rfl, I1.kept (t' := s1.toks) fun b o e => Heap.get?_push_of_some _ e, turn_list a _, ⟨_, Heap.get?_push_size _ rfl, rfl, rfl⟩, fr, q⟩
  · obtain ⟨its, rv, p, hz⟩ := I1.tuple hq
    refine wpAny_pyIter_tuple (show s1.heap.IsTuple a its.toArray from p) ?_
    exact ⟨s1.heap.objs.size, [s1.heap.objs.size], _, _, H1, rfl, I1.kept (t' := s1.toks) fun b o e => Heap.get?_push_of_some _ e, turn_tuple a _, ⟨_, Heap.get?_push_size _ rfl, rfl, rfl⟩, fr, q⟩
def iZipS (K : PySem.W.Frag) (ta : TA) : TI := fun σ H R => ta σ H fun vs H1 => ∃ a b xs ys, vs = [.ref a, .ref b] ∧ ZipR K a b xs ys H1 R
theorem pi_zipSK {e e2 : Expr} {ta : TA} {p pos tpos : Pos} {elts : List Expr} {kk : Nat} (h : X.K = K) (hg : Gl X "zip") (hm : X.mg "zip" = none) (ha : PA X [e, e2] ta)
    (hs : starEach [e, e2] X.env = (false, eval e X.env) :: starEach [e2] X.env := by rfl) (hpl : (backTo pos (starEach [e2] X.env)).any (·.1) = false := by rfl) :
    PI X (.Tuple elts kk tpos) (.Call (.Name "zip" p) [e, e2] [] pos) (iZipS K ta) := by subst h; exact pi_zipA hg hm ha hs hpl
end
end K1


set_option Elab.async false
set_option linter.all false
set_option maxRecDepth 100000
set_option maxHeartbeats 4000000
/-! Dicts with tuple keys: a display of one pair, a comprehension, the items of a locked one. -/
namespace K1
open PySem PySem.Spec PyProof.Rows L2
/-! ### {(a, b): c} -/
def oneT (p : Addr) (Q : VK) (ps : List (V × V)) (G : Hp) : Prop := ∃ (ks : List L2.Key) (b : Addr) (y : V), ps = [(.ref b, y)] ∧ G p = some (.dT []) ∧ G b = some (.tup (ks.map kV)) ∧ Q (.ref p) (upd G p (.dT [(ks, y)]))
def tDisp1T (tk tv : TE) : TE := fun σ H Q => ∀ p, H p = none → tPairs [(tk, tv)] σ (upd H p (.dT [])) (oneT p Q)
theorem pe_disp1T {X : Cx} {pos : Pos} {k v : Expr} {tk tv : TE} (hu : X.A.units < cLine) (hk : PE X k tk) (hv : PE X v tv) : PE X (.Dict [some k] [v] pos) (tDisp1T tk tv) := by
  refine ⟨fun pins s σ H Q I q => ?_⟩
  have fresh := I.hok.fresh (Nat.le_refl s.heap.objs.size)
  have I0 := I.laid (a := s.heap.objs.size) (o := .dT []) (h' := s.heap.push { cls := .type "dict", data := .dict #[] }) (t' := s.toks) (fun _ _ z => Heap.get?_push_of_some _ z) (Nat.le_refl _) (dt_empty s.heap I.big)
  have len : (pairTrees [some k] [v] X.env pos).length = 1 := pairTrees_length [some k] [v] X.env pos rfl rfl
  have ne : pairTrees [some k] [v] X.env pos ≠ [] := fun z => by rw [z] at len; cases len
  rw [arm_eval_Dict, zip_pairTrees [some k] [v] X.env pos rfl rfl, dictDisplay_pairs _ ne (by rw [len]; decide)]
  refine wpAny_bind (wpAny_standAt (wpAny_bind (wpAny_subDictH (knd := tupleKind (mixKind X.prog X.w)) (Q := fun d s' => wpAny (model X.prog X.w) X.A (pure (Value.ref d)) (EP X pins σ Q) X.xe s') hu (by rw [len]; decide) ?_)))
  refine thn ((pps_cons hk hv pps_nil).run pins _ σ _ _ I0 (q _ fresh)) fun ws s2 ⟨ps, G, I2, rel, qq⟩ => ?_
  obtain ⟨ks, b, y, ep, hp, hb, q2⟩ := qq
  subst ep
  obtain ⟨u1, u2, rfl, ru, ry⟩ : ∃ u1 u2, ws = [(u1, u2)] ∧ RelV (.ref b) u1 ∧ RelV y u2 := by
    cases rel with
    | cons r1 r2 => cases r2; exact ⟨_, _, rfl, r1.1, r1.2⟩
  obtain rfl : u1 = Value.ref b := ru
  obtain ⟨z, hd, xs, rx, dd⟩ := dt_of I2.hok hp
  cases rx
  refine ⟨[(ks, b, u2)], ⟨rfl, rfl, key_of I2.hok hb, trivial⟩, dd, fun h' tk dd' hs => wpAny_pure ⟨.ref s.heap.objs.size, _, ?_, rfl, q2⟩⟩
  have e : storedAllH [] [(ks, b, u2)] = [(ks, b, u2)] := rfl
  rw [e] at dd'
  obtain ⟨ob, es, ep, ho, g2, g3, g4, _, g5⟩ := dd'
  refine d_write I2 (by rw [hp]; exact True.intro) hs ⟨ob, ho⟩ ⟨by rw [sizeLine_eq]; exact (by decide : 1 ≤ 16777216), hd, _, ?_, ob, es, ep, ho, g2, g3, g4, g5⟩
  refine .cons ⟨rfl, ?_, ry⟩ .nil
  rw [upd_ne (ne_of hb hp (fun z => nomatch z))]
  exact hb
/-! ### the items of a locked dict -/
section
variable {X : Cx} {pins : List (Addr × Obj)} {σ : L2.St} {H : Hp} {s : Shared} {d : Addr} {o : Obj}
theorem lockedT {kvs : List (List L2.Key × V)} (I : Inv X pins σ H s) (h : H d = some (.frz o (.dT kvs))) : (d == sysModules) = false ∧ ∃ (es : Array DictEntry) (ep : Nat), o.data = .dict es ep ∧ es.size = kvs.length ∧ DT.Raw s.heap d es ep ∧
    ∀ (i : Nat) (hi : i < es.size) (k : List L2.Key) (v : V), kvs[i]? = some (k, v) → ∃ q : Addr, es[i].key = .ref q ∧ H q = some (.tup (k.map kV)) ∧ RelV v es[i].val := by
  have all := I.hok d _ h
  obtain ⟨g, _, sm, xs, pr, o2, es, ep, g2, ex, dt, he, _⟩ := all
  rw [g] at g2
  cases g2
  have n1 : es.size = xs.length := size_of_entries he
  have n2 : kvs.length = xs.length := Paired.length pr
  refine ⟨sm, es, ep, dt, n1.trans n2.symm, ⟨o, g, ex, dt⟩, fun i hi k v hk => ?_⟩
  obtain ⟨b, hb, b1, b2, b3⟩ := paired_get pr hk
  have at_ := entry_at he i
  rw [hb, Array.getElem?_eq_getElem hi] at at_
  have e : es[i] = _ := Option.some.inj at_
  exact ⟨b.2.1, by rw [e]; rfl, b2, by rw [e]; exact b3⟩
end
def ItiT (d : Addr) (o : Obj) (kvs : List (List L2.Key × V)) : It :=
  ⟨fun i H => H d = some (.frz o (.dT kvs)) ∧ i < kvs.length, fun i H x H' => ∃ (T q : Addr) (k : List L2.Key) (v : V), kvs[i]? = some (k, v) ∧ H q = some (.tup (k.map kV)) ∧ x = .ref T ∧ H T = none ∧ H' = upd H T (.tup [.ref q, v]),
    fun i H => H d = some (.frz o (.dT kvs)) ∧ kvs.length ≤ i⟩
theorem turn_itemsT {P : Program} {w : World} {K : PySem.W.Frag} {d : Addr} {o : Obj} {es : Array DictEntry} {ep : Nat} {kvs : List (List L2.Key × V)} {elts : List Expr} {kk : Nat} {tpos : Pos} (it : Addr) (dt : o.data = .dict es ep) (hsz : es.size = kvs.length) :
    Turn P w K (.Tuple elts kk tpos) (ItiT d o kvs) [it] it (fun i h => ∃ ok ov, IsItemIter h it d i es.size ep ok ov) where
  mem := List.mem_singleton.mpr rfl
  obj := fun i h ⟨ok, ov, z⟩ b hb => by
    obtain rfl := List.mem_singleton.mp hb
    exact ⟨_, z, fun v e => nomatch e⟩
  keep := fun i h h' ⟨ok, ov, z⟩ k => ⟨ok, ov, k it (List.mem_singleton.mpr rfl) _ z⟩
  item := by
    intro X eP eW eK calm i pins s σ H E I fp ⟨ok, ov, at_⟩ ⟨hd, hi⟩
    subst eP eW eK
    obtain ⟨sm, es2, ep2, dt2, sz, raw, ent⟩ := lockedT I hd
    obtain ⟨rfl, rfl⟩ := dict_ep dt dt2
    have hi2 : i < es2.size := by omega
    obtain ⟨q, hq1, hq2, rv⟩ := ent i hi2 _ _ (List.getElem?_eq_getElem hi)
    have below : it < s.heap.objs.size := Heap.lt_size at_
    refine DT.nextI at_ raw hi2 fun h1 out tup _ stay => ⟨_, rfl, wpAny_letOwnedTupleGo_items (s := { s with heap := h1 }) out fun h2 at2 sb => ?_⟩
    have tup2 : h2.get? s.heap.objs.size = some { cls := .type "tuple", data := .seq #[es2[i].key, es2[i].val] } := (sb.2 _ (Nat.ne_of_gt below)).trans tup
    have obj : ObjOk X.prog X.w (upd H s.heap.objs.size (.tup [.ref q, kvs[i].2])) h2 s.heap.objs.size (.tup [.ref q, kvs[i].2]) :=
      ⟨by show 2 ≤ sizeLine; decide, [es2[i].key, es2[i].val], .cons hq1 (.cons rv .nil), ⟨_, tup2, rfl, _, rfl⟩⟩
    have I2 : Inv X pins σ (upd H s.heap.objs.size (.tup [.ref q, kvs[i].2])) { s with heap := h2 } :=
      I.turnedNew (t' := s.toks) (ch := [it]) (fun b ob hb e => (sb.2 b (by simpa using hb)).trans (stay b ob (by simpa using hb) e)) fp (Nat.le_refl _) obj
    refine ⟨.ref s.heap.objs.size, _, I2, rfl, ⟨_, q, _, _, List.getElem?_eq_getElem hi, hq2, rfl, I.hok.fresh (Nat.le_refl _), rfl⟩, ⟨_, _, at2⟩, fun b hb => ?_⟩
    obtain rfl := List.mem_singleton.mp hb
    rw [upd_ne (Nat.ne_of_lt below)]
    exact (fp b hb).1
  done := by
    intro X eP eW eK calm i pins s σ H E I fp ⟨ok, ov, at_⟩ ⟨hd, hi⟩
    subst eP eW eK
    obtain ⟨f0, f1, f2, f3, f4, f5⟩ := fp it (List.mem_singleton.mpr rfl)
    obtain ⟨sm, es2, ep2, dt2, sz, raw, ent⟩ := lockedT I hd
    obtain ⟨rfl, rfl⟩ := dict_ep dt dt2
    exact DT.endI (I.ok.hd calm) at_ raw (by omega) fun h1 eb => ⟨rfl, I.turned (t' := s.toks) (fun b ob hb e => eb b ob hb e) f0 f1 f3 f4 f5⟩
  self := fun A i s Q E ⟨_, _, z⟩ h => PySem.W.kcp_self z h
def iItemsT (td : TE) : TI := fun σ H R => td σ H fun x G => ∃ (d : Addr) (o : Obj) (kvs : List (List L2.Key × V)), x = .ref d ∧ G d = some (.frz o (.dT kvs)) ∧ R (ItiT d o kvs) G
theorem pi_itemsT {X : Cx} {e : Expr} {td : TE} {apos cpos : Pos} {elts : List Expr} {kk : Nat} {tpos : Pos} (he : PE X e td) (hb : attributeBase e "items" X.env (eval e X.env) = eval e X.env := by rfl) (hl : (apos.endLine == cpos.line) = true := by rfl) :
    PI X (.Tuple elts kk tpos) (.Call (.Attribute e "items" apos) [] [] cpos) (iItemsT td) := by
  refine ⟨fun pins s σ H R I q => wpAny_Call_method (T := "dict") (id := "dict.items") hb rfl hl F.plainAttrs_dict F.slot_dict_items F.type_dict_items (thn (he.run pins s σ H _ I q) fun u s1 ⟨x, G, I1, rx, d, o, kvs, ex, hd, q1⟩ => ?_)⟩
  subst ex
  obtain rfl : u = Value.ref d := rx
  obtain ⟨sm, es, ep, dt, sz, raw, ent⟩ := lockedT I1 hd
  obtain ⟨ob, ho, hx, hdat⟩ := id raw
  refine ⟨raw.typeIs, fun b z => ?_, ?_⟩
  · cases z
    exact ⟨ob, ho, hx.2.1⟩
  have I2 : Inv X pins σ G { s1 with heap := s1.heap.push { cls := .type "dict_items", data := .fields #[.ref d] } } := I1.kept (t' := s1.toks) fun b ob z => Heap.get?_push_of_some _ z
  have fin : wpAny (model X.prog X.w) X.A (pyIter (.ref s1.heap.objs.size)) (PIE X pins σ (.Tuple elts kk tpos) R) X.xe { s1 with heap := s1.heap.push { cls := .type "dict_items", data := .fields #[.ref d] } } :=
    DT.iterI (d := d) (es := es) (ep := ep) ⟨_, Heap.get?_push_size _ rfl, rfl, rfl⟩ (raw.push _) (pi_one (tk := s1.toks) I2 _ (turn_itemsT _ dt sz) ⟨.none, .none, Heap.get?_push_size _ rfl⟩ q1)
  show wpAny _ _ (callWith cpos (.builtin "dict.items") [.ref d] [] []) _ X.xe s1
  exact method_meetsIn F.slot_dict_items F.entry_dict_items rfl (PySem.evalArgs_none ⟨rfl, raw.typeIs, F.args_dict_items_1 _, _, DT.meetsItems (es := es) (ep := ep) sm, raw, fin⟩)
end K1


set_option Elab.async false
set_option linter.all false
set_option maxRecDepth 100000
set_option maxHeartbeats 4000000
/-! A dict comprehension whose keys are tuples. -/
namespace K1
open PySem PySem.Spec PyProof.Rows L2
theorem put_dT {X : Cx} {pins : List (Addr × Obj)} {σ : L2.St} {H : Hp} {s : Shared} {E : Value → Shared → Prop} {D q : Addr} {kvs : List (List L2.Key × V)} {k : List L2.Key} {v : V} {u r : Value} {Q : Unit → Shared → Prop} (hu : X.A.units < cLine) (I : Inv X pins σ H s)
    (hD : H D = some (.dT kvs)) (hz : kvs.length < sizeLine) (hq : H q = some (.tup (k.map kV))) (ry : RelV (.ref q) u) (rv : RelV v r) (h : ∀ s', Inv X pins σ (upd H D (.dT (putK kvs k v))) s' → Q () s') : wpAny (model X.prog X.w) X.A (dictSet D u r) Q E s := by
  cases (show u = Value.ref q from ry)
  obtain ⟨z, hd, xs, rel, dd⟩ := dt_of I.hok hD
  have z2 : xs.length ≤ sizeLine := by rw [← Paired.length rel]; exact z
  have l2 : (putK kvs k v).length ≤ sizeLine := by have := length_putK kvs k v; omega
  refine wpAny_dictSet_heap (hsz := z2) (knd := tupleKind (mixKind X.prog X.w)) hu (key_of I.hok hq) dd fun h' dd' hs => h _ ?_
  obtain ⟨ob, es, ep, ho, g2, g3, g4, _, g5⟩ := dd'
  refine d_write I (by rw [hD]; exact True.intro) hs ⟨ob, ho⟩ ⟨l2, hd, _, (rel.put k hq rv).keeps fun c ys ec => ?_, ob, es, ep, ho, g2, g3, g4, g5⟩
  rw [upd_ne (ne_of ec hD (fun z => nomatch z))]
  exact ec
/-- what one turn asks: the new dict at D -/
def turnT (g : TG) (tt : TT) (tk tv : TE) (vs : List Nat) (σ : L2.St) (D : Addr) (Nx : Hp → Prop) (x : V) (G : Hp) : Prop :=
  g x (wipe σ vs) G fun σ2 G2 => wipe σ2 vs = wipe σ vs ∧ tt σ2 G2 fun b G3 => if b = true then tk σ2 G3 fun y G4 => tv σ2 G4 fun z G5 =>
    ∃ (kvs : List (List L2.Key × V)) (k : List L2.Key) (q : Addr), y = .ref q ∧ G5 q = some (.tup (k.map kV)) ∧ G5 D = some (.dT kvs) ∧ kvs.length < sizeLine ∧ Nx (upd G5 D (.dT (putK kvs k z))) else Nx G3
def tDcT (wi : TI) (g : TG) (tt : TT) (tk tv : TE) (vs : List Nat) : TE := fun σ H Q => wi σ H fun J G => ∀ D, G D = none → ∃ W : Nat → Nat → Hp → Prop, (∃ m, W 0 m (upd G D (.dT []))) ∧ ∀ i m G1, W i m G1 →
  (J.stop i G1 ∧ Q (.ref D) G1) ∨ (J.go i G1 ∧ ∃ Nx : Hp → Prop, (∀ G', Nx G' → ∃ m', m' < m ∧ W (i + 1) m' G') ∧ ∀ x G', J.yld i G1 x G' → turnT g tt tk tv vs σ D Nx x G')
theorem dcT_core {X : Cx} {pins : List (Addr × Obj)} {s : Shared} {σ : L2.St} {H : Hp} {Q : VK} {kx vx tg iter : Expr} {ifs : List Expr} {scope : Scope} {own : List (Str × Nat)} {pos pos2 : Pos} {wi : TI} {g : TG} {tt : TT} {tk tv : TE} {use : Option (Value → Sem Unit)} {Qf : Value → Shared → Prop}
    (hu : X.A.units < cLine) (calm : X.calm = true) (hN : X.N.Nodup) (I : Inv X pins σ H s) (hi : PI X tg iter wi) (ok : BlkOk X.N X.env.scope scope own)
    (hg : ∀ (s : Shared) (G : Hp) (C : Addr) (cl : List (Str × Addr)) (fp : List Addr), PG (X.blk s G scope (compEnvC scope cl C X.env) fp) tg g) (ht : ∀ (s : Shared) (G : Hp) (C : Addr) (cl : List (Str × Addr)) (fp : List Addr), PTs (X.blk s G scope (compEnvC scope cl C X.env) fp) ifs tt)
    (hk : ∀ (s : Shared) (G : Hp) (C : Addr) (cl : List (Str × Addr)) (fp : List Addr), PE (X.blk s G scope (compEnvC scope cl C X.env) fp) kx tk) (hv : ∀ (s : Shared) (G : Hp) (C : Addr) (cl : List (Str × Addr)) (fp : List Addr), PE (X.blk s G scope (compEnvC scope cl C X.env) fp) vx tv)
    (hs : ∀ x, foldedSetIterable iter X.env x = pure x) (h : tDcT wi g tt tk tv (own.map (·.2)) σ H Q)
    (fin0 : ∀ D C s' m G, Inv X pins σ G s' → Q (.ref D) G → s'.heap.Ns C m → FpOk X pins G C → compPost (model X.prog X.w) X.A X.xe use Qf (.ref D) C (.ok .next) s') :
    wpAny (model X.prog X.w) X.A (comprehension (.DictComp kx vx [⟨tg, iter, ifs, 0⟩] scope pos) scope X.env pos2 newDict false (eval iter X.env) use) Qf X.xe s := by
  have frees : ∀ y ∈ scope.names, y.2 = .free → ∃ c, X.env.cells.lookup y.1 = some c := fun y hy e => (ok.free y hy e).elim (fun k => I.ok.has _ (.inl k)) fun k => I.ok.has _ (.inr k)
  refine wpAny_comprehension_free (use := use) rfl hs (closure_ok frees) ok.kind (fun y hy e => by rw [ok.uniq y hy, e]) (thn (hi.run pins s σ H _ I h) fun xv s1 hx => thn hx fun itv s2 ⟨it, fp, tn, J, G2, e, I2, T, st2, f2, q⟩ => ?_)
  subst e
  refine wpAny_newObj_type (newEnv_comp ?_)
  generalize eD : s2.heap.objs.size = D
  have freeD : G2 D = none := I2.hok.fresh (Nat.le_of_eq eD)
  obtain ⟨W, ⟨m0, w0⟩, step⟩ := q D freeD
  generalize e3 : ({ s2 with heap := s2.heap.push { cls := .type "dict", data := .dict #[] } } : Shared) = s3
  have I3 : Inv X pins σ (upd G2 D (.dT [])) s3 := by
    rw [← e3]
    refine I2.laid (t' := s2.toks) (fun _ _ z => Heap.get?_push_of_some _ z) (Nat.le_of_eq eD) ?_
    rw [← eD]
    exact dt_empty s2.heap I2.big
  have heap3 : s3.heap = s2.heap.push { cls := .type "dict", data := .dict #[] } := by rw [← e3]
  have small : ∀ b ∈ fp, b < s2.heap.objs.size := fun b hb => let ⟨_, z, _⟩ := T.obj _ _ st2 b hb; Heap.lt_size z
  have f3 : ∀ b ∈ fp, FpOk X pins (upd G2 D (.dT [])) b ∧ b < s3.heap.objs.size := fun b hb => by
    have lt := small b hb
    refine ⟨⟨?_, (f2 b hb).2⟩, by rw [heap3, Heap.size_push]; exact Nat.lt_succ_of_lt lt⟩
    rw [upd_ne (by rw [← eD]; exact Nat.ne_of_lt lt)]; exact (f2 b hb).1
  have st3 : tn 0 s3.heap := T.keep _ _ _ st2 fun b _ o z => by rw [heap3]; exact Heap.get?_push_of_some _ z
  have I4 := block_start I3 ok hN f3
  have pg := hg s3 (upd G2 D (.dT [])) s3.heap.objs.size (cellsFrom (s3.heap.objs.size + 1) scope.names (cloFrom X.env.cells scope.names [])) fp
  have pt := ht s3 (upd G2 D (.dT [])) s3.heap.objs.size (cellsFrom (s3.heap.objs.size + 1) scope.names (cloFrom X.env.cells scope.names [])) fp
  have pk := hk s3 (upd G2 D (.dT [])) s3.heap.objs.size (cellsFrom (s3.heap.objs.size + 1) scope.names (cloFrom X.env.cells scope.names [])) fp
  have pv := hv s3 (upd G2 D (.dT [])) s3.heap.objs.size (cellsFrom (s3.heap.objs.size + 1) scope.names (cloFrom X.env.cells scope.names [])) fp
  show codeAny _ _ (.compStart (.DictComp kx vx [⟨tg, iter, ifs, 0⟩] scope pos) 0 (.ref it) (.ref D) (compEnvC scope (cellsFrom (s3.heap.objs.size + 1) scope.names (cloFrom X.env.cells scope.names [])) s3.heap.objs.size X.env)) (compPost (model X.prog X.w) X.A X.xe use Qf (.ref D) s3.heap.objs.size) { s3 with heap := pushCells (s3.heap.push { cls := .type "dict", data := .dict #[] }) scope.names }
  have none3 : ∀ b ∈ fp, (upd G2 D (.dT [])) b = none := fun b hb => (f3 b hb).1.1
  generalize eC : compEnvC scope (cellsFrom (s3.heap.objs.size + 1) scope.names (cloFrom X.env.cells scope.names [])) s3.heap.objs.size X.env = ce at I4 pg pt pk pv ⊢
  have loc : ce.locals = s3.heap.objs.size := by subst eC; rfl
  generalize eG : upd G2 D (.dT []) = G3 at I3 I4 pg pt pk pv w0 none3 f3
  generalize e4 : ({ s3 with heap := pushCells (s3.heap.push { cls := .type "dict", data := .dict #[] }) scope.names } : Shared) = s4 at I4 ⊢
  have st4 : tn 0 s4.heap := T.keep _ _ _ st3 fun b _ o z => by rw [← e4]; exact pushCells_keeps _ _ _ _ (Heap.get?_push_of_some _ z)
  have own_ : ∀ {σ' : L2.St} {G' : Hp} {s' : Shared}, Inv (X.blk s3 G3 scope ce fp) [] σ' G' s' → (∀ b ∈ fp, G' b = none) → ∀ b ∈ fp, FpOk (X.blk s3 G3 scope ce fp) [] G' b := fun {σ' G' s'} I' hn b hb =>
    ⟨hn b hb, (I'.ok.exf b hb).1, I'.ok.exfs b hb, .inl hb, fun x c z => (I'.ok.exf b hb).2 x c z, fun p hp => absurd (show p ∈ ([] : List (Addr × Obj)) ++ [] from hp) (by simp)⟩
  have loop : codeAny (model X.prog X.w) X.A (.compLoop (.DictComp kx vx [⟨tg, iter, ifs, 0⟩] scope pos) 0 (.ref it) (.ref D) ce) (compPost (model X.prog X.w) X.A X.xe use Qf (.ref D) s3.heap.objs.size) s4 := by
    refine compLoop_anyD (fun n s' => ∃ i G', Inv (X.blk s3 G3 scope ce fp) [] (wipe σ (own.map (·.2))) G' s' ∧ tn i s'.heap ∧ (∀ b ∈ fp, G' b = none) ∧ W i n G') ?_ m0 ⟨0, G3, I4, st4, none3, w0⟩
    rintro n s5 ⟨i, G5, I5, st5, n5, w5⟩
    rcases step i n G5 w5 with ⟨stop, qq⟩ | ⟨go, Nx, hNx, turn⟩
    · refine thnF (T.done (X.blk s3 G3 scope ce fp) rfl rfl rfl calm i [] s5 _ G5 (fun _ _ => False) I5 (own_ I5 n5) st5 stop) fun r s6 ⟨hr, I6⟩ => ?_
      subst hr
      have I7 : Inv X pins σ G5 s6 := I3.call' (ch := fp) I6.os I6.base I6.hok I6.bare fun b hb => ⟨(f3 b hb).1.2.2.2.1, (f3 b hb).1.2.1, (f3 b hb).1.2.2.2.2.1, (f3 b hb).1.2.2.2.2.2⟩
      have nC : G5 s3.heap.objs.size = none := by have z : G5 ce.locals = none := I6.free; rw [loc] at z; exact z
      obtain ⟨m, hn, _⟩ := I6.loc
      have hn : s6.heap.Ns ce.locals m := hn
      rw [loc] at hn
      exact fin0 D s3.heap.objs.size s6 m G5 I7 qq hn (I3.fpOk (Nat.le_refl _) nC)
    · refine thnF (T.item (X.blk s3 G3 scope ce fp) rfl rfl rfl calm i [] s5 _ G5 (fun _ _ => False) I5 (own_ I5 n5) st5 go) fun r s6 ⟨u, hr, h6⟩ => ?_
      subst hr
      refine thnF h6 fun _ s7 ⟨x, G7, I7, r7, y7, st7, n7⟩ => ?_
      have J7 := I7.pinned (own_ I7 n7) (T.obj _ _ st7)
      refine thnF (pg.run _ s7 _ G7 x u _ J7 r7 (turn x G7 y7)) fun _ s8 ⟨σ8, G8, I8, hw8, q8⟩ => ?_
      refine thnF (pt.run _ s8 σ8 G8 _ I8 q8) fun b s9 ⟨G9, I9, q9⟩ => ?_
      have fin : ∀ {s' : Shared} {G' : Hp}, Inv (X.blk s3 G3 scope ce fp) ([] ++ pinsAt fp s7.heap) σ8 G' s' → Nx G' → ∃ m, m < n ∧ ∃ i G', Inv (X.blk s3 G3 scope ce fp) [] (wipe σ (own.map (·.2))) G' s' ∧ tn i s'.heap ∧ (∀ b ∈ fp, G' b = none) ∧ W i m G' := fun {s' G'} I' nx => by
        obtain ⟨m', less, w'⟩ := hNx G' nx
        have still : ∀ b ∈ fp, ∀ o, s7.heap.get? b = some o → s'.heap.get? b = some o ∧ G' b = none := fun b hb o z => let y := I'.pin (b, o) (List.mem_append_right _ (List.mem_append_right _ (mem_pinsAt hb z))); ⟨y.1, y.2.1⟩
        refine ⟨m', less, i + 1, G', (I'.unpinned (pins := [])).weak (by rw [← hw8, wipe_length]) (fun j v z => by rw [← hw8] at z; exact (wipe_some z).1), T.keep _ _ _ st7 fun b hb o z => (still b hb o z).1, fun b hb => ?_, w'⟩
        obtain ⟨o, z, _⟩ := T.obj _ _ st7 b hb
        exact (still b hb o z).2
      cases b with
      | false =>
        simp only [Bool.false_eq_true, if_false] at q9 ⊢
        exact fin I9 q9
      | true =>
        simp only [if_true] at q9 ⊢
        refine thnF (pk.run _ s9 σ8 G9 _ I9 q9) fun z s10 ⟨yk, G10, I10, r10, q10⟩ => thnF (pv.run _ s10 σ8 G10 _ I10 q10) fun z2 s11 ⟨yv, G11, I11, r11, kvs, k, kq, ek, hkq, hD11, hz11, nx⟩ => ?_
        subst ek
        exact put_dT (X := X.blk s3 G3 scope ce fp) hu I11 hD11 hz11 hkq r10 r11 fun s12 I12 => fin I12 nx
  exact codeAny_compStart_dict loop (T.self X.A 0 _ _ _ st4 loop)
/-- as a value -/
theorem pe_dcT {X : Cx} {kx vx tg iter : Expr} {ifs : List Expr} {scope : Scope} {own : List (Str × Nat)} {pos : Pos} {wi : TI} {g : TG} {tt : TT} {tk tv : TE} (hu : X.A.units < cLine) (calm : X.calm = true) (hN : X.N.Nodup) (hi : PI X tg iter wi) (ok : BlkOk X.N X.env.scope scope own)
    (hg : ∀ (s : Shared) (G : Hp) (C : Addr) (cl : List (Str × Addr)) (fp : List Addr), PG (X.blk s G scope (compEnvC scope cl C X.env) fp) tg g) (ht : ∀ (s : Shared) (G : Hp) (C : Addr) (cl : List (Str × Addr)) (fp : List Addr), PTs (X.blk s G scope (compEnvC scope cl C X.env) fp) ifs tt)
    (hk : ∀ (s : Shared) (G : Hp) (C : Addr) (cl : List (Str × Addr)) (fp : List Addr), PE (X.blk s G scope (compEnvC scope cl C X.env) fp) kx tk) (hv : ∀ (s : Shared) (G : Hp) (C : Addr) (cl : List (Str × Addr)) (fp : List Addr), PE (X.blk s G scope (compEnvC scope cl C X.env) fp) vx tv)
    (hs : ∀ x, foldedSetIterable iter X.env x = pure x := by intro _; rfl) : PE X (.DictComp kx vx [⟨tg, iter, ifs, 0⟩] scope pos) (tDcT wi g tt tk tv (own.map (·.2))) := by
  refine ⟨fun pins s σ H Q I h => ?_⟩
  rw [arm_eval_DictComp]
  refine dcT_core hu calm hN I hi ok hg ht hk hv hs h fun D C s' m G I' q hn ⟨k0, k1, k2, k3, k4, k5⟩ => ⟨m, hn, fun h'' sb => ?_⟩
  exact ⟨.ref D, G, I'.turned (t' := s'.toks) (fun b o hb z => (sb.2 b hb).trans z) k0 k1 k3 k4 k5, rfl, q⟩
/-- name = {..} on one line, the name a local -/
theorem ps_setDcT {X : Cx} {i : Nat} {y : Str} {py : Pos} {kx vx tg iter : Expr} {ifs : List Expr} {scope : Scope} {own : List (Str × Nat)} {pos spos : Pos} {wi : TI} {g : TG} {tt : TT} {tk tv : TE} (hu : X.A.units < cLine) (calm : X.calm = true) (hN : X.N.Nodup) (hy : X.N[i]? = some y) (hyl : X.env.scope.names.lookup y = some .local)
    (hsw : swapsWith (.DictComp kx vx [⟨tg, iter, ifs, 0⟩] scope pos) (some (.Name y py)) spos.line X.env = pure true) (hi : PI X tg iter wi) (ok : BlkOk X.N X.env.scope scope own)
    (hg : ∀ (s : Shared) (G : Hp) (C : Addr) (cl : List (Str × Addr)) (fp : List Addr), PG (X.blk s G scope (compEnvC scope cl C X.env) fp) tg g) (ht : ∀ (s : Shared) (G : Hp) (C : Addr) (cl : List (Str × Addr)) (fp : List Addr), PTs (X.blk s G scope (compEnvC scope cl C X.env) fp) ifs tt)
    (hk : ∀ (s : Shared) (G : Hp) (C : Addr) (cl : List (Str × Addr)) (fp : List Addr), PE (X.blk s G scope (compEnvC scope cl C X.env) fp) kx tk) (hv : ∀ (s : Shared) (G : Hp) (C : Addr) (cl : List (Str × Addr)) (fp : List Addr), PE (X.blk s G scope (compEnvC scope cl C X.env) fp) vx tv)
    (hs : ∀ x, foldedSetIterable iter X.env x = pure x := by intro _; rfl) : PS X (.Assign [.Name y py] (.DictComp kx vx [⟨tg, iter, ifs, 0⟩] scope pos) spos) (tAsg (tDcT wi g tt tk tv (own.map (·.2))) (gName i)) := by
  refine ⟨fun pins s σ H D I h => ?_⟩
  rw [exec_Assign_Name_used _ _ _ _ hsw]
  refine wpAny_bind (wpAny_standAt (wpAny_bind ?_)); show wpAny _ X.A (do let _ ← comprehension (.DictComp kx vx [⟨tg, iter, ifs, 0⟩] scope pos) scope X.env (firstIterPos [⟨tg, iter, ifs, 0⟩] pos) newDict false (eval iter X.env) (some (assign (.Name y py) X.env))) _ _ s
  have h : tDcT wi g tt tk tv (own.map (·.2)) σ H (fun x G => gName i x σ G D.nx) := h
  refine wpAny_bind (thn (dcT_core (Qf := fun _ s' => SP X pins D .next s') hu calm hN I hi ok hg ht hk hv hs h fun L C s' m G I' q hn ⟨k0, k1, k2, k3, k4, k5⟩ => ?_) fun _ s' z => wpAny_pure (wpAny_pure z))
  show wpAny _ _ (assign (.Name y py) X.env (.ref L)) _ _ _; refine wpAny_assign_Name (store_ok2 (v := V.ref L) I' hN hy (.inl hyl) rfl (fun s2 I2 ⟨a, sb, ha⟩ => ?_) (.inr hyl))
  have apart : C ≠ a := ha.elim (fun z => by rw [z]; exact k1) fun z e => k4 y a z e.symm
  exact ⟨m, hn.sameBut sb apart, fun h3 sb3 => ⟨_, G, I2.turned (t' := s2.toks) (fun b o hb z => (sb3.2 b hb).trans z) k0 k1 k3 k4 k5, q⟩⟩
theorem sw_trueD {kx vx : Expr} {gs : List Comprehension} {scope : Scope} {pos py : Pos} {y : Str} {l : Nat} {env : Env} (hk : env.scope.kind = .function) (hy : env.scope.names.lookup y = some .local) (hl : (py.line == pos.line) = true)
    (ha : (scope.names.any fun (n, k) => n == y && (k == .local || k == .cell)) = false) : swapsWith (.DictComp kx vx gs scope pos) (some (.Name y py)) l env = pure true := by
  have e1 : env.kindOf y = some .local := hy
  have e2 : env.blockKind = .function := by unfold Env.blockKind; rw [hk]; rfl
  unfold swapsWith
  simp only [e2, e1, ha, Expr.pos, hl]; rfl
end K1


set_option Elab.async false
set_option linter.all false
set_option maxRecDepth 100000
set_option maxHeartbeats 4000000
/-! Rules: a walk over a range that is a value; min with a default. -/
namespace K1
open PySem PySem.Spec PyProof.Rows L2 RZ
section
variable {X : Cx} {tg e : Expr} {te : TE}
def iRngV (te : TE) : TI := fun σ H R => te σ H fun x H1 => ∃ (a : Addr) (lo hi : Int), x = .ref a ∧ H1 a = some (.rng lo hi) ∧ (-(2 ^ 62) ≤ lo ∧ lo < 2 ^ 62 ∧ -(2 ^ 62) ≤ hi ∧ hi < 2 ^ 62) ∧ R (Itr lo (hi - lo).toNat) H1
theorem pi_rngV (he : PE X e te) : PI X tg e (iRngV te) := by
  refine ⟨fun pins s σ H R I h => ?_⟩
  refine thn (he.run pins s σ H _ I h) fun v s1 ⟨x, H1, I1, r1, q1⟩ => ?_
  obtain ⟨a, lo, hi, e, ha, ⟨h1, h2, h3, h4⟩, q⟩ := q1
  subst e
  obtain rfl : v = Value.ref a := r1
  obtain ⟨t, u, w, ho⟩ := I1.hok a _ ha
  refine wpAny_pyIter_range (show IsRange s1.heap a lo hi 1 t u w from ho) (small_one h1 h2 h3 h4) ?_
  refine pi_one (tk := s1.toks) I1 _ (turn_range _ lo (hi - lo).toNat) ?_ q
  have e1 : lo + ((0 : Nat) : Int) * 1 = lo := by simp
  have e2 : (((hi - lo).toNat : Nat) : Int) - ((0 : Nat) : Int) = Builtin.Range.rangeSize lo hi 1 := by rw [rangeSize_one]; split <;> omega
  show IsRangeIter _ _ (lo + ((0 : Nat) : Int) * 1) ((((hi - lo).toNat : Nat) : Int) - ((0 : Nat) : Int)) 1
  rw [e1, e2]
  exact Heap.get?_push_size _ rfl
theorem reads_ints {h : Heap} : ∀ {ns : List Int} {us : List Value}, Vals (ns.map V.int) us → ReadsAll h us (ns.map PyData.int) []
  | [], _, .nil => .nil
  | n :: ns, _, .cons r rs => by
    obtain ⟨t, rfl⟩ := r
    exact .cons (.int n t) (reads_ints rs)
def rMinD (K : PySem.W.Frag) : List V → List V → Hp → VK → Prop := fun xs zs H Q => ∃ (a : Addr) (ns : List Int) (d : V), xs = [.ref a] ∧ zs = [d] ∧ SqL K H a (ns.map V.int) ∧ (ns = [] → Q d H) ∧ ∀ m, m ∈ ns → (∀ y ∈ ns, m ≤ y) → Q (.int m) H
theorem foldl_min : ∀ (ns : List Int) (n : Int), ns.foldl min n ∈ n :: ns ∧ ∀ y ∈ n :: ns, ns.foldl min n ≤ y
  | [], n => ⟨List.mem_cons_self, fun y hy => by rw [List.mem_singleton.mp hy]; exact Int.le_refl _⟩
  | k :: ns, n => by
    obtain ⟨h1, h2⟩ := foldl_min ns (min n k)
    show ns.foldl min (min n k) ∈ _ ∧ ∀ y ∈ _, ns.foldl min (min n k) ≤ y
    have h3 := h2 _ List.mem_cons_self
    refine ⟨?_, fun y hy => ?_⟩
    · rcases List.mem_cons.mp h1 with e | e
      · rw [e]
        rcases (by omega : min n k = n ∨ min n k = k) with z | z
        · rw [z]; exact List.mem_cons_self
        · rw [z]; exact List.mem_cons_of_mem _ List.mem_cons_self
      · exact List.mem_cons_of_mem _ (List.mem_cons_of_mem _ e)
    · rcases List.mem_cons.mp hy with rfl | hy
      · omega
      · rcases List.mem_cons.mp hy with rfl | hy
        · omega
        · exact h2 y (List.mem_cons_of_mem _ hy)
theorem cr_minD {K : PySem.W.Frag} (hK : X.K = K) (hc : X.calm = true) (hu : X.A.units + 64 < cLine) : CallRK X (.builtin "min") [(Str.ofString "default")] (rMinD K) := by
  subst hK
  intro pins s σ H xs zs us ws Q I r rz h
  obtain ⟨a, ns, d, rfl, rfl, hs, h0, h1⟩ := h
  obtain ⟨its, rv, hl, _⟩ := I.list hs
  rw [Vals.ref1 r]
  obtain ⟨u, rfl, ru⟩ := vals1 rz
  have hd : PyData.depthAll (ns.map PyData.int) = 0 := depth_ints ns
  have ha : PySem.W.AlikeAll (ns.map PyData.int) := PySem.W.alikeAll_datum (α := Int) ns
  refine PySem.W.min_list_default (xs := ns.map PyData.int) (as := []) (I.ok.hd hc) hl.isList (reads_ints rv) ha (by rw [hd]; omega) (fun e h' tk hk => ?_) fun y ys i v h' tk bs e hi hr hk => ?_
  · exact ⟨d, H, I.kept hk, ru, h0 (List.map_eq_nil_iff.mp e)⟩
  · cases ns with
    | nil => cases e
    | cons n ns =>
      obtain ⟨e1, e2⟩ := List.cons.inj e
      subst e1 e2
      rw [PySem.W.minD_ints] at hr
      cases hr with
      | int _ t => exact ⟨.int _, H, I.kept hk, ⟨_, rfl⟩, h1 _ (foldl_min ns n).1 (foldl_min ns n).2⟩
end
end K1


set_option Elab.async false
set_option linter.all false
set_option maxRecDepth 100000
set_option maxHeartbeats 1000000
/-! Least probes, as mathematics. -/
namespace K1
abbrev OI := Option Int
def Le (v : OI) (p : Int) : Prop := ∃ x, v = some x ∧ x ≤ p
theorem Le.some {x p : Int} : Le (.some x) p ↔ x ≤ p := ⟨fun ⟨y, e, h⟩ => by cases e; exact h, fun h => ⟨x, rfl, h⟩⟩
theorem Le.none {p : Int} : ¬ Le .none p := fun ⟨_, e, _⟩ => by cases e
theorem le_ext {v w : OI} (h : ∀ p, Le v p ↔ Le w p) : v = w := by
  cases v with
  | none =>
    cases w with
    | none => rfl
    | some y => exact absurd ((h y).mpr (Le.some.mpr (Int.le_refl y))) Le.none
  | some x =>
    cases w with
    | none => exact absurd ((h x).mp (Le.some.mpr (Int.le_refl x))) Le.none
    | some y =>
      have h1 := Le.some.mp ((h x).mp (Le.some.mpr (Int.le_refl x)))
      have h2 := Le.some.mp ((h y).mpr (Le.some.mpr (Int.le_refl y)))
      rw [show x = y by omega]
def omin : List Int → OI
  | [] => none
  | a :: l => match omin l with
    | none => some a
    | some b => some (if b < a then b else a)
theorem le_omin {p : Int} : ∀ l : List Int, Le (omin l) p ↔ ∃ y ∈ l, y ≤ p
  | [] => ⟨fun h => absurd h Le.none, fun ⟨y, h, _⟩ => by cases h⟩
  | a :: l => by
    have ih := le_omin (p := p) l
    unfold omin
    cases e : omin l with
    | none =>
      rw [e] at ih
      show Le (some a) p ↔ _
      rw [Le.some]
      constructor
      · intro h; exact ⟨a, List.mem_cons_self, h⟩
      · rintro ⟨y, hy, h⟩
        rcases List.mem_cons.mp hy with rfl | hy
        · exact h
        · exact absurd (ih.mpr ⟨y, hy, h⟩) Le.none
    | some b =>
      rw [e] at ih
      show Le (some (if b < a then b else a)) p ↔ _
      rw [Le.some]
      rw [Le.some] at ih
      constructor
      · intro h
        by_cases c : b < a
        · rw [if_pos c] at h
          obtain ⟨y, hy, h⟩ := ih.mp h
          exact ⟨y, List.mem_cons_of_mem _ hy, h⟩
        · rw [if_neg c] at h; exact ⟨a, List.mem_cons_self, h⟩
      · rintro ⟨y, hy, h⟩
        rcases List.mem_cons.mp hy with rfl | hy
        · split <;> omega
        · have := ih.mpr ⟨y, hy, h⟩
          split <;> omega
theorem omin_of {l : List Int} {m : Int} (h1 : m ∈ l) (h2 : ∀ y ∈ l, m ≤ y) : omin l = some m := le_ext fun p => by
  rw [le_omin, Le.some]
  exact ⟨fun ⟨y, hy, h⟩ => Int.le_trans (h2 y hy) h, fun h => ⟨m, h1, h⟩⟩
/-- the numbers from lo, n of them -/
def rgI (lo : Int) (n : Nat) : List Int := (List.range n).map fun i : Nat => lo + (i : Int)
theorem mem_rgI {lo x : Int} {n : Nat} : x ∈ rgI lo n ↔ lo ≤ x ∧ x < lo + n := by
  unfold rgI
  rw [List.mem_map]
  constructor
  · rintro ⟨i, hi, rfl⟩
    have := List.mem_range.mp hi
    omega
  · rintro ⟨h1, h2⟩
    exact ⟨(x - lo).toNat, List.mem_range.mpr (by omega), by omega⟩
theorem rgI_len (lo : Int) (n : Nat) : (rgI lo n).length = n := by unfold rgI; rw [List.length_map, List.length_range]
def wrun (f : Int → Int → OI) (m t c : Int) : List Int → Int → OI
  | [], w => some (w + 1)
  | k :: ks, w => match f c k, f (m - c) (t - k) with
    | some a, some b => wrun f m t c ks (if a + b > w then a + b else w)
    | _, _ => none
def Both (f : Int → Int → OI) (m t c k p : Int) : Prop := ∃ a b, f c k = some a ∧ f (m - c) (t - k) = some b ∧ a + b + 1 ≤ p
theorem le_wrun {f : Int → Int → OI} {m t c p : Int} : ∀ (ks : List Int) (w : Int), Le (wrun f m t c ks w) p ↔ w + 1 ≤ p ∧ ∀ k ∈ ks, Both f m t c k p
  | [], w => by
    show Le (some (w + 1)) p ↔ _
    rw [Le.some]
    exact ⟨fun h => ⟨h, fun k hk => by cases hk⟩, fun h => h.1⟩
  | k :: ks, w => by
    unfold wrun
    have no : (∀ a b, ¬ (f c k = some a ∧ f (m - c) (t - k) = some b)) → ¬ (w + 1 ≤ p ∧ ∀ k' ∈ k :: ks, Both f m t c k' p) := fun h z => by
      obtain ⟨a, b, e1, e2, _⟩ := z.2 k List.mem_cons_self
      exact h a b ⟨e1, e2⟩
    cases e1 : f c k with
    | none => exact ⟨fun h => absurd h Le.none, fun h => absurd h (no fun a b z => by rw [e1] at z; cases z.1)⟩
    | some a =>
      cases e2 : f (m - c) (t - k) with
      | none => exact ⟨fun h => absurd h Le.none, fun h => absurd h (no fun a b z => by rw [e2] at z; cases z.2)⟩
      | some b =>
        show Le (wrun f m t c ks (if a + b > w then a + b else w)) p ↔ _
        rw [le_wrun ks]
        constructor
        · rintro ⟨h1, h2⟩
          have h3 : w + 1 ≤ p ∧ a + b + 1 ≤ p := by split at h1 <;> omega
          refine ⟨h3.1, fun k' hk => ?_⟩
          rcases List.mem_cons.mp hk with rfl | hk
          · exact ⟨a, b, e1, e2, h3.2⟩
          · exact h2 k' hk
        · rintro ⟨h1, h2⟩
          obtain ⟨a', b', f1, f2, h3⟩ := h2 k List.mem_cons_self
          rw [e1] at f1; rw [e2] at f2; cases f1; cases f2
          exact ⟨by split <;> omega, fun k' hk => h2 k' (List.mem_cons_of_mem _ hk)⟩
def lo_ (m t c : Int) : Int := if t - (m - c) > 0 then t - (m - c) else 0
def hi_ (t c : Int) : Int := if t < c then t else c
def ks (m t c : Int) : List Int := rgI (lo_ m t c) (hi_ t c + 1 - lo_ m t c).toNat
def Adm (m t c k : Int) : Prop := 0 ≤ k ∧ k ≤ c ∧ 0 ≤ t - k ∧ t - k ≤ m - c
theorem mem_ks {m t c k : Int} : k ∈ ks m t c ↔ Adm m t c k := by
  unfold ks lo_ hi_ Adm
  rw [mem_rgI]
  split <;> split <;> omega
def wc (f : Int → Int → OI) (m t c : Int) : OI := wrun f m t c (ks m t c) 0
def cuts (m : Int) : List Int := rgI 1 (m / 2).toNat
def clr (m t : Int) : Prop := t = 0 ∨ t = m
instance (m t : Int) : Decidable (clr m t) := by unfold clr; infer_instance
def stp (f : Int → Int → OI) (m t : Int) : OI := if clr m t then some 0 else omin ((cuts m).filterMap (wc f m t))
def lp : Nat → Int → Int → OI
  | 0, m, t => if clr m t then some 0 else none
  | r + 1, m, t => stp (lp r) m t
def Sp1 (f : Int → Int → OI) (m t c p : Int) : Prop := 1 ≤ p ∧ ∀ k, Adm m t c k → Both f m t c k p
theorem lp_clr {r : Nat} {m t : Int} (h : clr m t) : lp r m t = some 0 := by
  cases r with
  | zero => exact if_pos h
  | succ r => exact if_pos h
theorem lp_zero {m t : Int} (h : ¬ clr m t) : lp 0 m t = none := if_neg h
theorem le_wc {f : Int → Int → OI} {m t c p : Int} : Le (wc f m t c) p ↔ Sp1 f m t c p := by
  unfold wc Sp1
  rw [le_wrun]
  exact ⟨fun h => ⟨by omega, fun k hk => h.2 k (mem_ks.mpr hk)⟩, fun h => ⟨by omega, fun k hk => h.2 k (mem_ks.mp hk)⟩⟩
theorem le_filterMap {f : Int → OI} {p : Int} {l : List Int} : (∃ y ∈ l.filterMap f, y ≤ p) ↔ ∃ c ∈ l, Le (f c) p := by
  constructor
  · rintro ⟨y, hy, h⟩
    obtain ⟨c, hc, e⟩ := List.mem_filterMap.mp hy
    exact ⟨c, hc, y, e, h⟩
  · rintro ⟨c, hc, y, e, h⟩
    exact ⟨y, List.mem_filterMap.mpr ⟨c, hc, e⟩, h⟩
theorem le_lp {r : Nat} {m t p : Int} (hm : 0 ≤ m) (h : ¬ clr m t) : Le (lp (r + 1) m t) p ↔ ∃ c, 1 ≤ c ∧ 2 * c ≤ m ∧ Sp1 (lp r) m t c p := by
  show Le (stp (lp r) m t) p ↔ _
  unfold stp
  rw [if_neg h, le_omin, le_filterMap]
  constructor
  · rintro ⟨c, hc, z⟩
    have := mem_rgI.mp hc
    exact ⟨c, by omega, by omega, le_wc.mp z⟩
  · rintro ⟨c, h1, h2, z⟩
    exact ⟨c, mem_rgI.mpr (by omega), le_wc.mpr z⟩
theorem sp_flip {f : Int → Int → OI} {m t c p : Int} (h : Sp1 f m t c p) : Sp1 f m t (m - c) p := by
  refine ⟨h.1, fun k hk => ?_⟩
  unfold Adm at hk
  obtain ⟨a, b, e1, e2, h3⟩ := h.2 (t - k) (by unfold Adm; omega)
  refine ⟨b, a, ?_, ?_, by omega⟩
  · rw [← e2]; congr 1; omega
  · rw [← e1]; congr 1; omega
/-- any cut -/
theorem le_lp' {r : Nat} {m t p : Int} (hm : 0 ≤ m) (h : ¬ clr m t) : Le (lp (r + 1) m t) p ↔ ∃ c, 1 ≤ c ∧ c < m ∧ Sp1 (lp r) m t c p := by
  rw [le_lp hm h]
  constructor
  · rintro ⟨c, h1, h2, z⟩; exact ⟨c, h1, by omega, z⟩
  · rintro ⟨c, h1, h2, z⟩
    by_cases k : 2 * c ≤ m
    · exact ⟨c, h1, k, z⟩
    · exact ⟨m - c, by omega, by omega, sp_flip z⟩
theorem Both.congr {f g : Int → Int → OI} {m t c k p : Int} (h1 : f c k = g c k) (h2 : f (m - c) (t - k) = g (m - c) (t - k)) (h : Both f m t c k p) : Both g m t c k p := by
  obtain ⟨a, b, e1, e2, z⟩ := h
  exact ⟨a, b, h1 ▸ e1, h2 ▸ e2, z⟩
theorem lp_sym : ∀ (r : Nat) (m t : Int), 0 ≤ t → t ≤ m → lp r m (m - t) = lp r m t
  | 0, m, t, h0, h1 => by
    by_cases h : clr m t
    · rw [lp_clr h, lp_clr (by unfold clr at h ⊢; omega)]
    · rw [lp_zero h, lp_zero (by unfold clr at h ⊢; omega)]
  | r + 1, m, t, h0, h1 => by
    by_cases h : clr m t
    · rw [lp_clr h, lp_clr (by unfold clr at h ⊢; omega)]
    · have h' : ¬ clr m (m - t) := by unfold clr at h ⊢; omega
      have key : ∀ u, 0 ≤ u → u ≤ m → ∀ c p, 1 ≤ c → c < m → Sp1 (lp r) m u c p → Sp1 (lp r) m (m - u) c p := fun u hu0 hu1 c p c1 c2 z => ⟨z.1, fun k hk => by
        unfold Adm at hk
        obtain ⟨a, b, e1, e2, w⟩ := z.2 (c - k) (by unfold Adm; omega)
        refine ⟨a, b, ?_, ?_, w⟩
        · rw [← e1]; exact (lp_sym r c k (by omega) (by omega)).symm
        · rw [← e2, show u - (c - k) = (m - c) - (m - u - k) by omega]; exact (lp_sym r (m - c) (m - u - k) (by omega) (by omega)).symm⟩
      refine le_ext fun p => ?_
      rw [le_lp' (by omega) h, le_lp' (by omega) h']
      constructor
      · rintro ⟨c, c1, c2, z⟩
        have := key (m - t) (by omega) (by omega) c p c1 c2 z
        rw [show m - (m - t) = t by omega] at this
        exact ⟨c, c1, c2, this⟩
      · rintro ⟨c, c1, c2, z⟩
        exact ⟨c, c1, c2, key t h0 h1 c p c1 c2 z⟩
/-- more rounds than that change nothing -/
theorem lp_clip : ∀ (r s : Nat) (m t : Int), 1 ≤ m → m - 1 ≤ r → m - 1 ≤ s → 0 ≤ t → t ≤ m → lp r m t = lp s m t
  | 0, s, m, t, h, hr, hs, h0, h1 => by
    have c : clr m t := by unfold clr; omega
    rw [lp_clr c, lp_clr c]
  | r + 1, 0, m, t, h, hr, hs, h0, h1 => by
    have c : clr m t := by unfold clr; omega
    rw [lp_clr c, lp_clr c]
  | r + 1, s + 1, m, t, h, hr, hs, h0, h1 => by
    by_cases c : clr m t
    · rw [lp_clr c, lp_clr c]
    refine le_ext fun p => ?_
    have key : ∀ r s : Nat, (∀ (m t : Int), 1 ≤ m → m - 1 ≤ r → m - 1 ≤ s → 0 ≤ t → t ≤ m → lp r m t = lp s m t) → m - 1 ≤ ((r + 1 : Nat) : Int) → m - 1 ≤ ((s + 1 : Nat) : Int) → ∀ c, 1 ≤ c → c < m → Sp1 (lp r) m t c p → Sp1 (lp s) m t c p := fun r s ih hr hs c c1 c2 z => ⟨z.1, fun k hk => by
      have hk' := hk
      unfold Adm at hk'
      exact (z.2 k hk).congr (ih c k c1 (by omega) (by omega) (by omega) (by omega)) (ih (m - c) (t - k) (by omega) (by omega) (by omega) (by omega) (by omega))⟩
    rw [le_lp' (by omega) c, le_lp' (by omega) c]
    constructor
    · rintro ⟨d, d1, d2, z⟩
      exact ⟨d, d1, d2, key r s (fun m t a1 a2 a3 a4 a5 => lp_clip r s m t a1 a2 a3 a4 a5) hr hs d d1 d2 z⟩
    · rintro ⟨d, d1, d2, z⟩
      exact ⟨d, d1, d2, key s r (fun m t a1 a2 a3 a4 a5 => (lp_clip r s m t a1 a3 a2 a4 a5).symm) hs hr d d1 d2 z⟩
theorem lp_mono : ∀ (r : Nat) (m t p : Int), 0 ≤ t → t ≤ m → Le (lp r m t) p → Le (lp (r + 1) m t) p
  | 0, m, t, p, h0, h1, h => by
    by_cases c : clr m t
    · rw [lp_clr c] at h ⊢; exact h
    · rw [lp_zero c] at h; exact absurd h Le.none
  | r + 1, m, t, p, h0, h1, h => by
    by_cases c : clr m t
    · rw [lp_clr c] at h ⊢; exact h
    · rw [le_lp' (by omega) c] at h ⊢
      obtain ⟨d, d1, d2, z⟩ := h
      refine ⟨d, d1, d2, z.1, fun k hk => ?_⟩
      obtain ⟨a, b, e1, e2, w⟩ := z.2 k hk
      unfold Adm at hk
      obtain ⟨a', e1', ha⟩ := lp_mono r d k a (by omega) (by omega) ⟨a, e1, Int.le_refl a⟩
      obtain ⟨b', e2', hb⟩ := lp_mono r (m - d) (t - k) b (by omega) (by omega) ⟨b, e2, Int.le_refl b⟩
      exact ⟨a', b', e1', e2', by omega⟩
theorem lp_mono' {m t p : Int} (h0 : 0 ≤ t) (h1 : t ≤ m) {r : Nat} : ∀ (d : Nat), Le (lp r m t) p → Le (lp (r + d) m t) p
  | 0, h => h
  | d + 1, h => lp_mono (r + d) m t p h0 h1 (lp_mono' h0 h1 d h)
theorem lp_mono2 {m t p : Int} (h0 : 0 ≤ t) (h1 : t ≤ m) {r s : Nat} (h : r ≤ s) (z : Le (lp r m t) p) : Le (lp s m t) p := by
  have := lp_mono' h0 h1 (s - r) z
  rw [show r + (s - r) = s by omega] at this
  exact this
/-- with so many rounds it goes -/
theorem lp_goes : ∀ (r : Nat) (m t : Int), m - 1 ≤ r → 0 ≤ t → t ≤ m → ∃ x, lp r m t = some x
  | 0, m, t, hr, h0, h1 => ⟨0, lp_clr (by unfold clr; omega)⟩
  | r + 1, m, t, hr, h0, h1 => by
    by_cases c : clr m t
    · exact ⟨0, lp_clr c⟩
    have c' := c
    unfold clr at c'
    have sub : ∀ k, Adm m t 1 k → ∃ b, lp r (m - 1) (t - k) = some b := fun k hk => by
      unfold Adm at hk
      exact lp_goes r (m - 1) (t - k) (by omega) (by omega) (by omega)
    have one : ∀ k, Adm m t 1 k → lp r 1 k = some 0 := fun k hk => by
      unfold Adm at hk
      exact lp_clr (by unfold clr; omega)
    obtain ⟨b0, e0⟩ := sub 0 (by unfold Adm; omega)
    obtain ⟨b1, e1⟩ := sub 1 (by unfold Adm; omega)
    have : Le (lp (r + 1) m t) ((b0.natAbs + b1.natAbs + 1 : Nat) : Int) := by
      rw [le_lp' (by omega) c]
      refine ⟨1, by omega, by omega, by omega, fun k hk => ?_⟩
      have hk' := hk
      unfold Adm at hk'
      have : k = 0 ∨ k = 1 := by omega
      rcases this with rfl | rfl
      · exact ⟨0, b0, one _ hk, e0, by omega⟩
      · exact ⟨0, b1, one _ hk, e1, by omega⟩
    obtain ⟨x, e, _⟩ := this
    exact ⟨x, e⟩
end K1


set_option Elab.async false
set_option linter.all false
set_option maxRecDepth 100000
set_option maxHeartbeats 1000000
/-! Least probes: the tables. -/
namespace K1
def pT : List (List Int) := [[0], [0, 0], [0, 1, 0], [0, 2, 2, 0], [0, 2, 3, 2, 0], [0, 3, 4, 4, 3, 0], [0, 3, 4, 5, 4, 3, 0], [0, 3, 5, 6, 6, 5, 3, 0], [0, 3, 5, 6, 7, 6, 5, 3, 0], [0, 4, 6, 7, 8, 8, 7, 6, 4, 0], [0, 4, 6, 7, 8, 9, 8, 7, 6, 4, 0], [0, 4, 6, 8, 9, 10, 10, 9, 8, 6, 4, 0], [0, 4, 6, 8, 9, 10, 11, 10, 9, 8, 6, 4, 0], [0, 4, 7, 9, 10, 11, 12, 12, 11, 10, 9, 7, 4, 0], [0, 4, 7, 9, 10, 11, 12, 13, 12, 11, 10, 9, 7, 4, 0]]
def pP (m t : Int) : Int := (pT.getD m.toNat []).getD t.toNat 0
def b1 (p : Prop) [Decidable p] : Int := if p then 1 else 0
def clI (m : Int) : Int := b1 (1 < m) + b1 (2 < m) + b1 (4 < m) + b1 (8 < m) + b1 (16 < m)
theorem b1_01 (p : Prop) [Decidable p] : 0 ≤ b1 p ∧ b1 p ≤ 1 := by unfold b1; split <;> decide
theorem clI_lo (m : Int) : 0 ≤ clI m ∧ clI m ≤ 5 := by
  unfold clI
  have h1 := b1_01 (1 < m)
  have h2 := b1_01 (2 < m)
  have h3 := b1_01 (4 < m)
  have h4 := b1_01 (8 < m)
  have h5 := b1_01 (16 < m)
  omega
theorem wrun_congr {f g : Int → Int → OI} {m t c : Int} : ∀ (l : List Int) (w : Int), (∀ k ∈ l, f c k = g c k ∧ f (m - c) (t - k) = g (m - c) (t - k)) → wrun f m t c l w = wrun g m t c l w
  | [], w, _ => rfl
  | k :: l, w, h => by
    obtain ⟨e1, e2⟩ := h k List.mem_cons_self
    unfold wrun
    rw [e1, e2]
    cases g c k with
    | none => rfl
    | some a =>
      cases g (m - c) (t - k) with
      | none => rfl
      | some b => exact wrun_congr l _ fun k hk => h k (List.mem_cons_of_mem _ hk)
theorem filterMap_congr' {f g : Int → OI} : ∀ l : List Int, (∀ c ∈ l, f c = g c) → l.filterMap f = l.filterMap g
  | [], _ => rfl
  | c :: l, h => by
    rw [List.filterMap_cons, List.filterMap_cons, h c List.mem_cons_self, filterMap_congr' l fun c hc => h c (List.mem_cons_of_mem _ hc)]
theorem step_congr {f g : Int → Int → OI} {m t : Int} (h : ∀ c, 1 ≤ c → c < m → ∀ k, Adm m t c k → f c k = g c k ∧ f (m - c) (t - k) = g (m - c) (t - k)) : stp f m t = stp g m t := by
  unfold stp
  by_cases c : clr m t
  · rw [if_pos c, if_pos c]
  · rw [if_neg c, if_neg c, filterMap_congr' _ fun c hc => ?_]
    have := mem_rgI.mp hc
    by_cases q : c < m
    · exact wrun_congr _ _ fun k hk => h c (by omega) q k (mem_ks.mp hk)
    · omega
def tb (r : Nat) (m t : Int) : OI := if clr m t then some 0 else if clI m ≤ r then some (pP m t) else none
def tb1 (r : Nat) (m t : Int) : OI := if clr m t then some 0 else if t = 1 then (if clI m ≤ r then some (clI m) else none) else none
set_option maxHeartbeats 0 in
theorem tb_step : ((List.range 15).all fun m => (List.range (m + 1)).all fun t => (List.range 5).all fun r => stp (tb r) (m : Nat) (t : Nat) == tb (r + 1) (m : Nat) (t : Nat)) = true := by decide +kernel
set_option maxHeartbeats 0 in
theorem tb1_step : ((List.range 25).all fun m => (List.range 2).all fun t => (List.range 6).all fun r => (m == 0) || stp (tb1 r) (m : Nat) (t : Nat) == tb1 (r + 1) (m : Nat) (t : Nat)) = true := by decide +kernel
theorem clI_four : ((List.range 15).all fun m => decide (clI (m : Nat) ≤ 4)) = true := by decide +kernel
theorem clI_four' {m : Int} (h0 : 0 ≤ m) (h1 : m ≤ 14) : clI m ≤ 4 := by
  have := List.all_eq_true.mp clI_four m.toNat (List.mem_range.mpr (by omega))
  rw [Int.toNat_of_nonneg h0] at this
  exact of_decide_eq_true this
theorem tb_stay {r : Nat} {m t : Int} (hr : 4 ≤ r) (h0 : 0 ≤ m) (h1 : m ≤ 14) : tb r m t = tb 4 m t := by
  have := clI_four' h0 h1
  unfold tb
  by_cases c : clr m t
  · rw [if_pos c, if_pos c]
  · rw [if_neg c, if_neg c, if_pos (by omega), if_pos (by omega)]
theorem tb_next {r : Nat} {m t : Int} (h0 : 0 ≤ t) (h1 : t ≤ m) (h2 : m ≤ 14) : stp (tb r) m t = tb (r + 1) m t := by
  have key : ∀ r < 5, stp (tb r) m t = tb (r + 1) m t := fun r hr => by
    have a := List.all_eq_true.mp (List.all_eq_true.mp (List.all_eq_true.mp tb_step m.toNat (List.mem_range.mpr (by omega))) t.toNat (List.mem_range.mpr (by omega))) r (List.mem_range.mpr hr)
    rw [Int.toNat_of_nonneg h0, Int.toNat_of_nonneg (by omega)] at a
    exact eq_of_beq a
  by_cases hr : r < 5
  · exact key r hr
  · rw [tb_stay (r := r + 1) (by omega) (by omega) h2, ← tb_stay (r := 5) (by omega) (by omega) h2, ← key 4 (by omega)]
    refine step_congr fun c c1 c2 k hk => ?_
    exact ⟨tb_stay (by omega) (by omega) (by omega), tb_stay (by omega) (by omega) (by omega)⟩
theorem lp_tb : ∀ (r : Nat) (m t : Int), 0 ≤ t → t ≤ m → m ≤ 14 → lp r m t = tb r m t
  | 0, m, t, h0, h1, h2 => by
    by_cases c : clr m t
    · rw [lp_clr c]; exact (if_pos c).symm
    · rw [lp_zero c]
      have q : ¬ clI m ≤ ((0 : Nat) : Int) := by
        unfold clr at c
        unfold clI
        have e : b1 (1 < m) = 1 := if_pos (by omega)
        have h2 := b1_01 (2 < m)
        have h3 := b1_01 (4 < m)
        have h4 := b1_01 (8 < m)
        have h5 := b1_01 (16 < m)
        omega
      unfold tb
      rw [if_neg c, if_neg q]
  | r + 1, m, t, h0, h1, h2 => by
    rw [← tb_next h0 h1 h2]
    show stp (lp r) m t = _
    refine step_congr fun c c1 c2 k hk => ?_
    unfold Adm at hk
    exact ⟨lp_tb r c k (by omega) (by omega) (by omega), lp_tb r (m - c) (t - k) (by omega) (by omega) (by omega)⟩
theorem tb1_stay {r : Nat} {m t : Int} (hr : 5 ≤ r) : tb1 r m t = tb1 5 m t := by
  have := (clI_lo m).2
  unfold tb1
  by_cases c : clr m t
  · rw [if_pos c, if_pos c]
  · rw [if_neg c, if_neg c, if_pos (show clI m ≤ (r : Int) by omega), if_pos (show clI m ≤ ((5 : Nat) : Int) by omega)]
theorem tb1_next {r : Nat} {m t : Int} (h0 : 0 ≤ t) (h1 : t ≤ 1) (h2 : 1 ≤ m) (h3 : m ≤ 24) : stp (tb1 r) m t = tb1 (r + 1) m t := by
  have key : ∀ r < 6, stp (tb1 r) m t = tb1 (r + 1) m t := fun r hr => by
    have a := List.all_eq_true.mp (List.all_eq_true.mp (List.all_eq_true.mp tb1_step m.toNat (List.mem_range.mpr (by omega))) t.toNat (List.mem_range.mpr (by omega))) r (List.mem_range.mpr hr)
    rw [Int.toNat_of_nonneg h0, Int.toNat_of_nonneg (by omega)] at a
    rcases Bool.or_eq_true _ _ |>.mp a with a | a
    · have := eq_of_beq a; omega
    · exact eq_of_beq a
  by_cases hr : r < 6
  · exact key r hr
  · rw [tb1_stay (r := r + 1) (by omega), ← tb1_stay (r := 6) (by omega), ← key 5 (by omega)]
    refine step_congr fun c c1 c2 k hk => ?_
    exact ⟨tb1_stay (by omega), tb1_stay (by omega)⟩
theorem lp_tb1 : ∀ (r : Nat) (m t : Int), 0 ≤ t → t ≤ 1 → 1 ≤ m → m ≤ 24 → lp r m t = tb1 r m t
  | 0, m, t, h0, h1, h2, h3 => by
    by_cases c : clr m t
    · rw [lp_clr c]; exact (if_pos c).symm
    · rw [lp_zero c]
      have q : ¬ clI m ≤ ((0 : Nat) : Int) := by
        unfold clr at c
        unfold clI
        have e : b1 (1 < m) = 1 := if_pos (by omega)
        have h2 := b1_01 (2 < m)
        have h3 := b1_01 (4 < m)
        have h4 := b1_01 (8 < m)
        have h5 := b1_01 (16 < m)
        omega
      unfold tb1
      rw [if_neg c, if_neg q, ite_self]
  | r + 1, m, t, h0, h1, h2, h3 => by
    rw [← tb1_next h0 h1 h2 h3]
    show stp (lp r) m t = _
    refine step_congr fun c c1 c2 k hk => ?_
    unfold Adm at hk
    exact ⟨lp_tb1 r c k (by omega) (by omega) (by omega) (by omega), lp_tb1 r (m - c) (t - k) (by omega) (by omega) (by omega) (by omega)⟩
/-- probes by the number of rounds: none below a, b from a on -/
structure Sing (m t a b : Int) : Prop where
  a0 : 0 ≤ a
  am : a ≤ m
  eq : ∀ r : Nat, lp r m t = if a ≤ r then some b else none
def aT (m t : Int) : Int := if clr m t then 0 else clI m
theorem P_clr : ((List.range 15).all fun m => decide (pP (m : Nat) 0 = 0) && decide (pP (m : Nat) (m : Nat) = 0)) = true := by decide +kernel
theorem P_clr' {m t : Int} (h0 : 0 ≤ m) (h1 : m ≤ 14) (c : clr m t) : pP m t = 0 := by
  have a := List.all_eq_true.mp P_clr m.toNat (List.mem_range.mpr (by omega))
  rw [Int.toNat_of_nonneg h0, Bool.and_eq_true] at a
  rcases c with rfl | rfl
  · exact of_decide_eq_true a.1
  · exact of_decide_eq_true a.2
theorem clI_le : ((List.range 25).all fun m => (m == 0) || decide (clI (m : Nat) ≤ (m : Nat) - 1)) = true := by decide +kernel
theorem clI_le' {m : Int} (h0 : 1 ≤ m) (h1 : m ≤ 24) : clI m ≤ m - 1 := by
  have a := List.all_eq_true.mp clI_le m.toNat (List.mem_range.mpr (by omega))
  rw [Int.toNat_of_nonneg (by omega)] at a
  rcases Bool.or_eq_true _ _ |>.mp a with a | a
  · have := eq_of_beq a; omega
  · exact of_decide_eq_true a
theorem sing_small {m t : Int} (h0 : 0 ≤ t) (h1 : t ≤ m) (h2 : m ≤ 14) : Sing m t (aT m t) (pP m t) := by
  by_cases c : clr m t
  · have e : aT m t = 0 := if_pos c
    rw [e]
    refine ⟨by omega, by omega, fun r => ?_⟩
    rw [lp_clr c, if_pos (by omega), P_clr' (by omega) h2 c]
  · have e : aT m t = clI m := if_neg c
    have c' := c
    unfold clr at c'
    rw [e]
    refine ⟨(clI_lo m).1, by have := clI_le' (m := m) (by omega) (by omega); omega, fun r => ?_⟩
    rw [lp_tb r m t h0 h1 h2]
    unfold tb
    rw [if_neg c]
theorem sing_one {m : Int} (h1 : 2 ≤ m) (h2 : m ≤ 24) : Sing m 1 (clI m) (clI m) := by
  refine ⟨(clI_lo m).1, by have := clI_le' (m := m) (by omega) (by omega); omega, fun r => ?_⟩
  rw [lp_tb1 r m 1 (by omega) (by omega) (by omega) h2]
  unfold tb1
  rw [if_neg (by unfold clr; omega), if_pos rfl]
theorem sing_last {m : Int} (h1 : 2 ≤ m) (h2 : m ≤ 24) : Sing m (m - 1) (clI m) (clI m) := by
  have s := sing_one h1 h2
  exact ⟨s.a0, s.am, fun r => by rw [lp_sym r m 1 (by omega) (by omega)]; exact s.eq r⟩
/-! the law's own table -/
def mx (a b : Int) : Int := if b > a then b else a
/-- what stands in enough behind the numbers l -/
def eno (m t c : Int) : List Int → Int × Int → Int × Int
  | [], e => e
  | k :: l, e => eno m t c l (if 0 ≤ t - k ∧ t - k ≤ m - c then (mx e.1 (mx (aT c k) (aT (m - c) (t - k))), mx e.2 (pP c k + pP (m - c) (t - k))) else e)
def prs (m t : Int) (l : List Int) : List (Int × Int) := l.map fun c => let e := eno m t c (rgI 0 (c + 1).toNat) (0, 0); (e.1 + 1, e.2 + 1)
set_option maxHeartbeats 0 in
theorem prs_best : ((List.range 15).all fun m => (List.range (m + 1)).all fun t => decide (clr (m : Nat) (t : Nat)) || (let l := prs (m : Nat) (t : Nat) (rgI 1 (m - 1)); l.contains (aT (m : Nat) (t : Nat), pP (m : Nat) (t : Nat)) && l.all fun e => decide (aT (m : Nat) (t : Nat) ≤ e.1) && decide (pP (m : Nat) (t : Nat) ≤ e.2))) = true := by decide +kernel
theorem prs_ok {m t : Int} (h0 : 0 ≤ t) (h1 : t ≤ m) (h2 : m ≤ 14) (c : ¬ clr m t) : (aT m t, pP m t) ∈ prs m t (rgI 1 (m - 1).toNat) ∧ ∀ e ∈ prs m t (rgI 1 (m - 1).toNat), aT m t ≤ e.1 ∧ pP m t ≤ e.2 := by
  have a := List.all_eq_true.mp (List.all_eq_true.mp prs_best m.toNat (List.mem_range.mpr (by omega))) t.toNat (List.mem_range.mpr (by omega))
  rw [Int.toNat_of_nonneg h0, Int.toNat_of_nonneg (by omega), decide_eq_false c, Bool.false_or, show m.toNat - 1 = (m - 1).toNat by omega] at a
  obtain ⟨a1, a2⟩ := (Bool.and_eq_true _ _).mp a
  refine ⟨by simpa using a1, fun e he => ?_⟩
  have := List.all_eq_true.mp a2 e he
  rw [Bool.and_eq_true] at this
  exact ⟨of_decide_eq_true this.1, of_decide_eq_true this.2⟩
/-! stairs -/
def At2 (l : List (Int × Int)) (r p : Int) : Prop := ∃ e ∈ l, e.1 ≤ r ∧ e.2 ≤ p
def Good (l : List (Int × Int)) : Prop := l.Pairwise fun a b => a.1 < b.1 ∧ b.2 < a.2
theorem good_one {l : List (Int × Int)} {a b : Int} (h : Good l) (h1 : (a, b) ∈ l) (h2 : ∀ e ∈ l, a ≤ e.1 ∧ b ≤ e.2) : l = [(a, b)] := by
  match l, h with
  | [x], _ => rw [List.mem_singleton] at h1; rw [h1]
  | x :: y :: r, h =>
    exfalso
    have g := List.pairwise_cons.mp h
    rcases List.mem_cons.mp h1 with e | e
    · have := g.1 y List.mem_cons_self
      have := h2 y (List.mem_cons_of_mem _ List.mem_cons_self)
      rw [← e] at *
      omega
    · have := g.1 _ e
      have := h2 x List.mem_cons_self
      omega
theorem good_at {l : List (Int × Int)} {a b : Int} (h : Good l) (q : ∀ r p, At2 l r p ↔ a ≤ r ∧ b ≤ p) : l = [(a, b)] := by
  have low : ∀ e ∈ l, a ≤ e.1 ∧ b ≤ e.2 := fun e he => (q e.1 e.2).mp ⟨e, he, Int.le_refl _, Int.le_refl _⟩
  obtain ⟨e, he, e1, e2⟩ := (q a b).mpr ⟨Int.le_refl _, Int.le_refl _⟩
  have := low e he
  have ee : e = (a, b) := Prod.ext (by show e.1 = a; omega) (by show e.2 = b; omega)
  exact good_one h (ee ▸ he) low
/-- the walk of _law_best: kept behind the sorted ones -/
def keep (l : List (Int × Int)) (e : Int × Int) : List (Int × Int) := match l.getLast? with
  | none => [e]
  | some z => if e.2 < z.2 then l ++ [e] else l
theorem kept_ok : ∀ (s : List (Int × Int)) (done l : List (Int × Int)), (done ++ s).Pairwise (fun a b => a.1 < b.1 ∨ a.1 = b.1 ∧ a.2 ≤ b.2) → Good l → (∀ e ∈ l, e ∈ done) → (∀ r p, At2 l r p ↔ At2 done r p) →
    Good (s.foldl keep l) ∧ ∀ r p, At2 (s.foldl keep l) r p ↔ At2 (done ++ s) r p
  | [], done, l, _, g, _, a => ⟨g, fun r p => by rw [List.append_nil]; exact a r p⟩
  | e :: s, done, l, hs, g, sub, a => by
    have hs' : ((done ++ [e]) ++ s).Pairwise (fun a b => a.1 < b.1 ∨ a.1 = b.1 ∧ a.2 ≤ b.2) := by rw [List.append_assoc]; exact hs
    have hd : ∀ x ∈ done, x.1 < e.1 ∨ x.1 = e.1 ∧ x.2 ≤ e.2 := fun x hx => (List.pairwise_append.mp hs).2.2 x hx e List.mem_cons_self
    have app : ∀ (l : List (Int × Int)) (r p : Int), At2 (l ++ [e]) r p ↔ At2 l r p ∨ (e.1 ≤ r ∧ e.2 ≤ p) := fun l r p => by
      constructor
      · rintro ⟨x, hx, h⟩
        rcases List.mem_append.mp hx with hx | hx
        · exact .inl ⟨x, hx, h⟩
        · rw [List.mem_singleton.mp hx] at h; exact .inr h
      · rintro (⟨x, hx, h⟩ | h)
        · exact ⟨x, List.mem_append_left _ hx, h⟩
        · exact ⟨e, List.mem_append_right _ List.mem_cons_self, h⟩
    have fin : Good (keep l e) ∧ (∀ x ∈ keep l e, x ∈ done ++ [e]) ∧ ∀ r p, At2 (keep l e) r p ↔ At2 (done ++ [e]) r p := by
      unfold keep
      cases hl : l.getLast? with
      | none =>
        have e0 : l = [] := List.getLast?_eq_none_iff.mp hl
        subst e0
        refine ⟨List.pairwise_singleton _ _, fun x hx => List.mem_append_right _ hx, fun r p => ?_⟩
        rw [app, ← a r p]
        constructor
        · rintro ⟨x, hx, h⟩; rw [List.mem_singleton.mp hx] at h; exact .inr h
        · rintro (⟨x, hx, _⟩ | h)
          · cases hx
          · exact ⟨e, List.mem_cons_self, h⟩
      | some z =>
        obtain ⟨l0, rfl⟩ := List.getLast?_eq_some_iff.mp hl
        have hz : z ∈ done := sub z (List.mem_append_right _ List.mem_cons_self)
        by_cases c : e.2 < z.2
        · rw [show (match some z with | none => [e] | some z => if e.2 < z.2 then l0 ++ [z] ++ [e] else l0 ++ [z]) = l0 ++ [z] ++ [e] from if_pos c]
          refine ⟨List.pairwise_append.mpr ⟨g, List.pairwise_singleton _ _, fun x hx y hy => ?_⟩, fun x hx => ?_, fun r p => ?_⟩
          · rw [List.mem_singleton.mp hy]
            have h1 : z.1 < e.1 := by rcases hd z hz with h | h <;> omega
            rcases List.mem_append.mp hx with hx | hx
            · have := (List.pairwise_append.mp g).2.2 x hx z List.mem_cons_self
              omega
            · rw [List.mem_singleton.mp hx]; exact ⟨h1, c⟩
          · rcases List.mem_append.mp hx with hx | hx
            · exact List.mem_append_left _ (sub x hx)
            · exact List.mem_append_right _ hx
          · rw [app, app, a r p]
        · rw [show (match some z with | none => [e] | some z => if e.2 < z.2 then l0 ++ [z] ++ [e] else l0 ++ [z]) = l0 ++ [z] from if_neg c]
          refine ⟨g, fun x hx => List.mem_append_left _ (sub x hx), fun r p => ?_⟩
          rw [app, ← a r p]
          refine ⟨.inl, ?_⟩
          rintro (h | h)
          · exact h
          · refine ⟨z, List.mem_append_right _ List.mem_cons_self, ?_⟩
            rcases hd z hz with k | k <;> omega
    obtain ⟨f1, f2, f3⟩ := fin
    have r := kept_ok s (done ++ [e]) (keep l e) hs' f1 f2 f3
    rw [List.append_assoc] at r
    exact r
theorem at2_mem {l l' : List (Int × Int)} (h : ∀ e, e ∈ l ↔ e ∈ l') (r p : Int) : At2 l r p ↔ At2 l' r p := ⟨fun ⟨e, he, z⟩ => ⟨e, (h e).mp he, z⟩, fun ⟨e, he, z⟩ => ⟨e, (h e).mpr he, z⟩⟩
/-! the walk of _curve -/
def crv (m t : Int) : Nat → List (Int × Int)
  | 0 => []
  | n + 1 => match lp n m t with
    | none => crv m t n
    | some x => match (crv m t n).getLast? with
      | none => crv m t n ++ [((n : Int), x)]
      | some z => if x < z.2 then crv m t n ++ [((n : Int), x)] else crv m t n
theorem rows_sing {m t a b : Int} (s : Sing m t a b) : ∀ n : Nat, crv m t n = if a < n then [(a, b)] else []
  | 0 => (if_neg (by have := s.a0; omega)).symm
  | n + 1 => by
    have ih := rows_sing s n
    unfold crv
    rw [s.eq n, ih]
    by_cases h : a ≤ n
    · rw [if_pos h]
      by_cases k : a < n
      · rw [if_pos k, if_pos (by omega)]
        exact if_neg (Int.lt_irrefl b)
      · rw [if_neg k, if_pos (by omega)]
        show [((n : Int), b)] = _
        rw [show (n : Int) = a by omega]
    · rw [if_neg h, if_neg (by omega), if_neg (by omega)]
theorem curve_sing {m t a b : Int} (s : Sing m t a b) : crv m t (m + 1).toNat = [(a, b)] := by
  rw [rows_sing s, if_pos (by have := s.am; have := s.a0; omega)]
end K1


set_option Elab.async false
set_option linter.all false
set_option maxRecDepth 100000
set_option maxHeartbeats 4000000
namespace K1
open PySem PySem.Spec PyProof.Rows L2
/-! ### the draws -/
abbrev sDraw : Stmt := st__law_draw
abbrev sOne : Stmt := st__law_one
abbrev sWell : Stmt := st__law_well
theorem scDraw : FnScope ["_law_well_here", "_law_below", "_law_found", "_law_mixed"] ["_law_well_here", "_law_below"] (defScope sDraw) := ⟨rfl, rfl, rfl, by decide +kernel, rfl, by decide +kernel, by decide +kernel⟩
theorem scOne : FnScope ["_law_well_here", "_law_things"] ["_law_well_here", "_law_things"] (defScope sOne) := ⟨rfl, rfl, rfl, by decide +kernel, rfl, by decide +kernel, by decide +kernel⟩
theorem scWell : FnScope ["_law_script", "_law_k", "_law_cell"] ["_law_script", "_law_k"] (defScope sWell) := ⟨rfl, rfl, rfl, by decide +kernel, rfl, by decide +kernel, by decide +kernel⟩
def spDraw : Sp := fun vs H Q _ => ∃ (p : Addr) (b : Int), vs = [.ref p, .int b] ∧ WellAt H p ∧ 0 < b ∧ b < 1073741824 ∧
  ∀ (d : Int) (H' : Hp), 0 ≤ d → d < b → Ext p H H' → WellAt H' p → Q (.int d) H'
def spOne : Sp := fun vs H Q _ => ∃ (p a : Addr) (xs : List V), vs = [.ref p, .ref a] ∧ WellAt H p ∧ H a = some (.lst xs) ∧ 0 < xs.length ∧ xs.length < 1073741824 ∧ a ≠ p ∧
  ∀ (i : Nat) (x : V) (H' : Hp), xs[i]? = some x → Ext p H H' → WellAt H' p → Q x H'
def spWell (K : PySem.W.Frag) : Sp := fun vs H Q _ => ∃ (a : Addr) (ns : List Int) (k : Int), vs = [.ref a, .int k] ∧ SqL K H a (ns.map V.int) ∧ ns.length ≤ 63 ∧ 0 ≤ k ∧ k < 1000 ∧
  ∀ (p : Addr) (H' : Hp), H p = none → Same H H' → WellAt H' p → Q (.ref p) H'
section
variable {P : Program} {w : World} {K : PySem.W.Frag} {mg : Str → Option Value} {base : Heap}
theorem ok_draw {f : Addr} {fd : FuncData} (T : Bi mg) (F : Fun K "_law_draw" "_law_draw" sDraw f fd) : FnOk P w K mg base CX0 1 f fd ["_law_well_here", "_law_below"] spDraw := by
  have mi := T.int
  refine F.ok scDraw (fun vs H Q E h => ?_) (fun cdv A outer s H vs Q E hr h => ?_)
  · obtain ⟨p, b, rfl, _⟩ := h
    rfl
  · obtain ⟨p, b, rfl, ⟨c, m, t, hp⟩, hb0, hb1, q'⟩ := h
    have q : ∀ (d c m t : Int), 0 ≤ d → d < b → Q (.int d) (upd H p (.lst [.int c, .int m, .int t])) := fun d c m t h1 h2 => q' d _ h1 h2 (Ext.refl H).self ⟨c, m, t, upd_same⟩
    refine ⟨_, pss_cons (ps_if (pt_cmpR op_ge (pe_ix ix_list (pv 0) pe_int (fun _ _ => rfl)) (pe_op op_pow pe_int pe_int) (nomark _))
        (pss_cons (ps_set (i := 2) scDraw.nd rfl (Or.inl rfl) (pe_op op_mod (pe_callTy call_int1 (by rfl) mi PyProof.Rows.boot_int (pa_cons (pe_ix ix_list (pv 0) pe_int (fun _ _ => rfl)) pa_nil)) (pv 1)))
        (pss_cons (ps_asg (pe_op op_fdiv (pe_ix ix_list (pv 0) pe_int (fun _ _ => rfl)) (pv 1)) (pg_sub (pv 0) pe_int set_list))
        (pss_one (ps_ret (pv 2)))))
        pss_nil)
      (pss_cons (ps_asg (pe_op op_add (pe_ix ix_list (pv 0) pe_int (fun _ _ => rfl)) pe_int) (pg_sub (pv 0) pe_int set_list))
      (pss_cons (ps_set (i := 3) scDraw.nd rfl (Or.inl rfl) (pe_op op_mod (pe_callTy call_int1 (by rfl) mi PyProof.Rows.boot_int (pa_cons
          (pe_op op_mul (pe_op op_add (pe_op op_add (pe_ix ix_list (pv 0) pe_int (fun _ _ => rfl)) (pe_op op_mul pe_int (pe_ix ix_list (pv 0) pe_int (fun _ _ => rfl)))) pe_int) pe_int) pa_nil)) pe_int))
      (pss_cons (ps_set (i := 3) scDraw.nd rfl (Or.inl rfl) (pe_op op_mod (pe_callTy call_int1 (by rfl) mi PyProof.Rows.boot_int (pa_cons
          (pe_op op_mul (pv 3) (pe_op op_add (pe_op op_fdiv (pv 3) pe_int) pe_int)) pa_nil)) pe_int))
      (pss_one (ps_ret (pe_op op_mod (pe_callTy call_int1 (by rfl) mi PyProof.Rows.boot_int (pa_cons
          (pe_op op_fdiv (pe_op op_mod (pe_callTy call_int1 (by rfl) mi PyProof.Rows.boot_int (pa_cons (pe_op op_mul (pv 3) (pe_op op_add (pe_op op_fdiv (pv 3) pe_int) pe_int)) pa_nil)) pe_int) pe_int) pa_nil)) (pv 1))))))), ?_⟩
    have r0 : ∀ x y z : Int, SqL K (upd H p (.lst [.int x, .int y, .int z])) p [.int x, .int y, .int z] := fun x y z => .inl (.inl upd_same)
    have hS : SqL K H p [.int c, .int m, .int t] := .inl (.inl hp)
    have rg : ∀ z : Int, 0 ≤ z % b ∧ z % b < b := fun z => ⟨Int.emod_nonneg _ (by omega), Int.emod_lt_of_pos _ hb0⟩
    refine ⟨.ref p, rfl, p, _, 0, .int c, rfl, rfl, hS, atI_nat (j := 0) rfl, _, _, rfl, rfl, ⟨by decide, by decide, by decide⟩, _, _, rfl, rfl, _, rfl, ?_⟩
    refine ite2 (fun _ => ?_) (fun _ => ?_)
    · refine ⟨.ref p, rfl, p, _, 0, .int c, rfl, rfl, hS, atI_nat (j := 0) rfl, .inl ⟨c, rfl, _, rfl, c, b, rfl, rfl, hb0, ?_⟩⟩
      refine ⟨.ref p, rfl, p, _, 0, .int c, rfl, rfl, hS, atI_nat (j := 0) rfl, _, rfl, c, b, rfl, rfl, ⟨hb0, hb1⟩, ?_⟩
      refine ⟨.ref p, rfl, p, _, 0, 0, rfl, rfl, hp, rfl, ?_⟩
      exact ⟨_, rfl, q (c % b) (c / b) m t (rg c).1 (rg c).2⟩
    · refine ⟨.ref p, rfl, p, _, 2, .int t, rfl, rfl, hS, atI_nat (j := 2) rfl, _, _, rfl, rfl, ?_⟩
      refine ⟨.ref p, rfl, p, _, 2, 2, rfl, rfl, hp, rfl, ?_⟩
      refine ⟨.ref p, rfl, p, _, 1, .int m, rfl, rfl, r0 c m (t + 1), atI_nat (j := 1) rfl, ?_⟩
      refine ⟨.ref p, rfl, p, _, 2, .int (t + 1), rfl, rfl, r0 c m (t + 1), atI_nat (j := 2) rfl, _, _, rfl, rfl, .inl ⟨by decide, by decide⟩, ?_⟩
      refine ⟨_, _, rfl, rfl, _, _, rfl, rfl, _, _, rfl, rfl, .inr ⟨by decide, by decide⟩, .inl ⟨_, rfl, _, _, rfl, rfl, (by show (0 : Int) < _; decide), ?_⟩⟩
      generalize he : (m + 7919 * (t + 1) + 1) * 48271 % 2147483647 = e
      have e0 : 0 ≤ e ∧ e < 2147483647 := by rw [← he]; exact ⟨Int.emod_nonneg _ (by decide), Int.emod_lt_of_pos _ (by decide)⟩
      refine ⟨_, rfl, _, rfl, _, _, rfl, rfl, ⟨by decide, by decide⟩, _, _, rfl, rfl, _, _, rfl, rfl, .inl ⟨by omega, by omega⟩, .inl ⟨_, rfl, _, _, rfl, rfl, (by show (0 : Int) < _; decide), ?_⟩⟩
      generalize hg : e * (e / 1009 + 69621) % 2147483629 = g
      have g0 : 0 ≤ g ∧ g < 2147483629 := by rw [← hg]; exact ⟨Int.emod_nonneg _ (by decide), Int.emod_lt_of_pos _ (by decide)⟩
      refine ⟨_, rfl, _, rfl, _, _, rfl, rfl, ⟨by decide, by decide⟩, _, _, rfl, rfl, _, _, rfl, rfl, .inl ⟨by omega, by omega⟩, .inl ⟨_, rfl, _, _, rfl, rfl, (by show (0 : Int) < _; decide), _, _, rfl, rfl, ⟨by decide, by decide⟩, .inl ⟨_, rfl, _, rfl, _, _, rfl, rfl, hb0, ?_⟩⟩⟩
      exact q _ c m (t + 1) (rg _).1 (rg _).2
theorem def_draw (T : Bi mg) (a : At K mg "_law_draw" sDraw) : Def P w K mg base CX0 1 "_law_draw" ["_law_well_here", "_law_below"] spDraw :=
  a.def (fun _ _ _ _ _ _ us hl => match us, hl with | [_, _], _ => rfl) fun f fd F => ok_draw T F
theorem ok_one {f : Addr} {fd : FuncData} (T : Bi mg) (D_draw : Def P w K mg base CX0 1 "_law_draw" ["_law_well_here", "_law_below"] spDraw) (F : Fun K "_law_one" "_law_one" sOne f fd) : FnOk P w K mg base CX0 2 f fd ["_law_well_here", "_law_things"] spOne := by
  refine F.ok scOne (fun vs H Q E h => ?_) (fun cdv A outer s H vs Q E hr h => ?_)
  · obtain ⟨p, a, xs, rfl, _⟩ := h
    rfl
  · obtain ⟨p, a, xs, rfl, hw, ha, h0, h1, nap, q⟩ := h
    refine ⟨_, (pss_one (ps_ret (pe_ix ix_list (pv 1) (pe_def D_draw (hr.mono (by decide)) rfl pass0 (pa_cons (pv 0) (pa_cons (pe_callB call_len_seq (by rfl) T.len PySem.boot_len (pa_cons (pv 1) pa_nil)) pa_nil))) (fun _ _ => rfl)))), ?_⟩
    refine ⟨_, rfl, _, rfl, _, rfl, a, xs, rfl, .inl (sq ha), ?_⟩
    refine ⟨p, xs.length, rfl, hw, by omega, by omega, fun d H' d0 d1 hx hw' => ?_⟩
    have hi : d.toNat < xs.length := by omega
    have hg : xs[d.toNat]? = some xs[d.toNat] := List.getElem?_eq_getElem hi
    exact ⟨a, xs, d, _, rfl, rfl, sq (hx _ _ nap ha), at_of (j := d.toNat) (by omega) hg, q _ _ _ hg hx hw'⟩
theorem def_one (T : Bi mg) (D_draw : Def P w K mg base CX0 1 "_law_draw" ["_law_well_here", "_law_below"] spDraw) (a : At K mg "_law_one" sOne) : Def P w K mg base CX0 2 "_law_one" ["_law_well_here", "_law_things"] spOne :=
  a.def (fun _ _ _ _ _ _ us hl => match us, hl with | [_, _], _ => rfl) fun f fd F => ok_one T D_draw F
theorem ok_well {f : Addr} {fd : FuncData} (T : Bi mg) (F : Fun K "_law_well" "_law_well" sWell f fd) : FnOk P w K mg base CX0 1 f fd ["_law_script", "_law_k"] (spWell K) := by
  have nd := scWell.nd
  refine F.ok scWell (fun vs H Q E h => ?_) (fun cdv A outer s H vs Q E hr h => ?_)
  · obtain ⟨a, ns, k, rfl, _⟩ := h
    rfl
  · obtain ⟨a, ns, k, rfl, hS, hl, k0, k1, q⟩ := h
    refine ⟨_, (pss_cons (ps_set (i := 2) nd rfl (Or.inl rfl) (pe_ifExp (pt_cmpR op_lt (pv 1) (pe_callB call_len_seq (by rfl) T.len PySem.boot_len (pa_cons (pv 0) pa_nil)) (nomark _)) (pe_ix ix_list (pv 0) (pv 1) (fun _ _ => rfl)) (pe_op op_mul pe_int (pv 1))))
     (pss_one (ps_ret (pe_lst (pa_cons (pv 2) (pa_cons (pe_op op_mod (pe_callTy call_int1 (by rfl) T.int PyProof.Rows.boot_int (pa_cons (pv 2) pa_nil)) pe_int) (pa_cons pe_int pa_nil))))))), ?_⟩
    have fin : ∀ c : Int, (tRet (tLst (tCons (tVar 2) (tCons (tOp (rI (fun _ j => 0 < j) fun i j => .int (i % j)) (tCB (fun xs H Q => (∃ i, xs = [.int i] ∧ Q (.int i) H) ∨ ∃ k, xs = [.bl k] ∧ Q (.int (if k then 1 else 0)) H) (tCons (tVar 2) tNil)) (tC (.int 2147483629))) (tCons (tC (.int 0)) tNil)))))
        { nx := fun _ H' => Q .non H', rt := Q } [some (.ref a), some (.int k), some (.int c)] H := fun c => by
      refine ⟨_, rfl, _, rfl, .inl ⟨c, rfl, _, _, rfl, rfl, (by show (0 : Int) < _; decide), (by show 3 ≤ sizeLine; decide), fun p np => ?_⟩⟩
      exact q p _ np (same_new np) ⟨_, _, _, upd_same⟩
    refine ⟨_, rfl, _, rfl, a, _, rfl, .inl hS, _, _, rfl, rfl, _, rfl, ite2 (fun c => ?_) (fun c => ?_)⟩
    · have c' : k < ns.length := by simpa using c
      have hi : k.toNat < ns.length := by omega
      refine ⟨_, rfl, _, rfl, a, _, k, .int ns[k.toNat], rfl, rfl, hS, at_of (j := k.toNat) (by omega) (by simp [hi]), fin _⟩
    · exact ⟨_, rfl, _, _, rfl, rfl, .inl ⟨by decide, by decide⟩, fin _⟩
theorem def_well (T : Bi mg) (a : At K mg "_law_well" sWell) : Def P w K mg base CX0 1 "_law_well" ["_law_script", "_law_k"] (spWell K) :=
  a.def (fun _ _ _ _ _ _ us hl => match us, hl with | [_, _], _ => rfl) fun f fd F => ok_well T F
end
end K1


set_option Elab.async false
set_option linter.all false
set_option maxRecDepth 100000
set_option maxHeartbeats 4000000
namespace K1
open PySem PySem.Spec PyProof.Rows L2 RZ
/-! ### data without lists -/
mutual
def noL : PyData → Bool
  | .list _ => false
  | .dict _ => false
  | .tuple xs => noLA xs
  | _ => true
def noLA : List PyData → Bool
  | [] => true
  | x :: r => noL x && noLA r
end
def KeepT (H H' : Hp) : Prop := ∀ a xs, H a = some (.tup xs) → H' a = some (.tup xs)
theorem KeepT.trans {H G F : Hp} (a : KeepT H G) (b : KeepT G F) : KeepT H F := fun p xs h => b p xs (a p xs h)
theorem KeepT.of {H H' : Hp} (s : Same H H') : KeepT H H' := fun p xs h => s p _ h
theorem KeepT.ext {p : Addr} {H H' : Hp} (e : Ext p H H') (h : ∀ xs, H p ≠ some (.tup xs)) : KeepT H H' := fun a xs ha => e a _ (fun z => h xs (by rw [← z]; exact ha)) ha
theorem KeepT.upd {p : Addr} {H H' : Hp} {o : HO} (k : KeepT H H') (h : ∀ xs, H' p ≠ some (.tup xs)) : KeepT H (upd H' p o) := fun a xs ha => by
  have := k a xs ha
  have ne : a ≠ p := fun z => h xs (by rw [← z]; exact this)
  rw [upd_ne ne]; exact this
theorem Ext.kT {p : Addr} {H H' : Hp} {kvs : List (List L2.Key × V)} (e : Ext p H H') (h : H p = some (.dT kvs)) : KeepT H H' := KeepT.ext e fun xs z => by rw [h] at z; cases z
mutual
theorem Dv.kt {H H' : Hp} (k : KeepT H H') : ∀ {v : V} {d : PyData}, Dv H v d → noL d = true → Dv H' v d
  | _, _, .non, _ => .non
  | _, _, .bl b, _ => .bl b
  | _, _, .int i, _ => .int i
  | _, _, .str x, _ => .str x
  | _, _, .lst _ _, h => by cases h
  | _, _, .tup h r, n => .tup (k _ _ h) (DvA.kt k r n)
  | _, _, .dic _, h => by cases h
theorem DvA.kt {H H' : Hp} (k : KeepT H H') : ∀ {vs : List V} {ds : List PyData}, DvA H vs ds → noLA ds = true → DvA H' vs ds
  | _, _, .nil, _ => .nil
  | _, _, .cons h r, n => .cons (Dv.kt k h ((Bool.and_eq_true _ _).mp n).1) (DvA.kt k r ((Bool.and_eq_true _ _).mp n).2)
end
theorem noLA_map {α : Type} (f : α → PyData) (h : ∀ x, noL (f x) = true) : ∀ l : List α, noLA (l.map f) = true
  | [] => rfl
  | x :: l => by
    show (noL (f x) && noLA (l.map f)) = true
    rw [h x, noLA_map f h l]; rfl
theorem DvA.at {α : Type} {H : Hp} {f : α → PyData} : ∀ {l : List α} {vs : List V}, DvA H vs (l.map f) → ∀ {i : Nat} {x : α}, l[i]? = some x → ∃ v, vs[i]? = some v ∧ Dv H v (f x)
  | [], _, _, i, x, h => by simp at h
  | y :: l, _, .cons d r, 0, x, h => by simp at h; subst h; exact ⟨_, rfl, d⟩
  | y :: l, _, .cons d r, i + 1, x, h => by simpa using DvA.at r (i := i) (x := x) (by simpa using h)
theorem DvA.lenM {α : Type} {H : Hp} {f : α → PyData} {l : List α} {vs : List V} (h : DvA H vs (l.map f)) : vs.length = l.length := by rw [h.len, List.length_map]
/-- a pair of ints -/
theorem Dv.pair {H : Hp} {v : V} {x y : Int} (h : Dv H v (.tuple [.int x, .int y])) : ∃ a, v = .ref a ∧ H a = some (.tup [.int x, .int y]) := by
  cases h with
  | tup e r =>
    cases r with
    | cons h1 r =>
      cases h1
      cases r with
      | cons h2 r =>
        cases h2
        cases r
        exact ⟨_, rfl, e⟩
/-! ### is_integer, _is_clear -/
abbrev sIsInt : Stmt := st_is_integer
abbrev nV : List Str := ["value"]
theorem scIsInt : FnScope nV nV (defScope sIsInt) := ⟨rfl, rfl, rfl, by decide +kernel, rfl, by decide +kernel, by decide +kernel⟩
def spInt : Sp := fun vs H Q _ => ∃ (x : Int), vs = [.int x] ∧ Q (.bl true) H
abbrev sClr : Stmt := st__is_clear
abbrev nClr : List Str := ["many", "there"]
theorem scClr : FnScope nClr nClr (defScope sClr) := ⟨rfl, rfl, rfl, by decide +kernel, rfl, by decide +kernel, by decide +kernel⟩
def spClr : Sp := fun vs H Q _ => ∃ (m t : Int), vs = [.int m, .int t] ∧ ∀ H', Same H H' → Q (.bl (decide (clr m t))) H'
abbrev sHlv : Stmt := st__halves
abbrev nHlv : List Str := ["many", "there", "cut", "rest", "counts", "count"]
abbrev pHlv : List Str := ["many", "there", "cut"]
theorem scHlv : FnScope nHlv pHlv (defScope sHlv) := ⟨rfl, rfl, rfl, by decide +kernel, rfl, by decide +kernel, by decide +kernel⟩
def hvD (m t c k : Int) : PyData := .tuple [.tuple [.int c, .int k], .tuple [.int (m - c), .int (t - k)]]
def spHlv : Sp := fun vs H Q _ => ∃ (m t c : Int), vs = [.int m, .int t, .int c] ∧ 0 ≤ t ∧ t ≤ m ∧ m ≤ 1000 ∧ 0 ≤ c ∧ c ≤ m ∧
  ∀ l H' xs, Same H H' → H l = none → H' l = some (.lst xs) → DvA H' xs ((ks m t c).map (hvD m t c)) → Q (.ref l) H'
section
variable {P : Program} {w : World} {K : PySem.W.Frag} {mg : Str → Option Value} {base : Heap}
theorem ok_isInt {f : Addr} {fd : FuncData} (T : Bj mg) (F : Fun K "is_integer" "is_integer" sIsInt f fd) : FnOk P w K mg base CX0 1 f fd nV spInt := by
  refine F.ok scIsInt (fun vs H Q E h => ?_) (fun cdv A outer s H vs Q E hr h => ?_)
  · obtain ⟨x, rfl, _⟩ := h
    rfl
  · obtain ⟨x, rfl, q⟩ := h
    refine ⟨_, (pss_one (ps_ret (pe_and (pe_callB (call_isiK1 (K := K) rfl) (by rfl) T.isinstance PyProof.Rows.boot_isinstance (pa_cons (pv 0) (pa_cons (pe_bltn (v := .ty "int") rfl T.int PyProof.Rows.boot_int rfl) pa_nil))) (pe_one (pe_not (pe_callB (call_isiK1 (K := K) rfl) (by rfl) T.isinstance PyProof.Rows.boot_isinstance (pa_cons (pv 0) (pa_cons (pe_bltn (v := .ty "bool") rfl T.bool PyProof.Rows.boot_bool rfl) pa_nil)))))))), ?_⟩
    refine ⟨_, rfl, .int x, .ty "int", .type _, .type "int", true, rfl, .ty _, .base (.int x), kit_ty (show kitB "int" "int" = some true by decide +kernel), _, rfl, ?_⟩
    exact itbT rfl ⟨_, rfl, .int x, .ty "bool", .type _, .type "bool", false, rfl, .ty _, .base (.int x), kit_ty (show kitB "int" "bool" = some false by decide +kernel), _, rfl, q⟩
theorem def_isInt (T : Bj mg) (a : At K mg "is_integer" sIsInt) : Def P w K mg base CX0 1 "is_integer" nV spInt :=
  a.def (fun _ _ _ _ _ _ us hl => match us, hl with | [_], _ => rfl) fun f fd F => ok_isInt T F
theorem inV_two (t m : Int) : inV (.int t) [.int 0, .int m] = decide (clr m t) := by
  show inV (.int t) (([0, m] : List Int).map V.int) = _
  rw [inV_ints]
  unfold clr
  by_cases h : t = 0 <;> by_cases h2 : t = m <;> simp [h, h2]
theorem ok_clr {f : Addr} {fd : FuncData} (F : Fun K "_is_clear" "_is_clear" sClr f fd) : FnOk P w K mg base CX0 1 f fd nClr spClr := by
  refine F.ok scClr (fun vs H Q E h => ?_) (fun cdv A outer s H vs Q E hr h => ?_)
  · obtain ⟨m, t, rfl, _⟩ := h
    rfl
  · obtain ⟨m, t, rfl, q⟩ := h
    refine ⟨_, (pss_one (ps_ret (pe_cmpR (op_in_seqK (K := K) rfl) (pv 1) (pe_tup (pa_cons pe_int (pa_cons (pv 0) pa_nil))) (by rfl)))), ?_⟩
    refine ⟨_, rfl, _, rfl, (by show 2 ≤ sizeLine; decide), fun T nT => ⟨T, [.int 0, .int m], rfl, .inr (st upd_same), rfl, rfl, ?_⟩⟩
    show Q (.bl (inV (.int t) [.int 0, .int m])) _
    rw [inV_two]
    exact q _ (same_new nT)
theorem def_clr (a : At K mg "_is_clear" sClr) : Def P w K mg base CX0 1 "_is_clear" nClr spClr :=
  a.def (fun _ _ _ _ _ _ us hl => match us, hl with | [_, _], _ => rfl) fun f fd F => ok_clr F
theorem rgI_at {lo : Int} {n i : Nat} (h : i < n) : (rgI lo n)[i]? = some (lo + (i : Int)) := by
  unfold rgI
  rw [List.getElem?_map, List.getElem?_range h]; rfl
theorem hi_eq (t c : Int) : (if t < c then t else c) = hi_ t c := rfl
theorem noL_hv (m t c k : Int) : noL (hvD m t c k) = true := rfl
set_option maxHeartbeats 8000000 in
theorem ok_hlv {f : Addr} {fd : FuncData} (T : Bj mg) (F : Fun K "_halves" "_halves" sHlv f fd) : FnOk P w K mg base CX0 1 f fd pHlv spHlv := by
  have nd := scHlv.nd
  refine F.ok scHlv (fun vs H Q E h => ?_) (fun cdv A outer s H vs Q E hr h => ?_)
  · obtain ⟨m, t, c, rfl, _⟩ := h
    rfl
  · obtain ⟨m, t, c, rfl, h0, h1, h2, h3, h4, q⟩ := h
    refine ⟨_, (pss_cons (ps_set (i := 3) nd rfl (Or.inr rfl) (pe_op op_sub (pv 0) (pv 2)))
 (pss_cons (ps_set (i := 4) nd rfl (Or.inl rfl) (pe_callTy cr_range2 (by rfl) T.range PyProof.Rows.boot_range (pa_cons (pe_callB (call_max2 rfl) (by rfl) T.max PyProof.Rows.boot_max (pa_cons pe_int (pa_cons (pe_op op_sub (pv 1) (pv 3)) pa_nil))) (pa_cons (pe_op op_add (pe_callB (call_min2 rfl) (by rfl) T.min PyProof.Rows.boot_min (pa_cons (pv 2) (pa_cons (pv 1) pa_nil))) pe_int) pa_nil))))
 (pss_one (ps_ret (pe_lc (own := [("count", 5)]) (g := gName 5) (tt := tYes) rfl nd (pi_rngV (pv 4)) (blkOk_by (own := [("count", 5)]) (N := nHlv) (sc := defScope sHlv) (by decide +kernel)) (fun _ _ _ _ _ => pg_name (i := 5) nd rfl (Or.inl rfl)) (fun _ _ _ _ _ => pts_nil) (fun _ _ _ _ _ => (pe_tup (pa_cons (pe_tup (pa_cons (pv 2) (pa_cons (pv 5) pa_nil))) (pa_cons (pe_tup (pa_cons (pv 3) (pa_cons (pe_op op_sub (pv 1) (pv 5)) pa_nil))) pa_nil))))))))), ?_⟩
    refine ⟨_, rfl, _, rfl, _, _, rfl, rfl, ?_⟩
    refine ⟨_, rfl, _, rfl, _, _, rfl, rfl, _, _, rfl, ⟨_, rfl, _, rfl, _, _, rfl, _, _, rfl, rfl, _, _, rfl, fun R nR => ?_⟩⟩
    have eL : (if t - (m - c) > 0 then t - (m - c) else 0) = lo_ m t c := rfl
    have eH : (if t < c then t else c) = hi_ t c := rfl
    have bL : 0 ≤ lo_ m t c ∧ lo_ m t c ≤ 1000 := by unfold lo_; split <;> omega
    have bH : 0 ≤ hi_ t c ∧ hi_ t c ≤ 1000 := by unfold hi_; split <;> omega
    have lk : (ks m t c).length = (hi_ t c + 1 - lo_ m t c).toNat := rgI_len _ _
    refine ⟨_, rfl, R, _, _, rfl, upd_same, ⟨by rw [eL]; omega, by rw [eL]; omega, by rw [eH]; omega, by rw [eH]; omega⟩, fun D hD => ?_⟩
    have s0 := same_new (o := .rng (lo_ m t c) (hi_ t c + 1)) nR
    have nD0 : H D = none := s0.free hD
    refine lc_it walk_range (fun i G => Same H G ∧ ∃ acc, G D = some (.lst acc) ∧ DvA G acc (((ks m t c).take i).map (hvD m t c))) ⟨s0.new hD, [], upd_same, .nil⟩ (fun _ _ _ _ => trivial) ?_ ?_
    · rintro i x G G' hi ⟨sG, acc, hA, dA⟩ ⟨rfl, rfl⟩
      rw [eL, eH] at hi
      rw [eL]
      have hk : (ks m t c)[i]? = some (lo_ m t c + (i : Int)) := rgI_at hi
      have e2 := DvA.lenM dA
      refine ⟨rfl, tyes ⟨_, rfl, _, rfl, (by show 2 ≤ sizeLine; decide), fun A1 nA1 => ⟨_, rfl, _, rfl, _, rfl, _, _, rfl, rfl, (by show 2 ≤ sizeLine; decide), fun A2 nA2 => ⟨(by show 2 ≤ sizeLine; decide), fun A3 nA3 => ?_⟩⟩⟩⟩
      have s1 := same_new (o := .tup [.int c, .int (lo_ m t c + (i : Int))]) nA1
      have s2 := s1.new (o := .tup [.int (m - c), .int (t - (lo_ m t c + (i : Int)))]) nA2
      have s3 := s2.new (o := .tup [.ref A1, .ref A2]) nA3
      have hA3 := s3 _ _ hA
      refine ⟨acc, hA3, lt2 _ (by rw [e2, List.length_take]; omega), (sG.trans s3).mut nD0, acc ++ [.ref A3], upd_same, ?_⟩
      rw [take_more hk, List.map_append]
      have kt : KeepT (upd (upd (upd G' A1 (.tup [.int c, .int (lo_ m t c + (i : Int))])) A2 (.tup [.int (m - c), .int (t - (lo_ m t c + (i : Int)))])) A3 (.tup [.ref A1, .ref A2]))
          (upd (upd (upd (upd G' A1 (.tup [.int c, .int (lo_ m t c + (i : Int))])) A2 (.tup [.int (m - c), .int (t - (lo_ m t c + (i : Int)))])) A3 (.tup [.ref A1, .ref A2])) D (.lst (acc ++ [.ref A3]))) :=
        KeepT.upd (fun _ _ h => h) fun xs z => by rw [hA3] at z; cases z
      refine DvA.kt kt (DvA.app (dA.same s3) (.cons (.tup upd_same (.cons (.tup ?_ (.cons (.int _) (.cons (.int _) .nil))) (.cons (.tup ?_ (.cons (.int _) (.cons (.int _) .nil))) .nil))) .nil)) ?_
      · exact ((same_new nA2).new nA3) _ _ upd_same
      · exact (same_new nA3) _ _ upd_same
      · rw [← List.map_append]
        exact noLA_map _ (noL_hv m t c) _
    · rintro G ⟨sG, acc, hA, dA⟩
      rw [List.take_of_length_le (by rw [lk]; rw [eL, eH]; exact Nat.le_refl _)] at dA
      exact q D G acc sG nD0 hA dA
theorem def_hlv (T : Bj mg) (a : At K mg "_halves" sHlv) : Def P w K mg base CX0 1 "_halves" pHlv spHlv :=
  a.def (fun _ _ _ _ _ _ us hl => match us, hl with | [_, _, _], _ => rfl) fun f fd F => ok_hlv T F
end
end K1


set_option Elab.async false
set_option linter.all false
set_option maxRecDepth 100000
set_option maxHeartbeats 4000000
namespace K1
open PySem PySem.Spec PyProof.Rows L2 RZ
/-! ### methods -/
structure MDef (P : Program) (w : World) (K : PySem.W.Frag) (mg : Str → Option Value) (base : Heap) (CX : CXT) (k : Nat) (C : Addr) (m : Str) (ps : List Str) (sp : Sp) : Prop where
  ex : ∃ (f : Addr) (fd : FuncData), Meth K C m f ∧ Binds K fd ps [] ∧ FnOk P w K mg base CX k f fd ps sp
section
variable {X : Cx} {CX : CXT} {k : Nat} {ps : List Str} {sp : Sp} {E : XK} {m : Str} {pos apos : Pos} {o e : Expr} {es : List Expr} {ta : TE} {t : TA} {C : Addr}
theorem pe_mdef {pl : Sem Bool} (D : MDef X.prog X.w X.K X.mg X.base CX k C m ps sp) (c : Cls X.K C) (hr : Room k X.A) (hx : Passes CX X E) (he : PE X o ta) (ha : PA X (e :: es) t)
    (hst : starEach (e :: es) X.env = (false, eval e X.env) :: starEach es X.env := by rfl) (hpl : (backTo pos (starEach es X.env)).any (·.1) = false := by rfl)
    (ht : eval (.Call (.Attribute o m apos) (e :: es) [] pos) X.env = (do
      let ov ← eval o X.env
      standAt apos.atName
      let (f, first) ← holding [ov] (getMethod ov m pl)
      callWith pos f first (backTo pos (starEach (e :: es) X.env)) (backToKw pos (keywordEach [] X.env))) := by rfl) :
    PE X (.Call (.Attribute o m apos) (e :: es) [] pos) (tMeth C m sp [] E ta t) := by
  obtain ⟨f, fd, hm, hb, F⟩ := D.ex
  exact pe_meth he c hm F hr hb .nil hx ha hst hpl ht
end
/-! ### Probing -/
def flK (D : Addr) : List (Str × V) := [("_known", .ref D)]
theorem flK_at {D : Addr} : (flK D).lookup ("_known" : Str) = some (.ref D) := by rfl
theorem flK_no {D : Addr} {x : Str} (h : (!(x == ("_known" : Str))) = true) : (flK D).lookup x = none := by
  simp only [Bool.not_eq_true'] at h
  unfold flK
  simp only [List.lookup, h]
structure ClP (K : PySem.W.Frag) (mg : Str → Option Value) (C : Addr) : Prop where
  cl : Cls K C
  gC : mg "Probing" = some (.ref C)
  nK : NoAttr K C "_known"
def k3 (m t r : Int) : List L2.Key := [.inl m, .inl t, .inl r]
theorem k3_inj {m t r m' t' r' : Int} (h : k3 m t r = k3 m' t' r') : m = m' ∧ t = t' ∧ r = r' := by
  have h1 := List.cons.inj h
  have h2 := List.cons.inj h1.2
  have h3 := List.cons.inj h2.2
  exact ⟨Sum.inl.inj h1.1, Sum.inl.inj h2.1, Sum.inl.inj h3.1⟩
def ov : OI → V
  | none => .non
  | some n => .int n
theorem nd_put {kvs : List (List L2.Key × V)} {k : List L2.Key} {v : V} (h : (kvs.map (·.1)).Nodup) : ((putK kvs k v).map (·.1)).Nodup ∧ ∀ x ∈ (putK kvs k v).map (·.1), x ∈ kvs.map (·.1) ∨ x = k := by
  cases e : valV kvs k with
  | none =>
    have n : k ∉ kvs.map (·.1) := fun hk => by
      obtain ⟨p, hp, ep⟩ := List.mem_map.mp hk
      have a := valV_any k kvs
      rw [e] at a
      have b : (kvs.any fun kv => decide (kv.1 = k)) = true := List.any_eq_true.mpr ⟨p, hp, decide_eq_true ep⟩
      rw [b] at a; cases a
    rw [putK_new v e, List.map_append]
    refine ⟨List.nodup_append.mpr ⟨h, List.nodup_cons.mpr ⟨fun z => (by cases z), List.nodup_nil⟩, fun a ha b hb z => ?_⟩, fun x hx => ?_⟩
    · have : b = k := by simpa using hb
      rw [← this, ← z] at n; exact n ha
    · rcases List.mem_append.mp hx with hx | hx
      · exact .inl hx
      · exact .inr (by simpa using hx)
  | some u =>
    have a := valV_any k kvs
    rw [e] at a
    have e2 : putK kvs k v = kvs.map (fun kv => if kv.1 = k then (kv.1, v) else kv) := if_pos a
    have e3 : (putK kvs k v).map (·.1) = kvs.map (·.1) := by
      rw [e2, List.map_map]
      refine List.map_congr_left fun x _ => ?_
      show (if x.1 = k then (x.1, v) else x).1 = x.1
      split <;> rfl
    rw [e3]
    exact ⟨h, fun x hx => .inl hx⟩
theorem nodup_le {α : Type} [DecidableEq α] : ∀ (l m : List α), l.Nodup → (∀ x ∈ l, x ∈ m) → l.length ≤ m.length
  | [], m, _, _ => Nat.zero_le _
  | a :: l, m, nd, h => by
    obtain ⟨n1, n2⟩ := List.nodup_cons.mp nd
    have ha := h a List.mem_cons_self
    have ih := nodup_le l (m.erase a) n2 fun x hx => (List.mem_erase_of_ne (fun e => n1 (by rw [← e]; exact hx))).mpr (h x (List.mem_cons_of_mem _ hx))
    rw [List.length_erase_of_mem ha] at ih
    have := List.length_pos_of_mem ha
    rw [List.length_cons]; omega
def boxK : List (List L2.Key) := (List.range 25).flatMap fun m => (List.range 25).flatMap fun t => (List.range 25).map fun r => k3 (m : Nat) (t : Nat) (r : Nat)
theorem flatMap_len {α β : Type} (f : α → List β) (n : Nat) : ∀ l : List α, (∀ x ∈ l, (f x).length = n) → (l.flatMap f).length = l.length * n
  | [], _ => by simp
  | x :: l, h => by rw [List.flatMap_cons, List.length_append, h x List.mem_cons_self, flatMap_len f n l fun y hy => h y (List.mem_cons_of_mem _ hy), List.length_cons, Nat.succ_mul]; omega
theorem boxK_len : boxK.length = 15625 := by
  unfold boxK
  rw [flatMap_len _ 625 _ (fun x _ => by rw [flatMap_len _ 25 _ (fun y _ => by rw [List.length_map, List.length_range]), List.length_range]), List.length_range]
theorem mem_boxK {m t r : Int} (h1 : 0 ≤ m ∧ m < 25) (h2 : 0 ≤ t ∧ t < 25) (h3 : 0 ≤ r ∧ r < 25) : k3 m t r ∈ boxK := by
  unfold boxK
  refine List.mem_flatMap.mpr ⟨m.toNat, List.mem_range.mpr (by omega), List.mem_flatMap.mpr ⟨t.toNat, List.mem_range.mpr (by omega), List.mem_map.mpr ⟨r.toNat, List.mem_range.mpr (by omega), ?_⟩⟩⟩
  rw [Int.toNat_of_nonneg h1.1, Int.toNat_of_nonneg h2.1, Int.toNat_of_nonneg h3.1]
structure MemoOk (kvs : List (List L2.Key × V)) : Prop where
  nd : (kvs.map (·.1)).Nodup
  box : ∀ k ∈ kvs.map (·.1), k ∈ boxK
  val : ∀ m t r v, valV kvs (k3 m t r) = some v → v = ov (lp r.toNat m t)
theorem MemoOk.nil : MemoOk [] := ⟨List.nodup_nil, fun k h => (by cases h), fun m t r v h => (by cases h)⟩
theorem MemoOk.len {kvs : List (List L2.Key × V)} (h : MemoOk kvs) : kvs.length ≤ 15625 := by
  have := nodup_le _ _ h.nd h.box
  rw [boxK_len, List.length_map] at this
  exact this
theorem MemoOk.put {kvs : List (List L2.Key × V)} (h : MemoOk kvs) {m t r : Int} {v : V} (h1 : 0 ≤ m ∧ m < 25) (h2 : 0 ≤ t ∧ t < 25) (h3 : 0 ≤ r ∧ r < 25) (hv : v = ov (lp r.toNat m t)) : MemoOk (putK kvs (k3 m t r) v) := by
  obtain ⟨a, b⟩ := nd_put (k := k3 m t r) (v := v) h.nd
  refine ⟨a, fun k hk => ?_, fun m' t' r' v' hv' => ?_⟩
  · rcases b k hk with z | rfl
    · exact h.box k z
    · exact mem_boxK h1 h2 h3
  · rw [valV_put] at hv'
    by_cases e : k3 m' t' r' = k3 m t r
    · rw [if_pos e] at hv'
      obtain ⟨rfl, rfl, rfl⟩ := k3_inj e
      cases hv'; exact hv
    · rw [if_neg e] at hv'; exact h.val _ _ _ _ hv'
def PAt (C : Addr) (H : Hp) (p D : Addr) : Prop := ∃ dx, H p = some (.ins C dx (flK D))
theorem PAt.ext {C p D : Addr} {H H' : Hp} {kvs : List (List L2.Key × V)} (h : PAt C H p D) (hD : H D = some (.dT kvs)) (e : Ext D H H') : PAt C H' p D := by
  obtain ⟨dx, h⟩ := h
  exact ⟨dx, e _ _ (fun z => by rw [z, hD] at h; cases h) h⟩
def pS (i : Nat) : Stmt := inClass st_Probing i
abbrev sPI : Stmt := pS 0
abbrev sPL : Stmt := pS 1
abbrev sPW : Stmt := pS 3
abbrev nPI : List Str := ["self"]
theorem scPI : FnScope nPI nPI (defScope sPI) := ⟨rfl, rfl, rfl, by decide +kernel, rfl, by decide +kernel, by decide +kernel⟩
abbrev nPL : List Str := ["self", "many", "there", "rounds", "key", "probes", "cut", "number"]
abbrev pPL : List Str := ["self", "many", "there", "rounds"]
theorem scPL : FnScope nPL pPL (defScope sPL) := ⟨rfl, rfl, rfl, by decide +kernel, rfl, by decide +kernel, by decide +kernel⟩
abbrev nPW : List Str := ["self", "many", "there", "cut", "rounds", "worst", "left", "right", "one", "two"]
abbrev pPW : List Str := ["self", "many", "there", "cut", "rounds"]
theorem scPW : FnScope nPW pPW (defScope sPW) := ⟨rfl, rfl, rfl, by decide +kernel, rfl, by decide +kernel, by decide +kernel⟩
def spPI (C : Addr) : Sp := fun vs H Q _ => ∃ (p dx : Addr), vs = [.ref p] ∧ H p = some (.ins C dx []) ∧
  ∀ H' D, (∀ b o, b ≠ p → H b = some o → H' b = some o) → H D = none → PAt C H' p D → H' D = some (.dT []) → Q .non H'
def spPL (C : Addr) (n : Nat) : Sp := fun vs H Q _ => ∃ (p D : Addr) (m t r : Int) (kvs : List (List L2.Key × V)), vs = [.ref p, .int m, .int t, .int r] ∧ 0 ≤ t ∧ t ≤ m ∧ m ≤ n ∧ n ≤ 24 ∧ 0 ≤ r ∧ PAt C H p D ∧ H D = some (.dT kvs) ∧ MemoOk kvs ∧
  ∀ H' kvs', Ext D H H' → H' D = some (.dT kvs') → MemoOk kvs' → Q (ov (lp r.toNat m t)) H'
def spPW (C : Addr) (n : Nat) : Sp := fun vs H Q _ => ∃ (p D : Addr) (m t c r : Int) (kvs : List (List L2.Key × V)), vs = [.ref p, .int m, .int t, .int c, .int r] ∧ 0 ≤ t ∧ t ≤ m ∧ m ≤ n ∧ n ≤ 24 ∧ 1 ≤ c ∧ c < m ∧ 1 ≤ r ∧ PAt C H p D ∧ H D = some (.dT kvs) ∧ MemoOk kvs ∧
  ∀ H' kvs', Ext D H H' → H' D = some (.dT kvs') → MemoOk kvs' → Q (ov (wc (lp (r - 1).toNat) m t c)) H'
abbrev WSt (p : Addr) (m t c r w : Int) (v6 v7 v8 v9 : Option V) : L2.St := [some (.ref p), some (.int m), some (.int t), some (.int c), some (.int r), some (.int w), v6, v7, v8, v9]
theorem Dv.hv {H : Hp} {x : V} {m t c k : Int} (h : Dv H x (hvD m t c k)) : ∃ a b1 b2, x = .ref a ∧ H a = some (.tup [.ref b1, .ref b2]) ∧ H b1 = some (.tup [.int c, .int k]) ∧ H b2 = some (.tup [.int (m - c), .int (t - k)]) := by
  cases h with
  | tup e r =>
    cases r with
    | cons h1 r =>
      cases r with
      | cons h2 r =>
        cases r
        obtain ⟨b1, rfl, e1⟩ := Dv.pair h1
        obtain ⟨b2, rfl, e2⟩ := Dv.pair h2
        exact ⟨_, b1, b2, rfl, e, e1, e2⟩
section
variable {P : Program} {w : World} {K : PySem.W.Frag} {mg : Str → Option Value} {base : Heap} {C : Addr}
theorem ok_pi {f : Addr} {fd : FuncData} (t : ClP K mg C) (F : Fun K "__init__" "Probing.__init__" sPI f fd) : FnOk P w K mg base CX0 1 f fd nPI (spPI C) := by
  refine F.ok scPI (fun vs H Q E h => ?_) (fun cdv A outer s H vs Q E hr h => ?_)
  · obtain ⟨p, dx, rfl, _⟩ := h
    rfl
  · obtain ⟨p, dx, rfl, hp, q⟩ := h
    refine ⟨_, pss_one (ps_fld (pv 0) pe_dnewT rfl), ?_⟩
    intro D nD
    have n1 : p ≠ D := ne_of_none hp nD
    refine ⟨_, rfl, p, C, dx, [], rfl, (by rw [upd_ne n1]; exact hp), t.cl, t.nK, by show 0 < 1000; decide, ?_⟩
    exact q _ D (fun b o nb hb => by rw [upd_ne nb, upd_ne (ne_of_none hb nD)]; exact hb) nD ⟨dx, upd_same⟩ (by rw [upd_ne n1.symm]; exact upd_same)
theorem ov_none {v : OI} : (ov v = .non) ↔ v = none := by
  cases v with
  | none => exact ⟨fun _ => rfl, fun _ => rfl⟩
  | some n => exact ⟨fun z => (by cases z), fun z => (by cases z)⟩
set_option maxHeartbeats 8000000 in
theorem ok_pw {f : Addr} {fd : FuncData} {n : Nat} (T : Bj mg) (t' : ClP K mg C) (D_halves : Def P w K mg base CX0 1 "_halves" pHlv spHlv) (M_least : MDef P w K mg base CX0 (2 * n + 2) C "least" pPL (spPL C n))
    (F : Fun K "_with_cut" "Probing._with_cut" sPW f fd) : FnOk P w K mg base CX0 (2 * n + 3) f fd pPW (spPW C (n + 1)) := by
  have nd := scPW.nd
  refine F.ok scPW (fun vs H Q E h => ?_) (fun cdv A outer s H vs Q E hr h => ?_)
  · obtain ⟨p, D, m, t, c, r, kvs, rfl, _⟩ := h
    rfl
  · obtain ⟨p, D, m, t, c, r, kvs, rfl, h0, h1, h2, h3, h4, h5, h6, hp, hD, mk, q⟩ := h
    refine ⟨_, (pss_cons (ps_set (i := 5) nd rfl (Or.inl rfl) pe_int)
 (pss_cons (ps_for PassesOwn.never rfl (pi_listK (K := K) rfl (pe_def D_halves (hr.mono (by omega)) rfl pass0 (pa_cons (pv 1) (pa_cons (pv 2) (pa_cons (pv 3) pa_nil))))) (pg_tup rfl (pgs_cons (pg_name (i := 6) nd rfl (Or.inl rfl)) (pgs_cons (pg_name (i := 7) nd rfl (Or.inl rfl)) pgs_nil)))
  (pss_cons (ps_set (i := 8) nd rfl (Or.inl rfl) (pe_mdef M_least t'.cl hr pass0 (pv 0) (pa_cons (pe_ix (ix_tupK (K := K) rfl) (pv 6) pe_int (fun _ _ => rfl)) (pa_cons (pe_ix (ix_tupK (K := K) rfl) (pv 6) pe_int (fun _ _ => rfl)) (pa_cons (pe_op op_sub (pv 4) pe_int) pa_nil)))))
 (pss_cons (ps_set (i := 9) nd rfl (Or.inl rfl) (pe_mdef M_least t'.cl hr pass0 (pv 0) (pa_cons (pe_ix (ix_tupK (K := K) rfl) (pv 7) pe_int (fun _ _ => rfl)) (pa_cons (pe_ix (ix_tupK (K := K) rfl) (pv 7) pe_int (fun _ _ => rfl)) (pa_cons (pe_op op_sub (pv 4) pe_int) pa_nil)))))
 (pss_cons (ps_if (PW.pt (pw_or (pt_cmpR op_isN (pv 8) pe_non (nomark _)) (pw_or1 (pt_cmpR op_isN (pv 9) pe_non (nomark _)))))
  (pss_one (ps_ret pe_non))
  pss_nil)
 (pss_one (ps_set (i := 5) nd rfl (Or.inl rfl) (pe_callB (call_max2 rfl) (by rfl) T.max PyProof.Rows.boot_max (pa_cons (pv 5) (pa_cons (pe_op op_add (pv 8) (pv 9)) pa_nil)))))))))
 (pss_one (ps_ret (pe_op op_add (pv 5) pe_int))))), ?_⟩
    refine ⟨_, rfl, _, rfl, _, rfl, m, t, c, rfl, h0, h1, by omega, by omega, by omega, fun L H1 xs s1 nL hL dL => ?_⟩
    have npD : p ≠ D := by obtain ⟨dx, hp⟩ := hp; exact fun z => by rw [z, hD] at hp; cases hp
    have nLD : L ≠ D := (ne_of_none hD nL).symm
    have eN := dL.lenM
    have hD1 : H1 D = some (.dT kvs) := s1 _ _ hD
    have kT : ∀ G, Ext D H1 G → KeepT H1 G := fun G e => e.kT hD1
    refine ⟨L, rfl, ⟨xs, sq hL⟩, for_it walk_list (fun i σ G => ∃ (w' : Int) (v6 v7 v8 v9 : Option V) (kvs' : List (List L2.Key × V)), σ = WSt p m t c r w' v6 v7 v8 v9 ∧ Ext D H1 G ∧ G D = some (.dT kvs') ∧ MemoOk kvs' ∧
      wc (lp (r - 1).toNat) m t c = wrun (lp (r - 1).toNat) m t c ((ks m t c).drop i) w') ⟨0, none, none, none, none, kvs, rfl, Ext.refl _, hD1, mk, rfl⟩ (fun i σ G _ ⟨_, _, _, _, _, _, _, e, _, _, _⟩ => sq (e _ _ nLD hL)) ?_ ?_⟩
    · rintro i x σ G G' hi ⟨w', v6, v7, v8, v9, kv1, rfl, e1, hD2, mk1, wr⟩ ⟨rfl, hx⟩
      have hi2 : i < (ks m t c).length := by rw [← eN]; exact hi
      have hk : (ks m t c)[i]? = some (ks m t c)[i] := List.getElem?_eq_getElem hi2
      have hadm := mem_ks.mp (List.getElem_mem hi2)
      have hdrop : (ks m t c).drop i = (ks m t c)[i] :: (ks m t c).drop (i + 1) := List.drop_eq_getElem_cons hi2
      generalize (ks m t c)[i] = k at hk hadm hdrop
      obtain ⟨v, hv, dv⟩ := dL.at hk
      rw [hx] at hv
      cases hv
      obtain ⟨a, b1, b2, rfl, ha, hb1, hb2⟩ := (dv.kt (kT _ e1) rfl).hv
      unfold Adm at hadm
      have hp1 : PAt C G' p D := (hp.ext hD (fun b o nb hb => e1 b o nb (s1 _ _ hb)))
      obtain ⟨dx1, hp1'⟩ := id hp1
      refine ⟨a, [.ref b1, .ref b2], rfl, st ha, rfl, _, _, rfl, _, _, rfl, rfl, ?_⟩
      refine ⟨_, rfl, p, dx1, _, rfl, hp1', flK_no (x := "least") (by decide +kernel), _, rfl, b1, _, 0, .int c, rfl, rfl, st hb1, atI_nat (j := 0) rfl, _, rfl, b1, _, 1, .int k, rfl, rfl, st hb1, atI_nat (j := 1) rfl, _, rfl, _, _, rfl, rfl, ?_⟩
      refine ⟨p, D, c, k, r - 1, kv1, rfl, by omega, by omega, by omega, by omega, by omega, hp1, hD2, mk1, fun G2 kv2 e2 hD3 mk2 => ?_⟩
      have hp2 := hp1.ext hD2 e2
      obtain ⟨dx2, hp2'⟩ := id hp2
      have hb2' := (e2.kT hD2) _ _ hb2
      refine ⟨_, rfl, p, dx2, _, rfl, hp2', flK_no (x := "least") (by decide +kernel), _, rfl, b2, _, 0, .int (m - c), rfl, rfl, st hb2', atI_nat (j := 0) rfl, _, rfl, b2, _, 1, .int (t - k), rfl, rfl, st hb2', atI_nat (j := 1) rfl, _, rfl, _, _, rfl, rfl, ?_⟩
      refine ⟨p, D, m - c, t - k, r - 1, kv2, rfl, by omega, by omega, by omega, by omega, by omega, hp2, hD3, mk2, fun G3 kv3 e3 hD4 mk3 => ?_⟩
      have eE : Ext D H1 G3 := (e1.trans e2).trans e3
      rw [hdrop] at wr
      refine ⟨_, rfl, rfl, _, rfl, ?_⟩
      unfold wrun at wr
      cases f1 : lp (r - 1).toNat c k with
      | none =>
        rw [f1] at wr
        refine itbT rfl (itbT rfl ?_)
        have eq := q G3 kv3 (fun b o nb hb => eE b o nb (s1 _ _ hb)) hD4 mk3
        have : wc (lp (r - 1).toNat) m t c = none := wr
        rw [this] at eq; exact eq
      | some x1 =>
        rw [f1] at wr
        refine itbF rfl ⟨_, rfl, rfl, _, rfl, ?_⟩
        cases f2 : lp (r - 1).toNat (m - c) (t - k) with
        | none =>
          rw [f2] at wr
          refine itbT rfl ?_
          have eq := q G3 kv3 (fun b o nb hb => eE b o nb (s1 _ _ hb)) hD4 mk3
          have : wc (lp (r - 1).toNat) m t c = none := wr
          rw [this] at eq; exact eq
        | some x2 =>
          rw [f2] at wr
          refine itbF rfl ?_
          refine ⟨_, rfl, _, rfl, _, rfl, _, _, rfl, rfl, _, _, rfl, ?_⟩
          exact ⟨_, _, _, _, _, kv3, rfl, eE, hD4, mk3, wr⟩
    · rintro σ G ⟨w', v6, v7, v8, v9, kv1, rfl, e1, hD2, mk1, wr⟩
      refine ⟨_, rfl, _, _, rfl, rfl, ?_⟩
      rw [List.drop_of_length_le (by rw [eN]; exact Nat.le_refl _)] at wr
      have eq := q G kv1 (fun b o nb hb => e1 b o nb (s1 _ _ hb)) hD2 mk1
      have : wc (lp (r - 1).toNat) m t c = some (w' + 1) := wr
      rw [this] at eq; exact eq
end
end K1


set_option Elab.async false
set_option linter.all false
set_option maxRecDepth 100000
set_option maxHeartbeats 4000000
namespace K1
open PySem PySem.Spec PyProof.Rows L2 RZ
def mn (a b : Int) : Int := if b < a then b else a
theorem lp_mn {r : Nat} {m t : Int} (h0 : 0 ≤ t) (h1 : t ≤ m) : lp r m (mn t (m - t)) = lp r m t := by
  unfold mn
  split
  · exact lp_sym _ m t h0 h1
  · rfl
/-- what the memo holds at the key -/
theorem lp_key {m t r : Int} (h0 : 0 ≤ t) (h1 : t ≤ m) (h2 : 1 ≤ m) (h3 : 0 ≤ r) : lp (mn r (m - 1)).toNat m (mn t (m - t)) = lp r.toNat m t := by
  have e1 : lp (mn r (m - 1)).toNat m t = lp r.toNat m t := by
    unfold mn
    split
    · exact lp_clip _ _ m t h2 (by omega) (by omega) h0 h1
    · rfl
  rw [← e1]
  exact lp_mn h0 h1
theorem lp_stp {m t r : Int} (h2 : 2 ≤ m) (h3 : 1 ≤ r) (c : ¬ clr m t) : omin ((cuts m).filterMap (wc (lp (mn r (m - 1) - 1).toNat) m t)) = lp (mn r (m - 1)).toNat m t := by
  have : 1 ≤ mn r (m - 1) := by unfold mn; split <;> omega
  obtain ⟨j, hj⟩ : ∃ j : Nat, (mn r (m - 1)).toNat = j + 1 := ⟨(mn r (m - 1)).toNat - 1, by omega⟩
  rw [show (mn r (m - 1) - 1).toNat = j by omega, hj]
  show _ = stp (lp j) m t
  unfold stp
  rw [if_neg c]
theorem omin_le {l : List Int} : (l = [] ∧ omin l = none) ∨ ∃ m ∈ l, (∀ y ∈ l, m ≤ y) ∧ omin l = some m := by
  cases l with
  | nil => exact .inl ⟨rfl, rfl⟩
  | cons a r =>
    refine .inr ?_
    have h := (le_omin (p := a) (a :: r)).mpr ⟨a, List.mem_cons_self, Int.le_refl a⟩
    obtain ⟨x, e, _⟩ := h
    have h1 := (le_omin (p := x) (a :: r)).mp ⟨x, e, Int.le_refl x⟩
    obtain ⟨y, hy, h2⟩ := h1
    have low : ∀ y ∈ a :: r, x ≤ y := fun y hy => by
      have := (le_omin (p := y) (a :: r)).mpr ⟨y, hy, Int.le_refl y⟩
      rw [e, Le.some] at this; exact this
    have : y = x := by have := low y hy; omega
    exact ⟨x, this ▸ hy, low, e⟩
theorem fm_snoc {f : Int → OI} {l : List Int} {c : Int} : (l ++ [c]).filterMap f = l.filterMap f ++ (match f c with | none => [] | some x => [x]) := by
  rw [List.filterMap_append, List.filterMap_cons]
  cases f c <;> rfl
section
variable {P : Program} {w : World} {K : PySem.W.Frag} {mg : Str → Option Value} {base : Heap} {C : Addr}
set_option maxHeartbeats 8000000 in
theorem ok_pl {f : Addr} {fd : FuncData} {n : Nat} (T : Bj mg) (t' : ClP K mg C) (D_is_clear : Def P w K mg base CX0 1 "_is_clear" nClr spClr) (M_wc : MDef P w K mg base CX0 (2 * n + 1) C "_with_cut" pPW (spPW C n))
    (F : Fun K "least" "Probing.least" sPL f fd) : FnOk P w K mg base CX0 (2 * n + 2) f fd pPL (spPL C n) := by
  have nd := scPL.nd
  refine F.ok scPL (fun vs H Q E h => ?_) (fun cdv A outer s H vs Q E hr h => ?_)
  · obtain ⟨p, D, m, t, r, kvs, rfl, _⟩ := h
    rfl
  · obtain ⟨p, D, m, t, r, kvs, rfl, h0, h1, h2, h3, h4, hp, hD, mk, q⟩ := h
    refine ⟨_, (pss_cons (ps_if (pt_val (pe_def D_is_clear (hr.mono (by omega)) rfl pass0 (pa_cons (pv 1) (pa_cons (pv 2) pa_nil))))
  (pss_one (ps_ret pe_int))
  pss_nil)
 (pss_cons (ps_if (pt_cmpR op_eq (pv 3) pe_int (nomark _))
  (pss_one (ps_ret pe_non))
  pss_nil)
 (pss_cons (ps_set (i := 4) nd rfl (Or.inr rfl) (pe_tup (pa_cons (pv 1) (pa_cons (pe_callB (call_min2 rfl) (by rfl) T.min PyProof.Rows.boot_min (pa_cons (pv 2) (pa_cons (pe_op op_sub (pv 1) (pv 2)) pa_nil))) (pa_cons (pe_callB (call_min2 rfl) (by rfl) T.min PyProof.Rows.boot_min (pa_cons (pv 3) (pa_cons (pe_op op_sub (pv 1) pe_int) pa_nil))) pa_nil)))))
 (pss_cons (ps_if (pt_cmp (pc_dnotin (hu_of hr) (pv 4) (pe_fld (pv 0) rfl)))
  (pss_cons (ps_setLc (i := 5) (own := [("cut", 6)]) (g := gName 6) (tt := tYes) rfl nd rfl rfl (sw_true rfl rfl rfl (by decide +kernel)) (pi_range2 rfl T.range (pa_cons pe_int (pa_cons (pe_op op_add (pe_op op_fdiv (pv 1) pe_int) pe_int) pa_nil))) (blkOk_by (own := [("cut", 6)]) (N := nPL) (sc := defScope sPL) (by decide +kernel)) (fun _ _ _ _ _ => pg_name (i := 6) nd rfl (Or.inl rfl)) (fun _ _ _ _ _ => pts_nil) (fun _ _ _ _ _ => (pe_mdef M_wc t'.cl hr pass0 (pv 0) (pa_cons (pv 1) (pa_cons (pv 2) (pa_cons (pv 6) (pa_cons (pe_ix (ix_tupK (K := K) rfl) (pv 4) pe_int (fun _ _ => rfl)) pa_nil)))))))
 (pss_one (ps_dput (hu_of hr) (pe_fld (pv 0) rfl) (pv 4) (pe_callBK (cr_minD (K := K) rfl rfl hr.units) (by rfl) T.min PyProof.Rows.boot_min (pa_cons (pe_lc (own := [("number", 7)]) (g := gName 7) rfl nd (pi_listK (K := K) rfl (pv 5)) (blkOk_by (own := [("number", 7)]) (N := nPL) (sc := defScope sPL) (by decide +kernel)) (fun _ _ _ _ _ => pg_name (i := 7) nd rfl (Or.inl rfl)) (fun _ _ _ _ _ => pts_one (pt_cmpR op_notN (pv 7) pe_non (nomark _))) (fun _ _ _ _ _ => (pv 7))) pa_nil) (pk_cons pe_non pk_nil)) (by rfl))))
  pss_nil)
 (pss_one (ps_ret (pe_dget (hu_of hr) (pe_fld (pv 0) rfl) (pv 4) (fun _ _ => rfl)))))))), ?_⟩
    refine ⟨_, rfl, _, rfl, m, t, rfl, fun H1 s1 => ⟨_, rfl, ?_⟩⟩
    have hD1 := s1 _ _ hD
    by_cases c : clr m t
    · refine itbT (decide_eq_true c) ?_
      have := q H1 kvs (same_ext s1) hD1 mk
      rw [lp_clr c] at this; exact this
    refine itbF (decide_eq_false c) ?_
    refine ⟨_, rfl, rfl, _, rfl, ?_⟩
    by_cases c0 : r = 0
    · subst c0
      refine itbT rfl ?_
      have := q H1 kvs (same_ext s1) hD1 mk
      rw [show (0 : Int).toNat = 0 from rfl, lp_zero c] at this; exact this
    refine itbF (decide_eq_false (fun z => c0 (by injection z))) ?_
    have c' := c
    unfold clr at c'
    have m2 : 2 ≤ m := by omega
    refine ⟨_, rfl, _, rfl, _, rfl, _, rfl, _, _, rfl, rfl, _, _, rfl, _, rfl, _, rfl, _, _, rfl, rfl, _, _, rfl, (by show 3 ≤ sizeLine; decide), fun U nU => ?_⟩
    have kU : ((k3 m (mn t (m - t)) (mn r (m - 1))).map kV) = [.int m, .int (mn t (m - t)), .int (mn r (m - 1))] := rfl
    have hU : (upd H1 U (.tup [.int m, .int (mn t (m - t)), .int (mn r (m - 1))])) U = some (.tup ((k3 m (mn t (m - t)) (mn r (m - 1))).map kV)) := upd_same
    have s2 := s1.new (o := .tup [.int m, .int (mn t (m - t)), .int (mn r (m - 1))]) nU
    have eU : (HO.tup [V.int m, V.int (if m - t < t then m - t else t), V.int (if m - 1 < r then m - 1 else r)]) = .tup [.int m, .int (mn t (m - t)), .int (mn r (m - 1))] := rfl
    rw [eU]
    generalize upd H1 U (.tup [.int m, .int (mn t (m - t)), .int (mn r (m - 1))]) = H2 at s2 hU
    have hD2 := s2 _ _ hD
    obtain ⟨dx, hp0⟩ := id hp
    have hp2 := s2 _ _ hp0
    have mr : 1 ≤ mn r (m - 1) ∧ mn r (m - 1) ≤ 23 := by unfold mn; split <;> omega
    have mt : 0 ≤ mn t (m - t) ∧ mn t (m - t) ≤ 24 := by unfold mn; split <;> omega
    have fin : ∀ (G : Hp) (kvs' : List (List L2.Key × V)) (v5 v6 v7 : Option V), Ext D H G → G D = some (.dT kvs') → MemoOk kvs' → G U = some (.tup ((k3 m (mn t (m - t)) (mn r (m - 1))).map kV)) → (∃ v, valV kvs' (k3 m (mn t (m - t)) (mn r (m - 1))) = some v) →
        (tRet (tDGet (tFld K (tVar 0) "_known") (tVar 4))) { nx := fun _ H' => Q .non H', rt := Q } [some (.ref p), some (.int m), some (.int t), some (.int r), some (.ref U), v5, v6, v7] G := fun G kvs' v5 v6 v7 eG hG mk' hUG ⟨v, hv⟩ => by
      obtain ⟨dx', hpG⟩ := hp.ext hD eG
      refine ⟨_, rfl, p, C, dx', _, _, rfl, hpG, t'.cl, t'.nK, flK_at, _, rfl, D, v, rfl, ?_, ?_⟩
      · have := DGet.t (k := k3 m (mn t (m - t)) (mn r (m - 1))) hG hUG
        rw [hv] at this; exact this
      · have e := mk'.val _ _ _ _ hv
        rw [lp_key h0 h1 (by omega) h4] at e
        rw [e]
        exact q G kvs' eG hG mk'
    refine ⟨_, rfl, _, rfl, p, C, dx, _, _, rfl, hp2, t'.cl, t'.nK, flK_at, D, _, rfl, DGet.t (k := k3 m (mn t (m - t)) (mn r (m - 1))) hD2 hU, _, rfl, ?_⟩
    cases hv : valV kvs (k3 m (mn t (m - t)) (mn r (m - 1))) with
    | some v =>
      refine itbF rfl ?_
      exact fin H2 kvs none none none (same_ext s2) hD2 mk hU ⟨v, hv⟩
    | none =>
      refine itbT rfl ?_
      refine ⟨_, rfl, _, _, rfl, rfl, ⟨by decide, by decide⟩, _, _, rfl, rfl, _, _, rfl, ⟨by decide, by decide, by omega, by omega⟩, fun L nL => ?_⟩
      have nLD : L ≠ D := (ne_of_none hD2 nL).symm
      have nLU : L ≠ U := (ne_of_none hU nL).symm
      have nLH : H L = none := s2.free nL
      have lk : (cuts m).length = (m / 2).toNat := rgI_len _ _
      have e21 : (m / 2 + 1 - 1).toNat = (m / 2).toNat := by congr 1; omega
      have nDU : U ≠ D := fun z => by rw [z, hD2] at hU; cases hU
      refine lc_range (fun i G => Ext D H G ∧ (∃ kv', G D = some (.dT kv') ∧ MemoOk kv') ∧ G U = some (.tup ((k3 m (mn t (m - t)) (mn r (m - 1))).map kV)) ∧ G L = some (.lst (((cuts m).take i).map fun c => ov (wc (lp (mn r (m - 1) - 1).toNat) m t c)))) ⟨(same_ext s2).mut nLH, ⟨kvs, by rw [upd_ne nLD.symm]; exact hD2, mk⟩, by rw [upd_ne nLU.symm]; exact hU, upd_same⟩ ?_ ?_
      · rintro i G hi ⟨eG, ⟨kv1, hG, mk1⟩, hUG, hLG⟩
        have hi2 : i < (m / 2).toNat := by rw [← e21]; exact hi
        obtain ⟨dx', hpG⟩ := hp.ext hD eG
        refine ⟨rfl, tyes ⟨_, rfl, p, dx', _, rfl, hpG, flK_no (x := "_with_cut") (by decide +kernel), _, rfl, _, rfl, _, rfl, _, rfl, U, _, 2, .int (mn r (m - 1)), rfl, rfl, st hUG, atI_nat (j := 2) rfl, ?_⟩⟩
        refine ⟨p, D, m, t, 1 + (i : Int), mn r (m - 1), kv1, rfl, h0, h1, h2, h3, by omega, by omega, by omega, ⟨dx', hpG⟩, hG, mk1, fun G2 kv2 e2 hG2 mk2 => ?_⟩
        have hL2 := e2 _ _ nLD hLG
        have hU2 := e2 _ _ nDU hUG
        refine ⟨_, hL2, lt2 _ (by rw [List.length_map, List.length_take]; omega), (eG.trans e2).mut nLH, ⟨kv2, by rw [upd_ne nLD.symm]; exact hG2, mk2⟩, by rw [upd_ne nLU.symm]; exact hU2, ?_⟩
        have hk : (cuts m)[i]? = some (1 + (i : Int)) := rgI_at hi2
        rw [upd_same, take_more hk, List.map_append]; rfl
      · rintro G ⟨eG, ⟨kv1, hG, mk1⟩, hUG, hLG⟩
        rw [List.take_of_length_le (by rw [lk, e21]; exact Nat.le_refl _)] at hLG
        refine ⟨_, rfl, L, rfl, ⟨_, sq hLG⟩, fun M nM => ?_⟩
        have nMD : M ≠ D := (ne_of_none hG nM).symm
        have nML : M ≠ L := (ne_of_none hLG nM).symm
        have nMU : M ≠ U := (ne_of_none hUG nM).symm
        have nMH : H M = none := by
          cases e : H M with
          | none => rfl
          | some o => rw [eG _ _ nMD e] at nM; cases nM
        refine lc_it walk_list (fun i G' => (∀ b o, b ≠ M → G b = some o → G' b = some o) ∧ G' M = some (.lst ((((cuts m).take i).filterMap (wc (lp (mn r (m - 1) - 1).toNat) m t)).map V.int))) ⟨fun b o nb hb => by rw [upd_ne nb]; exact hb, upd_same⟩ (fun i G' _ ⟨k, _⟩ => sq (k _ _ nML.symm hLG)) ?_ ?_
        · rintro i x G' G2 hi ⟨kp, hM⟩ ⟨rfl, hx⟩
          rw [List.length_map, lk] at hi
          have hk : (cuts m)[i]? = some (1 + (i : Int)) := rgI_at hi
          rw [List.getElem?_map, hk] at hx
          have hx : some (ov (wc (lp (mn r (m - 1) - 1).toNat) m t (1 + (i : Int)))) = some x := hx
          cases hx
          have ln : (((cuts m).take i).filterMap (wc (lp (mn r (m - 1) - 1).toNat) m t)).length ≤ i := by
            refine Nat.le_trans (List.length_filterMap_le _ _) ?_
            rw [List.length_take]; omega
          rw [take_more hk, fm_snoc]
          refine ⟨rfl, ⟨_, rfl, rfl, _, rfl, ?_⟩⟩
          cases e : wc (lp (mn r (m - 1) - 1).toNat) m t (1 + (i : Int)) with
          | none =>
            refine itbF rfl ?_
            exact ⟨kp, by rw [List.append_nil]; exact hM⟩
          | some y =>
            refine itbT rfl ?_
            exact ⟨_, rfl, _, hM, lt2 _ (by rw [List.length_map]; omega), fun b o nb hb => by rw [upd_ne nb]; exact kp b o nb hb, by rw [upd_same, List.map_append]; rfl⟩
        · rintro G' ⟨kp, hM⟩
          rw [List.length_map, List.take_of_length_le (Nat.le_refl _)] at hM
          have hG' := kp _ _ nMD.symm hG
          have hU' := kp _ _ nMU.symm hUG
          have eG' : Ext D H G' := fun b o nb hb => kp b o (fun z => by rw [z, nMH] at hb; cases hb) (eG b o nb hb)
          obtain ⟨dx', hpG⟩ := hp.ext hD eG'
          have last : ∀ v : V, v = ov (lp (mn r (m - 1)).toNat m t) → tFld K (tVar 0) "_known" [some (.ref p), some (.int m), some (.int t), some (.int r), some (.ref U), some (.ref L), none, none] G' fun x H2 => tVar 4 [some (.ref p), some (.int m), some (.int t), some (.int r), some (.ref U), some (.ref L), none, none] H2 fun y H3 => ∃ a H4, x = .ref a ∧ DPut H3 a y v H4 ∧
              (tRet (tDGet (tFld K (tVar 0) "_known") (tVar 4))) { nx := fun _ H' => Q .non H', rt := Q } [some (.ref p), some (.int m), some (.int t), some (.int r), some (.ref U), some (.ref L), none, none] H4 := fun v hv => by
            refine ⟨_, rfl, p, C, dx', _, _, rfl, hpG, t'.cl, t'.nK, flK_at, _, rfl, D, _, rfl, DPut.t hG' hU' (Nat.lt_of_le_of_lt mk1.len (by decide)), ?_⟩
            have mk2 := mk1.put (m := m) (t := mn t (m - t)) (r := mn r (m - 1)) (v := v) ⟨by omega, by omega⟩ ⟨by omega, by omega⟩ ⟨by omega, by omega⟩ (by
              rw [hv, lp_mn h0 h1])
            refine fin _ _ _ _ _ eG'.self upd_same mk2 (by rw [upd_ne nDU]; exact hU') ⟨v, ?_⟩
            rw [valV_put, if_pos rfl]
          have eS := lp_stp (r := r) m2 (by omega) c
          refine ⟨M, _, .non, rfl, rfl, sq hM, fun e0 => ?_, fun y hy lo => ?_⟩
          · rw [e0] at eS
            exact last .non (by rw [← eS]; rfl)
          · exact last (.int y) (by rw [← eS, omin_of hy lo]; rfl)
end
end K1


set_option Elab.async false
set_option linter.all false
set_option maxRecDepth 100000
set_option maxHeartbeats 4000000
namespace K1
open PySem PySem.Spec PyProof.Rows L2 RZ
theorem asg_go {te : TE} {g : TG} {tb : TS} {D : Ends} {σ : L2.St} {H : Hp} (h : te σ H fun v H1 => g v σ H1 fun σ2 H2 => tb D σ2 H2) : tSeq (tAsg te g) tb D σ H := h
theorem next_go {D : Ends} {σ : L2.St} {H : Hp} (h : D.nx σ H) : tNext D σ H := h
theorem pss_any {X : Cx} {b : List Stmt} : PSs X b (fun _ _ _ => False) := ⟨fun _ _ _ _ _ _ h => h.elim⟩
def AtM (K : PySem.W.Frag) (C : Addr) (m q : Str) (st : Stmt) : Prop := ∃ (f : Addr) (fd : FuncData), Meth K C m f ∧ Fun K m q st f fd
section
variable {K : PySem.W.Frag} {mg : Str → Option Value}
theorem AtM.mdef {P : Program} {w : World} {base : Heap} {CX : CXT} {k : Nat} {C : Addr} {m q : Str} {ps : List Str} {sp : Sp} {st : Stmt} (a : AtM K C m q st)
    (hb : ∀ (kV doc pm : Value) (an : Option Addr) (cdv ct : Value) (us : List Value), us.length = ps.length → bindArgs (PySem.W.fnOf m q (defArgs st) (defBody st) (defScope st) .none kV doc pm an cdv ct) ⟨us, []⟩ = pure (ps.zip us))
    (ok : ∀ (f : Addr) (fd : FuncData), Fun K m q st f fd → FnOk P w K mg base CX k f fd ps sp) : MDef P w K mg base CX k C m ps sp := by
  obtain ⟨f, fd, hm, F⟩ := a
  refine ⟨f, fd, hm, ?_, ok f fd F⟩
  obtain ⟨oc, od, kV, doc, pm, an, cdv, ct, osl, rfl, lk, hcd⟩ := F.ex
  exact F.binds hb
end
section
variable {P : Program} {w : World} {K : PySem.W.Frag} {mg : Str → Option Value} {base : Heap} {C : Addr}
theorem pw_none {f : Addr} {fd : FuncData} : FnOk P w K mg base CX0 1 f fd pPW (spPW C 0) := by
  have no : ∀ vs H Q E, ¬ spPW C 0 vs H Q E := fun vs H Q E h => by
    obtain ⟨p, D, m, t, c, r, kvs, _, h0, h1, h2, _, h4, h5, _⟩ := h
    omega
  exact ⟨fun vs H Q E h => absurd h (no vs H Q E), fun A outer s H args us vs Q E _ _ _ _ h => absurd h (no vs H Q E)⟩
/-- both methods, by the number -/
theorem both (T : Bj mg) (t' : ClP K mg C) (D_is_clear : Def P w K mg base CX0 1 "_is_clear" nClr spClr) (D_halves : Def P w K mg base CX0 1 "_halves" pHlv spHlv) (aL : AtM K C "least" "Probing.least" sPL) (aW : AtM K C "_with_cut" "Probing._with_cut" sPW) :
    ∀ n : Nat, MDef P w K mg base CX0 (2 * n + 2) C "least" pPL (spPL C n) ∧ MDef P w K mg base CX0 (2 * n + 1) C "_with_cut" pPW (spPW C n)
  | 0 => by
    have hW : MDef P w K mg base CX0 (2 * 0 + 1) C "_with_cut" pPW (spPW C 0) := aW.mdef (fun _ _ _ _ _ _ us hl => match us, hl with | [_, _, _, _, _], _ => rfl) fun f fd F => pw_none
    exact ⟨aL.mdef (fun _ _ _ _ _ _ us hl => match us, hl with | [_, _, _, _], _ => rfl) fun f fd F => ok_pl T t' D_is_clear hW F, hW⟩
  | n + 1 => by
    have ih := both T t' D_is_clear D_halves aL aW n
    have hW : MDef P w K mg base CX0 (2 * (n + 1) + 1) C "_with_cut" pPW (spPW C (n + 1)) := aW.mdef (fun _ _ _ _ _ _ us hl => match us, hl with | [_, _, _, _, _], _ => rfl) fun f fd F => ok_pw T t' D_halves ih.1 F
    exact ⟨aL.mdef (fun _ _ _ _ _ _ us hl => match us, hl with | [_, _, _, _], _ => rfl) fun f fd F => ok_pl T t' D_is_clear hW F, hW⟩
end
/-- the making of a Probing -/
structure MkP (P : Program) (w : World) (K : PySem.W.Frag) (mg : Str → Option Value) (base : Heap) (C : Addr) : Prop where
  ex : ∃ (f : Addr) (fd : FuncData), Mk K C f ∧ Binds K fd nPI [] ∧ FnOk P w K mg base CX0 1 f fd nPI (spPI C)
theorem pe_newP {X : Cx} {C : Addr} {p pos : Pos} (D : MkP X.prog X.w X.K X.mg X.base C) (gC : X.mg "Probing" = some (.ref C)) (hr : Room 2 X.A) (hg : Gl X "Probing") :
    PE X (.Call (.Name "Probing" p) [] [] pos) (tMake C (spPI C) [] E0 tNil) := by
  obtain ⟨f, fd, hm, hb, F⟩ := D.ex
  exact pe_make0 hm F hr hg gC hb .nil pass0
/-- what the making gives -/
theorem newP {C : Addr} {H : Hp} {Q : VK} (h : ∀ (p D : Addr) (H' : Hp), Same H H' → H D = none → PAt C H' p D → H' D = some (.dT []) → (∀ b o, H b = some o → b ≠ D) → Q (.ref p) H') (σ : L2.St) : tMake C (spPI C) [] E0 tNil σ H Q := by
  intro x dx nx ndx ne
  refine ⟨x, dx, rfl, upd_same, fun H' D kp nD hp hD => ⟨rfl, ?_⟩⟩
  have nD0 : H D = none := by
    cases e : H D with
    | none => rfl
    | some o => rw [upd_ne (ne_of_none e nx), upd_ne (ne_of_none e ndx), e] at nD; cases nD
  refine h x D H' (fun b o hb => kp b o (ne_of_none hb nx) ?_) nD0 hp hD fun b o hb z => by rw [z, nD0] at hb; cases hb
  rw [upd_ne (ne_of_none hb nx), upd_ne (ne_of_none hb ndx)]; exact hb
/-! ### lists of pairs -/
def prD (e : Int × Int) : PyData := .tuple [.int e.1, .int e.2]
theorem noL_pr (e : Int × Int) : noL (prD e) = true := rfl
def PrsAt (H : Hp) (a : Addr) (l : List (Int × Int)) : Prop := ∃ xs, H a = some (.lst xs) ∧ DvA H xs (l.map prD)
theorem PrsAt.same {H H' : Hp} {a : Addr} {l : List (Int × Int)} (h : PrsAt H a l) (s : Same H H') : PrsAt H' a l := let ⟨xs, h1, h2⟩ := h; ⟨xs, s _ _ h1, h2.same s⟩
theorem PrsAt.keep {H H' : Hp} {a : Addr} {l : List (Int × Int)} (h : PrsAt H a l) (k : KeepT H H') (e : ∀ xs, H a = some (.lst xs) → H' a = some (.lst xs)) : PrsAt H' a l := let ⟨xs, h1, h2⟩ := h; ⟨xs, e _ h1, h2.kt k (noLA_map _ noL_pr l)⟩
/-- but a dict all stays -/
theorem PrsAt.extD {H H' : Hp} {a D : Addr} {l : List (Int × Int)} {kvs : List (List L2.Key × V)} (h : PrsAt H a l) (hD : H D = some (.dT kvs)) (e : Ext D H H') : PrsAt H' a l :=
  h.keep (e.kT hD) fun xs z => e _ _ (fun y => by rw [y, hD] at z; cases z) z
theorem PrsAt.snoc {H : Hp} {a T : Addr} {l : List (Int × Int)} {x y : Int} {xs : List V} (h1 : H a = some (.lst xs)) (h2 : DvA H xs (l.map prD)) (hT : H T = some (.tup [.int x, .int y])) :
    PrsAt (upd H a (.lst (xs ++ [.ref T]))) a (l ++ [(x, y)]) := by
  refine ⟨_, upd_same, ?_⟩
  have kt : KeepT H (upd H a (.lst (xs ++ [.ref T]))) := KeepT.upd (fun _ _ h => h) fun ys z => by rw [h1] at z; cases z
  rw [List.map_append]
  refine DvA.kt kt (h2.app (.cons (.tup hT (.cons (.int x) (.cons (.int y) .nil))) .nil)) ?_
  show noLA (l.map prD ++ [(x, y)].map prD) = true
  rw [← List.map_append]
  exact noLA_map _ noL_pr _
abbrev sCk : Stmt := st__check_many
abbrev nCk : List Str := ["many", "there"]
theorem scCk : FnScope nCk nCk (defScope sCk) := ⟨rfl, rfl, rfl, by decide +kernel, rfl, by decide +kernel, by decide +kernel⟩
def spCk : Sp := fun vs H Q _ => ∃ (m t : Int), vs = [.int m, .int t] ∧ 0 ≤ t ∧ t ≤ m ∧ m ≤ 24 ∧ Q .non H
abbrev sLP : Stmt := st_least_probes
abbrev nLP : List Str := ["many", "there", "rounds"]
theorem scLP : FnScope nLP nLP (defScope sLP) := ⟨rfl, rfl, rfl, by decide +kernel, rfl, by decide +kernel, by decide +kernel⟩
def spLP : Sp := fun vs H Q _ => ∃ (m t r : Int) (x : V), vs = [.int m, .int t, x] ∧ (x = .non ∧ r = m ∨ x = .int r) ∧ 0 ≤ t ∧ t ≤ m ∧ m ≤ 24 ∧ 0 ≤ r ∧ ∀ H', Same H H' → Q (ov (lp r.toNat m t)) H'
abbrev sLR : Stmt := st_least_rounds
theorem scLR : FnScope nCk nCk (defScope sLR) := ⟨rfl, rfl, rfl, by decide +kernel, rfl, by decide +kernel, by decide +kernel⟩
def spLR : Sp := fun vs H Q _ => ∃ (m t x y : Int) (l : List (Int × Int)), vs = [.int m, .int t] ∧ 0 ≤ t ∧ t ≤ m ∧ m ≤ 24 ∧ crv m t (m + 1).toNat = (x, y) :: l ∧ ∀ H', Same H H' → Q (.int x) H'
abbrev sCv : Stmt := st_curve
theorem scCv : FnScope nCk nCk (defScope sCv) := ⟨rfl, rfl, rfl, by decide +kernel, rfl, by decide +kernel, by decide +kernel⟩
abbrev sCu : Stmt := st__curve
abbrev nCu : List Str := ["many", "there", "probing", "rows", "rounds", "probes"]
theorem scCu : FnScope nCu nCk (defScope sCu) := ⟨rfl, rfl, rfl, by decide +kernel, rfl, by decide +kernel, by decide +kernel⟩
def spCu : Sp := fun vs H Q _ => ∃ (m t : Int), vs = [.int m, .int t] ∧ 0 ≤ t ∧ t ≤ m ∧ m ≤ 24 ∧ ∀ L H', Same H H' → H L = none → PrsAt H' L (crv m t (m + 1).toNat) → Q (.ref L) H'
structure Cs (mg : Str → Option Value) : Prop where
  most : ∃ t, mg "MOST_NUMBERS" = some (.int 24 t)
section
variable {P : Program} {w : World} {K : PySem.W.Frag} {mg : Str → Option Value} {base : Heap} {C : Addr}
theorem ok_ck {f : Addr} {fd : FuncData} (Co : Cs mg) (D_is_integer : Def P w K mg base CX0 1 "is_integer" nV spInt) (F : Fun K "_check_many" "_check_many" sCk f fd) : FnOk P w K mg base CX0 2 f fd nCk spCk := by
  refine F.ok scCk (fun vs H Q E h => ?_) (fun cdv A outer s H vs Q E hr h => ?_)
  · obtain ⟨m, t, rfl, _⟩ := h
    rfl
  · obtain ⟨m, t, rfl, h0, h1, h2, q⟩ := h
    refine ⟨_, (pss_cons (ps_if (PW.pt (pw_or (pt_not (pt_val (pe_def D_is_integer (hr.mono (by decide)) rfl pass0 (pa_cons (pv 0) pa_nil)))) (pw_or1 (pt_not (pt_chain op_le op_le pe_int (pv 0) (pe_const Co.most rfl))))))
  pss_any
  pss_nil)
 (pss_one (ps_if (PW.pt (pw_or (pt_not (pt_val (pe_def D_is_integer (hr.mono (by decide)) rfl pass0 (pa_cons (pv 1) pa_nil)))) (pw_or1 (pt_not (pt_chain op_le op_le pe_int (pv 1) (pv 0))))))
  pss_any
  pss_nil))), ?_⟩
    refine ⟨_, rfl, m, rfl, _, rfl, itbF rfl ?_⟩
    refine ⟨_, rfl, _, _, rfl, rfl, _, rfl, itbT (decide_eq_true (by omega)) ⟨_, _, rfl, rfl, _, rfl, itbF (by rw [decide_eq_true (show m ≤ 24 by omega)]; rfl) ?_⟩⟩
    refine ⟨_, rfl, t, rfl, _, rfl, itbF rfl ?_⟩
    refine ⟨_, rfl, _, _, rfl, rfl, _, rfl, itbT (decide_eq_true (by omega)) ⟨_, rfl, _, _, rfl, rfl, _, rfl, itbF (by rw [decide_eq_true (show t ≤ m by omega)]; rfl) ?_⟩⟩
    exact q
theorem def_ck (Co : Cs mg) (D_is_integer : Def P w K mg base CX0 1 "is_integer" nV spInt) (a : At K mg "_check_many" sCk) : Def P w K mg base CX0 2 "_check_many" nCk spCk :=
  a.def (fun _ _ _ _ _ _ us hl => match us, hl with | [_, _], _ => rfl) fun f fd F => ok_ck Co D_is_integer F
theorem prs_last {l : List (Int × Int)} {xs : List V} {H : Hp} (h : DvA H xs (l.map prD)) : (l.getLast? = none ∧ xs = [] ∧ l = []) ∨ ∃ (z : Int × Int) (a : Addr), l.getLast? = some z ∧ xs ≠ [] ∧ atI xs (-1) = some (.ref a) ∧ H a = some (.tup [.int z.1, .int z.2]) := by
  cases hl : l.getLast? with
  | none =>
    have e : l = [] := List.getLast?_eq_none_iff.mp hl
    subst e
    cases h
    exact .inl ⟨rfl, rfl, rfl⟩
  | some z =>
    obtain ⟨l0, rfl⟩ := List.getLast?_eq_some_iff.mp hl
    refine .inr ⟨z, ?_⟩
    have hz : (l0 ++ [z])[l0.length]? = some z := by simp
    obtain ⟨v, hv, dv⟩ := h.at hz
    obtain ⟨a, rfl, ha⟩ := Dv.pair dv
    have hlen := h.lenM
    rw [List.length_append, List.length_singleton] at hlen
    have hx : xs = xs.take l0.length ++ [.ref a] := by
      have e1 : xs.take (l0.length + 1) = xs.take l0.length ++ [.ref a] := take_more hv
      rw [← hlen, List.take_length] at e1
      exact e1
    refine ⟨a, rfl, fun z => by rw [z] at hlen; simp at hlen, ?_, ha⟩
    rw [hx]; exact atI_last _ _
theorem ok_cu {f : Addr} {fd : FuncData} (T : Bj mg) (t' : ClP K mg C) (D_new : MkP P w K mg base C) (M_least : MDef P w K mg base CX0 50 C "least" pPL (spPL C 24)) (F : Fun K "_curve" "_curve" sCu f fd) : FnOk P w K mg base CX0 51 f fd nCk spCu := by
  have nd := scCu.nd
  refine F.ok scCu (fun vs H Q E h => ?_) (fun cdv A outer s H vs Q E hr h => ?_)
  · obtain ⟨m, t, rfl, _⟩ := h
    rfl
  · obtain ⟨m, t, rfl, h0, h1, h2, q⟩ := h
    refine ⟨_, (pss_cons (ps_set (i := 2) nd rfl (Or.inl rfl) (pe_newP D_new t'.gC (hr.mono (by decide)) rfl))
 (pss_cons (ps_set (i := 3) nd rfl (Or.inl rfl) (pe_lst pa_nil))
 (pss_cons (ps_for PassesOwn.never rfl (pi_range1 rfl T.range (pa_cons (pe_op op_add (pv 0) pe_int) pa_nil)) (pg_name (i := 4) nd rfl (Or.inl rfl))
  (pss_cons (ps_set (i := 5) nd rfl (Or.inl rfl) (pe_mdef M_least t'.cl (hr.mono (by decide)) pass0 (pv 2) (pa_cons (pv 0) (pa_cons (pv 1) (pa_cons (pv 4) pa_nil)))))
 (pss_one (ps_if (PW.pt (pw_and (pt_cmpR op_notN (pv 5) pe_non (nomark _)) (pw_and1 (PW.pt (pw_or (pt_not (pt_truth (pv 3) (by intro _; rfl))) (pw_or1 (pt_cmpR op_lt (pv 5) (pe_ix (ix_tupK (K := K) rfl) (pe_ix (ix_listK (K := K) rfl) (pv 3) (pe_un un_neg pe_int) (fun _ _ => rfl)) pe_int (fun _ _ => rfl)) (nomark _))))))))
  (pss_one (ps_expr (pe_bm PySem.F.plainAttrs_list PySem.F.slot_list_append PySem.F.type_list_append mt_append (pv 3) (pa_cons (pe_tup (pa_cons (pv 4) (pa_cons (pv 5) pa_nil))) pa_nil))))
  pss_nil))))
 (pss_one (ps_ret (pv 3)))))), ?_⟩
    refine asg_go ?_
    refine newP (fun p D H1 s1 nD hp hD _ => ?_) _
    refine ⟨(by show 0 ≤ sizeLine; decide), fun L nL => ?_⟩
    have nLD : L ≠ D := (ne_of_none hD nL).symm
    have nLH : H L = none := s1.free nL
    have hD1 : (upd H1 L (.lst [])) D = some (.dT []) := by rw [upd_ne nLD.symm]; exact hD
    have hp1 : PAt C (upd H1 L (.lst [])) p D := by
      obtain ⟨dx, hp⟩ := hp
      exact ⟨dx, by rw [upd_ne (ne_of_none hp nL)]; exact hp⟩
    have hL1 : PrsAt (upd H1 L (.lst [])) L [] := ⟨[], upd_same, .nil⟩
    have s2 := s1.new (o := .lst []) nL
    generalize upd H1 L (.lst []) = H2 at hD1 hp1 hL1 s2
    refine ⟨_, rfl, _, _, rfl, rfl, _, rfl, by omega, by omega, for_range (lo := 0) (n := (m + 1).toNat) (fun i σ G => ∃ (v4 v5 : Option V) (kvs' : List (List L2.Key × V)), σ = [some (.int m), some (.int t), some (.ref p), some (.ref L), v4, v5] ∧ Same H G ∧ PAt C G p D ∧ G D = some (.dT kvs') ∧ MemoOk kvs' ∧ PrsAt G L (crv m t i)) ⟨none, none, [], rfl, s2, hp1, hD1, MemoOk.nil, hL1⟩ ?_ ?_⟩
    · rintro i σ G hi ⟨v4, v5, kv1, rfl, sG, hpG, hG, mk1, hL⟩
      obtain ⟨dx, hpG'⟩ := id hpG
      refine ⟨_, rfl, p, dx, _, rfl, hpG', flK_no (x := "least") (by decide +kernel), _, rfl, _, rfl, _, rfl, ?_⟩
      refine ⟨p, D, m, t, 0 + (i : Int), kv1, rfl, h0, h1, by omega, by decide, by omega, hpG, hG, mk1, fun G2 kv2 e2 hG2 mk2 => ?_⟩
      have sG2 : Same H G2 := fun b o hb => e2 b o (fun z => by rw [z, nD] at hb; cases hb) (sG b o hb)
      have hL2 := hL.extD hG e2
      have hp2 := hpG.ext hG e2
      rw [show (0 + (i : Int)).toNat = i by omega]
      have eC : crv m t (i + 1) = match lp i m t with
        | none => crv m t i
        | some x => match (crv m t i).getLast? with
          | none => crv m t i ++ [((i : Int), x)]
          | some z => if x < z.2 then crv m t i ++ [((i : Int), x)] else crv m t i := rfl
      refine ⟨_, rfl, rfl, _, rfl, ?_⟩
      cases e : lp i m t with
      | none =>
        rw [e] at eC
        refine itbF rfl ?_
        exact ⟨_, _, kv2, rfl, sG2, hp2, hG2, mk2, by rw [eC]; exact hL2⟩
      | some x =>
        rw [e] at eC
        obtain ⟨xs, hx1, hx2⟩ := id hL2
        refine itbT rfl ?_
        have app : ∀ T, G2 T = none → crv m t (i + 1) = crv m t i ++ [((i : Int), x)] → ∃ (v4 v5 : Option V) (kvs' : List (List L2.Key × V)), ([some (.int m), some (.int t), some (.ref p), some (.ref L), some (.int (0 + (i : Int))), some (.int x)] : L2.St) = [some (.int m), some (.int t), some (.ref p), some (.ref L), v4, v5] ∧ Same H (upd (upd G2 T (.tup [.int (0 + (i : Int)), .int x])) L (.lst (xs ++ [.ref T]))) ∧ PAt C (upd (upd G2 T (.tup [.int (0 + (i : Int)), .int x])) L (.lst (xs ++ [.ref T]))) p D ∧ (upd (upd G2 T (.tup [.int (0 + (i : Int)), .int x])) L (.lst (xs ++ [.ref T]))) D = some (.dT kvs') ∧ MemoOk kvs' ∧ PrsAt (upd (upd G2 T (.tup [.int (0 + (i : Int)), .int x])) L (.lst (xs ++ [.ref T]))) L (crv m t (i + 1)) := fun T nT ec => by
          have sT := same_new (o := .tup [.int (0 + (i : Int)), .int x]) nT
          refine ⟨_, _, kv2, rfl, (sG2.trans sT).mut nLH, ?_, by rw [upd_ne nLD.symm]; exact sT _ _ hG2, mk2, ?_⟩
          · obtain ⟨dx2, hp2⟩ := hp2
            exact ⟨dx2, by rw [upd_ne (fun z => by have := sT _ _ hp2; rw [z, sT _ _ hx1] at this; cases this)]; exact sT _ _ hp2⟩
          · rw [ec]
            have := PrsAt.snoc (x := 0 + (i : Int)) (y := x) (sT _ _ hx1) (hx2.same sT) upd_same
            rw [show ((i : Int), x) = (0 + (i : Int), x) by rw [Int.zero_add]]
            exact this
        have ln : xs.length ≤ i := by
          rw [hx2.lenM]
          have : ∀ j, (crv m t j).length ≤ j := fun j => by
            induction j with
            | zero => exact Nat.le_refl _
            | succ j ih =>
              unfold crv
              split
              · omega
              · split
                · rw [List.length_append, List.length_singleton]; omega
                · split
                  · rw [List.length_append, List.length_singleton]; omega
                  · omega
          exact this i
        have ln2 : xs.length < sizeLine := lt2 _ (by omega)
        refine ⟨_, rfl, _, .inl ⟨xs, sq hx1, rfl⟩, ?_⟩
        rcases prs_last hx2 with ⟨e1, e2', e3'⟩ | ⟨z, a, e1, e2', e3', e4⟩
        · rw [e1] at eC
          subst e2'
          refine itbT rfl ?_
          refine itbT rfl ?_
          refine ⟨_, rfl, .inl ⟨rfl, _, sq hx1⟩, _, rfl, _, rfl, (by show 2 ≤ sizeLine; decide), fun T nT => ⟨L, _, _, rfl, rfl, same_new nT _ _ hx1, ln2, ?_⟩⟩
          exact app T nT eC
        · rw [e1] at eC
          have eb : (!(!xs.isEmpty)) = false := by
            cases xs with
            | nil => exact absurd rfl e2'
            | cons _ _ => rfl
          refine itbF eb ?_
          refine ⟨_, rfl, _, rfl, _, rfl, L, _, _, _, rfl, rfl, sq hx1, e3', a, _, 1, .int z.2, rfl, rfl, st e4, atI_nat (j := 1) rfl, _, _, rfl, rfl, _, rfl, ?_⟩
          by_cases k : x < z.2
          · refine itbT (decide_eq_true k) ?_
            refine ⟨_, rfl, .inl ⟨rfl, _, sq hx1⟩, _, rfl, _, rfl, (by show 2 ≤ sizeLine; decide), fun T nT => ⟨L, _, _, rfl, rfl, same_new nT _ _ hx1, ln2, ?_⟩⟩
            exact app T nT (eC.trans (if_pos k))
          · refine itbF (decide_eq_false k) ?_
            exact ⟨_, _, kv2, rfl, sG2, hp2, hG2, mk2, by rw [eC.trans (if_neg k)]; exact hL2⟩
    · rintro σ G ⟨v4, v5, kv1, rfl, sG, hpG, hG, mk1, hL⟩
      exact ⟨_, rfl, q L G sG nLH hL⟩
end
end K1


set_option Elab.async false
set_option linter.all false
set_option maxRecDepth 100000
set_option maxHeartbeats 4000000
namespace K1
open PySem PySem.Spec PyProof.Rows L2 RZ
theorem ret_meth {C : Addr} {m : Str} {sp : Sp} {dvs : List V} {E : XK} {ta : TE} {t : TA} {D : Ends} {σ : L2.St} {H : Hp} (h : ta σ H fun x H1 => ∃ a dx fs, x = .ref a ∧ H1 a = some (.ins C dx fs) ∧ fs.lookup m = none ∧ t σ H1 fun vs H2 => sp (x :: (vs ++ dvs)) H2 D.rt E) : tRet (tMeth C m sp dvs E ta t) D σ H := h
/-- least_probes by its name, with and without its keyword -/
structure DefLP (P : Program) (w : World) (K : PySem.W.Frag) (mg : Str → Option Value) (base : Heap) : Prop where
  ex : ∃ (f : Addr) (fd : FuncData), mg "least_probes" = some (.ref f) ∧ PySem.W.keepIn K (.ref f) = true ∧ (∃ ds, Vals [V.non] ds ∧ Binds K fd nLP ds) ∧
    KBn K fd nLP 2 ["rounds"] (fun us ws => us ++ ws) (fun vs zs => vs ++ zs) ∧ FnOk P w K mg base CX0 53 f fd nLP spLP
section
variable {X : Cx} {p pos : Pos} {e : Expr} {es : List Expr} {kws : List Keyword} {t tk : TA}
theorem pe_lp2 (D : DefLP X.prog X.w X.K X.mg X.base) (hr : Room 53 X.A) (hg : Gl X "least_probes") (ha : PA X (e :: es) t)
    (he : starEach (e :: es) X.env = (false, eval e X.env) :: starEach es X.env := by rfl) (hpl : (backTo pos (starEach es X.env)).any (·.1) = false := by rfl) :
    PE X (.Call (.Name "least_probes" p) (e :: es) [] pos) (tCall spLP [.non] E0 t) := by
  obtain ⟨f, fd, hm, hk, ⟨ds, hv, hb⟩, _, F⟩ := D.ex
  exact pe_call F hr hg hm hk hb hv pass0 ha (by decide) he hpl
theorem pe_lp3 (D : DefLP X.prog X.w X.K X.mg X.base) (hr : Room 53 X.A) (hg : Gl X "least_probes") (ha : PA X (e :: es) t) (hkw : PK X kws tk)
    (hall : (backToKw pos (keywordEach kws X.env)).all (·.1.isSome) = true := by rfl) (hks : (backToKw pos (keywordEach kws X.env)).filterMap (·.1) = ([("rounds" : Str)] : List Str) := by rfl)
    (he : starEach (e :: es) X.env = (false, eval e X.env) :: starEach es X.env := by rfl)
    (hpl : ((backTo pos (starEach (e :: es) X.env)).any (·.1) || (backToKw pos (keywordEach kws X.env)).any (·.1.isNone)) = false := by rfl) :
    PE X (.Call (.Name "least_probes" p) (e :: es) kws pos) (tCallN 2 1 spLP (fun vs zs => vs ++ zs) E0 t tk) := by
  obtain ⟨f, fd, hm, hk, _, hb, F⟩ := D.ex
  exact pe_callN F hr hg hm hk hb pass0 ha hkw hall hks (by decide) he hpl
end
section
variable {P : Program} {w : World} {K : PySem.W.Frag} {mg : Str → Option Value} {base : Heap} {C : Addr}
theorem ok_lp {f : Addr} {fd : FuncData} (t' : ClP K mg C) (D_is_integer : Def P w K mg base CX0 1 "is_integer" nV spInt) (D_check_many : Def P w K mg base CX0 2 "_check_many" nCk spCk) (D_new : MkP P w K mg base C) (M_least : MDef P w K mg base CX0 50 C "least" pPL (spPL C 24))
    (F : FunD K "least_probes" "least_probes" (defArgs sLP) (defBody sLP) (defScope sLP) [] [("rounds", .non)] f fd) : FnOk P w K mg base CX0 53 f fd nLP spLP := by
  have nd := scLP.nd
  refine F.ok scLP (fun vs H Q E h => ?_) (fun cdv A outer s H vs Q E hr h => ?_)
  · obtain ⟨m, t, r, x, rfl, _⟩ := h
    rfl
  · obtain ⟨m, t, r, x, rfl, hx, h0, h1, h2, h3, q⟩ := h
    refine ⟨_, (pss_cons (ps_expr (pe_def D_check_many (hr.mono (by decide)) rfl pass0 (pa_cons (pv 0) (pa_cons (pv 1) pa_nil))))
 (pss_cons (ps_if (pt_cmpR op_isN (pv 2) pe_non (nomark _))
  (pss_one (ps_set (i := 2) nd rfl (Or.inl rfl) (pv 0)))
  pss_nil)
 (pss_cons (ps_if (PW.pt (pw_or (pt_not (pt_val (pe_def D_is_integer (hr.mono (by decide)) rfl pass0 (pa_cons (pv 2) pa_nil)))) (pw_or1 (pt_cmpR op_lt (pv 2) pe_int (nomark _)))))
  pss_any
  pss_nil)
 (pss_one (ps_ret (pe_mdef M_least t'.cl (hr.mono (by decide)) pass0 (pe_newP D_new t'.gC (hr.mono (by decide)) rfl) (pa_cons (pv 0) (pa_cons (pv 1) (pa_cons (pv 2) pa_nil))))))))), ?_⟩
    have fin : ∀ (H : Hp), (∀ H', Same H H' → Q (ov (lp r.toNat m t)) H') → (tSeq (tIfS (tOr (tNot (tB (tCall spInt [] E0 (tCons (tVar 2) tNil)))) (tTest (tOp (rI0 fun i j => V.bl (decide (i < j))) (tVar 2) (tC (V.int 0))))) (fun _ _ _ => False) tNext) (tRet (tMeth C "least" (spPL C 24) [] E0 (tMake C (spPI C) [] E0 tNil) (tCons (tVar 0) (tCons (tVar 1) (tCons (tVar 2) tNil)))))) { nx := fun _ H' => Q .non H', rt := Q } [some (.int m), some (.int t), some (.int r)] H := fun H q => by
      refine ⟨_, rfl, r, rfl, _, rfl, itbF rfl ?_⟩
      refine ⟨_, rfl, _, _, rfl, rfl, _, rfl, itbF (decide_eq_false (by omega)) ?_⟩
      refine next_go ?_
      dsimp only
      refine ret_meth ?_
      refine newP (fun p D H1 s1 nD hp hD _ => ?_) _
      obtain ⟨dx, hp'⟩ := id hp
      refine ⟨p, dx, _, rfl, hp', flK_no (x := "least") (by decide +kernel), _, rfl, _, rfl, _, rfl, ?_⟩
      refine ⟨p, D, m, t, r, [], rfl, h0, h1, by omega, by decide, h3, hp, hD, MemoOk.nil, fun G kvs' e2 _ _ => ?_⟩
      exact q G fun b o hb => e2 b o (fun z => by rw [z, nD] at hb; cases hb) (s1 b o hb)
    refine ⟨_, rfl, _, rfl, m, t, rfl, h0, h1, h2, ?_⟩
    rcases hx with ⟨rfl, rfl⟩ | rfl
    · refine ⟨_, rfl, rfl, _, rfl, itbT rfl ?_⟩
      exact ⟨_, rfl, fin H q⟩
    · refine ⟨_, rfl, rfl, _, rfl, itbF rfl ?_⟩
      exact fin H q
theorem def_lp (t' : ClP K mg C) (D_is_integer : Def P w K mg base CX0 1 "is_integer" nV spInt) (D_check_many : Def P w K mg base CX0 2 "_check_many" nCk spCk) (D_new : MkP P w K mg base C) (M_least : MDef P w K mg base CX0 50 C "least" pPL (spPL C 24))
    {f : Addr} {fd : FuncData} (hm : mg "least_probes" = some (.ref f)) (F : FunD K "least_probes" "least_probes" (defArgs sLP) (defBody sLP) (defScope sLP) [] [("rounds", .non)] f fd) : DefLP P w K mg base := by
  refine ⟨f, fd, hm, F.kp, ?_, ?_, ok_lp t' D_is_integer D_check_many D_new M_least F⟩
  · exact F.binds0 (ps := nLP) 2 (by simp) rfl (fun D doc pm an cdv ct us ks h1 h2 => match us, ks, h1, h2 with | [_, _], [_], _, _ => ⟨_, _, _, _, _, _, rfl, rfl, rfl⟩)
  · obtain ⟨mv, h⟩ := F.kbinds0 (ps := nLP) 2 ["rounds"] [] (fun us mv ws => us ++ ws) (by simp) (fun q hq => by cases hq) (fun r1 r2 r3 => r1.append r3)
      (fun D doc pm an cdv ct us mv ws h1 h2 h3 => match us, mv, ws, h1, h2, h3 with | [_, _], [], [_], _, _, _ => rfl)
    exact h
theorem def_cu (T : Bj mg) (t' : ClP K mg C) (D_new : MkP P w K mg base C) (M_least : MDef P w K mg base CX0 50 C "least" pPL (spPL C 24)) (a : At K mg "_curve" sCu) : Def P w K mg base CX0 51 "_curve" nCk spCu :=
  a.def (fun _ _ _ _ _ _ us hl => match us, hl with | [_, _], _ => rfl) fun f fd F => ok_cu T t' D_new M_least F
theorem ok_cv {f : Addr} {fd : FuncData} (D_check_many : Def P w K mg base CX0 2 "_check_many" nCk spCk) (D_curve : Def P w K mg base CX0 51 "_curve" nCk spCu) (F : Fun K "curve" "curve" sCv f fd) : FnOk P w K mg base CX0 52 f fd nCk spCu := by
  refine F.ok scCv (fun vs H Q E h => ?_) (fun cdv A outer s H vs Q E hr h => ?_)
  · obtain ⟨m, t, rfl, _⟩ := h
    rfl
  · obtain ⟨m, t, rfl, h0, h1, h2, q⟩ := h
    refine ⟨_, (pss_cons (ps_expr (pe_def D_check_many (hr.mono (by decide)) rfl pass0 (pa_cons (pv 0) (pa_cons (pv 1) pa_nil))))
 (pss_one (ps_ret (pe_def D_curve (hr.mono (by decide)) rfl pass0 (pa_cons (pv 0) (pa_cons (pv 1) pa_nil)))))), ?_⟩
    refine ⟨_, rfl, _, rfl, m, t, rfl, h0, h1, h2, ?_⟩
    exact ⟨_, rfl, _, rfl, m, t, rfl, h0, h1, h2, q⟩
theorem def_cv (D_check_many : Def P w K mg base CX0 2 "_check_many" nCk spCk) (D_curve : Def P w K mg base CX0 51 "_curve" nCk spCu) (a : At K mg "curve" sCv) : Def P w K mg base CX0 52 "curve" nCk spCu :=
  a.def (fun _ _ _ _ _ _ us hl => match us, hl with | [_, _], _ => rfl) fun f fd F => ok_cv D_check_many D_curve F
theorem ok_lr {f : Addr} {fd : FuncData} (D_check_many : Def P w K mg base CX0 2 "_check_many" nCk spCk) (D_curve : Def P w K mg base CX0 51 "_curve" nCk spCu) (F : Fun K "least_rounds" "least_rounds" sLR f fd) : FnOk P w K mg base CX0 52 f fd nCk spLR := by
  refine F.ok scLR (fun vs H Q E h => ?_) (fun cdv A outer s H vs Q E hr h => ?_)
  · obtain ⟨m, t, x, y, l, rfl, _⟩ := h
    rfl
  · obtain ⟨m, t, x, y, l, rfl, h0, h1, h2, ec, q⟩ := h
    refine ⟨_, (pss_cons (ps_expr (pe_def D_check_many (hr.mono (by decide)) rfl pass0 (pa_cons (pv 0) (pa_cons (pv 1) pa_nil))))
 (pss_one (ps_ret (pe_ix (ix_tupK (K := K) rfl) (pe_ix (ix_listK (K := K) rfl) (pe_def D_curve (hr.mono (by decide)) rfl pass0 (pa_cons (pv 0) (pa_cons (pv 1) pa_nil))) pe_int (fun _ _ => rfl)) pe_int (fun _ _ => rfl))))), ?_⟩
    refine ⟨_, rfl, _, rfl, m, t, rfl, h0, h1, h2, ?_⟩
    refine ⟨_, rfl, _, rfl, m, t, rfl, h0, h1, h2, fun L G sG nL hL => ?_⟩
    rw [ec] at hL
    obtain ⟨xs, hx1, hx2⟩ := hL
    obtain ⟨v, hv, dv⟩ := hx2.at (i := 0) (x := (x, y)) rfl
    obtain ⟨a, rfl, ha⟩ := Dv.pair dv
    exact ⟨L, xs, 0, .ref a, rfl, rfl, sq hx1, atI_nat (j := 0) hv, a, _, 0, .int x, rfl, rfl, st ha, atI_nat (j := 0) rfl, q G sG⟩
theorem def_lr (D_check_many : Def P w K mg base CX0 2 "_check_many" nCk spCk) (D_curve : Def P w K mg base CX0 51 "_curve" nCk spCu) (a : At K mg "least_rounds" sLR) : Def P w K mg base CX0 52 "least_rounds" nCk spLR :=
  a.def (fun _ _ _ _ _ _ us hl => match us, hl with | [_, _], _ => rfl) fun f fd F => ok_lr D_check_many D_curve F
end
end K1


set_option Elab.async false
set_option linter.all false
set_option maxRecDepth 100000
set_option maxHeartbeats 4000000
namespace K1
open PySem PySem.Spec PyProof.Rows L2 RZ
structure Bk (mg : Str → Option Value) : Prop extends Bj mg where
  set : mg "set" = none
section
variable {X : Cx} {K : PySem.W.Frag} {P : Program} {w : World}
theorem cr_setOfTK (h : X.K = K) (hP : X.prog = P) (hw : X.w = w) (hc : X.calm = true) (hu : X.A.units + 64 < cLine) : CallR X (.type "set") (rSetOfT K P w) := by subst h hP hw; exact cr_setOfT hc hu
theorem cr_sortedTK (h : X.K = K) (hP : X.prog = P) (hw : X.w = w) (hc : X.calm = true) : CallR X (.builtin "sorted") (rSortedT K P w) := by subst h hP hw; exact cr_sortedT hc
end
abbrev sBe : Stmt := st__law_best
abbrev nBe : List Str := ["_law_pairs", "_law_kept", "_law_rounds_so", "_law_probes"]
abbrev pBe : List Str := ["_law_pairs"]
theorem scBe : FnScope nBe pBe (defScope sBe) := ⟨rfl, rfl, rfl, by decide +kernel, rfl, by decide +kernel, by decide +kernel⟩
def InB (e : Int × Int) : Prop := 0 ≤ e.1 ∧ e.1 < 64 ∧ 0 ≤ e.2 ∧ e.2 < 64
def spBe : Sp := fun vs H Q _ => ∃ (a : Addr) (l : List (Int × Int)), vs = [.ref a] ∧ PrsAt H a l ∧ l.length < 64 ∧ (∀ e ∈ l, InB e) ∧
  ∀ R H' l', Same H H' → H R = none → PrsAt H' R l' → Good l' → (∀ r p, At2 l' r p ↔ At2 l r p) → Q (.ref R) H'
/-- the objects of a list of pairs -/
theorem prs_refs {H : Hp} : ∀ {l : List (Int × Int)} {xs : List V}, DvA H xs (l.map prD) → ∃ ks : List (Addr × List Int), xs = ks.map (fun p => V.ref p.1) ∧ ks.map (·.2) = l.map (fun e => [e.1, e.2]) ∧ ∀ p ∈ ks, H p.1 = some (.tup (p.2.map V.int))
  | [], _, .nil => ⟨[], rfl, rfl, fun p h => by cases h⟩
  | e :: l, _, .cons d r => by
    obtain ⟨ks, h1, h2, h3⟩ := prs_refs r
    obtain ⟨a, rfl, ha⟩ := Dv.pair d
    refine ⟨(a, [e.1, e.2]) :: ks, by rw [h1]; rfl, by rw [List.map_cons, List.map_cons, h2], fun p hp => ?_⟩
    rcases List.mem_cons.mp hp with rfl | hp
    · exact ha
    · exact h3 p hp
def toP (ns : List Int) : Int × Int := (ns.getD 0 0, ns.getD 1 0)
theorem dvA_refs {H : Hp} : ∀ {L : List (Addr × List Int)}, (∀ p ∈ L, H p.1 = some (.tup (p.2.map V.int)) ∧ p.2 = [(toP p.2).1, (toP p.2).2]) → DvA H (L.map fun p => V.ref p.1) ((L.map fun p => toP p.2).map prD)
  | [], _ => .nil
  | p :: L, h => by
    obtain ⟨h1, h2⟩ := h p List.mem_cons_self
    refine .cons ?_ (dvA_refs fun q hq => h q (List.mem_cons_of_mem _ hq))
    rw [h2] at h1
    exact .tup h1 (.cons (.int _) (.cons (.int _) .nil))
theorem eqv_nil (l : List (Int × Int)) : PyData.eqv (.list (l.map prD)) (.list []) = l.isEmpty := by
  cases l <;> rfl
theorem shaped_prs (l : List (Int × Int)) : SeqAt.shaped (.list (l.map prD)) = true := by
  have h1 : ∀ l : List (Int × Int), PyData.canLayAll0 (l.map prD) = true := fun l => by
    induction l with
    | nil => rfl
    | cons e l ih => show (PyData.canLay0 (prD e) && PyData.canLayAll0 (l.map prD)) = true; rw [ih]; rfl
  have h2 : ∀ l : List (Int × Int), PyData.depthAll (l.map prD) ≤ 1 := fun l => by
    induction l with
    | nil => exact Nat.zero_le _
    | cons e l ih =>
      show max (PyData.depth (prD e)) (PyData.depthAll (l.map prD)) ≤ 1
      have : PyData.depth (prD e) = 1 := rfl
      omega
  unfold SeqAt.shaped
  have h3 : PyData.canLay0 (.list (l.map prD)) = true := h1 l
  have h4 : PyData.depth (.list (l.map prD)) ≤ 2 := by
    show PyData.depthAll (l.map prD) + 1 ≤ 2
    have := h2 l; omega
  rw [h3, decide_eq_true (show PyData.depth (.list (l.map prD)) ≤ 64 by omega)]; rfl
theorem noDic_prs (l : List (Int × Int)) : noDic (.list (l.map prD)) = true := by
  show noDicA (l.map prD) = true
  induction l with
  | nil => rfl
  | cons e l ih => show (noDic (prD e) && noDicA (l.map prD)) = true; rw [ih]; rfl
theorem PrsAt.dp {K : PySem.W.Frag} {H : Hp} {a : Addr} {l : List (Int × Int)} (h : PrsAt H a l) : Dp K H (.ref a) (.list (l.map prD)) := by
  obtain ⟨xs, h1, h2⟩ := h
  exact (Dv.lst h1 h2).dp (noDic_prs l)
theorem keep_len (l : List (Int × Int)) (e : Int × Int) : (keep l e).length ≤ l.length + 1 := by
  unfold keep
  split
  · show 1 ≤ _; omega
  · split
    · rw [List.length_append, List.length_singleton]; omega
    · omega
theorem foldl_keep_len : ∀ (s l : List (Int × Int)), (s.foldl keep l).length ≤ l.length + s.length
  | [], l => by show l.length ≤ _; omega
  | e :: s, l => by
    have h1 := foldl_keep_len s (keep l e)
    have h2 := keep_len l e
    show (s.foldl keep (keep l e)).length ≤ _
    rw [List.length_cons]; omega
abbrev BSt (a k : Addr) (v2 v3 : Option V) : L2.St := [some (.ref a), some (.ref k), v2, v3]
section
variable {P : Program} {w : World} {K : PySem.W.Frag} {mg : Str → Option Value} {base : Heap}
set_option maxHeartbeats 8000000 in
theorem ok_be {f : Addr} {fd : FuncData} (T : Bk mg) (F : Fun K "_law_best" "_law_best" sBe f fd) : FnOk P w K mg base CX0 1 f fd pBe spBe := by
  have nd := scBe.nd
  refine F.ok scBe (fun vs H Q E h => ?_) (fun cdv A outer s H vs Q E hr h => ?_)
  · obtain ⟨a, l, rfl, _⟩ := h
    rfl
  · obtain ⟨a, l, rfl, hl, h64, hb, q⟩ := h
    refine ⟨_, (pss_cons (ps_set (i := 1) nd rfl (Or.inl rfl) (pe_lst pa_nil))
 (pss_cons (ps_for PassesOwn.never rfl (pi_listK (K := K) rfl (pe_callB (cr_sortedTK (K := K) (P := P) (w := w) rfl rfl rfl rfl) (by rfl) T.sorted PyProof.Rows.boot_sorted (pa_cons (pe_callTy (cr_setOfTK (K := K) (P := P) (w := w) rfl rfl rfl rfl hr.units) (by rfl) T.set PyProof.Rows.boot_set (pa_cons (pv 0) pa_nil)) pa_nil))) (pg_tup rfl (pgs_cons (pg_name (i := 2) nd rfl (Or.inl rfl)) (pgs_cons (pg_name (i := 3) nd rfl (Or.inl rfl)) pgs_nil)))
  (pss_one (ps_if (PW.pt (pw_or (pt_cmpR (op_eqDK (K := K) rfl hr.units) (pv 1) (pe_lst pa_nil) (nomark _)) (pw_or1 (pt_cmpR op_lt (pv 3) (pe_ix (ix_tupK (K := K) rfl) (pe_ix (ix_listK (K := K) rfl) (pv 1) (pe_un un_neg pe_int) (fun _ _ => rfl)) pe_int (fun _ _ => rfl)) (nomark _)))))
  (pss_one (ps_expr (pe_bm PySem.F.plainAttrs_list PySem.F.slot_list_append PySem.F.type_list_append mt_append (pv 1) (pa_cons (pe_tup (pa_cons (pv 2) (pa_cons (pv 3) pa_nil))) pa_nil))))
  pss_nil)))
 (pss_one (ps_ret (pv 1))))), ?_⟩
    obtain ⟨xs, hx1, hx2⟩ := hl
    obtain ⟨ks, rfl, hk2, hk3⟩ := prs_refs hx2
    have lk : ks.length = l.length := by have := congrArg List.length hk2; rwa [List.length_map, List.length_map] at this
    refine ⟨(by show 0 ≤ sizeLine; decide), fun M nM => ?_⟩
    have s1 := same_new (o := .lst []) nM
    have hM1 : (upd H M (.lst [])) M = some (.lst []) := upd_same
    generalize upd H M (.lst []) = H1 at s1 hM1
    refine ⟨_, rfl, a, ks, rfl, sq (s1 _ _ hx1), fun p hp => st (s1 _ _ (hk3 p hp)), by omega, fun S L nS hS1 hS2 => ?_⟩
    have s2 := s1.new (o := SetTO P w S L) nS
    have hM2 : (upd H1 S (SetTO P w S L)) M = some (.lst []) := same_new nS _ _ hM1
    have mem2 : ∀ p ∈ ks, ∃ e ∈ l, p.2 = [e.1, e.2] := fun p hp => by
      have : p.2 ∈ ks.map (·.2) := List.mem_map_of_mem hp
      rw [hk2] at this
      obtain ⟨e, he, h⟩ := List.mem_map.mp this
      exact ⟨e, he, h.symm⟩
    refine ⟨S, L, 2, 64, rfl, upd_same, fun p hp => st (s2 _ _ (hk3 p (hS1 p hp))), by decide, fun p hp => ?_, fun L' R perm ndL l64 srt nR => ?_⟩
    · obtain ⟨e, he, h⟩ := mem2 p (hS1 p hp)
      obtain ⟨b1, b2, b3, b4⟩ := hb e he
      rw [h]
      refine ⟨rfl, fun z hz => ?_⟩
      rcases List.mem_cons.mp hz with rfl | hz
      · exact ⟨b1, b2⟩
      · rw [List.mem_singleton.mp hz]; exact ⟨b3, b4⟩
    have s3 := s2.new (o := .lst (L'.map fun q => V.ref q.1)) nR
    have hR3 : (upd (upd H1 S (SetTO P w S L)) R (.lst (L'.map fun q => V.ref q.1))) R = some (.lst (L'.map fun q => V.ref q.1)) := upd_same
    have hM3 : (upd (upd H1 S (SetTO P w S L)) R (.lst (L'.map fun q => V.ref q.1))) M = some (.lst []) := same_new nR _ _ hM2
    have nMR : M ≠ R := ne_of_none hM2 nR
    have nMH : H M = none := nM
    generalize upd (upd H1 S (SetTO P w S L)) R (.lst (L'.map fun q => V.ref q.1)) = H3 at s3 hR3 hM3
    have ks' : ∀ p ∈ L', p ∈ ks := fun p hp => hS1 p (perm.mem_iff.mp hp)
    have dL' : DvA H3 (L'.map fun p => V.ref p.1) ((L'.map fun p => toP p.2).map prD) := dvA_refs fun p hp => by
      obtain ⟨e, he, h⟩ := mem2 p (ks' p hp)
      exact ⟨s3 _ _ (hk3 p (ks' p hp)), by rw [h]; rfl⟩
    generalize es : (L'.map fun p => toP p.2) = sl at dL'
    have lsl : sl.length = L'.length := by rw [← es, List.length_map]
    have memS : ∀ e, e ∈ sl ↔ e ∈ l := fun e => by
      rw [← es, List.mem_map]
      constructor
      · rintro ⟨p, hp, rfl⟩
        obtain ⟨e, he, h⟩ := mem2 p (ks' p hp)
        rw [h]; exact he
      · intro he
        have h1 : [e.1, e.2] ∈ ks.map (·.2) := by rw [hk2]; exact List.mem_map_of_mem (f := fun e : Int × Int => [e.1, e.2]) he
        obtain ⟨p, hp, h⟩ := List.mem_map.mp h1
        have h2 := hS2 p hp
        obtain ⟨p', hp', h3⟩ := List.mem_map.mp h2
        refine ⟨p', perm.mem_iff.mpr hp', ?_⟩
        have h : p.2 = [e.1, e.2] := h
        rw [show p'.2 = [e.1, e.2] from h3.trans h]; rfl
    have srt2 : sl.Pairwise (fun a b => a.1 < b.1 ∨ a.1 = b.1 ∧ a.2 ≤ b.2) := by
      rw [← es, List.pairwise_map]
      refine List.Pairwise.imp_of_mem (fun {x y} hx hy h => ?_) srt
      obtain ⟨e1, he1, h1⟩ := mem2 x (ks' x hx)
      obtain ⟨e2, he2, h2⟩ := mem2 y (ks' y hy)
      obtain ⟨a1, a2, a3, a4⟩ := hb e1 he1
      obtain ⟨c1, c2, c3, c4⟩ := hb e2 he2
      rw [h1, h2, code_pair, code_pair] at h
      rw [h1, h2]
      show e1.1 < e2.1 ∨ e1.1 = e2.1 ∧ e1.2 ≤ e2.2
      omega
    obtain ⟨g1, g2⟩ := kept_ok sl [] [] srt2 .nil (fun e h => h) (fun r p => Iff.rfl)
    refine ⟨R, rfl, ⟨_, sq hR3⟩, for_it walk_list (fun i σ G => ∃ (v2 v3 : Option V), σ = BSt a M v2 v3 ∧ Same H G ∧ KeepT H3 G ∧ G R = some (.lst (L'.map fun q => V.ref q.1)) ∧ PrsAt G M ((sl.take i).foldl keep [])) ⟨none, none, rfl, s3, fun _ _ h => h, hR3, [], hM3, .nil⟩ (fun i σ G _ ⟨_, _, _, _, _, h, _⟩ => sq h) ?_ ?_⟩
    · rintro i x σ G G' hi ⟨v2, v3, rfl, sG, kG, hR, hMG⟩ ⟨rfl, hx⟩
      rw [List.length_map] at hi
      have hi2 : i < sl.length := by omega
      have hk : sl[i]? = some sl[i] := List.getElem?_eq_getElem hi2
      generalize sl[i] = e at hk
      obtain ⟨v, hv, dv⟩ := dL'.at hk
      rw [hx] at hv
      cases hv
      obtain ⟨b, rfl, hb'⟩ := Dv.pair (dv.kt kG (noL_pr e))
      have eT : (sl.take (i + 1)).foldl keep [] = keep ((sl.take i).foldl keep []) e := by rw [take_more hk, List.foldl_append]; rfl
      have ln : ((sl.take i).foldl keep []).length ≤ i := by
        have := foldl_keep_len (sl.take i) []
        rw [List.length_take] at this
        have : ([] : List (Int × Int)).length = 0 := rfl
        omega
      generalize (sl.take i).foldl keep [] = kp at hMG eT ln
      rw [eT]
      refine ⟨b, _, rfl, st hb', rfl, _, _, rfl, _, _, rfl, rfl, ?_⟩
      obtain ⟨ys, hy1, hy2⟩ := id hMG
      have ly := hy2.lenM
      have app : ∀ (G2 : Hp) (T : Addr), Same G' G2 → G2 T = none → keep kp e = kp ++ [e] → ∃ (v2 v3 : Option V), BSt a M (some (.int e.1)) (some (.int e.2)) = BSt a M v2 v3 ∧ Same H (upd (upd G2 T (.tup [.int e.1, .int e.2])) M (.lst (ys ++ [.ref T]))) ∧ KeepT H3 (upd (upd G2 T (.tup [.int e.1, .int e.2])) M (.lst (ys ++ [.ref T]))) ∧ (upd (upd G2 T (.tup [.int e.1, .int e.2])) M (.lst (ys ++ [.ref T]))) R = some (.lst (L'.map fun q => V.ref q.1)) ∧ PrsAt (upd (upd G2 T (.tup [.int e.1, .int e.2])) M (.lst (ys ++ [.ref T]))) M (keep kp e) := fun G2 T s2 nT ek => by
        have sT := s2.new (o := .tup [.int e.1, .int e.2]) nT
        refine ⟨_, _, rfl, (sG.trans sT).mut nMH, KeepT.upd (kG.trans (.of sT)) (fun zs z => by rw [sT _ _ hy1] at z; cases z), by rw [upd_ne nMR.symm]; exact sT _ _ hR, ?_⟩
        rw [ek]
        exact PrsAt.snoc (x := e.1) (y := e.2) (sT _ _ hy1) (hy2.same sT) upd_same
      refine ⟨_, rfl, (by show 0 ≤ sizeLine; decide), fun Z nZ => ?_⟩
      have sZ := same_new (o := .lst []) nZ
      refine ⟨_, _, (hMG.same sZ).dp, .lst (sq upd_same) .nil, shaped_prs kp, rfl, _, rfl, ?_⟩
      rw [eqv_nil]
      rcases prs_last hy2 with ⟨e1, e2', e3'⟩ | ⟨z, c, e1, e2', e3', e4⟩
      · subst e3'
        refine itbT rfl (itbT rfl ?_)
        refine ⟨_, rfl, .inl ⟨rfl, _, sq (sZ _ _ hy1)⟩, _, rfl, _, rfl, (by show 2 ≤ sizeLine; decide), fun T nT => ⟨M, _, _, rfl, rfl, same_new nT _ _ (sZ _ _ hy1), lt2 _ (by omega), ?_⟩⟩
        exact app _ T sZ nT rfl
      · have eb : kp.isEmpty = false := by
          cases kp with
          | nil => cases e1
          | cons _ _ => rfl
        refine itbF eb ?_
        refine ⟨_, rfl, _, rfl, _, rfl, M, _, _, _, rfl, rfl, sq (sZ _ _ hy1), e3', c, _, 1, .int z.2, rfl, rfl, st (sZ _ _ e4), atI_nat (j := 1) rfl, _, _, rfl, rfl, _, rfl, ?_⟩
        have eK : keep kp e = if e.2 < z.2 then kp ++ [e] else kp := by unfold keep; rw [e1]
        by_cases k : e.2 < z.2
        · refine itbT (decide_eq_true k) ?_
          refine ⟨_, rfl, .inl ⟨rfl, _, sq (sZ _ _ hy1)⟩, _, rfl, _, rfl, (by show 2 ≤ sizeLine; decide), fun T nT => ⟨M, _, _, rfl, rfl, same_new nT _ _ (sZ _ _ hy1), lt2 _ (by omega), ?_⟩⟩
          exact app _ T sZ nT (eK.trans (if_pos k))
        · refine itbF (decide_eq_false k) ?_
          exact ⟨_, _, rfl, sG.trans sZ, kG.trans (.of sZ), sZ _ _ hR, by rw [eK, if_neg k]; exact hMG.same sZ⟩
    · rintro σ G ⟨v2, v3, rfl, sG, kG, hR, hMG⟩
      rw [List.take_of_length_le (by rw [List.length_map]; omega)] at hMG
      exact ⟨_, rfl, q M G _ sG nMH hMG g1 fun r p => (g2 r p).trans (at2_mem memS r p)⟩
theorem def_be (T : Bk mg) (a : At K mg "_law_best" sBe) : Def P w K mg base CX0 1 "_law_best" pBe spBe :=
  a.def (fun _ _ _ _ _ _ us hl => match us, hl with | [_], _ => rfl) fun f fd F => ok_be T F
end
end K1


set_option Elab.async false
set_option linter.all false
set_option maxRecDepth 100000
set_option maxHeartbeats 4000000
namespace K1
open PySem PySem.Spec PyProof.Rows L2 RZ
abbrev nBo : List Str := ["_law_ones", "_law_others", "_law_pairs", "_law_left", "_law_right_here"]
abbrev pBo : List Str := ["_law_ones", "_law_others"]
abbrev sBo : Stmt := st__law_both
theorem scBo : FnScope nBo pBo (defScope sBo) := ⟨rfl, rfl, rfl, by decide +kernel, rfl, by decide +kernel, by decide +kernel⟩
abbrev sEi : Stmt := st__law_either
theorem scEi : FnScope nBo pBo (defScope sEi) := ⟨rfl, rfl, rfl, by decide +kernel, rfl, by decide +kernel, by decide +kernel⟩
/-- of two single pairs one -/
def spOne2 (g : Int → Int → Int) : Sp := fun vs H Q _ => ∃ (a b : Addr) (x y u v : Int), vs = [.ref a, .ref b] ∧ PrsAt H a [(x, y)] ∧ PrsAt H b [(u, v)] ∧ InB (mx x u, g y v) ∧
  ∀ R H', Same H H' → H R = none → PrsAt H' R [(mx x u, g y v)] → Q (.ref R) H'
theorem prs_one {H : Hp} {a : Addr} {e : Int × Int} (h : PrsAt H a [e]) : ∃ b, H a = some (.lst [.ref b]) ∧ H b = some (.tup [.int e.1, .int e.2]) := by
  obtain ⟨xs, h1, h2⟩ := h
  cases h2 with
  | cons d r =>
    cases r
    obtain ⟨b, rfl, hb⟩ := Dv.pair d
    exact ⟨b, h1, hb⟩
theorem prs_one' {H : Hp} {a b : Addr} {x y : Int} (h1 : H a = some (.lst [.ref b])) (h2 : H b = some (.tup [.int x, .int y])) : PrsAt H a [(x, y)] := ⟨_, h1, .cons (.tup h2 (.cons (.int _) (.cons (.int _) .nil))) .nil⟩
theorem at2_one {x y r p : Int} : At2 [(x, y)] r p ↔ x ≤ r ∧ y ≤ p := ⟨fun ⟨e, he, h⟩ => by rw [List.mem_singleton.mp he] at h; exact h, fun h => ⟨_, List.mem_cons_self, h⟩⟩
section
variable {P : Program} {w : World} {K : PySem.W.Frag} {mg : Str → Option Value} {base : Heap}
set_option maxHeartbeats 8000000 in
theorem ok_bo {f : Addr} {fd : FuncData} (T : Bk mg) (D_best : Def P w K mg base CX0 1 "_law_best" pBe spBe) (F : Fun K "_law_both" "_law_both" sBo f fd) : FnOk P w K mg base CX0 2 f fd pBo (spOne2 fun y v => y + v) := by
  have nd := scBo.nd
  refine F.ok scBo (fun vs H Q E h => ?_) (fun cdv A outer s H vs Q E hr h => ?_)
  · obtain ⟨a, b, x, y, u, v, rfl, _⟩ := h
    rfl
  · obtain ⟨a, b, x, y, u, v, rfl, ha, hb, hB, q⟩ := h
    refine ⟨_, (pss_cons (ps_set (i := 2) nd rfl (Or.inl rfl) (pe_lst pa_nil))
 (pss_cons (ps_for PassesOwn.never rfl (pi_listK (K := K) rfl (pv 0)) (pg_name (i := 3) nd rfl (Or.inr rfl))
  (pss_one (ps_set (i := 2) nd rfl (Or.inl rfl) (pe_op op_cat (pv 2) (pe_lc (own := [("_law_right_here", 4)]) (g := gName 4) (tt := tYes) rfl nd (pi_listK (K := K) rfl (pv 1)) (blkOk_by (own := [("_law_right_here", 4)]) (N := nBo) (sc := defScope sBo) (by decide +kernel)) (fun _ _ _ _ _ => pg_name (i := 4) nd rfl (Or.inl rfl)) (fun _ _ _ _ _ => pts_nil) (fun _ _ _ _ _ => (pe_tup (pa_cons (pe_callB (call_max2 rfl) (by rfl) T.max PyProof.Rows.boot_max (pa_cons (pe_ix (ix_tupK (K := K) rfl) (pv 3) pe_int (fun _ _ => rfl)) (pa_cons (pe_ix (ix_tupK (K := K) rfl) (pv 4) pe_int (fun _ _ => rfl)) pa_nil))) (pa_cons (pe_op op_add (pe_ix (ix_tupK (K := K) rfl) (pv 3) pe_int (fun _ _ => rfl)) (pe_ix (ix_tupK (K := K) rfl) (pv 4) pe_int (fun _ _ => rfl))) pa_nil)))))))))
 (pss_one (ps_ret (pe_def D_best (hr.mono (by decide)) rfl pass0 (pa_cons (pv 2) pa_nil)))))), ?_⟩
    obtain ⟨a1, ha1, ha2⟩ := prs_one ha
    obtain ⟨b1, hb1, hb2⟩ := prs_one hb
    refine ⟨(by show 0 ≤ sizeLine; decide), fun M nM => ?_⟩
    have s1 := same_new (o := .lst []) nM
    refine ⟨_, rfl, a, rfl, ⟨_, sq (s1 _ _ ha1)⟩, for_it walk_list (fun i σ G => ∃ (N : Addr) (v3 v4 : Option V), σ = [some (.ref a), some (.ref b), some (.ref N), v3, v4] ∧ Same H G ∧ PrsAt G N ([(mx x u, y + v)].take i)) ⟨M, none, none, rfl, s1, [], upd_same, .nil⟩ (fun i σ G _ ⟨_, _, _, _, sG, _⟩ => sq (sG _ _ ha1)) ?_ ?_⟩
    · rintro i z σ G G' hi ⟨N, v3, v4, rfl, sG, hN⟩ ⟨rfl, hz⟩
      have i0 : i = 0 := by have : i < 1 := hi; omega
      subst i0
      cases hz
      obtain ⟨ys, hy1, hy2⟩ := hN
      cases hy2
      refine ⟨_, rfl, _, rfl, b, rfl, ⟨_, sq (sG _ _ hb1)⟩, fun L nL => ?_⟩
      refine lc_it walk_list (fun j G2 => Same G' G2 ∧ ∃ acc, G2 L = some (.lst acc) ∧ acc.length ≤ j ∧ DvA G2 acc (([(mx x u, y + v)].take j).map prD)) ⟨same_new nL, [], upd_same, Nat.zero_le _, .nil⟩ (fun j G2 _ ⟨s2, _⟩ => sq (s2 _ _ (sG _ _ hb1))) ?_ ?_
      · rintro j z G2 G3 hj ⟨s2, acc, hL, la, dA⟩ ⟨rfl, hz⟩
        have j0 : j = 0 := by have : j < 1 := hj; omega
        subst j0
        cases hz
        cases dA
        have hA := s2 _ _ (sG _ _ ha2)
        have hB' := s2 _ _ (sG _ _ hb2)
        refine ⟨rfl, tyes ⟨_, rfl, a1, _, 0, .int x, rfl, rfl, st hA, atI_nat (j := 0) rfl, _, rfl, b1, _, 0, .int u, rfl, rfl, st hB', atI_nat (j := 0) rfl, _, _, rfl, _, rfl, a1, _, 1, .int y, rfl, rfl, st hA, atI_nat (j := 1) rfl, _, rfl, b1, _, 1, .int v, rfl, rfl, st hB', atI_nat (j := 1) rfl, _, _, rfl, rfl, (by show 2 ≤ sizeLine; decide), fun U nU => ?_⟩⟩
        have sU := same_new (o := .tup [.int (mx x u), .int (y + v)]) nU
        refine ⟨[], sU _ _ hL, by decide, (s2.trans sU).mut nL, [.ref U], upd_same, Nat.le_refl _, ?_⟩
        refine .cons (.tup ?_ (.cons (.int _) (.cons (.int _) .nil))) .nil
        rw [upd_ne (fun z => by rw [z, hL] at nU; cases nU)]; exact upd_same
      · rintro G2 ⟨s2, acc, hL, la, dA⟩
        refine ⟨N, L, [], acc, rfl, rfl, s2 _ _ hy1, hL, lt1 _ (by have : acc.length ≤ 1 := la; simp only [List.length_nil]; omega), fun R nR => ?_⟩
        have sR := same_new (o := .lst ([] ++ acc)) nR
        exact ⟨R, _, _, rfl, (sG.trans s2).trans sR, acc, upd_same, dA.same sR⟩
    · rintro σ G ⟨N, v3, v4, rfl, sG, hN⟩
      refine ⟨_, rfl, N, [(mx x u, y + v)], rfl, hN, (by show 1 < 64; decide), fun e he => by rw [List.mem_singleton.mp he]; exact hB, fun R H' l' s2 nR hR g2 a2 => ?_⟩
      have e := good_at g2 fun r p => (a2 r p).trans at2_one
      rw [e] at hR
      exact q R H' (sG.trans s2) (sG.free nR) hR
theorem def_bo (T : Bk mg) (D_best : Def P w K mg base CX0 1 "_law_best" pBe spBe) (a : At K mg "_law_both" sBo) : Def P w K mg base CX0 2 "_law_both" pBo (spOne2 fun y v => y + v) :=
  a.def (fun _ _ _ _ _ _ us hl => match us, hl with | [_, _], _ => rfl) fun f fd F => ok_bo T D_best F
set_option maxHeartbeats 8000000 in
theorem ok_ei {f : Addr} {fd : FuncData} (T : Bk mg) (D_best : Def P w K mg base CX0 1 "_law_best" pBe spBe) (F : Fun K "_law_either" "_law_either" sEi f fd) : FnOk P w K mg base CX0 2 f fd pBo (spOne2 mx) := by
  have nd := scEi.nd
  refine F.ok scEi (fun vs H Q E h => ?_) (fun cdv A outer s H vs Q E hr h => ?_)
  · obtain ⟨a, b, x, y, u, v, rfl, _⟩ := h
    rfl
  · obtain ⟨a, b, x, y, u, v, rfl, ha, hb, hB, q⟩ := h
    refine ⟨_, (pss_cons (ps_set (i := 2) nd rfl (Or.inl rfl) (pe_lst pa_nil))
 (pss_cons (ps_for PassesOwn.never rfl (pi_listK (K := K) rfl (pv 0)) (pg_name (i := 3) nd rfl (Or.inr rfl))
  (pss_one (ps_set (i := 2) nd rfl (Or.inl rfl) (pe_op op_cat (pv 2) (pe_lc (own := [("_law_right_here", 4)]) (g := gName 4) (tt := tYes) rfl nd (pi_listK (K := K) rfl (pv 1)) (blkOk_by (own := [("_law_right_here", 4)]) (N := nBo) (sc := defScope sEi) (by decide +kernel)) (fun _ _ _ _ _ => pg_name (i := 4) nd rfl (Or.inl rfl)) (fun _ _ _ _ _ => pts_nil) (fun _ _ _ _ _ => (pe_tup (pa_cons (pe_callB (call_max2 rfl) (by rfl) T.max PyProof.Rows.boot_max (pa_cons (pe_ix (ix_tupK (K := K) rfl) (pv 3) pe_int (fun _ _ => rfl)) (pa_cons (pe_ix (ix_tupK (K := K) rfl) (pv 4) pe_int (fun _ _ => rfl)) pa_nil))) (pa_cons (pe_callB (call_max2 rfl) (by rfl) T.max PyProof.Rows.boot_max (pa_cons (pe_ix (ix_tupK (K := K) rfl) (pv 3) pe_int (fun _ _ => rfl)) (pa_cons (pe_ix (ix_tupK (K := K) rfl) (pv 4) pe_int (fun _ _ => rfl)) pa_nil))) pa_nil)))))))))
 (pss_one (ps_ret (pe_def D_best (hr.mono (by decide)) rfl pass0 (pa_cons (pv 2) pa_nil)))))), ?_⟩
    obtain ⟨a1, ha1, ha2⟩ := prs_one ha
    obtain ⟨b1, hb1, hb2⟩ := prs_one hb
    refine ⟨(by show 0 ≤ sizeLine; decide), fun M nM => ?_⟩
    have s1 := same_new (o := .lst []) nM
    refine ⟨_, rfl, a, rfl, ⟨_, sq (s1 _ _ ha1)⟩, for_it walk_list (fun i σ G => ∃ (N : Addr) (v3 v4 : Option V), σ = [some (.ref a), some (.ref b), some (.ref N), v3, v4] ∧ Same H G ∧ PrsAt G N ([(mx x u, mx y v)].take i)) ⟨M, none, none, rfl, s1, [], upd_same, .nil⟩ (fun i σ G _ ⟨_, _, _, _, sG, _⟩ => sq (sG _ _ ha1)) ?_ ?_⟩
    · rintro i z σ G G' hi ⟨N, v3, v4, rfl, sG, hN⟩ ⟨rfl, hz⟩
      have i0 : i = 0 := by have : i < 1 := hi; omega
      subst i0
      cases hz
      obtain ⟨ys, hy1, hy2⟩ := hN
      cases hy2
      refine ⟨_, rfl, _, rfl, b, rfl, ⟨_, sq (sG _ _ hb1)⟩, fun L nL => ?_⟩
      refine lc_it walk_list (fun j G2 => Same G' G2 ∧ ∃ acc, G2 L = some (.lst acc) ∧ acc.length ≤ j ∧ DvA G2 acc (([(mx x u, mx y v)].take j).map prD)) ⟨same_new nL, [], upd_same, Nat.zero_le _, .nil⟩ (fun j G2 _ ⟨s2, _⟩ => sq (s2 _ _ (sG _ _ hb1))) ?_ ?_
      · rintro j z G2 G3 hj ⟨s2, acc, hL, la, dA⟩ ⟨rfl, hz⟩
        have j0 : j = 0 := by have : j < 1 := hj; omega
        subst j0
        cases hz
        cases dA
        have hA := s2 _ _ (sG _ _ ha2)
        have hB' := s2 _ _ (sG _ _ hb2)
        refine ⟨rfl, tyes ⟨_, rfl, a1, _, 0, .int x, rfl, rfl, st hA, atI_nat (j := 0) rfl, _, rfl, b1, _, 0, .int u, rfl, rfl, st hB', atI_nat (j := 0) rfl, _, _, rfl, _, rfl, a1, _, 1, .int y, rfl, rfl, st hA, atI_nat (j := 1) rfl, _, rfl, b1, _, 1, .int v, rfl, rfl, st hB', atI_nat (j := 1) rfl, _, _, rfl, (by show 2 ≤ sizeLine; decide), fun U nU => ?_⟩⟩
        have sU := same_new (o := .tup [.int (mx x u), .int (mx y v)]) nU
        refine ⟨[], sU _ _ hL, by decide, (s2.trans sU).mut nL, [.ref U], upd_same, Nat.le_refl _, ?_⟩
        refine .cons (.tup ?_ (.cons (.int _) (.cons (.int _) .nil))) .nil
        rw [upd_ne (fun z => by rw [z, hL] at nU; cases nU)]; exact upd_same
      · rintro G2 ⟨s2, acc, hL, la, dA⟩
        refine ⟨N, L, [], acc, rfl, rfl, s2 _ _ hy1, hL, lt1 _ (by have : acc.length ≤ 1 := la; simp only [List.length_nil]; omega), fun R nR => ?_⟩
        have sR := same_new (o := .lst ([] ++ acc)) nR
        exact ⟨R, _, _, rfl, (sG.trans s2).trans sR, acc, upd_same, dA.same sR⟩
    · rintro σ G ⟨N, v3, v4, rfl, sG, hN⟩
      refine ⟨_, rfl, N, [(mx x u, mx y v)], rfl, hN, (by show 1 < 64; decide), fun e he => by rw [List.mem_singleton.mp he]; exact hB, fun R H' l' s2 nR hR g2 a2 => ?_⟩
      have e := good_at g2 fun r p => (a2 r p).trans at2_one
      rw [e] at hR
      exact q R H' (sG.trans s2) (sG.free nR) hR
theorem def_ei (T : Bk mg) (D_best : Def P w K mg base CX0 1 "_law_best" pBe spBe) (a : At K mg "_law_either" sEi) : Def P w K mg base CX0 2 "_law_either" pBo (spOne2 mx) :=
  a.def (fun _ _ _ _ _ _ us hl => match us, hl with | [_, _], _ => rfl) fun f fd F => ok_ei T D_best F
end
end K1


set_option Elab.async false
set_option linter.all false
set_option maxRecDepth 100000
set_option maxHeartbeats 4000000
namespace K1
open PySem PySem.Spec PyProof.Rows L2 RZ
theorem par_go {i j : Nat} {ta : TA} {tb : TS} {D : Ends} {σ : L2.St} {H : Hp} (h : ta σ H fun vs H1 => ∃ v w, vs = [v, w] ∧ tb D ((σ.set i (some v)).set j (some w)) H1) : tSeq (tPar i j ta) tb D σ H := h
/-! ### the law's table -/
theorem pP_bd : ((List.range 15).all fun m => (List.range (m + 1)).all fun t => decide (0 ≤ pP (m : Nat) (t : Nat)) && decide (pP (m : Nat) (t : Nat) ≤ 14)) = true := by decide +kernel
theorem pP_bd' {m t : Int} (h0 : 0 ≤ t) (h1 : t ≤ m) (h2 : m ≤ 14) : 0 ≤ pP m t ∧ pP m t ≤ 14 := by
  have a := List.all_eq_true.mp (List.all_eq_true.mp pP_bd m.toNat (List.mem_range.mpr (by omega))) t.toNat (List.mem_range.mpr (by omega))
  rw [Int.toNat_of_nonneg h0, Int.toNat_of_nonneg (by omega), Bool.and_eq_true] at a
  exact ⟨of_decide_eq_true a.1, of_decide_eq_true a.2⟩
theorem aT_bd (m t : Int) : 0 ≤ aT m t ∧ aT m t ≤ 5 := by
  have := clI_lo m
  unfold aT
  split <;> omega
def est (m t c k : Int) (e : Int × Int) : Int × Int := if 0 ≤ t - k ∧ t - k ≤ m - c then (mx e.1 (mx (aT c k) (aT (m - c) (t - k))), mx e.2 (pP c k + pP (m - c) (t - k))) else e
theorem eno_snoc {m t c k : Int} : ∀ (l : List Int) (e : Int × Int), eno m t c (l ++ [k]) e = est m t c k (eno m t c l e)
  | [], e => rfl
  | x :: l, e => eno_snoc l _
theorem rgI_succ (lo : Int) (n : Nat) : rgI lo (n + 1) = rgI lo n ++ [lo + (n : Int)] := by
  unfold rgI
  rw [List.range_succ, List.map_append]; rfl
def Bd5 (e : Int × Int) : Prop := 0 ≤ e.1 ∧ e.1 ≤ 5 ∧ 0 ≤ e.2 ∧ e.2 ≤ 28
theorem mx_bd {a b lo hi : Int} (h1 : lo ≤ a ∧ a ≤ hi) (h2 : lo ≤ b ∧ b ≤ hi) : lo ≤ mx a b ∧ mx a b ≤ hi := by unfold mx; split <;> omega
theorem est_bd {m t c k : Int} {e : Int × Int} (h : Bd5 e) (h1 : 0 ≤ k ∧ k ≤ c) (h2 : c ≤ m) (h3 : m ≤ 14) : Bd5 (est m t c k e) := by
  unfold est
  by_cases q : 0 ≤ t - k ∧ t - k ≤ m - c
  · rw [if_pos q]
    obtain ⟨a1, a2, a3, a4⟩ := h
    have b1 := aT_bd c k
    have b2 := aT_bd (m - c) (t - k)
    have c1 := pP_bd' h1.1 h1.2 (by omega)
    have c2 := pP_bd' q.1 q.2 (by omega)
    have d1 := mx_bd ⟨a1, a2⟩ (mx_bd b1 b2)
    have d2 := mx_bd (lo := 0) (hi := 28) ⟨a3, a4⟩ ⟨show 0 ≤ pP c k + pP (m - c) (t - k) by omega, show pP c k + pP (m - c) (t - k) ≤ 28 by omega⟩
    exact ⟨d1.1, d1.2, d2.1, d2.2⟩
  · rw [if_neg q]; exact h
theorem eno_bd {m t c : Int} (h2 : c ≤ m) (h3 : m ≤ 14) : ∀ n : Nat, (n : Int) ≤ c + 1 → Bd5 (eno m t c (rgI 0 n) (0, 0))
  | 0, _ => show Bd5 ((0, 0) : Int × Int) from ⟨by decide, by decide, by decide, by decide⟩
  | n + 1, h => by
    rw [rgI_succ, eno_snoc]
    exact est_bd (eno_bd h2 h3 n (by omega)) (by omega) h2 h3
theorem prs_succ (m t : Int) (n : Nat) : prs m t (rgI 1 (n + 1)) = prs m t (rgI 1 n) ++ [((eno m t (1 + (n : Int)) (rgI 0 (1 + (n : Int) + 1).toNat) (0, 0)).1 + 1, (eno m t (1 + (n : Int)) (rgI 0 (1 + (n : Int) + 1).toNat) (0, 0)).2 + 1)] := by
  rw [rgI_succ]
  unfold prs
  rw [List.map_append]; rfl
theorem prs_inB {m t : Int} (h3 : m ≤ 14) (n : Nat) (hn : (n : Int) ≤ m - 1) : ∀ e ∈ prs m t (rgI 1 n), InB e := fun e he => by
  unfold prs at he
  obtain ⟨c, hc, rfl⟩ := List.mem_map.mp he
  have h := mem_rgI.mp hc
  obtain ⟨a1, a2, a3, a4⟩ := eno_bd (m := m) (t := t) (c := c) (by omega) h3 (c + 1).toNat (by omega)
  exact ⟨by show 0 ≤ _ + 1; omega, by show _ + 1 < (64 : Int); omega, by show 0 ≤ _ + 1; omega, by show _ + 1 < (64 : Int); omega⟩
/-! ### the book -/
def k2 (m t : Int) : List L2.Key := [.inl m, .inl t]
theorem k2_inj {m t m' t' : Int} (h : k2 m t = k2 m' t') : m = m' ∧ t = t' := by
  have h1 := List.cons.inj h
  have h2 := List.cons.inj h1.2
  exact ⟨Sum.inl.inj h1.1, Sum.inl.inj h2.1⟩
def boxB : List (List L2.Key) := (List.range 15).flatMap fun m => (List.range 15).map fun t => k2 (m : Nat) (t : Nat)
theorem boxB_len : boxB.length = 225 := by
  unfold boxB
  rw [flatMap_len _ 15 _ (fun y _ => by rw [List.length_map, List.length_range]), List.length_range]
theorem mem_boxB {m t : Int} (h1 : 0 ≤ m ∧ m < 15) (h2 : 0 ≤ t ∧ t < 15) : k2 m t ∈ boxB := by
  unfold boxB
  refine List.mem_flatMap.mpr ⟨m.toNat, List.mem_range.mpr (by omega), List.mem_map.mpr ⟨t.toNat, List.mem_range.mpr (by omega), ?_⟩⟩
  rw [Int.toNat_of_nonneg h1.1, Int.toNat_of_nonneg h2.1]
structure BookOk (H : Hp) (kvs : List (List L2.Key × V)) : Prop where
  nd : (kvs.map (·.1)).Nodup
  box : ∀ k ∈ kvs.map (·.1), k ∈ boxB
  val : ∀ m t v, valV kvs (k2 m t) = some v → ∃ a, v = .ref a ∧ PrsAt H a [(aT m t, pP m t)]
theorem BookOk.nil {H : Hp} : BookOk H [] := ⟨List.nodup_nil, fun k h => (by cases h), fun m t v h => (by cases h)⟩
theorem BookOk.len {H : Hp} {kvs : List (List L2.Key × V)} (h : BookOk H kvs) : kvs.length ≤ 225 := by
  have := nodup_le _ _ h.nd h.box
  rw [boxB_len, List.length_map] at this
  exact this
theorem BookOk.ext {H H' : Hp} {D : Addr} {kvs kv0 : List (List L2.Key × V)} (h : BookOk H kvs) (hD : H D = some (.dT kv0)) (e : Ext D H H') : BookOk H' kvs :=
  ⟨h.nd, h.box, fun m t v hv => let ⟨a, e1, e2⟩ := h.val m t v hv; ⟨a, e1, e2.extD hD e⟩⟩
theorem BookOk.put {H : Hp} {kvs : List (List L2.Key × V)} (h : BookOk H kvs) {m t : Int} {a : Addr} (h1 : 0 ≤ m ∧ m < 15) (h2 : 0 ≤ t ∧ t < 15) (hv : PrsAt H a [(aT m t, pP m t)]) : BookOk H (putK kvs (k2 m t) (.ref a)) := by
  obtain ⟨n1, n2⟩ := nd_put (k := k2 m t) (v := .ref a) h.nd
  refine ⟨n1, fun k hk => ?_, fun m' t' v' hv' => ?_⟩
  · rcases n2 k hk with z | rfl
    · exact h.box k z
    · exact mem_boxB h1 h2
  · rw [valV_put] at hv'
    by_cases e : k2 m' t' = k2 m t
    · rw [if_pos e] at hv'
      obtain ⟨rfl, rfl⟩ := k2_inj e
      cases hv'; exact ⟨a, rfl, hv⟩
    · rw [if_neg e] at hv'; exact h.val _ _ _ hv'
abbrev sFr : Stmt := st__law_front
abbrev nFr : List Str := ["_law_size", "_law_alive", "_law_book", "_law_pairs", "_law_cut", "_law_enough", "_law_here", "_law_one_here", "_law_other"]
abbrev pFr : List Str := ["_law_size", "_law_alive", "_law_book"]
theorem scFr : FnScope nFr pFr (defScope sFr) := ⟨rfl, rfl, rfl, by decide +kernel, rfl, by decide +kernel, by decide +kernel⟩
def spFr (n : Nat) : Sp := fun vs H Q _ => ∃ (m t : Int) (B : Addr) (kvs : List (List L2.Key × V)), vs = [.int m, .int t, .ref B] ∧ 0 ≤ t ∧ t ≤ m ∧ m < n ∧ m ≤ 14 ∧ H B = some (.dT kvs) ∧ BookOk H kvs ∧
  ∀ R H' kvs', Ext B H H' → H' B = some (.dT kvs') → BookOk H' kvs' → PrsAt H' R [(aT m t, pP m t)] → Q (.ref R) H'
abbrev FSt (m t : Int) (B : Addr) (v3 v4 v5 v6 v7 v8 : Option V) : L2.St := [some (.int m), some (.int t), some (.ref B), v3, v4, v5, v6, v7, v8]
section
variable {P : Program} {w : World} {K : PySem.W.Frag} {mg : Str → Option Value} {base : Heap}
set_option maxHeartbeats 16000000 in
theorem ok_fr {f : Addr} {fd : FuncData} {n : Nat} (T : Bk mg) (D_best : Def P w K mg base CX0 1 "_law_best" pBe spBe) (D_both : Def P w K mg base CX0 2 "_law_both" pBo (spOne2 fun y v => y + v)) (D_either : Def P w K mg base CX0 2 "_law_either" pBo (spOne2 mx))
    (D_front : Def P w K mg base CX0 (n + 3) "_law_front" pFr (spFr n)) (F : Fun K "_law_front" "_law_front" sFr f fd) : FnOk P w K mg base CX0 (n + 4) f fd pFr (spFr (n + 1)) := by
  have nd := scFr.nd
  refine F.ok scFr (fun vs H Q E h => ?_) (fun cdv A outer s H vs Q E hr h => ?_)
  · obtain ⟨m, t, B, kvs, rfl, _⟩ := h
    rfl
  · obtain ⟨m, t, B, kvs, rfl, h0, h1, h2, h3, hB, bk, q⟩ := h
    refine ⟨_, (pss_cons (ps_if (pt_cmpR (op_in_seqK (K := K) rfl) (pv 1) (pe_tup (pa_cons pe_int (pa_cons (pv 0) pa_nil))) (by rfl))
  (pss_one (ps_ret (pe_lst (pa_cons (pe_tup (pa_cons pe_int (pa_cons pe_int pa_nil))) pa_nil))))
  pss_nil)
 (pss_cons (ps_if (pt_cmp (pc_dnotin (hu_of hr) (pe_tup (pa_cons (pv 0) (pa_cons (pv 1) pa_nil))) (pv 2)))
  (pss_cons (ps_set (i := 3) nd rfl (Or.inl rfl) (pe_lst pa_nil))
 (pss_cons (ps_for PassesOwn.never rfl (pi_range2 rfl T.range (pa_cons pe_int (pa_cons (pv 0) pa_nil))) (pg_name (i := 4) nd rfl (Or.inl rfl))
  (pss_cons (ps_set (i := 5) nd rfl (Or.inl rfl) (pe_lst (pa_cons (pe_tup (pa_cons pe_int (pa_cons pe_int pa_nil))) pa_nil)))
 (pss_cons (ps_for PassesOwn.never rfl (pi_range1 rfl T.range (pa_cons (pe_op op_add (pv 4) pe_int) pa_nil)) (pg_name (i := 6) nd rfl (Or.inl rfl))
  (pss_one (ps_if (pt_chain op_le op_le pe_int (pe_op op_sub (pv 1) (pv 6)) (pe_op op_sub (pv 0) (pv 4)))
  (pss_cons (ps_par (i := 7) (j := 8) (by rfl) nd rfl rfl (by decide) rfl rfl (pa_cons (pe_def D_front hr rfl pass0 (pa_cons (pv 4) (pa_cons (pv 6) (pa_cons (pv 2) pa_nil)))) (pa_cons (pe_def D_front hr rfl pass0 (pa_cons (pe_op op_sub (pv 0) (pv 4)) (pa_cons (pe_op op_sub (pv 1) (pv 6)) (pa_cons (pv 2) pa_nil)))) pa_nil)) (by rfl))
 (pss_one (ps_set (i := 5) nd rfl (Or.inl rfl) (pe_def D_either (hr.mono (by omega)) rfl pass0 (pa_cons (pv 5) (pa_cons (pe_def D_both (hr.mono (by omega)) rfl pass0 (pa_cons (pv 7) (pa_cons (pv 8) pa_nil))) pa_nil))))))
  pss_nil)))
 (pss_one (ps_set (i := 3) nd rfl (Or.inl rfl) (pe_op op_cat (pv 3) (pe_lc (own := [("_law_one_here", 7), ("_law_other", 8)]) (g := gTup K 2 (gCons (gName 7) (gCons (gName 8) gNil))) (tt := tYes) rfl nd (pi_listK (K := K) rfl (pv 5)) (blkOk_by (own := [("_law_one_here", 7), ("_law_other", 8)]) (N := nFr) (sc := defScope sFr) (by decide +kernel)) (fun _ _ _ _ _ => pg_tup rfl (pgs_cons (pg_name (i := 7) nd rfl (Or.inl rfl)) (pgs_cons (pg_name (i := 8) nd rfl (Or.inl rfl)) pgs_nil))) (fun _ _ _ _ _ => pts_nil) (fun _ _ _ _ _ => (pe_tup (pa_cons (pe_op op_add (pv 7) pe_int) (pa_cons (pe_op op_add (pv 8) pe_int) pa_nil)))))))))))
 (pss_one (ps_dput (hu_of hr) (pv 2) (pe_tup (pa_cons (pv 0) (pa_cons (pv 1) pa_nil))) (pe_def D_best (hr.mono (by omega)) rfl pass0 (pa_cons (pv 3) pa_nil)) (by rfl)))))
  pss_nil)
 (pss_one (ps_ret (pe_dget (hu_of hr) (pv 2) (pe_tup (pa_cons (pv 0) (pa_cons (pv 1) pa_nil))) (fun _ _ => rfl)))))), ?_⟩
    refine ⟨_, rfl, _, rfl, (by show 2 ≤ sizeLine; decide), fun Z nZ => ⟨Z, [.int 0, .int m], rfl, .inr (st upd_same), rfl, rfl, _, rfl, ?_⟩⟩
    have sZ := same_new (o := .tup [.int 0, .int m]) nZ
    show (if inV (.int t) [.int 0, .int m] = true then _ else _)
    rw [inV_two]
    have hBZ := sZ _ _ hB
    have bkZ := bk.ext hB (same_ext sZ)
    by_cases c : clr m t
    · refine itbT (decide_eq_true c) ?_
      refine ⟨(by show 2 ≤ sizeLine; decide), fun U nU => ⟨(by show 1 ≤ sizeLine; decide), fun R nR => ?_⟩⟩
      have s2 := (sZ.new (o := .tup [.int 0, .int 0]) nU).new (o := .lst [.ref U]) nR
      have e1 : aT m t = 0 := if_pos c
      have e2 := P_clr' (by omega) h3 c
      refine q R _ kvs (same_ext s2) (s2 _ _ hB) (bk.ext hB (same_ext s2)) ?_
      rw [e1, e2]
      exact prs_one' upd_same (same_new nR _ _ upd_same)
    · refine itbF (decide_eq_false c) ?_
      have c' := c
      unfold clr at c'
      have fin : ∀ (G : Hp) (kv' : List (List L2.Key × V)) (v3 v4 v5 v6 v7 v8 : Option V), Ext B H G → G B = some (.dT kv') → BookOk G kv' → (∃ v, valV kv' (k2 m t) = some v) →
          (tRet (tDGet (tVar 2) (tTup (tCons (tVar 0) (tCons (tVar 1) tNil))))) { nx := fun _ H' => Q .non H', rt := Q } (FSt m t B v3 v4 v5 v6 v7 v8) G := fun G kv' v3 v4 v5 v6 v7 v8 eG hG bG ⟨v, hv⟩ => by
        refine ⟨_, rfl, _, rfl, _, rfl, (by show 2 ≤ sizeLine; decide), fun U nU => ?_⟩
        have sU := same_new (o := .tup [.int m, .int t]) nU
        obtain ⟨a, rfl, ha⟩ := bG.val m t v hv
        have hg := DGet.t (k := k2 m t) (sU _ _ hG) (b := U) upd_same
        rw [hv] at hg
        refine ⟨B, _, rfl, hg, ?_⟩
        exact q a _ kv' (eG.trans (same_ext sU)) (sU _ _ hG) (bG.ext hG (same_ext sU)) (ha.same sU)
      refine ⟨_, rfl, _, rfl, (by show 2 ≤ sizeLine; decide), fun U nU => ⟨_, rfl, B, _, rfl, DGet.t (k := k2 m t) (same_new nU _ _ hBZ) upd_same, _, rfl, ?_⟩⟩
      have sU := sZ.new (o := .tup [.int m, .int t]) nU
      generalize upd (upd H Z (.tup [.int 0, .int m])) U (.tup [.int m, .int t]) = H1 at sU
      have hB1 := sU _ _ hB
      have bk1 := bk.ext hB (same_ext sU)
      cases hv : valV kvs (k2 m t) with
      | some v =>
        refine itbF rfl ?_
        exact fin H1 kvs none none none none none none (same_ext sU) hB1 bk1 ⟨v, hv⟩
      | none =>
        refine itbT rfl ?_
        refine ⟨(by show 0 ≤ sizeLine; decide), fun N0 nN0 => ?_⟩
        have s3 := sU.new (o := .lst []) nN0
        refine ⟨_, rfl, 1, m, rfl, ⟨by decide, by decide, by omega, by omega⟩, for_range (lo := 1) (n := (m - 1).toNat) (fun i σ G => ∃ (N : Addr) (kv' : List (List L2.Key × V)) (v4 v5 v6 v7 v8 : Option V), σ = FSt m t B (some (.ref N)) v4 v5 v6 v7 v8 ∧ Ext B H G ∧ G B = some (.dT kv') ∧ BookOk G kv' ∧ PrsAt G N (prs m t (rgI 1 i)))
          ⟨N0, kvs, none, none, none, none, none, rfl, same_ext s3, s3 _ _ hB, bk.ext hB (same_ext s3), [], upd_same, .nil⟩ ?_ ?_⟩
        · rintro i σ G hi ⟨N, kv1, v4, v5, v6, v7, v8, rfl, eG, hG, bG, hN⟩
          refine ⟨(by show 2 ≤ sizeLine; decide), fun U1 nU1 => ⟨(by show 1 ≤ sizeLine; decide), fun E0 nE0 => ?_⟩⟩
          have s4 := (same_new (o := .tup [.int 0, .int 0]) nU1).new (o := .lst [.ref U1]) nE0
          have hE0 : PrsAt (upd (upd G U1 (.tup [.int 0, .int 0])) E0 (.lst [.ref U1])) E0 [(0, 0)] := prs_one' upd_same (same_new nE0 _ _ upd_same)
          generalize upd (upd G U1 (.tup [.int 0, .int 0])) E0 (.lst [.ref U1]) = G1 at s4 hE0
          have c1 : (1 : Int) + (i : Int) ≤ m - 1 := by omega
          refine ⟨_, rfl, _, _, rfl, rfl, _, rfl, by omega, by omega, for_range (lo := 0) (n := (1 + (i : Int) + 1).toNat) (fun j σ G' => ∃ (Eo : Addr) (kv' : List (List L2.Key × V)) (v6 v7 v8 : Option V), σ = FSt m t B (some (.ref N)) (some (.int (1 + (i : Int)))) (some (.ref Eo)) v6 v7 v8 ∧ Ext B G G' ∧ G' B = some (.dT kv') ∧ BookOk G' kv' ∧ PrsAt G' Eo [eno m t (1 + (i : Int)) (rgI 0 j) (0, 0)])
            ⟨E0, kv1, v6, v7, v8, rfl, same_ext s4, s4 _ _ hG, bG.ext hG (same_ext s4), hE0⟩ ?_ ?_⟩
          · rintro j σ G2 hj ⟨Eo, kv2, v6, v7, v8, rfl, e2, hG2, b2, hE⟩
            have eb := eno_bd (m := m) (t := t) (c := 1 + (i : Int)) (by omega) h3 j (by omega)
            have eS : eno m t (1 + (i : Int)) (rgI 0 (j + 1)) (0, 0) = est m t (1 + (i : Int)) (0 + (j : Int)) (eno m t (1 + (i : Int)) (rgI 0 j) (0, 0)) := by rw [rgI_succ, eno_snoc]
            rw [eS]
            have eb2 := est_bd (t := t) (k := 0 + (j : Int)) eb (by omega) (show 1 + (i : Int) ≤ m by omega) h3
            generalize eno m t (1 + (i : Int)) (rgI 0 j) (0, 0) = e at hE eb eb2
            refine ⟨_, rfl, _, rfl, _, _, rfl, rfl, _, _, rfl, rfl, _, rfl, ?_⟩
            by_cases k1 : 0 ≤ t - (0 + (j : Int))
            · refine itbT (decide_eq_true k1) ?_
              refine ⟨_, rfl, _, rfl, _, _, rfl, rfl, _, _, rfl, rfl, _, rfl, ?_⟩
              by_cases k2' : t - (0 + (j : Int)) ≤ m - (1 + (i : Int))
              · refine itbT (decide_eq_true k2') ?_
                refine par_go ?_
                refine ⟨_, rfl, _, rfl, _, rfl, 1 + (i : Int), 0 + (j : Int), B, kv2, rfl, by omega, by omega, by omega, by omega, hG2, b2, fun R1 G3 kv3 e3 hG3 b3 hR1 => ?_⟩
                refine ⟨_, rfl, _, rfl, _, _, rfl, rfl, _, rfl, _, rfl, _, _, rfl, rfl, _, rfl, m - (1 + (i : Int)), t - (0 + (j : Int)), B, kv3, rfl, k1, k2', by omega, by omega, hG3, b3, fun R2 G4 kv4 e4 hG4 b4 hR2 => ?_⟩
                have hR1' := hR1.extD hG3 e4
                have hE4 := (hE.extD hG2 e3).extD hG3 e4
                refine ⟨_, _, rfl, ?_⟩
                have bd1 := aT_bd (1 + (i : Int)) (0 + (j : Int))
                have bd2 := aT_bd (m - (1 + (i : Int))) (t - (0 + (j : Int)))
                have bp1 := pP_bd' (m := 1 + (i : Int)) (t := 0 + (j : Int)) (by omega) (by omega) (by omega)
                have bp2 := pP_bd' k1 k2' (show m - (1 + (i : Int)) ≤ 14 by omega)
                have bm := mx_bd bd1 bd2
                refine ⟨_, rfl, _, rfl, _, rfl, R1, R2, _, _, _, _, rfl, hR1', hR2, ⟨bm.1, by show mx _ _ < 64; omega, by show 0 ≤ _ + _; omega, by show _ + _ < (64 : Int); omega⟩, fun R3 G5 s5 nR3 hR3 => ?_⟩
                have eQ : est m t (1 + (i : Int)) (0 + (j : Int)) e = (mx e.1 (mx (aT (1 + (i : Int)) (0 + (j : Int))) (aT (m - (1 + (i : Int))) (t - (0 + (j : Int))))), mx e.2 (pP (1 + (i : Int)) (0 + (j : Int)) + pP (m - (1 + (i : Int))) (t - (0 + (j : Int))))) := if_pos ⟨k1, k2'⟩
                rw [eQ] at eb2 ⊢
                obtain ⟨z1, z2, z3, z4⟩ := eb2
                refine ⟨Eo, R3, e.1, e.2, _, _, rfl, hE4.same s5, hR3, ⟨z1, by omega, z3, Int.lt_of_le_of_lt z4 (by decide)⟩, fun R4 G6 s6 nR4 hR4 => ?_⟩
                have eT : Ext B G G6 := (((e2.trans e3).trans e4).trans (same_ext s5)).trans (same_ext s6)
                have s56 := s5.trans s6
                exact ⟨R4, kv4, _, _, _, rfl, eT, s56 _ _ hG4, b4.ext hG4 (same_ext s56), hR4⟩
              · refine itbF (decide_eq_false k2') ?_
                have eQ : est m t (1 + (i : Int)) (0 + (j : Int)) e = e := if_neg (fun z => k2' z.2)
                rw [eQ]
                exact ⟨Eo, kv2, _, _, _, rfl, e2, hG2, b2, hE⟩
            · refine itbF (decide_eq_false k1) ⟨_, rfl, itbF rfl ?_⟩
              have eQ : est m t (1 + (i : Int)) (0 + (j : Int)) e = e := if_neg (fun z => k1 z.1)
              rw [eQ]
              exact ⟨Eo, kv2, _, _, _, rfl, e2, hG2, b2, hE⟩
          · rintro σ G2 ⟨Eo, kv2, v6, v7, v8, rfl, e2, hG2, b2, hE⟩
            have hN2 := hN.extD hG e2
            rw [prs_succ]
            generalize eno m t (1 + (i : Int)) (rgI 0 (1 + (i : Int) + 1).toNat) (0, 0) = e at hE
            obtain ⟨u1, hu1, hu2⟩ := prs_one hE
            obtain ⟨ys, hy1, hy2⟩ := id hN2
            refine ⟨_, rfl, _, rfl, Eo, rfl, ⟨_, sq hu1⟩, fun L nL => ?_⟩
            refine lc_it walk_list (fun j G3 => Same G2 G3 ∧ ∃ acc, G3 L = some (.lst acc) ∧ acc.length ≤ j ∧ DvA G3 acc (([(e.1 + 1, e.2 + 1)].take j).map prD)) ⟨same_new nL, [], upd_same, Nat.zero_le _, .nil⟩ (fun j G3 _ ⟨s2, _⟩ => sq (s2 _ _ hu1)) ?_ ?_
            · rintro j z G3 G4 hj ⟨s2, acc, hL, la, dA⟩ ⟨rfl, hz⟩
              have j0 : j = 0 := by have : j < 1 := hj; omega
              subst j0
              cases hz
              cases dA
              refine ⟨u1, _, rfl, st (s2 _ _ hu2), rfl, _, _, rfl, _, _, rfl, rfl, rfl, tyes ⟨_, rfl, _, _, rfl, rfl, _, rfl, _, _, rfl, rfl, (by show 2 ≤ sizeLine; decide), fun W nW => ?_⟩⟩
              have sW := same_new (o := .tup [.int (e.1 + 1), .int (e.2 + 1)]) nW
              refine ⟨[], sW _ _ hL, by decide, (s2.trans sW).mut nL, [.ref W], upd_same, Nat.le_refl _, ?_⟩
              refine .cons (.tup ?_ (.cons (.int _) (.cons (.int _) .nil))) .nil
              rw [upd_ne (fun z => by rw [z, hL] at nW; cases nW)]; exact upd_same
            · rintro G3 ⟨s2, acc, hL, la, dA⟩
              have ly : ys.length ≤ 14 := by
                rw [hy2.lenM]
                unfold prs
                rw [List.length_map, rgI_len]
                omega
              refine ⟨N, L, ys, acc, rfl, rfl, s2 _ _ hy1, hL, lt1 _ (by have : acc.length ≤ 1 := la; omega), fun R nR => ?_⟩
              have sR := same_new (o := .lst (ys ++ acc)) nR
              have sA := s2.trans sR
              refine ⟨R, kv2, _, _, _, _, _, rfl, (eG.trans e2).trans (same_ext sA), sA _ _ hG2, b2.ext hG2 (same_ext sA), ys ++ acc, upd_same, ?_⟩
              rw [List.map_append]
              exact (hy2.same sA).app (dA.same sR)
        · rintro σ G ⟨N, kv1, v4, v5, v6, v7, v8, rfl, eG, hG, bG, hN⟩
          have ok := prs_ok h0 h1 h3 c
          refine ⟨_, rfl, N, _, rfl, hN, ?_, prs_inB h3 _ (by omega), fun R G2 l' s2 nR hR g2 a2 => ?_⟩
          · unfold prs; rw [List.length_map, rgI_len]; omega
          have el : l' = [(aT m t, pP m t)] := good_at g2 fun r p => (a2 r p).trans ⟨fun ⟨e, he, z1, z2⟩ => by have := ok.2 e he; omega, fun z => ⟨_, ok.1, z⟩⟩
          rw [el] at hR
          refine ⟨_, rfl, _, rfl, _, rfl, (by show 2 ≤ sizeLine; decide), fun U2 nU2 => ?_⟩
          have s3 := s2.new (o := .tup [.int m, .int t]) nU2
          have hU2 : (upd G2 U2 (.tup [.int m, .int t])) U2 = some (.tup ((k2 m t).map kV)) := upd_same
          have hR3 := hR.same (same_new (o := .tup [.int m, .int t]) nU2)
          generalize upd G2 U2 (.tup [.int m, .int t]) = G3 at s3 hU2 hR3
          have hG3 := s3 _ _ hG
          have b3 := bG.ext hG (same_ext s3)
          refine ⟨B, _, rfl, DPut.t hG3 hU2 (Nat.lt_of_le_of_lt b3.len (by decide)), ?_⟩
          have b4 : BookOk (upd G3 B (.dT (putK kv1 (k2 m t) (.ref R)))) (putK kv1 (k2 m t) (.ref R)) := (b3.put (by omega) (by omega) hR3).ext hG3 (Ext.refl _).self
          refine fin _ _ _ _ _ _ _ _ (eG.trans (same_ext s3)).self upd_same b4 ⟨.ref R, ?_⟩
          rw [valV_put, if_pos rfl]
theorem fr_all (T : Bk mg) (D_best : Def P w K mg base CX0 1 "_law_best" pBe spBe) (D_both : Def P w K mg base CX0 2 "_law_both" pBo (spOne2 fun y v => y + v)) (D_either : Def P w K mg base CX0 2 "_law_either" pBo (spOne2 mx)) (a : At K mg "_law_front" sFr) :
    ∀ n : Nat, Def P w K mg base CX0 (n + 3) "_law_front" pFr (spFr n)
  | 0 => a.def (fun _ _ _ _ _ _ us hl => match us, hl with | [_, _, _], _ => rfl) fun f fd F => by
    have no : ∀ vs H Q E, ¬ spFr 0 vs H Q E := fun vs H Q E h => by
      obtain ⟨m, t, B, kvs, _, h0, h1, h2, _⟩ := h
      omega
    exact ⟨fun vs H Q E h => absurd h (no vs H Q E), fun A outer s H args us vs Q E _ _ _ _ h => absurd h (no vs H Q E)⟩
  | n + 1 => a.def (fun _ _ _ _ _ _ us hl => match us, hl with | [_, _, _], _ => rfl) fun f fd F => ok_fr T D_best D_both D_either (fr_all T D_best D_both D_either a n) F
end
end K1


set_option Elab.async false
set_option linter.all false
set_option maxRecDepth 100000
set_option maxHeartbeats 4000000
namespace K1
open PySem PySem.Spec PyProof.Rows L2 RZ
abbrev sRi : Stmt := st__law_right
abbrev nRi : List Str := ["_law_size", "_law_alive", "_law_book", "_law_due", "_law_told", "_law_bound", "_law_fitting", "_law_rounds_so", "_law_probes"]
theorem scRi : FnScope nRi pFr (defScope sRi) := ⟨rfl, rfl, rfl, by decide +kernel, rfl, by decide +kernel, by decide +kernel⟩
def spRi : Sp := fun vs H Q _ => ∃ (m t : Int) (B : Addr) (kvs : List (List L2.Key × V)), vs = [.int m, .int t, .ref B] ∧ 0 ≤ t ∧ t ≤ m ∧ m ≤ 14 ∧ H B = some (.dT kvs) ∧ BookOk H kvs ∧
  ∀ H' kvs', Ext B H H' → H' B = some (.dT kvs') → BookOk H' kvs' → Q (.bl true) H'
theorem Sing.lp_ge {m t a b : Int} (s : Sing m t a b) {r : Int} (h : a ≤ r) : ov (lp r.toNat m t) = .int b := by
  have := s.a0
  rw [s.eq, if_pos (by omega)]; rfl
theorem Sing.lp_lt {m t a b : Int} (s : Sing m t a b) {r : Int} (h0 : 0 ≤ r) (h : ¬ a ≤ r) : ov (lp r.toNat m t) = .non := by
  rw [s.eq, if_neg (by omega)]; rfl
def fitL (a b r : Int) : List Int := if a ≤ r then [b] else []
theorem eqv_lst (l l' : List (Int × Int)) (h : l = l') : PyData.eqv (.list (l.map prD)) (.list (l'.map prD)) = true := by
  rw [h]; exact SeqAt.eqv_refl _ (SeqAt.canLay_of_shaped (shaped_prs l'))
theorem eqv_int (a : Int) : PyData.eqv (.int a) (.int a) = true := by simp [PyData.eqv]
/-- two lists of pairs that are alike -/
theorem ne_prs {K : PySem.W.Frag} {H : Hp} {a b : Addr} {l : List (Int × Int)} {Q : VK} (h1 : PrsAt H a l) (h2 : PrsAt H b l) (q : Q (.bl false) H) : rNeD K (.ref a) (.ref b) H Q :=
  ⟨_, _, h1.dp, h2.dp, shaped_prs l, shaped_prs l, by rw [eqv_lst l l rfl]; exact q⟩
theorem eq_prs {K : PySem.W.Frag} {H : Hp} {a b : Addr} {l : List (Int × Int)} {Q : VK} (h1 : PrsAt H a l) (h2 : PrsAt H b l) (q : Q (.bl true) H) : rEqD K (.ref a) (.ref b) H Q :=
  ⟨_, _, h1.dp, h2.dp, shaped_prs l, shaped_prs l, by rw [eqv_lst l l rfl]; exact q⟩
theorem ne_int {K : PySem.W.Frag} {H : Hp} {v : V} {a : Int} {Q : VK} (h : v = .int a) (q : Q (.bl false) H) : rNeD K v (.int a) H Q := by
  subst h
  exact ⟨.int a, .int a, .int _, .int _, rfl, rfl, by rw [eqv_int]; exact q⟩
theorem eq_int {K : PySem.W.Frag} {H : Hp} {v : V} {a : Int} {Q : VK} (h : v = .int a) (q : Q (.bl true) H) : rEqD K v (.int a) H Q := by
  subst h
  exact ⟨.int a, .int a, .int _, .int _, rfl, rfl, by rw [eqv_int]; exact q⟩
theorem ne_non {K : PySem.W.Frag} {H : Hp} {v : V} {Q : VK} (h : v = .non) (q : Q (.bl false) H) : rNeD K v .non H Q := by
  subst h
  exact ⟨.none, .none, .non, .non, rfl, rfl, by rw [show PyData.eqv .none .none = true by simp [PyData.eqv]]; exact q⟩
theorem tC_go {v : V} {σ : L2.St} {H : Hp} {Q : VK} (h : Q v H) : tC v σ H Q := h
abbrev RSt (m t : Int) (B R L : Addr) (v5 v6 v7 v8 : Option V) : L2.St := [some (.int m), some (.int t), some (.ref B), some (.ref R), some (.ref L), v5, v6, v7, v8]
section
variable {P : Program} {w : World} {K : PySem.W.Frag} {mg : Str → Option Value} {base : Heap}
set_option maxHeartbeats 16000000 in
theorem ok_ri {f : Addr} {fd : FuncData} (T : Bk mg) (D_front : Def P w K mg base CX0 18 "_law_front" pFr (spFr 15)) (D_curve : Def P w K mg base CX0 52 "curve" nCk spCu) (D_least_rounds : Def P w K mg base CX0 52 "least_rounds" nCk spLR) (LP : DefLP P w K mg base)
    (F : Fun K "_law_right" "_law_right" sRi f fd) : FnOk P w K mg base CX0 54 f fd pFr spRi := by
  have nd := scRi.nd
  refine F.ok scRi (fun vs H Q E h => ?_) (fun cdv A outer s H vs Q E hr h => ?_)
  · obtain ⟨m, t, B, kvs, rfl, _⟩ := h
    rfl
  · obtain ⟨m, t, B, kvs, rfl, h0, h1, h2, hB, bk, q⟩ := h
    refine ⟨_, (pss_cons (ps_set (i := 3) nd rfl (Or.inl rfl) (pe_def D_front (hr.mono (by decide)) rfl pass0 (pa_cons (pv 0) (pa_cons (pv 1) (pa_cons (pv 2) pa_nil)))))
 (pss_cons (ps_set (i := 4) nd rfl (Or.inl rfl) (pe_def D_curve (hr.mono (by decide)) rfl pass0 (pa_cons (pv 0) (pa_cons (pv 1) pa_nil))))
 (pss_cons (ps_if (PW.pt (pw_or (pt_cmpR (op_neDK (K := K) rfl hr.units) (pv 4) (pv 3) (nomark _)) (pw_or (pt_cmpR (op_neDK (K := K) rfl hr.units) (pe_def D_least_rounds (hr.mono (by decide)) rfl pass0 (pa_cons (pv 0) (pa_cons (pv 1) pa_nil))) (pe_ix (ix_tupK (K := K) rfl) (pe_ix (ix_listK (K := K) rfl) (pv 3) pe_int (fun _ _ => rfl)) pe_int (fun _ _ => rfl)) (nomark _)) (pw_or1 (pt_cmpR (op_neDK (K := K) rfl hr.units) (pe_lp2 LP (hr.mono (by decide)) rfl (pa_cons (pv 0) (pa_cons (pv 1) pa_nil))) (pe_ix (ix_tupK (K := K) rfl) (pe_ix (ix_listK (K := K) rfl) (pv 3) (pe_un un_neg pe_int) (fun _ _ => rfl)) pe_int (fun _ _ => rfl)) (nomark _))))))
  pss_any
  pss_nil)
 (pss_cons (ps_for PassesOwn.never rfl (pi_range1 rfl T.range (pa_cons (pe_op op_add (pv 0) pe_int) pa_nil)) (pg_name (i := 5) nd rfl (Or.inr rfl))
  (pss_cons (ps_setLc (i := 6) (own := [("_law_rounds_so", 7), ("_law_probes", 8)]) (g := gTup K 2 (gCons (gName 7) (gCons (gName 8) gNil))) rfl nd rfl rfl (sw_true rfl rfl rfl (by decide +kernel)) (pi_listK (K := K) rfl (pv 3)) (blkOk_by (own := [("_law_rounds_so", 7), ("_law_probes", 8)]) (N := nRi) (sc := defScope sRi) (by decide +kernel)) (fun _ _ _ _ _ => pg_tup rfl (pgs_cons (pg_name (i := 7) nd rfl (Or.inl rfl)) (pgs_cons (pg_name (i := 8) nd rfl (Or.inl rfl)) pgs_nil))) (fun _ _ _ _ _ => pts_one (pt_cmpR op_le (pv 7) (pv 5) (nomark _))) (fun _ _ _ _ _ => (pv 8)))
 (pss_one (ps_if (pt_cmpR (op_neDK (K := K) rfl hr.units) (pe_lp3 LP (hr.mono (by decide)) rfl (pa_cons (pv 0) (pa_cons (pv 1) pa_nil)) (pk_cons (pv 5) pk_nil)) (pe_ifExp (pt_cmpR (op_neDK (K := K) rfl hr.units) (pv 6) (pe_lst pa_nil) (nomark _)) (pe_callB (cr_minK (K := K) rfl rfl) (by rfl) T.min PyProof.Rows.boot_min (pa_cons (pv 6) pa_nil)) pe_non) (nomark _))
  pss_any
  pss_nil))))
 (pss_cons (ps_expr (pe_bm PySem.F.plainAttrs_list PySem.F.slot_list_append PySem.F.type_list_append mt_append (pv 4) (pa_cons pe_non pa_nil)))
 (pss_one (ps_ret (pe_and (pe_cmpR (op_eqDK (K := K) rfl hr.units) (pe_def D_curve (hr.mono (by decide)) rfl pass0 (pa_cons (pv 0) (pa_cons (pv 1) pa_nil))) (pv 3) (nomark _)) (pe_one (pe_cmpR (op_eqDK (K := K) rfl hr.units) (pe_lp3 LP (hr.mono (by decide)) rfl (pa_cons (pv 0) (pa_cons (pv 1) pa_nil)) (pk_cons (pe_op op_pow pe_int pe_int) pk_nil)) (pe_ix (ix_tupK (K := K) rfl) (pe_ix (ix_listK (K := K) rfl) (pv 3) (pe_un un_neg pe_int) (fun _ _ => rfl)) pe_int (fun _ _ => rfl)) (nomark _))))))))))), ?_⟩
    have sg := sing_small h0 h1 h2
    have ab := aT_bd m t
    have ec := curve_sing sg
    have am := sg.am
    refine ⟨_, rfl, _, rfl, _, rfl, m, t, B, kvs, rfl, h0, h1, by omega, h2, hB, bk, fun R H1 kv1 e1 hB1 b1 hR => ?_⟩
    refine ⟨_, rfl, _, rfl, m, t, rfl, h0, h1, by omega, fun L H2 s2 nL hL => ?_⟩
    rw [ec] at hL
    generalize aT m t = a at *
    generalize pP m t = b at *
    have hR2 := hR.same s2
    have last : ∀ G, PrsAt G R [(a, b)] → ∃ x y, SqL K G R x ∧ atI x (-1) = some (.ref y) ∧ SqT K G y [.int a, .int b] := fun G h => by
      obtain ⟨y, h1, h2⟩ := prs_one h
      exact ⟨_, y, sq h1, atI_last [] _, st h2⟩
    obtain ⟨y0, hy1, hy2⟩ := prs_one hR2
    refine ⟨_, rfl, _, rfl, ne_prs hL hR2 ⟨_, rfl, itbF rfl ?_⟩⟩
    refine ⟨_, rfl, _, rfl, m, t, a, b, [], rfl, h0, h1, by omega, ec, fun H3 s3 => ?_⟩
    refine ⟨_, rfl, R, _, 0, .ref y0, rfl, rfl, sq (s3 _ _ hy1), atI_nat (j := 0) rfl, y0, _, 0, .int a, rfl, rfl, st (s3 _ _ hy2), atI_nat (j := 0) rfl, ne_int rfl ⟨_, rfl, itbF rfl ?_⟩⟩
    refine ⟨_, rfl, _, rfl, m, t, m, .non, rfl, .inl ⟨rfl, rfl⟩, h0, h1, by omega, by omega, fun H4 s4 => ?_⟩
    have s34 := s3.trans s4
    obtain ⟨x4, y4, z1, z2, z3⟩ := last H4 (hR2.same s34)
    refine ⟨_, rfl, _, rfl, R, _, _, _, rfl, rfl, z1, z2, y4, _, 1, .int b, rfl, rfl, z3, atI_nat (j := 1) rfl, ne_int (sg.lp_ge am) ⟨_, rfl, itbF rfl ?_⟩⟩
    have sA := s2.trans s34
    have eA : Ext B H H4 := e1.trans (same_ext sA)
    have hB4 := sA _ _ hB1
    have hL4 := hL.same s34
    have hR4 := hR2.same s34
    have nLH : H L = none := by
      cases e : H L with
      | none => rfl
      | some o =>
        by_cases z : L = B
        · rw [z, hB1] at nL; cases nL
        · rw [e1 _ _ z e] at nL; cases nL
    refine ⟨_, rfl, _, _, rfl, rfl, _, rfl, by omega, by omega, for_range (lo := 0) (n := (m + 2).toNat) (fun i σ G => ∃ (v5 v6 v7 v8 : Option V), σ = RSt m t B R L v5 v6 v7 v8 ∧ Same H4 G) ⟨none, none, none, none, rfl, fun _ _ h => h⟩ ?_ ?_⟩
    · rintro i σ G hi ⟨v5, v6, v7, v8, rfl, sG⟩
      obtain ⟨y5, w1, w2⟩ := prs_one (hR4.same sG)
      refine ⟨_, rfl, R, rfl, ⟨_, sq w1⟩, fun M nM => ?_⟩
      refine lc_it walk_list (fun j G2 => Same G G2 ∧ G2 M = some (.lst ((if j = 0 then [] else fitL a b (0 + (i : Int))).map V.int))) ⟨same_new nM, upd_same⟩ (fun j G2 _ ⟨s5, _⟩ => sq (s5 _ _ w1)) ?_ ?_
      · rintro j z G2 G3 hj ⟨s5, hM⟩ ⟨rfl, hz⟩
        have j0 : j = 0 := by have : j < 1 := hj; omega
        subst j0
        cases hz
        refine ⟨y5, _, rfl, st (s5 _ _ w2), rfl, _, _, rfl, _, _, rfl, rfl, rfl, _, rfl, _, rfl, _, _, rfl, rfl, _, rfl, ?_⟩
        by_cases k : a ≤ 0 + (i : Int)
        · refine itbT (decide_eq_true k) ?_
          refine ⟨_, rfl, [], hM, by decide, s5.mut nM, ?_⟩
          rw [upd_same, if_neg (by decide)]
          unfold fitL; rw [if_pos k]; rfl
        · refine itbF (decide_eq_false k) ?_
          refine ⟨s5, ?_⟩
          rw [hM, if_pos rfl, if_neg (by decide)]
          unfold fitL; rw [if_neg k]
      · rintro G2 ⟨s5, hM⟩
        rw [if_neg (show ¬ ([V.ref y5] : List V).length = 0 by simp)] at hM
        refine ⟨_, rfl, _, rfl, _, rfl, rfl, rfl, m, t, 0 + (i : Int), .int (0 + (i : Int)), rfl, .inr rfl, h0, h1, by omega, by omega, fun G3 s6 => ?_⟩
        refine ⟨_, rfl, (by show 0 ≤ sizeLine; decide), fun Z nZ => ?_⟩
        have sZ := s6.new (o := .lst []) nZ
        refine ⟨.list ((fitL a b (0 + (i : Int))).map PyData.int), .list (([] : List Int).map PyData.int), dp_list (sq (sZ _ _ hM)), .lst (sq upd_same) .nil, shaped_ints _, shaped_ints [], _, rfl, ?_⟩
        rw [eqv_ints]
        have fin : ∀ G4, Same G3 G4 → (∃ (u5 u6 u7 u8 : Option V), RSt m t B R L (some (.int (0 + (i : Int)))) (some (.ref M)) v7 v8 = RSt m t B R L u5 u6 u7 u8 ∧ Same H4 G4) := fun G4 s7 => ⟨_, _, v7, v8, rfl, ((sG.trans s5).trans s6).trans s7⟩
        by_cases k : a ≤ 0 + (i : Int)
        · have ef : fitL a b (0 + (i : Int)) = [b] := if_pos k
          rw [ef]
          refine itbT (by simp) ?_
          rw [ef] at hM
          refine ⟨_, rfl, M, [b], rfl, sq (sZ _ _ hM), by simp, fun x hx _ => ?_⟩
          rw [List.mem_singleton.mp hx]
          exact ne_int (sg.lp_ge k) ⟨_, rfl, itbF rfl (fin _ (same_new nZ))⟩
        · have ef : fitL a b (0 + (i : Int)) = [] := if_neg k
          rw [ef]
          refine itbF (by simp) ?_
          refine tC_go ?_
          dsimp only
          refine ne_non (sg.lp_lt (by omega) k) ?_
          exact ⟨_, rfl, itbF rfl (fin _ (same_new nZ))⟩
    · rintro σ G ⟨v5, v6, v7, v8, rfl, sG⟩
      obtain ⟨xs, l1, l2⟩ := hL4.same sG
      have lx := l2.lenM
      refine ⟨_, rfl, .inl ⟨rfl, _, sq l1⟩, L, _, _, rfl, rfl, l1, lt2 _ (by rw [lx]; show 1 ≤ 100000; decide), ?_⟩
      have nRL : R ≠ L := fun z => by
        obtain ⟨y, w1, _⟩ := prs_one hR
        rw [z, nL] at w1; cases w1
      have eL : Ext B H (upd G L (.lst (xs ++ [.non]))) := (eA.trans (same_ext sG)).mut nLH
      have nBL : B ≠ L := fun z => by rw [← z, hB1] at nL; cases nL
      have hRL : PrsAt (upd G L (.lst (xs ++ [.non]))) R [(a, b)] := (hR4.same sG).keep (KeepT.upd (fun _ _ h => h) fun ys z => by rw [l1] at z; cases z) fun ys z => by rw [upd_ne nRL]; exact z
      have hBL : (upd G L (.lst (xs ++ [.non]))) B = some (.dT kv1) := by rw [upd_ne nBL]; exact sG _ _ hB4
      have bL : BookOk (upd G L (.lst (xs ++ [.non]))) kv1 := ⟨b1.nd, b1.box, fun m' t' v hv => by
        obtain ⟨c, e1', e2'⟩ := b1.val m' t' v hv
        refine ⟨c, e1', (e2'.same (sA.trans sG)).keep (KeepT.upd (fun _ _ h => h) fun ys z => by rw [l1] at z; cases z) fun ys z => ?_⟩
        have ne : c ≠ L := fun z => by
          obtain ⟨zs, w1, _⟩ := e2'
          rw [z, nL] at w1; cases w1
        rw [upd_ne ne]; exact z⟩
      generalize upd G L (.lst (xs ++ [.non])) = G1 at eL hRL hBL bL
      refine ⟨_, rfl, _, rfl, m, t, rfl, h0, h1, by omega, fun L2 G2 s5 nL2 hL2 => ?_⟩
      rw [ec] at hL2
      refine ⟨_, rfl, eq_prs hL2 (hRL.same s5) ⟨_, rfl, itbT rfl ?_⟩⟩
      refine ⟨_, rfl, _, rfl, _, _, rfl, rfl, ⟨by decide, by decide, by decide⟩, rfl, rfl, m, t, _, _, rfl, .inr rfl, h0, h1, by omega, by decide, fun G3 s6 => ?_⟩
      have s56 := s5.trans s6
      obtain ⟨x7, y7, z1, z2, z3⟩ := last G3 (hRL.same s56)
      refine ⟨_, rfl, _, rfl, R, _, _, _, rfl, rfl, z1, z2, y7, _, 1, .int b, rfl, rfl, z3, atI_nat (j := 1) rfl, eq_int (sg.lp_ge (Int.le_trans ab.2 (by decide))) ?_⟩
      exact q G3 kv1 (eL.trans (same_ext s56)) (s56 _ _ hBL) (bL.ext hBL (same_ext s56))
end
end K1


set_option Elab.async false
set_option linter.all false
set_option maxRecDepth 100000
set_option maxHeartbeats 4000000
namespace K1
open PySem PySem.Spec PyProof.Rows L2 RZ
abbrev sGr : Stmt := st__law_great_right
abbrev nGr : List Str := ["_law_well_here", "_law_book", "_law_size", "_law_alive", "_law_due", "_law_count", "_law_power"]
abbrev pGr : List Str := ["_law_well_here", "_law_book"]
theorem scGr : FnScope nGr pGr (defScope sGr) := ⟨rfl, rfl, rfl, by decide +kernel, rfl, by decide +kernel, by decide +kernel⟩
/-- but two objects all stays -/
def Ext2 (p q : Addr) (H H' : Hp) : Prop := ∀ b o, b ≠ p → b ≠ q → H b = some o → H' b = some o
def spGr : Sp := fun vs H Q _ => ∃ (W B : Addr) (kvs : List (List L2.Key × V)), vs = [.ref W, .ref B] ∧ WellAt H W ∧ H B = some (.dT kvs) ∧ BookOk H kvs ∧
  ∀ H' kvs', Ext2 W B H H' → WellAt H' W → H' B = some (.dT kvs') → BookOk H' kvs' → Q (.bl true) H'
theorem PrsAt.ne {H : Hp} {a W : Addr} {e : Int × Int} (h : PrsAt H a [e]) (w : WellAt H W) : a ≠ W := fun z => by
  obtain ⟨b, h1, _⟩ := prs_one h
  obtain ⟨c, m, t, h2⟩ := w
  rw [z, h2] at h1; cases h1
theorem WellAt.kT {H H' : Hp} {W : Addr} (w : WellAt H W) (e : Ext W H H') : KeepT H H' := KeepT.ext e fun xs z => by
  obtain ⟨c, m, t, h2⟩ := w
  rw [h2] at z; cases z
theorem PrsAt.well {H H' : Hp} {a W : Addr} {e : Int × Int} (h : PrsAt H a [e]) (w : WellAt H W) (x : Ext W H H') : PrsAt H' a [e] :=
  h.keep (w.kT x) fun xs z => x _ _ (h.ne w) z
theorem BookOk.well {H H' : Hp} {W : Addr} {kvs : List (List L2.Key × V)} (h : BookOk H kvs) (w : WellAt H W) (x : Ext W H H') : BookOk H' kvs :=
  ⟨h.nd, h.box, fun m t v hv => let ⟨a, e1, e2⟩ := h.val m t v hv; ⟨a, e1, e2.well w x⟩⟩
theorem WellAt.dne {H : Hp} {W B : Addr} {kvs : List (List L2.Key × V)} (w : WellAt H W) (h : H B = some (.dT kvs)) : W ≠ B := fun z => by
  obtain ⟨c, m, t, h2⟩ := w
  rw [z, h] at h2; cases h2
theorem WellAt.same {H H' : Hp} {W : Addr} (w : WellAt H W) (s : Same H H') : WellAt H' W := let ⟨c, m, t, h⟩ := w; ⟨c, m, t, s _ _ h⟩
theorem WellAt.extD {H H' : Hp} {W B : Addr} (w : WellAt H W) (n : W ≠ B) (e : Ext B H H') : WellAt H' W := let ⟨c, m, t, h⟩ := w; ⟨c, m, t, e _ _ n h⟩
/-- sizes of one letter, or of all but one -/
theorem sing_two {m t : Int} (h1 : 2 ≤ m) (h2 : m ≤ 24) (h : t = 1 ∨ t = m - 1) : Sing m t (clI m) (clI m) := by
  rcases h with rfl | rfl
  · exact sing_one h1 h2
  · exact sing_last h1 h2
theorem clI_big : ((List.range 25).all fun m => decide (m < 11) || decide (1 ≤ clI (m : Nat))) = true := by decide +kernel
theorem clI_big' {m : Int} (h0 : 11 ≤ m) (h1 : m ≤ 24) : 1 ≤ clI m := by
  have a := List.all_eq_true.mp clI_big m.toNat (List.mem_range.mpr (by omega))
  rw [Int.toNat_of_nonneg (by omega)] at a
  rcases Bool.or_eq_true _ _ |>.mp a with a | a
  · have := of_decide_eq_true a; omega
  · exact of_decide_eq_true a
def pwI : Nat → Int
  | 0 => 1
  | 1 => 2
  | 2 => 4
  | 3 => 8
  | _ => 16
def cntI (m : Int) : Nat → Int
  | 0 => 0
  | i + 1 => cntI m i + b1 (pwI i < m)
theorem cntI_all (m : Int) : cntI m 5 = clI m := by
  show 0 + b1 (1 < m) + b1 (2 < m) + b1 (4 < m) + b1 (8 < m) + b1 (16 < m) = _
  rw [Int.zero_add]; rfl
theorem pw_at : ∀ {i : Nat} {x : V}, ([.int 1, .int 2, .int 4, .int 8, .int 16] : List V)[i]? = some x → x = .int (pwI i)
  | 0, _, h => (Option.some.inj h).symm
  | 1, _, h => (Option.some.inj h).symm
  | 2, _, h => (Option.some.inj h).symm
  | 3, _, h => (Option.some.inj h).symm
  | 4, _, h => (Option.some.inj h).symm
  | i + 5, _, h => by simp at h
section
variable {P : Program} {w : World} {K : PySem.W.Frag} {mg : Str → Option Value} {base : Heap}
set_option maxHeartbeats 16000000 in
theorem ok_gr {f : Addr} {fd : FuncData} (T : Bk mg) (D_draw : Def P w K mg base CX0 1 "_law_draw" ["_law_well_here", "_law_below"] spDraw) (D_front : Def P w K mg base CX0 18 "_law_front" pFr (spFr 15)) (D_curve : Def P w K mg base CX0 52 "curve" nCk spCu) (D_least_rounds : Def P w K mg base CX0 52 "least_rounds" nCk spLR) (LP : DefLP P w K mg base)
    (F : Fun K "_law_great_right" "_law_great_right" sGr f fd) : FnOk P w K mg base CX0 54 f fd pGr spGr := by
  have nd := scGr.nd
  refine F.ok scGr (fun vs H Q E h => ?_) (fun cdv A outer s H vs Q E hr h => ?_)
  · obtain ⟨W, B, kvs, rfl, _⟩ := h
    rfl
  · obtain ⟨W, B, kvs, rfl, hW, hB, bk, q⟩ := h
    refine ⟨_, (pss_cons (ps_set (i := 2) nd rfl (Or.inl rfl) (pe_op op_add pe_int (pe_def D_draw (hr.mono (by decide)) rfl pass0 (pa_cons (pv 0) (pa_cons pe_int pa_nil)))))
 (pss_cons (ps_set (i := 3) nd rfl (Or.inl rfl) (pe_def D_draw (hr.mono (by decide)) rfl pass0 (pa_cons (pv 0) (pa_cons (pe_op op_add (pv 2) pe_int) pa_nil))))
 (pss_cons (ps_set (i := 4) nd rfl (Or.inl rfl) (pe_def D_front (hr.mono (by decide)) rfl pass0 (pa_cons (pv 2) (pa_cons (pv 3) (pa_cons (pv 1) pa_nil)))))
 (pss_cons (ps_if (PW.pt (pw_or (pt_cmpR (op_neDK (K := K) rfl hr.units) (pe_def D_curve (hr.mono (by decide)) rfl pass0 (pa_cons (pv 2) (pa_cons (pv 3) pa_nil))) (pv 4) (nomark _)) (pw_or1 (pt_cmpR (op_neDK (K := K) rfl hr.units) (pe_lp3 LP (hr.mono (by decide)) rfl (pa_cons (pv 2) (pa_cons (pv 3) pa_nil)) (pk_cons (pe_ix (ix_tupK (K := K) rfl) (pe_ix (ix_listK (K := K) rfl) (pv 4) pe_int (fun _ _ => rfl)) pe_int (fun _ _ => rfl)) pk_nil)) (pe_ix (ix_tupK (K := K) rfl) (pe_ix (ix_listK (K := K) rfl) (pv 4) pe_int (fun _ _ => rfl)) pe_int (fun _ _ => rfl)) (nomark _)))))
  pss_any
  pss_nil)
 (pss_cons (ps_par (i := 2) (j := 5) (by rfl) nd rfl rfl (by decide) rfl rfl (pa_cons (pe_op op_add pe_int (pe_def D_draw (hr.mono (by decide)) rfl pass0 (pa_cons (pv 0) (pa_cons pe_int pa_nil)))) (pa_cons pe_int pa_nil)) (by rfl))
 (pss_cons (ps_for PassesOwn.never rfl (pi_tupK (K := K) rfl (pe_tup (pa_cons pe_int (pa_cons pe_int (pa_cons pe_int (pa_cons pe_int (pa_cons pe_int pa_nil))))))) (pg_name (i := 6) nd rfl (Or.inl rfl))
  (pss_one (ps_set (i := 5) nd rfl (Or.inl rfl) (pe_op op_add (pv 5) (pe_callTy call_int1 (by rfl) T.int PyProof.Rows.boot_int (pa_cons (pe_cmpR op_lt (pv 6) (pv 2) (nomark _)) pa_nil))))))
 (pss_cons (ps_for PassesOwn.never rfl (pi_tupK (K := K) rfl (pe_tup (pa_cons pe_int (pa_cons (pe_op op_sub (pv 2) pe_int) pa_nil)))) (pg_name (i := 3) nd rfl (Or.inl rfl))
  (pss_one (ps_if (PW.pt (pw_or (pt_cmpR (op_neDK (K := K) rfl hr.units) (pe_def D_curve (hr.mono (by decide)) rfl pass0 (pa_cons (pv 2) (pa_cons (pv 3) pa_nil))) (pe_lst (pa_cons (pe_tup (pa_cons (pv 5) (pa_cons (pv 5) pa_nil))) pa_nil)) (nomark _)) (pw_or1 (pt_cmpR op_notN (pe_lp3 LP (hr.mono (by decide)) rfl (pa_cons (pv 2) (pa_cons (pv 3) pa_nil)) (pk_cons (pe_op op_sub (pv 5) pe_int) pk_nil)) pe_non (nomark _)))))
  pss_any
  pss_nil)))
 (pss_one (ps_ret (pe_cmpR (op_eqDK (K := K) rfl hr.units) (pe_def D_least_rounds (hr.mono (by decide)) rfl pass0 (pa_cons (pv 2) (pa_cons (pe_op op_sub (pv 2) pe_int) pa_nil))) (pv 5) (nomark _))))))))))), ?_⟩
    have nWB := hW.dne hB
    refine ⟨_, rfl, W, 4, rfl, hW, by decide, by decide, fun d1 H1 d1a d1b e1 w1 => ⟨_, _, rfl, rfl, ?_⟩⟩
    refine ⟨_, rfl, _, rfl, _, _, rfl, rfl, W, 11 + d1 + 1, rfl, w1, by omega, by omega, fun t H2 ta tb' e2 w2 => ?_⟩
    have h2' : (11 + d1) ≤ 14 := by omega
    have hB2 : H2 B = some (.dT kvs) := e2 _ _ nWB.symm (e1 _ _ nWB.symm hB)
    have b2 : BookOk H2 kvs := (bk.well hW e1).well w1 e2
    dsimp only
    generalize hm : 11 + d1 = m at *
    refine ⟨_, rfl, _, rfl, _, rfl, m, t, B, kvs, rfl, ta, by omega, by omega, h2', hB2, b2, fun R H3 kv3 e3 hB3 b3 hR => ?_⟩
    have w3 : WellAt H3 W := w2.extD nWB e3
    have sg := sing_small ta (show t ≤ m by omega) h2'
    have ab := aT_bd m t
    have ec := curve_sing sg
    generalize aT m t = a at *
    generalize pP m t = b at *
    refine ⟨_, rfl, _, rfl, m, t, rfl, ta, by omega, by omega, fun L H4 s4 nL hL => ?_⟩
    rw [ec] at hL
    have hR4 := hR.same s4
    obtain ⟨y0, hy1, hy2⟩ := prs_one hR4
    refine ⟨_, rfl, ne_prs hL hR4 ⟨_, rfl, itbF rfl ?_⟩⟩
    refine ⟨_, rfl, _, rfl, _, rfl, R, _, 0, .ref y0, rfl, rfl, sq hy1, atI_nat (j := 0) rfl, y0, _, 0, .int a, rfl, rfl, st hy2, atI_nat (j := 0) rfl, rfl, rfl, m, t, a, .int a, rfl, .inr rfl, ta, by omega, by omega, ab.1, fun H5 s5 => ?_⟩
    refine ⟨_, rfl, R, _, 0, .ref y0, rfl, rfl, sq (s5 _ _ hy1), atI_nat (j := 0) rfl, y0, _, 1, .int b, rfl, rfl, st (s5 _ _ hy2), atI_nat (j := 1) rfl, ne_int (sg.lp_ge (Int.le_refl a)) ⟨_, rfl, itbF rfl ?_⟩⟩
    have s35 := s4.trans s5
    refine next_go ?_
    dsimp only
    refine par_go ?_
    have w5 := w3.same s35
    refine ⟨_, rfl, W, 14, rfl, w5, by decide, by decide, fun d2 H6 d2a d2b e6 w6 => ⟨_, _, rfl, rfl, ⟨_, _, rfl, ?_⟩⟩⟩
    have hB6 : H6 B = some (.dT kv3) := e6 _ _ nWB.symm (s35 _ _ hB3)
    have b6 : BookOk H6 kv3 := (b3.ext hB3 (same_ext s35)).well w5 e6
    have x6 : Ext2 W B H H6 := fun c o n1 n2 h => e6 _ _ n1 (s35 _ _ (e3 _ _ n2 (e2 _ _ n1 (e1 _ _ n1 h))))
    dsimp only
    generalize hz : 11 + d2 = z at *
    have z1 : 11 ≤ z := by omega
    have z2 : z ≤ 24 := by omega
    refine ⟨(by show 5 ≤ sizeLine; decide), fun U nU => ?_⟩
    have sU := same_new (o := .tup [.int 1, .int 2, .int 4, .int 8, .int 16]) nU
    refine ⟨U, rfl, ⟨_, st upd_same⟩, for_it walk_tup (fun i σ G => ∃ (v6 : Option V), σ = [some (.ref W), some (.ref B), some (.int z), some (.int t), some (.ref R), some (.int (cntI z i)), v6] ∧ Same H6 G ∧ G U = some (.tup [.int 1, .int 2, .int 4, .int 8, .int 16])) ⟨none, rfl, sU, upd_same⟩ (fun i σ G _ ⟨_, _, _, h⟩ => st h) ?_ ?_⟩
    · rintro i x σ G G' hi ⟨v6, rfl, sG, hU⟩ ⟨rfl, hx⟩
      have := pw_at hx
      subst this
      refine ⟨_, rfl, _, rfl, _, rfl, _, _, rfl, rfl, .inr ⟨_, rfl, _, _, rfl, rfl, ?_⟩⟩
      refine ⟨some (.int (pwI i)), ?_, sG, hU⟩
      have eb : (if decide (pwI i < z) = true then (1 : Int) else 0) = b1 (pwI i < z) := by unfold b1; simp only [decide_eq_true_eq]
      show _ = [some (V.ref W), some (V.ref B), some (V.int z), some (V.int t), some (V.ref R), some (V.int (cntI z i + b1 (pwI i < z))), some (V.int (pwI i))]
      rw [← eb]; rfl
    · rintro σ G ⟨v6, rfl, sG, hU⟩
      have ez : cntI z ([V.int 1, V.int 2, V.int 4, V.int 8, V.int 16] : List V).length = clI z := cntI_all z
      rw [ez]
      have cl := clI_lo z
      have cb := clI_big' z1 z2
      refine ⟨_, rfl, _, _, rfl, rfl, (by show 2 ≤ sizeLine; decide), fun Y nY => ?_⟩
      have sY := sG.new (o := .tup [.int 1, .int (z - 1)]) nY
      refine ⟨Y, rfl, ⟨_, st upd_same⟩, for_it walk_tup (fun i σ G => ∃ (v3 v6 : Option V), σ = [some (.ref W), some (.ref B), some (.int z), v3, some (.ref R), some (.int (clI z)), v6] ∧ Same H6 G ∧ G Y = some (.tup [.int 1, .int (z - 1)])) ⟨_, _, rfl, sY, upd_same⟩ (fun i σ G _ ⟨_, _, _, _, h⟩ => st h) ?_ ?_⟩
      · rintro i x σ G2 G3 hi ⟨v3, v6, rfl, sG2, hY⟩ ⟨rfl, hx⟩
        have ht : ∃ u : Int, x = .int u ∧ (u = 1 ∨ u = z - 1) := by
          have : i = 0 ∨ i = 1 := by have : i < 2 := hi; omega
          rcases this with rfl | rfl
          · exact ⟨1, (Option.some.inj hx).symm, .inl rfl⟩
          · exact ⟨z - 1, (Option.some.inj hx).symm, .inr rfl⟩
        obtain ⟨u, rfl, hu⟩ := ht
        have s1 := sing_two (t := u) (by omega) z2 hu
        have ec1 := curve_sing s1
        refine ⟨_, rfl, _, rfl, z, u, rfl, by omega, by omega, by omega, fun L1 G4 s7 nL1 hL1 => ?_⟩
        rw [ec1] at hL1
        refine ⟨_, rfl, _, rfl, (by show 2 ≤ sizeLine; decide), fun V1 nV1 => ⟨(by show 1 ≤ sizeLine; decide), fun X1 nX1 => ?_⟩⟩
        have s8 := (same_new (o := .tup [.int (clI z), .int (clI z)]) nV1).new (o := .lst [.ref V1]) nX1
        refine ne_prs (hL1.same s8) (prs_one' upd_same (same_new nX1 _ _ upd_same)) ⟨_, rfl, itbF rfl ?_⟩
        refine ⟨_, rfl, _, rfl, _, rfl, _, _, rfl, rfl, rfl, rfl, z, u, clI z - 1, .int (clI z - 1), rfl, .inr rfl, by omega, by omega, by omega, by omega, fun G5 s9 => ?_⟩
        have en := s1.lp_lt (r := clI z - 1) (by omega) (by omega)
        rw [en]
        refine ⟨rfl, _, rfl, itbF rfl ?_⟩
        exact ⟨_, _, rfl, ((sG2.trans s7).trans s8).trans s9, s9 _ _ (s8 _ _ (s7 _ _ hY))⟩
      · rintro σ G2 ⟨v3, v6, rfl, sG2, hY⟩
        have s1 := sing_two (t := z - 1) (by omega) z2 (.inr rfl)
        refine ⟨_, rfl, _, rfl, _, _, rfl, rfl, z, z - 1, clI z, clI z, [], rfl, by omega, by omega, z2, curve_sing s1, fun G3 s7 => ?_⟩
        have sA := sG2.trans s7
        refine ⟨_, rfl, eq_int rfl ?_⟩
        exact q G3 kv3 (fun c o n1 n2 h => sA _ _ (x6 c o n1 n2 h)) (w6.same sA) (sA _ _ hB6) (b6.ext hB6 (same_ext sA))
end
end K1


set_option Elab.async false
set_option linter.all false
set_option maxRecDepth 100000
set_option maxHeartbeats 4000000
namespace K1
open PySem PySem.Spec PyProof.Rows L2 RZ
abbrev sLaw : Stmt := st_law
abbrev nLaw : List Str := ["_law_script", "_law_book", "_law_k", "_law_well_here", "_law_turn", "_law_size"]
abbrev pLaw : List Str := ["_law_script"]
theorem scLaw : FnScope nLaw pLaw (defScope sLaw) := ⟨rfl, rfl, rfl, by decide +kernel, rfl, by decide +kernel, by decide +kernel⟩
def spLaw (K : PySem.W.Frag) : Sp := fun vs H Q _ => ∃ (a : Addr) (xs : List Int), vs = [.ref a] ∧ SqL K H a (xs.map V.int) ∧ xs.length ≤ 63 ∧ ∀ H', Q (.bl true) H'
theorem crv_at {m t x y : Int} (h0 : 0 ≤ t) (h1 : t ≤ m) (h2 : m ≤ 14) (e1 : aT m t = x) (e2 : pP m t = y) : crv m t (m + 1).toNat = [(x, y)] := by
  rw [curve_sing (sing_small h0 h1 h2), e1, e2]
section
variable {P : Program} {w : World} {K : PySem.W.Frag} {mg : Str → Option Value} {base : Heap}
set_option maxHeartbeats 16000000 in
theorem ok_law {f : Addr} {fd : FuncData} (T : Bk mg) (D_draw : Def P w K mg base CX0 1 "_law_draw" ["_law_well_here", "_law_below"] spDraw) (D_well : Def P w K mg base CX0 1 "_law_well" ["_law_script", "_law_k"] (spWell K))
    (D_great_right : Def P w K mg base CX0 54 "_law_great_right" pGr spGr) (D_right : Def P w K mg base CX0 54 "_law_right" pFr spRi) (D_curve : Def P w K mg base CX0 52 "curve" nCk spCu)
    (F : Fun K "law" "law" sLaw f fd) : FnOk P w K mg base CX0 55 f fd pLaw (spLaw K) := by
  have nd := scLaw.nd
  refine F.ok scLaw (fun vs H Q E h => ?_) (fun cdv A outer s H vs Q E hr h => ?_)
  · obtain ⟨a, xs, rfl, _⟩ := h
    rfl
  · obtain ⟨a, xs, rfl, hS, hl, q⟩ := h
    refine ⟨_, (pss_cons (ps_set (i := 1) nd rfl (Or.inl rfl) pe_dnewT)
 (pss_cons (ps_if (pt_not (pt_val (pe_def D_great_right (hr.mono (by decide)) rfl pass0 (pa_cons (pe_def D_well (hr.mono (by decide)) rfl pass0 (pa_cons (pv 0) (pa_cons pe_int pa_nil))) (pa_cons (pv 1) pa_nil)))))
  pss_any
  pss_nil)
 (pss_cons (ps_for PassesOwn.never rfl (pi_range1 rfl T.range (pa_cons (pe_callB (call_max2 rfl) (by rfl) T.max PyProof.Rows.boot_max (pa_cons pe_int (pa_cons (pe_callB (call_min2 rfl) (by rfl) T.min PyProof.Rows.boot_min (pa_cons pe_int (pa_cons (pe_callB (call_lenK (K := K) rfl) (by rfl) T.len PySem.boot_len (pa_cons (pv 0) pa_nil)) pa_nil))) pa_nil))) pa_nil)) (pg_name (i := 2) nd rfl (Or.inl rfl))
  (pss_cons (ps_set (i := 3) nd rfl (Or.inl rfl) (pe_def D_well (hr.mono (by decide)) rfl pass0 (pa_cons (pv 0) (pa_cons (pv 2) pa_nil))))
 (pss_one (ps_for PassesOwn.never rfl (pi_range1 rfl T.range (pa_cons pe_int pa_nil)) (pg_name (i := 4) nd rfl (Or.inl rfl))
  (pss_cons (ps_set (i := 5) nd rfl (Or.inl rfl) (pe_def D_draw (hr.mono (by decide)) rfl pass0 (pa_cons (pv 3) (pa_cons pe_int pa_nil))))
 (pss_one (ps_if (pt_not (pt_val (pe_def D_right (hr.mono (by decide)) rfl pass0 (pa_cons (pv 5) (pa_cons (pe_def D_draw (hr.mono (by decide)) rfl pass0 (pa_cons (pv 3) (pa_cons (pe_op op_add (pv 5) pe_int) pa_nil))) (pa_cons (pv 1) pa_nil))))))
  pss_any
  pss_nil)))))))
 (pss_one (ps_ret (pe_and (pe_cmpR (op_eqDK (K := K) rfl hr.units) (pe_def D_curve (hr.mono (by decide)) rfl pass0 (pa_cons pe_int (pa_cons pe_int pa_nil))) (pe_lst (pa_cons (pe_tup (pa_cons pe_int (pa_cons pe_int pa_nil))) pa_nil)) (nomark _)) (pe_and (pe_cmpR (op_eqDK (K := K) rfl hr.units) (pe_def D_curve (hr.mono (by decide)) rfl pass0 (pa_cons pe_int (pa_cons pe_int pa_nil))) (pe_lst (pa_cons (pe_tup (pa_cons pe_int (pa_cons pe_int pa_nil))) pa_nil)) (nomark _)) (pe_one (pe_cmpR (op_eqDK (K := K) rfl hr.units) (pe_def D_curve (hr.mono (by decide)) rfl pass0 (pa_cons pe_int (pa_cons pe_int pa_nil))) (pe_lst (pa_cons (pe_tup (pa_cons pe_int (pa_cons pe_int pa_nil))) pa_nil)) (nomark _)))))))))), ?_⟩
    refine fun B nB => ?_
    have s1 := same_new (o := .dT []) nB
    have hB1 : (upd H B (.dT [])) B = some (.dT []) := upd_same
    generalize upd H B (.dT []) = H1 at s1 hB1
    refine ⟨_, rfl, a, xs, 0, rfl, s1.seq hS, hl, by decide, by decide, fun W H2 nW s2 w2 => ?_⟩
    have nWH : H W = none := s1.free nW
    refine ⟨_, rfl, W, B, [], rfl, w2, s2 _ _ hB1, BookOk.nil, fun H3 kv3 x3 w3 hB3 b3 => ⟨_, rfl, itbF rfl ?_⟩⟩
    have s3 : Same H H3 := fun c o hc => x3 c o (fun z => by rw [z, nWH] at hc; cases hc) (fun z => by rw [z, nB] at hc; cases hc) (s2 _ _ (s1 _ _ hc))
    refine next_go ?_
    refine ⟨_, rfl, a, _, rfl, .inl (s3.seq hS), 4, _, rfl, 1, _, rfl, _, rfl, ?_⟩
    generalize hn : (if (if ((xs.map V.int).length : Int) < 4 then ((xs.map V.int).length : Int) else 4) > 1 then (if ((xs.map V.int).length : Int) < 4 then ((xs.map V.int).length : Int) else 4) else 1) = n
    have hn5 : 1 ≤ n ∧ n ≤ 4 := by rw [← hn]; split <;> split <;> omega
    refine ⟨by omega, by omega, for_range (lo := 0) (n := n.toNat) (fun i σ G => ∃ (v2 v3 v4 v5 : Option V) (kv : List (List L2.Key × V)), σ = [some (.ref a), some (.ref B), v2, v3, v4, v5] ∧ Same H G ∧ G B = some (.dT kv) ∧ BookOk G kv) ⟨none, none, none, none, kv3, rfl, s3, hB3, b3⟩ ?_ ?_⟩
    · rintro i σ G hi ⟨v2, v3, v4, v5, kv, rfl, sG, hG, bG⟩
      refine ⟨_, rfl, _, rfl, a, xs, _, rfl, sG.seq hS, hl, by omega, by omega, fun W2 H4 nW2 s4 w4 => ?_⟩
      have nWH2 : H W2 = none := sG.free nW2
      refine ⟨3, rfl, by decide, by decide, for_range (lo := 0) (n := 3) (fun j σ G2 => ∃ (v4 v5 : Option V) (kv : List (List L2.Key × V)), σ = [some (.ref a), some (.ref B), some (.int (0 + (i : Int))), some (.ref W2), v4, v5] ∧ Same H G2 ∧ WellAt G2 W2 ∧ G2 B = some (.dT kv) ∧ BookOk G2 kv) ⟨_, _, kv, rfl, sG.trans s4, w4, s4 _ _ hG, bG.ext hG (same_ext s4)⟩ ?_ ?_⟩
      · rintro j σ G2 hj ⟨v4, v5, kv2, rfl, sG2, w5, hG2, b2⟩
        have nWB := w5.dne hG2
        have ex : ∀ {G3 : Hp}, Ext W2 G2 G3 → Same H G3 := fun e c o hc => e c o (fun z => by rw [z, nWH2] at hc; cases hc) (sG2 c o hc)
        refine ⟨_, rfl, W2, 11, rfl, w5, by decide, by decide, fun d1 G3 d1a d1b e1 w6 => ?_⟩
        refine ⟨_, rfl, _, rfl, _, rfl, _, _, rfl, rfl, W2, d1 + 1, rfl, w6, by omega, by omega, fun d2 G4 d2a d2b e2 w7 => ?_⟩
        have e12 := e1.trans e2
        have hG4 := e12 _ _ nWB.symm hG2
        refine ⟨_, rfl, d1, d2, B, kv2, rfl, d2a, by omega, by omega, hG4, (b2.well w5 e1).well w6 e2, fun G5 kv5 e5 hG5 b5 => ⟨_, rfl, itbF rfl ?_⟩⟩
        refine ⟨_, _, kv5, rfl, fun c o hc => e5 c o (fun z => by rw [z, nB] at hc; cases hc) (ex e12 c o hc), w7.extD nWB e5, hG5, b5⟩
      · rintro σ G2 ⟨v4, v5, kv2, rfl, sG2, w5, hG2, b2⟩
        exact ⟨_, _, _, _, kv2, rfl, sG2, hG2, b2⟩
    · rintro σ G ⟨v2, v3, v4, v5, kv, rfl, sG, hG, bG⟩
      have c1 : crv 4 2 ((4 : Int) + 1).toNat = [(2, 3)] := crv_at (by decide) (by decide) (by decide) (by decide +kernel) (by decide +kernel)
      have c2 : crv 7 0 ((7 : Int) + 1).toNat = [(0, 0)] := crv_at (by decide) (by decide) (by decide) (by decide +kernel) (by decide +kernel)
      have c3 : crv 0 0 ((0 : Int) + 1).toNat = [(0, 0)] := crv_at (by decide) (by decide) (by decide) (by decide +kernel) (by decide +kernel)
      refine ⟨4, 2, rfl, by decide, by decide, by decide, fun L1 G1 s5 n1 h1 => ?_⟩
      rw [c1] at h1
      refine ⟨(by show 2 ≤ sizeLine; decide), fun V1 nV1 => ⟨(by show 1 ≤ sizeLine; decide), fun X1 nX1 => ?_⟩⟩
      refine eq_prs (h1.same ((same_new nV1).new nX1)) (prs_one' upd_same (same_new nX1 _ _ upd_same)) ⟨_, rfl, itbT rfl ?_⟩
      refine ⟨7, 0, rfl, by decide, by decide, by decide, fun L2 G2 s6 n2 h2 => ?_⟩
      rw [c2] at h2
      refine ⟨(by show 2 ≤ sizeLine; decide), fun V2 nV2 => ⟨(by show 1 ≤ sizeLine; decide), fun X2 nX2 => ?_⟩⟩
      refine eq_prs (h2.same ((same_new nV2).new nX2)) (prs_one' upd_same (same_new nX2 _ _ upd_same)) ⟨_, rfl, itbT rfl ?_⟩
      refine ⟨0, 0, rfl, by decide, by decide, by decide, fun L3 G3 s7 n3 h3 => ?_⟩
      rw [c3] at h3
      refine ⟨(by show 2 ≤ sizeLine; decide), fun V3 nV3 => ⟨(by show 1 ≤ sizeLine; decide), fun X3 nX3 => ?_⟩⟩
      exact eq_prs (h3.same ((same_new nV3).new nX3)) (prs_one' upd_same (same_new nX3 _ _ upd_same)) (q _)
end
end K1


set_option Elab.async false
set_option linter.all false
set_option maxRecDepth 100000
set_option maxHeartbeats 4000000
namespace K1
open PySem PySem.Spec PyProof.Rows L2 RZ
/-! ### the end -/
section
variable {K : PySem.W.Frag} {h : Heap} {mg : Str → Option Value}
theorem cs_mk {x : Str} {n : Int} {t : Tok} {v : Value} (X : K.In h) (G : h.Ns mainGlobals mg) (a : PySem.W.nsIn K mainGlobals x = some (some v)) (e : v = .int n t) : ∃ t, mg x = some (.int n t) := ⟨t, by rw [PySem.W.mg_of X G a, e]⟩
theorem at_mk {x : Str} {st : Stmt} {f : Addr} {oc : Value} {od an : Option Addr} {osl : Array (Option Value)} {kV doc pm cdv ct : Value} (X : K.In h) (G : h.Ns mainGlobals mg) (a : PySem.W.nsIn K mainGlobals x = some (some (.ref f)))
    (l : K.lookup f = some ⟨oc, od, .func (PySem.W.fnOf x x (defArgs st) (defBody st) (defScope st) .none kV doc pm an cdv ct), osl⟩) (c : PySem.W.codeIn K cdv x = true) (k : PySem.W.keepIn K (.ref f) = true) : At K mg x st :=
  ⟨f, _, PySem.W.mg_of X G a, fun_mk l c k⟩
theorem atM_mk {C : Addr} {m q : Str} {st : Stmt} {f : Addr} {oc : Value} {od an : Option Addr} {osl : Array (Option Value)} {kV doc pm cdv ct : Value} (a : PySem.W.findIn K (.ref C) m = some (some (.ref f))) (n : PySem.W.isFn K (.ref f) = true)
    (l : K.lookup f = some ⟨oc, od, .func (PySem.W.fnOf m q (defArgs st) (defBody st) (defScope st) .none kV doc pm an cdv ct), osl⟩) (c : PySem.W.codeIn K cdv q = true) (k : PySem.W.keepIn K (.ref f) = true) : AtM K C m q st :=
  ⟨f, _, ⟨a, n, k⟩, fun_mk l c k⟩
end
theorem all_mk {l : PySem.W.OpenLaw} {w : World} {K : PySem.W.Frag} {h : Heap} {mg : Str → Option Value} {fa f C fI fP dP : Addr} {oc kV dc pm cdv ct oI kI dI pI cI tI oP dcP pmP cdP ctP uP : Value} {od an oD aI oDP anP : Option Addr} {sl sI sP : Array (Option Value)} (X : K.In h) (G : h.Ns mainGlobals mg) (hfa : mg "law" = some (.ref fa))
    (T : Bk mg) (Co : Cs mg) (t : ClP K mg C) (mk : L2.Mk K C fI)
    (lI : K.lookup fI = some ⟨oI, oD, .func (PySem.W.fnOf "__init__" "Probing.__init__" (defArgs sPI) (defBody sPI) (defScope sPI) .none kI dI pI aI cI tI), sI⟩) (gI : PySem.W.codeIn K cI "Probing.__init__" = true) (hI : PySem.W.keepIn K (.ref fI) = true)
    (aP : PySem.W.nsIn K mainGlobals "least_probes" = some (some (.ref fP))) (lP : K.lookup fP = some ⟨oP, oDP, .func (PySem.W.fnOf "least_probes" "least_probes" (defArgs sLP) (defBody sLP) (defScope sLP) .none (.ref dP) dcP pmP anP cdP ctP), sP⟩) (gP : PySem.W.codeIn K cdP "least_probes" = true) (hP : PySem.W.keepIn K (.ref fP) = true) (nP : PySem.W.nsIn K dP "rounds" = some (some uP)) (eP : uP = .none)
    (a0 : At K mg "is_integer" sIsInt) (a1 : At K mg "_is_clear" sClr) (a2 : At K mg "_halves" sHlv) (a3 : At K mg "least_rounds" sLR) (a4 : At K mg "curve" sCv) (a5 : At K mg "_curve" sCu) (a6 : At K mg "_check_many" sCk)
    (a7 : At K mg "_law_draw" sDraw) (a8 : At K mg "_law_well" sWell) (a9 : At K mg "_law_best" sBe) (a10 : At K mg "_law_both" sBo) (a11 : At K mg "_law_either" sEi) (a12 : At K mg "_law_front" sFr) (a13 : At K mg "_law_right" sRi) (a14 : At K mg "_law_great_right" sGr)
    (m0 : AtM K C "least" "Probing.least" sPL) (m1 : AtM K C "_with_cut" "Probing._with_cut" sPW)
    (aL : PySem.W.nsIn K mainGlobals "law" = some (some (.ref f))) (lL : K.lookup f = some ⟨oc, od, .func (PySem.W.fnOf "law" "law" (defArgs sLaw) (defBody sLaw) (defScope sLaw) .none kV dc pm an cdv ct), sl⟩) (cL' : PySem.W.codeIn K cdv "law" = true) (kL : PySem.W.keepIn K (.ref f) = true) :
    LamX.LawAtS l w K CX0 55 63 "_law_script" mg fa h := by
  have e := hfa.symm.trans (PySem.W.mg_of X G aL)
  cases e
  refine ⟨PySem.W.fnOf "law" "law" (defArgs sLaw) (defBody sLaw) (defScope sLaw) .none kV dc pm an cdv ct, [], spLaw K, (fun p z => nomatch z), (fun p z => nomatch z), (fun p z => nomatch z), fun s u => .of_eq rfl,
    fun H a ns hl _ hH hS => ⟨a, ns, rfl, hS, hl, fun _ => rfl⟩, fun base hb _ hTB => ?_⟩
  have dInt := def_isInt (P := l.prog) (w := w) (base := base) T.toBj a0
  have dClr := def_clr (P := l.prog) (w := w) (base := base) a1
  have dHlv := def_hlv (P := l.prog) (w := w) (base := base) T.toBj a2
  have mLeast := (both (P := l.prog) (w := w) (base := base) T.toBj t dClr dHlv m0 m1 24).1
  have dNew : MkP l.prog w K mg base C := by
    have F : Fun K "__init__" "Probing.__init__" sPI fI _ := fun_mk lI gI hI
    exact ⟨fI, _, mk, F.binds (fun _ _ _ _ _ _ us hl => match us, hl with | [_], _ => rfl), ok_pi t F⟩
  have dCk := def_ck (P := l.prog) (w := w) (base := base) Co dInt a6
  have dCu := def_cu T.toBj t dNew mLeast a5
  have dCv := def_cv dCk dCu a4
  have dLr := def_lr dCk dCu a3
  have dLP : DefLP l.prog w K mg base := def_lp t dInt dCk dNew mLeast (PySem.W.mg_of X G aP) (F := ⟨⟨oP, oDP, .none, .ref dP, dcP, pmP, anP, cdP, ctP, sP, rfl, lP, gP, .inl ⟨rfl, rfl⟩, .inr ⟨dP, rfl, fun q hq => by
    rw [List.mem_singleton.mp hq]
    exact ⟨uP, nP, eP⟩⟩⟩, hP⟩)
  have dDraw := def_draw (P := l.prog) (w := w) (base := base) T.toBi a7
  have dWell := def_well (P := l.prog) (w := w) (base := base) T.toBi a8
  have dBe := def_be (P := l.prog) (w := w) (base := base) T a9
  have dBo := def_bo T dBe a10
  have dEi := def_ei T dBe a11
  have dFr : Def l.prog w K mg base CX0 18 "_law_front" pFr (spFr 15) := fr_all T dBe dBo dEi a12 15
  have dRi : Def l.prog w K mg base CX0 54 "_law_right" pFr spRi := a13.def (fun _ _ _ _ _ _ us hl => match us, hl with | [_, _, _], _ => rfl) fun f fd F => ok_ri T dFr dCv dLr dLP F
  have dGr : Def l.prog w K mg base CX0 54 "_law_great_right" pGr spGr := a14.def (fun _ _ _ _ _ _ us hl => match us, hl with | [_, _], _ => rfl) fun f fd F => ok_gr T dDraw dFr dCv dLr dLP F
  have F : Fun K "law" "law" sLaw fa _ := ⟨⟨oc, od, kV, dc, pm, an, cdv, ct, sl, rfl, lL, cL'⟩, kL⟩
  exact ok_law T dDraw dWell dGr dRi dCv F
end K1


open PySem PySem.W PyProof.Rows
set_option Elab.async false
set_option linter.all false
set_option maxRecDepth 100000 in
set_option maxHeartbeats 0 in
theorem PySem.Challenge.cw_mailtide_k50_whole_rounds_and_probes_holds : PySem.Challenge.rw_mailtide_k50_whole_rounds_and_probes.Holds := by
  w_on; o_law; k_head; (case hw => w_witness2)
  k_fill
  refine LamX.walk_ofTs (l := PySem.Challenge.rw_mailtide_k50_whole_rounds_and_probes) (n := 63) (k := 55) (x := "_law_script") (CX := fun _ => L2.CX0) rfl (by decide) rfl ⟨rfl, by decide, by decide⟩ (fun w h Y => PySem.W.kIn_of Y) ?F (fun _ _ _ _ _ z => z)
  intro w mg mb h Y KX Gg hmg
  refine' K1.all_mk KX Gg hmg ?T ?Co ?t ?mk ?lI ?gI ?hI ?aP ?lP ?gP ?hP ?nP ?eP ?a0 ?a1 ?a2 ?a3 ?a4 ?a5 ?a6 ?a7 ?a8 ?a9 ?a10 ?a11 ?a12 ?a13 ?a14 ?m0 ?m1 ?aL ?lL ?cL ?kL
  case T =>
    refine' ⟨⟨⟨PySem.W.mg_none_of KX Gg ?z0, PySem.W.mg_none_of KX Gg ?z1, PySem.W.mg_none_of KX Gg ?z2, PySem.W.mg_none_of KX Gg ?z3, PySem.W.mg_none_of KX Gg ?z4, PySem.W.mg_none_of KX Gg ?z5, PySem.W.mg_none_of KX Gg ?z6, PySem.W.mg_none_of KX Gg ?z7, PySem.W.mg_none_of KX Gg ?z8, PySem.W.mg_none_of KX Gg ?z9, PySem.W.mg_none_of KX Gg ?z10, PySem.W.mg_none_of KX Gg ?z11⟩, PySem.W.mg_none_of KX Gg ?z12, PySem.W.mg_none_of KX Gg ?z13⟩, PySem.W.mg_none_of KX Gg ?z14⟩
    (case z0 => k_is); (case z1 => k_is); (case z2 => k_is); (case z3 => k_is); (case z4 => k_is); (case z5 => k_is); (case z6 => k_is); (case z7 => k_is); (case z8 => k_is); (case z9 => k_is); (case z10 => k_is); (case z11 => k_is); (case z12 => k_is); (case z13 => k_is); (case z14 => k_is)
  case Co =>
    refine' ⟨K1.cs_mk KX Gg ?v0 ?w0⟩
    (case v0 => k_is); (case w0 => rfl)
  case t =>
    refine' ⟨⟨?c0, ?c1, ?c2, ?c3⟩, PySem.W.mg_of KX Gg ?c4, ?n0⟩
    (case c4 => k_is); (case c0 => k_is); (case c1 => k_is); (case c2 => k_is); (case c3 => k_is)
    (case n0 => show PySem.W.findIn _ _ _ = some none; k_is)
  case mk =>
    refine' ⟨?e0, ?e1, ?e2, ?e3⟩
    (case e0 => k_is); (case e1 => k_is); (case e2 => k_is); (case e3 => k_is)
  (case lI => k_is); (case gI => k_is); (case hI => k_is)
  (case aP => k_is); (case lP => k_is); (case gP => k_is); (case hP => k_is); (case nP => k_is); (case eP => rfl)
  case a0 =>
    refine' K1.at_mk KX Gg ?b ?l ?c ?k
    (case b => k_is); (case l => k_is); (case c => k_is); (case k => k_is)
  case a1 =>
    refine' K1.at_mk KX Gg ?b ?l ?c ?k
    (case b => k_is); (case l => k_is); (case c => k_is); (case k => k_is)
  case a2 =>
    refine' K1.at_mk KX Gg ?b ?l ?c ?k
    (case b => k_is); (case l => k_is); (case c => k_is); (case k => k_is)
  case a3 =>
    refine' K1.at_mk KX Gg ?b ?l ?c ?k
    (case b => k_is); (case l => k_is); (case c => k_is); (case k => k_is)
  case a4 =>
    refine' K1.at_mk KX Gg ?b ?l ?c ?k
    (case b => k_is); (case l => k_is); (case c => k_is); (case k => k_is)
  case a5 =>
    refine' K1.at_mk KX Gg ?b ?l ?c ?k
    (case b => k_is); (case l => k_is); (case c => k_is); (case k => k_is)
  case a6 =>
    refine' K1.at_mk KX Gg ?b ?l ?c ?k
    (case b => k_is); (case l => k_is); (case c => k_is); (case k => k_is)
  case a7 =>
    refine' K1.at_mk KX Gg ?b ?l ?c ?k
    (case b => k_is); (case l => k_is); (case c => k_is); (case k => k_is)
  case a8 =>
    refine' K1.at_mk KX Gg ?b ?l ?c ?k
    (case b => k_is); (case l => k_is); (case c => k_is); (case k => k_is)
  case a9 =>
    refine' K1.at_mk KX Gg ?b ?l ?c ?k
    (case b => k_is); (case l => k_is); (case c => k_is); (case k => k_is)
  case a10 =>
    refine' K1.at_mk KX Gg ?b ?l ?c ?k
    (case b => k_is); (case l => k_is); (case c => k_is); (case k => k_is)
  case a11 =>
    refine' K1.at_mk KX Gg ?b ?l ?c ?k
    (case b => k_is); (case l => k_is); (case c => k_is); (case k => k_is)
  case a12 =>
    refine' K1.at_mk KX Gg ?b ?l ?c ?k
    (case b => k_is); (case l => k_is); (case c => k_is); (case k => k_is)
  case a13 =>
    refine' K1.at_mk KX Gg ?b ?l ?c ?k
    (case b => k_is); (case l => k_is); (case c => k_is); (case k => k_is)
  case a14 =>
    refine' K1.at_mk KX Gg ?b ?l ?c ?k
    (case b => k_is); (case l => k_is); (case c => k_is); (case k => k_is)
  case m0 =>
    refine' K1.atM_mk ?b ?n ?l ?c ?k
    (case b => k_is); (case n => k_is); (case l => k_is); (case c => k_is); (case k => k_is)
  case m1 =>
    refine' K1.atM_mk ?b ?n ?l ?c ?k
    (case b => k_is); (case n => k_is); (case l => k_is); (case c => k_is); (case k => k_is)
  (case aL => k_is); (case lL => k_is); (case cL => k_is); (case kL => k_is)

