import PyProof.Rows.All
import Wide.All
import OpenK.AllK
import Wide.FinOn
import PySem.Challenge.RW_mailtide_k31_what_rows_in_flight_refuse
import HandS.ForMost
import HandS.Exc
import HandS.TryOnly
import HandS.TryMany
import HandS.Lambda
import HandS.EndTab
import HandS.IsInst
import HandS.SortRule
import HandS.SortInts
import HandS.StrMore
import HandS.Conv
import HandS.Wide
import HandS.Flow
import HandS.Walk
import HandS.TupAny
import HandS.ListEq
import HandS.DeepEq
import KE.KExcSuper
import KE.GoesMore
import PyProof.Draws
import HandS.ForExc
import HandS.Zip
set_option Elab.async false
set_option linter.all false
set_option maxRecDepth 100000
namespace K1
open PySem PySem.Spec PyProof.Rows L2
/-! the text -/
def topS (i : Nat) : Stmt := PySem.Challenge.pw_mailtide_k31_what_rows_in_flight_refuse.main.body.getD i (.Pass ⟨0, 0, 0, 0⟩)
end K1


set_option Elab.async false
set_option linter.all false
set_option maxRecDepth 100000
set_option maxHeartbeats 4000000
namespace K1
open PySem PySem.Spec PyProof.Rows L2
/-! ### a def by its name -/
structure Def (P : Program) (w : World) (K : PySem.W.Frag) (mg : Str → Option Value) (base : Heap) (CX : CXT) (k : Nat) (x : Str) (ps : List Str) (sp : Sp) : Prop where
  ex : ∃ (f : Addr) (fd : FuncData), mg x = some (.ref f) ∧ PySem.W.keepIn K (.ref f) = true ∧ Binds K fd ps [] ∧ FnOk P w K mg base CX k f fd ps sp
section
variable {X : Cx} {CX : CXT} {k : Nat} {ps : List Str} {sp : Sp} {E : XK} {x : Str} {p pos : Pos} {e : Expr} {es : List Expr} {t : TA}
theorem pe_def (D : Def X.prog X.w X.K X.mg X.base CX k x ps sp) (hr : Room k X.A) (hg : Gl X x) (hx : Passes CX X E)
    (ha : PA X (e :: es) t) (hdb : (x == ("__debug__" : Str)) = false := by decide) (he : starEach (e :: es) X.env = (false, eval e X.env) :: starEach es X.env := by rfl) (hpl : (backTo pos (starEach es X.env)).any (·.1) = false := by rfl) :
    PE X (.Call (.Name x p) (e :: es) [] pos) (tCall sp [] E t) := by
  obtain ⟨f, fd, hm, hk, hb, F⟩ := D.ex
  exact pe_call F hr hg hm hk hb .nil hx ha hdb he hpl
theorem pe_def0 (D : Def X.prog X.w X.K X.mg X.base CX k x ps sp) (hr : Room k X.A) (hg : Gl X x) (hx : Passes CX X E)
    (hdb : (x == ("__debug__" : Str)) = false := by decide) : PE X (.Call (.Name x p) [] [] pos) (tCall sp [] E tNil) := by
  obtain ⟨f, fd, hm, hk, hb, F⟩ := D.ex
  exact pe_call0 F hr hg hm hk hb .nil hx hdb
end
/-! ### heaps: all that is tracked but p stays -/
def Ext (p : Addr) (H H' : Hp) : Prop := ∀ b o, b ≠ p → H b = some o → H' b = some o
theorem Ext.refl {p : Addr} (H : Hp) : Ext p H H := fun _ _ _ h => h
theorem Ext.trans {p : Addr} {H H1 H2 : Hp} (a : Ext p H H1) (b : Ext p H1 H2) : Ext p H H2 := fun c o n h => b c o n (a c o n h)
theorem Ext.self {p : Addr} {H H' : Hp} {o : HO} (a : Ext p H H') : Ext p H (upd H' p o) := fun c u n h => by rw [upd_ne n]; exact a c u n h
theorem Ext.new {p q : Addr} {H H' : Hp} {o : HO} (a : Ext p H H') (h : H' q = none) : Ext p H (upd H' q o) := fun c u n e => by
  have e' := a c u n e
  rw [upd_ne (ne_of_none e' h)]; exact e'
theorem Ext.mut {p q : Addr} {H H' : Hp} {o : HO} (a : Ext p H H') (h : H q = none) : Ext p H (upd H' q o) := fun c u n e => by
  rw [upd_ne (ne_of_none e h)]; exact a c u n e
theorem Ext.free {p q : Addr} {H H' : Hp} (a : Ext p H H') (h : H' q = none) (n : q ≠ p) : H q = none := by
  cases e : H q with
  | none => rfl
  | some o => rw [a q o n e] at h; cases h
theorem same_ext {p : Addr} {H H' : Hp} (a : Same H H') : Ext p H H' := fun b o _ h => a b o h
theorem same_new {q : Addr} {H : Hp} {o : HO} (h : H q = none) : Same H (upd H q o) := fun c u e => by
  rw [upd_ne (ne_of_none e h)]; exact e
theorem _root_.L2.Same.new {q : Addr} {H H' : Hp} {o : HO} (a : Same H H') (h : H' q = none) : Same H (upd H' q o) := a.trans (same_new h)
theorem _root_.L2.Same.mut {q : Addr} {H H' : Hp} {o : HO} (a : Same H H') (h : H q = none) : Same H (upd H' q o) := fun c u e => by
  rw [upd_ne (ne_of_none e h)]; exact a c u e
theorem lt1 (n : Nat) (h : n ≤ 100000) : n ≤ sizeLine := Nat.le_trans h (by decide)
theorem lt2 (n : Nat) (h : n ≤ 100000) : n < sizeLine := Nat.lt_of_le_of_lt h (by decide)
/-- a well: three ints -/
def WellAt (H : Hp) (p : Addr) : Prop := ∃ c m t : Int, H p = some (.lst [.int c, .int m, .int t])
theorem WellAt.new {H : Hp} {p q : Addr} {o : HO} (w : WellAt H p) (h : H q = none) : WellAt (upd H q o) p := by
  obtain ⟨c, m, t, e⟩ := w
  exact ⟨c, m, t, by rw [upd_ne (ne_of_none e h)]; exact e⟩
theorem WellAt.ne {H : Hp} {p q : Addr} (w : WellAt H p) (h : H q = none) : q ≠ p := by
  obtain ⟨c, m, t, e⟩ := w
  exact (ne_of_none e h).symm
theorem WellAt.upd {H : Hp} {p q : Addr} {o : HO} (w : WellAt H p) (h : q ≠ p) : WellAt (upd H q o) p := by
  obtain ⟨c, m, t, e⟩ := w
  exact ⟨c, m, t, by rw [upd_ne h.symm]; exact e⟩
theorem sq {K : PySem.W.Frag} {H : Hp} {a : Addr} {xs : List V} (h : H a = some (.lst xs)) : SqL K H a xs := .inl (.inl h)
theorem st {K : PySem.W.Frag} {H : Hp} {a : Addr} {xs : List V} (h : H a = some (.tup xs)) : SqT K H a xs := .inl (.inl h)
/-- names that the top leaves to the built-ins -/
structure Bi (mg : Str → Option Value) : Prop where
  int : mg "int" = none
  len : mg "len" = none
  str : mg "str" = none
  range : mg "range" = none
  max : mg "max" = none
  min : mg "min" = none
  sorted : mg "sorted" = none
  tuple : mg "tuple" = none
  list : mg "list" = none
  enumerate : mg "enumerate" = none
  isinstance : mg "isinstance" = none
  bool : mg "bool" = none
end K1
namespace K1
open PySem PySem.Spec PyProof.Rows L2
/-- a def of the text stands at its name -/
def At (K : PySem.W.Frag) (mg : Str → Option Value) (x : Str) (st : Stmt) : Prop := ∃ (f : Addr) (fd : FuncData), mg x = some (.ref f) ∧ Fun K x x st f fd
theorem At.def {P : Program} {w : World} {K : PySem.W.Frag} {mg : Str → Option Value} {base : Heap} {CX : CXT} {k : Nat} {x : Str} {ps : List Str} {sp : Sp} {st : Stmt} (a : At K mg x st)
    (hb : ∀ (kV doc pm : Value) (an : Option Addr) (cdv ct : Value) (us : List Value), us.length = ps.length → bindArgs (PySem.W.fnOf x x (defArgs st) (defBody st) (defScope st) .none kV doc pm an cdv ct) ⟨us, []⟩ = pure (ps.zip us))
    (h : ∀ f fd, Fun K x x st f fd → FnOk P w K mg base CX k f fd ps sp) : Def P w K mg base CX k x ps sp := by
  obtain ⟨f, fd, hm, F⟩ := a
  exact ⟨f, fd, hm, F.kp, F.binds hb, h f fd F⟩
end K1
namespace K1
open PySem PySem.Spec PyProof.Rows L2
def G : Int := 999999999999999999999999999999
/-- numbers that are there -/
structure There (ns : List Int) : Prop where
  asc : ns.Pairwise (· < ·)
  rng : ∀ n ∈ ns, 1 ≤ n ∧ n ≤ G
  len : ns.length ≤ 200
theorem getD_map {ns : List Int} {i : Nat} {y : V} (h : (ns.map V.int)[i]? = some y) : ∃ z, ns[i]? = some z ∧ y = .int z := by
  rw [List.getElem?_map] at h
  cases e : ns[i]? with
  | none => rw [e] at h; cases h
  | some z => rw [e] at h; exact ⟨z, rfl, (Option.some.inj h).symm⟩
theorem take_more {α : Type} {l : List α} {i : Nat} {x : α} (h : l[i]? = some x) : l.take (i + 1) = l.take i ++ [x] := by
  rw [List.take_add_one, h]; rfl
theorem lt_of_get {α : Type} {l : List α} {i : Nat} {x : α} (h : l[i]? = some x) : i < l.length := (List.getElem?_eq_some_iff.mp h).1
end K1
namespace K1
open PySem PySem.Spec PyProof.Rows L2
/-- a comprehension without a test -/
theorem tyes {σ : L2.St} {H : Hp} {A B : Hp → Prop} (h : A H) : tYes σ H (fun b H3 => if b = true then A H3 else B H3) := by
  show (if true = true then A H else B H)
  rw [if_pos rfl]
  exact h
/-- a test whose answer is known -/
theorem itbT {c : Bool} {A B : Prop} (hc : c = true) (h : A) : if c = true then A else B := by
  rw [if_pos hc]
  exact h
theorem itbF {c : Bool} {A B : Prop} (hc : c = false) (h : B) : if c = true then A else B := by
  rw [hc, if_neg Bool.false_ne_true]
  exact h
end K1
namespace K1
open PySem PySem.Spec PyProof.Rows L2
/-! ### rules with the written part by its name (for blocks) -/
section
variable {X : Cx} {K : PySem.W.Frag}
theorem call_lenK (h : X.K = K) : CallR X (.builtin "len") (fun xs H Q => ∃ p ys, xs = [.ref p] ∧ (SqL K H p ys ∨ SqT K H p ys) ∧ Q (.int ys.length) H) := by
  subst h; exact call_len_seq
theorem ix_listK (h : X.K = K) : IxR X (rIxL K) := by subst h; exact ix_list
theorem ix_tupK (h : X.K = K) : IxR X (rIxT K) := by subst h; exact ix_tup
theorem op_in_seqK (h : X.K = K) : OpR X (compareOp .In) (rIn K false) := by subst h; exact op_in_seq
theorem op_notIn_seqK (h : X.K = K) : OpR X (compareOp .NotIn) (rIn K true) := by subst h; exact op_notIn_seq
theorem op_eqDK (h : X.K = K) (hu : X.A.units + 64 < cLine) : OpR X (compareOp .Eq) (rEqD K) := by subst h; exact op_eqD hu
theorem op_neDK (h : X.K = K) (hu : X.A.units + 64 < cLine) : OpR X (compareOp .NotEq) (rNeD K) := by subst h; exact op_neD hu
theorem pi_listK {tg l : Expr} {tl : TE} (h : X.K = K) (hl : PE X l tl) : PI X tg l (iList K tl) := by subst h; exact pi_list hl
theorem pi_tupK {tg l : Expr} {tl : TE} (h : X.K = K) (hl : PE X l tl) : PI X tg l (iTup K tl) := by subst h; exact pi_tup hl
theorem call_list_ofK (h : X.K = K) : CallR X (.type "list") (fun xs H Q => ∃ p ys, xs = [.ref p] ∧ (SqL K H p ys ∨ SqT K H p ys) ∧ ∀ l, H l = none → Q (.ref l) (upd H l (.lst ys))) := by
  subst h; exact call_list_of
theorem call_tuple_ofK (h : X.K = K) : CallR X (.type "tuple") (fun xs H Q => ∃ p ys, xs = [.ref p] ∧ ((SqL K H p ys ∧ ∀ l, H l = none → Q (.ref l) (upd H l (.tup ys))) ∨ (SqT K H p ys ∧ Q (.ref p) H))) := by
  subst h; exact call_tuple_of
theorem pe_joinK {o e : Expr} {to te : TE} {apos pos : Pos} (h : X.K = K) (ho : PE X o to) (he : PE X e te) (hs : starEach [e] X.env = [(false, eval e X.env)] := by rfl) (hbase : attributeBase o "join" X.env (eval o X.env) = eval o X.env := by rfl) (hline : (apos.endLine == pos.line) = true := by rfl) :
    PE X (.Call (.Attribute o "join" apos) [e] [] pos) (tM1 (fun x xs H Q => ∃ a p, ∃ ys : List Str, x = .str a ∧ xs = [.ref p] ∧ (SqL K H p (ys.map V.str) ∨ SqT K H p (ys.map V.str)) ∧
      (ys.map (·.length)).sum + ys.length * a.length ≤ 16777216 ∧ Q (.str (Txt.join a ys)) H) to te) := by
  subst h; exact pe_join ho he hs hbase hline
end
end K1
namespace K1
open PySem PySem.Spec PyProof.Rows L2
section
variable {X : Cx} {K : PySem.W.Frag}
theorem cr_minK (h : X.K = K) (hc : X.calm = true) : CallR X (.builtin "min") (rMin K) := by subst h; exact cr_min hc
theorem cr_maxK (h : X.K = K) (hc : X.calm = true) : CallR X (.builtin "max") (rMax K) := by subst h; exact cr_max hc
end
/-! ### data that are compared -/
theorem dp_ints {K : PySem.W.Frag} {H : Hp} : ∀ ns : List Int, DpAll K H (ns.map V.int) (ns.map PyData.int)
  | [] => .nil
  | n :: r => .cons (.int n) (dp_ints r)
theorem dp_list {K : PySem.W.Frag} {H : Hp} {a : Addr} {ns : List Int} (h : SqL K H a (ns.map V.int)) : Dp K H (.ref a) (.list (ns.map PyData.int)) := .lst h (dp_ints ns)
theorem lay_ints : ∀ ns : List Int, PyData.canLayAll0 (ns.map PyData.int) = true
  | [] => by rfl
  | n :: r => by
    show (PyData.canLay0 (.int n) && PyData.canLayAll0 (r.map PyData.int)) = true
    rw [lay_ints r]; rfl
theorem depth_ints : ∀ ns : List Int, PyData.depthAll (ns.map PyData.int) = 0
  | [] => by rfl
  | n :: r => by
    show max (PyData.depth (.int n)) (PyData.depthAll (r.map PyData.int)) = 0
    rw [depth_ints r]; rfl
theorem shaped_ints (ns : List Int) : SeqAt.shaped (.list (ns.map PyData.int)) = true := by
  unfold SeqAt.shaped
  have h1 : PyData.canLay0 (.list (ns.map PyData.int)) = true := lay_ints ns
  have h2 : PyData.depth (.list (ns.map PyData.int)) = 1 := by
    show PyData.depthAll (ns.map PyData.int) + 1 = 1
    rw [depth_ints]
  rw [h1, h2]; rfl
theorem eqv_ints : ∀ xs ys : List Int, PyData.eqv (.list (xs.map PyData.int)) (.list (ys.map PyData.int)) = decide (xs = ys) := by
  have h : ∀ xs ys : List Int, PyData.eqvAll (xs.map PyData.int) (ys.map PyData.int) = decide (xs = ys) := by
    intro xs
    induction xs with
    | nil => intro ys; cases ys <;> simp [PyData.eqvAll]
    | cons x r ih =>
      intro ys
      cases ys with
      | nil => simp [PyData.eqvAll]
      | cons y t =>
        show (PyData.eqv (.int x) (.int y) && PyData.eqvAll (r.map PyData.int) (t.map PyData.int)) = decide (x :: r = y :: t)
        rw [ih, show PyData.eqv (.int x) (.int y) = (x == y) by simp [PyData.eqv]]
        by_cases e : x = y <;> by_cases e2 : r = t <;> simp [e, e2]
  intro xs ys
  show PyData.eqvAll (xs.map PyData.int) (ys.map PyData.int) = _
  exact h xs ys
theorem inV_ints (n : Int) : ∀ ns : List Int, inV (.int n) (ns.map V.int) = decide (n ∈ ns)
  | [] => by simp [inV]
  | m :: r => by
    have ih := inV_ints n r
    unfold inV at ih ⊢
    rw [List.map_cons, List.any_cons, ih]
    by_cases e : m = n
    · subst e; simp [eqV]
    · have e' : ¬ n = m := fun h => e h.symm
      simp [eqV, e, e']
theorem flat_ints : ∀ ns : List Int, (ns.map V.int).all flatV = true
  | [] => rfl
  | m :: r => by rw [List.map_cons, List.all_cons, flat_ints r]; rfl
/-- a list by a filter -/
def FiltBy (ns : List Int) (P : Int → Prop) (rs : List Int) : Prop := ∃ p : Int → Bool, (∀ n ∈ ns, (p n = true ↔ P n)) ∧ rs = ns.filter p
theorem FiltBy.eq {ns rs ts : List Int} {P R : Int → Prop} (h1 : FiltBy ns P rs) (h2 : FiltBy ns R ts) (h : ∀ n ∈ ns, (P n ↔ R n)) : rs = ts := by
  obtain ⟨p, hp, rfl⟩ := h1
  obtain ⟨q, hq, rfl⟩ := h2
  refine List.filter_congr fun n hn => ?_
  have a := hp n hn
  have b := hq n hn
  have c := h n hn
  cases e : p n <;> cases e2 : q n <;> simp_all
end K1


set_option Elab.async false
set_option linter.all false
set_option maxRecDepth 100000
set_option maxHeartbeats 4000000
/-! Own errors below an own error below ValueError, whose __init__ says super().__init__(a text) and then stores its one argument. -/
namespace PySem
namespace Tide
open PySem.W PySem.Calls PyProof.Rows PySem.HandSPX
def iA (fl : Str) (p1 p2 : Pos) : Arguments := { posonlyargs := [], args := [{ arg := "self", annotation := none, pos := p1 }, { arg := fl, annotation := none, pos := p2 }], vararg := none, kwonlyargs := [], kw_defaults := [], kwarg := none, defaults := [] }
def iB (fl tx : Str) (j : Nat) (q1 q2 q3 q4 q5 q6 q7 q8 q9 q10 : Pos) : List Stmt :=
  [.Expr (.Call (.Attribute (.Call (.Name "super" q1) [] [] q2) "__init__" q3) [.Constant (.str tx) j q4] [] q5) q6, .Assign [.Attribute (.Name "self" q7) fl q8] (.Name fl q9) q10]
def iS (fl : Str) : Scope := { kind := .function, names := [(PySem.Str.ofString "self", .local), (fl, .local), (PySem.Str.ofString "__class__", .free), (PySem.Str.ofString "super", .globalImplicit)], isGenerator := false, isCoroutine := false, more := [] }
/-- how the call of super().__init__ is run (shown at the text's own places) -/
def CallIs (tx : Str) (j : Nat) (q1 q2 q3 q4 q5 : Pos) : Prop := ∃ pl : Sem Bool, ∀ env : Env, eval (.Call (.Attribute (.Call (.Name "super" q1) [] [] q2) "__init__" q3) [.Constant (.str tx) j q4] [] q5) env = (do
      let ov ← attributeBase (.Call (.Name "super" q1) [] [] q2) "__init__" env (eval (.Call (.Name "super" q1) [] [] q2) env)
      standAt q3.atName
      let (f, first) ← holding [ov] (getMethod ov "__init__" pl)
      callWith q5 f first (backTo q5 (starEach [.Constant (.str tx) j q4] env)) [])
example : CallIs "no set text" 0 ⟨7, 8, 7, 13⟩ ⟨7, 8, 7, 15⟩ ⟨7, 8, 7, 24⟩ ⟨7, 25, 7, 38⟩ ⟨7, 8, 7, 39⟩ := ⟨_, fun env => by rfl⟩
/-- the fields' names -/
def FlOk (fl : Str) : Prop := ¬ fl = ("self" : Str) ∧ ¬ fl = ("__class__" : Str) ∧ ¬ fl = ("super" : Str) ∧ (fl == ("__debug__" : Str)) = false ∧
  ∀ (qual : Str) (body : List Stmt) (p1 p2 : Pos) (doc pm ct cd : Value) (an : Option Addr) (cc : Addr) (a b : Value), bindArgs (ksFn "__init__" qual (iA fl p1 p2) body (iS fl) .none .none doc pm an cd ct cc) ⟨[a, b], []⟩ = pure [(("self" : Str), a), (fl, b)]
theorem ok_value : FlOk "value" := ⟨by decide +kernel, by decide +kernel, by decide +kernel, by decide +kernel, fun _ _ _ _ _ _ _ _ _ _ _ _ => rfl⟩
theorem ok_at : FlOk "at" := ⟨by decide +kernel, by decide +kernel, by decide +kernel, by decide +kernel, fun _ _ _ _ _ _ _ _ _ _ _ _ => rfl⟩
theorem ok_why : FlOk "why" := ⟨by decide +kernel, by decide +kernel, by decide +kernel, by decide +kernel, fun _ _ _ _ _ _ _ _ _ _ _ _ => rfl⟩
theorem ok_limit : FlOk "limit" := ⟨by decide +kernel, by decide +kernel, by decide +kernel, by decide +kernel, fun _ _ _ _ _ _ _ _ _ _ _ _ => rfl⟩
/-- what the written part says of the class at C, of its __init__ at fI -/
structure TideTxt (prog : Program) (K : Frag) (mg : Str → Option Value) (x : Str) (C fI : Addr) (fl : Str) : Prop where
  gC : mg x = some (.ref C)
  ok : FlOk fl
  cls : ∃ nm q N bs bm sn sub ab col dd k0 k1 k2 k3 k5, K.lookup C = some (excClassObj nm q C N bs bm true sn sub ab col dd k0 k1 k2 k3 k5 "ValueError.__new__") ∧ refsVE bm = true
  sa : findIn K (.ref C) "__setattr__" = some (some (.builtin "object.__setattr__"))
  ga : findIn K (.ref C) "__getattribute__" = some (some (.builtin "BaseException.__getattribute__"))
  gg : findIn K (.ref C) "__getattr__" = some none
  noN : findIn K (.ref C) fl = some none
  iC : findIn K (.ref C) "__init__" = some (some (.ref fI))
  tC : typeIn K (.ref fI) = some (.type "function")
  kC : keepIn K (.ref C) = true
  exC : subIn K (.ref C) (.type "BaseException") = some true
  tyC : typeIn K (.ref C) = some (.type "type")
  hdC : hasDictIn K C = true
  te : exmOne K (.ref C) (.ref C) = some true
  sup : ks_superIn K C C "__init__" = some (some (.builtin "ValueError.__init__"))
  isV : subIn K (.ref C) (.type "ValueError") = some true
  self_ : mroIn K C (.ref C) = some true
  tpa : nsIn K cStatics "thirdparty.any" = some none
  nsu : mg "super" = none
  htop : (prog.main.scope.names.lookup ("super" : Str)).isSome = false
  fn : ∃ (oc : Value) (od : Option Addr) (doc pm ct : Value) (an : Option Addr) (osl : Array (Option Value)) (qual tx : Str) (j : Nat) (p1 p2 q1 q2 q3 q4 q5 q6 q7 q8 q9 q10 : Pos) (cda cc : Addr),
    K.lookup fI = some ⟨oc, od, .func (ksFn "__init__" qual (iA fl p1 p2) (iB fl tx j q1 q2 q3 q4 q5 q6 q7 q8 q9 q10) (iS fl) .none .none doc pm an (.ref cda) ct cc), osl⟩ ∧ codeIn K (.ref cda) qual = true ∧ CallIs tx j q1 q2 q3 q4 q5 ∧
    (∃ ccl cdd vs ccs file tf, K.lookup cda = some ⟨ccl, cdd, .fields vs, ccs⟩ ∧ vs[2]? = some (.str file tf) ∧ ((prog.main.file : Str) == file) = true) ∧ ∃ cl cld csl, K.lookup cc = some ⟨cl, cld, .cell (some (.ref C)), csl⟩
section
variable {fl : Str}
theorem lkT {β : Type} {a b : Str} {v : β} {l : List (Str × β)} (h : (a == b) = true) : List.lookup a ((b, v) :: l) = some v := by
  rw [List.lookup_cons, h]
theorem lkF {β : Type} {a b : Str} {v : β} {l : List (Str × β)} (h : (a == b) = false) : List.lookup a ((b, v) :: l) = List.lookup a l := by
  rw [List.lookup_cons, h]
theorem neB {a b : Str} (h : ¬ a = b) : (a == b) = false := beq_eq_false_iff_ne.mpr h
theorem lk_self : (iS fl).names.lookup ("self" : Str) = some .local := lkT (by decide +kernel)
theorem lk_fl (ok : FlOk fl) : (iS fl).names.lookup fl = some .local := (lkF (neB ok.1)).trans (lkT (beq_self_eq_true _))
theorem lk_cls (ok : FlOk fl) : (iS fl).names.lookup ("__class__" : Str) = some .free := (lkF (by decide +kernel)).trans ((lkF (neB fun h => ok.2.1 h.symm)).trans (lkT (by decide +kernel)))
theorem lk_super (ok : FlOk fl) : (iS fl).names.lookup ("super" : Str) = some .globalImplicit :=
  (lkF (by decide +kernel)).trans ((lkF (neB fun h => ok.2.2.1 h.symm)).trans ((lkF (by decide +kernel)).trans (lkT (by decide +kernel))))
end
theorem one_size (v : Value) : [v].length ≤ sizeLine := by
  rw [sizeLine_eq]
  exact (by decide : 1 ≤ 16777216)
/-- what __init__ leaves of a fresh exception at x -/
structure InitEnd (fl : Str) (h h' : Heap) (x C dx t1 : Addr) (v : Value) : Prop where
  keep : ∀ b o, b ≠ x → h.get? b = some o → h'.get? b = some o
  obj : h'.get? x = some { cls := .ref C, dict := some dx, data := .fields #[.ref t1, .none, .none, .none, .bool false, .none] }
  dbig : h.objs.size ≤ dx
  dne : dx ≠ x
  ns : h'.Ns1 dx (fun y => if y = fl then some v else none)
/-- a made one -/
structure OwnMade (fl : Str) (h h' : Heap) (e C d : Addr) (v : Value) : Prop where
  keep : ∀ b o, h.get? b = some o → h'.get? b = some o
  new : h.objs.size ≤ e
  obj : ∃ oe vs, h'.get? e = some oe ∧ oe.cls = .ref C ∧ oe.dict = some d ∧ oe.data = .fields vs ∧ vs[1]? = some .none
  dbig : h.objs.size ≤ d
  dne : d ≠ e
  ns : h'.Ns1 d (fun y => if y = fl then some v else none)
section
variable {prog : Program} {w : World} {A : Around} {E : Value → Shared → Prop} {R : Result → Shared → Prop} {s : Shared} {K : Frag} {mg mb : Str → Option Value} {C fI : Addr} {fl xn : Str}
theorem ldC {M : Model} {s : Shared} {env : Env} {m : Str → Option Value} {x : Str} {pos : Pos} {v : Value} {Q : Value → Shared → Prop} {A : Around} {E : Value → Shared → Prop} (hn : s.heap.Ns env.locals m) (hv : m x = some v) (h : Q v s)
    (hk : env.scope.kind = .function) (hl : env.kindOf x = some .local) (hd : (x == ("__debug__" : Str)) = false) :
    wpAny M A (eval (.Name x pos) env) Q E s := wpAny_Name (wpAny_loadName_local hk hl hn hv h) hd
/-- the built-in __init__ bound to the object, called -/
theorem call_mw {u e t0 : Addr} {rest : List Value} {Q : Value → Shared → Prop} {nm q : Str} {N : Addr} {bs bm : List Value} {hdct : Bool} {sn : List Str} {sub : List Value} {ab : Bool} {col : Option Bool} {dd : Option Addr} {k0 k1 k2 k3 k5 : Option Value}
    (hC : s.heap.get? C = some (excClassObj nm q C N bs bm hdct sn sub ab col dd k0 k1 k2 k3 k5 "ValueError.__new__")) (he : s.heap.get? e = some (excO C t0)) (hu : s.heap.get? u = some (kxs_mw "ValueError.__init__" e)) (hrest : rest.length ≤ sizeLine)
    (hq : ∀ h', (∀ b o, b ≠ e → s.heap.get? b = some o → h'.get? b = some o) → h'.get? e = some (excO C s.heap.objs.size) → Q .none { s with heap := h' }) :
    wpAny (model prog w) A (call (.ref u) rest) Q E s := by
  have FB := F.excBase_ValueError
  obtain ⟨hh, g, d, tk, os⟩ := s
  refine wpAny_call (codeAny_of_tree ?_)
  show wpAny _ A.in1 (callAny (.ref u) ⟨rest, []⟩) _ _ _
  simp only [callAny]
  refine wpAny_bind (wpAny_load hu ?_)
  simp only [kxs_mw, show (Value.type "method-wrapper" == Value.type "method" || Value.type "method-wrapper" == Value.type "builtin_function_or_method" || Value.type "method-wrapper" == Value.type "method-wrapper") = true by decide, if_true]
  refine KFB.if_so (by decide) ?_
  refine wpAny_bind (check_bound_init FB.toExcCallFacts hC he rfl ?_)
  refine wpAny_bind (wpAny_pure (wpAny_pure ?_))
  refine ⟨plainId_quiet FB.init.plain _, codeAny_builtin FB.initEntry ?_⟩
  exact exc_init_tree (cls := .ref C) (t0 := t0) (dv := none) (c2 := .none) (c3 := .none) (b4 := .bool false) he hrest fun h' k e' _ => hq h' k e'
theorem tide_init (T : TideTxt prog K mg xn C fI fl) {x t0 : Addr} {v : Value} (X : K.In s.heap) (hG : s.heap.Ns mainGlobals mg) (hB : s.heap.Ns builtinsNs mb) (hmb : mb "super" = some (.type "super")) (hlim : s.heap.NoLimit) (hx : s.heap.get? x = some (excO C t0)) (hnx : K.lookup x = none) (hroom : A.depth < recursionLimit)
    (hq : ∀ h' tk dx t1, InitEnd fl s.heap h' x C dx t1 v → R (.ok (.ret .none)) { s with heap := h', toks := tk }) :
    codeAny (model prog w) A (.call (.ref fI) ⟨[.ref x, v], []⟩) R s := by
  obtain ⟨oc, od, doc, pm, ct, an, osl, qual, tx, j, p1, p2, q1, q2, q3, q4, q5, q6, q7, q8, q9, q10, cda, cc, ho, hcd, ⟨pl, hpl⟩, ⟨ccl, cdd, vs, ccs, file, tf, hcda, hvs, hfile⟩, cl, cld, csl, hcell⟩ := T.fn
  obtain ⟨nm, q, N, bs, bm, sn, sub, ab, col, dd, k0, k1, k2, k3, k5, hC, hbm⟩ := T.cls
  obtain ⟨n1, n2, n3, n4, n5⟩ := T.ok
  have hcl : clsIn K C = some { name := nm, bases := bs, mro := .ref C :: bm, ns := N, qualname := q, hasDict := true, slotNames := sn, subclasses := sub, abstract := ab, collection := col, hasDel := false } := by unfold clsIn; rw [hC] <;> rfl
  have e1 : (("self" : Str) == fl) = false := by rw [beq_eq_false_iff_ne]; exact fun h => n1 h.symm
  have e1' : (fl == ("self" : Str)) = false := by rw [beq_eq_false_iff_ne]; exact n1
  have X₀ := X
  refine ks_codeAny_call_defAt (fd := ksFn "__init__" qual (iA fl p1 p2) (iB fl tx j q1 q2 q3 q4 q5 q6 q7 q8 q9 q10) (iS fl) .none .none doc pm an (.ref cda) ct cc) (body := iB fl tx j q1 q2 q3 q4 q5 q6 q7 q8 q9 q10) (binds := [("self", .ref x), (fl, v)]) hroom (X _ _ ho) rfl hlim (codeRec_of X hcd) rfl (BindsTo.of_eq ?_) ?_ ?_ (fun h₁ hns k => ?_) rfl rfl rfl
  · exact n5 _ _ _ _ _ _ _ _ _ _ _ _
  · intro y hy
    have hy : y ∈ [(PySem.Str.ofString "self", NameKind.local), (fl, .local), (PySem.Str.ofString "__class__", .free), (PySem.Str.ofString "super", .globalImplicit)] := hy
    simp only [List.mem_cons, List.not_mem_nil, or_false] at hy
    rcases hy with rfl | rfl | rfl | rfl <;> exact fun h => nomatch h
  · intro y hy
    simp only [List.mem_cons, List.not_mem_nil, or_false] at hy
    rcases hy with rfl | rfl
    · exact lk_self
    · exact lk_fl T.ok
  · have hxL : s.heap.objs.size ≠ x := Nat.ne_of_gt (Heap.lt_size hx)
    have X₁ : K.In h₁ := X.keeps k
    have hx₁ := k _ _ hx
    have I : InstAt h₁ x (excO C t0) C none := ⟨hx₁, rfl, rfl, trivial⟩
    refine ks_wpAt_execs_cons (ks_wpAt_Expr_any (ks_wpAt_MethodCall (ks_wpAt_super_base (f := fI) (cc := cda) (lk_super T.ok) (lk_cls T.ok) (by decide) rfl (X₁ _ _ ho) rfl rfl rfl (X₁ _ _ hcda) rfl hvs hfile T.htop ?_) (hpl _)))
    refine ks_loadName_global rfl (lk_super T.ok) (loadGlobal_builtin (hG.keeps k) T.nsu (hB.keeps k) hmb ⟨rfl, ?_⟩)
    refine wpAny_loadName_free rfl (lk_cls T.ok) rfl ⟨_, X₁ _ _ hcell, rfl⟩ ?_
    refine wpAny_loadName_local (v := .ref x) rfl lk_self hns ?_ ?_
    · exact (lkF (neB fun h => T.ok.1 h.symm)).trans (lkT (by decide +kernel))
    refine ks_wpAny_isType_cls (X₁ _ _ hC) rfl ⟨rfl, ?_⟩
    refine ks_wpAny_call_super (X₁ _ _ hC) rfl I.at_ I.cls (fun c e => by cases e) (looks_mroIn X₁ T.self_) (fun h₂ e₂ k₂ => ?_)
    have X₂ : K.In h₂ := X₁.keeps k₂
    have I₂ : InstAt h₂ x (excO C t0) C none := ⟨k₂ _ _ hx₁, rfl, rfl, trivial⟩
    have hsup : alongIn K "__init__" (((.ref C :: bm).dropWhile (· != .ref C)).drop 1) = some (some (.builtin "ValueError.__init__")) := by
      have h := T.sup
      unfold ks_superIn at h
      rw [hcl] at h
      exact h
    have hxC : x ≠ C := ks_ne X₂ I₂ hcl
    have hI : Looks (model prog w) h₂ (isInstance (.ref x) (.type "ValueError")) true := I₂.type.andThen (looks_subIn X₂ T.isV)
    refine kxs_getMethod kxs_ValueError e₂ (looks_opaque X₂ T.tpa) (l₀ := .ref C :: bm) (fun A Q E s k q => wpAny_bind ((looks_clsIn X₂ hcl) A _ E s k (wpAny_pure q))) rfl X₂ hsup hI hxC (by decide) ?_
    refine kxs_callWith (i := "ValueError.__init__") (x := x) rfl (evalArgs_plain ?_)
    show wpAny _ _ (spliced ((false, eval (.Constant (.str tx) j q4) _) :: backTo q5 (starEach [] _))) _ _ _
    refine Calls.spliced_cons ?_
    refine Calls.Constant_str (Calls.spliced_nil ⟨?_, ?_⟩)
    · exact Heap.get?_push_at rfl rfl
    refine call_mw (C := C) (t0 := t0) (Heap.get?_push_of_some _ (X₂ _ _ hC)) (Heap.get?_push_of_some _ I₂.at_) (Heap.get?_push_at rfl rfl) (one_size _) (fun h₃ k₃ e₃ => ?_)
    -- self.fl = fl
    have keep : ∀ b o, b ≠ x → s.heap.get? b = some o → h₃.get? b = some o := fun b o hb e => k₃ b o hb (Heap.get?_push_of_some _ (k₂ _ _ (k _ _ e)))
    have keep1 : ∀ b o, b ≠ x → h₁.get? b = some o → h₃.get? b = some o := fun b o hb e => k₃ b o hb (Heap.get?_push_of_some _ (k₂ _ _ e))
    have X₃ : K.In h₃ := fun a o e => keep a o (fun z => by rw [z, hnx] at e; cases e) (X a o e)
    have hns₃ : h₃.Ns s.heap.objs.size (fun y => [(("self" : Str), Value.ref x), (fl, v)].reverse.lookup y) := by
      obtain ⟨oL, es, ep, hL, r⟩ := hns
      exact ⟨oL, es, ep, keep1 _ _ hxL hL, r⟩
    show wpAt _ _ _ (execs _ _) _ _ _
    refine wpAt_of_wpAny (wpAny_execs_cons (plainObj_wpAny_Assign_Attribute ?_))
    refine ldC (v := v) hns₃ ?_ (ldC (v := .ref x) hns₃ ?_ ?_ rfl lk_self (by decide)) rfl (lk_fl T.ok) T.ok.2.2.2.1
    · exact lkT (beq_self_eq_true _)
    · exact (lkF (neB fun h => T.ok.1 h.symm)).trans (lkT (by decide +kernel))
    refine set_plain X₃ (ox := excO C _) (od := none) ⟨e₃, rfl, rfl, trivial⟩ T.sa ?_
    refine exc_osa X₃ e₃ hcl (show refsVE (.ref C :: bm) = true from hbm) rfl T.noN (fun h₄ tk₄ dx k₄ dn dne hx₄ hn₄ => ?_)
    show wpAny _ _ (execs _ _) _ _ _
    have z : s.heap.objs.size ≤ h₃.objs.size := by
      exact Nat.le_of_lt hns₃.lt
    refine wpAny_execs_nil (hq h₄ tk₄ dx _ ⟨fun b o hb e => k₄ b o hb (keep b o hb e), hx₄, Nat.le_trans z dn, dne, hn₄⟩)
theorem tide_made (T : TideTxt prog K mg xn C fI fl) {v : Value} (X : K.In s.heap) (hG : s.heap.Ns mainGlobals mg) (hB : s.heap.Ns builtinsNs mb) (hmb : mb "super" = some (.type "super")) (hlim : s.heap.NoLimit) (hroom : A.depth + 1 < recursionLimit)
    (hq : ∀ h' tk e d, OwnMade fl s.heap h' e C d v → R (.ok (.ret (.ref e))) { s with heap := h', toks := tk }) :
    codeAny (model prog w) A (.call (.ref C) ⟨[v], []⟩) R s := by
  obtain ⟨nm, q, N, bs, bm, sn, sub, ab, col, dd, k0, k1, k2, k3, k5, hC, hbm⟩ := T.cls
  obtain ⟨hp, g, dr, tk, os⟩ := s
  have k : ∀ b o, hp.get? b = some o → ((hp.push (kdv_tup [v])).push (excO C hp.objs.size)).get? b = some o := fun b o e => Heap.get?_push_of_some _ (Heap.get?_push_of_some _ e)
  have hget : ((hp.push (kdv_tup [v])).push (excO C hp.objs.size)).get? (hp.objs.size + 1) = some (excO C hp.objs.size) := by heap_get
  have hnx : K.lookup (hp.objs.size + 1) = none := by
    cases e : K.lookup (hp.objs.size + 1) with
    | none => rfl
    | some o =>
      have z : hp.get? (hp.objs.size + 1) = some o := X _ _ e
      exact absurd (Nat.lt_of_succ_lt (Heap.lt_size z)) (Nat.lt_irrefl _)
  refine call_own F.excBase_ValueError (fun X => refsVE_contains X bm hbm) (X _ _ hC) (looks_findIn X T.iC) (fun self => bind_fn X self T.tC) (one_size v) ?_
  refine tide_init (s := ⟨(hp.push (kdv_tup [v])).push (excO C hp.objs.size), g, dr, tk, os⟩) T (X.keeps k) (hG.keeps k) (hB.keeps k) hmb (hlim.keeps k) hget hnx ?_ fun h' tk' dx t1 ⟨k', hx, dn, dne, hns⟩ => ?_
  · show A.depth + 1 < recursionLimit
    exact hroom
  · have old : ∀ b o, hp.get? b = some o → h'.get? b = some o := fun b o e => k' b o (Nat.ne_of_lt (Nat.lt_succ_of_lt (Heap.lt_size e))) (k b o e)
    have z : hp.objs.size + 1 + 1 ≤ dx := by
      first
        | (simpa only [Heap.size_push] using dn)
        | exact dn
        | (have q := dn; rw [Heap.size_push, Heap.size_push] at q; exact q)
    exact ⟨rfl, hq h' tk' (hp.objs.size + 1) dx ⟨old, Nat.le_succ _, ⟨_, _, hx, rfl, rfl, rfl, rfl⟩, Nat.le_trans (Nat.le_trans (Nat.le_succ _) (Nat.le_succ _)) z, dne, hns⟩⟩
end
end Tide
end PySem
namespace L2
open PySem PySem.Spec PyProof.Rows
theorem relO_tide {fl : Str} {v : V} {v' : Value} (r : RelV v v') (f : Str) : RelO (List.lookup f [(fl, v)]) (if f = fl then some v' else none) := by
  by_cases hw : f = fl
  · subst hw
    rw [if_pos rfl]
    have q : List.lookup f [(f, v)] = some v := by simp [List.lookup]
    rw [q]
    exact r
  · rw [if_neg hw]
    have qw : (f == fl) = false := by simpa using hw
    have q2 : List.lookup f [(fl, v)] = none := by simp [List.lookup, qw]
    rw [q2]
    trivial
section
variable {X : Cx} {C fI : Addr} {fl xn : Str}
/-- E(e) -/
def tMkTide (C : Addr) (fl : Str) (ta : TA) : St → Hp → XK → Prop := fun σ H Q => ta σ H fun vs H1 => ∃ v, vs = [v] ∧ ∀ d, H1 d = none → Q (.ref C) (some d) (upd H1 d (.xd [(fl, v)]))
theorem pmk_tide {a : Expr} {ta : TA} {p pos : Pos} {k : Nat} (T : PySem.Tide.TideTxt X.prog X.K X.mg xn C fI fl) (hr : Room k X.A) (ha : PA X [a] ta) (hg : Gl X xn := by rfl) (hdb : (xn == ("__debug__" : Str)) = false := by decide)
    (he : starEach (a :: []) X.env = (false, eval a X.env) :: starEach [] X.env := by rfl) (hpl : (backTo pos (starEach [] X.env)).any (·.1) = false := by rfl) :
    PMk X (.Call (.Name xn p) [a] [] pos) (tMkTide C fl ta) := by
  intro pins s σ H Q I h
  refine wpAny_Call_Name_kw (ld_glob I hg T.gC ?_ hdb)
  refine PySem.W.callWith_K (h₀ := X.base) I.ok.mod.kin T.kC (thn (ha.run pos pins s σ H _ I h) fun us s1 hh => ?_) he hpl
  obtain ⟨vs, H1, I1, r1, v, ev, q1⟩ := hh
  subst ev
  refine ⟨I1.kIn, ?_⟩
  cases r1 with
  | cons rv rn =>
    rename_i v' us'
    cases rn
    show wpAny _ _ (call (.ref C) [v']) _ _ _
    have hlim := I1.nolimit
    have hG := I1.mod.glob.keeps I1.bk
    obtain ⟨mb, hB0, hmb0⟩ := I1.mod.blt
    have hB := hB0.keeps I1.bk
    have hmb : mb "super" = some (.type "super") := (hmb0 _ (by decide +kernel)).trans (by decide +kernel)
    obtain ⟨hp, g, dr, tk, os⟩ := s1
    refine wpAny_call (PySem.Tide.tide_made T I1.kIn hG hB hmb hlim (by have := hr.dp; omega) fun h' tk' e d M => ?_)
    show MkP X pins σ Q (.ref e) ⟨h', g, dr, tk', os⟩
    obtain ⟨oe, fv, hoe, hc, hd, hdat, h1⟩ := M.obj
    have hns := M.ns
    obtain ⟨G', g1, g2⟩ := restrict h' fun b => decide (b ≠ e)
    have gk : ∀ b, b ≠ e → G'.get? b = h'.get? b := fun b hb => g1 b (decide_eq_true hb)
    have ge : G'.get? e = none := g2 e (by simp)
    have old : ∀ b o, hp.get? b = some o → G'.get? b = some o := fun b o q => (gk b (Nat.ne_of_lt (Nat.lt_of_lt_of_le (Heap.lt_size q) M.new))).trans (M.keep b o q)
    have ob : ObjOk X.prog X.w (upd H1 d (.xd [(fl, v)])) G' d (.xd [(fl, v)]) :=
      ⟨_, hns.at (fun o q => (gk d M.dne).trans q), fun f => relO_tide rv f⟩
    have J : Inv X pins σ (upd H1 d (.xd [(fl, v)])) ⟨G', g, dr, tk', os⟩ := I1.laid (t' := tk') old M.dbig ob
    refine ⟨e, oe, fv, ⟨G', g, dr, tk', os⟩, _, .ref C, some d, rfl, J, fun b o q => ?_, ge, hoe, ⟨hc, hd⟩, hdat, h1, ?_, rfl, I1.bare, raises_own T.exC T.tyC, q1 d (I1.hok.fresh M.dbig)⟩
    · by_cases hb : b = e
      · have q' : G'.get? b = some o := q
        rw [hb, ge] at q'; cases q'
      · exact (gk b hb).symm.trans q
    · rw [upd_ne (Ne.symm M.dne)]
      exact I1.hok.fresh M.new
/-- raise E(e) -/
def tRaiseTide (C : Addr) (fl : Str) (W : WX) (ta : TA) : TS := fun _ σ H => tMkTide C fl ta σ H fun cls d H' => W cls d σ H'
theorem ps_raiseTide {a : Expr} {ta : TA} {W : WX} {p pos pos2 : Pos} {k : Nat} (hc : X.calm = true) (T : PySem.Tide.TideTxt X.prog X.K X.mg xn C fI fl) (hr : Room k X.A) (tk : Takes X W) (ha : PA X [a] ta) (hg : Gl X xn := by rfl) (hdb : (xn == ("__debug__" : Str)) = false := by decide)
    (he : starEach (a :: []) X.env = (false, eval a X.env) :: starEach [] X.env := by rfl) (hpl : (backTo pos (starEach [] X.env)).any (·.1) = false := by rfl) :
    PS X (.Raise (some (.Call (.Name xn p) [a] [] pos)) none pos2) (tRaiseTide C fl W ta) := ps_raise hc tk (pmk_tide T hr ha hg hdb he hpl)
/-- e.fl, e the exception that the suite holds (at a; its class cls, its dict d) -/
def tByTide (C : Addr) (fl : Str) (a : Addr) (cls : Value) (d : Option Addr) (te : TE) : TE := fun σ H Q => te σ H fun x H1 => x = .ref a ∧ cls = .ref C ∧ ∃ (dd : Addr) (v : V), d = some dd ∧ H1 dd = some (.xd [(fl, v)]) ∧ Q v H1
theorem pe_byTide {a : Addr} {oe : Obj} {cls : Value} {d : Option Addr} {pn : List (Addr × Obj)} {e : Expr} {te : TE} {pos : Pos} (T : PySem.Tide.TideTxt X.prog X.K X.mg xn C fI fl) (hz : Zc cls d oe) (hf : ∃ vs, oe.data = .fields vs) (he : PE (X.suite a ((a, oe) :: pn)) e te)
    (hb : attributeBase e fl X.env (eval e X.env) = eval e X.env) :
    PE (X.suite a ((a, oe) :: pn)) (.Attribute e fl pos) (tByTide C fl a cls d te) := by
  refine ⟨fun pins s σ H Q I h => ?_⟩
  refine attr_of hb (thn (he.run pins s σ H _ I h) fun u s1 hh => ?_)
  obtain ⟨x, H1, I1, rx, ex, ec, dd, v, ed, ea, q⟩ := hh
  subst ex
  obtain rfl : u = Value.ref a := rx
  subst ec
  subst ed
  obtain ⟨ha, _⟩ := I1.pin (a, oe) (List.mem_append_left _ List.mem_cons_self)
  obtain ⟨vs, hd⟩ := hf
  have hx : ObjOk X.prog X.w H1 s1.heap dd (.xd [(fl, v)]) := I1.hok dd _ ea
  obtain ⟨mA, hns, hr⟩ := hx
  obtain ⟨od, ho, hl⟩ := lookIn_ns hns
  have l : List.lookup fl [(fl, v)] = some v := by simp [List.lookup]
  obtain ⟨u, hu, ru⟩ := RelO.some_of (v := v) (o := mA fl) (by rw [← l]; exact hr fl)
  have J : PySem.W.InstAt s1.heap a oe C (some od) := ⟨ha, hz.1, by unfold PySem.W.notCls; rw [hd] <;> rfl, by rw [hz.2]; exact ho⟩
  exact HandSPX.exc_get I1.kIn J T.ga T.gg T.exC (PySem.W.findObj_own T.hdC T.noN rfl (by rw [hl, hu])) (handed_of ru) ⟨v, H1, I1.tok _, ru, q⟩
end
end L2


set_option Elab.async false
set_option linter.all false
set_option maxRecDepth 100000
set_option maxHeartbeats 4000000
/-! enumerate over a list or a tuple -/
namespace PySem
open Sem (wp)
open AutoSeq1 (wpAny_loadPart')
theorem my_enumerate_newT (l : Addr) (items : Array Value) (n : Nat) (dct : Option Addr) (sl : Array (Option Value)) :
    Meets (Builtin.«enumerate.__new__» ⟨[.type "enumerate", .ref l], []⟩) (fun _ R s => s.heap.get? l = some { cls := .type "tuple", dict := dct, data := .seq items n, slots := sl } ∧
      R (.ok (.ret (.ref (s.heap.push { cls := .type "tuple_iterator", data := .fields #[.ref l, .int 0 0] }).objs.size)))
        { s with heap := (s.heap.push { cls := .type "tuple_iterator", data := .fields #[.ref l, .int 0 0] }).push { cls := .type "enumerate", data := .fields #[.none, .bool false, .ref s.heap.objs.size, rawInt 0, .none, .none] } }) :=
  .of_wp fun prog w A R s h => by
    obtain ⟨hp, g, d, tk, os⟩ := s; obtain ⟨hl, h⟩ := h
    have hsub := sub_enumerate
    have hL : Heap.IsTuple (Shared.heap ⟨hp, g, d, tk, os⟩) l items := ⟨_, hl, rfl, n, rfl⟩
    wp_walk using wpAny_loadPart' hl
    refine wpAny_stack_any fun st => wpAny_pure ?_
    split
    · rename_i c _ _ _ _ _
      cases (c == Value.type "enumerate")
      · wp_walk using wpAny_loadPart' hl, wpAny_pyIter_tuple hL
        exact ⟨_, rfl, h⟩
      · wp_walk using wpAny_loadPart' hl, wpAny_pyIter_tuple hL
        exact ⟨_, rfl, h⟩
    · wp_walk using wpAny_loadPart' hl, wpAny_pyIter_tuple hL
      exact ⟨_, rfl, h⟩
section
variable {prog : Program} {w : World} {A : Around} {E : Value → Shared → Prop} {s : Shared}
theorem my_enumerate_tuple {l : Addr} {items : Array Value} {Q : Value → Shared → Prop} (hL : s.heap.IsTuple l items)
    (h : ∀ h', IsEnum h' (s.heap.objs.size + 1) s.heap.objs.size 0 .none → h'.IsTupleIter s.heap.objs.size l 0 → h'.objs.size = s.heap.objs.size + 2 →
      (∀ b o, s.heap.get? b = some o → h'.get? b = some o) → Q (.ref (s.heap.objs.size + 1)) { s with heap := h' }) :
    wpAny (model prog w) A (call (.type "enumerate") [.ref l]) Q E s := by
  obtain ⟨⟨c, dct, dt, sl⟩, hl, hc, n, hd⟩ := hL
  replace hc : c = .type "tuple" := hc
  replace hd : dt = .seq items n := hd
  subst hc hd
  refine callType_new F.called_enumerate (by decide) (F.typeCall_enumerate_1 _) (F.newCall_enumerate_1 _) (fun obj => F.args_object_init_2 obj _) F.entry_enumerate_new
    (my_enumerate_newT l items n dct sl) ⟨hl, ?_⟩
  have hz : (s.heap.push { cls := .type "tuple_iterator", data := .fields #[.ref l, .int 0 0] }).objs.size = s.heap.objs.size + 1 := Heap.size_push ..
  show _ ∧ _
  rw [hz]
  have he : IsEnum ((s.heap.push { cls := .type "tuple_iterator", data := .fields #[.ref l, .int 0 0] }).push
      { cls := .type "enumerate", data := .fields #[.none, .bool false, .ref s.heap.objs.size, rawInt 0, .none, .none] }) (s.heap.objs.size + 1) s.heap.objs.size 0 .none := by
    have := Heap.get?_push_size (s.heap.push { cls := .type "tuple_iterator", data := .fields #[.ref l, .int 0 0] })
      (o := { cls := .type "enumerate", data := .fields #[.none, .bool false, .ref s.heap.objs.size, rawInt 0, .none, .none] }) rfl
    rw [hz] at this; exact this
  refine ⟨⟨_, he, rfl⟩, h _ he ⟨_, Heap.get?_push_of_some _ (Heap.get?_push_size _ rfl), rfl, rfl⟩ (by rw [Heap.size_push, hz]) fun b o x => Heap.get?_push_of_some _ (Heap.get?_push_of_some _ x)⟩
end
end PySem
namespace L2
open PySem PySem.Spec PyProof.Rows
def IteT (K : PySem.W.Frag) (a : Addr) : It :=
  ⟨fun i H => ∃ (xs : List V) (x : V), SqT K H a xs ∧ xs[i]? = some x, fun i H v H' => ∃ T x, v = .ref T ∧ H T = none ∧ H' = upd H T (.tup [.int (i : Nat), x]) ∧ ∀ xs, SqT K H a xs → xs[i]? = some x, fun i H => ∃ xs : List V, SqT K H a xs ∧ i = xs.length⟩
theorem turn_enumT {P : Program} {w : World} {K : PySem.W.Frag} {elts : List Expr} {kk : Nat} {tpos : Pos} (a e it : Addr) :
    Turn P w K (.Tuple elts kk tpos) (IteT K a) [e, it] e (fun i h => (∃ old, IsEnum h e it ((i : Nat) : Int) old) ∧ h.IsTupleIter it a i ∧ e ≠ it ∧ e ≠ a ∧ it ≠ a) where
  mem := by simp
  obj := fun i h st b hb => by
    obtain ⟨⟨old, he⟩, ⟨o, ho, hc, hd⟩, _⟩ := st
    have e' : b = e ∨ b = it := by simpa using hb
    rcases e' with z | z
    · rw [z]; exact ⟨_, he, fun v q => nomatch q⟩
    · rw [z]; exact ⟨o, ho, fun v q => by rw [hd] at q; cases q⟩
  keep := fun i h h' st k => let ⟨⟨old, he⟩, hi, hne⟩ := st; ⟨⟨old, k e (by simp) _ he⟩, hi.at fun o q => k it (by simp) o q, hne⟩
  item := by
    intro X hP hw hK hc i pins s σ H E I hf st hg
    subst hP hw hK
    obtain ⟨⟨old, he⟩, hit, hne, hea, hia⟩ := st
    obtain ⟨xs, x, hq, hx⟩ := hg
    obtain ⟨its, rv, p, hz⟩ := I.tuple hq
    have p' : s.heap.IsTuple a its.toArray := p
    obtain ⟨u, hu, ru⟩ := rv.get hx
    have hel : e < s.heap.objs.size := Heap.lt_size he
    have hil : it < s.heap.objs.size := by obtain ⟨_, q, _⟩ := hit; exact Heap.lt_size q
    have D := Draws.tuple (prog := X.prog) (w := X.w) (A := X.A.in1) (I.ok.hd hc) it a hia.symm its.toArray
    refine wpAny_pyNext_enum_itemD D he ⟨hit, p'⟩ (by have := (List.getElem?_eq_some_iff.mp hu).1; simpa using this) hne (by simp [hne, hea]) fun x' h' tk hx' ho hit' hT hsz hk => ?_
    have hxu : x' = u := by
      have e1 : its[i]? = some x' := by simpa using hx'
      rw [hu] at e1
      exact (Option.some.inj e1).symm
    subst hxu
    obtain ⟨hit', _⟩ := hit'
    refine ⟨_, rfl, wpAny_letOwnedTupleGo_enum (s := { s with heap := h', toks := tk + 1 }) ho fun h'' he' sb => ?_⟩
    have hT2 : h''.get? s.heap.objs.size = some { cls := .type "tuple", data := .seq #[.int i tk, x'] } := (sb.2 _ (Nat.ne_of_gt hel)).trans hT
    have new : ObjOk X.prog X.w (upd H s.heap.objs.size (.tup [.int (i : Nat), x])) h'' s.heap.objs.size (.tup [.int (i : Nat), x]) :=
      ⟨by show 2 ≤ sizeLine; decide, [.int i tk, x'], .cons ⟨_, rfl⟩ (.cons ru .nil), ⟨_, hT2, rfl, _, rfl⟩⟩
    have I1 : Inv X pins σ (upd H s.heap.objs.size (.tup [.int (i : Nat), x])) { s with heap := h'', toks := tk + 1 } :=
      I.turnedNew (ch := [e, it]) (fun b ob hb q => (sb.2 b (fun z => hb (by simp [z]))).trans (hk b ob (fun z => hb (by simp [z])) (fun z => hb (by simp [z])) q)) hf (Nat.le_refl _) new
    refine ⟨.ref s.heap.objs.size, _, I1, rfl, ⟨_, x, rfl, I.hok.fresh (Nat.le_refl _), rfl, fun ys hy => by rw [I.tuple_inj hy hq]; exact hx⟩, ⟨⟨x', ?_⟩, hit'.at fun o q => (sb.2 it (Ne.symm hne)).trans q, hne, hea, hia⟩, fun b hb => ?_⟩
    · have e1 : ((i + 1 : Nat) : Int) = (i : Int) + 1 := by omega
      rw [e1]; exact he'
    · have hb' : b < s.heap.objs.size := by
        have e' : b = e ∨ b = it := by simpa using hb
        rcases e' with z | z
        · rw [z]; exact hel
        · rw [z]; exact hil
      rw [upd_ne (Nat.ne_of_lt hb')]
      exact (hf b hb).1
  done := by
    intro X hP hw hK hc i pins s σ H E I hf st hg
    subst hP hw hK
    obtain ⟨⟨old, he⟩, hit, hne, hea, hia⟩ := st
    obtain ⟨xs, hq, hx⟩ := hg
    obtain ⟨its, rv, p, hz⟩ := I.tuple hq
    have p' : s.heap.IsTuple a its.toArray := p
    obtain ⟨f0, f1, f2, f3, f4, f5⟩ := hf it (by simp)
    have hl := rv.length
    have D := Draws.tuple (prog := X.prog) (w := X.w) (A := X.A.in1) (I.ok.hd hc) it a hia.symm its.toArray
    have hn : i = its.toArray.size := by rw [hx, hl]; simp
    refine wpAny_pyNext_enum_endD D he ⟨hn ▸ hit, p'⟩ fun h' eb => ⟨rfl, I.turned (t' := s.toks) (fun b o hb q => eb b o hb q) f0 f1 f3 f4 f5⟩
  self := fun A i s Q E st h => let ⟨⟨_, he⟩, _⟩ := st; wpAny_pyIter_enum he h
/-- enumerate(list | tuple) -/
def iEnumS (K : PySem.W.Frag) (ta : TA) : TI := fun σ H R => ta σ H fun vs H1 => ∃ a xs, vs = [.ref a] ∧ ((SqL K H1 a xs ∧ R (Ite K a) H1) ∨ (SqT K H1 a xs ∧ R (IteT K a) H1))
theorem pi_enumS {X : Cx} {e : Expr} {ta : TA} {p pos tpos : Pos} {elts : List Expr} {kk : Nat} (hg : Gl X "enumerate") (hm : X.mg "enumerate" = none) (ha : PA X [e] ta) (hs : starEach [e] X.env = [(false, eval e X.env)] := by rfl) :
    PI X (.Tuple elts kk tpos) (.Call (.Name "enumerate" p) [e] [] pos) (iEnumS X.K ta) := by
  refine ⟨fun pins s σ H R I h => ?_⟩
  refine Call_ (ld_blt I hg hm boot_enumerate (PyProof.Rows.callWith_type1 (thn (ha.run pos pins s σ H _ I h) fun us s1 ⟨vs, H1, I1, r1, q1⟩ => ?_) hs rfl))
  obtain ⟨a, xs, ex, q1⟩ := q1
  subst ex
  cases r1 with
  | cons r rr =>
    cases rr
    cases r
    have fpk : ∀ b ∈ [s1.heap.objs.size + 1, s1.heap.objs.size], FpOk X pins H1 b := fun b hb => by
      have e' : b = s1.heap.objs.size + 1 ∨ b = s1.heap.objs.size := by simpa using hb
      have hle : s1.heap.objs.size ≤ b := by
        rcases e' with z | z
        · rw [z]; exact Nat.le_add_right _ _
        · rw [z]; exact Nat.le_refl _
      exact I1.fpOk hle (I1.hok.fresh hle)
    rcases q1 with ⟨hq, q⟩ | ⟨hq, q⟩
    · obtain ⟨its, rv, p', hz⟩ := I1.list hq
      refine call_enumerate_list p'.isList fun h' he hit hsz hk => wpAny_pyIter_enum he ?_
      have I2 : Inv X pins σ H1 { s1 with heap := h' } := I1.kept (t' := s1.toks) hk
      exact ⟨s1.heap.objs.size + 1, [s1.heap.objs.size + 1, s1.heap.objs.size], _, _, H1, rfl, I2, turn_enum a (s1.heap.objs.size + 1) s1.heap.objs.size, ⟨⟨.none, he⟩, hit, Nat.succ_ne_self _⟩, fpk, q⟩
    · obtain ⟨its, rv, p', hz⟩ := I1.tuple hq
      have hla : a < s1.heap.objs.size := by obtain ⟨o, ho, _⟩ := p'; exact Heap.lt_size ho
      refine my_enumerate_tuple (show s1.heap.IsTuple a its.toArray from p') fun h' he hit hsz hk => wpAny_pyIter_enum he ?_
      have I2 : Inv X pins σ H1 { s1 with heap := h' } := I1.kept (t' := s1.toks) hk
      exact ⟨s1.heap.objs.size + 1, [s1.heap.objs.size + 1, s1.heap.objs.size], _, _, H1, rfl, I2, turn_enumT a (s1.heap.objs.size + 1) s1.heap.objs.size, ⟨⟨.none, he⟩, hit, Nat.succ_ne_self _, Nat.ne_of_gt (Nat.lt_succ_of_lt hla), Nat.ne_of_gt hla⟩, fpk, q⟩
theorem pi_enumSK {X : Cx} {K : PySem.W.Frag} {e : Expr} {ta : TA} {p pos tpos : Pos} {elts : List Expr} {kk : Nat} (h : X.K = K) (hg : Gl X "enumerate") (hm : X.mg "enumerate" = none) (ha : PA X [e] ta) (hs : starEach [e] X.env = [(false, eval e X.env)] := by rfl) :
    PI X (.Tuple elts kk tpos) (.Call (.Name "enumerate" p) [e] [] pos) (iEnumS K ta) := by subst h; exact pi_enumS hg hm ha hs
/-- a for over it: the pair's own tuple is new; Pv by the turn -/
theorem for_enumS {K : PySem.W.Frag} {a : Addr} {xs : List V} {g : TG} {tb : TS} {D : Ends} {σ : St} {H0 H : Hp} (hq : SqL K H0 a xs ∨ SqT K H0 a xs) (Pv : Nat → St → Hp → Prop) (h0 : Pv 0 σ H) (hm : ∀ i σ' H', Pv i σ' H' → ∀ b o, H0 b = some o → H' b = some o)
    (hs : ∀ i x σ H T, xs[i]? = some x → Pv i σ H → H T = none → g (.ref T) σ (upd H T (.tup [.int (i : Nat), x])) fun σ2 H2 => tb { D with nx := Pv (i + 1), ct := Pv (i + 1), bk := D.nx } σ2 H2) (hd : ∀ σ H, Pv xs.length σ H → D.nx σ H) :
    ((SqL K H a xs ∧ ∃ W : Nat → Nat → St → Hp → Prop, (∃ m, W 0 m σ H) ∧ ∀ i m σ H, W i m σ H →
      ((Ite K a).stop i H ∧ D.nx σ H) ∨ ((Ite K a).go i H ∧ ∃ N : St → Hp → Prop, (∀ σ' H', N σ' H' → ∃ m', m' < m ∧ W (i + 1) m' σ' H') ∧ ∀ x H', (Ite K a).yld i H x H' → g x σ H' fun σ2 H2 => tb { D with nx := N, ct := N, bk := D.nx } σ2 H2)) ∨
     (SqT K H a xs ∧ ∃ W : Nat → Nat → St → Hp → Prop, (∃ m, W 0 m σ H) ∧ ∀ i m σ H, W i m σ H →
      ((IteT K a).stop i H ∧ D.nx σ H) ∨ ((IteT K a).go i H ∧ ∃ N : St → Hp → Prop, (∀ σ' H', N σ' H' → ∃ m', m' < m ∧ W (i + 1) m' σ' H') ∧ ∀ x H', (IteT K a).yld i H x H' → g x σ H' fun σ2 H2 => tb { D with nx := N, ct := N, bk := D.nx } σ2 H2))) := by
  have mL : ∀ {i σ' H'}, SqL K H0 a xs → Pv i σ' H' → SqL K H' a xs := fun {i σ' H'} h p => by
    have k := hm i σ' H' p
    rcases h with (h | ⟨o, h⟩) | h
    · exact .inl (.inl (k _ _ h))
    · exact .inl (.inr ⟨o, k _ _ h⟩)
    · exact .inr h
  have mT : ∀ {i σ' H'}, SqT K H0 a xs → Pv i σ' H' → SqT K H' a xs := fun {i σ' H'} h p => by
    have k := hm i σ' H' p
    rcases h with (h | ⟨o, h⟩) | h
    · exact .inl (.inl (k _ _ h))
    · exact .inl (.inr ⟨o, k _ _ h⟩)
    · exact .inr h
  rcases hq with h | h
  · refine .inl ⟨mL h h0, fun i m σ H => m = xs.length - i ∧ i ≤ xs.length ∧ Pv i σ H, ⟨xs.length, by simp, Nat.zero_le _, h0⟩, ?_⟩
    rintro i m σ H ⟨rfl, hi, p⟩
    have q := mL h p
    by_cases hlt : i < xs.length
    · refine .inr ⟨⟨xs, xs[i], q, by simp [hlt]⟩, Pv (i + 1), fun σ' H' p' => ⟨xs.length - (i + 1), by omega, rfl, hlt, p'⟩, fun x H' y => ?_⟩
      obtain ⟨T, z, rfl, nT, rfl, hz⟩ := y
      exact hs i z σ H T (hz xs q) p nT
    · have e : i = xs.length := by omega
      subst e
      exact .inl ⟨⟨xs, q, Nat.le_refl _⟩, hd σ H p⟩
  · refine .inr ⟨mT h h0, fun i m σ H => m = xs.length - i ∧ i ≤ xs.length ∧ Pv i σ H, ⟨xs.length, by simp, Nat.zero_le _, h0⟩, ?_⟩
    rintro i m σ H ⟨rfl, hi, p⟩
    have q := mT h p
    by_cases hlt : i < xs.length
    · refine .inr ⟨⟨xs, xs[i], q, by simp [hlt]⟩, Pv (i + 1), fun σ' H' p' => ⟨xs.length - (i + 1), by omega, rfl, hlt, p'⟩, fun x H' y => ?_⟩
      obtain ⟨T, z, rfl, nT, rfl, hz⟩ := y
      exact hs i z σ H T (hz xs q) p nT
    · have e : i = xs.length := by omega
      subst e
      exact .inl ⟨⟨xs, q, rfl⟩, hd σ H p⟩
end L2


set_option Elab.async false
set_option linter.all false
set_option maxRecDepth 100000
set_option maxHeartbeats 4000000
/-! try with several except clauses, each with a name or without one -/
namespace L2
open PySem PySem.Spec PyProof.Rows
def wManyA (K : PySem.W.Frag) (Wout : WX) (D : Ends) : List (Value × Option Nat × (Addr → Value → Option Addr → TS)) → WX
  | [] => Wout
  | (c, none, ts) :: r => fun cls d σ H => ∃ b, PySem.W.exmOne K cls c = some b ∧ (b = true → ∀ a, H a = none → ts a cls d D σ H) ∧ (b = false → wManyA K Wout D r cls d σ H)
  | (c, some i, ts) :: r => fun cls d σ H => ∃ b, PySem.W.exmOne K cls c = some b ∧ (b = true → i < σ.length → ∀ a, H a = none → ts a cls d { nx := fun σ' H' => D.nx (σ'.set i none) H', rt := D.rt, bk := fun σ' H' => D.bk (σ'.set i none) H', ct := fun σ' H' => D.ct (σ'.set i none) H' } (σ.set i (some (.ref a))) H) ∧
      (b = false → wManyA K Wout D r cls d σ H)
inductive HdsA (X : Cx) : List ExceptHandler → List (Value × Option Nat × (Addr → Value → Option Addr → TS)) → Prop
  | nil : HdsA X [] []
  | plain {x : Str} {c : Value} {ts : Addr → Value → Option Addr → TS} {b₀ : Stmt} {suite : List Stmt} {np pos' : Pos} {hds : List ExceptHandler} {l : List (Value × Option Nat × (Addr → Value → Option Addr → TS))} (hc : Names X x c)
      (hsu : ∀ (a : Addr) (oe : Obj) (cls : Value) (d : Option Addr) (pn : List (Addr × Obj)), Zc cls d oe → (∃ vs, oe.data = .fields vs) → PSs (X.suite a ((a, oe) :: pn)) (b₀ :: suite) (ts a cls d)) (r : HdsA X hds l) :
      HdsA X (.ExceptHandler (some (.Name x np)) none (b₀ :: suite) pos' :: hds) ((c, none, ts) :: l)
  | named {x n : Str} {i : Nat} {c : Value} {ts : Addr → Value → Option Addr → TS} {b₀ : Stmt} {suite : List Stmt} {np pos' : Pos} {hds : List ExceptHandler} {l : List (Value × Option Nat × (Addr → Value → Option Addr → TS))} (hi : X.N[i]? = some n) (hln : X.env.kindOf n = some .local) (hc : Names X x c)
      (hsu : ∀ (a : Addr) (oe : Obj) (cls : Value) (d : Option Addr) (pn : List (Addr × Obj)), Zc cls d oe → (∃ vs, oe.data = .fields vs) → PSs (X.suite a ((a, oe) :: pn)) (b₀ :: suite) (ts a cls d)) (r : HdsA X hds l) :
      HdsA X (.ExceptHandler (some (.Name x np)) (some n) (b₀ :: suite) pos' :: hds) ((c, some i, ts) :: l)
section
variable {X : Cx} {body : List Stmt} {h₀ : ExceptHandler} {hds : List ExceptHandler} {l : List (Value × Option Nat × (Addr → Value → Option Addr → TS))} {pos : Pos} {tb : WX → TS} {Wout : WX}
theorem ps_try_manyA (hs : X.stack = X.env :: X.outer) (hf : X.env.frame = some X.env.locals) (hN : X.N.Nodup) (tk : Takes X Wout)
    (hb : ∀ (W : WX) (pn : List (Addr × Obj)) (xe : Value → Shared → Prop), Takes (X.tr pn xe) W → PassesOwn (model X.prog X.w) X.A X.env xe → PSs (X.tr pn xe) body (tb W))
    (hh : HdsA X (h₀ :: hds) l) : PS X (.Try body (h₀ :: hds) [] [] pos) (fun D σ H => tb (wManyA X.K Wout D l) D σ H) := by
  refine ⟨fun pins s σ H D I h => ?_⟩
  have ok := I.ok
  have hfr : X.A.frames = some (X.env :: X.outer) := by rw [ok.frames, hs]
  refine wpAny_Try_except ?_
  refine wpAny_mono ((hb (wManyA X.K Wout D l) (X.pn ++ pins) (fun e s₁ => wpAny (model X.prog X.w) X.A (noteFrame e X.env) (fun _ s₂ => wpAny (model X.prog X.w) X.A (setFlight e none) (fun _ s₃ =>
    wpAny (model X.prog X.w) X.A (handleBy e X.env (h₀ :: hds)) (SP X pins D) X.xe s₃) X.xe s₂) X.xe s₁) (fun u s' xx => ?_) PassesOwn.looking).run [] s σ H D (I.toTry _) h) (fun f s1 hsp => ?_) (fun e s1 he => he)
  · -- the catch
    obtain ⟨a, B, sI, pins', σ', H', cls, d, rfl, J', nb, up, sky, na, os, ag, w⟩ := xx
    have J : Inv X pins σ' H' sI := J'.ofTry ok
    have sky' : Sky B (X.env :: X.outer) a (Zc cls d) X.env.locals s'.heap := by rw [← hs]; exact sky
    show wpAny (model X.prog X.w) X.A (noteFrame (.ref a) X.env) _ _ _
    refine Sky.land Zc.steady hfr hf sky' fun h3 fl3 up3 => ?_
    have J3 : Inv X pins σ' H' { s' with heap := h3 } := J.landed nb fl3.1 (up.trans up3) os ag
    obtain ⟨oe3, vs3, he3, hz3, hd3⟩ := fl3.there
    have notFr : ∀ {h : Heap} {o : Obj} {vs : Array Value}, h.FunFrames B (X.env :: X.outer) → h.get? a = some o → o.data = .fields vs → a ∉ frs (X.env :: X.outer) := fun {h o vs} ff e dd hm => by
      obtain ⟨_, o', e', hnf⟩ := ff.mem hm
      rw [e] at e'; cases e'
      exact hnf _ dd
    have nfr := notFr fl3.2.2.1 he3 hd3
    have nL : a ≠ X.env.locals := fun z => nfr (List.mem_filterMap.mpr ⟨X.env, List.mem_cons_self, by rw [hf, z]⟩)
    have nF : a ∉ X.fs := fun hm => by
      obtain ⟨e, he, q⟩ := List.mem_filterMap.mp hm
      exact nfr (List.mem_filterMap.mpr ⟨e, List.mem_cons_of_mem _ he, q⟩)
    have S3 := J3.suite he3 hd3 na nL nF
    have LT : PySem.W.Looks (model X.prog X.w) h3 (typeOf (.ref a)) cls := fun A Q E s k q => wpAny_typeOf_ref (k _ _ he3) (by rw [hz3.1]; exact q)
    have test : ∀ {x : Str} {np : Pos} {c : Value} (hc : Names X x c) {Q : Value → Shared → Prop} {E : Value → Shared → Prop}, Q c { s' with heap := h3 } → wpAny (model X.prog X.w) (X.A.mark (some (.ref a))) (eval (.Name x np) X.env) Q E { s' with heap := h3 } := fun {x np c} hc {Q E} q => by
      obtain ⟨hg, hdbg, hm | ⟨hm, hv, hnn⟩⟩ := hc
      · exact ld_glob (X := X.suite a ((a, oe3) :: (X.pn ++ pins))) S3 hg hm q hdbg
      · exact ld_blt (X := X.suite a ((a, oe3) :: (X.pn ++ pins))) S3 hg hm hv q hnn hdbg
    have go : ∀ {hds' : List ExceptHandler} {l' : List (Value × Option Nat × (Addr → Value → Option Addr → TS))}, HdsA X hds' l' → wManyA X.K Wout D l' cls d σ' H' →
        wpAny (model X.prog X.w) X.A (handleBy (.ref a) X.env hds') (SP X pins D) X.xe { s' with heap := h3 } := by
      intro hds' l' hk
      induction hk with
      | nil =>
        intro w
        refine wpAny_handleBy_nil ?_
        obtain ⟨k1, k2, k3, oe, vs, T, oT, ts', he, hz, hd, h1, hr⟩ := id fl3
        unfold PySem.passOn
        refine wpAny_bind (wpAny_field he hd h1 ?_)
        rw [if_neg (show ¬ ((Value.ref T == Value.none) = true) from by simp)]
        have fin : wpAny (model X.prog X.w) X.A (setFlight (.ref a) X.env.frame) (fun _ s4 => wpAny (model X.prog X.w) X.A (throw (.ref a) : Sem Flow) (SP X pins D) X.xe s4) X.xe { s' with heap := h3 } := by
          rw [hf]
          refine HandSPX.setFlight_upZ fl3 fun h4 hh4 up4 => wpAny_throw (tk _ _ ?_)
          exact ⟨a, B, sI, pins, σ', H', cls, d, rfl, J, nb, (up.trans up3).trans up4, .inr (.inr (by rw [hs]; exact hh4)), na, os, ag, w⟩
        first
          | exact wpAny_bind (wpAny_pure (wpAny_bind fin))
          | exact wpAny_bind fin
      | @plain x c ts b₀ suite np pos' hds2 l2 hc hsu r ih =>
        intro w
        obtain ⟨b, hb1, hyes, hno⟩ := w
        refine wpAny_handleBy_cons (codeAny_handlers_test ?_) (by intro q; cases q)
        have LM := PySem.W.exm_one (M := model X.prog X.w) (J3.kIn) LT hb1
        refine test hc (LM.here ?_)
        cases b with
        | true =>
          refine codeAny_handlers_suite ?_
          refine HandSPX.lands_againZ fl3 fun h4 fl4 up4 => ?_
          have J4 : Inv X pins σ' H' { s' with heap := h4 } := J.landed nb fl4.1 ((up.trans up3).trans up4) os ag
          obtain ⟨oe4, vs4, he4, hz4, hd4⟩ := fl4.there
          have S4 := J4.suite he4 hd4 na nL nF
          refine wpAny_mono ((hsu a oe4 cls d (X.pn ++ pins) hz4 ⟨_, hd4⟩).run [] _ _ H' _ S4 (hyes rfl a na)) (fun f s6 hsp => ?_) (fun _ _ z => False.elim z)
          cases f with
          | next =>
            obtain ⟨σ6, H6, S6, q6⟩ := hsp
            exact ⟨_, _, S6.unsuite ok, q6⟩
          | brk =>
            obtain ⟨σ6, H6, S6, q6⟩ := hsp
            exact ⟨_, _, S6.unsuite ok, q6⟩
          | cont =>
            obtain ⟨σ6, H6, S6, q6⟩ := hsp
            exact ⟨_, _, S6.unsuite ok, q6⟩
          | ret u =>
            obtain ⟨v6, σ6, H6, S6, r6, q6⟩ := hsp
            exact ⟨_, _, _, S6.unsuite ok, r6, q6⟩
        | false =>
          show wpAny _ X.A (handleBy (.ref a) X.env hds2) _ _ _
          exact ih (hno rfl)
      | @named x n i c ts b₀ suite np pos' hds2 l2 hi hln hc hsu r ih =>
        intro w
        have hloc : Loc X.env.scope n := .inl hln
        obtain ⟨b, hb1, hyes, hno⟩ := w
        refine wpAny_handleBy_cons (codeAny_handlers_test ?_) (by intro q; cases q)
        have LM := PySem.W.exm_one (M := model X.prog X.w) (J3.kIn) LT hb1
        refine test hc (LM.here ?_)
        cases b with
        | true =>
          refine codeAny_handlers_suite_as ?_
          refine HandSPX.lands_againZ fl3 fun h4 fl4 up4 => ?_
          have J4 : Inv X pins σ' H' { s' with heap := h4 } := J.landed nb fl4.1 ((up.trans up3).trans up4) os ag
          obtain ⟨oe4, vs4, he4, hz4, hd4⟩ := fl4.there
          have S4 := J4.suite he4 hd4 na nL nF
          refine store_ok (X := X.suite a ((a, oe4) :: (X.pn ++ pins))) (v := .ref a) S4 hN hi hloc rfl (fun s5 S5 => ?_) (.inr hln)
          refine wpAny_mono ((hsu a oe4 cls d (X.pn ++ pins) hz4 ⟨_, hd4⟩).run [] s5 _ H' _ S5 (hyes rfl (by rw [J.len]; exact (List.getElem?_eq_some_iff.mp hi).1) a na)) (fun f s6 hsp => ?_) (fun _ _ z => False.elim z)
          have end_ : ∀ {σ6 : St} {H6 : Hp} {Q : Shared → Prop}, Inv (X.suite a ((a, oe4) :: (X.pn ++ pins))) [] σ6 H6 s6 → (∀ s7, Inv X pins (σ6.set i none) H6 s7 → Q s7) →
              wpAny (model X.prog X.w) X.A (do bindName X.env n .none; unbindBehindTheSuite X.env n pos') (fun _ s7 => Q s7) X.xe s6 := fun {σ6 H6 Q} S6 hq => gone_ok (S6.unsuite ok) hN hi hln hq
          cases f with
          | next =>
            obtain ⟨σ6, H6, S6, q6⟩ := hsp
            exact end_ S6 fun s7 J7 => ⟨_, _, J7, q6⟩
          | brk =>
            obtain ⟨σ6, H6, S6, q6⟩ := hsp
            exact end_ S6 fun s7 J7 => ⟨_, _, J7, q6⟩
          | cont =>
            obtain ⟨σ6, H6, S6, q6⟩ := hsp
            exact end_ S6 fun s7 J7 => ⟨_, _, J7, q6⟩
          | ret u =>
            obtain ⟨v6, σ6, H6, S6, r6, q6⟩ := hsp
            exact end_ S6 fun s7 J7 => ⟨_, _, _, J7, r6, q6⟩
        | false =>
          show wpAny _ X.A (handleBy (.ref a) X.env hds2) _ _ _
          exact ih (hno rfl)
    exact go hh w
  · cases f with
    | next =>
      obtain ⟨σ', H', J', q⟩ := hsp
      exact wpAny_execs_nil ⟨σ', H', J'.ofTry ok, q⟩
    | brk =>
      obtain ⟨σ', H', J', q⟩ := hsp
      exact ⟨σ', H', J'.ofTry ok, q⟩
    | cont =>
      obtain ⟨σ', H', J', q⟩ := hsp
      exact ⟨σ', H', J'.ofTry ok, q⟩
    | ret u =>
      obtain ⟨v, σ', H', J', r, q⟩ := hsp
      exact ⟨v, σ', H', J'.ofTry ok, r, q⟩
end
end L2


set_option Elab.async false
set_option linter.all false
set_option maxRecDepth 100000
set_option maxHeartbeats 4000000
namespace K1
open PySem PySem.Spec PyProof.Rows L2 RZ
/-! ### values as data: what stands at a place, found in the call's own objects -/
mutual
inductive Dv (H : Hp) : V → PyData → Prop
  | non : Dv H .non .none
  | bl (b : Bool) : Dv H (.bl b) (.bool b)
  | int (i : Int) : Dv H (.int i) (.int i)
  | str (x : Str) : Dv H (.str x) (.str x)
  | lst {a : Addr} {xs : List V} {ds : List PyData} : H a = some (.lst xs) → DvA H xs ds → Dv H (.ref a) (.list ds)
  | tup {a : Addr} {xs : List V} {ds : List PyData} : H a = some (.tup xs) → DvA H xs ds → Dv H (.ref a) (.tuple ds)
  | dic {a : Addr} : H a = some (.dK []) → Dv H (.ref a) (.dict [])
inductive DvA (H : Hp) : List V → List PyData → Prop
  | nil : DvA H [] []
  | cons {v : V} {vs : List V} {d : PyData} {ds : List PyData} : Dv H v d → DvA H vs ds → DvA H (v :: vs) (d :: ds)
end
mutual
theorem Dv.ext {H H' : Hp} (e : LamX.ExtN H H') : ∀ {v : V} {d : PyData}, Dv H v d → Dv H' v d
  | _, _, .non => .non
  | _, _, .bl b => .bl b
  | _, _, .int i => .int i
  | _, _, .str x => .str x
  | _, _, .lst h a => .lst (e _ _ h fun _ z => by cases z) (DvA.ext e a)
  | _, _, .tup h a => .tup (e _ _ h fun _ z => by cases z) (DvA.ext e a)
  | _, _, .dic h => .dic (e _ _ h fun _ z => by cases z)
theorem DvA.ext {H H' : Hp} (e : LamX.ExtN H H') : ∀ {vs : List V} {ds : List PyData}, DvA H vs ds → DvA H' vs ds
  | _, _, .nil => .nil
  | _, _, .cons h r => .cons (Dv.ext e h) (DvA.ext e r)
end
theorem Dv.same {H H' : Hp} {v : V} {d : PyData} (h : Dv H v d) (s : Same H H') : Dv H' v d := h.ext (LamX.ExtN.of s)
theorem DvA.same {H H' : Hp} {v : List V} {d : List PyData} (h : DvA H v d) (s : Same H H') : DvA H' v d := h.ext (LamX.ExtN.of s)
mutual
def noDic : PyData → Bool
  | .list xs => noDicA xs
  | .tuple xs => noDicA xs
  | .dict _ => false
  | _ => true
def noDicA : List PyData → Bool
  | [] => true
  | x :: r => noDic x && noDicA r
end
mutual
theorem Dv.dp {K : PySem.W.Frag} {H : Hp} : ∀ {v : V} {d : PyData}, Dv H v d → noDic d = true → Dp K H v d
  | _, _, .non, _ => .non
  | _, _, .bl b, _ => .bl b
  | _, _, .int i, _ => .int i
  | _, _, .str x, _ => .str x
  | _, _, .lst h a, n => .lst (sq h) (DvA.dp a n)
  | _, _, .tup h a, n => .tup (st h) (DvA.dp a n)
  | _, _, .dic h, n => by cases n
theorem DvA.dp {K : PySem.W.Frag} {H : Hp} : ∀ {vs : List V} {ds : List PyData}, DvA H vs ds → noDicA ds = true → DpAll K H vs ds
  | _, _, .nil, _ => .nil
  | _, _, .cons h r, n => .cons (Dv.dp h ((Bool.and_eq_true _ _).mp n).1) (DvA.dp r ((Bool.and_eq_true _ _).mp n).2)
end
theorem DvA.len {H : Hp} : ∀ {vs : List V} {ds : List PyData}, DvA H vs ds → vs.length = ds.length
  | _, _, .nil => rfl
  | _, _, .cons _ r => congrArg (· + 1) (DvA.len r)
theorem DvA.get {H : Hp} : ∀ {vs : List V} {ds : List PyData}, DvA H vs ds → ∀ {i : Nat} {v : V}, vs[i]? = some v → ∃ d, ds[i]? = some d ∧ Dv H v d
  | _, _, .nil, i, v, h => by simp at h
  | _, _, .cons hd r, 0, v, h => ⟨_, rfl, by simp at h; exact h ▸ hd⟩
  | _, _, .cons hd r, i + 1, v, h => by simpa using DvA.get r (i := i) (v := v) (by simpa using h)
theorem DvA.app {H : Hp} : ∀ {vs : List V} {ds : List PyData} {us : List V} {es : List PyData}, DvA H vs ds → DvA H us es → DvA H (vs ++ us) (ds ++ es)
  | _, _, _, _, .nil, h => h
  | _, _, _, _, .cons hd r, h => .cons hd (DvA.app r h)
def tyN : PyData → String
  | .none => "NoneType"
  | .bool _ => "bool"
  | .int _ => "int"
  | .str _ => "str"
  | .list _ => "list"
  | .tuple _ => "tuple"
  | .dict _ => "dict"
theorem Dv.ty {K : PySem.W.Frag} {H : Hp} {v : V} {d : PyData} (h : Dv H v d) : TyX K H v (.type (tyN d)) := by
  cases h with
  | non => exact .base .non
  | bl b => exact .base (.bl b)
  | int i => exact .base (.int i)
  | str x => exact .base (.str x)
  | lst e _ => exact .base (.lst e)
  | tup e _ => exact .base (.tup e)
  | dic e => exact .base (.dK e)
/-! ### what the checks say of data -/
def isInt : PyData → Bool | .int _ => true | _ => false
def isNum : PyData → Bool | .int n => decide (1 ≤ n) | _ => false
def isStr : PyData → Bool | .str _ => true | _ => false
def isTup : PyData → Bool | .tuple _ => true | _ => false
def isSeq : PyData → Bool | .tuple _ => true | .list _ => true | _ => false
def itemsD : PyData → List PyData | .list xs => xs | .tuple xs => xs | _ => []
def dI : PyData → Int | .int n => n | _ => 0
def isNums (d : PyData) : Bool := isSeq d && (itemsD d).all isNum
def ascB (ns : List Int) : Bool := ((ns.zip (ns.drop 1)).map fun p => decide (p.1 < p.2)).all id
theorem kit_int (d : PyData) : ∃ b1 b2, kitB (tyN d) "int" = some b1 ∧ kitB (tyN d) "bool" = some b2 ∧ (b1 && !b2) = isInt d := by
  cases d with
  | none => exact ⟨false, false, (show kitB "NoneType" "int" = some false by decide +kernel), (show kitB "NoneType" "bool" = some false by decide +kernel), rfl⟩
  | bool b => exact ⟨true, true, (show kitB "bool" "int" = some true by decide +kernel), (show kitB "bool" "bool" = some true by decide +kernel), rfl⟩
  | int b => exact ⟨true, false, (show kitB "int" "int" = some true by decide +kernel), (show kitB "int" "bool" = some false by decide +kernel), rfl⟩
  | str b => exact ⟨false, false, (show kitB "str" "int" = some false by decide +kernel), (show kitB "str" "bool" = some false by decide +kernel), rfl⟩
  | list b => exact ⟨false, false, (show kitB "list" "int" = some false by decide +kernel), (show kitB "list" "bool" = some false by decide +kernel), rfl⟩
  | tuple b => exact ⟨false, false, (show kitB "tuple" "int" = some false by decide +kernel), (show kitB "tuple" "bool" = some false by decide +kernel), rfl⟩
  | dict b => exact ⟨false, false, (show kitB "dict" "int" = some false by decide +kernel), (show kitB "dict" "bool" = some false by decide +kernel), rfl⟩
theorem kit_str (d : PyData) : kitB (tyN d) "str" = some (isStr d) := by
  cases d with
  | none => exact (show kitB "NoneType" "str" = some false by decide +kernel)
  | bool b => exact (show kitB "bool" "str" = some false by decide +kernel)
  | int b => exact (show kitB "int" "str" = some false by decide +kernel)
  | str b => exact (show kitB "str" "str" = some true by decide +kernel)
  | list b => exact (show kitB "list" "str" = some false by decide +kernel)
  | tuple b => exact (show kitB "tuple" "str" = some false by decide +kernel)
  | dict b => exact (show kitB "dict" "str" = some false by decide +kernel)
theorem kit_tup (d : PyData) : kitB (tyN d) "tuple" = some (isTup d) := by
  cases d with
  | none => exact (show kitB "NoneType" "tuple" = some false by decide +kernel)
  | bool b => exact (show kitB "bool" "tuple" = some false by decide +kernel)
  | int b => exact (show kitB "int" "tuple" = some false by decide +kernel)
  | str b => exact (show kitB "str" "tuple" = some false by decide +kernel)
  | list b => exact (show kitB "list" "tuple" = some false by decide +kernel)
  | tuple b => exact (show kitB "tuple" "tuple" = some true by decide +kernel)
  | dict b => exact (show kitB "dict" "tuple" = some false by decide +kernel)
theorem kit_seq {K : PySem.W.Frag} (d : PyData) : PySem.W.kitAny K (.type (tyN d)) [.type "list", .type "tuple"] = some (isSeq d) := by
  have kt : ∀ {t : String} {b1 b2 : Bool}, kitB t "list" = some b1 → kitB t "tuple" = some b2 → PySem.W.kitAny K (.type t) [.type "list", .type "tuple"] = some (b1 || b2) := fun {t b1 b2} h1 h2 =>
    kitAny_cons (b := b1) (kit_ty h1) (fun e => by subst e; exact kitAny_cons (b := b2) (kit_ty h2) (fun e => by subst e; exact kitAny_nil) fun e => by subst e; rfl) fun e => by subst e; rfl
  cases d with
  | none => exact kt (t := "NoneType") (b1 := false) (b2 := false) (by decide +kernel) (by decide +kernel)
  | bool b => exact kt (t := "bool") (b1 := false) (b2 := false) (by decide +kernel) (by decide +kernel)
  | int b => exact kt (t := "int") (b1 := false) (b2 := false) (by decide +kernel) (by decide +kernel)
  | str b => exact kt (t := "str") (b1 := false) (b2 := false) (by decide +kernel) (by decide +kernel)
  | list b => exact kt (t := "list") (b1 := true) (b2 := false) (by decide +kernel) (by decide +kernel)
  | tuple b => exact kt (t := "tuple") (b1 := false) (b2 := true) (by decide +kernel) (by decide +kernel)
  | dict b => exact kt (t := "dict") (b1 := false) (b2 := false) (by decide +kernel) (by decide +kernel)
/-- a list or a tuple of the call's own -/
def SeqH (H : Hp) (a : Addr) (xs : List V) : Prop := H a = some (.lst xs) ∨ H a = some (.tup xs)
theorem SeqH.same {H H' : Hp} {a : Addr} {xs : List V} (h : SeqH H a xs) (s : Same H H') : SeqH H' a xs := h.imp (s _ _) (s _ _)
theorem SeqH.len {K : PySem.W.Frag} {H : Hp} {a : Addr} {xs : List V} (h : SeqH H a xs) : SqL K H a xs ∨ SqT K H a xs := h.imp sq st
theorem Dv.seq {H : Hp} {v : V} {d : PyData} (h : Dv H v d) (hs : isSeq d = true) : ∃ a xs, v = .ref a ∧ SeqH H a xs ∧ DvA H xs (itemsD d) := by
  cases h with
  | lst e r => exact ⟨_, _, rfl, .inl e, r⟩
  | tup e r => exact ⟨_, _, rfl, .inr e, r⟩
  | _ => cases hs
theorem Dv.tupD {H : Hp} {v : V} {d : PyData} (h : Dv H v d) (hs : isTup d = true) : ∃ a xs, v = .ref a ∧ H a = some (.tup xs) ∧ DvA H xs (itemsD d) ∧ d = .tuple (itemsD d) := by
  cases h with
  | tup e r => exact ⟨_, _, rfl, e, r, rfl⟩
  | _ => cases hs
/-- what a walk over a list or a tuple asks -/
def SeqR (K : PySem.W.Frag) (a : Addr) (H : Hp) (R : It → Hp → Prop) : Prop := ((∃ xs, SqL K H a xs) ∧ R (Itl K a) H) ∨ ((∃ xs, SqT K H a xs) ∧ R (Itt K a) H)
def ZipR (K : PySem.W.Frag) (a b : Addr) (xs ys : List V) (H : Hp) (R : It → Hp → Prop) : Prop := (SqL K H a xs ∧ SqL K H b ys ∧ R (Itz K a b) H) ∨ (SqT K H a xs ∧ SqT K H b ys ∧ R (ItzT K a b) H)
/-- a walk of a list or a tuple of the call's own -/
theorem seq_walk {K : PySem.W.Frag} {H : Hp} {a : Addr} {xs : List V} {R : It → Hp → Prop} (h : SeqH H a xs)
    (k : ∀ (J : It) (Gd : Hp → Prop), Walk J xs.length Gd (YAt xs) → (∀ H', Same H H' → Gd H') → R J H) : SeqR K a H R := by
  rcases h with h | h
  · exact .inl ⟨⟨xs, sq h⟩, k _ _ walk_list fun H' s => sq (s _ _ h)⟩
  · exact .inr ⟨⟨xs, st h⟩, k _ _ walk_tup fun H' s => st (s _ _ h)⟩
theorem walk_zipT {K : PySem.W.Frag} {a b : Addr} {xs ys : List V} {n : Nat} (hn : n = min xs.length ys.length) : Walk (ItzT K a b) n (fun H => SqT K H a xs ∧ SqT K H b ys) (YPair (fun i => xs[i]?) (fun i => ys[i]?)) := by
  subst hn
  refine ⟨fun i _ hi q => ?_, fun _ q => ⟨xs, ys, q.1, q.2, by omega⟩, fun i H v H' _ q y => ?_⟩
  · have h1 : i < xs.length := by omega
    have h2 : i < ys.length := by omega
    exact ⟨xs, ys, xs[i], ys[i], q.1, q.2, by simp [h1], by simp [h2]⟩
  · obtain ⟨T, x, z, h1, h2, h3, h4, h5⟩ := y
    exact ⟨T, x, z, h1, h2, h3, h4 xs q.1, h5 ys q.2⟩
theorem zip_walkL {K : PySem.W.Frag} {H : Hp} {a b : Addr} {xs ys : List V} {R : It → Hp → Prop} (h1 : H a = some (.lst xs)) (h2 : H b = some (.lst ys))
    (k : ∀ (J : It) (Gd : Hp → Prop), Walk J (min xs.length ys.length) Gd (YPair (fun i => xs[i]?) (fun i => ys[i]?)) → (∀ H', Same H H' → Gd H') → R J H) : ZipR K a b xs ys H R :=
  .inl ⟨sq h1, sq h2, k _ _ (walk_zip rfl) fun H' s => ⟨sq (s _ _ h1), sq (s _ _ h2)⟩⟩
theorem zip_walkT {K : PySem.W.Frag} {H : Hp} {a b : Addr} {xs ys : List V} {R : It → Hp → Prop} (h1 : H a = some (.tup xs)) (h2 : H b = some (.tup ys))
    (k : ∀ (J : It) (Gd : Hp → Prop), Walk J (min xs.length ys.length) Gd (YPair (fun i => xs[i]?) (fun i => ys[i]?)) → (∀ H', Same H H' → Gd H') → R J H) : ZipR K a b xs ys H R :=
  .inr ⟨st h1, st h2, k _ _ (walk_zipT rfl) fun H' s => ⟨st (s _ _ h1), st (s _ _ h2)⟩⟩
structure Bj (mg : Str → Option Value) : Prop extends Bi mg where
  all : mg "all" = none
  zip : mg "zip" = none
section
variable {X : Cx} {K : PySem.W.Frag}
theorem sl_seqK (h : X.K = K) : SlR X (fun x lo hi H Q => rSlL K x lo hi H Q ∨ rSlA K x lo hi H Q) := by subst h; exact SlR.or sl_list sl_tupA
theorem call_isiK1 (h : X.K = K) : CallR X (.builtin "isinstance") (rIsi K) := by subst h; exact call_isi
theorem call_isiTK (h : X.K = K) : CallR X (.builtin "isinstance") (rIsiT K) := by subst h; exact call_isiT
theorem cr_allK (h : X.K = K) (hc : X.calm = true) : CallR X (.builtin "all") (rAll K) := by subst h; exact cr_all hc
theorem ix_seqK (h : X.K = K) : IxR X (rIx K) := by subst h; exact ix_seq
theorem pe_const {x : Str} {pos : Pos} {n : Int} (hm : ∃ t, X.mg x = some (.int n t)) (hg : Gl X x) (hd : (x == ("__debug__" : Str)) = false := by decide) : PE X (.Name x pos) (tC (.int n)) := by
  obtain ⟨t, hm⟩ := hm
  exact pe_glob hg hm ⟨t, rfl⟩ hd
/-- a walk over a list or a tuple -/
def iSeq (K : PySem.W.Frag) (tl : TE) : TI := fun σ H R => tl σ H fun x H1 => ∃ a, x = .ref a ∧ SeqR K a H1 R
theorem pi_seqK {tg l : Expr} {tl : TE} (h : X.K = K) (hl : PE X l tl) : PI X tg l (iSeq K tl) := by
  subst h
  refine ⟨fun pins s σ H R I h => ?_⟩
  refine thn (hl.run pins s σ H _ I h) fun v s1 ⟨x, H1, I1, r1, q1⟩ => ?_
  obtain ⟨a, e, q1⟩ := q1
  subst e
  cases r1
  have fr : ∀ b ∈ [s1.heap.objs.size], FpOk X pins H1 b := fun b hb => by
    have e : b = s1.heap.objs.size := by simpa using hb
    subst e
    exact I1.fpOk (Nat.le_refl _) (I1.hok.fresh (Nat.le_refl _))
  rcases q1 with ⟨⟨xs, hq⟩, q⟩ | ⟨⟨xs, hq⟩, q⟩
  · obtain ⟨its, rv, p, hz⟩ := I1.list hq
    refine wpAny_pyIter_list p.isList ?_
    exact ⟨s1.heap.objs.size, [s1.heap.objs.size], _, _, H1, rfl, I1.kept (t' := s1.toks) fun b o e => Heap.get?_push_of_some _ e, turn_list a _, ⟨_, Heap.get?_push_size _ rfl, rfl, rfl⟩, fr, q⟩
  · obtain ⟨its, rv, p, hz⟩ := I1.tuple hq
    refine wpAny_pyIter_tuple (show s1.heap.IsTuple a its.toArray from p) ?_
    exact ⟨s1.heap.objs.size, [s1.heap.objs.size], _, _, H1, rfl, I1.kept (t' := s1.toks) fun b o e => Heap.get?_push_of_some _ e, turn_tuple a _, ⟨_, Heap.get?_push_size _ rfl, rfl, rfl⟩, fr, q⟩
def iZipS (K : PySem.W.Frag) (ta : TA) : TI := fun σ H R => ta σ H fun vs H1 => ∃ a b xs ys, vs = [.ref a, .ref b] ∧ ZipR K a b xs ys H1 R
theorem pi_zipSK {e e2 : Expr} {ta : TA} {p pos tpos : Pos} {elts : List Expr} {kk : Nat} (h : X.K = K) (hg : Gl X "zip") (hm : X.mg "zip" = none) (ha : PA X [e, e2] ta)
    (hs : starEach [e, e2] X.env = (false, eval e X.env) :: starEach [e2] X.env := by rfl) (hpl : (backTo pos (starEach [e2] X.env)).any (·.1) = false := by rfl) :
    PI X (.Tuple elts kk tpos) (.Call (.Name "zip" p) [e, e2] [] pos) (iZipS K ta) := by subst h; exact pi_zipA hg hm ha hs hpl
end
end K1


set_option Elab.async false
set_option linter.all false
set_option maxRecDepth 100000
set_option maxHeartbeats 4000000
namespace K1
open PySem PySem.Spec PyProof.Rows L2 RZ
abbrev sIsInt : Stmt := topS 7
abbrev sIsNum : Stmt := topS 8
abbrev sIsNums : Stmt := topS 9
abbrev sIsAsc : Stmt := topS 10
abbrev nV : List Str := ["value"]
abbrev pV : List Str := ["value"]
theorem scIsInt : FnScope nV pV (defScope sIsInt) := ⟨rfl, rfl, rfl, by decide +kernel, rfl, by decide +kernel, by decide +kernel⟩
theorem scIsNum : FnScope nV pV (defScope sIsNum) := ⟨rfl, rfl, rfl, by decide +kernel, rfl, by decide +kernel, by decide +kernel⟩
abbrev nIsNums : List Str := ["value", "number"]
theorem scIsNums : FnScope nIsNums pV (defScope sIsNums) := ⟨rfl, rfl, rfl, by decide +kernel, rfl, by decide +kernel, by decide +kernel⟩
abbrev nIsAsc : List Str := ["numbers", "one", "other"]
abbrev pIsAsc : List Str := ["numbers"]
theorem scIsAsc : FnScope nIsAsc pIsAsc (defScope sIsAsc) := ⟨rfl, rfl, rfl, by decide +kernel, rfl, by decide +kernel, by decide +kernel⟩
/-- a def that tells a bool of one value, and makes nothing -/
def spB1 (f : PyData → Bool) : Sp := fun vs H Q _ => ∃ (x : V) (d : PyData), vs = [x] ∧ Dv H x d ∧ Q (.bl (f d)) H
def spIsNums : Sp := fun vs H Q _ => ∃ (x : V) (d : PyData), vs = [x] ∧ Dv H x d ∧ (itemsD d).length ≤ 1000 ∧ ∀ H', Same H H' → Q (.bl (isNums d)) H'
def spIsAsc : Sp := fun vs H Q _ => ∃ (a : Addr) (ns : List Int), vs = [.ref a] ∧ SeqH H a (ns.map V.int) ∧ ns.length ≤ 1000 ∧ ∀ H', Same H H' → Q (.bl (ascB ns)) H'
section
variable {P : Program} {w : World} {K : PySem.W.Frag} {mg : Str → Option Value} {base : Heap}
theorem ok_isInt {f : Addr} {fd : FuncData} (T : Bj mg) (F : Fun K "is_integer" "is_integer" sIsInt f fd) : FnOk P w K mg base CX0 1 f fd pV (spB1 isInt) := by
  refine F.ok scIsInt (fun vs H Q E h => ?_) (fun cdv A outer s H vs Q E hr h => ?_)
  · obtain ⟨x, d, rfl, _⟩ := h
    rfl
  · obtain ⟨x, d, rfl, hd, q⟩ := h
    obtain ⟨b1, b2, h1, h2, hb⟩ := kit_int d
    have ty := hd.ty (K := K)
    refine ⟨_, (pss_one (ps_ret (pe_and (pe_callB (call_isiK1 (K := K) rfl) (by rfl) T.isinstance PyProof.Rows.boot_isinstance (pa_cons (pv 0) (pa_cons (pe_bltn (v := .ty "int") rfl T.int PyProof.Rows.boot_int rfl) pa_nil))) (pe_one (pe_not (pe_callB (call_isiK1 (K := K) rfl) (by rfl) T.isinstance PyProof.Rows.boot_isinstance (pa_cons (pv 0) (pa_cons (pe_bltn (v := .ty "bool") rfl T.bool PyProof.Rows.boot_bool rfl) pa_nil)))))))), ?_⟩
    refine ⟨_, rfl, x, .ty "int", .type _, .type "int", b1, rfl, .ty _, ty, kit_ty h1, _, rfl, ?_⟩
    rw [← hb] at q
    cases b1 with
    | true => exact itbT rfl ⟨_, rfl, x, .ty "bool", .type _, .type "bool", b2, rfl, .ty _, ty, kit_ty h2, _, rfl, q⟩
    | false => exact itbF rfl q
theorem def_isInt (T : Bj mg) (a : At K mg "is_integer" sIsInt) : Def P w K mg base CX0 1 "is_integer" pV (spB1 isInt) :=
  a.def (fun _ _ _ _ _ _ us hl => match us, hl with | [_], _ => rfl) fun f fd F => ok_isInt T F
theorem ok_isNum {f : Addr} {fd : FuncData} (T : Bj mg) (D_is_integer : Def P w K mg base CX0 1 "is_integer" pV (spB1 isInt)) (F : Fun K "is_number" "is_number" sIsNum f fd) : FnOk P w K mg base CX0 2 f fd pV (spB1 isNum) := by
  refine F.ok scIsNum (fun vs H Q E h => ?_) (fun cdv A outer s H vs Q E hr h => ?_)
  · obtain ⟨x, d, rfl, _⟩ := h
    rfl
  · obtain ⟨x, d, rfl, hd, q⟩ := h
    refine ⟨_, (pss_one (ps_ret (pe_and (pe_def D_is_integer (hr.mono (by decide)) rfl pass0 (pa_cons (pv 0) pa_nil)) (pe_one (pe_cmpR op_ge (pv 0) pe_int (nomark _)))))), ?_⟩
    refine ⟨_, rfl, x, d, rfl, hd, _, rfl, ?_⟩
    cases hd with
    | int n => exact itbT rfl ⟨_, rfl, _, _, rfl, rfl, q⟩
    | _ => exact itbF rfl q
theorem def_isNum (T : Bj mg) (D_is_integer : Def P w K mg base CX0 1 "is_integer" pV (spB1 isInt)) (a : At K mg "is_number" sIsNum) : Def P w K mg base CX0 2 "is_number" pV (spB1 isNum) :=
  a.def (fun _ _ _ _ _ _ us hl => match us, hl with | [_], _ => rfl) fun f fd F => ok_isNum T D_is_integer F
theorem ok_isNums {f : Addr} {fd : FuncData} (T : Bj mg) (D_is_number : Def P w K mg base CX0 2 "is_number" pV (spB1 isNum)) (F : Fun K "is_numbers" "is_numbers" sIsNums f fd) : FnOk P w K mg base CX0 3 f fd pV spIsNums := by
  have nd := scIsNums.nd
  refine F.ok scIsNums (fun vs H Q E h => ?_) (fun cdv A outer s H vs Q E hr h => ?_)
  · obtain ⟨x, d, rfl, _⟩ := h
    rfl
  · obtain ⟨x, d, rfl, hd, hl, q⟩ := h
    have ty := hd.ty (K := K)
    refine ⟨_, (pss_one (ps_ret (pe_and (pe_callB (call_isiTK (K := K) rfl) (by rfl) T.isinstance PyProof.Rows.boot_isinstance (pa_cons (pv 0) (pa_cons (pe_tup (pa_cons (pe_bltn (v := .ty "list") rfl T.list PyProof.Rows.boot_list rfl) (pa_cons (pe_bltn (v := .ty "tuple") rfl T.tuple PyProof.Rows.boot_tuple rfl) pa_nil))) pa_nil))) (pe_one (pe_callB (cr_allK (K := K) rfl rfl) (by rfl) T.all PyProof.Rows.boot_all (pa_cons (pe_lc (own := [("number", 1)]) (g := gName 1) (tt := tYes) rfl nd (pi_seqK (K := K) rfl (pv 0)) (blkOk_by (own := [("number", 1)]) (N := nIsNums) (sc := defScope sIsNums) (by decide +kernel)) (fun _ _ _ _ _ => pg_name (i := 1) nd rfl (Or.inl rfl)) (fun _ _ _ _ _ => pts_nil) (fun _ _ _ _ _ => (pe_def D_is_number (hr.mono (by decide)) rfl pass0 (pa_cons (pv 1) pa_nil)))) pa_nil)))))), ?_⟩
    refine ⟨_, rfl, (by show 2 ≤ sizeLine; decide), fun tp ntp => ?_⟩
    have s1 := same_new (o := .tup [.ty "list", .ty "tuple"]) ntp
    refine ⟨x, tp, [.ty "list", .ty "tuple"], .type _, [.type "list", .type "tuple"], isSeq d, rfl, upd_same, .cons (.ty _) (.cons (.ty _) .nil), (hd.same s1).ty, kit_seq d, _, rfl, ?_⟩
    by_cases hs : isSeq d = true
    · refine itbT hs ?_
      obtain ⟨a, xs, rfl, hS, hA⟩ := hd.seq hs
      refine ⟨_, rfl, a, rfl, seq_walk (hS.same s1) fun J Gd wk hG D hD => ?_⟩
      generalize upd H tp (.tup [.ty "list", .ty "tuple"]) = H1 at s1 hD hG
      have hlen := hA.len
      refine lc_it wk (fun i H2 => Same H1 H2 ∧ H2 D = some (.lst ((((itemsD d).take i).map isNum).map V.bl))) ⟨same_new hD, upd_same⟩ (fun i H2 _ h => hG _ h.1) ?_ ?_
      · rintro i y H2 H3 hi ⟨s2, h2⟩ ⟨rfl, hy⟩
        obtain ⟨e, he, hde⟩ := (hA.same (s1.trans s2)).get hy
        refine ⟨rfl, tyes ⟨_, rfl, y, e, rfl, hde, _, h2, lt2 _ ?_, s2.mut hD, ?_⟩⟩
        · rw [List.length_map, List.length_map, List.length_take]; omega
        · rw [upd_same, take_more he]; simp
      · rintro H2 ⟨s2, h2⟩
        rw [hlen, List.take_length] at h2
        refine ⟨D, _, rfl, sq h2, ?_⟩
        have e : isNums d = ((itemsD d).map isNum).all id := by unfold isNums; rw [hs]; simp
        rw [← e]
        exact q _ (s1.trans s2)
    · have hs' : isSeq d = false := by simpa using hs
      rw [show isNums d = false by unfold isNums; rw [hs']; rfl] at q
      rw [hs']
      exact itbF rfl (q _ s1)
theorem def_isNums (T : Bj mg) (D_is_number : Def P w K mg base CX0 2 "is_number" pV (spB1 isNum)) (a : At K mg "is_numbers" sIsNums) : Def P w K mg base CX0 3 "is_numbers" pV spIsNums :=
  a.def (fun _ _ _ _ _ _ us hl => match us, hl with | [_], _ => rfl) fun f fd F => ok_isNums T D_is_number F
theorem cut1 (xs : List V) : cutV xs (some 1) none = xs.drop 1 := by
  unfold cutV
  rw [show (1 : Int) = ((1 : Nat) : Int) from rfl, HT.sIx_nat, HT.sIx_none]
  cases xs with
  | nil => rfl
  | cons x r =>
    rw [show min 1 (x :: r).length = 1 by rw [List.length_cons]; omega]
    exact List.take_of_length_le (by simp)
theorem ok_isAsc {f : Addr} {fd : FuncData} (T : Bj mg) (F : Fun K "is_ascending" "is_ascending" sIsAsc f fd) : FnOk P w K mg base CX0 1 f fd pIsAsc spIsAsc := by
  have nd := scIsAsc.nd
  refine F.ok scIsAsc (fun vs H Q E h => ?_) (fun cdv A outer s H vs Q E hr h => ?_)
  · obtain ⟨a, ns, rfl, _⟩ := h
    rfl
  · obtain ⟨a, ns, rfl, hS, hl, q⟩ := h
    refine ⟨_, (pss_one (ps_ret (pe_callB (cr_allK (K := K) rfl rfl) (by rfl) T.all PyProof.Rows.boot_all (pa_cons (pe_lc (own := [("one", 1), ("other", 2)]) (g := gTup K 2 (gCons (gName 1) (gCons (gName 2) gNil))) (tt := tYes) rfl nd (pi_zipSK (K := K) rfl (by rfl) T.zip (pa_cons (pv 0) (pa_cons (pe_slice (sl_seqK (K := K) rfl) (pv 0) (po_some pe_int) po_none) pa_nil))) (blkOk_by (own := [("one", 1), ("other", 2)]) (N := nIsAsc) (sc := defScope sIsAsc) (by decide +kernel)) (fun _ _ _ _ _ => pg_tup rfl (pgs_cons (pg_name (i := 1) nd rfl (Or.inl rfl)) (pgs_cons (pg_name (i := 2) nd rfl (Or.inl rfl)) pgs_nil))) (fun _ _ _ _ _ => pts_nil) (fun _ _ _ _ _ => (pe_cmpR op_lt (pv 1) (pv 2) (nomark _)))) pa_nil)))), ?_⟩
    have hz : (ns.zip (ns.drop 1)).length = min (ns.map V.int).length ((ns.map V.int).drop 1).length := by simp
    have hget : ∀ i < (ns.zip (ns.drop 1)).length, ∃ x y, (ns.zip (ns.drop 1))[i]? = some (x, y) ∧ (ns.map V.int)[i]? = some (.int x) ∧ ((ns.map V.int).drop 1)[i]? = some (.int y) := fun i hi => by
      have h1 : i < ns.length := by rw [List.length_zip] at hi; omega
      have h2 : i < (ns.drop 1).length := by rw [List.length_zip] at hi; omega
      refine ⟨ns[i], (ns.drop 1)[i], ?_, ?_, ?_⟩
      · rw [List.getElem?_eq_getElem hi, List.getElem_zip]
      · simp [h1]
      · rw [← List.map_drop, List.getElem?_map, List.getElem?_eq_getElem h2]; rfl
    have e0 : ascB ns = ((ns.zip (ns.drop 1)).map fun p => decide (p.1 < p.2)).all id := rfl
    have P0 : ∀ {H1 : Hp} {J : It} {Gd : Hp → Prop} {D : Addr}, Same H H1 → Walk J (min (ns.map V.int).length ((ns.map V.int).drop 1).length) Gd (YPair (fun i => (ns.map V.int)[i]?) (fun i => ((ns.map V.int).drop 1)[i]?)) → (∀ H', Same H1 H' → Gd H') → H1 D = none →
        ∀ (i : Nat) (y : V) (H2 H3 : Hp), i < min (ns.map V.int).length ((ns.map V.int).drop 1).length → (Same H1 H2 ∧ H2 D = some (.lst ((((ns.zip (ns.drop 1)).take i).map fun p => decide (p.1 < p.2)).map V.bl))) →
        YPair (fun i => (ns.map V.int)[i]?) (fun i => ((ns.map V.int).drop 1)[i]?) i H2 y H3 → ∃ (T : Addr) (u v : Int), y = .ref T ∧ H3 T = some (.tup [.int u, .int v]) ∧ H3 D = some (.lst ((((ns.zip (ns.drop 1)).take i).map fun p => decide (p.1 < p.2)).map V.bl)) ∧
          (Same H1 (upd H3 D (.lst ((((ns.zip (ns.drop 1)).take i).map fun p => decide (p.1 < p.2)).map V.bl ++ [V.bl (decide (u < v))]))) ∧ (upd H3 D (.lst ((((ns.zip (ns.drop 1)).take i).map fun p => decide (p.1 < p.2)).map V.bl ++ [V.bl (decide (u < v))]))) D =
            some (.lst ((((ns.zip (ns.drop 1)).take (i + 1)).map fun p => decide (p.1 < p.2)).map V.bl))) := by
      intro H1 J Gd D s1 wk hG hD i y H2 H3 hi ⟨s2, h2⟩ ⟨T, x', y', e1, nT, e2, e3, e4⟩
      obtain ⟨u, v, g1, g2, g3⟩ := hget i (by rw [hz]; exact hi)
      obtain rfl := (Option.some.inj (g2.symm.trans e3)).symm
      obtain rfl := (Option.some.inj (g3.symm.trans e4)).symm
      subst e1 e2
      have nTD : T ≠ D := (ne_of_none h2 nT).symm
      refine ⟨T, u, v, rfl, upd_same, by rw [upd_ne nTD.symm]; exact h2, (s2.new nT).mut hD, ?_⟩
      rw [upd_same, take_more g1]
      simp
    have len2 : ns.length ≤ 1000 := hl
    rcases hS with hS | hS
    · refine ⟨.ref a, rfl, .ref a, rfl, 1, rfl, .inl ⟨a, _, rfl, sq hS, fun b nb => ?_⟩⟩
      rw [cut1]
      have s1 := same_new (o := .lst ((ns.map V.int).drop 1)) nb
      refine ⟨a, b, _, _, rfl, zip_walkL (s1 _ _ hS) upd_same fun J Gd wk hG D hD => lc_it wk (fun i H2 => Same (upd H b (.lst ((ns.map V.int).drop 1))) H2 ∧ H2 D = some (.lst ((((ns.zip (ns.drop 1)).take i).map fun p => decide (p.1 < p.2)).map V.bl))) ⟨same_new hD, upd_same⟩ (fun i H2 _ h => hG _ h.1) ?_ ?_⟩
      · rintro i y H2 H3 hi h2 hy
        obtain ⟨T, u, v, rfl, hT, h3, fin⟩ := P0 s1 wk hG hD i y H2 H3 hi h2 hy
        refine ⟨T, _, rfl, st hT, rfl, _, _, rfl, _, _, rfl, rfl, rfl, tyes ⟨_, rfl, _, rfl, _, _, rfl, rfl, _, h3, lt2 _ ?_, fin⟩⟩
        rw [List.length_map, List.length_map, List.length_take, List.length_zip]; omega
      · rintro H2 ⟨s2, h2⟩
        rw [← hz, List.take_length] at h2
        exact ⟨D, _, rfl, sq h2, q _ (s1.trans s2)⟩
    · refine ⟨.ref a, rfl, .ref a, rfl, 1, rfl, .inr ⟨a, _, rfl, st hS, fun hw => ?_, fun _ b nb => ?_⟩⟩
      · have en : ns = [] := by
          have h1 := hw.1
          rw [show (1 : Int) = ((1 : Nat) : Int) from rfl, HT.sIx_nat, List.length_map] at h1
          exact List.eq_nil_of_length_eq_zero (by omega)
        subst en
        refine ⟨a, a, _, _, rfl, zip_walkT hS hS fun J Gd wk hG D hD => lc_it wk (fun i H2 => Same H H2 ∧ H2 D = some (.lst [])) ⟨same_new hD, upd_same⟩ (fun i H2 _ h => hG _ h.1) ?_ ?_⟩
        · rintro i y H2 H3 hi
          simp at hi
        · rintro H2 ⟨s2, h2⟩
          exact ⟨D, [], rfl, sq h2, q _ s2⟩
      · rw [cut1]
        have s1 := same_new (o := .tup ((ns.map V.int).drop 1)) nb
        refine ⟨a, b, _, _, rfl, zip_walkT (s1 _ _ hS) upd_same fun J Gd wk hG D hD => lc_it wk (fun i H2 => Same (upd H b (.tup ((ns.map V.int).drop 1))) H2 ∧ H2 D = some (.lst ((((ns.zip (ns.drop 1)).take i).map fun p => decide (p.1 < p.2)).map V.bl))) ⟨same_new hD, upd_same⟩ (fun i H2 _ h => hG _ h.1) ?_ ?_⟩
        · rintro i y H2 H3 hi h2 hy
          obtain ⟨T, u, v, rfl, hT, h3, fin⟩ := P0 s1 wk hG hD i y H2 H3 hi h2 hy
          refine ⟨T, _, rfl, st hT, rfl, _, _, rfl, _, _, rfl, rfl, rfl, tyes ⟨_, rfl, _, rfl, _, _, rfl, rfl, _, h3, lt2 _ ?_, fin⟩⟩
          rw [List.length_map, List.length_map, List.length_take, List.length_zip]; omega
        · rintro H2 ⟨s2, h2⟩
          rw [← hz, List.take_length] at h2
          exact ⟨D, _, rfl, sq h2, q _ (s1.trans s2)⟩
theorem def_isAsc (T : Bj mg) (a : At K mg "is_ascending" sIsAsc) : Def P w K mg base CX0 1 "is_ascending" pIsAsc spIsAsc :=
  a.def (fun _ _ _ _ _ _ us hl => match us, hl with | [_], _ => rfl) fun f fd F => ok_isAsc T F
end
end K1


set_option Elab.async false
set_option linter.all false
set_option maxRecDepth 100000
set_option maxHeartbeats 4000000
namespace K1
open PySem PySem.Spec PyProof.Rows L2 RZ
abbrev sCmd : Stmt := topS 29
abbrev nCmd : List Str := ["value", "most"]
abbrev pCmd : List Str := ["value", "most"]
theorem scCmd : FnScope nCmd pCmd (defScope sCmd) := ⟨rfl, rfl, rfl, by decide +kernel, rfl, by decide +kernel, by decide +kernel⟩
def mV : Option Int → V
  | none => .non
  | some n => .int n
def inMost : Option Int → Int → Bool
  | none, _ => true
  | some m, n => decide (n ≤ m)
def argOk (most : Option Int) : List PyData → Bool
  | [p] => isNum p && inMost most (dI p)
  | _ => false
def isCmd (most : Option Int) : PyData → Bool
  | .tuple (.str w :: r) => if w = "ask" then r.isEmpty else (decide (w = "look") || decide (w = "take")) && argOk most r
  | _ => false
theorem isCmd_eq (most : Option Int) (w : Str) (r : List PyData) : isCmd most (.tuple (.str w :: r)) = if w = "ask" then r.isEmpty else (decide (w = "look") || decide (w = "take")) && argOk most r := rfl
def spCmd : Sp := fun vs H Q _ => ∃ (x : V) (d : PyData) (most : Option Int), vs = [x, mV most] ∧ Dv H x d ∧ ∀ H', Same H H' → Q (.bl (isCmd most d)) H'
theorem in_two (w a b : Str) : inV (.str w) [.str a, .str b] = (decide (w = a) || decide (w = b)) := by
  have h : ∀ a : Str, eqV (.str a) (.str w) = decide (w = a) := fun a => by
    show (a == w) = _
    by_cases e : a = w
    · subst e; rw [beq_self_eq_true, decide_eq_true rfl]
    · rw [beq_eq_false_iff_ne.mpr e, decide_eq_false fun h => e h.symm]
  show (eqV (.str a) (.str w) || (eqV (.str b) (.str w) || false)) = _
  rw [h, h, Bool.or_false]
section
variable {P : Program} {w : World} {K : PySem.W.Frag} {mg : Str → Option Value} {base : Heap}
theorem ok_cmd {f : Addr} {fd : FuncData} (T : Bj mg) (D_is_number : Def P w K mg base CX0 2 "is_number" pV (spB1 isNum)) (F : Fun K "_is_command" "_is_command" sCmd f fd) : FnOk P w K mg base CX0 3 f fd pCmd spCmd := by
  have nd := scCmd.nd
  refine F.ok scCmd (fun vs H Q E h => ?_) (fun cdv A outer s H vs Q E hr h => ?_)
  · obtain ⟨x, d, most, rfl, _⟩ := h
    rfl
  · obtain ⟨x, d, most, rfl, hd, q⟩ := h
    refine ⟨_, (pss_cons (ps_if (PW.pt (pw_or (pt_not (pt_val (pe_callB (call_isiK1 (K := K) rfl) (by rfl) T.isinstance PyProof.Rows.boot_isinstance (pa_cons (pv 0) (pa_cons (pe_bltn (v := .ty "tuple") rfl T.tuple PyProof.Rows.boot_tuple rfl) pa_nil))))) (pw_or (pt_not (pt_truth (pv 0) (by intro _; rfl))) (pw_or1 (pt_not (pt_val (pe_callB (call_isiK1 (K := K) rfl) (by rfl) T.isinstance PyProof.Rows.boot_isinstance (pa_cons (pe_ix (ix_tupK (K := K) rfl) (pv 0) pe_int (fun _ _ => rfl)) (pa_cons (pe_bltn (v := .ty "str") rfl T.str PyProof.Rows.boot_str rfl) pa_nil)))))))))
  (pss_one (ps_ret pe_bl))
  pss_nil)
 (C8.pss_cut (ps_if (pt_cmpR op_eq (pe_ix (ix_tupK (K := K) rfl) (pv 0) pe_int (fun _ _ => rfl)) pe_str (nomark _))
  (pss_one (ps_ret (pe_cmpR op_eq (pe_callB (call_lenK (K := K) rfl) (by rfl) T.len PySem.boot_len (pa_cons (pv 0) pa_nil)) pe_int (nomark _))))
  pss_nil)
 (pss_cons (ps_if (PW.pt (pw_or (pt_cmpR (op_notIn_seqK (K := K) rfl) (pe_ix (ix_tupK (K := K) rfl) (pv 0) pe_int (fun _ _ => rfl)) (pe_tup (pa_cons pe_str (pa_cons pe_str pa_nil))) (by rfl)) (pw_or (pt_cmpR op_ne (pe_callB (call_lenK (K := K) rfl) (by rfl) T.len PySem.boot_len (pa_cons (pv 0) pa_nil)) pe_int (nomark _)) (pw_or1 (pt_not (pt_val (pe_def D_is_number (hr.mono (by decide)) rfl pass0 (pa_cons (pe_ix (ix_tupK (K := K) rfl) (pv 0) pe_int (fun _ _ => rfl)) pa_nil))))))))
  (pss_one (ps_ret pe_bl))
  pss_nil)
 (pss_one (ps_ret (pe_or (pe_cmpR op_isN (pv 1) pe_non (nomark _)) (pe_one (pe_cmpR op_le (pe_ix (ix_tupK (K := K) rfl) (pv 0) pe_int (fun _ _ => rfl)) (pv 1) (nomark _))))))))), ?_⟩
    refine ⟨_, rfl, x, .ty "tuple", .type _, .type "tuple", isTup d, rfl, .ty _, hd.ty, kit_ty (kit_tup d), _, rfl, ?_⟩
    by_cases hs : isTup d = true
    · obtain ⟨a, xs, rfl, ha, hA, ed⟩ := hd.tupD hs
      refine itbF (by rw [hs]; rfl) ⟨_, rfl, !xs.isEmpty, .inr (.inl ⟨xs, st ha, rfl⟩), ?_⟩
      generalize itemsD d = ds at hA ed
      subst ed
      cases hA with
      | nil => exact itbT rfl (itbT rfl (q _ (fun _ _ h => h)))
      | @cons x0 xr d0 dr h0 hA =>
        refine itbF rfl ⟨_, rfl, a, _, 0, x0, rfl, rfl, st ha, atI_nat (j := 0) rfl, x0, .ty "str", .type _, .type "str", isStr d0, rfl, .ty _, h0.ty, kit_ty (kit_str d0), _, rfl, ?_⟩
        have hlen := hA.len
        cases h0 with
        | str w =>
          refine itbF rfl ?_
          refine (⟨fun σ H1 => w ≠ "ask" ∧ σ = [some (.ref a), some (mV most)] ∧ H1 = H, ?_, ?_⟩)
          · refine ⟨_, rfl, a, _, 0, _, rfl, rfl, st ha, atI_nat (j := 0) rfl, rfl, _, rfl, ?_⟩
            by_cases hw : w = "ask"
            · refine itbT (decide_eq_true (by rw [hw])) ⟨_, rfl, a, _, rfl, .inr (st ha), rfl, ?_⟩
              have e : isCmd most (.tuple (.str w :: dr)) = decide (V.int ((V.str w :: xr).length : Int) = V.int 1) := by
                rw [isCmd_eq, if_pos hw]
                cases dr with
                | nil => rw [List.length_eq_zero_iff.mp hlen]; rfl
                | cons y t => 
                  rw [List.length_cons, hlen, List.length_cons]
                  refine (decide_eq_false fun h => ?_).symm
                  have := V.int.inj h
                  omega
              rw [← e]
              exact q _ (fun _ _ h => h)
            · exact itbF (decide_eq_false fun h => hw (V.str.inj h)) ⟨hw, rfl, rfl⟩
          · rintro σ H1 ⟨hw, rfl, rfl⟩
            refine ⟨_, rfl, a, _, 0, _, rfl, rfl, st ha, atI_nat (j := 0) rfl, (by show 2 ≤ sizeLine; decide), fun t nt => ?_⟩
            have s1 := same_new (o := .tup [.str "look", .str "take"]) nt
            refine ⟨t, _, rfl, .inr (st upd_same), rfl, rfl, _, rfl, ?_⟩
            rw [if_pos rfl, in_two]
            have e : isCmd most (.tuple (.str w :: dr)) = ((decide (w = "look") || decide (w = "take")) && argOk most dr) := by
              rw [isCmd_eq, if_neg hw]
            rw [e] at q
            by_cases hi : (decide (w = "look") || decide (w = "take")) = true
            · rw [hi] at q ⊢
              refine itbF rfl ⟨_, rfl, a, _, rfl, .inr (st (s1 _ _ ha)), rfl, _, rfl, ?_⟩
              cases hA with
              | nil => exact itbT rfl (itbT rfl (q _ s1))
              | @cons x1 xt d1 dt h1 hA =>
                cases hA with
                | cons h2 hA =>
                  refine itbT ?_ (itbT rfl (q _ s1))
                  rw [decide_eq_false (fun h => ?_)]
                  · rfl
                  · have := V.int.inj h
                    rw [List.length_cons, List.length_cons, List.length_cons] at this
                    omega
                | nil =>
                  refine itbF rfl ⟨_, rfl, a, _, 1, x1, rfl, rfl, st (s1 _ _ ha), atI_nat (j := 1) rfl, x1, d1, rfl, h1.same s1, _, rfl, ?_⟩
                  by_cases hn : isNum d1 = true
                  · cases h1 with
                    | int n =>
                      refine itbF (by rw [hn]; rfl) ?_
                      have q' : ∀ H', Same H1 H' → Q (.bl (inMost most n)) H' := fun H' s => by
                        have := q H' s
                        rwa [show (true && argOk most [PyData.int n]) = inMost most n by show (true && (isNum (.int n) && inMost most n)) = _; rw [hn]; rfl] at this
                      cases most with
                      | none => exact ⟨_, rfl, rfl, _, rfl, itbT rfl (q' _ s1)⟩
                      | some m => exact ⟨_, rfl, rfl, _, rfl, itbF rfl ⟨_, rfl, a, _, 1, .int n, rfl, rfl, st (s1 _ _ ha), atI_nat (j := 1) rfl, _, rfl, _, _, rfl, rfl, q' _ s1⟩⟩
                    | _ => cases hn
                  · have hn' : isNum d1 = false := by simpa using hn
                    refine itbT (by rw [hn']; rfl) ?_
                    have := q _ s1
                    rwa [show (true && argOk most [d1]) = false by show (true && (isNum d1 && inMost most (dI d1))) = _; rw [hn']; rfl] at this
            · have hi' : (decide (w = "look") || decide (w = "take")) = false := by simpa using hi
              rw [hi'] at q ⊢
              exact itbT rfl (itbT rfl (q _ s1))
        | _ => exact itbT rfl (q _ (fun _ _ h => h))
    · have hs' : isTup d = false := by simpa using hs
      refine itbT (by rw [hs']; rfl) (itbT rfl ?_)
      have e : isCmd most d = false := by
        cases d with
        | tuple => cases hs'
        | _ => rfl
      rw [← e]
      exact q _ (fun _ _ h => h)
theorem def_cmd (T : Bj mg) (D_is_number : Def P w K mg base CX0 2 "is_number" pV (spB1 isNum)) (a : At K mg "_is_command" sCmd) : Def P w K mg base CX0 3 "_is_command" pCmd spCmd :=
  a.def (fun _ _ _ _ _ _ us hl => match us, hl with | [_, _], _ => rfl) fun f fd F => ok_cmd T D_is_number F
end
end K1


set_option Elab.async false
set_option linter.all false
set_option maxRecDepth 100000
set_option maxHeartbeats 4000000
namespace K1
open PySem PySem.Spec PyProof.Rows L2 RZ
abbrev sCkNum : Stmt := topS 26
abbrev sCkRow : Stmt := topS 27
abbrev sCkOth : Stmt := topS 28
abbrev sCk : Stmt := topS 25
abbrev nCkNum : List Str := ["n"]
theorem scCkNum : FnScope nCkNum nCkNum (defScope sCkNum) := ⟨rfl, rfl, rfl, by decide +kernel, rfl, by decide +kernel, by decide +kernel⟩
abbrev nCkRow : List Str := ["row", "most", "at", "command"]
abbrev pCkRow : List Str := ["row", "most"]
theorem scCkRow : FnScope nCkRow pCkRow (defScope sCkRow) := ⟨rfl, rfl, rfl, by decide +kernel, rfl, by decide +kernel, by decide +kernel⟩
abbrev nCkOth : List Str := ["n", "loose", "k"]
theorem scCkOth : FnScope nCkOth nCkOth (defScope sCkOth) := ⟨rfl, rfl, rfl, by decide +kernel, rfl, by decide +kernel, by decide +kernel⟩
abbrev nCk : List Str := ["n", "row", "loose", "k"]
theorem scCk : FnScope nCk nCk (defScope sCk) := ⟨rfl, rfl, rfl, by decide +kernel, rfl, by decide +kernel, by decide +kernel⟩
structure Cs (mg : Str → Option Value) : Prop where
  MOST_LETTERS : ∃ t, mg "MOST_LETTERS" = some (.int 10 t)
  MOST_COMMANDS : ∃ t, mg "MOST_COMMANDS" = some (.int 8 t)
  MOST_OTHERS : ∃ t, mg "MOST_OTHERS" = some (.int 2 t)
/-- the errors at, value, why -/
def ErrAt (C : Addr) (fl : Str) (v : V) (H : Hp) (E : XK) : Prop := ∀ (d : Addr) (H' : Hp), Same H H' → H' d = some (.xd [(fl, v)]) → E (.ref C) (some d) H'
theorem ErrAt.same {C : Addr} {fl : Str} {v : V} {H H1 : Hp} {E : XK} (h : ErrAt C fl v H E) (s : Same H H1) : ErrAt C fl v H1 E := fun d H' s' e => h d H' (s.trans s') e
def numOk : PyData → Bool | .int n => decide (1 ≤ n) && decide (n ≤ 10) | _ => false
def firstBad (p : PyData → Bool) : List PyData → Int → Option Int
  | [], _ => none
  | d :: r, i => if p d then firstBad p r (i + 1) else some i
def rowErr (most : Option Int) (d : PyData) : Option Int := if isSeq d then (if 8 < (itemsD d).length then some (-1) else firstBad (isCmd most) (itemsD d) 0) else some (-1)
def intsD (d : PyData) : List Int := (itemsD d).map dI
def lastOk (nn : Int) (ns : List Int) : Bool := match ns.getLast? with | none => true | some z => decide (z ≤ nn)
def looseOk (nn : Int) (d : PyData) : Bool := isTup d && (isNums d && (ascB (intsD d) && lastOk nn (intsD d)))
def kOk : PyData → Bool | .int k => decide (0 ≤ k) && decide (k ≤ 2) | _ => false
def spCkNum (CN : Addr) : Sp := fun vs H Q E => ∃ (x : V) (d : PyData), vs = [x] ∧ Dv H x d ∧ (numOk d = true → Q .non H) ∧ (numOk d = false → ErrAt CN "value" x H E)
def spCkRow (CR : Addr) : Sp := fun vs H Q E => ∃ (x : V) (d : PyData) (most : Option Int), vs = [x, mV most] ∧ Dv H x d ∧ (rowErr most d = none → ∀ H', Same H H' → Q .non H') ∧ (∀ i, rowErr most d = some i → ErrAt CR "at" (.int i) H E)
def spCkOth (CV : Addr) : Sp := fun vs H Q E => ∃ (nn : Int) (xl xk : V) (dl dk : PyData), vs = [.int nn, xl, xk] ∧ Dv H xl dl ∧ Dv H xk dk ∧ (itemsD dl).length ≤ 1000 ∧
  (looseOk nn dl = true → kOk dk = true → ∀ H', Same H H' → Q .non H') ∧ (looseOk nn dl = false → ErrAt CV "why" (.str "loose") H E) ∧ (looseOk nn dl = true → kOk dk = false → ErrAt CV "why" (.str "k") H E)
theorem DvA.ints {H : Hp} : ∀ {vs : List V} {ds : List PyData}, DvA H vs ds → ds.all isNum = true → vs = (ds.map dI).map V.int
  | _, _, .nil, _ => rfl
  | _, _, .cons h r, n => by
    rw [List.all_cons, Bool.and_eq_true] at n
    rw [List.map_cons, List.map_cons, ← DvA.ints r n.2]
    cases h with
    | int i => rfl
    | _ => cases n.1
theorem firstBad_drop {p : PyData → Bool} {ds : List PyData} {i : Nat} {e : PyData} (h : ds[i]? = some e) : firstBad p (ds.drop i) i = if p e then firstBad p (ds.drop (i + 1)) ((i + 1 : Nat) : Int) else some (i : Int) := by
  have hi := lt_of_get h
  have e1 : ds.drop i = e :: ds.drop (i + 1) := by
    rw [List.drop_eq_getElem_cons hi]
    congr 1
    rw [List.getElem?_eq_getElem hi] at h
    exact Option.some.inj h
  rw [e1]; rfl
section
variable {P : Program} {w : World} {K : PySem.W.Frag} {mg : Str → Option Value} {base : Heap} {CN CR CV fN fR fV : Addr}
theorem ok_ckNum {f : Addr} {fd : FuncData} (T : Bj mg) (C : Cs mg) (TN : PySem.Tide.TideTxt P K mg "BadNumber" CN fN "value") (D_is_number : Def P w K mg base CX0 2 "is_number" pV (spB1 isNum)) (F : Fun K "_check_number" "_check_number" sCkNum f fd) :
    FnOk P w K mg base (L2.CX P w) 3 f fd nCkNum (spCkNum CN) := by
  have nd := scCkNum.nd
  refine F.okX scCkNum (fun vs H Q E h => ?_) (fun cdv A outer s H vs Q E hr h => ?_)
  · obtain ⟨x, d, rfl, _⟩ := h
    rfl
  · obtain ⟨x, d, rfl, hd, q1, q2⟩ := h
    refine ⟨_, (pss_one (ps_if (PW.pt (pw_or (pt_not (pt_val (pe_def D_is_number (hr.mono (by decide)) rfl pass0 (pa_cons (pv 0) pa_nil)))) (pw_or1 (pt_cmpR op_gt (pv 0) (pe_const C.MOST_LETTERS rfl) (nomark _)))))
  (pss_one (ps_raiseTide rfl TN hr (takes_of rfl rfl rfl rfl) (pa_cons (pv 0) pa_nil)))
  pss_nil)), ?_⟩
    refine ⟨_, rfl, x, d, rfl, hd, _, rfl, ?_⟩
    by_cases hn : isNum d = true
    · refine itbF (by rw [hn]; rfl) ?_
      cases hd with
      | int n =>
        refine ⟨_, rfl, _, _, rfl, rfl, _, rfl, ?_⟩
        have hn' : decide (1 ≤ n) = true := hn
        by_cases c : 10 < n
        · refine itbT (decide_eq_true c) ⟨_, rfl, _, rfl, fun d nd => ?_⟩
          exact q2 (by show (decide (1 ≤ n) && decide (n ≤ 10)) = false; rw [decide_eq_false (show ¬ n ≤ 10 by omega), Bool.and_false]) d _ (same_new nd) upd_same
        · exact itbF (decide_eq_false c) (q1 (by show (decide (1 ≤ n) && decide (n ≤ 10)) = true; rw [hn', decide_eq_true (show n ≤ 10 by omega)]; rfl))
      | _ => cases hn
    · have hn' : isNum d = false := by simpa using hn
      refine itbT (by rw [hn']; rfl) (itbT rfl ⟨_, rfl, _, rfl, fun dd nd => ?_⟩)
      refine q2 ?_ dd _ (same_new nd) upd_same
      cases d with
      | int n => 
        show (decide (1 ≤ n) && decide (n ≤ 10)) = false
        rw [show decide (1 ≤ n) = false from hn']; rfl
      | _ => rfl
theorem def_ckNum (T : Bj mg) (C : Cs mg) (TN : PySem.Tide.TideTxt P K mg "BadNumber" CN fN "value") (D_is_number : Def P w K mg base CX0 2 "is_number" pV (spB1 isNum)) (a : At K mg "_check_number" sCkNum) :
    Def P w K mg base (L2.CX P w) 3 "_check_number" nCkNum (spCkNum CN) :=
  a.def (fun _ _ _ _ _ _ us hl => match us, hl with | [_], _ => rfl) fun f fd F => ok_ckNum T C TN D_is_number F
theorem ok_ckRow {f : Addr} {fd : FuncData} (T : Bj mg) (C : Cs mg) (TR : PySem.Tide.TideTxt P K mg "BadRow" CR fR "at") (D_is_command : Def P w K mg base CX0 3 "_is_command" pCmd spCmd) (F : Fun K "_check_row" "_check_row" sCkRow f fd) :
    FnOk P w K mg base (L2.CX P w) 4 f fd pCkRow (spCkRow CR) := by
  have nd := scCkRow.nd
  refine F.okX scCkRow (fun vs H Q E h => ?_) (fun cdv A outer s H vs Q E hr h => ?_)
  · obtain ⟨x, d, most, rfl, _⟩ := h
    rfl
  · obtain ⟨x, d, most, rfl, hd, q1, q2⟩ := h
    refine ⟨_, (pss_cons (ps_if (PW.pt (pw_or (pt_not (pt_val (pe_callB (call_isiTK (K := K) rfl) (by rfl) T.isinstance PyProof.Rows.boot_isinstance (pa_cons (pv 0) (pa_cons (pe_tup (pa_cons (pe_bltn (v := .ty "list") rfl T.list PyProof.Rows.boot_list rfl) (pa_cons (pe_bltn (v := .ty "tuple") rfl T.tuple PyProof.Rows.boot_tuple rfl) pa_nil))) pa_nil))))) (pw_or1 (pt_cmpR op_gt (pe_callB (call_lenK (K := K) rfl) (by rfl) T.len PySem.boot_len (pa_cons (pv 0) pa_nil)) (pe_const C.MOST_COMMANDS rfl) (nomark _)))))
  (pss_one (ps_raiseTide rfl TR hr (takes_of rfl rfl rfl rfl) (pa_cons (pe_un un_neg pe_int) pa_nil)))
  pss_nil)
 (pss_one (ps_for (passes_of rfl) rfl (pi_enumSK (K := K) rfl (by rfl) T.enumerate (pa_cons (pv 0) pa_nil)) (pg_tup rfl (pgs_cons (pg_name (i := 2) nd rfl (Or.inl rfl)) (pgs_cons (pg_name (i := 3) nd rfl (Or.inl rfl)) pgs_nil)))
  (pss_one (ps_if (pt_not (pt_val (pe_def D_is_command (hr.mono (by decide)) rfl pass0 (pa_cons (pv 3) (pa_cons (pv 1) pa_nil)))))
  (pss_one (ps_raiseTide rfl TR hr (takes_of rfl rfl rfl rfl) (pa_cons (pv 2) pa_nil)))
  pss_nil))))), ?_⟩
    refine ⟨_, rfl, (by show 2 ≤ sizeLine; decide), fun tp ntp => ?_⟩
    have s1 := same_new (o := .tup [.ty "list", .ty "tuple"]) ntp
    refine ⟨x, tp, [.ty "list", .ty "tuple"], .type _, [.type "list", .type "tuple"], isSeq d, rfl, upd_same, .cons (.ty _) (.cons (.ty _) .nil), (hd.same s1).ty, kit_seq d, _, rfl, ?_⟩
    by_cases hs : isSeq d = true
    · obtain ⟨a, xs, rfl, hS, hA⟩ := hd.seq hs
      have hlen := hA.len
      refine itbF (by rw [hs]; rfl) ⟨_, rfl, a, xs, rfl, (hS.same s1).len, _, _, rfl, rfl, _, rfl, ?_⟩
      unfold rowErr at q1 q2
      rw [if_pos hs] at q1 q2
      by_cases hl : 8 < (itemsD d).length
      · rw [if_pos hl] at q2
        refine itbT (decide_eq_true (by omega)) ⟨1, rfl, _, rfl, fun dd nd => ?_⟩
        exact q2 (-1) rfl dd _ (s1.new nd) upd_same
      · rw [if_neg hl] at q1 q2
        refine itbF (decide_eq_false (by omega)) ?_
        generalize itemsD d = ds at *
        refine ⟨_, rfl, a, xs, rfl, for_enumS (H0 := H) hS.len (fun i σ H1 => ∃ (v2 v3 : Option V), σ = [some (.ref a), some (mV most), v2, v3] ∧ Same H H1 ∧ firstBad (isCmd most) ds 0 = firstBad (isCmd most) (ds.drop i) (i : Nat)) ?_ ?_ ?_ ?_⟩
        · exact ⟨none, none, rfl, s1, rfl⟩
        · rintro i σ' H' ⟨v2, v3, rfl, s1, _⟩
          exact s1
        · rintro i y σ H1 Tt hy ⟨v2, v3, rfl, s2, hb⟩ nT
          refine ⟨Tt, [.int (i : Nat), y], rfl, st upd_same, rfl, .int (i : Nat), [y], rfl, y, [], rfl, rfl, ?_⟩
          have s3 := s2.new nT (o := .tup [.int (i : Nat), y])
          obtain ⟨e, he, hde⟩ := (hA.same s3).get hy
          rw [firstBad_drop he] at hb
          refine ⟨_, rfl, _, rfl, y, e, most, rfl, hde, fun H4 s4 => ⟨_, rfl, ?_⟩⟩
          by_cases hc : isCmd most e = true
          · rw [if_pos hc] at hb
            exact itbF (by rw [hc]; rfl) ⟨_, _, rfl, s3.trans s4, hb⟩
          · rw [if_neg hc] at hb
            have hc' : isCmd most e = false := by simpa using hc
            refine itbT (by rw [hc']; rfl) ⟨_, rfl, _, rfl, fun dd nd => ?_⟩
            exact q2 _ hb dd _ ((s3.trans s4).new nd) upd_same
        · rintro σ H1 ⟨v2, v3, rfl, s2, hb⟩
          rw [hlen, List.drop_length] at hb
          exact q1 hb H1 s2
    · have hs' : isSeq d = false := by simpa using hs
      refine itbT (by rw [hs']; rfl) (itbT rfl ⟨1, rfl, _, rfl, fun dd nd => ?_⟩)
      refine q2 (-1) ?_ dd _ (s1.new nd) upd_same
      unfold rowErr
      rw [hs', if_neg Bool.false_ne_true]
theorem def_ckRow (T : Bj mg) (C : Cs mg) (TR : PySem.Tide.TideTxt P K mg "BadRow" CR fR "at") (D_is_command : Def P w K mg base CX0 3 "_is_command" pCmd spCmd) (a : At K mg "_check_row" sCkRow) :
    Def P w K mg base (L2.CX P w) 4 "_check_row" pCkRow (spCkRow CR) :=
  a.def (fun _ _ _ _ _ _ us hl => match us, hl with | [_, _], _ => rfl) fun f fd F => ok_ckRow T C TR D_is_command F
end
end K1


set_option Elab.async false
set_option linter.all false
set_option maxRecDepth 100000
set_option maxHeartbeats 4000000
namespace K1
open PySem PySem.Spec PyProof.Rows L2 RZ
section
variable {P : Program} {w : World} {K : PySem.W.Frag} {mg : Str → Option Value} {base : Heap} {CN CR CV fN fR fV : Addr}
theorem ok_ckOth {f : Addr} {fd : FuncData} (T : Bj mg) (C : Cs mg) (TV : PySem.Tide.TideTxt P K mg "BadValue" CV fV "why") (D_is_integer : Def P w K mg base CX0 1 "is_integer" pV (spB1 isInt)) (D_is_numbers : Def P w K mg base CX0 3 "is_numbers" pV spIsNums)
    (D_is_ascending : Def P w K mg base CX0 1 "is_ascending" pIsAsc spIsAsc) (F : Fun K "_check_others" "_check_others" sCkOth f fd) :
    FnOk P w K mg base (L2.CX P w) 4 f fd nCkOth (spCkOth CV) := by
  have nd := scCkOth.nd
  refine F.okX scCkOth (fun vs H Q E h => ?_) (fun cdv A outer s H vs Q E hr h => ?_)
  · obtain ⟨nn, xl, xk, dl, dk, rfl, _⟩ := h
    rfl
  · obtain ⟨nn, xl, xk, dl, dk, rfl, hl, hk, hlen, q, el, ek⟩ := h
    refine ⟨_, (C8.pss_cut (ps_if (PW.pt (pw_or (pt_not (pt_val (pe_callB (call_isiK1 (K := K) rfl) (by rfl) T.isinstance PyProof.Rows.boot_isinstance (pa_cons (pv 1) (pa_cons (pe_bltn (v := .ty "tuple") rfl T.tuple PyProof.Rows.boot_tuple rfl) pa_nil))))) (pw_or (pt_not (pt_val (pe_def D_is_numbers (hr.mono (by decide)) rfl pass0 (pa_cons (pv 1) pa_nil)))) (pw_or (pt_not (pt_val (pe_def D_is_ascending (hr.mono (by decide)) rfl pass0 (pa_cons (pv 1) pa_nil)))) (pw_or1 (PW.pt (pw_and (pt_truth (pv 1) (by intro _; rfl)) (pw_and1 (pt_cmpR op_gt (pe_ix (ix_tupK (K := K) rfl) (pv 1) (pe_un un_neg pe_int) (fun _ _ => rfl)) (pv 0) (nomark _))))))))))
  (pss_one (ps_raiseTide rfl TV hr (takes_of rfl rfl rfl rfl) (pa_cons pe_str pa_nil)))
  pss_nil)
 (pss_one (ps_if (PW.pt (pw_or (pt_not (pt_val (pe_def D_is_integer (hr.mono (by decide)) rfl pass0 (pa_cons (pv 2) pa_nil)))) (pw_or1 (pt_not (pt_chain op_le op_le pe_int (pv 2) (pe_const C.MOST_OTHERS rfl))))))
  (pss_one (ps_raiseTide rfl TV hr (takes_of rfl rfl rfl rfl) (pa_cons pe_str pa_nil)))
  pss_nil))), ?_⟩
    refine ⟨fun σ H1 => looseOk nn dl = true ∧ σ = [some (.int nn), some xl, some xk] ∧ Same H H1, ?_, ?_⟩
    · have bad : ∀ H1, Same H H1 → looseOk nn dl = false → ∀ dd, H1 dd = none → E (.ref CV) (some dd) (upd H1 dd (.xd [("why", .str "loose")])) := fun H1 s1 hb dd nd => el hb dd _ (s1.new nd) upd_same
      refine ⟨_, rfl, xl, .ty "tuple", .type _, .type "tuple", isTup dl, rfl, .ty _, hl.ty, kit_ty (kit_tup dl), _, rfl, ?_⟩
      by_cases h1 : isTup dl = true
      · obtain ⟨a, xs, rfl, ha, hA, ed⟩ := hl.tupD h1
        refine itbF (by rw [h1]; rfl) ⟨_, rfl, _, dl, rfl, hl, hlen, fun H1 s1 => ⟨_, rfl, ?_⟩⟩
        by_cases h2 : isNums dl = true
        · have hall : (itemsD dl).all isNum = true := by
            unfold isNums at h2
            exact ((Bool.and_eq_true _ _).mp h2).2
          have exs : xs = (intsD dl).map V.int := hA.ints hall
          have hln : (intsD dl).length ≤ 1000 := by unfold intsD; rw [List.length_map]; exact hlen
          refine itbF (by rw [h2]; rfl) ⟨_, rfl, a, intsD dl, rfl, .inr (by rw [← exs]; exact s1 _ _ ha), hln, fun H2 s2 => ⟨_, rfl, ?_⟩⟩
          have s12 := s1.trans s2
          have ha2 := s12 _ _ ha
          rw [exs] at ha2
          have lo : looseOk nn dl = (ascB (intsD dl) && lastOk nn (intsD dl)) := by unfold looseOk; rw [h1, h2]; rfl
          by_cases h3 : ascB (intsD dl) = true
          · refine itbF (by rw [h3]; rfl) ⟨_, rfl, !((intsD dl).map V.int).isEmpty, .inr (.inl ⟨_, st ha2, rfl⟩), ?_⟩
            rw [h3, Bool.true_and] at lo
            generalize intsD dl = ns at lo ha2
            rcases List.eq_nil_or_concat ns with rfl | ⟨r, z, rfl⟩
            · exact itbF rfl (itbF rfl ⟨lo, rfl, s12⟩)
            · rw [List.concat_eq_append] at lo ha2 ⊢
              have hlast : lastOk nn (r ++ [z]) = decide (z ≤ nn) := by unfold lastOk; rw [List.getLast?_concat]
              refine itbT (by simp) ⟨_, rfl, 1, rfl, a, _, -1, .int z, rfl, rfl, st ha2, ?_, _, rfl, _, _, rfl, rfl, _, rfl, ?_⟩
              · rw [List.map_append]; exact atI_last _ _
              · by_cases c : nn < z
                · refine itbT (decide_eq_true c) ⟨_, rfl, ?_⟩
                  refine bad H2 s12 ?_
                  rw [lo, hlast]; exact decide_eq_false (by omega)
                · refine itbF (decide_eq_false c) ?_
                  refine ⟨?_, rfl, s12⟩
                  rw [lo, hlast]; exact decide_eq_true (by omega)
          · have h3' : ascB (intsD dl) = false := by simpa using h3
            refine itbT (by rw [h3']; rfl) (itbT rfl ?_)
            exact ⟨_, rfl, bad H2 s12 (by rw [lo, h3']; rfl)⟩
        · have h2' : isNums dl = false := by simpa using h2
          refine itbT (by rw [h2']; rfl) (itbT rfl ?_)
          exact ⟨_, rfl, bad H1 s1 (by unfold looseOk; rw [h1, h2']; rfl)⟩
      · have h1' : isTup dl = false := by simpa using h1
        refine itbT (by rw [h1']; rfl) (itbT rfl ?_)
        exact ⟨_, rfl, bad H (fun _ _ h => h) (by unfold looseOk; rw [h1']; rfl)⟩
    · rintro σ H1 ⟨lo, rfl, s1⟩
      refine ⟨_, rfl, xk, dk, rfl, hk.same s1, _, rfl, ?_⟩
      by_cases hi : isInt dk = true
      · cases hk with
        | int k =>
          refine itbF rfl ⟨_, rfl, _, _, rfl, rfl, _, rfl, ?_⟩
          by_cases c : 0 ≤ k
          · refine itbT (decide_eq_true c) ⟨_, _, rfl, rfl, _, rfl, ?_⟩
            by_cases c2 : k ≤ 2
            · exact itbF (by rw [decide_eq_true c2]; rfl) (q lo (by show (decide (0 ≤ k) && decide (k ≤ 2)) = true; rw [decide_eq_true c, decide_eq_true c2]; rfl) H1 s1)
            · refine itbT (by rw [decide_eq_false c2]; rfl) ?_
              exact ⟨_, rfl, fun dd nd => ek lo (by show (decide (0 ≤ k) && decide (k ≤ 2)) = false; rw [decide_eq_false c2, Bool.and_false]) dd _ (s1.new nd) upd_same⟩
          · refine itbF (decide_eq_false c) ⟨_, rfl, itbT rfl ?_⟩
            exact ⟨_, rfl, fun dd nd => ek lo (by show (decide (0 ≤ k) && decide (k ≤ 2)) = false; rw [decide_eq_false c]; rfl) dd _ (s1.new nd) upd_same⟩
        | _ => cases hi
      · have hi' : isInt dk = false := by simpa using hi
        refine itbT (by rw [hi']; rfl) (itbT rfl ?_)
        refine ⟨_, rfl, fun dd nd => ek lo ?_ dd _ (s1.new nd) upd_same⟩
        cases dk with
        | int k => cases hi'
        | _ => rfl
theorem def_ckOth (T : Bj mg) (C : Cs mg) (TV : PySem.Tide.TideTxt P K mg "BadValue" CV fV "why") (D_is_integer : Def P w K mg base CX0 1 "is_integer" pV (spB1 isInt)) (D_is_numbers : Def P w K mg base CX0 3 "is_numbers" pV spIsNums)
    (D_is_ascending : Def P w K mg base CX0 1 "is_ascending" pIsAsc spIsAsc) (a : At K mg "_check_others" sCkOth) :
    Def P w K mg base (L2.CX P w) 4 "_check_others" nCkOth (spCkOth CV) :=
  a.def (fun _ _ _ _ _ _ us hl => match us, hl with | [_, _, _], _ => rfl) fun f fd F => ok_ckOth T C TV D_is_integer D_is_numbers D_is_ascending F
end
end K1


set_option Elab.async false
set_option linter.all false
set_option maxRecDepth 100000
set_option maxHeartbeats 4000000
namespace K1
open PySem PySem.Spec PyProof.Rows L2 RZ
/-- what is never reached -/
theorem pss_any {X : Cx} {b : List Stmt} : PSs X b (fun _ _ _ => False) := ⟨fun _ _ _ _ _ _ h => h.elim⟩
inductive Er
  | num
  | row (i : Int)
  | why (s : Str)
  deriving DecidableEq
def chkO (nn : Int) (dl dk : PyData) : Option Er := if looseOk nn dl = true then (if kOk dk = true then none else some (.why "k")) else some (.why "loose")
def chkR (most : Option Int) (dr : PyData) : Option Er := (rowErr most dr).map .row
def chkN (dn : PyData) : Option Er := if numOk dn = true then none else some .num
def chk (most : Option Int) (dn dr dl dk : PyData) : Option Er := (chkN dn).or ((chkR most dr).or (chkO (dI dn) dl dk))
def ErE (CN CR CV : Addr) (xn : V) (H : Hp) (E : XK) : Er → Prop
  | .num => ErrAt CN "value" xn H E
  | .row i => ErrAt CR "at" (.int i) H E
  | .why s => ErrAt CV "why" (.str s) H E
theorem ErE.same {CN CR CV : Addr} {xn : V} {H H' : Hp} {E : XK} {e : Er} (h : ErE CN CR CV xn H E e) (s : Same H H') : ErE CN CR CV xn H' E e := by
  cases e with
  | num => exact ErrAt.same h s
  | row i => exact ErrAt.same h s
  | why z => exact ErrAt.same h s
theorem numV {H : Hp} {x : V} {d : PyData} (h : Dv H x d) (n : numOk d = true) : x = .int (dI d) := by
  cases h with
  | int i => rfl
  | _ => cases n
/-- the four values of a check -/
structure Four (H : Hp) (xn xr xl xk : V) (dn dr dl dk : PyData) : Prop where
  n : Dv H xn dn
  r : Dv H xr dr
  l : Dv H xl dl
  k : Dv H xk dk
  len : (itemsD dl).length ≤ 1000
def spCk (CN CR CV : Addr) : Sp := fun vs H Q E => ∃ (xn xr xl xk : V) (dn dr dl dk : PyData), vs = [xn, xr, xl, xk] ∧ Four H xn xr xl xk dn dr dl dk ∧
  (chk none dn dr dl dk = none → ∀ H', Same H H' → Q .non H') ∧ (∀ e, chk none dn dr dl dk = some e → ErE CN CR CV xn H E e)
def spBad (CN CR CV : Addr) : Sp := fun vs H Q E => ∃ (xn xr xl xk : V) (dn dr dl dk : PyData) (e : Er), vs = [xn, xr, xl, xk] ∧ Four H xn xr xl xk dn dr dl dk ∧ chk none dn dr dl dk = some e ∧ ErE CN CR CV xn H E e
def spBadBy (CN CR CV : Addr) : Sp := fun vs H Q E => ∃ (xn xr xl xk : V) (dn dr dl dk : PyData) (e : Er), vs = [xn, xr, xl, xk] ∧ Four H xn xr xl xk dn dr dl dk ∧ chk (some (dI dn)) dn dr dl dk = some e ∧ ErE CN CR CV xn H E e
def spBadT (CN CR CV : Addr) : Sp := fun vs H Q E => ∃ (xn xr : V) (dn dr : PyData) (e : Er), vs = [xn, xr] ∧ Dv H xn dn ∧ Dv H xr dr ∧ (chkN dn).or (chkR (some (dI dn)) dr) = some e ∧ ErE CN CR CV xn H E e
abbrev sFinds : Stmt := topS 16
abbrev sDoubt : Stmt := topS 17
abbrev sTurned : Stmt := topS 18
abbrev sBy : Stmt := topS 19
abbrev nFinds : List Str := ["n", "row", "loose", "k", "tables", "fate", "at", "thing", "_", "table"]
theorem scFinds : FnScope nFinds nCk (defScope sFinds) := ⟨rfl, rfl, rfl, by decide +kernel, rfl, by decide +kernel, by decide +kernel⟩
abbrev nDoubt : List Str := ["n", "row", "loose", "k", "alone", "fates", "rows", "at", "thing", "fate", "found"]
theorem scDoubt : FnScope nDoubt nCk (defScope sDoubt) := ⟨rfl, rfl, rfl, by decide +kernel, rfl, by decide +kernel, by decide +kernel⟩
abbrev nTurned : List Str := ["n", "wishes"]
theorem scTurned : FnScope nTurned nTurned (defScope sTurned) := ⟨rfl, rfl, rfl, by decide +kernel, rfl, by decide +kernel, by decide +kernel⟩
abbrev nBy : List Str := ["n", "wishes", "loose", "k", "row", "named", "at", "command", "fate", "thing"]
abbrev pBy : List Str := ["n", "wishes", "loose", "k"]
theorem scBy : FnScope nBy pBy (defScope sBy) := ⟨rfl, rfl, rfl, by decide +kernel, rfl, by decide +kernel, by decide +kernel⟩
section
variable {P : Program} {w : World} {K : PySem.W.Frag} {mg : Str → Option Value} {base : Heap} {CN CR CV : Addr}
theorem ok_ck {f : Addr} {fd : FuncData} (D_check_number : Def P w K mg base (L2.CX P w) 3 "_check_number" nCkNum (spCkNum CN)) (D_check_row : Def P w K mg base (L2.CX P w) 4 "_check_row" pCkRow (spCkRow CR))
    (D_check_others : Def P w K mg base (L2.CX P w) 4 "_check_others" nCkOth (spCkOth CV)) (F : Fun K "_check" "_check" sCk f fd) : FnOk P w K mg base (L2.CX P w) 5 f fd nCk (spCk CN CR CV) := by
  have nd := scCk.nd
  refine F.okX scCk (fun vs H Q E h => ?_) (fun cdv A outer s H vs Q E hr h => ?_)
  · obtain ⟨xn, xr, xl, xk, dn, dr, dl, dk, rfl, _⟩ := h
    rfl
  · obtain ⟨xn, xr, xl, xk, dn, dr, dl, dk, rfl, h4, q, qe⟩ := h
    refine ⟨_, (pss_cons (ps_expr (pe_def D_check_number (hr.mono (by decide)) rfl (passes_call (takes_of rfl rfl rfl rfl) (fun _ _ _ _ h => h)) (pa_cons (pv 0) pa_nil)))
 (pss_cons (ps_expr (pe_def D_check_row (hr.mono (by decide)) rfl (passes_call (takes_of rfl rfl rfl rfl) (fun _ _ _ _ h => h)) (pa_cons (pv 1) (pa_cons pe_non pa_nil))))
 (pss_one (ps_expr (pe_def D_check_others (hr.mono (by decide)) rfl (passes_call (takes_of rfl rfl rfl rfl) (fun _ _ _ _ h => h)) (pa_cons (pv 0) (pa_cons (pv 2) (pa_cons (pv 3) pa_nil)))))))), ?_⟩
    refine ⟨_, rfl, xn, dn, rfl, h4.n, fun hn => ?_, fun hn => qe .num (by unfold chk chkN; rw [hn, if_neg Bool.false_ne_true]; rfl)⟩
    have e1 : chkN dn = none := by unfold chkN; rw [if_pos hn]
    unfold chk at q qe
    rw [e1, Option.none_or] at q qe
    refine ⟨_, rfl, xr, dr, none, rfl, h4.r, fun hr0 H1 s1 => ?_, fun i hr0 => qe (.row i) (by unfold chkR; rw [hr0]; rfl)⟩
    have e2 : chkR none dr = none := by unfold chkR; rw [hr0]; rfl
    rw [e2, Option.none_or] at q qe
    have ex := numV h4.n hn
    subst ex
    refine ⟨_, rfl, _, rfl, _, rfl, dI dn, xl, xk, dl, dk, rfl, h4.l.same s1, h4.k.same s1, h4.len, fun a b H2 s2 => ?_, fun a => ?_, fun a b => ?_⟩
    · exact q (by unfold chkO; rw [if_pos a, if_pos b]) H2 (s1.trans s2)
    · exact ErrAt.same (qe (.why "loose") (by unfold chkO; rw [a, if_neg Bool.false_ne_true])) s1
    · exact ErrAt.same (qe (.why "k") (by unfold chkO; rw [if_pos a, b, if_neg Bool.false_ne_true])) s1
theorem ok_finds {f : Addr} {fd : FuncData} (D_check : Def P w K mg base (L2.CX P w) 5 "_check" nCk (spCk CN CR CV)) (F : Fun K "finds" "finds" sFinds f fd) : FnOk P w K mg base (L2.CX P w) 6 f fd nCk (spBad CN CR CV) := by
  refine F.okX scFinds (fun vs H Q E h => ?_) (fun cdv A outer s H vs Q E hr h => ?_)
  · obtain ⟨xn, xr, xl, xk, dn, dr, dl, dk, e, rfl, _⟩ := h
    rfl
  · obtain ⟨xn, xr, xl, xk, dn, dr, dl, dk, e, rfl, h4, he, qe⟩ := h
    refine ⟨_, pss_cons (ps_expr (pe_def D_check (hr.mono (by decide)) rfl (passes_call (takes_of rfl rfl rfl rfl) (fun _ _ _ _ h => h)) (pa_cons (pv 0) (pa_cons (pv 1) (pa_cons (pv 2) (pa_cons (pv 3) pa_nil)))))) pss_any, ?_⟩
    exact ⟨_, rfl, _, rfl, _, rfl, _, rfl, xn, xr, xl, xk, dn, dr, dl, dk, rfl, h4, (fun z => by rw [he] at z; cases z), fun e' z => by rw [he] at z; cases z; exact qe⟩
theorem ok_doubt {f : Addr} {fd : FuncData} (D_check : Def P w K mg base (L2.CX P w) 5 "_check" nCk (spCk CN CR CV)) (F : Fun K "doubt" "doubt" sDoubt f fd) : FnOk P w K mg base (L2.CX P w) 6 f fd nCk (spBad CN CR CV) := by
  refine F.okX scDoubt (fun vs H Q E h => ?_) (fun cdv A outer s H vs Q E hr h => ?_)
  · obtain ⟨xn, xr, xl, xk, dn, dr, dl, dk, e, rfl, _⟩ := h
    rfl
  · obtain ⟨xn, xr, xl, xk, dn, dr, dl, dk, e, rfl, h4, he, qe⟩ := h
    refine ⟨_, pss_cons (ps_expr (pe_def D_check (hr.mono (by decide)) rfl (passes_call (takes_of rfl rfl rfl rfl) (fun _ _ _ _ h => h)) (pa_cons (pv 0) (pa_cons (pv 1) (pa_cons (pv 2) (pa_cons (pv 3) pa_nil)))))) pss_any, ?_⟩
    exact ⟨_, rfl, _, rfl, _, rfl, _, rfl, xn, xr, xl, xk, dn, dr, dl, dk, rfl, h4, (fun z => by rw [he] at z; cases z), fun e' z => by rw [he] at z; cases z; exact qe⟩
theorem ok_turned {f : Addr} {fd : FuncData} (D_check_number : Def P w K mg base (L2.CX P w) 3 "_check_number" nCkNum (spCkNum CN)) (D_check_row : Def P w K mg base (L2.CX P w) 4 "_check_row" pCkRow (spCkRow CR))
    (F : Fun K "turned" "turned" sTurned f fd) : FnOk P w K mg base (L2.CX P w) 5 f fd nTurned (spBadT CN CR CV) := by
  refine F.okX scTurned (fun vs H Q E h => ?_) (fun cdv A outer s H vs Q E hr h => ?_)
  · obtain ⟨xn, xr, dn, dr, e, rfl, _⟩ := h
    rfl
  · obtain ⟨xn, xr, dn, dr, e, rfl, h1, h2, he, qe⟩ := h
    refine ⟨_, pss_cons (ps_expr (pe_def D_check_number (hr.mono (by decide)) rfl (passes_call (takes_of rfl rfl rfl rfl) (fun _ _ _ _ h => h)) (pa_cons (pv 0) pa_nil)))
 (pss_cons (ps_expr (pe_def D_check_row (hr.mono (by decide)) rfl (passes_call (takes_of rfl rfl rfl rfl) (fun _ _ _ _ h => h)) (pa_cons (pv 1) (pa_cons (pv 0) pa_nil)))) pss_any), ?_⟩
    refine ⟨_, rfl, xn, dn, rfl, h1, fun hn => ?_, fun hn => ?_⟩
    · have e1 : chkN dn = none := by unfold chkN; rw [if_pos hn]
      rw [e1, Option.none_or] at he
      have ex := numV h1 hn
      subst ex
      refine ⟨_, rfl, _, rfl, xr, dr, some (dI dn), rfl, h2, fun hr0 => ?_, fun i hr0 => ?_⟩
      · unfold chkR at he; rw [hr0] at he; cases he
      · unfold chkR at he; rw [hr0] at he; cases he; exact qe
    · have e1 : chkN dn = some .num := by unfold chkN; rw [hn, if_neg Bool.false_ne_true]
      rw [e1] at he
      cases he
      exact qe
theorem ok_by {f : Addr} {fd : FuncData} (D_check_number : Def P w K mg base (L2.CX P w) 3 "_check_number" nCkNum (spCkNum CN)) (D_check_row : Def P w K mg base (L2.CX P w) 4 "_check_row" pCkRow (spCkRow CR))
    (D_check_others : Def P w K mg base (L2.CX P w) 4 "_check_others" nCkOth (spCkOth CV)) (F : Fun K "by_number" "by_number" sBy f fd) : FnOk P w K mg base (L2.CX P w) 5 f fd pBy (spBadBy CN CR CV) := by
  refine F.okX scBy (fun vs H Q E h => ?_) (fun cdv A outer s H vs Q E hr h => ?_)
  · obtain ⟨xn, xr, xl, xk, dn, dr, dl, dk, e, rfl, _⟩ := h
    rfl
  · obtain ⟨xn, xr, xl, xk, dn, dr, dl, dk, e, rfl, h4, he, qe⟩ := h
    refine ⟨_, pss_cons (ps_expr (pe_def D_check_number (hr.mono (by decide)) rfl (passes_call (takes_of rfl rfl rfl rfl) (fun _ _ _ _ h => h)) (pa_cons (pv 0) pa_nil)))
 (pss_cons (ps_expr (pe_def D_check_row (hr.mono (by decide)) rfl (passes_call (takes_of rfl rfl rfl rfl) (fun _ _ _ _ h => h)) (pa_cons (pv 1) (pa_cons (pv 0) pa_nil))))
 (pss_cons (ps_expr (pe_def D_check_others (hr.mono (by decide)) rfl (passes_call (takes_of rfl rfl rfl rfl) (fun _ _ _ _ h => h)) (pa_cons (pv 0) (pa_cons (pv 2) (pa_cons (pv 3) pa_nil))))) pss_any)), ?_⟩
    unfold chk at he
    refine ⟨_, rfl, xn, dn, rfl, h4.n, fun hn => ?_, fun hn => ?_⟩
    · have e1 : chkN dn = none := by unfold chkN; rw [if_pos hn]
      rw [e1, Option.none_or] at he
      have ex := numV h4.n hn
      subst ex
      refine ⟨_, rfl, _, rfl, xr, dr, some (dI dn), rfl, h4.r, fun hr0 H1 s1 => ?_, fun i hr0 => ?_⟩
      · have e2 : chkR (some (dI dn)) dr = none := by unfold chkR; rw [hr0]; rfl
        rw [e2, Option.none_or] at he
        refine ⟨_, rfl, _, rfl, _, rfl, dI dn, xl, xk, dl, dk, rfl, h4.l.same s1, h4.k.same s1, h4.len, fun a b H2 s2 => ?_, fun a => ?_, fun a b => ?_⟩
        · unfold chkO at he; rw [if_pos a, if_pos b] at he; cases he
        · unfold chkO at he; rw [a, if_neg Bool.false_ne_true] at he; cases he; exact ErrAt.same qe s1
        · unfold chkO at he; rw [if_pos a, b, if_neg Bool.false_ne_true] at he; cases he; exact ErrAt.same qe s1
      · unfold chkR at he; rw [hr0] at he; cases he; exact qe
    · have e1 : chkN dn = some .num := by unfold chkN; rw [hn, if_neg Bool.false_ne_true]
      rw [e1] at he
      cases he
      exact qe
end
end K1


set_option Elab.async false
set_option linter.all false
set_option maxRecDepth 100000
set_option maxHeartbeats 4000000
namespace K1
open PySem PySem.Spec PyProof.Rows L2 RZ
abbrev sFate : Stmt := topS 30
abbrev nFate : List Str := ["value", "row", "loose", "k", "pair"]
abbrev pFate : List Str := ["value", "row", "loose", "k"]
theorem scFate : FnScope nFate pFate (defScope sFate) := ⟨rfl, rfl, rfl, by decide +kernel, rfl, by decide +kernel, by decide +kernel⟩
abbrev sPlayed : Stmt := topS 15
abbrev nPlayed : List Str := ["n", "row", "loose", "k", "fate"]
theorem scPlayed : FnScope nPlayed nPlayed (defScope sPlayed) := ⟨rfl, rfl, rfl, by decide +kernel, rfl, by decide +kernel, by decide +kernel⟩
def pairOk (rl : Nat) (ls : List Int) : PyData → Bool
  | .tuple [.int a, .int b] => decide (a ∈ ls) && (decide (0 ≤ b) && decide (b < (rl : Int)))
  | _ => false
def fst (p : PyData) : Int := dI ((itemsD p).headD .none)
def fateOk (rl : Nat) (ls : List Int) (k : Int) : PyData → Bool
  | .tuple ps => decide ((ps.length : Int) ≤ k) && (ps.all (pairOk rl ls) && ascB (ps.map fst))
  | _ => false
def spFate : Sp := fun vs H Q _ => ∃ (xf : V) (df : PyData) (a b : Addr) (rs : List V) (ls : List Int) (k : Int), vs = [xf, .ref a, .ref b, .int k] ∧ Dv H xf df ∧ SeqH H a rs ∧ H b = some (.tup (ls.map V.int)) ∧ k ≤ 1000 ∧ ∀ H', Same H H' → Q (.bl (fateOk rs.length ls k df)) H'
theorem DvA.two {H : Hp} {vs : List V} {ds : List PyData} (h : DvA H vs ds) (hl : ds.length = 2) : ∃ u v d e, vs = [u, v] ∧ ds = [d, e] ∧ Dv H u d ∧ Dv H v e := by
  cases h with
  | nil => cases hl
  | cons h1 h =>
    cases h with
    | nil => cases hl
    | cons h2 h =>
      cases h with
      | nil => exact ⟨_, _, _, _, rfl, rfl, h1, h2⟩
      | cons _ _ => simp at hl
section
variable {P : Program} {w : World} {K : PySem.W.Frag} {mg : Str → Option Value} {base : Heap} {CN CR CV fV : Addr}
theorem ok_fate {f : Addr} {fd : FuncData} (T : Bj mg) (D_is_integer : Def P w K mg base CX0 1 "is_integer" pV (spB1 isInt)) (D_is_ascending : Def P w K mg base CX0 1 "is_ascending" pIsAsc spIsAsc)
    (F : Fun K "_is_fate" "_is_fate" sFate f fd) : FnOk P w K mg base CX0 2 f fd pFate spFate := by
  have nd := scFate.nd
  refine F.ok scFate (fun vs H Q E h => ?_) (fun cdv A outer s H vs Q E hr h => ?_)
  · obtain ⟨xf, df, a, b, rs, ls, k, rfl, _⟩ := h
    rfl
  · obtain ⟨xf, df, a, b, rs, ls, k, rfl, hf, hrow, hb, hk, q⟩ := h
    refine ⟨_, (pss_cons (ps_if (PW.pt (pw_or (pt_not (pt_val (pe_callB (call_isiK1 (K := K) rfl) (by rfl) T.isinstance PyProof.Rows.boot_isinstance (pa_cons (pv 0) (pa_cons (pe_bltn (v := .ty "tuple") rfl T.tuple PyProof.Rows.boot_tuple rfl) pa_nil))))) (pw_or1 (pt_cmpR op_gt (pe_callB (call_lenK (K := K) rfl) (by rfl) T.len PySem.boot_len (pa_cons (pv 0) pa_nil)) (pv 3) (nomark _)))))
  (pss_one (ps_ret pe_bl))
  pss_nil)
 (C8.pss_cut (ps_for PassesOwn.never rfl (pi_tupK (K := K) rfl (pv 0)) (pg_name (i := 4) nd rfl (Or.inl rfl))
  (pss_cons (ps_if (PW.pt (pw_or (pt_not (pt_val (pe_callB (call_isiK1 (K := K) rfl) (by rfl) T.isinstance PyProof.Rows.boot_isinstance (pa_cons (pv 4) (pa_cons (pe_bltn (v := .ty "tuple") rfl T.tuple PyProof.Rows.boot_tuple rfl) pa_nil))))) (pw_or (pt_cmpR op_ne (pe_callB (call_lenK (K := K) rfl) (by rfl) T.len PySem.boot_len (pa_cons (pv 4) pa_nil)) pe_int (nomark _)) (pw_or (pt_not (pt_val (pe_def D_is_integer (hr.mono (by decide)) rfl pass0 (pa_cons (pe_ix (ix_tupK (K := K) rfl) (pv 4) pe_int (fun _ _ => rfl)) pa_nil)))) (pw_or1 (pt_not (pt_val (pe_def D_is_integer (hr.mono (by decide)) rfl pass0 (pa_cons (pe_ix (ix_tupK (K := K) rfl) (pv 4) pe_int (fun _ _ => rfl)) pa_nil)))))))))
  (pss_one (ps_ret pe_bl))
  pss_nil)
 (pss_one (ps_if (PW.pt (pw_or (pt_cmpR (op_notIn_seqK (K := K) rfl) (pe_ix (ix_tupK (K := K) rfl) (pv 4) pe_int (fun _ _ => rfl)) (pv 2) (by rfl)) (pw_or1 (pt_not (pt_chain op_le op_lt pe_int (pe_ix (ix_tupK (K := K) rfl) (pv 4) pe_int (fun _ _ => rfl)) (pe_callB (call_lenK (K := K) rfl) (by rfl) T.len PySem.boot_len (pa_cons (pv 1) pa_nil)))))))
  (pss_one (ps_ret pe_bl))
  pss_nil))))
 (pss_one (ps_ret (pe_def D_is_ascending (hr.mono (by decide)) rfl pass0 (pa_cons (pe_lc (own := [("pair", 4)]) (g := gName 4) (tt := tYes) rfl nd (pi_tupK (K := K) rfl (pv 0)) (blkOk_by (own := [("pair", 4)]) (N := nFate) (sc := defScope sFate) (by decide +kernel)) (fun _ _ _ _ _ => pg_name (i := 4) nd rfl (Or.inl rfl)) (fun _ _ _ _ _ => pts_nil) (fun _ _ _ _ _ => (pe_ix (ix_tupK (K := K) rfl) (pv 4) pe_int (fun _ _ => rfl)))) pa_nil)))))), ?_⟩
    refine ⟨_, rfl, xf, .ty "tuple", .type _, .type "tuple", isTup df, rfl, .ty _, hf.ty, kit_ty (kit_tup df), _, rfl, ?_⟩
    by_cases hs : isTup df = true
    · obtain ⟨c, xs, rfl, hc, hA, ed⟩ := hf.tupD hs
      have hlen := hA.len
      generalize itemsD df = ds at hA ed hlen
      subst ed
      refine itbF rfl ⟨_, rfl, c, xs, rfl, .inr (st hc), _, rfl, _, _, rfl, rfl, _, rfl, ?_⟩
      have fe : fateOk rs.length ls k (.tuple ds) = (decide ((ds.length : Int) ≤ k) && (ds.all (pairOk rs.length ls) && ascB (ds.map fst))) := rfl
      by_cases hl : k < xs.length
      · refine itbT (decide_eq_true hl) ?_
        rw [fe, decide_eq_false (show ¬ (ds.length : Int) ≤ k by omega), Bool.false_and] at q
        exact q _ (fun _ _ h => h)
      · rw [fe, decide_eq_true (show (ds.length : Int) ≤ k by omega), Bool.true_and] at q
        refine itbF (decide_eq_false hl) ?_
        refine ⟨fun σ H1 => ∃ v4, σ = [some (.ref c), some (.ref a), some (.ref b), some (.int k), v4] ∧ Same H H1 ∧ ds.all (pairOk rs.length ls) = true, ?_, ?_⟩
        · refine ⟨_, rfl, c, rfl, ⟨_, st hc⟩, for_tup (K := K) (a := c) (xs := xs) (fun i σ H1 => ∃ v4, σ = [some (.ref c), some (.ref a), some (.ref b), some (.int k), v4] ∧ Same H H1 ∧ (ds.take i).all (pairOk rs.length ls) = true) ?_ ?_ ?_ ?_⟩
          · exact ⟨none, rfl, fun _ _ h => h, rfl⟩
          · rintro i σ H1 _ ⟨v4, rfl, s1, _⟩
            exact st (s1 _ _ hc)
          · rintro i y σ H1 hy ⟨v4, rfl, s1, hall⟩
            obtain ⟨e, he, hde⟩ := (hA.same s1).get hy
            have out : pairOk rs.length ls e = false → ∀ H', Same H1 H' → Q (.bl false) H' := fun hp H' s' => by
              have hm := List.mem_of_getElem? he
              have : ds.all (pairOk rs.length ls) = false := by
                rw [List.all_eq_false]
                exact ⟨e, hm, by rw [hp]; decide⟩
              rw [this, Bool.false_and] at q
              exact q _ (s1.trans s')
            have out0 : pairOk rs.length ls e = false → Q (.bl false) H1 := fun hp => out hp _ (fun _ _ h => h)
            refine ⟨_, rfl, y, .ty "tuple", .type _, .type "tuple", isTup e, rfl, .ty _, hde.ty, kit_ty (kit_tup e), _, rfl, ?_⟩
            by_cases ht : isTup e = true
            · obtain ⟨t, us, rfl, htt, hU, ee⟩ := hde.tupD ht
              have hul := hU.len
              generalize itemsD e = es at hU ee hul
              subst ee
              refine itbF rfl ⟨_, rfl, t, us, rfl, .inr (st htt), rfl, _, rfl, ?_⟩
              by_cases h2 : us.length = 2
              · refine itbF (by rw [h2]; rfl) ?_
                obtain ⟨u, v, d1, d2, rfl, rfl, hu, hv⟩ := hU.two (by omega)
                refine ⟨_, rfl, t, _, 0, u, rfl, rfl, st htt, atI_nat (j := 0) rfl, u, d1, rfl, hu, _, rfl, ?_⟩
                by_cases i1 : isInt d1 = true
                · refine itbF (by rw [i1]; rfl) ⟨_, rfl, t, _, 1, v, rfl, rfl, st htt, atI_nat (j := 1) rfl, v, d2, rfl, hv, _, rfl, ?_⟩
                  by_cases i2 : isInt d2 = true
                  · cases hu with
                    | int n1 =>
                      cases hv with
                      | int n2 =>
                        have pe : pairOk rs.length ls (.tuple [.int n1, .int n2]) = (decide (n1 ∈ ls) && (decide (0 ≤ n2) && decide (n2 < (rs.length : Int)))) := rfl
                        refine itbF rfl ?_
                        refine ⟨_, rfl, t, _, 0, _, rfl, rfl, st htt, atI_nat (j := 0) rfl, _, rfl, b, _, rfl, .inr (st (s1 _ _ hb)), rfl, flat_ints _, _, rfl, ?_⟩
                        rw [if_pos rfl, inV_ints]
                        by_cases m1 : n1 ∈ ls
                        · rw [decide_eq_true m1] at pe ⊢
                          refine itbF rfl ⟨_, rfl, t, _, 1, _, rfl, rfl, st htt, atI_nat (j := 1) rfl, _, _, rfl, rfl, _, rfl, ?_⟩
                          by_cases m2 : 0 ≤ n2
                          · refine itbT (decide_eq_true m2) ⟨_, rfl, a, rs, rfl, (hrow.same s1).len, _, _, rfl, rfl, _, rfl, ?_⟩
                            by_cases m3 : n2 < (rs.length : Int)
                            · refine itbF (by rw [decide_eq_true m3]; rfl) ?_
                              refine ⟨_, rfl, s1, ?_⟩
                              rw [take_more he, List.all_append, hall]
                              show (true && (pairOk rs.length ls (.tuple [.int n1, .int n2]) && true)) = true
                              rw [pe, decide_eq_true m2, decide_eq_true m3]; rfl
                            · exact itbT (by rw [decide_eq_false m3]; rfl) (out0 (by rw [pe, decide_eq_false m3, Bool.and_false, Bool.and_false]))
                          · exact itbF (decide_eq_false m2) ⟨_, rfl, itbT rfl (out0 (by rw [pe, decide_eq_false m2]; rfl))⟩
                        · rw [decide_eq_false m1] at pe ⊢
                          exact itbT rfl (itbT rfl (out0 pe))
                      | _ => cases i2
                    | _ => cases i1
                  · have i2' : isInt d2 = false := by simpa using i2
                    refine itbT (by rw [i2']; rfl) (out0 ?_)
                    cases d2 with
                    | int => cases i2'
                    | _ => cases d1 <;> rfl
                · have i1' : isInt d1 = false := by simpa using i1
                  refine itbT (by rw [i1']; rfl) (itbT rfl (out0 ?_))
                  cases d1 with
                  | int => cases i1'
                  | _ => rfl
              · refine itbT (by rw [decide_eq_false (fun h => h2 (by have := V.int.inj h; omega))]; rfl) (itbT rfl (out0 ?_))
                match es, hul with
                | [], _ => rfl
                | [x], _ => cases x <;> rfl
                | [_, _], hul => exact absurd hul h2
                | x :: y :: _ :: _, _ => cases x <;> cases y <;> rfl
            · have ht' : isTup e = false := by simpa using ht
              refine itbT (by rw [ht']; rfl) (itbT rfl (out0 ?_))
              cases e with
              | tuple => cases ht'
              | _ => rfl
          · rintro σ H1 ⟨v4, rfl, s1, hall⟩
            rw [hlen, List.take_length] at hall
            exact ⟨v4, rfl, s1, hall⟩
        · rintro σ H1 ⟨v4, rfl, s1, hall⟩
          rw [hall, Bool.true_and] at q
          refine ⟨_, rfl, c, rfl, ⟨_, st (s1 _ _ hc)⟩, fun D hD => ?_⟩
          refine lc_tup (K := K) (a := c) (xs := xs) (fun i H2 => Same H1 H2 ∧ H2 D = some (.lst (((ds.take i).map fst).map V.int))) ⟨same_new hD, upd_same⟩ (fun i H2 _ h => st (h.1 _ _ (s1 _ _ hc))) ?_ ?_
          · rintro i y H2 hy ⟨s2, h2⟩
            obtain ⟨e, he, hde⟩ := (hA.same (s1.trans s2)).get hy
            have hp := List.all_eq_true.mp hall e (List.mem_of_getElem? he)
            obtain ⟨n1, n2, rfl⟩ : ∃ n1 n2, e = .tuple [.int n1, .int n2] := by
              unfold pairOk at hp
              split at hp
              · exact ⟨_, _, rfl⟩
              · cases hp
            cases hde with
            | tup htt hU =>
              obtain ⟨u, v, d1, d2, rfl, e2, hu, hv⟩ := hU.two rfl
              cases e2
              cases hu
              refine ⟨rfl, tyes ⟨_, rfl, _, _, 0, _, rfl, rfl, st htt, atI_nat (j := 0) rfl, _, h2, lt2 _ ?_, s2.mut hD, ?_⟩⟩
              · rw [List.length_map, List.length_map, List.length_take]; omega
              · rw [upd_same, take_more he]
                simp [fst, itemsD, dI]
          · rintro H2 ⟨s2, h2⟩
            rw [hlen, List.take_length] at h2
            exact ⟨D, ds.map fst, rfl, .inl h2, by rw [List.length_map]; omega, fun H3 s3 => q _ ((s1.trans s2).trans s3)⟩
    · have hs' : isTup df = false := by simpa using hs
      refine itbT (by rw [hs']; rfl) (itbT rfl ?_)
      have e : fateOk rs.length ls k df = false := by
        cases df with
        | tuple => cases hs'
        | _ => rfl
      rw [e] at q
      exact q _ (fun _ _ h => h)
end
end K1


set_option Elab.async false
set_option linter.all false
set_option maxRecDepth 100000
set_option maxHeartbeats 4000000
namespace K1
open PySem PySem.Spec PyProof.Rows L2 RZ
def spPlayed (CN CR CV : Addr) : Sp := fun vs H Q E => ∃ (xn xr xl xk xf : V) (dn dr dl dk df : PyData), vs = [xn, xr, xl, xk, xf] ∧ Four H xn xr xl xk dn dr dl dk ∧ Dv H xf df ∧
  ((∃ e, chk none dn dr dl dk = some e ∧ ErE CN CR CV xn H E e) ∨ (chk none dn dr dl dk = none ∧ fateOk (itemsD dr).length (intsD dl) (dI dk) df = false ∧ ErrAt CV "why" (.str "fate") H E))
theorem chk_none {dn dr dl dk : PyData} (h : chk none dn dr dl dk = none) : isSeq dr = true ∧ isTup dl = true ∧ (itemsD dl).all isNum = true ∧ (∃ k, dk = .int k ∧ k ≤ 2) := by
  unfold chk at h
  cases e1 : chkN dn with
  | some z => rw [e1] at h; cases h
  | none =>
    rw [e1, Option.none_or] at h
    cases e2 : chkR none dr with
    | some z => rw [e2] at h; cases h
    | none =>
      rw [e2, Option.none_or] at h
      have hs : isSeq dr = true := by
        cases hh : isSeq dr with
        | true => rfl
        | false =>
          unfold chkR rowErr at e2
          rw [hh, if_neg Bool.false_ne_true] at e2
          cases e2
      unfold chkO at h
      by_cases a : looseOk (dI dn) dl = true
      · rw [if_pos a] at h
        by_cases b : kOk dk = true
        · unfold looseOk at a
          rw [Bool.and_eq_true, Bool.and_eq_true] at a
          obtain ⟨a1, a2, a3⟩ := a
          unfold isNums at a2
          rw [Bool.and_eq_true] at a2
          refine ⟨hs, a1, a2.2, ?_⟩
          cases dk with
          | int k =>
            have b' : (decide (0 ≤ k) && decide (k ≤ 2)) = true := b
            rw [Bool.and_eq_true] at b'
            exact ⟨k, rfl, of_decide_eq_true b'.2⟩
          | _ => cases b
        · rw [if_neg b] at h; cases h
      · rw [if_neg a] at h; cases h
section
variable {P : Program} {w : World} {K : PySem.W.Frag} {mg : Str → Option Value} {base : Heap} {CN CR CV fV : Addr}
theorem ok_played {f : Addr} {fd : FuncData} (TV : PySem.Tide.TideTxt P K mg "BadValue" CV fV "why") (D_check : Def P w K mg base (L2.CX P w) 5 "_check" nCk (spCk CN CR CV)) (D_is_fate : Def P w K mg base CX0 2 "_is_fate" pFate spFate)
    (F : Fun K "played" "played" sPlayed f fd) : FnOk P w K mg base (L2.CX P w) 6 f fd nPlayed (spPlayed CN CR CV) := by
  refine F.okX scPlayed (fun vs H Q E h => ?_) (fun cdv A outer s H vs Q E hr h => ?_)
  · obtain ⟨xn, xr, xl, xk, xf, dn, dr, dl, dk, df, rfl, _⟩ := h
    rfl
  · obtain ⟨xn, xr, xl, xk, xf, dn, dr, dl, dk, df, rfl, h4, hf, hc⟩ := h
    refine ⟨_, pss_cons (ps_expr (pe_def D_check (hr.mono (by decide)) rfl (passes_call (takes_of rfl rfl rfl rfl) (fun _ _ _ _ h => h)) (pa_cons (pv 0) (pa_cons (pv 1) (pa_cons (pv 2) (pa_cons (pv 3) pa_nil))))))
 (pss_cons (ps_if (pt_not (pt_val (pe_def D_is_fate (hr.mono (by decide)) rfl pass0 (pa_cons (pv 4) (pa_cons (pv 1) (pa_cons (pv 2) (pa_cons (pv 3) pa_nil)))))))
  (pss_one (ps_raiseTide rfl TV hr (takes_of rfl rfl rfl rfl) (pa_cons pe_str pa_nil)))
  pss_nil) pss_any), ?_⟩
    refine ⟨_, rfl, _, rfl, _, rfl, _, rfl, xn, xr, xl, xk, dn, dr, dl, dk, rfl, h4, fun z H1 s1 => ?_, fun e' z => ?_⟩
    · rcases hc with ⟨e, he, _⟩ | ⟨he, hb, er⟩
      · rw [he] at z; cases z
      · obtain ⟨c1, c2, c3, k, rfl, hk⟩ := chk_none he
        obtain ⟨a, rs, rfl, hS, hA⟩ := h4.r.seq c1
        obtain ⟨b, us, rfl, hU, hB, ed⟩ := h4.l.tupD c2
        have eu : us = (intsD dl).map V.int := hB.ints c3
        have ex : xk = .int k := by cases h4.k; rfl
        subst ex eu
        refine ⟨_, rfl, _, rfl, _, rfl, _, rfl, xf, df, a, b, rs, intsD dl, k, rfl, hf.same s1, hS.same s1, s1 _ _ hU, by omega, fun H2 s2 => ⟨_, rfl, ?_⟩⟩
        rw [hA.len]
        have hb' : fateOk (itemsD dr).length (intsD dl) k df = false := hb
        rw [hb']
        exact itbT rfl ⟨_, rfl, fun dd nd => er dd _ ((s1.trans s2).new nd) upd_same⟩
    · rcases hc with ⟨e, he, er⟩ | ⟨he, _⟩
      · rw [he] at z; cases z; exact er
      · rw [he] at z; cases z
end
end K1


set_option Elab.async false
set_option linter.all false
set_option maxRecDepth 100000
set_option maxHeartbeats 4000000
namespace K1
open PySem PySem.Spec PyProof.Rows L2 RZ
/-! ### the draws -/
abbrev sCell : Stmt := topS 32
abbrev sWell : Stmt := topS 33
abbrev sDraw : Stmt := topS 34
abbrev sOne : Stmt := topS 35
abbrev nCell : List Str := ["_law_script", "_law_k"]
theorem scCell : FnScope nCell nCell (defScope sCell) := ⟨rfl, rfl, rfl, by decide +kernel, rfl, by decide +kernel, by decide +kernel⟩
abbrev nWell : List Str := ["_law_cell"]
theorem scWell : FnScope nWell nWell (defScope sWell) := ⟨rfl, rfl, rfl, by decide +kernel, rfl, by decide +kernel, by decide +kernel⟩
abbrev nDraw : List Str := ["_law_well_here", "_law_many", "_law_found", "_law_salt", "_law_base", "_law_number"]
abbrev pDraw : List Str := ["_law_well_here", "_law_many"]
theorem scDraw : FnScope nDraw pDraw (defScope sDraw) := ⟨rfl, rfl, rfl, by decide +kernel, rfl, by decide +kernel, by decide +kernel⟩
abbrev nOne : List Str := ["_law_well_here", "_law_some"]
theorem scOne : FnScope nOne nOne (defScope sOne) := ⟨rfl, rfl, rfl, by decide +kernel, rfl, by decide +kernel, by decide +kernel⟩
/-- a well, at most k of whose draws are done by its number -/
def WellT (H : Hp) (p : Addr) (k : Nat) : Prop := ∃ c m t : Int, H p = some (.lst [.int c, .int m, .int t]) ∧ 0 ≤ t ∧ t ≤ k
theorem WellT.at {H : Hp} {p : Addr} {k : Nat} (w : WellT H p k) : WellAt H p := let ⟨c, m, t, e, _⟩ := w; ⟨c, m, t, e⟩
theorem WellT.keep {H H' : Hp} {p : Addr} {k : Nat} (w : WellT H p k) (s : ∀ o, H p = some o → H' p = some o) : WellT H' p k := let ⟨c, m, t, e, h⟩ := w; ⟨c, m, t, s _ e, h⟩
def spCell (K : PySem.W.Frag) : Sp := fun vs H Q _ => ∃ (a : Addr) (ns : List Int) (k : Int), vs = [.ref a, .int k] ∧ SqL K H a (ns.map V.int) ∧ 0 ≤ k ∧ ∀ n : Int, Q (.int n) H
def spWell : Sp := fun vs H Q _ => ∃ (c : Int), vs = [.int c] ∧ ∀ (p : Addr) (H' : Hp), H p = none → Same H H' → WellT H' p 0 → Q (.ref p) H'
def spDraw : Sp := fun vs H Q _ => ∃ (p : Addr) (b : Int) (k : Nat), vs = [.ref p, .int b] ∧ WellT H p k ∧ k ≤ 100000 ∧ 0 < b ∧ b < 1073741824 ∧
  ∀ (d : Int) (H' : Hp), 0 ≤ d → d < b → Ext p H H' → WellT H' p (k + 1) → Q (.int d) H'
def spOne : Sp := fun vs H Q _ => ∃ (p a : Addr) (xs : List V) (k : Nat), vs = [.ref p, .ref a] ∧ WellT H p k ∧ k ≤ 100000 ∧ H a = some (.lst xs) ∧ 0 < xs.length ∧ xs.length < 1073741824 ∧ a ≠ p ∧
  ∀ (i : Nat) (x : V) (H' : Hp), xs[i]? = some x → Ext p H H' → WellT H' p (k + 1) → Q x H'
section
variable {P : Program} {w : World} {K : PySem.W.Frag} {mg : Str → Option Value} {base : Heap}
theorem ok_cell {f : Addr} {fd : FuncData} (T : Bj mg) (F : Fun K "_law_cell_at" "_law_cell_at" sCell f fd) : FnOk P w K mg base CX0 1 f fd nCell (spCell K) := by
  have nd := scCell.nd
  refine F.ok scCell (fun vs H Q E h => ?_) (fun cdv A outer s H vs Q E hr h => ?_)
  · obtain ⟨a, ns, k, rfl, _⟩ := h
    rfl
  · obtain ⟨a, ns, k, rfl, hS, h0, q⟩ := h
    refine ⟨_, (pss_cons (ps_if (pt_cmpR op_lt (pv 1) (pe_callB (call_lenK (K := K) rfl) (by rfl) T.len PySem.boot_len (pa_cons (pv 0) pa_nil)) (nomark _))
  (pss_one (ps_ret (pe_ix (ix_listK (K := K) rfl) (pv 0) (pv 1) (fun _ _ => rfl))))
  pss_nil)
 (pss_one (ps_ret pe_int))), ?_⟩
    refine ⟨_, rfl, _, rfl, a, _, rfl, .inl hS, _, _, rfl, rfl, _, rfl, ite2 (fun c => ?_) (fun c => q 0)⟩
    have c' : k < ns.length := by simpa using c
    have hi : k.toNat < ns.length := by omega
    exact ⟨_, rfl, _, rfl, a, _, k, .int ns[k.toNat], rfl, rfl, hS, at_of (j := k.toNat) (by omega) (by simp [hi]), q _⟩
theorem ok_well {f : Addr} {fd : FuncData} (T : Bj mg) (F : Fun K "_law_well" "_law_well" sWell f fd) : FnOk P w K mg base CX0 1 f fd nWell spWell := by
  have nd := scWell.nd
  refine F.ok scWell (fun vs H Q E h => ?_) (fun cdv A outer s H vs Q E hr h => ?_)
  · obtain ⟨c, rfl, _⟩ := h
    rfl
  · obtain ⟨c, rfl, q⟩ := h
    refine ⟨_, (pss_one (ps_ret (pe_lst (pa_cons (pe_ix (ix_listK (K := K) rfl) (pe_lst (pa_cons pe_int (pa_cons (pv 0) pa_nil))) (pe_callTy call_int1 (by rfl) T.int PyProof.Rows.boot_int (pa_cons (pe_cmpR op_ge (pv 0) (pe_op op_pow pe_int pe_int) (nomark _)) pa_nil)) (fun _ _ => rfl)) (pa_cons (pv 0) (pa_cons pe_int pa_nil)))))), ?_⟩
    refine ⟨_, rfl, (by show 2 ≤ sizeLine; decide), fun l nl => ⟨_, rfl, _, _, rfl, rfl, ⟨by decide, by decide, by decide⟩, _, _, rfl, rfl, .inr ⟨_, rfl, ?_⟩⟩⟩
    have s1 := same_new (o := .lst [.int 0, .int c]) nl
    have fin : ∀ (n : Int), ∀ p, (upd H l (.lst [.int 0, .int c])) p = none → Q (.ref p) (upd (upd H l (.lst [.int 0, .int c])) p (.lst [.int n, .int c, .int 0])) := fun n p np => q p _ (s1.free np) (s1.new np) ⟨n, c, 0, upd_same, by decide, by decide⟩
    by_cases h : c ≥ 10 ^ (18 : Int).toNat
    · rw [decide_eq_true h]
      exact ⟨l, _, 1, .int c, rfl, rfl, sq upd_same, atI_nat (j := 1) rfl, _, rfl, (by show 3 ≤ sizeLine; decide), fin c⟩
    · rw [decide_eq_false h]
      exact ⟨l, _, 0, .int 0, rfl, rfl, sq upd_same, atI_nat (j := 0) rfl, _, rfl, (by show 3 ≤ sizeLine; decide), fin 0⟩
theorem ok_draw {f : Addr} {fd : FuncData} (T : Bj mg) (F : Fun K "_law_draw" "_law_draw" sDraw f fd) : FnOk P w K mg base CX0 1 f fd pDraw spDraw := by
  have nd := scDraw.nd
  refine F.ok scDraw (fun vs H Q E h => ?_) (fun cdv A outer s H vs Q E hr h => ?_)
  · obtain ⟨p, b, k, rfl, _⟩ := h
    rfl
  · obtain ⟨p, b, k, rfl, ⟨c, m, t, hp, t0, tk⟩, hk, hb0, hb1, q'⟩ := h
    have q : ∀ (d c m t : Int), 0 ≤ d → d < b → 0 ≤ t → t ≤ (k + 1 : Nat) → Q (.int d) (upd H p (.lst [.int c, .int m, .int t])) := fun d c m t h1 h2 h3 h4 => q' d _ h1 h2 (Ext.refl H).self ⟨c, m, t, upd_same, h3, h4⟩
    refine ⟨_, (pss_cons (ps_if (pt_cmpR op_gt (pe_ix (ix_listK (K := K) rfl) (pv 0) pe_int (fun _ _ => rfl)) pe_int (nomark _))
  (pss_cons (ps_set (i := 2) nd rfl (Or.inl rfl) (pe_op op_mod (pe_callTy call_int1 (by rfl) T.int PyProof.Rows.boot_int (pa_cons (pe_ix (ix_listK (K := K) rfl) (pv 0) pe_int (fun _ _ => rfl)) pa_nil)) (pv 1)))
 (pss_cons (ps_asg (pe_op op_fdiv (pe_ix (ix_listK (K := K) rfl) (pv 0) pe_int (fun _ _ => rfl)) (pv 1)) (pg_sub (pv 0) pe_int set_list))
 (pss_one (ps_ret (pv 2)))))
  pss_nil)
 (pss_cons (ps_asg (pe_op op_add (pe_ix (ix_listK (K := K) rfl) (pv 0) pe_int (fun _ _ => rfl)) pe_int) (pg_sub (pv 0) pe_int set_list))
 (pss_cons (ps_set (i := 3) nd rfl (Or.inl rfl) (pe_op op_mod (pe_callTy call_int1 (by rfl) T.int PyProof.Rows.boot_int (pa_cons (pe_op op_fdivW (pe_ix (ix_listK (K := K) rfl) (pv 0) pe_int (fun _ _ => rfl)) pe_int) pa_nil)) pe_int))
 (pss_cons (ps_set (i := 4) nd rfl (Or.inl rfl) (pe_op op_add (pe_op op_add (pe_op op_add (pe_op op_mod (pe_callTy call_int1 (by rfl) T.int PyProof.Rows.boot_int (pa_cons (pe_ix (ix_listK (K := K) rfl) (pv 0) pe_int (fun _ _ => rfl)) pa_nil)) pe_int) (pe_op op_mul pe_int (pe_ix (ix_listK (K := K) rfl) (pv 0) pe_int (fun _ _ => rfl)))) (pv 3)) pe_int))
 (pss_cons (ps_set (i := 5) nd rfl (Or.inl rfl) (pe_op op_mod (pe_callTy call_int1 (by rfl) T.int PyProof.Rows.boot_int (pa_cons (pe_op op_pow (pv 4) pe_int) pa_nil)) pe_int))
 (pss_cons (ps_set (i := 5) nd rfl (Or.inl rfl) (pe_op op_mod (pe_callTy call_int1 (by rfl) T.int PyProof.Rows.boot_int (pa_cons (pe_op op_mul (pv 5) (pe_op op_add (pe_op op_add (pe_op op_fdiv (pv 5) pe_int) pe_int) (pe_ix (ix_listK (K := K) rfl) (pv 0) pe_int (fun _ _ => rfl)))) pa_nil)) pe_int))
 (pss_one (ps_ret (pe_op op_mod (pe_callTy call_int1 (by rfl) T.int PyProof.Rows.boot_int (pa_cons (pe_op op_mod (pe_callTy call_int1 (by rfl) T.int PyProof.Rows.boot_int (pa_cons (pe_op op_mul (pv 5) (pe_op op_add (pe_op op_fdiv (pv 5) pe_int) pe_int)) pa_nil)) pe_int) pa_nil)) (pv 1)))))))))), ?_⟩
    have r0 : ∀ x y z : Int, SqL K (upd H p (.lst [.int x, .int y, .int z])) p [.int x, .int y, .int z] := fun x y z => .inl (.inl upd_same)
    have hS : SqL K H p [.int c, .int m, .int t] := .inl (.inl hp)
    have rg : ∀ z : Int, 0 ≤ z % b ∧ z % b < b := fun z => ⟨Int.emod_nonneg _ (by omega), Int.emod_lt_of_pos _ hb0⟩
    refine ⟨.ref p, rfl, p, _, 0, .int c, rfl, rfl, hS, atI_nat (j := 0) rfl, _, _, rfl, rfl, _, rfl, ?_⟩
    refine ite2 (fun _ => ?_) (fun _ => ?_)
    · refine ⟨.ref p, rfl, p, _, 0, .int c, rfl, rfl, hS, atI_nat (j := 0) rfl, .inl ⟨c, rfl, _, rfl, c, b, rfl, rfl, hb0, ?_⟩⟩
      refine ⟨.ref p, rfl, p, _, 0, .int c, rfl, rfl, hS, atI_nat (j := 0) rfl, _, rfl, c, b, rfl, rfl, ⟨hb0, hb1⟩, ?_⟩
      refine ⟨.ref p, rfl, p, _, 0, 0, rfl, rfl, hp, rfl, ?_⟩
      exact ⟨_, rfl, q (c % b) (c / b) m t (rg c).1 (rg c).2 t0 (by omega)⟩
    · refine ⟨.ref p, rfl, p, _, 2, .int t, rfl, rfl, hS, atI_nat (j := 2) rfl, _, _, rfl, rfl, ?_⟩
      refine ⟨.ref p, rfl, p, _, 2, 2, rfl, rfl, hp, rfl, ?_⟩
      refine ⟨.ref p, rfl, p, _, 1, .int m, rfl, rfl, r0 c m (t + 1), atI_nat (j := 1) rfl, _, _, rfl, rfl, wide_div (b := 31) (by decide) (by decide) (by decide) (by decide), .inl ⟨_, rfl, _, _, rfl, rfl, (by show (0 : Int) < _; decide), ?_⟩⟩
      refine ⟨.ref p, rfl, p, _, 1, .int m, rfl, rfl, r0 c m (t + 1), atI_nat (j := 1) rfl, .inl ⟨_, rfl, _, _, rfl, rfl, (by show (0 : Int) < _; decide), ?_⟩⟩
      refine ⟨.ref p, rfl, p, _, 2, .int (t + 1), rfl, rfl, r0 c m (t + 1), atI_nat (j := 2) rfl, _, _, rfl, rfl, .inl ⟨by decide, by decide⟩, _, _, rfl, rfl, _, rfl, _, _, rfl, rfl, _, _, rfl, rfl, ?_⟩
      have b0 : (m % 2147483629 + 7919 * (t + 1) + m / 2147483629 % 65521 + 1).natAbs < 2 ^ 64 := by
        have h1 : 0 ≤ m % 2147483629 ∧ m % 2147483629 < 2147483629 := ⟨Int.emod_nonneg _ (by decide), Int.emod_lt_of_pos _ (by decide)⟩
        have h2 : 0 ≤ m / 2147483629 % 65521 ∧ m / 2147483629 % 65521 < 65521 := ⟨Int.emod_nonneg _ (by decide), Int.emod_lt_of_pos _ (by decide)⟩
        exact Nat.lt_of_lt_of_le (show _ < 10000000000 by omega) (by decide)
      refine ⟨_, rfl, m % 2147483629 + 7919 * (t + 1) + m / 2147483629 % 65521 + 1, 5, rfl, rfl, ⟨by decide, by decide, b0⟩, .inl ⟨_, rfl, _, _, rfl, rfl, (by show (0 : Int) < _; decide), ?_⟩⟩
      generalize he : (m % 2147483629 + 7919 * (t + 1) + m / 2147483629 % 65521 + 1) ^ (5 : Int).toNat % 2147483647 = e
      have e0 : 0 ≤ e ∧ e < 2147483647 := by rw [← he]; exact ⟨Int.emod_nonneg _ (by decide), Int.emod_lt_of_pos _ (by decide)⟩
      refine ⟨_, rfl, _, rfl, _, _, rfl, rfl, ⟨by decide, by decide⟩, _, _, rfl, rfl, .ref p, rfl, p, _, 2, .int (t + 1), rfl, rfl, r0 c m (t + 1), atI_nat (j := 2) rfl, _, _, rfl, rfl, _, _, rfl, rfl, .inl ⟨by omega, by omega⟩, .inl ⟨_, rfl, _, _, rfl, rfl, (by show (0 : Int) < _; decide), ?_⟩⟩
      generalize hg : e * (e / 1009 + 69621 + (t + 1)) % 2147483629 = g
      have g0 : 0 ≤ g ∧ g < 2147483629 := by rw [← hg]; exact ⟨Int.emod_nonneg _ (by decide), Int.emod_lt_of_pos _ (by decide)⟩
      refine ⟨_, rfl, _, rfl, _, _, rfl, rfl, ⟨by decide, by decide⟩, _, _, rfl, rfl, _, _, rfl, rfl, .inl ⟨by omega, by omega⟩, .inl ⟨_, rfl, _, _, rfl, rfl, (by show (0 : Int) < _; decide), .inl ⟨_, rfl, _, rfl, _, _, rfl, rfl, hb0, ?_⟩⟩⟩
      exact q _ c m (t + 1) (rg _).1 (rg _).2 (by omega) (by omega)
theorem ok_one {f : Addr} {fd : FuncData} (T : Bj mg) (D_draw : Def P w K mg base CX0 1 "_law_draw" pDraw spDraw) (F : Fun K "_law_one" "_law_one" sOne f fd) : FnOk P w K mg base CX0 2 f fd nOne spOne := by
  refine F.ok scOne (fun vs H Q E h => ?_) (fun cdv A outer s H vs Q E hr h => ?_)
  · obtain ⟨p, a, xs, k, rfl, _⟩ := h
    rfl
  · obtain ⟨p, a, xs, k, rfl, hw, hk, ha, h0, h1, nap, q⟩ := h
    refine ⟨_, (pss_one (ps_ret (pe_ix (ix_listK (K := K) rfl) (pv 1) (pe_def D_draw (hr.mono (by decide)) rfl pass0 (pa_cons (pv 0) (pa_cons (pe_callB (call_lenK (K := K) rfl) (by rfl) T.len PySem.boot_len (pa_cons (pv 1) pa_nil)) pa_nil))) (fun _ _ => rfl)))), ?_⟩
    refine ⟨_, rfl, _, rfl, _, rfl, a, xs, rfl, .inl (sq ha), ?_⟩
    refine ⟨p, xs.length, k, rfl, hw, hk, by omega, by omega, fun d H' d0 d1 hx hw' => ?_⟩
    have hi : d.toNat < xs.length := by omega
    have hg : xs[d.toNat]? = some xs[d.toNat] := List.getElem?_eq_getElem hi
    exact ⟨a, xs, d, _, rfl, rfl, sq (hx _ _ nap ha), at_of (j := d.toNat) (by omega) hg, q _ _ _ hg hx hw'⟩
end
end K1


set_option Elab.async false
set_option linter.all false
set_option maxRecDepth 100000
set_option maxHeartbeats 4000000
namespace K1
open PySem PySem.Spec PyProof.Rows L2 RZ
/-! ### what tells data, whatever new objects are made meanwhile -/
def Gv (T : List (Addr × Str)) (te : TE) (σ : L2.St) (H : Hp) (d : PyData) : Prop := ∀ H1, LamX.ExtN H H1 → LamX.Tabs T H1 → ∀ Q : VK, (∀ v H2, LamX.ExtN H1 H2 → LamX.Tabs T H2 → Dv H2 v d → Q v H2) → te σ H1 Q
def GvA (T : List (Addr × Str)) (ta : TA) (σ : L2.St) (H : Hp) (ds : List PyData) : Prop := ∀ H1, LamX.ExtN H H1 → LamX.Tabs T H1 → ∀ Q : List V → Hp → Prop, (∀ vs H2, LamX.ExtN H1 H2 → LamX.Tabs T H2 → DvA H2 vs ds → Q vs H2) → ta σ H1 Q
section
variable {T : List (Addr × Str)} {σ : L2.St} {H : Hp} {te tf : TE} {ta : TA} {d : PyData} {ds es : List PyData}
theorem gv_c {v : V} (h : ∀ H, Dv H v d) : Gv T (tC v) σ H d := fun H1 _ t Q k => k v H1 (.refl _) t (h H1)
theorem gv_int (n : Int) : Gv T (tC (.int n)) σ H (.int n) := gv_c fun _ => .int n
theorem gv_str (n : Str) : Gv T (tC (.str n)) σ H (.str n) := gv_c fun _ => .str n
theorem gv_bl (n : Bool) : Gv T (tC (.bl n)) σ H (.bool n) := gv_c fun _ => .bl n
theorem gv_non : Gv T (tC .non) σ H .none := gv_c fun _ => .non
theorem gv_var {i : Nat} {v : V} (hi : σ[i]? = some (some v)) (h : Dv H v d) : Gv T (tVar i) σ H d := fun H1 e t Q k => ⟨v, hi, k v H1 (.refl _) t (h.ext e)⟩
theorem gv_nil : GvA T tNil σ H [] := fun H1 _ t Q k => k [] H1 (.refl _) t .nil
theorem gv_cons (h1 : Gv T te σ H d) (h2 : GvA T ta σ H ds) : GvA T (tCons te ta) σ H (d :: ds) := fun H1 e t Q k =>
  h1 H1 e t _ fun x H2 e2 t2 hx => h2 H2 (e.trans e2) t2 _ fun xs H3 e3 t3 hxs => k (x :: xs) H3 (e2.trans e3) t3 (.cons (hx.ext e3) hxs)
theorem gv_tup (h : GvA T ta σ H ds) (hl : ds.length ≤ 1000 := by exact Nat.le_of_ble_eq_true rfl) : Gv T (tTup ta) σ H (.tuple ds) := fun H1 e t Q k =>
  h H1 e t _ fun xs H2 e2 t2 hxs => ⟨lt1 _ (by rw [hxs.len]; omega), fun p np => k _ _ (e2.trans (LamX.ExtN.of (same_new np))) (t2.ext (same_new np)) (.tup upd_same (hxs.same (same_new np)))⟩
theorem gv_lst (h : GvA T ta σ H ds) (hl : ds.length ≤ 1000 := by exact Nat.le_of_ble_eq_true rfl) : Gv T (tLst ta) σ H (.list ds) := fun H1 e t Q k =>
  h H1 e t _ fun xs H2 e2 t2 hxs => ⟨lt1 _ (by rw [hxs.len]; omega), fun p np => k _ _ (e2.trans (LamX.ExtN.of (same_new np))) (t2.ext (same_new np)) (.lst upd_same (hxs.same (same_new np)))⟩
theorem Dv.lstD {v : V} (h : Dv H v (.list ds)) : ∃ a xs, v = .ref a ∧ H a = some (.lst xs) ∧ DvA H xs ds := by
  cases h with
  | lst e r => exact ⟨_, _, rfl, e, r⟩
theorem gv_cat (h1 : Gv T te σ H (.list ds)) (h2 : Gv T tf σ H (.list es)) (hl : ds.length + es.length ≤ 1000) : Gv T (tOp rCat te tf) σ H (.list (ds ++ es)) := fun H1 e t Q k =>
  h1 H1 e t _ fun x H2 e2 t2 hx => h2 H2 (e.trans e2) t2 _ fun y H3 e3 t3 hy => by
    obtain ⟨a, xs, rfl, ha, hA⟩ := (hx.ext e3).lstD
    obtain ⟨b, ys, rfl, hb, hB⟩ := hy.lstD
    exact ⟨a, b, xs, ys, rfl, rfl, ha, hb, lt1 _ (by rw [hA.len, hB.len]; omega), fun p np => k _ _ ((e2.trans e3).trans (LamX.ExtN.of (same_new np))) (t3.ext (same_new np)) (.lst upd_same ((hA.app hB).same (same_new np)))⟩
theorem DvA.rep {xs : List V} (h : DvA H xs ds) : ∀ n : Nat, DvA H (List.replicate n xs).flatten (List.replicate n ds).flatten
  | 0 => .nil
  | n + 1 => by
    rw [List.replicate_succ, List.replicate_succ, List.flatten_cons, List.flatten_cons]
    exact h.app (DvA.rep h n)
theorem gv_rep {n : Nat} (h1 : Gv T te σ H (.list ds)) (hl : ds.length * n ≤ 1000) (hn : n ≤ 1000) : Gv T (tOp rRep te (tC (.int (n : Int)))) σ H (.list (List.replicate n ds).flatten) := fun H1 e t Q k =>
  h1 H1 e t _ fun x H2 e2 t2 hx => by
    obtain ⟨a, xs, rfl, ha, hA⟩ := hx.lstD
    refine ⟨a, n, xs, rfl, rfl, ha, by omega, by omega, lt1 _ (by rw [hA.len, Int.toNat_natCast]; omega), fun p np => ?_⟩
    rw [Int.toNat_natCast]
    exact k _ _ (e2.trans (LamX.ExtN.of (same_new np))) (t2.ext (same_new np)) (.lst upd_same ((hA.rep n).same (same_new np)))
end
/-! ### the def that tells what a lambda raises -/
abbrev sRefd : Stmt := topS 36
abbrev nRefd : List Str := ["_law_deed", "e"]
abbrev pRefd : List Str := ["_law_deed"]
theorem scRefd : FnScope nRefd pRefd (defScope sRefd) := ⟨rfl, rfl, rfl, by decide +kernel, rfl, by decide +kernel, by decide +kernel⟩
def TRef (CN CR CV : Addr) : (XK → Hp → VK → Prop) → Hp → VK → Prop := fun tl H Q =>
  tl (fun cls d H' => (cls = .ref CN ∧ ∃ (dd : Addr) (v : V), d = some dd ∧ H' dd = some (.xd [("value", v)]) ∧ ∀ p, H' p = none → Q (.ref p) (upd H' p (.tup [.str "number", v]))) ∨
    (cls = .ref CR ∧ ∃ (dd : Addr) (v : V), d = some dd ∧ H' dd = some (.xd [("at", v)]) ∧ ∀ p, H' p = none → Q (.ref p) (upd H' p (.tup [.str "row", v]))) ∨
    (cls = .ref CV ∧ ∃ (dd : Addr) (v : V), d = some dd ∧ H' dd = some (.xd [("why", v)]) ∧ ∀ p, H' p = none → Q (.ref p) (upd H' p (.tup [.str "value", v])))) H (fun _ H' => Q .non H')
theorem refd_gives {X : Cx} {q : Str} {g CN CR CV CT fN fR fV : Addr} {cdg : Value} (TN : PySem.Tide.TideTxt X.prog X.K X.mg "BadNumber" CN fN "value") (TR : PySem.Tide.TideTxt X.prog X.K X.mg "BadRow" CR fR "at") (TV : PySem.Tide.TideTxt X.prog X.K X.mg "BadValue" CV fV "why") (gT : X.mg "TideError" = some (.ref CT))
    (h1 : PySem.W.exmOne X.K (.ref CR) (.ref CN) = some false) (h2 : PySem.W.exmOne X.K (.ref CV) (.ref CN) = some false) (h3 : PySem.W.exmOne X.K (.ref CV) (.ref CR) = some false) :
    LamX.GivesTo X nRefd "_law_refused" (defScope sRefd) g cdg (defBody sRefd) "_law_deed" q (TRef CN CR CV) := by
  intro f c' s H Q tl act hc h
  refine ⟨_, pss_cons (ps_try_manyA (X := (cxOf C8.CX0 X.prog X.w X.K X.mg X.base nRefd "_law_refused" (defScope sRefd) g cdg X.A X.stack s H C8.E0).nox)
      (tb := fun W D σ H => ∃ Ech : XK, (∀ cls d σ' H', Ech cls d H' → W cls d σ' H') ∧ σ[0]? = some (some (.ref f)) ∧ H c' = some (LamX.CodeO c' q) ∧ tl Ech H (fun _ H' => D.nx σ H'))
      rfl rfl scRefd.nd LamX.takes0 (fun W pn xe tk _ => ?_)
      (.named (i := 1) (c := .ref CN) rfl rfl ⟨rfl, by decide, .inl TN.gC⟩ (fun a oe cls d pn hz hf => pss_one (ps_ret (pe_tup (pa_cons pe_str (pa_cons (pe_byTide TN hz hf (pv 1) rfl) pa_nil)))))
      (.named (i := 1) (c := .ref CR) rfl rfl ⟨rfl, by decide, .inl TR.gC⟩ (fun a oe cls d pn hz hf => pss_one (ps_ret (pe_tup (pa_cons pe_str (pa_cons (pe_byTide TR hz hf (pv 1) rfl) pa_nil)))))
      (.named (i := 1) (c := .ref CV) rfl rfl ⟨rfl, by decide, .inl TV.gC⟩ (fun a oe cls d pn hz hf => pss_one (ps_ret (pe_tup (pa_cons pe_str (pa_cons (pe_byTide TV hz hf (pv 1) rfl) pa_nil)))))
      (.plain (c := .ref CT) ⟨rfl, by decide, .inl gT⟩ (fun a oe cls d pn _ _ => pss_one (ps_ret (pe_tup (pa_cons pe_str (pa_cons pe_non pa_nil))))) .nil))))) (pss_one (ps_ret pe_non)), ?_⟩
  · refine ⟨fun pins s' σ H' D I h' => ?_⟩
    obtain ⟨Ech, hW, h1, h2, h3⟩ := h'
    exact (pss_one (ps_expr (act W pn xe Ech _ _ tk hW))).run pins s' σ H' D I ⟨h1, h2, h3⟩
  · refine ⟨_, fun cls d σ' H' hE => ?_, rfl, hc, h⟩
    rcases hE with ⟨rfl, dd, v, rfl, hd, hq⟩ | ⟨rfl, dd, v, rfl, hd, hq⟩ | ⟨rfl, dd, v, rfl, hd, hq⟩
    · refine ⟨true, TN.te, fun _ hl a na => ?_, fun z => by cases z⟩
      exact ⟨_, List.getElem?_set_self hl, rfl, rfl, dd, v, rfl, hd, (by show 2 ≤ sizeLine; decide), hq⟩
    · refine ⟨false, h1, (fun z => by cases z), fun _ => ⟨true, TR.te, fun _ hl a na => ?_, fun z => by cases z⟩⟩
      exact ⟨_, List.getElem?_set_self hl, rfl, rfl, dd, v, rfl, hd, (by show 2 ≤ sizeLine; decide), hq⟩
    · refine ⟨false, h2, (fun z => by cases z), fun _ => ⟨false, h3, (fun z => by cases z), fun _ => ⟨true, TV.te, fun _ hl a na => ?_, fun z => by cases z⟩⟩⟩
      exact ⟨_, List.getElem?_set_self hl, rfl, rfl, dd, v, rfl, hd, (by show 2 ≤ sizeLine; decide), hq⟩
/-- the making and the asking of a lambda -/
structure RefK (P : Program) (K : PySem.W.Frag) (mg : Str → Option Value) (CN CR CV : Addr) : Prop where
  at_ : At K mg "_law_refused" sRefd
  TN : ∃ f, PySem.Tide.TideTxt P K mg "BadNumber" CN f "value"
  TR : ∃ f, PySem.Tide.TideTxt P K mg "BadRow" CR f "at"
  TV : ∃ f, PySem.Tide.TideTxt P K mg "BadValue" CV f "why"
  TT : ∃ C, mg "TideError" = some (.ref C)
  e1 : PySem.W.exmOne K (.ref CR) (.ref CN) = some false
  e2 : PySem.W.exmOne K (.ref CV) (.ref CN) = some false
  e3 : PySem.W.exmOne K (.ref CV) (.ref CR) = some false
theorem pe_refd {X : Cx} {CN CR CV c P : Addr} {T : List (Addr × Str)} {k : Nat} {params : Arguments} {body : Expr} {scope : Scope} {t : XK → TE} {p lpos pos : Pos} (D : RefK X.prog X.K X.mg CN CR CV) (hg : Gl X "_law_refused")
    (TB : LamX.TabB X.base X.mg c P) (hcode : X.env.code = .ref c) (hmT : (P, X.env.qual ++ "<lambda>") ∈ T) (hu : ∀ p ∈ T, p.1 = P → p.2 = X.env.qual ++ "<lambda>") (hr : Room (k + 2) X.A) (L : LamX.LamS X.env.scope scope) (hdef : defaultsOf params X.env = ([], []))
    (hbind : ∀ (q : Str) (cl : List (Str × Addr)) (pm cv ctv : Value), bindArgs (PySem.W.kla_fn "<lambda>" q params body scope cl pm cv ctv) ⟨[], []⟩ = pure [])
    (hbody : ∀ (A : Around) (outer : List Env) (s : Shared) (H : Hp) (E : XK) (f c' : Addr), Room k (A.deeper (LamX.lamEnv X scope s.heap.objs.size f c')) → PE (LamX.lamCx X A outer s H E scope f c') body (t E)) :
    PE X (.Call (.Name "_law_refused" p) [.Lambda params body scope lpos] [] pos) (LamX.tLam T (TRef CN CR CV) t) := by
  obtain ⟨⟨g, fd, hm, F⟩, ⟨fN, TN⟩, ⟨fR, TR⟩, ⟨fV, TV⟩, ⟨CT, gT⟩, e1, e2, e3⟩ := D
  obtain ⟨oc, od, kV, doc, pm, an, cdv, ct, osl, rfl, lk, hcd⟩ := F.ex
  exact LamX.pe_lamcall (a := "_law_deed") hg hm F.kp lk hcd (F.binds (ps := ["_law_deed"]) fun _ _ _ _ _ _ us hl => match us, hl with | [_], _ => rfl) scRefd rfl (.inl rfl) (refd_gives TN TR TV gT e1 e2 e3) TB hcode hmT hu hr L hdef hbind hbody
/-! ### what the calls raise, as data -/
def erW : Er → Str
  | .num => "number"
  | .row _ => "row"
  | .why _ => "value"
def erV (xn : V) : Er → V
  | .num => xn
  | .row i => .int i
  | .why s => .str s
def erP (dn : PyData) : Er → PyData
  | .num => dn
  | .row i => .int i
  | .why s => .str s
def erD (dn : PyData) (e : Er) : PyData := .tuple [.str (erW e), erP dn e]
theorem erV_dv {H : Hp} {xn : V} {dn : PyData} (h : Dv H xn dn) : ∀ e : Er, Dv H (erV xn e) (erP dn e)
  | .num => h
  | .row i => .int i
  | .why s => .str s
def Bads (CN CR CV : Addr) (sp : Sp) (ds : List PyData) (e : Er) : Prop := ∀ (xn : V) (vs : List V) (H : Hp) (Q : VK) (E : XK), DvA H (xn :: vs) ds → ErE CN CR CV xn H E e → sp (xn :: vs ++ []) H Q E
section
variable {CN CR CV : Addr} {dn dr dl dk df : PyData} {e : Er}
theorem bads_finds (h : chk none dn dr dl dk = some e) (hl : (itemsD dl).length ≤ 1000) : Bads CN CR CV (spBad CN CR CV) [dn, dr, dl, dk] e := by
  intro xn vs H Q E hA hE
  cases hA with
  | cons h1 hA =>
  cases hA with
  | cons h2 hA =>
  cases hA with
  | cons h3 hA =>
  cases hA with
  | cons h4 hA =>
  cases hA
  exact ⟨_, _, _, _, dn, dr, dl, dk, e, rfl, ⟨h1, h2, h3, h4, hl⟩, h, hE⟩
theorem bads_by (h : chk (some (dI dn)) dn dr dl dk = some e) (hl : (itemsD dl).length ≤ 1000) : Bads CN CR CV (spBadBy CN CR CV) [dn, dr, dl, dk] e := by
  intro xn vs H Q E hA hE
  cases hA with
  | cons h1 hA =>
  cases hA with
  | cons h2 hA =>
  cases hA with
  | cons h3 hA =>
  cases hA with
  | cons h4 hA =>
  cases hA
  exact ⟨_, _, _, _, dn, dr, dl, dk, e, rfl, ⟨h1, h2, h3, h4, hl⟩, h, hE⟩
theorem bads_turned (h : (chkN dn).or (chkR (some (dI dn)) dr) = some e) : Bads CN CR CV (spBadT CN CR CV) [dn, dr] e := by
  intro xn vs H Q E hA hE
  cases hA with
  | cons h1 hA =>
  cases hA with
  | cons h2 hA =>
  cases hA
  exact ⟨_, _, dn, dr, e, rfl, h1, h2, h, hE⟩
theorem bads_played (h : chk none dn dr dl dk = some e ∨ (e = .why "fate" ∧ chk none dn dr dl dk = none ∧ fateOk (itemsD dr).length (intsD dl) (dI dk) df = false)) (hl : (itemsD dl).length ≤ 1000) : Bads CN CR CV (spPlayed CN CR CV) [dn, dr, dl, dk, df] e := by
  intro xn vs H Q E hA hE
  cases hA with
  | cons h1 hA =>
  cases hA with
  | cons h2 hA =>
  cases hA with
  | cons h3 hA =>
  cases hA with
  | cons h4 hA =>
  cases hA with
  | cons h5 hA =>
  cases hA
  refine ⟨_, _, _, _, _, dn, dr, dl, dk, df, rfl, ⟨h1, h2, h3, h4, hl⟩, h5, ?_⟩
  rcases h with h | ⟨rfl, h, hf⟩
  · exact .inl ⟨e, h, hE⟩
  · exact .inr ⟨h, hf, hE⟩
variable {T : List (Addr × Str)} {σ : L2.St} {H : Hp} {ta : TA} {ds : List PyData} {sp : Sp} {i : Nat} {xn : V}
theorem ref_call (hb : Bads CN CR CV sp (dn :: ds) e) (hx : σ[i]? = some (some xn)) (hd : Dv H xn dn) (ha : GvA T ta σ H ds) {H1 : Hp} (e1 : LamX.ExtN H H1) (t1 : LamX.Tabs T H1) {Q : VK}
    (k : ∀ r H2, LamX.ExtN H1 H2 → LamX.Tabs T H2 → H2 r = some (.tup [.str (erW e), erV xn e]) → Q (.ref r) H2) : LamX.tLam T (TRef CN CR CV) (fun E => tCall sp [] E (tCons (tVar i) ta)) σ H1 Q := by
  refine ⟨t1, fun H2 e2 t2 => ⟨xn, hx, ?_⟩⟩
  refine ha H2 (e1.trans e2) t2 _ fun vs H3 e3 t3 hA => hb xn vs H3 _ _ (.cons (hd.ext ((e1.trans e2).trans e3)) hA) ?_
  have fin : ∀ (d : Addr) (H4 : Hp), Same H3 H4 → ∀ p, H4 p = none → Q (.ref p) (upd H4 p (.tup [.str (erW e), erV xn e])) := fun d H4 s4 p np =>
    k p _ ((e2.trans e3).trans (LamX.ExtN.of (s4.new np))) (t3.ext (s4.new np)) upd_same
  cases e with
  | num => exact fun d H4 s4 h4 => .inl ⟨rfl, d, xn, rfl, h4, fin d H4 s4⟩
  | row i => exact fun d H4 s4 h4 => .inr (.inl ⟨rfl, d, .int i, rfl, h4, fin d H4 s4⟩)
  | why z => exact fun d H4 s4 h4 => .inr (.inr ⟨rfl, d, .str z, rfl, h4, fin d H4 s4⟩)
theorem gv_ref (hb : Bads CN CR CV sp (dn :: ds) e) (hx : σ[i]? = some (some xn)) (hd : Dv H xn dn) (ha : GvA T ta σ H ds) : Gv T (LamX.tLam T (TRef CN CR CV) (fun E => tCall sp [] E (tCons (tVar i) ta))) σ H (erD dn e) :=
  fun H1 e1 t1 Q k => ref_call hb hx hd ha e1 t1 fun r H2 e2 t2 hr => k _ _ e2 t2 (.tup hr (.cons (.str _) (.cons (erV_dv (hd.ext (e1.trans e2)) e) .nil)))
end
/-! ### comparisons of data that are alike -/
theorem gv_ne {K : PySem.W.Frag} {T : List (Addr × Str)} {σ : L2.St} {H : Hp} {te tf : TE} {d : PyData} (h1 : Gv T te σ H d) (h2 : Gv T tf σ H d) (hn : noDic d = true) (hs : SeqAt.shaped d = true) {H1 : Hp} (e1 : LamX.ExtN H H1) (t1 : LamX.Tabs T H1) {A B : Hp → Prop}
    (k : ∀ H2, LamX.ExtN H1 H2 → LamX.Tabs T H2 → B H2) : tTest (tOp (rNeD K) te tf) σ H1 (fun c H2 => if c = true then A H2 else B H2) :=
  h1 H1 e1 t1 _ fun x H2 e2 t2 hx => h2 H2 (e1.trans e2) t2 _ fun y H3 e3 t3 hy =>
    ⟨d, d, (hx.ext e3).dp hn, hy.dp hn, hs, hs, _, rfl, itbF (by rw [SeqAt.eqv_refl _ (SeqAt.canLay_of_shaped hs)]; rfl) (k H3 (e2.trans e3) t3)⟩
theorem gv_eq {K : PySem.W.Frag} {T : List (Addr × Str)} {σ : L2.St} {H : Hp} {te tf : TE} {d : PyData} (h1 : Gv T te σ H d) (h2 : Gv T tf σ H d) (hn : noDic d = true) (hs : SeqAt.shaped d = true) {H1 : Hp} (e1 : LamX.ExtN H H1) (t1 : LamX.Tabs T H1) {Q : VK}
    (k : ∀ H2, LamX.ExtN H1 H2 → LamX.Tabs T H2 → Q (.bl true) H2) : tOp (rEqD K) te tf σ H1 Q :=
  h1 H1 e1 t1 _ fun x H2 e2 t2 hx => h2 H2 (e1.trans e2) t2 _ fun y H3 e3 t3 hy =>
    ⟨d, d, (hx.ext e3).dp hn, hy.dp hn, hs, hs, by rw [SeqAt.eqv_refl _ (SeqAt.canLay_of_shaped hs)]; exact k H3 (e2.trans e3) t3⟩
/-! ### rules that tell data -/
section
variable {X : Cx}
def tG (T : List (Addr × Str)) (te : TE) : TE := fun σ H Q => ∃ d, LamX.Tabs T H ∧ Gv T te σ H d ∧ ∀ v H2, LamX.ExtN H H2 → LamX.Tabs T H2 → Dv H2 v d → Q v H2
def tNe (T : List (Addr × Str)) (te tf : TE) : TT := fun σ H Q => ∃ d, LamX.Tabs T H ∧ Gv T te σ H d ∧ Gv T tf σ H d ∧ noDic d = true ∧ SeqAt.shaped d = true ∧ ∀ H2, LamX.ExtN H H2 → LamX.Tabs T H2 → Q false H2
def tEqG (T : List (Addr × Str)) (te tf : TE) : TE := fun σ H Q => ∃ d, LamX.Tabs T H ∧ Gv T te σ H d ∧ Gv T tf σ H d ∧ noDic d = true ∧ SeqAt.shaped d = true ∧ ∀ H2, LamX.ExtN H H2 → LamX.Tabs T H2 → Q (.bl true) H2
theorem pe_weak {e : Expr} {t t' : TE} (h : PE X e t) (k : ∀ σ H Q, t' σ H Q → t σ H Q) : PE X e t' := ⟨fun pins s σ H Q I q => h.run pins s σ H Q I (k σ H Q q)⟩
theorem pt_weak {e : Expr} {t t' : TT} (h : PT X e t) (k : ∀ σ H Q, t' σ H Q → t σ H Q) : PT X e t' := ⟨fun pins s σ H Q I q => h.run pins s σ H Q I (k σ H Q q)⟩
theorem pe_G (T : List (Addr × Str)) {e : Expr} {te : TE} (h : PE X e te) : PE X e (tG T te) := pe_weak h fun σ H Q ⟨d, t, g, k⟩ => g H (.refl _) t Q k
theorem pt_neG (T : List (Addr × Str)) {K : PySem.W.Frag} {e : Expr} {te tf : TE} (h : PT X e (tTest (tOp (rNeD K) te tf))) : PT X e (tNe T te tf) := pt_weak h fun σ H Q ⟨d, t, g1, g2, hn, hs, k⟩ =>
  g1 H (.refl _) t _ fun x H2 e2 t2 hx => g2 H2 e2 t2 _ fun y H3 e3 t3 hy => ⟨d, d, (hx.ext e3).dp hn, hy.dp hn, hs, hs, _, rfl, by rw [SeqAt.eqv_refl _ (SeqAt.canLay_of_shaped hs)]; exact k H3 (e2.trans e3) t3⟩
theorem pe_eqG (T : List (Addr × Str)) {K : PySem.W.Frag} {e : Expr} {te tf : TE} (h : PE X e (tOp (rEqD K) te tf)) : PE X e (tEqG T te tf) := pe_weak h fun σ H Q ⟨d, t, g1, g2, hn, hs, k⟩ =>
  g1 H (.refl _) t _ fun x H2 e2 t2 hx => g2 H2 e2 t2 _ fun y H3 e3 t3 hy => ⟨d, d, (hx.ext e3).dp hn, hy.dp hn, hs, hs, by rw [SeqAt.eqv_refl _ (SeqAt.canLay_of_shaped hs)]; exact k H3 (e2.trans e3) t3⟩
end
end K1


set_option Elab.async false
set_option linter.all false
set_option maxRecDepth 100000
set_option maxHeartbeats 4000000
namespace K1
open PySem PySem.Spec PyProof.Rows L2 RZ
abbrev sAll : Stmt := topS 37
abbrev sFts : Stmt := topS 38
abbrev nAll : List Str := ["_law_n", "_law_row", "_law_loose", "_law_k", "_law_due", "_law_told"]
abbrev pAll : List Str := ["_law_n", "_law_row", "_law_loose", "_law_k", "_law_due"]
theorem scAll : FnScope nAll pAll (defScope sAll) := ⟨rfl, rfl, rfl, by decide +kernel, rfl, by decide +kernel, by decide +kernel⟩
abbrev nFts : List Str := ["_law_n", "_law_odd", "_law_twice"]
abbrev pFts : List Str := ["_law_n"]
theorem scFts : FnScope nFts pFts (defScope sFts) := ⟨rfl, rfl, rfl, by decide +kernel, rfl, by decide +kernel, by decide +kernel⟩
abbrev lamA : Str := "_law_all" ++ ".<locals>." ++ "<lambda>"
abbrev lamF : Str := "_law_fates_refused" ++ ".<locals>." ++ "<lambda>"
abbrev lamL : Str := "law" ++ ".<locals>." ++ "<lambda>"
def T3 (PA PF PL : Addr) : List (Addr × Str) := [(PA, lamA), (PF, lamF), (PL, lamL)]
structure Ap (PA PF PL : Addr) : Prop where
  af : PA ≠ PF
  al : PA ≠ PL
  fl : PF ≠ PL
theorem Ap.a {PA PF PL : Addr} (h : Ap PA PF PL) : ∀ p ∈ T3 PA PF PL, p.1 = PA → p.2 = lamA := by
  intro p hp e
  simp only [T3, List.mem_cons, List.not_mem_nil, or_false] at hp
  rcases hp with rfl | rfl | rfl
  · rfl
  · exact absurd e.symm h.af
  · exact absurd e.symm h.al
theorem Ap.f {PA PF PL : Addr} (h : Ap PA PF PL) : ∀ p ∈ T3 PA PF PL, p.1 = PF → p.2 = lamF := by
  intro p hp e
  simp only [T3, List.mem_cons, List.not_mem_nil, or_false] at hp
  rcases hp with rfl | rfl | rfl
  · exact absurd e h.af
  · rfl
  · exact absurd e.symm h.fl
theorem Ap.l {PA PF PL : Addr} (h : Ap PA PF PL) : ∀ p ∈ T3 PA PF PL, p.1 = PL → p.2 = lamL := by
  intro p hp e
  simp only [T3, List.mem_cons, List.not_mem_nil, or_false] at hp
  rcases hp with rfl | rfl | rfl
  · exact absurd e h.al
  · exact absurd e h.fl
  · rfl
theorem mem_a {PA PF PL : Addr} : (PA, lamA) ∈ T3 PA PF PL := List.mem_cons_self
theorem mem_f {PA PF PL : Addr} : (PF, lamF) ∈ T3 PA PF PL := List.mem_cons_of_mem _ List.mem_cons_self
theorem mem_l {PA PF PL : Addr} : (PL, lamL) ∈ T3 PA PF PL := List.mem_cons_of_mem _ (List.mem_cons_of_mem _ List.mem_cons_self)
def AtC (K : PySem.W.Frag) (mg : Str → Option Value) (x : Str) (st : Stmt) (c : Addr) : Prop := ∃ (f : Addr) (oc : Value) (od : Option Addr) (kV doc pm : Value) (an : Option Addr) (ct : Value) (osl : Array (Option Value)),
  mg x = some (.ref f) ∧ PySem.W.keepIn K (.ref f) = true ∧ K.lookup f = some ⟨oc, od, .func (PySem.W.fnOf x x (defArgs st) (defBody st) (defScope st) .none kV doc pm an (.ref c) ct), osl⟩ ∧ PySem.W.codeIn K (.ref c) x = true
/-- data that can be compared -/
structure Cmp (d : PyData) : Prop where
  lay : d.canLay0 = true
  dep : d.depth ≤ 1
  dic : noDic d = true
theorem shaped_er {dn : PyData} {e : Er} (h : Cmp (erP dn e)) : SeqAt.shaped (erD dn e) = true := by
  unfold SeqAt.shaped
  have a : PyData.canLay0 (erD dn e) = true := by
    show (PyData.canLay0 (.str (erW e)) && ((erP dn e).canLay0 && true)) = true
    rw [h.lay]
    cases e with
    | num => exact (show (PyData.canLay0 (.str "number") && (true && true)) = true by decide +kernel)
    | row i => exact (show (PyData.canLay0 (.str "row") && (true && true)) = true by decide +kernel)
    | why s => exact (show (PyData.canLay0 (.str "value") && (true && true)) = true by decide +kernel)
  have b : PyData.depth (erD dn e) = max 0 (max (erP dn e).depth 0) + 1 := rfl
  rw [a, b]
  have := h.dep
  have : max 0 (max (erP dn e).depth 0) + 1 ≤ 64 := by omega
  rw [decide_eq_true this]; rfl
theorem dic_er {dn : PyData} {e : Er} (h : Cmp (erP dn e)) : noDic (erD dn e) = true := by
  show (true && (noDic (erP dn e) && true)) = true
  rw [h.dic]; rfl
def four (d : PyData) : PyData := .list [d, d, d, d]
theorem shaped_four {dn : PyData} {e : Er} (h : Cmp (erP dn e)) : SeqAt.shaped (four (erD dn e)) = true := by
  unfold SeqAt.shaped
  have a0 := SeqAt.canLay_of_shaped (shaped_er h)
  have a : PyData.canLay0 (four (erD dn e)) = true := by
    show (PyData.canLay0 (erD dn e) && (PyData.canLay0 (erD dn e) && (PyData.canLay0 (erD dn e) && (PyData.canLay0 (erD dn e) && true)))) = true
    rw [a0]; rfl
  have b1 : PyData.depth (erD dn e) = max 0 (max (erP dn e).depth 0) + 1 := rfl
  have b : PyData.depth (four (erD dn e)) = max (erD dn e).depth (max (erD dn e).depth (max (erD dn e).depth (max (erD dn e).depth 0))) + 1 := rfl
  rw [a, b]
  have := h.dep
  have : max (erD dn e).depth (max (erD dn e).depth (max (erD dn e).depth (max (erD dn e).depth 0))) + 1 ≤ 64 := by omega
  rw [decide_eq_true this]; rfl
theorem dic_four {dn : PyData} {e : Er} (h : Cmp (erP dn e)) : noDic (four (erD dn e)) = true := by
  show (noDic (erD dn e) && (noDic (erD dn e) && (noDic (erD dn e) && (noDic (erD dn e) && true)))) = true
  rw [dic_er h]; rfl
theorem tabs_mut {T : List (Addr × Str)} {l : Addr} {xs : List V} {H : Hp} {o : HO} (hl : H l = some (.lst xs)) (hT : LamX.Tabs T H) : LamX.Tabs T (upd H l o) := fun x hx => by
  obtain ⟨ps, h1, h2, h3⟩ := hT x hx
  have np : x.1 ≠ l := fun z => by rw [z, hl] at h1; cases h1
  refine ⟨ps, by rw [upd_ne np]; exact h1, h2, fun pos cv hc => ?_⟩
  obtain ⟨c', g1, g2⟩ := h3 pos cv hc
  have nc : c' ≠ l := fun z => by rw [z, hl] at g2; cases g2
  exact ⟨c', g1, by rw [upd_ne nc]; exact g2⟩
/-- a new list of what was told, its heap -/
structure ToldAt (T : List (Addr × Str)) (H : Hp) (l : Addr) (w : Str) (x : V) (rs : List Addr) (G : Hp) : Prop where
  ext : LamX.ExtN H G
  tabs : LamX.Tabs T G
  at_ : G l = some (.lst (rs.map V.ref))
  all : ∀ r ∈ rs, G r = some (.tup [.str w, x])
  free : ∀ o, H l = some o → ∃ ps, o = .tbl ps
theorem ToldAt.step {T : List (Addr × Str)} {H G G2 : Hp} {l r : Addr} {w : Str} {x : V} {rs : List Addr} (h : ToldAt T H l w x rs G) (e : LamX.ExtN G G2) (t : LamX.Tabs T G2) (hr : G2 r = some (.tup [.str w, x])) :
    G2 l = some (.lst (rs.map V.ref)) ∧ ToldAt T H l w x (rs ++ [r]) (upd G2 l (.lst (rs.map V.ref ++ [.ref r]))) := by
  have hl2 : G2 l = some (.lst (rs.map V.ref)) := e _ _ h.at_ fun _ z => by cases z
  refine ⟨hl2, ⟨fun b o hb n => ?_, tabs_mut hl2 t, by rw [upd_same, List.map_append]; rfl, fun r' hr' => ?_, h.free⟩⟩
  · have nb : b ≠ l := fun z => by
      subst z
      obtain ⟨ps, rfl⟩ := h.free _ hb
      exact n ps rfl
    rw [upd_ne nb]
    exact (h.ext.trans e) b o hb n
  · have hr2 : G2 r' = some (.tup [.str w, x]) := by
      rcases List.mem_append.mp hr' with hr' | hr'
      · exact e _ _ (h.all r' hr') fun _ z => by cases z
      · rw [List.mem_singleton.mp hr']; exact hr
    have nb : r' ≠ l := fun z => by rw [z, hl2] at hr2; cases hr2
    rw [upd_ne nb]; exact hr2
theorem ToldAt.begin {T : List (Addr × Str)} {H G : Hp} {l r : Addr} {w : Str} {x : V} (e : LamX.ExtN H G) (t : LamX.Tabs T G) (hr : G r = some (.tup [.str w, x])) (nl : G l = none) : ToldAt T H l w x [r] (upd G l (.lst [.ref r])) :=
  ⟨e.trans (LamX.ExtN.of (same_new nl)), t.ext (same_new nl), upd_same, fun r' hr' => by rw [List.mem_singleton.mp hr']; exact same_new nl _ _ hr, fun o ho => by
    cases o with
    | tbl ps => exact ⟨ps, rfl⟩
    | _ =>
      have := e _ _ ho fun _ z => by cases z
      rw [nl] at this; cases this⟩
def spAll (CN CR CV PA PF PL : Addr) : Sp := fun vs H Q _ => ∃ (xn xr xl xk xd : V) (dn dr dl dk : PyData) (e : Er), vs = [xn, xr, xl, xk, xd] ∧ Four H xn xr xl xk dn dr dl dk ∧ Dv H xd (erD dn e) ∧ Cmp (erP dn e) ∧
  chk none dn dr dl dk = some e ∧ chk (some (dI dn)) dn dr dl dk = some e ∧ LamX.Tabs (T3 PA PF PL) H ∧ ∀ H', LamX.ExtN H H' → LamX.Tabs (T3 PA PF PL) H' → Q (.bl true) H'
section
variable {P : Program} {w : World} {K : PySem.W.Frag} {mg : Str → Option Value} {base : Heap} {CN CR CV PA PF PL c : Addr}
theorem ok_all {f : Addr} {oc : Value} {od : Option Addr} {kV doc pm : Value} {an : Option Addr} {ct : Value} {osl : Array (Option Value)} (T : Bj mg) (ap : Ap PA PF PL) (DS : RefK P K mg CN CR CV) (TB : LamX.TabB base mg c PA)
    (D_finds : Def P w K mg base (L2.CX P w) 6 "finds" nCk (spBad CN CR CV)) (D_doubt : Def P w K mg base (L2.CX P w) 6 "doubt" nCk (spBad CN CR CV)) (D_by_number : Def P w K mg base (L2.CX P w) 5 "by_number" pBy (spBadBy CN CR CV))
    (D_played : Def P w K mg base (L2.CX P w) 6 "played" nPlayed (spPlayed CN CR CV))
    (lk : K.lookup f = some ⟨oc, od, .func (PySem.W.fnOf "_law_all" "_law_all" (defArgs sAll) (defBody sAll) (defScope sAll) .none kV doc pm an (.ref c) ct), osl⟩) (hcd : PySem.W.codeIn K (.ref c) "_law_all" = true) :
    FnOk P w K mg base CX0 9 f (PySem.W.fnOf "_law_all" "_law_all" (defArgs sAll) (defBody sAll) (defScope sAll) .none kV doc pm an (.ref c) ct) pAll (spAll CN CR CV PA PF PL) := by
  have nd := scAll.nd
  have hu1 := ap.a
  refine fn_of lk hcd scAll (fun vs H Q E h => ?_) (fun A outer s H vs Q E hr h => ?_)
  · obtain ⟨xn, xr, xl, xk, xd, dn, dr, dl, dk, e, rfl, _⟩ := h
    rfl
  · obtain ⟨xn, xr, xl, xk, xd, dn, dr, dl, dk, e, rfl, h4, hxd, hc, c1, c2, hT, q⟩ := h
    refine ⟨_, PSs.nox (pss_cons (ps_set (i := 5) nd rfl (Or.inl rfl) (pe_lst (pa_cons (pe_refd (k := 6) (T := T3 PA PF PL) DS rfl TB rfl mem_a hu1 hr (LamX.lamS_by (by rfl)) rfl (fun _ _ _ _ _ => rfl) (fun _ _ _ _ _ _ _ hr2 => (pe_def D_finds hr2 rfl (passes_call (takes_of rfl rfl rfl rfl) (fun _ _ _ _ h => h)) (pa_cons (pv 0) (pa_cons (pv 1) (pa_cons (pv 2) (pa_cons (pv 3) pa_nil))))))) pa_nil)))
 (pss_cons (ps_expr (pe_bm PySem.F.plainAttrs_list PySem.F.slot_list_append PySem.F.type_list_append mt_append (pv 5) (pa_cons (pe_refd (k := 6) (T := T3 PA PF PL) DS rfl TB rfl mem_a hu1 hr (LamX.lamS_by (by rfl)) rfl (fun _ _ _ _ _ => rfl) (fun _ _ _ _ _ _ _ hr2 => (pe_def D_doubt hr2 rfl (passes_call (takes_of rfl rfl rfl rfl) (fun _ _ _ _ h => h)) (pa_cons (pv 0) (pa_cons (pv 1) (pa_cons (pv 2) (pa_cons (pv 3) pa_nil))))))) pa_nil)))
 (pss_cons (ps_expr (pe_bm PySem.F.plainAttrs_list PySem.F.slot_list_append PySem.F.type_list_append mt_append (pv 5) (pa_cons (pe_refd (k := 6) (T := T3 PA PF PL) DS rfl TB rfl mem_a hu1 hr (LamX.lamS_by (by rfl)) rfl (fun _ _ _ _ _ => rfl) (fun _ _ _ _ _ _ _ hr2 => (pe_def D_by_number (hr2.mono (by decide)) rfl (passes_call (takes_of rfl rfl rfl rfl) (fun _ _ _ _ h => h)) (pa_cons (pv 0) (pa_cons (pv 1) (pa_cons (pv 2) (pa_cons (pv 3) pa_nil))))))) pa_nil)))
 (pss_cons (ps_expr (pe_bm PySem.F.plainAttrs_list PySem.F.slot_list_append PySem.F.type_list_append mt_append (pv 5) (pa_cons (pe_refd (k := 6) (T := T3 PA PF PL) DS rfl TB rfl mem_a hu1 hr (LamX.lamS_by (by rfl)) rfl (fun _ _ _ _ _ => rfl) (fun _ _ _ _ _ _ _ hr2 => (pe_def D_played hr2 rfl (passes_call (takes_of rfl rfl rfl rfl) (fun _ _ _ _ h => h)) (pa_cons (pv 0) (pa_cons (pv 1) (pa_cons (pv 2) (pa_cons (pv 3) (pa_cons pe_non pa_nil)))))))) pa_nil)))
 (pss_one (ps_ret (pe_cmpR (op_eqDK (K := K) rfl hr.units) (pv 5) (pe_op op_rep (pe_lst (pa_cons (pv 4) pa_nil)) pe_int) (nomark _)))))))), ?_⟩
    have ga : ∀ v5 : Option V, GvA (T3 PA PF PL) (tCons (tVar 1) (tCons (tVar 2) (tCons (tVar 3) tNil))) [some xn, some xr, some xl, some xk, some xd, v5] H [dr, dl, dk] := fun v5 => gv_cons (gv_var rfl h4.r) (gv_cons (gv_var rfl h4.l) (gv_cons (gv_var rfl h4.k) gv_nil))
    have ga5 : ∀ v5 : Option V, GvA (T3 PA PF PL) (tCons (tVar 1) (tCons (tVar 2) (tCons (tVar 3) (tCons (tC .non) tNil)))) [some xn, some xr, some xl, some xk, some xd, v5] H [dr, dl, dk, .none] := fun v5 => gv_cons (gv_var rfl h4.r) (gv_cons (gv_var rfl h4.l) (gv_cons (gv_var rfl h4.k) (gv_cons gv_non gv_nil)))
    refine ref_call (bads_finds c1 h4.len) (i := 0) rfl h4.n (ga none) (.refl _) hT fun r1 G1 e1 t1 a1 => ⟨lt1 _ (by show 1 ≤ 100000; decide), fun l nl => ?_⟩
    have B1 := ToldAt.begin e1 t1 a1 nl
    refine ⟨_, rfl, .inl ⟨rfl, _, sq B1.at_⟩, ref_call (bads_finds c1 h4.len) (i := 0) rfl h4.n (ga _) B1.ext B1.tabs fun r2 G2 e2 t2 a2 => ?_⟩
    obtain ⟨l2, B2⟩ := B1.step e2 t2 a2
    refine ⟨l, _, _, rfl, rfl, l2, lt2 _ (by show 1 ≤ 100000; decide), ?_⟩
    refine ⟨_, rfl, .inl ⟨rfl, _, sq B2.at_⟩, ref_call (bads_by c2 h4.len) (i := 0) rfl h4.n (ga _) B2.ext B2.tabs fun r3 G3 e3 t3 a3 => ?_⟩
    obtain ⟨l3, B3⟩ := B2.step e3 t3 a3
    refine ⟨l, _, _, rfl, rfl, l3, lt2 _ (by show 2 ≤ 100000; decide), ?_⟩
    refine ⟨_, rfl, .inl ⟨rfl, _, sq B3.at_⟩, ref_call (bads_played (.inl c1) h4.len) (i := 0) rfl h4.n (ga5 _) B3.ext B3.tabs fun r4 G4 e4 t4 a4 => ?_⟩
    obtain ⟨l4, B4⟩ := B3.step e4 t4 a4
    refine ⟨l, _, _, rfl, rfl, l4, lt2 _ (by show 3 ≤ 100000; decide), ?_⟩
    have hv : ∀ r ∈ [r1, r2, r3, r4], Dv (upd G4 l (.lst (([r1] ++ [r2] ++ [r3]).map V.ref ++ [.ref r4]))) (.ref r) (erD dn e) := fun r hr => .tup (B4.all r hr) (.cons (.str _) (.cons (erV_dv (h4.n.ext B4.ext) e) .nil))
    have hl : Dv (upd G4 l (.lst (([r1] ++ [r2] ++ [r3]).map V.ref ++ [.ref r4]))) (.ref l) (four (erD dn e)) :=
      .lst upd_same (.cons (hv r1 (by simp)) (.cons (hv r2 (by simp)) (.cons (hv r3 (by simp)) (.cons (hv r4 (by simp)) .nil))))
    refine gv_eq (K := K) (d := four (erD dn e)) (gv_var rfl hl) (gv_rep (n := 4) (gv_lst (gv_cons (gv_var rfl (hxd.ext B4.ext)) gv_nil)) (Nat.le_of_ble_eq_true rfl) (by decide)) (dic_four hc) (shaped_four hc) (.refl _) B4.tabs fun H2 e5 t5 => q H2 (B4.ext.trans e5) t5
end
end K1


set_option Elab.async false
set_option linter.all false
set_option maxRecDepth 100000
set_option maxHeartbeats 1000000
namespace K1
open PySem PySem.Spec PyProof.Rows L2 RZ
theorem ten {p : Int → Bool} (h : ∀ i : Fin 10, p ((i.val : Int) + 1) = true) {n : Int} (h1 : 1 ≤ n) (h2 : n ≤ 10) : p n = true := by
  have := h ⟨(n - 1).toNat, by omega⟩
  rwa [show (((n - 1).toNat : Nat) : Int) + 1 = n by omega] at this
theorem gv_add {T : List (Addr × Str)} {σ : L2.St} {H : Hp} {i : Nat} {n m : Int} (hi : σ[i]? = some (some (.int n))) : Gv T (tOp (rI0 fun i j => V.int (i + j)) (tVar i) (tC (.int m))) σ H (.int (n + m)) :=
  fun H1 _ t Q k => ⟨_, hi, n, m, rfl, rfl, k _ H1 (.refl _) t (.int _)⟩
theorem gv_neg {T : List (Addr × Str)} {σ : L2.St} {H : Hp} {n : Int} : Gv T (tUn (rU fun i => .int (-i)) (tC (.int n))) σ H (.int (-n)) :=
  fun H1 _ t Q k => ⟨n, rfl, k _ H1 (.refl _) t (.int _)⟩
theorem gv_ask {T : List (Addr × Str)} {σ : L2.St} {H : Hp} : Gv T (tLst (tCons (tTup (tCons (tC (.str "ask")) tNil)) tNil)) σ H (.list [.tuple [.str "ask"]]) := gv_lst (gv_cons (gv_tup (gv_cons (gv_str _) gv_nil)) gv_nil)
def askL : PyData := .list [.tuple [.str "ask"]]
def fateOdds (n : Int) : List PyData := [.none, .list [], .tuple [.tuple [.int 1]], .tuple [.tuple [.int 1, .int 99]], .tuple [.tuple [.int n, .int 0], .tuple [.int n, .int 0]], .tuple [.tuple [.bool true, .int 0]], .tuple [.tuple [.int 1, .int (-1)]], .tuple [.tuple [.int (n + 1), .int 0]]]
def twice (n : Int) : PyData := .tuple [.tuple [.int 1, .int 0], .tuple [.int n, .int 0]]
def fateP (n : Int) : Bool := decide (chk none (.int n) askL (.tuple [.int n]) (.int 2) = none) && ((fateOdds n).all fun d => !fateOk 1 [n] 2 d) && (decide (n = 1) || (decide (chk none (.int n) askL (.tuple [.int 1, .int n]) (.int 1) = none) && !fateOk 1 [1, n] 1 (twice n)))
theorem fate_p : ∀ i : Fin 10, fateP ((i.val : Int) + 1) = true := by decide +kernel
def spFts (PA PF PL : Addr) : Sp := fun vs H Q _ => ∃ (n : Int), vs = [.int n] ∧ 1 ≤ n ∧ n ≤ 10 ∧ LamX.Tabs (T3 PA PF PL) H ∧ ∀ H', LamX.ExtN H H' → LamX.Tabs (T3 PA PF PL) H' → Q (.bl true) H'
theorem cmp_fate {dn : PyData} : Cmp (erP dn (.why "fate")) := ⟨(show PyData.canLay0 (.str "fate") = true by decide +kernel), Nat.zero_le _, rfl⟩
section
variable {P : Program} {w : World} {K : PySem.W.Frag} {mg : Str → Option Value} {base : Heap} {CN CR CV PA PF PL c : Addr}
theorem ok_fts {f : Addr} {oc : Value} {od : Option Addr} {kV doc pm : Value} {an : Option Addr} {ct : Value} {osl : Array (Option Value)} (T : Bj mg) (ap : Ap PA PF PL) (DS : RefK P K mg CN CR CV) (TB : LamX.TabB base mg c PF)
    (D_played : Def P w K mg base (L2.CX P w) 6 "played" nPlayed (spPlayed CN CR CV))
    (lk : K.lookup f = some ⟨oc, od, .func (PySem.W.fnOf "_law_fates_refused" "_law_fates_refused" (defArgs sFts) (defBody sFts) (defScope sFts) .none kV doc pm an (.ref c) ct), osl⟩) (hcd : PySem.W.codeIn K (.ref c) "_law_fates_refused" = true) :
    FnOk P w K mg base CX0 9 f (PySem.W.fnOf "_law_fates_refused" "_law_fates_refused" (defArgs sFts) (defBody sFts) (defScope sFts) .none kV doc pm an (.ref c) ct) pFts (spFts PA PF PL) := by
  have nd := scFts.nd
  have hu1 := ap.f
  refine fn_of lk hcd scFts (fun vs H Q E h => ?_) (fun A outer s H vs Q E hr h => ?_)
  · obtain ⟨n, rfl, _⟩ := h
    rfl
  · obtain ⟨n, rfl, n1, n2, hT, q⟩ := h
    have fp := ten fate_p n1 n2
    unfold fateP at fp
    rw [Bool.and_eq_true, Bool.and_eq_true] at fp
    obtain ⟨⟨p1, p2⟩, p3⟩ := fp
    have p1' := of_decide_eq_true p1
    refine ⟨_, PSs.nox (pss_cons (ps_for PassesOwn.never rfl (pi_listK (K := K) rfl (pe_G (T3 PA PF PL) (pe_lst (pa_cons pe_non (pa_cons (pe_lst pa_nil) (pa_cons (pe_tup (pa_cons (pe_tup (pa_cons pe_int pa_nil)) pa_nil)) (pa_cons (pe_tup (pa_cons (pe_tup (pa_cons pe_int (pa_cons pe_int pa_nil))) pa_nil)) (pa_cons (pe_tup (pa_cons (pe_tup (pa_cons (pv 0) (pa_cons pe_int pa_nil))) (pa_cons (pe_tup (pa_cons (pv 0) (pa_cons pe_int pa_nil))) pa_nil))) (pa_cons (pe_tup (pa_cons (pe_tup (pa_cons pe_bl (pa_cons pe_int pa_nil))) pa_nil)) (pa_cons (pe_tup (pa_cons (pe_tup (pa_cons pe_int (pa_cons (pe_un un_neg pe_int) pa_nil))) pa_nil)) (pa_cons (pe_tup (pa_cons (pe_tup (pa_cons (pe_op op_add (pv 0) pe_int) (pa_cons pe_int pa_nil))) pa_nil)) pa_nil))))))))))) (pg_name (i := 1) nd rfl (Or.inr rfl))
  (pss_one (ps_if (pt_neG (T3 PA PF PL) (pt_cmpR (op_neDK (K := K) rfl hr.units) (pe_refd (k := 6) (T := T3 PA PF PL) DS rfl TB rfl mem_f hu1 hr (LamX.lamS_by (by rfl)) rfl (fun _ _ _ _ _ => rfl) (fun _ _ _ _ _ _ _ hr2 => (pe_def D_played hr2 rfl (passes_call (takes_of rfl rfl rfl rfl) (fun _ _ _ _ h => h)) (pa_cons (pv 0) (pa_cons (pe_lst (pa_cons (pe_tup (pa_cons pe_str pa_nil)) pa_nil)) (pa_cons (pe_tup (pa_cons (pv 0) pa_nil)) (pa_cons pe_int (pa_cons (pv 1) pa_nil)))))))) (pe_tup (pa_cons pe_str (pa_cons pe_str pa_nil))) (nomark _)))
  (pss_one (ps_ret pe_bl))
  pss_nil)))
 (pss_cons (ps_set (i := 2) nd rfl (Or.inr rfl) (pe_G (T3 PA PF PL) (pe_tup (pa_cons (pe_tup (pa_cons pe_int (pa_cons pe_int pa_nil))) (pa_cons (pe_tup (pa_cons (pv 0) (pa_cons pe_int pa_nil))) pa_nil)))))
 (pss_one (ps_ret (pe_or (pe_cmpR op_eq (pv 0) pe_int (nomark _)) (pe_one (pe_eqG (T3 PA PF PL) (pe_cmpR (op_eqDK (K := K) rfl hr.units) (pe_refd (k := 6) (T := T3 PA PF PL) DS rfl TB rfl mem_f hu1 hr (LamX.lamS_by (by rfl)) rfl (fun _ _ _ _ _ => rfl) (fun _ _ _ _ _ _ _ hr2 => (pe_def D_played hr2 rfl (passes_call (takes_of rfl rfl rfl rfl) (fun _ _ _ _ h => h)) (pa_cons (pv 0) (pa_cons (pe_lst (pa_cons (pe_tup (pa_cons pe_str pa_nil)) pa_nil)) (pa_cons (pe_tup (pa_cons pe_int (pa_cons (pv 0) pa_nil))) (pa_cons pe_int (pa_cons (pv 2) pa_nil)))))))) (pe_tup (pa_cons pe_str (pa_cons pe_str pa_nil))) (nomark _))))))))), ?_⟩
    refine ⟨.list (fateOdds n), hT, gv_lst (gv_cons gv_non (gv_cons (gv_lst gv_nil) (gv_cons (gv_tup (gv_cons (gv_tup (gv_cons (gv_int 1) gv_nil)) gv_nil)) (gv_cons (gv_tup (gv_cons (gv_tup (gv_cons (gv_int 1) (gv_cons (gv_int 99) gv_nil))) gv_nil)) (gv_cons (gv_tup (gv_cons (gv_tup (gv_cons (gv_var rfl (.int n)) (gv_cons (gv_int 0) gv_nil))) (gv_cons (gv_tup (gv_cons (gv_var rfl (.int n)) (gv_cons (gv_int 0) gv_nil))) gv_nil)))
      (gv_cons (gv_tup (gv_cons (gv_tup (gv_cons (gv_bl true) (gv_cons (gv_int 0) gv_nil))) gv_nil)) (gv_cons (gv_tup (gv_cons (gv_tup (gv_cons (gv_int 1) (gv_cons gv_neg gv_nil))) gv_nil)) (gv_cons (gv_tup (gv_cons (gv_tup (gv_cons (gv_add rfl) (gv_cons (gv_int 0) gv_nil))) gv_nil)) gv_nil)))))))), fun v H1 e1 t1 hv => ?_⟩
    obtain ⟨a, xs, rfl, ha, hA⟩ := hv.lstD
    refine ⟨a, rfl, ⟨_, sq ha⟩, for_list (K := K) (a := a) (xs := xs) (fun i σ H2 => ∃ v1, σ = [some (.int n), v1, none] ∧ LamX.ExtN H1 H2 ∧ LamX.Tabs (T3 PA PF PL) H2) ?_ ?_ ?_ ?_⟩
    · exact ⟨none, rfl, .refl _, t1⟩
    · rintro i σ H2 _ ⟨v1, rfl, e2, t2⟩
      exact sq (e2 _ _ ha fun _ z => by cases z)
    · rintro i x σ H2 hx ⟨v1, rfl, e2, t2⟩
      obtain ⟨d, hd, hdv⟩ := (hA.ext e2).get hx
      have fk : fateOk 1 [n] 2 d = false := by
        have hm : d ∈ fateOdds n := List.mem_of_getElem? hd
        simpa using List.all_eq_true.mp p2 d hm
      exact ⟨erD (.int n) (.why "fate"), t2, (gv_ref (i := 0) (bads_played (.inr ⟨rfl, p1', fk⟩) (Nat.le_of_ble_eq_true rfl)) rfl (.int n) (gv_cons gv_ask (gv_cons (gv_tup (gv_cons (gv_var rfl (.int n)) gv_nil)) (gv_cons (gv_int 2) (gv_cons (gv_var rfl hdv) gv_nil)))))
        , (gv_tup (gv_cons (gv_str _) (gv_cons (gv_str _) gv_nil))), dic_er cmp_fate, shaped_er cmp_fate, fun H3 e3 t3 => itbF rfl ⟨some x, rfl, e2.trans e3, t3⟩⟩
    · rintro σ H2 ⟨v1, rfl, e2, t2⟩
      refine ⟨twice n, t2, gv_tup (gv_cons (gv_tup (gv_cons (gv_int 1) (gv_cons (gv_int 0) gv_nil))) (gv_cons (gv_tup (gv_cons (gv_var rfl (.int n)) (gv_cons (gv_int 0) gv_nil))) gv_nil)), fun v H3 e3 t3 hv => ?_⟩
      refine ⟨_, rfl, rfl, _, rfl, ?_⟩
      by_cases c1 : n = 1
      · exact itbT (by rw [c1]; rfl) (q H3 ((e1.trans e2).trans e3) t3)
      · refine itbF (decide_eq_false fun h => c1 (V.int.inj h)) ?_
        rw [decide_eq_false c1, Bool.false_or, Bool.and_eq_true] at p3
        have k1 := of_decide_eq_true p3.1
        have k2 : fateOk 1 [1, n] 1 (twice n) = false := by simpa using p3.2
        exact ⟨erD (.int n) (.why "fate"), t3, (gv_ref (i := 0) (bads_played (.inr ⟨rfl, k1, k2⟩) (Nat.le_of_ble_eq_true rfl)) rfl (.int n) (gv_cons gv_ask (gv_cons (gv_tup (gv_cons (gv_int 1) (gv_cons (gv_var rfl (.int n)) gv_nil))) (gv_cons (gv_int 1) (gv_cons (gv_var rfl hv) gv_nil)))))
          , (gv_tup (gv_cons (gv_str _) (gv_cons (gv_str _) gv_nil))), dic_er cmp_fate, shaped_er cmp_fate, fun H4 e4 t4 => q H4 (((e1.trans e2).trans e3).trans e4) t4⟩
end
end K1


set_option Elab.async false
set_option linter.all false
set_option maxRecDepth 100000
set_option maxHeartbeats 2000000
namespace K1
open PySem PySem.Spec PyProof.Rows L2 RZ
/-! ### the facts of the law -/
def askT : PyData := .tuple [.str "ask"]
def lookT : PyData := .tuple [.str "look", .int 1]
def takeT (n : Int) : PyData := .tuple [.str "take", .int n]
def overT (n : Int) : PyData := .tuple [.str "look", .int (n + 1)]
def SomeOk (n : Int) (ds : List PyData) : Prop := ∀ d ∈ ds, d = askT ∨ d = lookT ∨ d = takeT n
def O1 (n : Int) : List PyData := [.int 0, .int 11, .int (-1), .bool true, .none, .str "3", .list [.int n], .int (10 ^ (20 : Int).toNat)]
def O2a : List PyData := [.none, .tuple [], .tuple [.str "ask", .int 1], .tuple [.str "look"], .tuple [.str "look", .int 0], .tuple [.str "look", .bool true], .tuple [.str "give", .int 1], .list [.str "ask"], .str "ask"]
def O2 : List PyData := O2a ++ [.tuple [.str "take", .none]]
def O3 : List PyData := [.none, .str "ask", .dict [], .int 5, .list (List.replicate 9 [PyData.tuple [.str "ask"]]).flatten]
def O4 (n : Int) : List PyData := [.none, .list [.int 1], .tuple [.int 0], .tuple [.int (n + 1)], .tuple [.int 1, .int 1], .tuple [.bool true], .str "1"]
def O5 : List PyData := [.none, .int (-1), .int 3, .bool true, .str "1"]
def cmpB (d : PyData) : Bool := d.canLay0 && decide (d.depth ≤ 1) && noDic d
theorem cmp_of {d : PyData} (h : cmpB d = true) : Cmp d := by
  unfold cmpB at h
  rw [Bool.and_eq_true, Bool.and_eq_true] at h
  exact ⟨h.1.1, of_decide_eq_true h.1.2, h.2⟩
def lawP (n : Int) : Bool := numOk (.int n) && (isCmd none askT && isCmd none lookT && isCmd none (takeT n)) && (isCmd (some n) askT && isCmd (some n) lookT && isCmd (some n) (takeT n)) &&
  ((O1 n).all fun d => !numOk d && cmpB d) && (O2.all fun d => !isCmd none d && !isCmd (some n) d) && (O3.all fun d => decide (rowErr none d = some (-1)) && decide (rowErr (some n) d = some (-1))) &&
  ((O4 n).all fun d => !looseOk n d && decide ((itemsD d).length ≤ 1000)) && looseOk n (.tuple [.int 1]) && decide ((chkN (.int n)).or (chkR (some n) (.list [overT n])) = some (.row 0)) &&
  decide (chk (some n) (.int n) (.list [askT, overT n]) .none (.int 0) = some (.row 1))
theorem law_p : ∀ i : Fin 10, lawP ((i.val : Int) + 1) = true := by decide +kernel
theorem k_p : (O5.all fun d => !kOk d) = true := by decide +kernel
structure LawP (n : Int) : Prop where
  num : numOk (.int n) = true
  a0 : isCmd none askT = true
  l0 : isCmd none lookT = true
  t0 : isCmd none (takeT n) = true
  a1 : isCmd (some n) askT = true
  l1 : isCmd (some n) lookT = true
  t1 : isCmd (some n) (takeT n) = true
  o1 : ∀ d ∈ O1 n, numOk d = false ∧ Cmp d
  o2 : ∀ d ∈ O2, isCmd none d = false ∧ isCmd (some n) d = false
  o3 : ∀ d ∈ O3, rowErr none d = some (-1) ∧ rowErr (some n) d = some (-1)
  o4 : ∀ d ∈ O4 n, looseOk n d = false ∧ (itemsD d).length ≤ 1000
  one : looseOk n (.tuple [.int 1]) = true
  i1 : (chkN (.int n)).or (chkR (some n) (.list [overT n])) = some (.row 0)
  i2 : chk (some n) (.int n) (.list [askT, overT n]) .none (.int 0) = some (.row 1)
theorem law_of {n : Int} (h1 : 1 ≤ n) (h2 : n ≤ 10) : LawP n := by
  have h := ten law_p h1 h2
  unfold lawP at h
  simp only [Bool.and_eq_true, List.all_eq_true, Bool.not_eq_true', decide_eq_true_eq] at h
  obtain ⟨⟨⟨⟨⟨⟨⟨⟨⟨a, ⟨b, c⟩, d⟩, ⟨e, f⟩, g⟩, o1⟩, o2⟩, o3⟩, o4⟩, i⟩, j⟩, k⟩ := h
  exact ⟨a, b, c, d, e, f, g, fun d hd => ⟨(o1 d hd).1, cmp_of (o1 d hd).2⟩, o2, o3, o4, i, j, k⟩
theorem some_all {n : Int} {ds : List PyData} (L : LawP n) (h : SomeOk n ds) : ds.all (isCmd none) = true ∧ ds.all (isCmd (some n)) = true := by
  constructor
  · rw [List.all_eq_true]
    intro d hd
    rcases h d hd with rfl | rfl | rfl
    · exact L.a0
    · exact L.l0
    · exact L.t0
  · rw [List.all_eq_true]
    intro d hd
    rcases h d hd with rfl | rfl | rfl
    · exact L.a1
    · exact L.l1
    · exact L.t1
theorem firstBad_app {p : PyData → Bool} {r : List PyData} : ∀ {ds : List PyData} {i : Int}, ds.all p = true → firstBad p (ds ++ r) i = firstBad p r (i + ds.length)
  | [], i, _ => by simp
  | d :: t, i, h => by
    rw [List.all_cons, Bool.and_eq_true] at h
    show (if p d = true then firstBad p (t ++ r) (i + 1) else some i) = _
    rw [if_pos h.1, firstBad_app h.2, List.length_cons]
    congr 1
    push_cast
    omega
theorem rowErr_app {most : Option Int} {ds r : List PyData} (h : ds.all (isCmd most) = true) (hl : ds.length + r.length ≤ 8) : rowErr most (.list (ds ++ r)) = firstBad (isCmd most) r ds.length := by
  show (if true = true then (if 8 < (ds ++ r).length then some (-1) else firstBad (isCmd most) (ds ++ r) 0) else some (-1)) = _
  rw [if_pos rfl, if_neg (by rw [List.length_append]; omega), firstBad_app h, Int.zero_add]
theorem rowErr_long {most : Option Int} {ds : List PyData} (hl : 8 < ds.length) : rowErr most (.list ds) = some (-1) := by
  show (if true = true then (if 8 < ds.length then some (-1) else _) else some (-1)) = _
  rw [if_pos rfl, if_pos hl]
theorem rowErr_ok {most : Option Int} {ds : List PyData} (h : ds.all (isCmd most) = true) (hl : ds.length ≤ 8) : rowErr most (.list ds) = none := by
  have := rowErr_app (r := []) h (by simpa using hl)
  rwa [List.append_nil] at this
theorem chk_num {most : Option Int} {dn dr dl dk : PyData} (h : numOk dn = false) : chk most dn dr dl dk = some .num := by
  unfold chk chkN
  rw [h, if_neg Bool.false_ne_true]; rfl
theorem chk_row {most : Option Int} {dn dr dl dk : PyData} {i : Int} (h : numOk dn = true) (hr : rowErr most dr = some i) : chk most dn dr dl dk = some (.row i) := by
  unfold chk chkN chkR
  rw [if_pos h, hr]; rfl
theorem chkT_row {most : Option Int} {dn dr : PyData} {i : Int} (h : numOk dn = true) (hr : rowErr most dr = some i) : (chkN dn).or (chkR most dr) = some (.row i) := by
  unfold chkN chkR
  rw [if_pos h, hr]; rfl
theorem chkT_num {most : Option Int} {dn dr : PyData} (h : numOk dn = false) : (chkN dn).or (chkR most dr) = some .num := by
  unfold chkN
  rw [h, if_neg Bool.false_ne_true]; rfl
theorem chk_loose {most : Option Int} {n : Int} {dr dl dk : PyData} (h : numOk (.int n) = true) (hr : rowErr most dr = none) (hl : looseOk n dl = false) : chk most (.int n) dr dl dk = some (.why "loose") := by
  unfold chk chkN chkR chkO
  rw [if_pos h, hr, if_neg (show ¬ looseOk (dI (.int n)) dl = true by show ¬ looseOk n dl = true; rw [hl]; exact Bool.false_ne_true)]; rfl
theorem chk_k {most : Option Int} {n : Int} {dr dl dk : PyData} (h : numOk (.int n) = true) (hr : rowErr most dr = none) (hl : looseOk n dl = true) (hk : kOk dk = false) : chk most (.int n) dr dl dk = some (.why "k") := by
  unfold chk chkN chkR chkO
  rw [if_pos h, hr, if_pos (show looseOk (dI (.int n)) dl = true from hl), if_neg (by rw [hk]; exact Bool.false_ne_true)]; rfl
theorem cmp_int (i : Int) : Cmp (.int i) := ⟨rfl, Nat.zero_le _, rfl⟩
theorem cmp_loose : Cmp (.str "loose") := ⟨by decide +kernel, Nat.zero_le _, rfl⟩
theorem cmp_k : Cmp (.str "k") := ⟨by decide +kernel, Nat.zero_le _, rfl⟩
/-- the index that the law expects -/
def atD (m : Nat) : Int := if m < 7 then m else -1
theorem odd_row {most : Option Int} {ds : List PyData} {d : PyData} (h : ds.all (isCmd most) = true) (hl : ds.length ≤ 7) (hd : isCmd most d = false) : rowErr most (.list (ds ++ [d, .none])) = some (atD ds.length) := by
  unfold atD
  by_cases c : ds.length < 7
  · rw [if_pos c, rowErr_app h (by show ds.length + 2 ≤ 8; omega)]
    show (if isCmd most d = true then _ else some (ds.length : Int)) = _
    rw [if_neg (by rw [hd]; exact Bool.false_ne_true)]
  · rw [if_neg c, rowErr_long (by rw [List.length_append]; show 8 < ds.length + 2; omega)]
theorem odd_turn {most : Option Int} {ds : List PyData} {d : PyData} (h : ds.all (isCmd most) = true) (hl : ds.length < 7) (hd : isCmd most d = false) : rowErr most (.list (ds ++ [d])) = some (ds.length : Int) := by
  rw [rowErr_app h (by show ds.length + 1 ≤ 8; omega)]
  show (if isCmd most d = true then _ else some (ds.length : Int)) = _
  rw [if_neg (by rw [hd]; exact Bool.false_ne_true)]
/-! ### more that tells data; the call of all -/
section
variable {T : List (Addr × Str)} {σ : L2.St} {H : Hp} {K : PySem.W.Frag}
theorem gv_pow {n : Int} {m : Int} (h : CPow n m) : Gv T (tOp (rI CPow fun i j => .int (i ^ j.toNat)) (tC (.int n)) (tC (.int m))) σ H (.int (n ^ m.toNat)) :=
  fun H1 _ t Q k => ⟨n, m, rfl, rfl, h, k _ H1 (.refl _) t (.int _)⟩
theorem gv_len {i : Nat} {S : Addr} {xs : List V} (hi : σ[i]? = some (some (.ref S))) (hS : H S = some (.lst xs)) : Gv T (tCB (fun xs H Q => ∃ p ys, xs = [V.ref p] ∧ (SqL K H p ys ∨ SqT K H p ys) ∧ Q (V.int ys.length) H) (tCons (tVar i) tNil)) σ H (.int xs.length) :=
  fun H1 e t Q k => ⟨_, hi, S, xs, rfl, .inl (sq (e _ _ hS fun _ z => by cases z)), k _ H1 (.refl _) t (.int _)⟩
end
def tAllG (T : List (Addr × Str)) (ta : TA) : TE := fun σ H Q => ∃ dn dr dl dk e, LamX.Tabs T H ∧ GvA T ta σ H [dn, dr, dl, dk, erD dn e] ∧ (itemsD dl).length ≤ 1000 ∧ Cmp (erP dn e) ∧ chk none dn dr dl dk = some e ∧ chk (some (dI dn)) dn dr dl dk = some e ∧
  ∀ H2, LamX.ExtN H H2 → LamX.Tabs T H2 → Q (.bl true) H2
theorem pe_allG {X : Cx} {CN CR CV PA PF PL : Addr} {e : Expr} {E : XK} {ta : TA} (h : PE X e (tCall (spAll CN CR CV PA PF PL) [] E ta)) : PE X e (tAllG (T3 PA PF PL) ta) := pe_weak h fun σ H Q ⟨dn, dr, dl, dk, er, t, g, hl, hc, c1, c2, k⟩ =>
  g H (.refl _) t _ fun vs H2 e2 t2 hA => by
    cases hA with
    | cons h1 hA =>
    cases hA with
    | cons h2 hA =>
    cases hA with
    | cons h3 hA =>
    cases hA with
    | cons h4 hA =>
    cases hA with
    | cons h5 hA =>
    cases hA
    exact ⟨_, _, _, _, _, dn, dr, dl, dk, er, rfl, ⟨h1, h2, h3, h4, hl⟩, h5, hc, c1, c2, t2, fun H3 e3 t3 => k H3 (e2.trans e3) t3⟩
end K1


set_option Elab.async false
set_option linter.all false
set_option maxRecDepth 100000
set_option maxHeartbeats 4000000
namespace K1
open PySem PySem.Spec PyProof.Rows L2 RZ
abbrev sLaw : Stmt := topS 39
abbrev nLaw : List Str := ["_law_script", "_law_cell", "_law_well_here", "_law_n", "_law_some", "_law_odd", "_law_odds", "_law_at", "_law_k"]
abbrev pLaw : List Str := ["_law_script"]
theorem scLaw : FnScope nLaw pLaw (defScope sLaw) := ⟨rfl, rfl, rfl, by decide +kernel, rfl, by decide +kernel, by decide +kernel⟩
theorem sl_listK {X : Cx} {K : PySem.W.Frag} (h : X.K = K) : SlR X (rSlL K) := by subst h; exact sl_list
/-- all but p and the tables stay -/
def FrN (p : Addr) (H H' : Hp) : Prop := ∀ b o, b ≠ p → H b = some o → (∀ ps, o ≠ .tbl ps) → H' b = some o
theorem sqF {K : PySem.W.Frag} {H H' : Hp} {p a : Addr} {xs : List V} (h : SqL K H a xs) (np : H p = none) (e : FrN p H H') : SqL K H' a xs := by
  rcases h with (h | ⟨o, h⟩) | h
  · exact .inl (.inl (e _ _ (fun z => by rw [z, np] at h; cases h) h fun ps z => by cases z))
  · exact .inl (.inr ⟨o, e _ _ (fun z => by rw [z, np] at h; cases h) h fun ps z => by cases z⟩)
  · exact .inr h
theorem tabs_ext {T : List (Addr × Str)} {p : Addr} {H H' : Hp} (hw : WellAt H p) (e : Ext p H H') (hT : LamX.Tabs T H) : LamX.Tabs T H' := fun x hx => by
  obtain ⟨ps, h1, h2, h3⟩ := hT x hx
  have np : ∀ a, (∃ ps, H a = some (.tbl ps)) → a ≠ p := fun a ⟨ps, h⟩ z => by
    obtain ⟨c, m, t, e⟩ := hw
    rw [z, e] at h; cases h
  refine ⟨ps, e _ _ (np _ ⟨ps, h1⟩) h1, h2, fun pos cv hc => ?_⟩
  obtain ⟨c', g1, g2⟩ := h3 pos cv hc
  refine ⟨c', g1, e _ _ (fun z => ?_) g2⟩
  obtain ⟨c, m, t, e⟩ := hw
  rw [z, e] at g2; cases g2
def spLaw (K : PySem.W.Frag) (PA PF PL : Addr) : Sp := fun vs H Q _ => ∃ (a : Addr) (xs : List Int), vs = [.ref a] ∧ SqL K H a (xs.map V.int) ∧ xs.length ≤ 63 ∧ LamX.Tabs (T3 PA PF PL) H ∧ ∀ H', Q (.bl true) H'
/-- a drawn command -/
def Drawn (n : Int) (p : Addr) (H : Hp) (x : V) : Prop := ∃ t, x = .ref t ∧ t ≠ p ∧ (H t = some (.tup [.str "ask"]) ∨ H t = some (.tup [.str "look", .int 1]) ∨ H t = some (.tup [.str "take", .int n]))
theorem Drawn.ext {n : Int} {p : Addr} {H H' : Hp} {x : V} (h : Drawn n p H x) (e : Ext p H H') : Drawn n p H' x := by
  obtain ⟨t, rfl, nt, h⟩ := h
  exact ⟨t, rfl, nt, h.imp (e _ _ nt) (Or.imp (e _ _ nt) (e _ _ nt))⟩
theorem Drawn.mut {n : Int} {p D : Addr} {H : Hp} {x : V} {xs : List V} {o : HO} (h : Drawn n p H x) (hD : H D = some (.lst xs)) : Drawn n p (upd H D o) x := by
  obtain ⟨t, rfl, nt, h⟩ := h
  have nD : t ≠ D := fun z => by subst z; rw [hD] at h; simp at h
  refine ⟨t, rfl, nt, ?_⟩
  rw [upd_ne nD]; exact h
theorem drawn_all {n : Int} {p : Addr} {H : Hp} : ∀ xs : List V, (∀ x ∈ xs, Drawn n p H x) → ∃ ds, DvA H xs ds ∧ SomeOk n ds
  | [], _ => ⟨[], .nil, fun d hd => by simp at hd⟩
  | x :: r, h => by
    obtain ⟨ds, hA, hs⟩ := drawn_all r fun y hy => h y (List.mem_cons_of_mem _ hy)
    obtain ⟨t, rfl, nt, ht⟩ := h x List.mem_cons_self
    rcases ht with ht | ht | ht
    · exact ⟨askT :: ds, .cons (.tup ht (.cons (.str _) .nil)) hA, fun d hd => (List.mem_cons.mp hd).elim (fun e => .inl e) (hs d)⟩
    · exact ⟨lookT :: ds, .cons (.tup ht (.cons (.str _) (.cons (.int _) .nil))) hA, fun d hd => (List.mem_cons.mp hd).elim (fun e => .inr (.inl e)) (hs d)⟩
    · exact ⟨takeT n :: ds, .cons (.tup ht (.cons (.str _) (.cons (.int _) .nil))) hA, fun d hd => (List.mem_cons.mp hd).elim (fun e => .inr (.inr e)) (hs d)⟩
theorem gv_dic {T : List (Addr × Str)} {σ : L2.St} {H : Hp} : Gv T tDNewK σ H (.dict []) := fun H1 _ t Q k => fun l nl => k _ _ (LamX.ExtN.of (same_new nl)) (t.ext (same_new nl)) (.dic upd_same)
def LSt (a p S : Addr) (c : V) (n : Int) (T : List (Addr × Str)) (H0 : Hp) (σ : L2.St) (H1 : Hp) : Prop := ∃ v5 v6 v7, σ = [some (.ref a), some c, some (.ref p), some (.int n), some (.ref S), v5, v6, v7, none] ∧ LamX.ExtN H0 H1 ∧ LamX.Tabs T H1
section
variable {P : Program} {w : World} {K : PySem.W.Frag} {mg : Str → Option Value} {base : Heap} {CN CR CV PA PF PL c : Addr}
theorem ok_law {f : Addr} {oc : Value} {od : Option Addr} {kV doc pm : Value} {an : Option Addr} {ct : Value} {osl : Array (Option Value)} (T : Bj mg) (ap : Ap PA PF PL) (DS : RefK P K mg CN CR CV) (TB : LamX.TabB base mg c PL)
    (D_cell : Def P w K mg base CX0 1 "_law_cell_at" nCell (spCell K)) (D_well : Def P w K mg base CX0 1 "_law_well" nWell spWell) (D_draw : Def P w K mg base CX0 1 "_law_draw" pDraw spDraw) (D_one : Def P w K mg base CX0 2 "_law_one" nOne spOne)
    (D_all : Def P w K mg base CX0 9 "_law_all" pAll (spAll CN CR CV PA PF PL)) (D_fts : Def P w K mg base CX0 9 "_law_fates_refused" pFts (spFts PA PF PL))
    (D_turned : Def P w K mg base (L2.CX P w) 5 "turned" nTurned (spBadT CN CR CV)) (D_by_number : Def P w K mg base (L2.CX P w) 5 "by_number" pBy (spBadBy CN CR CV))
    (lk : K.lookup f = some ⟨oc, od, .func (PySem.W.fnOf "law" "law" (defArgs sLaw) (defBody sLaw) (defScope sLaw) .none kV doc pm an (.ref c) ct), osl⟩) (hcd : PySem.W.codeIn K (.ref c) "law" = true) :
    FnOk P w K mg base CX0 10 f (PySem.W.fnOf "law" "law" (defArgs sLaw) (defBody sLaw) (defScope sLaw) .none kV doc pm an (.ref c) ct) pLaw (spLaw K PA PF PL) := by
  have nd := scLaw.nd
  have hu1 := ap.l
  refine fn_of lk hcd scLaw (fun vs H Q E h => ?_) (fun A outer s H vs Q E hr h => ?_)
  · obtain ⟨a, ns, rfl, _⟩ := h
    rfl
  · obtain ⟨a, ns, rfl, hS, hl, hT, q⟩ := h
    refine ⟨_, PSs.nox (C8.pss_cut (ps_for PassesOwn.never rfl (pi_listK (K := K) rfl (pe_op op_cat (pe_lst (pa_cons (pe_def D_cell (hr.mono (by decide)) rfl pass0 (pa_cons (pv 0) (pa_cons pe_int pa_nil))) pa_nil)) (pe_slice (sl_listK (K := K) rfl) (pv 0) (po_some pe_int) (po_some pe_int)))) (pg_name (i := 1) nd rfl (Or.inl rfl))
 (pss_cons (ps_set (i := 2) nd rfl (Or.inr rfl) (pe_def D_well (hr.mono (by decide)) rfl pass0 (pa_cons (pv 1) pa_nil)))
 (pss_cons (ps_set (i := 3) nd rfl (Or.inr rfl) (pe_op op_add pe_int (pe_def D_draw (hr.mono (by decide)) rfl pass0 (pa_cons (pv 2) (pa_cons pe_int pa_nil)))))
 (C8.pss_cut (ps_set (i := 4) nd rfl (Or.inr rfl) (pe_lc (own := [("_law_k", 8)]) (g := gName 8) (tt := tYes) rfl nd (pi_range1 rfl T.range (pa_cons (pe_def D_draw (hr.mono (by decide)) rfl pass0 (pa_cons (pv 2) (pa_cons pe_int pa_nil))) pa_nil)) (blkOk_by (own := [("_law_k", 8)]) (N := nLaw) (sc := defScope sLaw) (by decide +kernel)) (fun _ _ _ _ _ => pg_name (i := 8) nd rfl (Or.inl rfl)) (fun _ _ _ _ _ => pts_nil) (fun _ _ _ _ _ => (pe_def D_one (hr.mono (by decide)) rfl pass0 (pa_cons (pv 2) (pa_cons (pe_lst (pa_cons (pe_tup (pa_cons pe_str pa_nil)) (pa_cons (pe_tup (pa_cons pe_str (pa_cons pe_int pa_nil))) (pa_cons (pe_tup (pa_cons pe_str (pa_cons (pv 3) pa_nil))) pa_nil)))) pa_nil))))))
 (C8.pss_cut (ps_for PassesOwn.never rfl (pi_listK (K := K) rfl (pe_G (T3 PA PF PL) (pe_lst (pa_cons pe_int (pa_cons pe_int (pa_cons (pe_un un_neg pe_int) (pa_cons pe_bl (pa_cons pe_non (pa_cons pe_str (pa_cons (pe_lst (pa_cons (pv 3) pa_nil)) (pa_cons (pe_op op_pow pe_int pe_int) pa_nil))))))))))) (pg_name (i := 5) nd rfl (Or.inr rfl))
  (pss_cons (ps_if (pt_not (pt_val (pe_allG (pe_def D_all (hr.mono (by decide)) rfl pass0 (pa_cons (pv 5) (pa_cons pe_non (pa_cons pe_non (pa_cons pe_non (pa_cons (pe_tup (pa_cons pe_str (pa_cons (pv 5) pa_nil))) pa_nil)))))))))
  (pss_one (ps_ret pe_bl))
  pss_nil)
 (pss_one (ps_if (pt_neG (T3 PA PF PL) (pt_cmpR (op_neDK (K := K) rfl hr.units) (pe_refd (k := 6) (T := T3 PA PF PL) DS rfl TB rfl mem_l hu1 (hr.mono (by decide)) (LamX.lamS_by (by rfl)) rfl (fun _ _ _ _ _ => rfl) (fun _ _ _ _ _ _ _ hr2 => (pe_def D_turned (hr2.mono (by decide)) rfl (passes_call (takes_of rfl rfl rfl rfl) (fun _ _ _ _ h => h)) (pa_cons (pv 5) (pa_cons pe_non pa_nil))))) (pe_tup (pa_cons pe_str (pa_cons (pv 5) pa_nil))) (nomark _)))
  (pss_one (ps_ret pe_bl))
  pss_nil))))
 (pss_cons (ps_set (i := 6) nd rfl (Or.inl rfl) (pe_G (T3 PA PF PL) (pe_lst (pa_cons pe_non (pa_cons (pe_tup pa_nil) (pa_cons (pe_tup (pa_cons pe_str (pa_cons pe_int pa_nil))) (pa_cons (pe_tup (pa_cons pe_str pa_nil)) (pa_cons (pe_tup (pa_cons pe_str (pa_cons pe_int pa_nil))) (pa_cons (pe_tup (pa_cons pe_str (pa_cons pe_bl pa_nil))) (pa_cons (pe_tup (pa_cons pe_str (pa_cons pe_int pa_nil))) (pa_cons (pe_lst (pa_cons pe_str pa_nil)) (pa_cons pe_str pa_nil))))))))))))
 (C8.pss_cut (ps_for PassesOwn.never rfl (pi_listK (K := K) rfl (pe_G (T3 PA PF PL) (pe_op op_cat (pv 6) (pe_lst (pa_cons (pe_tup (pa_cons pe_str (pa_cons pe_non pa_nil))) pa_nil))))) (pg_name (i := 5) nd rfl (Or.inr rfl))
  (C8.pss_cut (ps_set (i := 7) nd rfl (Or.inl rfl) (pe_ifExp (pt_cmpR op_lt (pe_callB (call_lenK (K := K) rfl) (by rfl) T.len PySem.boot_len (pa_cons (pv 4) pa_nil)) pe_int (nomark _)) (pe_callB (call_lenK (K := K) rfl) (by rfl) T.len PySem.boot_len (pa_cons (pv 4) pa_nil)) (pe_un un_neg pe_int)))
 (pss_cons (ps_if (pt_not (pt_val (pe_allG (pe_def D_all (hr.mono (by decide)) rfl pass0 (pa_cons (pv 3) (pa_cons (pe_op op_cat (pv 4) (pe_lst (pa_cons (pv 5) (pa_cons pe_non pa_nil)))) (pa_cons pe_non (pa_cons pe_non (pa_cons (pe_tup (pa_cons pe_str (pa_cons (pv 7) pa_nil))) pa_nil)))))))))
  (pss_one (ps_ret pe_bl))
  pss_nil)
 (pss_one (ps_if (PW.pt (pw_and (pt_cmpR op_lt (pe_callB (call_lenK (K := K) rfl) (by rfl) T.len PySem.boot_len (pa_cons (pv 4) pa_nil)) pe_int (nomark _)) (pw_and1 (pt_neG (T3 PA PF PL) (pt_cmpR (op_neDK (K := K) rfl hr.units) (pe_refd (k := 6) (T := T3 PA PF PL) DS rfl TB rfl mem_l hu1 (hr.mono (by decide)) (LamX.lamS_by (by rfl)) rfl (fun _ _ _ _ _ => rfl) (fun _ _ _ _ _ _ _ hr2 => (pe_def D_turned (hr2.mono (by decide)) rfl (passes_call (takes_of rfl rfl rfl rfl) (fun _ _ _ _ h => h)) (pa_cons (pv 3) (pa_cons (pe_op op_cat (pv 4) (pe_lst (pa_cons (pv 5) pa_nil))) pa_nil))))) (pe_tup (pa_cons pe_str (pa_cons (pe_callB (call_lenK (K := K) rfl) (by rfl) T.len PySem.boot_len (pa_cons (pv 4) pa_nil)) pa_nil))) (nomark _))))))
  (pss_one (ps_ret pe_bl))
  pss_nil)))))
 (C8.pss_cut (ps_for PassesOwn.never rfl (pi_listK (K := K) rfl (pe_G (T3 PA PF PL) (pe_lst (pa_cons pe_non (pa_cons pe_str (pa_cons pe_dnewK (pa_cons pe_int (pa_cons (pe_op op_rep (pe_lst (pa_cons (pe_tup (pa_cons pe_str pa_nil)) pa_nil)) pe_int) pa_nil)))))))) (pg_name (i := 5) nd rfl (Or.inr rfl))
  (pss_cons (ps_if (pt_not (pt_val (pe_allG (pe_def D_all (hr.mono (by decide)) rfl pass0 (pa_cons (pv 3) (pa_cons (pv 5) (pa_cons pe_non (pa_cons pe_non (pa_cons (pe_tup (pa_cons pe_str (pa_cons (pe_un un_neg pe_int) pa_nil))) pa_nil)))))))))
  (pss_one (ps_ret pe_bl))
  pss_nil)
 (pss_one (ps_if (pt_neG (T3 PA PF PL) (pt_cmpR (op_neDK (K := K) rfl hr.units) (pe_refd (k := 6) (T := T3 PA PF PL) DS rfl TB rfl mem_l hu1 (hr.mono (by decide)) (LamX.lamS_by (by rfl)) rfl (fun _ _ _ _ _ => rfl) (fun _ _ _ _ _ _ _ hr2 => (pe_def D_turned (hr2.mono (by decide)) rfl (passes_call (takes_of rfl rfl rfl rfl) (fun _ _ _ _ h => h)) (pa_cons (pv 3) (pa_cons (pv 5) pa_nil))))) (pe_tup (pa_cons pe_str (pa_cons (pe_un un_neg pe_int) pa_nil))) (nomark _)))
  (pss_one (ps_ret pe_bl))
  pss_nil))))
 (pss_cons (ps_if (pt_neG (T3 PA PF PL) (pt_cmpR (op_neDK (K := K) rfl hr.units) (pe_refd (k := 6) (T := T3 PA PF PL) DS rfl TB rfl mem_l hu1 (hr.mono (by decide)) (LamX.lamS_by (by rfl)) rfl (fun _ _ _ _ _ => rfl) (fun _ _ _ _ _ _ _ hr2 => (pe_def D_turned (hr2.mono (by decide)) rfl (passes_call (takes_of rfl rfl rfl rfl) (fun _ _ _ _ h => h)) (pa_cons (pv 3) (pa_cons (pe_lst (pa_cons (pe_tup (pa_cons pe_str (pa_cons (pe_op op_add (pv 3) pe_int) pa_nil))) pa_nil)) pa_nil))))) (pe_tup (pa_cons pe_str (pa_cons pe_int pa_nil))) (nomark _)))
  (pss_one (ps_ret pe_bl))
  pss_nil)
 (pss_cons (ps_if (pt_neG (T3 PA PF PL) (pt_cmpR (op_neDK (K := K) rfl hr.units) (pe_refd (k := 6) (T := T3 PA PF PL) DS rfl TB rfl mem_l hu1 (hr.mono (by decide)) (LamX.lamS_by (by rfl)) rfl (fun _ _ _ _ _ => rfl) (fun _ _ _ _ _ _ _ hr2 => (pe_def D_by_number (hr2.mono (by decide)) rfl (passes_call (takes_of rfl rfl rfl rfl) (fun _ _ _ _ h => h)) (pa_cons (pv 3) (pa_cons (pe_lst (pa_cons (pe_tup (pa_cons pe_str pa_nil)) (pa_cons (pe_tup (pa_cons pe_str (pa_cons (pe_op op_add (pv 3) pe_int) pa_nil))) pa_nil))) (pa_cons pe_non (pa_cons pe_int pa_nil))))))) (pe_tup (pa_cons pe_str (pa_cons pe_int pa_nil))) (nomark _)))
  (pss_one (ps_ret pe_bl))
  pss_nil)
 (C8.pss_cut (ps_for PassesOwn.never rfl (pi_listK (K := K) rfl (pe_G (T3 PA PF PL) (pe_lst (pa_cons pe_non (pa_cons (pe_lst (pa_cons pe_int pa_nil)) (pa_cons (pe_tup (pa_cons pe_int pa_nil)) (pa_cons (pe_tup (pa_cons (pe_op op_add (pv 3) pe_int) pa_nil)) (pa_cons (pe_tup (pa_cons pe_int (pa_cons pe_int pa_nil))) (pa_cons (pe_tup (pa_cons pe_bl pa_nil)) (pa_cons pe_str pa_nil)))))))))) (pg_name (i := 5) nd rfl (Or.inr rfl))
  (pss_one (ps_if (pt_not (pt_val (pe_allG (pe_def D_all (hr.mono (by decide)) rfl pass0 (pa_cons (pv 3) (pa_cons (pv 4) (pa_cons (pv 5) (pa_cons pe_non (pa_cons (pe_tup (pa_cons pe_str (pa_cons pe_str pa_nil))) pa_nil)))))))))
  (pss_one (ps_ret pe_bl))
  pss_nil)))
 (C8.pss_cut (ps_for PassesOwn.never rfl (pi_listK (K := K) rfl (pe_G (T3 PA PF PL) (pe_lst (pa_cons pe_non (pa_cons (pe_un un_neg pe_int) (pa_cons pe_int (pa_cons pe_bl (pa_cons pe_str pa_nil)))))))) (pg_name (i := 5) nd rfl (Or.inr rfl))
  (pss_one (ps_if (pt_not (pt_val (pe_allG (pe_def D_all (hr.mono (by decide)) rfl pass0 (pa_cons (pv 3) (pa_cons (pv 4) (pa_cons (pe_tup (pa_cons pe_int pa_nil)) (pa_cons (pv 5) (pa_cons (pe_tup (pa_cons pe_str (pa_cons pe_str pa_nil))) pa_nil)))))))))
  (pss_one (ps_ret pe_bl))
  pss_nil)))
 (pss_one (ps_if (pt_not (pt_val (pe_def D_fts (hr.mono (by decide)) rfl pass0 (pa_cons (pv 3) pa_nil))))
  (pss_one (ps_ret pe_bl))
  pss_nil))))))))))))))
 (pss_one (ps_ret pe_bl))), ?_⟩
    have sqS : ∀ {H1 H2 : Hp} {b : Addr} {xs : List V}, SqL K H1 b xs → Same H1 H2 → SqL K H2 b xs := fun {H1 H2 b xs} h s => by
      rcases h with (h | ⟨o, h⟩) | h
      · exact .inl (.inl (s _ _ h))
      · exact .inl (.inr ⟨o, s _ _ h⟩)
      · exact .inr h
    refine ⟨fun _ _ => True, ?_, fun σ H1 _ => q H1⟩
    refine ⟨_, rfl, a, ns, 0, rfl, hS, by decide, fun c0 => ⟨lt1 _ (by show 1 ≤ 100000; decide), fun l1 nl1 => ?_⟩⟩
    have s1 := same_new (o := .lst [.int c0]) nl1
    refine ⟨_, rfl, 1, rfl, 3, rfl, a, _, rfl, sqS hS s1, fun l2 nl2 => ?_⟩
    have hcut : cutV (ns.map V.int) (some 1) (some 3) = ((ns.drop (HT.sIx (ns.map V.int).length 0 (some 1))).take (HT.sIx (ns.map V.int).length (ns.map V.int).length (some 3) - HT.sIx (ns.map V.int).length 0 (some 1))).map V.int := by
      unfold cutV
      rw [List.map_take, List.map_drop]
    have hcl : ((ns.drop (HT.sIx (ns.map V.int).length 0 (some 1))).take (HT.sIx (ns.map V.int).length (ns.map V.int).length (some 3) - HT.sIx (ns.map V.int).length 0 (some 1))).length ≤ 63 := by
      rw [List.length_take, List.length_drop]; omega
    rw [hcut]
    generalize (ns.drop (HT.sIx (ns.map V.int).length 0 (some 1))).take (HT.sIx (ns.map V.int).length (ns.map V.int).length (some 3) - HT.sIx (ns.map V.int).length 0 (some 1)) = sub at hcl
    have s2 := s1.new nl2 (o := .lst (sub.map V.int))
    refine ⟨l1, l2, _, _, rfl, rfl, same_new nl2 _ _ upd_same, upd_same, lt1 _ (by rw [List.length_map]; show 1 + sub.length ≤ 100000; omega), fun l3 nl3 => ?_⟩
    have s3 := s2.new nl3 (o := .lst ([V.int c0] ++ sub.map V.int))
    refine ⟨l3, rfl, ⟨_, sq upd_same⟩, for_list (K := K) (a := l3) (xs := (c0 :: sub).map V.int) (fun i σ H2 => ∃ v1 v2 v3 v4 v5 v6 v7, σ = [some (.ref a), v1, v2, v3, v4, v5, v6, v7, none] ∧ SqL K H2 a (ns.map V.int) ∧ H2 l3 = some (.lst ((c0 :: sub).map V.int)) ∧ LamX.Tabs (T3 PA PF PL) H2) ?_ ?_ ?_ (fun _ _ _ => True.intro)⟩
    · exact ⟨none, none, none, none, none, none, none, rfl, sqS hS s3, upd_same, hT.ext s3⟩
    · rintro i σ H2 _ ⟨v1, v2, v3, v4, v5, v6, v7, rfl, _, h3, _⟩
      exact sq h3
    · rintro i x σ H2 hx ⟨v1, v2, v3, v4, v5, v6, v7, rfl, hS2, h3, t2⟩
      obtain ⟨cc, _, rfl⟩ := getD_map hx
      refine ⟨_, rfl, cc, rfl, fun p Ha np sa wa => ?_⟩
      refine ⟨_, rfl, p, 10, 0, rfl, wa, by decide, by decide, by decide, fun d Hb d0 d1 eb wb => ⟨_, _, rfl, rfl, ?_⟩⟩
      obtain ⟨n, hn⟩ : ∃ n, n = 1 + d := ⟨_, rfl⟩
      have n1 : 1 ≤ n := by omega
      have n2 : n ≤ 10 := by omega
      refine ⟨fun σ H1 => ∃ (S : Addr) (xs : List V), σ = [some (.ref a), some (.int cc), some (.ref p), some (.int n), some (.ref S), v5, v6, v7, none] ∧ Ext p Ha H1 ∧ WellAt H1 p ∧ H1 S = some (.lst xs) ∧ xs.length ≤ 7 ∧ ∀ x ∈ xs, Drawn n p H1 x, ?_, ?_⟩
      · refine ⟨_, rfl, p, 8, 1, rfl, wb, by decide, by decide, by decide, fun d2 Hc e0 e1 ec wc => ⟨d2, rfl, by omega, by omega, fun D hD => ?_⟩⟩
        have nDp : D ≠ p := wc.at.ne hD
        refine lc_range (lo := 0) (n := d2.toNat) (fun i H4 => ∃ xs : List V, Ext p Ha H4 ∧ WellT H4 p (2 + i) ∧ H4 D = some (.lst xs) ∧ xs.length = i ∧ ∀ x ∈ xs, Drawn n p H4 x) ?_ ?_ ?_
        · exact ⟨[], (eb.trans ec).new hD, wc.keep fun o ho => by rw [upd_ne (ne_of_none ho hD)]; exact ho, upd_same, rfl, fun x hx => by simp at hx⟩
        · rintro i H4 hi ⟨xs, e4, w4, hD4, xl, dr⟩
          refine ⟨rfl, tyes ⟨_, rfl, lt1 _ (by show 1 ≤ 100000; decide), fun u1 m1 => ⟨lt1 _ (by show 2 ≤ 100000; decide), fun u2 m2 => ⟨.int (1 + d), rfl, lt1 _ (by show 2 ≤ 100000; decide), fun u3 m3 => ⟨lt1 _ (by show 3 ≤ 100000; decide), fun m nm => ?_⟩⟩⟩⟩⟩
          have sA := same_new (o := .tup [.str "ask"]) m1
          have sB := same_new (o := .tup [.str "look", .int 1]) m2
          have sC := same_new (o := .tup [.str "take", .int (1 + d)]) m3
          have sD := same_new (o := .lst [.ref u1, .ref u2, .ref u3]) nm
          have wA := w4.keep fun o ho => sA _ _ ho
          have wB := wA.keep fun o ho => sB _ _ ho
          have wC := wB.keep fun o ho => sC _ _ ho
          have wD := wC.keep fun o ho => sD _ _ ho
          have sAD := ((sA.trans sB).trans sC).trans sD
          refine ⟨p, m, _, 2 + i, rfl, wD, by omega, upd_same, by show 0 < 3; decide, by show 3 < 1073741824; decide, wC.at.ne nm, fun j y H5 hj e5 w5 => ?_⟩
          have hD5 : H5 D = some (.lst xs) := e5 _ _ nDp (sAD _ _ hD4)
          have e45 : Ext p H4 H5 := (same_ext sAD).trans e5
          have hu1 : H5 u1 = some (.tup [.str "ask"]) := e5 _ _ (w4.at.ne m1) (sD _ _ (sC _ _ (sB _ _ upd_same)))
          have hu2 : H5 u2 = some (.tup [.str "look", .int 1]) := e5 _ _ (wA.at.ne m2) (sD _ _ (sC _ _ upd_same))
          have hu3 : H5 u3 = some (.tup [.str "take", .int n]) := by rw [hn]; exact e5 _ _ (wB.at.ne m3) (sD _ _ upd_same)
          have hy : Drawn n p H5 y := by
            have hm := List.mem_of_getElem? hj
            simp only [List.mem_cons, List.not_mem_nil, or_false] at hm
            rcases hm with rfl | rfl | rfl
            · exact ⟨u1, rfl, w4.at.ne m1, .inl hu1⟩
            · exact ⟨u2, rfl, wA.at.ne m2, .inr (.inl hu2)⟩
            · exact ⟨u3, rfl, wB.at.ne m3, .inr (.inr hu3)⟩
          have hDn : Ha D = none := (eb.trans ec).free hD nDp
          refine ⟨_, hD5, lt2 _ (by omega), xs ++ [y], (e4.trans e45).mut hDn, ?_, upd_same, by rw [List.length_append, xl]; rfl, fun z hz => ?_⟩
          · have w5' : WellT H5 p (2 + (i + 1)) := w5
            exact w5'.keep fun o ho => by rw [upd_ne nDp.symm]; exact ho
          · rcases List.mem_append.mp hz with hz | hz
            · exact ((dr z hz).ext e45).mut hD5
            · rw [List.mem_singleton.mp hz]; exact hy.mut hD5
        · rintro H4 ⟨xs, e4, w4, hD4, xl, dr⟩
          exact ⟨D, xs, by rw [hn]; rfl, e4, w4.at, hD4, by omega, dr⟩
      · rintro σ H1 ⟨S, xs, rfl, e1, w1, hS1, xl, dr⟩
        obtain ⟨ds, hA, hso⟩ := drawn_all xs dr
        have hAl := hA.len
        have dl : ds.length ≤ 7 := by rw [← hAl]; exact xl
        have Lw := law_of n1 n2
        obtain ⟨al0, al1⟩ := some_all Lw hso
        have t1 : LamX.Tabs (T3 PA PF PL) H1 := tabs_ext wa.at e1 (t2.ext sa)
        have fin : ∀ H', LamX.ExtN H1 H' → SqL K H' a (ns.map V.int) ∧ H' l3 = some (.lst ((c0 :: sub).map V.int)) := fun H' e => by
          have fr : FrN p H2 H' := fun b o nb hb no => e b o (e1 b o nb (sa b o hb)) no
          exact ⟨sqF hS2 np fr, fr _ _ (ne_of_none h3 np) h3 fun _ z => by cases z⟩
        have hSd : ∀ {H'}, LamX.ExtN H1 H' → Dv H' (.ref S) (.list ds) := fun e => (Dv.lst hS1 hA).ext e
        clear dr hso
        refine ⟨LSt a p S (.int cc) n (T3 PA PF PL) H1, ?_, ?_⟩
        · -- the numbers that are none
          refine ⟨.list (O1 n), t1, gv_lst (gv_cons (gv_int 0) (gv_cons (gv_int 11) (gv_cons (gv_neg (n := 1)) (gv_cons (gv_bl true) (gv_cons gv_non (gv_cons (gv_str _) (gv_cons (gv_lst (gv_cons (gv_var rfl (.int n)) gv_nil)) (gv_cons (gv_pow ⟨by decide, by decide, by decide⟩) gv_nil)))))))), fun v H2 e2 t2 hv => ?_⟩
          obtain ⟨b, ys, rfl, hb, hB⟩ := hv.lstD
          refine ⟨b, rfl, ⟨_, sq hb⟩, for_list (K := K) (a := b) (xs := ys) (fun i σ H3 => LSt a p S (.int cc) n (T3 PA PF PL) H2 σ H3) ⟨v5, v6, v7, rfl, .refl _, t2⟩ ?_ ?_ ?_⟩
          · rintro i σ H3 _ ⟨_, _, _, rfl, e3, _⟩
            exact sq (e3 _ _ hb fun _ z => by cases z)
          · rintro i x σ H3 hx ⟨v5, v6, v7, rfl, e3, t3⟩
            obtain ⟨d, hd, hdv⟩ := (hB.ext e3).get hx
            obtain ⟨f1, f2⟩ := Lw.o1 d (List.mem_of_getElem? hd)
            refine ⟨d, .none, .none, .none, .num, t3, gv_cons (gv_var rfl hdv) (gv_cons gv_non (gv_cons gv_non (gv_cons gv_non (gv_cons (gv_tup (gv_cons (gv_str _) (gv_cons (gv_var rfl hdv) gv_nil))) gv_nil)))), Nat.zero_le _, f2, chk_num f1, chk_num f1, fun H4 e4 t4 => ⟨true, rfl, itbF rfl ?_⟩⟩
            exact ⟨erD d .num, t4, gv_ref (i := 5) (bads_turned (chkT_num f1)) rfl (hdv.ext e4) (gv_cons gv_non gv_nil), gv_tup (gv_cons (gv_str _) (gv_cons (gv_var rfl (hdv.ext e4)) gv_nil)), dic_er (e := .num) f2, shaped_er (e := .num) f2, fun H5 e5 t5 => itbF rfl ⟨_, v6, v7, rfl, (e3.trans e4).trans e5, t5⟩⟩
          · rintro σ H3 ⟨v5, v6, v7, rfl, e3, t3⟩
            exact ⟨v5, v6, v7, rfl, e2.trans e3, t3⟩
        · rintro σ H2 ⟨v5, v6, v7, rfl, e2, t2⟩
          refine ⟨.list O2a, t2, gv_lst (gv_cons gv_non (gv_cons (gv_tup gv_nil) (gv_cons (gv_tup (gv_cons (gv_str _) (gv_cons (gv_int 1) gv_nil))) (gv_cons (gv_tup (gv_cons (gv_str _) gv_nil)) (gv_cons (gv_tup (gv_cons (gv_str _) (gv_cons (gv_int 0) gv_nil))) (gv_cons (gv_tup (gv_cons (gv_str _) (gv_cons (gv_bl true) gv_nil))) (gv_cons (gv_tup (gv_cons (gv_str _) (gv_cons (gv_int 1) gv_nil))) (gv_cons (gv_lst (gv_cons (gv_str _) gv_nil)) (gv_cons (gv_str _) gv_nil))))))))), fun vo H3 e3 t3 hvo => ?_⟩
          refine ⟨LSt a p S (.int cc) n (T3 PA PF PL) H1, ?_, ?_⟩
          · -- the commands that are none
            refine ⟨.list O2, t3, gv_cat (gv_var (i := 6) rfl hvo) (gv_lst (gv_cons (gv_tup (gv_cons (gv_str _) (gv_cons gv_non gv_nil))) gv_nil)) (by decide), fun v H4 e4 t4 hv => ?_⟩
            obtain ⟨b, ys, rfl, hb, hB⟩ := hv.lstD
            refine ⟨b, rfl, ⟨_, sq hb⟩, for_list (K := K) (a := b) (xs := ys) (fun i σ H5 => LSt a p S (.int cc) n (T3 PA PF PL) H4 σ H5) ⟨_, _, _, rfl, .refl _, t4⟩ ?_ ?_ ?_⟩
            · rintro i σ H5 _ ⟨_, _, _, rfl, e5, _⟩
              exact sq (e5 _ _ hb fun _ z => by cases z)
            · rintro i x σ H5 hx ⟨v5, v6, v7, rfl, e5, t5⟩
              obtain ⟨d, hd, hdv⟩ := (hB.ext e5).get hx
              obtain ⟨f1, f2⟩ := Lw.o2 d (List.mem_of_getElem? hd)
              have e15 : LamX.ExtN H1 H5 := ((e2.trans e3).trans e4).trans e5
              have hS5 : H5 S = some (.lst xs) := e15 _ _ hS1 fun _ z => by cases z
              refine ⟨fun σ H6 => σ = [some (.ref a), some (.int cc), some (.ref p), some (.int n), some (.ref S), some x, v6, some (.int (atD ds.length)), none] ∧ H6 = H5, ?_, ?_⟩
              · refine ⟨_, rfl, S, xs, rfl, .inl (sq hS5), _, _, rfl, rfl, _, rfl, ite2 (fun c => ?_) (fun c => ?_)⟩
                · have c' : (xs.length : Int) < 7 := by simpa using c
                  refine ⟨_, rfl, S, xs, rfl, .inl (sq hS5), ?_, rfl⟩
                  have : atD ds.length = (xs.length : Int) := by unfold atD; rw [← hAl, if_pos (by omega)]
                  rw [this]; rfl
                · have c' : ¬ (xs.length : Int) < 7 := by simpa using c
                  refine ⟨1, rfl, ?_, rfl⟩
                  have : atD ds.length = -1 := by unfold atD; rw [← hAl, if_neg (by omega)]
                  rw [this]; rfl
              · rintro σ H6 ⟨rfl, rfl⟩
                refine ⟨.int n, .list (ds ++ [d, .none]), .none, .none, .row (atD ds.length), t5, gv_cons (gv_var rfl (.int n)) (gv_cons (gv_cat (gv_var (i := 4) rfl (hSd e15)) (gv_lst (gv_cons (gv_var rfl hdv) (gv_cons gv_non gv_nil))) (by show ds.length + 2 ≤ 1000; omega)) (gv_cons gv_non (gv_cons gv_non (gv_cons (gv_tup (gv_cons (gv_str _) (gv_cons (gv_var rfl (.int _)) gv_nil))) gv_nil)))), Nat.zero_le _, cmp_int _, chk_row Lw.num (odd_row al0 dl f1), chk_row Lw.num (odd_row al1 dl f2), fun H7 e7 t7 => ⟨true, rfl, itbF rfl ?_⟩⟩
                have e17 := e15.trans e7
                have hS7 : H7 S = some (.lst xs) := e17 _ _ hS1 fun _ z => by cases z
                refine ⟨_, rfl, S, xs, rfl, .inl (sq hS7), _, _, rfl, rfl, _, rfl, ?_⟩
                by_cases c : (xs.length : Int) < 7
                · have lx : (xs.length : Int) = (ds.length : Int) := by rw [hAl]
                  refine itbT (decide_eq_true c) ⟨erD (.int n) (.row (ds.length : Int)), t7, gv_ref (i := 3) (bads_turned (chkT_row Lw.num (odd_turn al1 (by omega) f2))) rfl (.int n) (gv_cons (gv_cat (gv_var (i := 4) rfl (hSd e17)) (gv_lst (gv_cons (gv_var rfl (hdv.ext e7)) gv_nil)) (by show ds.length + 1 ≤ 1000; omega)) gv_nil), ?_, dic_er (cmp_int _), shaped_er (cmp_int _), fun H8 e8 t8 => itbF rfl ⟨_, v6, _, rfl, (e5.trans e7).trans e8, t8⟩⟩
                  show Gv _ _ _ _ (.tuple [.str "row", .int (ds.length : Int)])
                  rw [← lx]
                  exact gv_tup (gv_cons (gv_str _) (gv_cons (gv_len rfl hS7) gv_nil))
                · exact itbF (decide_eq_false c) (itbF rfl ⟨_, v6, _, rfl, e5.trans e7, t7⟩)
            · rintro σ H5 ⟨v5, v6, v7, rfl, e5, t5⟩
              exact ⟨v5, v6, v7, rfl, ((e2.trans e3).trans e4).trans e5, t5⟩
          · rintro σ H3 ⟨v5, v6, v7, rfl, e3, t3⟩
            refine ⟨LSt a p S (.int cc) n (T3 PA PF PL) H1, ?_, ?_⟩
            · -- the rows that are none
              refine ⟨.list O3, t3, gv_lst (gv_cons gv_non (gv_cons (gv_str _) (gv_cons gv_dic (gv_cons (gv_int 5) (gv_cons (gv_rep (n := 9) (gv_lst (gv_cons (gv_tup (gv_cons (gv_str _) gv_nil)) gv_nil)) (by decide) (by decide)) gv_nil))))), fun v H4 e4 t4 hv => ?_⟩
              obtain ⟨b, ys, rfl, hb, hB⟩ := hv.lstD
              refine ⟨b, rfl, ⟨_, sq hb⟩, for_list (K := K) (a := b) (xs := ys) (fun i σ H5 => LSt a p S (.int cc) n (T3 PA PF PL) H4 σ H5) ⟨_, _, _, rfl, .refl _, t4⟩ ?_ ?_ ?_⟩
              · rintro i σ H5 _ ⟨_, _, _, rfl, e5, _⟩
                exact sq (e5 _ _ hb fun _ z => by cases z)
              · rintro i x σ H5 hx ⟨v5, v6, v7, rfl, e5, t5⟩
                obtain ⟨d, hd, hdv⟩ := (hB.ext e5).get hx
                obtain ⟨f1, f2⟩ := Lw.o3 d (List.mem_of_getElem? hd)
                refine ⟨.int n, d, .none, .none, .row (-1), t5, gv_cons (gv_var rfl (.int n)) (gv_cons (gv_var rfl hdv) (gv_cons gv_non (gv_cons gv_non (gv_cons (gv_tup (gv_cons (gv_str _) (gv_cons (gv_neg (n := 1)) gv_nil))) gv_nil)))), Nat.zero_le _, cmp_int _, chk_row Lw.num f1, chk_row Lw.num f2, fun H6 e6 t6 => ⟨true, rfl, itbF rfl ?_⟩⟩
                exact ⟨erD (.int n) (.row (-1)), t6, gv_ref (i := 3) (bads_turned (chkT_row Lw.num f2)) rfl (.int n) (gv_cons (gv_var rfl (hdv.ext e6)) gv_nil), gv_tup (gv_cons (gv_str _) (gv_cons (gv_neg (n := 1)) gv_nil)), dic_er (cmp_int _), shaped_er (cmp_int _), fun H7 e7 t7 => itbF rfl ⟨_, v6, v7, rfl, (e5.trans e6).trans e7, t7⟩⟩
              · rintro σ H5 ⟨v5, v6, v7, rfl, e5, t5⟩
                exact ⟨v5, v6, v7, rfl, (e3.trans e4).trans e5, t5⟩
            · rintro σ H4 ⟨v5, v6, v7, rfl, e4, t4⟩
              refine ⟨erD (.int n) (.row 0), t4, gv_ref (i := 3) (bads_turned Lw.i1) rfl (.int n) (gv_cons (gv_lst (gv_cons (gv_tup (gv_cons (gv_str _) (gv_cons (gv_add rfl) gv_nil))) gv_nil)) gv_nil), gv_tup (gv_cons (gv_str _) (gv_cons (gv_int 0) gv_nil)), dic_er (cmp_int _), shaped_er (cmp_int _), fun H5 e5 t5 => itbF rfl ?_⟩
              refine ⟨erD (.int n) (.row 1), t5, gv_ref (i := 3) (bads_by Lw.i2 (Nat.zero_le _)) rfl (.int n) (gv_cons (gv_lst (gv_cons (gv_tup (gv_cons (gv_str _) gv_nil)) (gv_cons (gv_tup (gv_cons (gv_str _) (gv_cons (gv_add rfl) gv_nil))) gv_nil))) (gv_cons gv_non (gv_cons (gv_int 0) gv_nil))), gv_tup (gv_cons (gv_str _) (gv_cons (gv_int 1) gv_nil)), dic_er (cmp_int _), shaped_er (cmp_int _), fun H6 e6 t6 => itbF rfl ?_⟩
              have e16 := (e4.trans e5).trans e6
              have r0 : rowErr none (.list ds) = none := rowErr_ok al0 (by omega)
              have r1 : rowErr (some n) (.list ds) = none := rowErr_ok al1 (by omega)
              refine ⟨LSt a p S (.int cc) n (T3 PA PF PL) H1, ?_, ?_⟩
              · -- the letters of others that are none
                refine ⟨.list (O4 n), t6, gv_lst (gv_cons gv_non (gv_cons (gv_lst (gv_cons (gv_int 1) gv_nil)) (gv_cons (gv_tup (gv_cons (gv_int 0) gv_nil)) (gv_cons (gv_tup (gv_cons (gv_add rfl) gv_nil)) (gv_cons (gv_tup (gv_cons (gv_int 1) (gv_cons (gv_int 1) gv_nil))) (gv_cons (gv_tup (gv_cons (gv_bl true) gv_nil)) (gv_cons (gv_str _) gv_nil))))))), fun v H7 e7 t7 hv => ?_⟩
                obtain ⟨b, ys, rfl, hb, hB⟩ := hv.lstD
                refine ⟨b, rfl, ⟨_, sq hb⟩, for_list (K := K) (a := b) (xs := ys) (fun i σ H5 => LSt a p S (.int cc) n (T3 PA PF PL) H7 σ H5) ⟨_, _, _, rfl, .refl _, t7⟩ ?_ ?_ ?_⟩
                · rintro i σ H8 _ ⟨_, _, _, rfl, e8, _⟩
                  exact sq (e8 _ _ hb fun _ z => by cases z)
                · rintro i x σ H8 hx ⟨v5, v6, v7, rfl, e8, t8⟩
                  obtain ⟨d, hd, hdv⟩ := (hB.ext e8).get hx
                  obtain ⟨f1, f2⟩ := Lw.o4 d (List.mem_of_getElem? hd)
                  exact ⟨.int n, .list ds, d, .none, .why "loose", t8, gv_cons (gv_var rfl (.int n)) (gv_cons (gv_var rfl (hSd ((e16.trans e7).trans e8))) (gv_cons (gv_var rfl hdv) (gv_cons gv_non (gv_cons (gv_tup (gv_cons (gv_str _) (gv_cons (gv_str _) gv_nil))) gv_nil)))), f2, cmp_loose, chk_loose Lw.num r0 f1, chk_loose Lw.num r1 f1, fun H9 e9 t9 => ⟨true, rfl, itbF rfl ⟨_, v6, v7, rfl, e8.trans e9, t9⟩⟩⟩
                · rintro σ H8 ⟨v5, v6, v7, rfl, e8, t8⟩
                  exact ⟨v5, v6, v7, rfl, (e16.trans e7).trans e8, t8⟩
              · rintro σ H7 ⟨v5, v6, v7, rfl, e7, t7⟩
                refine ⟨LSt a p S (.int cc) n (T3 PA PF PL) H1, ?_, ?_⟩
                · -- the numbers of others that are none
                  refine ⟨.list O5, t7, gv_lst (gv_cons gv_non (gv_cons (gv_neg (n := 1)) (gv_cons (gv_int 3) (gv_cons (gv_bl true) (gv_cons (gv_str _) gv_nil))))), fun v H8 e8 t8 hv => ?_⟩
                  obtain ⟨b, ys, rfl, hb, hB⟩ := hv.lstD
                  refine ⟨b, rfl, ⟨_, sq hb⟩, for_list (K := K) (a := b) (xs := ys) (fun i σ H5 => LSt a p S (.int cc) n (T3 PA PF PL) H8 σ H5) ⟨_, _, _, rfl, .refl _, t8⟩ ?_ ?_ ?_⟩
                  · rintro i σ H9 _ ⟨_, _, _, rfl, e9, _⟩
                    exact sq (e9 _ _ hb fun _ z => by cases z)
                  · rintro i x σ H9 hx ⟨v5, v6, v7, rfl, e9, t9⟩
                    obtain ⟨d, hd, hdv⟩ := (hB.ext e9).get hx
                    have fk : kOk d = false := by simpa using List.all_eq_true.mp k_p d (List.mem_of_getElem? hd)
                    exact ⟨.int n, .list ds, .tuple [.int 1], d, .why "k", t9, gv_cons (gv_var rfl (.int n)) (gv_cons (gv_var rfl (hSd ((e7.trans e8).trans e9))) (gv_cons (gv_tup (gv_cons (gv_int 1) gv_nil)) (gv_cons (gv_var rfl hdv) (gv_cons (gv_tup (gv_cons (gv_str _) (gv_cons (gv_str _) gv_nil))) gv_nil)))), Nat.le_of_ble_eq_true rfl, cmp_k, chk_k Lw.num r0 Lw.one fk, chk_k Lw.num r1 Lw.one fk, fun H10 e10 t10 => ⟨true, rfl, itbF rfl ⟨_, v6, v7, rfl, e9.trans e10, t10⟩⟩⟩
                  · rintro σ H9 ⟨v5, v6, v7, rfl, e9, t9⟩
                    exact ⟨v5, v6, v7, rfl, (e7.trans e8).trans e9, t9⟩
                · rintro σ H8 ⟨v5, v6, v7, rfl, e8, t8⟩
                  refine ⟨_, rfl, n, rfl, n1, n2, t8, fun H9 e9 t9 => ⟨true, rfl, itbF rfl ?_⟩⟩
                  obtain ⟨g1, g2⟩ := fin H9 (e8.trans e9)
                  exact ⟨_, _, _, _, _, _, _, rfl, g1, g2, t9⟩
end
end K1


set_option Elab.async false
set_option linter.all false
set_option maxRecDepth 100000
set_option maxHeartbeats 4000000
namespace K1
open PySem PySem.Spec PyProof.Rows L2 RZ
/-! ### the end -/
section
variable {K : PySem.W.Frag} {h : Heap} {mg : Str → Option Value}
theorem cs_mk {x : Str} {n : Int} {t : Tok} {v : Value} (X : K.In h) (G : h.Ns mainGlobals mg) (a : PySem.W.nsIn K mainGlobals x = some (some v)) (e : v = .int n t) : ∃ t, mg x = some (.int n t) := ⟨t, by rw [PySem.W.mg_of X G a, e]⟩
theorem at_mk {x : Str} {st : Stmt} {f : Addr} {oc : Value} {od an : Option Addr} {osl : Array (Option Value)} {kV doc pm cdv ct : Value} (X : K.In h) (G : h.Ns mainGlobals mg) (a : PySem.W.nsIn K mainGlobals x = some (some (.ref f)))
    (l : K.lookup f = some ⟨oc, od, .func (PySem.W.fnOf x x (defArgs st) (defBody st) (defScope st) .none kV doc pm an cdv ct), osl⟩) (c : PySem.W.codeIn K cdv x = true) (k : PySem.W.keepIn K (.ref f) = true) : At K mg x st :=
  ⟨f, _, PySem.W.mg_of X G a, fun_mk l c k⟩
theorem atC_mk {x : Str} {st : Stmt} {f co : Addr} {oc : Value} {od an : Option Addr} {osl : Array (Option Value)} {kV doc pm ct : Value} (X : K.In h) (G : h.Ns mainGlobals mg) (a : PySem.W.nsIn K mainGlobals x = some (some (.ref f)))
    (l : K.lookup f = some ⟨oc, od, .func (PySem.W.fnOf x x (defArgs st) (defBody st) (defScope st) .none kV doc pm an (.ref co) ct), osl⟩) (c : PySem.W.codeIn K (.ref co) x = true) (k : PySem.W.keepIn K (.ref f) = true) : AtC K mg x st co :=
  ⟨f, oc, od, kV, doc, pm, an, ct, osl, PySem.W.mg_of X G a, k, l, c⟩
/-- an error of the class at S is what its own clause names -/
theorem exm_own {S : Addr} (h1 : PySem.W.subIn K (.ref S) (.type "BaseException") = some true) (h2 : PySem.W.isClsIn K S = true) (h3 : PySem.W.typeIn K (.ref S) = some (.type "type")) (h4 : PySem.W.subIn K (.ref S) (.ref S) = some true) :
    PySem.W.exmOne K (.ref S) (.ref S) = some true := by
  unfold PySem.W.exmOne
  unfold PySem.W.kitCls
  unfold PySem.W.isClsIn at h2
  simp only [h1, h2, h3, h4]
  simp
theorem exm_other {R S : Addr} (h1 : PySem.W.subIn K (.ref S) (.type "BaseException") = some true) (h2 : PySem.W.isClsIn K S = true) (h3 : PySem.W.typeIn K (.ref S) = some (.type "type")) (h4 : PySem.W.subIn K (.ref R) (.ref S) = some false) :
    PySem.W.exmOne K (.ref R) (.ref S) = some false := by
  unfold PySem.W.exmOne
  unfold PySem.W.kitCls
  unfold PySem.W.isClsIn at h2
  simp only [h1, h2, h3, h4]
  simp
theorem tide_mk {prog : Program} {x fl qual tx : Str} {C fI cda cc : Addr} {nm q : Str} {N : Addr} {bs BM : List Value} {sn : List Str} {sub : List Value} {ab : Bool} {col : Option Bool} {dd : Option Addr} {m0 m1 m2 m3 m5 : Option Value}
    {oc doc pm ct ccl cl : Value} {od an cdd cld : Option Addr} {osl ccs csl : Array (Option Value)} {j : Nat} {p1 p2 q1 q2 q3 q4 q5 q6 q7 q8 q9 q10 : Pos} {vs : Array Value} {file : Str} {tf : Tok} (X : K.In h) (G : h.Ns mainGlobals mg) (ok : PySem.Tide.FlOk fl)
    (ci : PySem.Tide.CallIs tx j q1 q2 q3 q4 q5) (htop : (prog.main.scope.names.lookup ("super" : Str)).isSome = false)
    (aC : PySem.W.nsIn K mainGlobals x = some (some (.ref C))) (xL : K.lookup C = some (PySem.excClassObj nm q C N bs BM true sn sub ab col dd m0 m1 m2 m3 m5 "ValueError.__new__")) (bm : PySem.HandSPX.refsVE BM = true)
    (sa : PySem.W.findIn K (.ref C) "__setattr__" = some (some (.builtin "object.__setattr__"))) (ga : PySem.W.findIn K (.ref C) "__getattribute__" = some (some (.builtin "BaseException.__getattribute__"))) (gg : PySem.W.findIn K (.ref C) "__getattr__" = some none) (nb : PySem.W.findIn K (.ref C) fl = some none)
    (a1 : PySem.W.findIn K (.ref C) "__init__" = some (some (.ref fI))) (t1 : PySem.W.typeIn K (.ref fI) = some (.type "function"))
    (l1 : K.lookup fI = some ⟨oc, od, .func (PySem.W.ksFn "__init__" qual (PySem.Tide.iA fl p1 p2) (PySem.Tide.iB fl tx j q1 q2 q3 q4 q5 q6 q7 q8 q9 q10) (PySem.Tide.iS fl) .none .none doc pm an (.ref cda) ct cc), osl⟩) (c1 : PySem.W.codeIn K (.ref cda) qual = true)
    (n1 : K.lookup cda = some ⟨ccl, cdd, .fields vs, ccs⟩) (n2 : vs[2]? = some (.str file tf)) (n3 : ((prog.main.file : Str) == file) = true) (n4 : K.lookup cc = some ⟨cl, cld, .cell (some (.ref C)), csl⟩)
    (kC : PySem.W.keepIn K (.ref C) = true) (eC : PySem.W.subIn K (.ref C) (.type "BaseException") = some true) (tC : PySem.W.typeIn K (.ref C) = some (.type "type")) (hC : PySem.W.hasDictIn K C = true) (iC : PySem.W.isClsIn K C = true) (sC : PySem.W.subIn K (.ref C) (.ref C) = some true)
    (su : PySem.W.ks_superIn K C C "__init__" = some (some (.builtin "ValueError.__init__"))) (vC : PySem.W.subIn K (.ref C) (.type "ValueError") = some true) (mC : PySem.W.mroIn K C (.ref C) = some true) (tpa : PySem.W.nsIn K PySem.cStatics "thirdparty.any" = some none)
    (ns : PySem.W.nsIn K mainGlobals "super" = some none) : PySem.Tide.TideTxt prog K mg x C fI fl :=
  { gC := PySem.W.mg_of X G aC, ok := ok, cls := ⟨nm, q, N, bs, BM, sn, sub, ab, col, dd, m0, m1, m2, m3, m5, xL, bm⟩, sa := sa, ga := ga, gg := gg, noN := nb, iC := a1, tC := t1, kC := kC, exC := eC, tyC := tC, hdC := hC, te := exm_own eC iC tC sC, sup := su, isV := vC, self_ := mC, tpa := tpa,
    nsu := PySem.W.mg_none_of X G ns, htop := htop,
    fn := ⟨oc, od, doc, pm, ct, an, osl, qual, tx, j, p1, p2, q1, q2, q3, q4, q5, q6, q7, q8, q9, q10, cda, cc, l1, c1, ci, ⟨ccl, cdd, vs, ccs, file, tf, n1, n2, n3⟩, ⟨cl, cld, csl, n4⟩⟩ }
end
section
variable {P : Program} {w : World} {K : PySem.W.Frag} {mg : Str → Option Value} {base : Heap} {CN CR CV PA PF PL c fN fR fV : Addr}
theorem def_ck (D_check_number : Def P w K mg base (L2.CX P w) 3 "_check_number" nCkNum (spCkNum CN)) (D_check_row : Def P w K mg base (L2.CX P w) 4 "_check_row" pCkRow (spCkRow CR))
    (D_check_others : Def P w K mg base (L2.CX P w) 4 "_check_others" nCkOth (spCkOth CV)) (a : At K mg "_check" sCk) : Def P w K mg base (L2.CX P w) 5 "_check" nCk (spCk CN CR CV) :=
  a.def (fun _ _ _ _ _ _ us hl => match us, hl with | [_, _, _, _], _ => rfl) fun f fd F => ok_ck D_check_number D_check_row D_check_others F
theorem def_finds (D_check : Def P w K mg base (L2.CX P w) 5 "_check" nCk (spCk CN CR CV)) (a : At K mg "finds" sFinds) : Def P w K mg base (L2.CX P w) 6 "finds" nCk (spBad CN CR CV) :=
  a.def (fun _ _ _ _ _ _ us hl => match us, hl with | [_, _, _, _], _ => rfl) fun f fd F => ok_finds D_check F
theorem def_doubt (D_check : Def P w K mg base (L2.CX P w) 5 "_check" nCk (spCk CN CR CV)) (a : At K mg "doubt" sDoubt) : Def P w K mg base (L2.CX P w) 6 "doubt" nCk (spBad CN CR CV) :=
  a.def (fun _ _ _ _ _ _ us hl => match us, hl with | [_, _, _, _], _ => rfl) fun f fd F => ok_doubt D_check F
theorem def_turned (D_check_number : Def P w K mg base (L2.CX P w) 3 "_check_number" nCkNum (spCkNum CN)) (D_check_row : Def P w K mg base (L2.CX P w) 4 "_check_row" pCkRow (spCkRow CR)) (a : At K mg "turned" sTurned) : Def P w K mg base (L2.CX P w) 5 "turned" nTurned (spBadT CN CR CV) :=
  a.def (fun _ _ _ _ _ _ us hl => match us, hl with | [_, _], _ => rfl) fun f fd F => ok_turned D_check_number D_check_row F
theorem def_by (D_check_number : Def P w K mg base (L2.CX P w) 3 "_check_number" nCkNum (spCkNum CN)) (D_check_row : Def P w K mg base (L2.CX P w) 4 "_check_row" pCkRow (spCkRow CR))
    (D_check_others : Def P w K mg base (L2.CX P w) 4 "_check_others" nCkOth (spCkOth CV)) (a : At K mg "by_number" sBy) : Def P w K mg base (L2.CX P w) 5 "by_number" pBy (spBadBy CN CR CV) :=
  a.def (fun _ _ _ _ _ _ us hl => match us, hl with | [_, _, _, _], _ => rfl) fun f fd F => ok_by D_check_number D_check_row D_check_others F
theorem def_fate (T : Bj mg) (D_is_integer : Def P w K mg base CX0 1 "is_integer" pV (spB1 isInt)) (D_is_ascending : Def P w K mg base CX0 1 "is_ascending" pIsAsc spIsAsc) (a : At K mg "_is_fate" sFate) : Def P w K mg base CX0 2 "_is_fate" pFate spFate :=
  a.def (fun _ _ _ _ _ _ us hl => match us, hl with | [_, _, _, _], _ => rfl) fun f fd F => ok_fate T D_is_integer D_is_ascending F
theorem def_played (TV : PySem.Tide.TideTxt P K mg "BadValue" CV fV "why") (D_check : Def P w K mg base (L2.CX P w) 5 "_check" nCk (spCk CN CR CV)) (D_is_fate : Def P w K mg base CX0 2 "_is_fate" pFate spFate) (a : At K mg "played" sPlayed) :
    Def P w K mg base (L2.CX P w) 6 "played" nPlayed (spPlayed CN CR CV) :=
  a.def (fun _ _ _ _ _ _ us hl => match us, hl with | [_, _, _, _, _], _ => rfl) fun f fd F => ok_played TV D_check D_is_fate F
theorem def_cell (T : Bj mg) (a : At K mg "_law_cell_at" sCell) : Def P w K mg base CX0 1 "_law_cell_at" nCell (spCell K) :=
  a.def (fun _ _ _ _ _ _ us hl => match us, hl with | [_, _], _ => rfl) fun f fd F => ok_cell T F
theorem def_well (T : Bj mg) (a : At K mg "_law_well" sWell) : Def P w K mg base CX0 1 "_law_well" nWell spWell :=
  a.def (fun _ _ _ _ _ _ us hl => match us, hl with | [_], _ => rfl) fun f fd F => ok_well T F
theorem def_draw (T : Bj mg) (a : At K mg "_law_draw" sDraw) : Def P w K mg base CX0 1 "_law_draw" pDraw spDraw :=
  a.def (fun _ _ _ _ _ _ us hl => match us, hl with | [_, _], _ => rfl) fun f fd F => ok_draw T F
theorem def_one (T : Bj mg) (D_draw : Def P w K mg base CX0 1 "_law_draw" pDraw spDraw) (a : At K mg "_law_one" sOne) : Def P w K mg base CX0 2 "_law_one" nOne spOne :=
  a.def (fun _ _ _ _ _ _ us hl => match us, hl with | [_, _], _ => rfl) fun f fd F => ok_one T D_draw F
theorem def_all (T : Bj mg) (ap : Ap PA PF PL) (DS : RefK P K mg CN CR CV) (TB : LamX.TabB base mg c PA)
    (D_finds : Def P w K mg base (L2.CX P w) 6 "finds" nCk (spBad CN CR CV)) (D_doubt : Def P w K mg base (L2.CX P w) 6 "doubt" nCk (spBad CN CR CV)) (D_by_number : Def P w K mg base (L2.CX P w) 5 "by_number" pBy (spBadBy CN CR CV))
    (D_played : Def P w K mg base (L2.CX P w) 6 "played" nPlayed (spPlayed CN CR CV)) (a : AtC K mg "_law_all" sAll c) : Def P w K mg base CX0 9 "_law_all" pAll (spAll CN CR CV PA PF PL) := by
  obtain ⟨f, oc, od, kV, doc, pm, an, ct, osl, hm, hk, lk, hcd⟩ := a
  have F : Fun K "_law_all" "_law_all" sAll f _ := ⟨⟨oc, od, kV, doc, pm, an, .ref c, ct, osl, rfl, lk, hcd⟩, hk⟩
  exact ⟨f, _, hm, hk, F.binds (fun _ _ _ _ _ _ us hl => match us, hl with | [_, _, _, _, _], _ => rfl), ok_all T ap DS TB D_finds D_doubt D_by_number D_played lk hcd⟩
theorem def_fts (T : Bj mg) (ap : Ap PA PF PL) (DS : RefK P K mg CN CR CV) (TB : LamX.TabB base mg c PF)
    (D_played : Def P w K mg base (L2.CX P w) 6 "played" nPlayed (spPlayed CN CR CV)) (a : AtC K mg "_law_fates_refused" sFts c) : Def P w K mg base CX0 9 "_law_fates_refused" pFts (spFts PA PF PL) := by
  obtain ⟨f, oc, od, kV, doc, pm, an, ct, osl, hm, hk, lk, hcd⟩ := a
  have F : Fun K "_law_fates_refused" "_law_fates_refused" sFts f _ := ⟨⟨oc, od, kV, doc, pm, an, .ref c, ct, osl, rfl, lk, hcd⟩, hk⟩
  exact ⟨f, _, hm, hk, F.binds (fun _ _ _ _ _ _ us hl => match us, hl with | [_], _ => rfl), ok_fts T ap DS TB D_played lk hcd⟩
end
theorem all_mk {l : PySem.W.OpenLaw} {w : World} {K : PySem.W.Frag} {h : Heap} {mg : Str → Option Value} {fa f CN CR CV CT fN fR fV cA cF cL PA PF PL : Addr} {oc kV dc pm ct : Value} {od an : Option Addr} {sl : Array (Option Value)} (X : K.In h) (G : h.Ns mainGlobals mg) (hfa : mg "law" = some (.ref fa))
    (TN : PySem.Tide.TideTxt l.prog K mg "BadNumber" CN fN "value") (TR : PySem.Tide.TideTxt l.prog K mg "BadRow" CR fR "at") (TV : PySem.Tide.TideTxt l.prog K mg "BadValue" CV fV "why") (gT : mg "TideError" = some (.ref CT))
    (e1 : PySem.W.exmOne K (.ref CR) (.ref CN) = some false) (e2 : PySem.W.exmOne K (.ref CV) (.ref CN) = some false) (e3 : PySem.W.exmOne K (.ref CV) (.ref CR) = some false) (T : Bj mg) (C : Cs mg)
    (a0 : At K mg "is_integer" sIsInt)
    (a1 : At K mg "is_number" sIsNum)
    (a2 : At K mg "is_numbers" sIsNums)
    (a3 : At K mg "is_ascending" sIsAsc)
    (a4 : At K mg "played" sPlayed)
    (a5 : At K mg "finds" sFinds)
    (a6 : At K mg "doubt" sDoubt)
    (a7 : At K mg "turned" sTurned)
    (a8 : At K mg "by_number" sBy)
    (a9 : At K mg "_check" sCk)
    (a10 : At K mg "_check_number" sCkNum)
    (a11 : At K mg "_check_row" sCkRow)
    (a12 : At K mg "_check_others" sCkOth)
    (a13 : At K mg "_is_command" sCmd)
    (a14 : At K mg "_is_fate" sFate)
    (a15 : At K mg "_law_cell_at" sCell)
    (a16 : At K mg "_law_well" sWell)
    (a17 : At K mg "_law_draw" sDraw)
    (a18 : At K mg "_law_one" sOne)
    (a19 : At K mg "_law_refused" sRefd)
    (aA : AtC K mg "_law_all" sAll cA) (aF : AtC K mg "_law_fates_refused" sFts cF)
    (aL : PySem.W.nsIn K mainGlobals "law" = some (some (.ref f))) (lL : K.lookup f = some ⟨oc, od, .func (PySem.W.fnOf "law" "law" (defArgs sLaw) (defBody sLaw) (defScope sLaw) .none kV dc pm an (.ref cL) ct), sl⟩) (cL' : PySem.W.codeIn K (.ref cL) "law" = true) (kL : PySem.W.keepIn K (.ref f) = true)
    (hP : ∀ p ∈ [(cA, PA), (cF, PF), (cL, PL)], h.get? p.2 = some { cls := .none, data := .fields #[] }) (nP : ∀ p ∈ [(cA, PA), (cF, PF), (cL, PL)], K.lookup p.2 = none) (hC : ∀ p ∈ [(cA, PA), (cF, PF), (cL, PL)], PySem.W.CodeHd h p.1 p.2) (ap : Ap PA PF PL) :
    LamX.LawAtS l w K CX0 10 63 "_law_script" mg fa h := by
  have e := hfa.symm.trans (PySem.W.mg_of X G aL)
  cases e
  refine ⟨PySem.W.fnOf "law" "law" (defArgs sLaw) (defBody sLaw) (defScope sLaw) .none kV dc pm an (.ref cL) ct, [(cA, PA), (cF, PF), (cL, PL)], spLaw K PA PF PL, hP, nP, hC, fun s u => .of_eq rfl,
    fun H a ns hl _ hH hS => ⟨a, ns, rfl, hS, hl, fun p hp => ?_, fun _ => rfl⟩, fun base hb _ hTB => ?_⟩
  · simp only [T3, List.mem_cons, List.not_mem_nil, or_false] at hp
    rcases hp with rfl | rfl | rfl
    · exact LamX.TabS.nil (hH (cA, PA) (by simp))
    · exact LamX.TabS.nil (hH (cF, PF) (by simp))
    · exact LamX.TabS.nil (hH (cL, PL) (by simp))
  have TA := hTB (cA, PA) (by simp)
  have TF := hTB (cF, PF) (by simp)
  have TL := hTB (cL, PL) (by simp)
  have dInt := def_isInt (P := l.prog) (w := w) (base := base) T a0
  have dNum := def_isNum T dInt a1
  have dNums := def_isNums T dNum a2
  have dAsc := def_isAsc (P := l.prog) (w := w) (base := base) T a3
  have dCmd := def_cmd T dNum a13
  have dCkNum := def_ckNum T C TN dNum a10
  have dCkRow := def_ckRow T C TR dCmd a11
  have dCkOth := def_ckOth T C TV dInt dNums dAsc a12
  have dCk := def_ck dCkNum dCkRow dCkOth a9
  have dFinds := def_finds dCk a5
  have dDoubt := def_doubt dCk a6
  have dTurned := def_turned (CV := CV) dCkNum dCkRow a7
  have dBy := def_by dCkNum dCkRow dCkOth a8
  have dFate := def_fate T dInt dAsc a14
  have dPlayed := def_played TV dCk dFate a4
  have dCell := def_cell (P := l.prog) (w := w) (base := base) T a15
  have dWell := def_well (P := l.prog) (w := w) (base := base) T a16
  have dDraw := def_draw (P := l.prog) (w := w) (base := base) T a17
  have dOne := def_one T dDraw a18
  have DS : RefK l.prog K mg CN CR CV := ⟨a19, ⟨_, TN⟩, ⟨_, TR⟩, ⟨_, TV⟩, ⟨_, gT⟩, e1, e2, e3⟩
  have dAll := def_all T ap DS TA dFinds dDoubt dBy dPlayed aA
  have dFts := def_fts T ap DS TF dPlayed aF
  exact ok_law T ap DS TL dCell dWell dDraw dOne dAll dFts dTurned dBy lL cL'
theorem walk_tops {l : PySem.W.OpenLaw} {n k : Nat} {q : Program} {loose : List Str} {XP : (Str → Option Value) → Heap → Prop} {YP : World → Heap → Prop} {d : DefRec} {K : Params → PySem.W.Frag} {x : Str}
    (hn : l.most = some n) (hn2 : n ≤ sizeLine) (hdf : d.params.defaults = []) (hr : Room k callerA) (hY : ∀ (w : World) (h : Heap), YP w h → (K w.params).In h)
    (F : ∀ (w : World) (s : Shared) (mg mb : Str → Option Value) (fa : Addr) (h : Heap), (K w.params).In h → PyProof.Rows.Top q (PySem.W.looseW q loose) (ExcName.means s.heap) mg mb h → mg d.name = some (.ref fa) → LamX.LawAtS l w (K w.params) CX0 k n x mg fa h) :
    PySem.W.WalkO q loose XP YP l.row.toRowW d [] (fun f vs => PySem.call f vs) := by
  refine Att.attach_callB hn hdf fun w s0 s1 mg mb fa o pm cd doc a vs ns G Y ho hd hcd hmg hobj hints hlen hbits hg => ?_
  have KX := hY w _ Y
  obtain ⟨fd, cs, sp, hT, nT, C, hb, hsp, hF⟩ := F w s0 mg mb fa _ KX G.T hmg
  exact LamX.law_callTs KX G.T.g G.T.b G.T.builtins G.T.nolimit hg hT nT C G.T.bmain hobj hints (Nat.le_trans hlen hn2) hr hF hb (fun H hH hS => hsp H a ns hlen hbits hH hS) fun _ _ _ z => z
end K1


open PySem PySem.W PyProof.Rows
set_option Elab.async false
set_option linter.all false
set_option maxRecDepth 100000 in
set_option maxHeartbeats 0 in
theorem PySem.Challenge.cw_mailtide_k31_what_rows_in_flight_refuse_holds : PySem.Challenge.rw_mailtide_k31_what_rows_in_flight_refuse.Holds := by
  w_on; o_law; k_head; (case hw => w_witness2)
  k_fill
  refine K1.walk_tops (l := PySem.Challenge.rw_mailtide_k31_what_rows_in_flight_refuse) (n := 63) (k := 10) (x := "_law_script") rfl (by decide) rfl ⟨rfl, by decide, by decide⟩ (fun w h Y => PySem.W.km_in_of Y) ?F
  intro w s mg mb fa h KX G hmg
  have hA := PySem.W.tab_of (x := PySem.Str.ofString "_law_all") (c := 322) (P := 318) G KX rfl (by kernel_rfl)
  have hF := PySem.W.tab_of (x := PySem.Str.ofString "_law_fates_refused") (c := 329) (P := 325) G KX rfl (by kernel_rfl)
  have hL := PySem.W.tab_of (x := PySem.Str.ofString "law") (c := 334) (P := 332) G KX rfl (by kernel_rfl)
  refine' K1.all_mk KX G.g hmg ?TN ?TR ?TV ?gT ?e1 ?e2 ?e3 ?T ?C ?a0 ?a1 ?a2 ?a3 ?a4 ?a5 ?a6 ?a7 ?a8 ?a9 ?a10 ?a11 ?a12 ?a13 ?a14 ?a15 ?a16 ?a17 ?a18 ?a19 ?aA ?aF ?aL ?lL ?cL ?kL (List.forall_mem_cons.mpr ⟨hA.2, List.forall_mem_cons.mpr ⟨hF.2, List.forall_mem_cons.mpr ⟨hL.2, fun _ z => nomatch z⟩⟩⟩) (List.forall_mem_cons.mpr ⟨?nA, List.forall_mem_cons.mpr ⟨?nF, List.forall_mem_cons.mpr ⟨?nL, fun _ z => nomatch z⟩⟩⟩) (List.forall_mem_cons.mpr ⟨hA.1, List.forall_mem_cons.mpr ⟨hF.1, List.forall_mem_cons.mpr ⟨hL.1, fun _ z => nomatch z⟩⟩⟩) ⟨by decide, by decide, by decide⟩
  case TN =>
    refine' K1.tide_mk (tx := "no number that can stand here") (j := 0) (p1 := ⟨7, 17, 7, 21⟩) (p2 := ⟨7, 23, 7, 28⟩) (q1 := ⟨8, 8, 8, 13⟩) (q2 := ⟨8, 8, 8, 15⟩) (q3 := ⟨8, 8, 8, 24⟩) (q4 := ⟨8, 25, 8, 56⟩) (q5 := ⟨8, 8, 8, 57⟩) (q6 := ⟨8, 8, 8, 57⟩) (q7 := ⟨9, 8, 9, 12⟩) (q8 := ⟨9, 8, 9, 18⟩) (q9 := ⟨9, 21, 9, 26⟩) (q10 := ⟨9, 8, 9, 26⟩) KX G.g PySem.Tide.ok_value ⟨_, fun env => by rfl⟩ (by decide +kernel) ?naC ?nxL ?nbm ?nsa ?nga ?ngg ?nnb ?na1 ?nt1 ?nl1 ?nc1 ?nn1 ?nn2 ?nn3 ?nn4 ?nkC ?neC ?ntC ?nhC ?niC ?nsC ?nsu ?nvC ?nmC ?ntpa ?nns
    (case naC => k_is)
    (case nxL => k_is)
    (case nbm => decide +kernel)
    (case nsa => k_is)
    (case nga => k_is)
    (case ngg => k_is)
    (case nnb => k_is)
    (case na1 => k_is)
    (case nt1 => k_is)
    (case nl1 => k_is)
    (case nc1 => k_is)
    (case nn1 => k_is)
    (case nn2 => rfl)
    (case nn3 => decide +kernel)
    (case nn4 => k_is)
    (case nkC => k_is)
    (case neC => k_is)
    (case ntC => k_is)
    (case nhC => k_is)
    (case niC => k_is)
    (case nsC => k_is)
    (case nsu => ks_is)
    (case nvC => k_is)
    (case nmC => k_is)
    (case ntpa => k_is)
    (case nns => k_is)
  case TR =>
    refine' K1.tide_mk (tx := "a row with a wrong item, or no row") (j := 0) (p1 := ⟨12, 17, 12, 21⟩) (p2 := ⟨12, 23, 12, 25⟩) (q1 := ⟨13, 8, 13, 13⟩) (q2 := ⟨13, 8, 13, 15⟩) (q3 := ⟨13, 8, 13, 24⟩) (q4 := ⟨13, 25, 13, 61⟩) (q5 := ⟨13, 8, 13, 62⟩) (q6 := ⟨13, 8, 13, 62⟩) (q7 := ⟨14, 8, 14, 12⟩) (q8 := ⟨14, 8, 14, 15⟩) (q9 := ⟨14, 18, 14, 20⟩) (q10 := ⟨14, 8, 14, 20⟩) KX G.g PySem.Tide.ok_at ⟨_, fun env => by rfl⟩ (by decide +kernel) ?raC ?rxL ?rbm ?rsa ?rga ?rgg ?rnb ?ra1 ?rt1 ?rl1 ?rc1 ?rn1 ?rn2 ?rn3 ?rn4 ?rkC ?reC ?rtC ?rhC ?riC ?rsC ?rsu ?rvC ?rmC ?rtpa ?rns
    (case raC => k_is)
    (case rxL => k_is)
    (case rbm => decide +kernel)
    (case rsa => k_is)
    (case rga => k_is)
    (case rgg => k_is)
    (case rnb => k_is)
    (case ra1 => k_is)
    (case rt1 => k_is)
    (case rl1 => k_is)
    (case rc1 => k_is)
    (case rn1 => k_is)
    (case rn2 => rfl)
    (case rn3 => decide +kernel)
    (case rn4 => k_is)
    (case rkC => k_is)
    (case reC => k_is)
    (case rtC => k_is)
    (case rhC => k_is)
    (case riC => k_is)
    (case rsC => k_is)
    (case rsu => ks_is)
    (case rvC => k_is)
    (case rmC => k_is)
    (case rtpa => k_is)
    (case rns => k_is)
  case TV =>
    refine' K1.tide_mk (tx := "a wrong value") (j := 0) (p1 := ⟨17, 17, 17, 21⟩) (p2 := ⟨17, 23, 17, 26⟩) (q1 := ⟨18, 8, 18, 13⟩) (q2 := ⟨18, 8, 18, 15⟩) (q3 := ⟨18, 8, 18, 24⟩) (q4 := ⟨18, 25, 18, 40⟩) (q5 := ⟨18, 8, 18, 41⟩) (q6 := ⟨18, 8, 18, 41⟩) (q7 := ⟨19, 8, 19, 12⟩) (q8 := ⟨19, 8, 19, 16⟩) (q9 := ⟨19, 19, 19, 22⟩) (q10 := ⟨19, 8, 19, 22⟩) KX G.g PySem.Tide.ok_why ⟨_, fun env => by rfl⟩ (by decide +kernel) ?vaC ?vxL ?vbm ?vsa ?vga ?vgg ?vnb ?va1 ?vt1 ?vl1 ?vc1 ?vn1 ?vn2 ?vn3 ?vn4 ?vkC ?veC ?vtC ?vhC ?viC ?vsC ?vsu ?vvC ?vmC ?vtpa ?vns
    (case vaC => k_is)
    (case vxL => k_is)
    (case vbm => decide +kernel)
    (case vsa => k_is)
    (case vga => k_is)
    (case vgg => k_is)
    (case vnb => k_is)
    (case va1 => k_is)
    (case vt1 => k_is)
    (case vl1 => k_is)
    (case vc1 => k_is)
    (case vn1 => k_is)
    (case vn2 => rfl)
    (case vn3 => decide +kernel)
    (case vn4 => k_is)
    (case vkC => k_is)
    (case veC => k_is)
    (case vtC => k_is)
    (case vhC => k_is)
    (case viC => k_is)
    (case vsC => k_is)
    (case vsu => ks_is)
    (case vvC => k_is)
    (case vmC => k_is)
    (case vtpa => k_is)
    (case vns => k_is)
  case gT =>
    refine' PySem.W.mg_of KX G.g ?tT
    (case tT => k_is)
  case e1 =>
    refine' K1.exm_other ?e11 ?e12 ?e13 ?e14
    (case e11 => k_is); (case e12 => k_is); (case e13 => k_is); (case e14 => k_is)
  case e2 =>
    refine' K1.exm_other ?e21 ?e22 ?e23 ?e24
    (case e21 => k_is); (case e22 => k_is); (case e23 => k_is); (case e24 => k_is)
  case e3 =>
    refine' K1.exm_other ?e31 ?e32 ?e33 ?e34
    (case e31 => k_is); (case e32 => k_is); (case e33 => k_is); (case e34 => k_is)
  case T =>
    refine' ⟨⟨PySem.W.mg_none_of KX G.g ?z0, PySem.W.mg_none_of KX G.g ?z1, PySem.W.mg_none_of KX G.g ?z2, PySem.W.mg_none_of KX G.g ?z3, PySem.W.mg_none_of KX G.g ?z4, PySem.W.mg_none_of KX G.g ?z5, PySem.W.mg_none_of KX G.g ?z6, PySem.W.mg_none_of KX G.g ?z7, PySem.W.mg_none_of KX G.g ?z8, PySem.W.mg_none_of KX G.g ?z9, PySem.W.mg_none_of KX G.g ?z10, PySem.W.mg_none_of KX G.g ?z11⟩, PySem.W.mg_none_of KX G.g ?z12, PySem.W.mg_none_of KX G.g ?z13⟩
    (case z0 => k_is); (case z1 => k_is); (case z2 => k_is); (case z3 => k_is); (case z4 => k_is); (case z5 => k_is); (case z6 => k_is); (case z7 => k_is); (case z8 => k_is); (case z9 => k_is); (case z10 => k_is); (case z11 => k_is); (case z12 => k_is); (case z13 => k_is)
  case C =>
    refine' ⟨K1.cs_mk KX G.g ?v0 ?w0, K1.cs_mk KX G.g ?v1 ?w1, K1.cs_mk KX G.g ?v2 ?w2⟩
    (case v0 => k_is); (case w0 => rfl); (case v1 => k_is); (case w1 => rfl); (case v2 => k_is); (case w2 => rfl)
  case a0 =>
    refine' K1.at_mk KX G.g ?b ?l ?c ?k
    (case b => k_is); (case l => k_is); (case c => k_is); (case k => k_is)
  case a1 =>
    refine' K1.at_mk KX G.g ?b ?l ?c ?k
    (case b => k_is); (case l => k_is); (case c => k_is); (case k => k_is)
  case a2 =>
    refine' K1.at_mk KX G.g ?b ?l ?c ?k
    (case b => k_is); (case l => k_is); (case c => k_is); (case k => k_is)
  case a3 =>
    refine' K1.at_mk KX G.g ?b ?l ?c ?k
    (case b => k_is); (case l => k_is); (case c => k_is); (case k => k_is)
  case a4 =>
    refine' K1.at_mk KX G.g ?b ?l ?c ?k
    (case b => k_is); (case l => k_is); (case c => k_is); (case k => k_is)
  case a5 =>
    refine' K1.at_mk KX G.g ?b ?l ?c ?k
    (case b => k_is); (case l => k_is); (case c => k_is); (case k => k_is)
  case a6 =>
    refine' K1.at_mk KX G.g ?b ?l ?c ?k
    (case b => k_is); (case l => k_is); (case c => k_is); (case k => k_is)
  case a7 =>
    refine' K1.at_mk KX G.g ?b ?l ?c ?k
    (case b => k_is); (case l => k_is); (case c => k_is); (case k => k_is)
  case a8 =>
    refine' K1.at_mk KX G.g ?b ?l ?c ?k
    (case b => k_is); (case l => k_is); (case c => k_is); (case k => k_is)
  case a9 =>
    refine' K1.at_mk KX G.g ?b ?l ?c ?k
    (case b => k_is); (case l => k_is); (case c => k_is); (case k => k_is)
  case a10 =>
    refine' K1.at_mk KX G.g ?b ?l ?c ?k
    (case b => k_is); (case l => k_is); (case c => k_is); (case k => k_is)
  case a11 =>
    refine' K1.at_mk KX G.g ?b ?l ?c ?k
    (case b => k_is); (case l => k_is); (case c => k_is); (case k => k_is)
  case a12 =>
    refine' K1.at_mk KX G.g ?b ?l ?c ?k
    (case b => k_is); (case l => k_is); (case c => k_is); (case k => k_is)
  case a13 =>
    refine' K1.at_mk KX G.g ?b ?l ?c ?k
    (case b => k_is); (case l => k_is); (case c => k_is); (case k => k_is)
  case a14 =>
    refine' K1.at_mk KX G.g ?b ?l ?c ?k
    (case b => k_is); (case l => k_is); (case c => k_is); (case k => k_is)
  case a15 =>
    refine' K1.at_mk KX G.g ?b ?l ?c ?k
    (case b => k_is); (case l => k_is); (case c => k_is); (case k => k_is)
  case a16 =>
    refine' K1.at_mk KX G.g ?b ?l ?c ?k
    (case b => k_is); (case l => k_is); (case c => k_is); (case k => k_is)
  case a17 =>
    refine' K1.at_mk KX G.g ?b ?l ?c ?k
    (case b => k_is); (case l => k_is); (case c => k_is); (case k => k_is)
  case a18 =>
    refine' K1.at_mk KX G.g ?b ?l ?c ?k
    (case b => k_is); (case l => k_is); (case c => k_is); (case k => k_is)
  case a19 =>
    refine' K1.at_mk KX G.g ?b ?l ?c ?k
    (case b => k_is); (case l => k_is); (case c => k_is); (case k => k_is)
  case aA =>
    refine' K1.atC_mk KX G.g ?b ?l ?c ?k
    (case b => k_is); (case l => k_is); (case c => k_is); (case k => k_is)
  case aF =>
    refine' K1.atC_mk KX G.g ?b ?l ?c ?k
    (case b => k_is); (case l => k_is); (case c => k_is); (case k => k_is)
  (case aL => k_is); (case lL => k_is); (case cL => k_is); (case kL => k_is)
  (case nA => first | kernel_rfl | rfl)
  (case nF => first | kernel_rfl | rfl)
  (case nL => first | kernel_rfl | rfl)

