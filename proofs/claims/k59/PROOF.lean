import PyProof.Rows.All
import Wide.All
import OpenK.AllK
import Wide.FinOn
import PySem.Challenge.RW_mailtide_k59_whole_sights_of_real_folder
import HandS.ForMost
import HandS.Exc
import HandS.TryOnly
import HandS.TryMany
import HandS.Lambda
import HandS.EndTab
import HandS.IsInst
import HandS.SortRule
import HandS.SortInts
import HandS.StrMore
import HandS.Conv
import HandS.Wide
import HandS.Flow
import HandS.Walk
import HandS.TupAny
import HandS.ListEq
import HandS.DeepEq
import KE.KExcSuper
import KE.GoesMore
import PyProof.Draws
import HandS.ForExc
import HandS.Zip
import HandS.Strs
import HandS.SetFor
import HandS.Star
import HandS.Codes
import PyProof.WalkInts
import PyProof.MinMaxWalk
import HandS.WordsDict
import HandS.Dict
set_option Elab.async false
set_option linter.all false
set_option maxRecDepth 100000
namespace K1
open PySem PySem.Spec PyProof.Rows L2
def topS (i : Nat) : Stmt := PySem.Challenge.pw_mailtide_k59_whole_sights_of_real_folder.main.body.getD i (.Pass ⟨0, 0, 0, 0⟩)
abbrev st_TideError : Stmt := topS 1
abbrev st_BadFolder : Stmt := topS 2
abbrev st_BadNumber : Stmt := topS 3
abbrev st_BadSigns : Stmt := topS 4
abbrev st_BadDeed : Stmt := topS 5
abbrev st_BadValue : Stmt := topS 6
abbrev st_is_integer : Stmt := topS 10
abbrev st_is_number : Stmt := topS 11
abbrev st_is_body : Stmt := topS 12
abbrev st_is_mark : Stmt := topS 13
abbrev st_is_sign : Stmt := topS 14
abbrev st_is_signs : Stmt := topS 15
abbrev st_is_numbers : Stmt := topS 16
abbrev st_between : Stmt := topS 18
abbrev st_most_at_once : Stmt := topS 19
abbrev st_fewest_at_once : Stmt := topS 20
abbrev st_surely : Stmt := topS 21
abbrev st__between : Stmt := topS 22
abbrev st__word : Stmt := topS 23
abbrev st__check_sights : Stmt := topS 24
abbrev st__is_sight : Stmt := topS 25
abbrev st_Folder : Stmt := topS 27
abbrev st__check_numbers : Stmt := topS 28
abbrev st__with_sign : Stmt := topS 29
abbrev st__without_sign : Stmt := topS 30
abbrev st_played : Stmt := topS 32
abbrev st_is_deed : Stmt := topS 33
abbrev st_can_be_done : Stmt := topS 34
abbrev st_done : Stmt := topS 35
abbrev st__law_cell_at : Stmt := topS 37
abbrev st__law_well : Stmt := topS 38
abbrev st__law_draw : Stmt := topS 39
abbrev st__law_one : Stmt := topS 40
abbrev st__law_signs : Stmt := topS 41
abbrev st__law_deed : Stmt := topS 42
abbrev st__law_folder : Stmt := topS 43
abbrev st__law_sight : Stmt := topS 44
abbrev st__law_fits : Stmt := topS 45
abbrev st_law : Stmt := topS 46
end K1


set_option Elab.async false
set_option linter.all false
set_option maxRecDepth 100000
set_option maxHeartbeats 4000000
namespace K1
open PySem PySem.Spec PyProof.Rows L2
/-! ### a def by its name -/
structure Def (P : Program) (w : World) (K : PySem.W.Frag) (mg : Str → Option Value) (base : Heap) (CX : CXT) (k : Nat) (x : Str) (ps : List Str) (sp : Sp) : Prop where
  ex : ∃ (f : Addr) (fd : FuncData), mg x = some (.ref f) ∧ PySem.W.keepIn K (.ref f) = true ∧ Binds K fd ps [] ∧ FnOk P w K mg base CX k f fd ps sp
section
variable {X : Cx} {CX : CXT} {k : Nat} {ps : List Str} {sp : Sp} {E : XK} {x : Str} {p pos : Pos} {e : Expr} {es : List Expr} {t : TA}
theorem pe_def (D : Def X.prog X.w X.K X.mg X.base CX k x ps sp) (hr : Room k X.A) (hg : Gl X x) (hx : Passes CX X E)
    (ha : PA X (e :: es) t) (hdb : (x == ("__debug__" : Str)) = false := by decide) (he : starEach (e :: es) X.env = (false, eval e X.env) :: starEach es X.env := by rfl) (hpl : (backTo pos (starEach es X.env)).any (·.1) = false := by rfl) :
    PE X (.Call (.Name x p) (e :: es) [] pos) (tCall sp [] E t) := by
  obtain ⟨f, fd, hm, hk, hb, F⟩ := D.ex
  exact pe_call F hr hg hm hk hb .nil hx ha hdb he hpl
theorem pe_def0 (D : Def X.prog X.w X.K X.mg X.base CX k x ps sp) (hr : Room k X.A) (hg : Gl X x) (hx : Passes CX X E)
    (hdb : (x == ("__debug__" : Str)) = false := by decide) : PE X (.Call (.Name x p) [] [] pos) (tCall sp [] E tNil) := by
  obtain ⟨f, fd, hm, hk, hb, F⟩ := D.ex
  exact pe_call0 F hr hg hm hk hb .nil hx hdb
end
/-! ### heaps: all that is tracked but p stays -/
def Ext (p : Addr) (H H' : Hp) : Prop := ∀ b o, b ≠ p → H b = some o → H' b = some o
theorem Ext.refl {p : Addr} (H : Hp) : Ext p H H := fun _ _ _ h => h
theorem Ext.trans {p : Addr} {H H1 H2 : Hp} (a : Ext p H H1) (b : Ext p H1 H2) : Ext p H H2 := fun c o n h => b c o n (a c o n h)
theorem Ext.self {p : Addr} {H H' : Hp} {o : HO} (a : Ext p H H') : Ext p H (upd H' p o) := fun c u n h => by rw [upd_ne n]; exact a c u n h
theorem Ext.new {p q : Addr} {H H' : Hp} {o : HO} (a : Ext p H H') (h : H' q = none) : Ext p H (upd H' q o) := fun c u n e => by
  have e' := a c u n e
  rw [upd_ne (ne_of_none e' h)]; exact e'
theorem Ext.mut {p q : Addr} {H H' : Hp} {o : HO} (a : Ext p H H') (h : H q = none) : Ext p H (upd H' q o) := fun c u n e => by
  rw [upd_ne (ne_of_none e h)]; exact a c u n e
theorem Ext.free {p q : Addr} {H H' : Hp} (a : Ext p H H') (h : H' q = none) (n : q ≠ p) : H q = none := by
  cases e : H q with
  | none => rfl
  | some o => rw [a q o n e] at h; cases h
theorem same_ext {p : Addr} {H H' : Hp} (a : Same H H') : Ext p H H' := fun b o _ h => a b o h
theorem same_new {q : Addr} {H : Hp} {o : HO} (h : H q = none) : Same H (upd H q o) := fun c u e => by
  rw [upd_ne (ne_of_none e h)]; exact e
theorem _root_.L2.Same.new {q : Addr} {H H' : Hp} {o : HO} (a : Same H H') (h : H' q = none) : Same H (upd H' q o) := a.trans (same_new h)
theorem _root_.L2.Same.mut {q : Addr} {H H' : Hp} {o : HO} (a : Same H H') (h : H q = none) : Same H (upd H' q o) := fun c u e => by
  rw [upd_ne (ne_of_none e h)]; exact a c u e
theorem lt1 (n : Nat) (h : n ≤ 100000) : n ≤ sizeLine := Nat.le_trans h (by decide)
theorem lt2 (n : Nat) (h : n ≤ 100000) : n < sizeLine := Nat.lt_of_le_of_lt h (by decide)
/-- a well: three ints -/
def WellAt (H : Hp) (p : Addr) : Prop := ∃ c m t : Int, H p = some (.lst [.int c, .int m, .int t])
theorem WellAt.new {H : Hp} {p q : Addr} {o : HO} (w : WellAt H p) (h : H q = none) : WellAt (upd H q o) p := by
  obtain ⟨c, m, t, e⟩ := w
  exact ⟨c, m, t, by rw [upd_ne (ne_of_none e h)]; exact e⟩
theorem WellAt.ne {H : Hp} {p q : Addr} (w : WellAt H p) (h : H q = none) : q ≠ p := by
  obtain ⟨c, m, t, e⟩ := w
  exact (ne_of_none e h).symm
theorem WellAt.upd {H : Hp} {p q : Addr} {o : HO} (w : WellAt H p) (h : q ≠ p) : WellAt (upd H q o) p := by
  obtain ⟨c, m, t, e⟩ := w
  exact ⟨c, m, t, by rw [upd_ne h.symm]; exact e⟩
theorem sq {K : PySem.W.Frag} {H : Hp} {a : Addr} {xs : List V} (h : H a = some (.lst xs)) : SqL K H a xs := .inl (.inl h)
theorem st {K : PySem.W.Frag} {H : Hp} {a : Addr} {xs : List V} (h : H a = some (.tup xs)) : SqT K H a xs := .inl (.inl h)
/-- names that the top leaves to the built-ins -/
structure Bi (mg : Str → Option Value) : Prop where
  int : mg "int" = none
  len : mg "len" = none
  str : mg "str" = none
  range : mg "range" = none
  max : mg "max" = none
  min : mg "min" = none
  sorted : mg "sorted" = none
  tuple : mg "tuple" = none
  list : mg "list" = none
  enumerate : mg "enumerate" = none
  isinstance : mg "isinstance" = none
  bool : mg "bool" = none
end K1
namespace K1
open PySem PySem.Spec PyProof.Rows L2
/-- a def of the text stands at its name -/
def At (K : PySem.W.Frag) (mg : Str → Option Value) (x : Str) (st : Stmt) : Prop := ∃ (f : Addr) (fd : FuncData), mg x = some (.ref f) ∧ Fun K x x st f fd
theorem At.def {P : Program} {w : World} {K : PySem.W.Frag} {mg : Str → Option Value} {base : Heap} {CX : CXT} {k : Nat} {x : Str} {ps : List Str} {sp : Sp} {st : Stmt} (a : At K mg x st)
    (hb : ∀ (kV doc pm : Value) (an : Option Addr) (cdv ct : Value) (us : List Value), us.length = ps.length → bindArgs (PySem.W.fnOf x x (defArgs st) (defBody st) (defScope st) .none kV doc pm an cdv ct) ⟨us, []⟩ = pure (ps.zip us))
    (h : ∀ f fd, Fun K x x st f fd → FnOk P w K mg base CX k f fd ps sp) : Def P w K mg base CX k x ps sp := by
  obtain ⟨f, fd, hm, F⟩ := a
  exact ⟨f, fd, hm, F.kp, F.binds hb, h f fd F⟩
end K1
namespace K1
open PySem PySem.Spec PyProof.Rows L2
def G : Int := 999999999999999999999999999999
/-- numbers that are there -/
structure There (ns : List Int) : Prop where
  asc : ns.Pairwise (· < ·)
  rng : ∀ n ∈ ns, 1 ≤ n ∧ n ≤ G
  len : ns.length ≤ 200
theorem getD_map {ns : List Int} {i : Nat} {y : V} (h : (ns.map V.int)[i]? = some y) : ∃ z, ns[i]? = some z ∧ y = .int z := by
  rw [List.getElem?_map] at h
  cases e : ns[i]? with
  | none => rw [e] at h; cases h
  | some z => rw [e] at h; exact ⟨z, rfl, (Option.some.inj h).symm⟩
theorem take_more {α : Type} {l : List α} {i : Nat} {x : α} (h : l[i]? = some x) : l.take (i + 1) = l.take i ++ [x] := by
  rw [List.take_add_one, h]; rfl
theorem lt_of_get {α : Type} {l : List α} {i : Nat} {x : α} (h : l[i]? = some x) : i < l.length := (List.getElem?_eq_some_iff.mp h).1
end K1
namespace K1
open PySem PySem.Spec PyProof.Rows L2
/-- a comprehension without a test -/
theorem tyes {σ : L2.St} {H : Hp} {A B : Hp → Prop} (h : A H) : tYes σ H (fun b H3 => if b = true then A H3 else B H3) := by
  show (if true = true then A H else B H)
  rw [if_pos rfl]
  exact h
/-- a test whose answer is known -/
theorem itbT {c : Bool} {A B : Prop} (hc : c = true) (h : A) : if c = true then A else B := by
  rw [if_pos hc]
  exact h
theorem itbF {c : Bool} {A B : Prop} (hc : c = false) (h : B) : if c = true then A else B := by
  rw [hc, if_neg Bool.false_ne_true]
  exact h
end K1
namespace K1
open PySem PySem.Spec PyProof.Rows L2
/-! ### rules with the written part by its name (for blocks) -/
section
variable {X : Cx} {K : PySem.W.Frag}
theorem call_lenK (h : X.K = K) : CallR X (.builtin "len") (fun xs H Q => ∃ p ys, xs = [.ref p] ∧ (SqL K H p ys ∨ SqT K H p ys) ∧ Q (.int ys.length) H) := by
  subst h; exact call_len_seq
theorem ix_listK (h : X.K = K) : IxR X (rIxL K) := by subst h; exact ix_list
theorem ix_tupK (h : X.K = K) : IxR X (rIxT K) := by subst h; exact ix_tup
theorem op_in_seqK (h : X.K = K) : OpR X (compareOp .In) (rIn K false) := by subst h; exact op_in_seq
theorem op_notIn_seqK (h : X.K = K) : OpR X (compareOp .NotIn) (rIn K true) := by subst h; exact op_notIn_seq
theorem op_eqDK (h : X.K = K) (hu : X.A.units + 64 < cLine) : OpR X (compareOp .Eq) (rEqD K) := by subst h; exact op_eqD hu
theorem op_neDK (h : X.K = K) (hu : X.A.units + 64 < cLine) : OpR X (compareOp .NotEq) (rNeD K) := by subst h; exact op_neD hu
theorem pi_listK {tg l : Expr} {tl : TE} (h : X.K = K) (hl : PE X l tl) : PI X tg l (iList K tl) := by subst h; exact pi_list hl
theorem pi_tupK {tg l : Expr} {tl : TE} (h : X.K = K) (hl : PE X l tl) : PI X tg l (iTup K tl) := by subst h; exact pi_tup hl
theorem call_list_ofK (h : X.K = K) : CallR X (.type "list") (fun xs H Q => ∃ p ys, xs = [.ref p] ∧ (SqL K H p ys ∨ SqT K H p ys) ∧ ∀ l, H l = none → Q (.ref l) (upd H l (.lst ys))) := by
  subst h; exact call_list_of
theorem call_tuple_ofK (h : X.K = K) : CallR X (.type "tuple") (fun xs H Q => ∃ p ys, xs = [.ref p] ∧ ((SqL K H p ys ∧ ∀ l, H l = none → Q (.ref l) (upd H l (.tup ys))) ∨ (SqT K H p ys ∧ Q (.ref p) H))) := by
  subst h; exact call_tuple_of
theorem pe_joinK {o e : Expr} {to te : TE} {apos pos : Pos} (h : X.K = K) (ho : PE X o to) (he : PE X e te) (hs : starEach [e] X.env = [(false, eval e X.env)] := by rfl) (hbase : attributeBase o "join" X.env (eval o X.env) = eval o X.env := by rfl) (hline : (apos.endLine == pos.line) = true := by rfl) :
    PE X (.Call (.Attribute o "join" apos) [e] [] pos) (tM1 (fun x xs H Q => ∃ a p, ∃ ys : List Str, x = .str a ∧ xs = [.ref p] ∧ (SqL K H p (ys.map V.str) ∨ SqT K H p (ys.map V.str)) ∧
      (ys.map (·.length)).sum + ys.length * a.length ≤ 16777216 ∧ Q (.str (Txt.join a ys)) H) to te) := by
  subst h; exact pe_join ho he hs hbase hline
end
end K1
namespace K1
open PySem PySem.Spec PyProof.Rows L2
section
variable {X : Cx} {K : PySem.W.Frag}
theorem cr_minK (h : X.K = K) (hc : X.calm = true) : CallR X (.builtin "min") (rMin K) := by subst h; exact cr_min hc
theorem cr_maxK (h : X.K = K) (hc : X.calm = true) : CallR X (.builtin "max") (rMax K) := by subst h; exact cr_max hc
end
/-! ### data that are compared -/
theorem dp_ints {K : PySem.W.Frag} {H : Hp} : ∀ ns : List Int, DpAll K H (ns.map V.int) (ns.map PyData.int)
  | [] => .nil
  | n :: r => .cons (.int n) (dp_ints r)
theorem dp_list {K : PySem.W.Frag} {H : Hp} {a : Addr} {ns : List Int} (h : SqL K H a (ns.map V.int)) : Dp K H (.ref a) (.list (ns.map PyData.int)) := .lst h (dp_ints ns)
theorem lay_ints : ∀ ns : List Int, PyData.canLayAll0 (ns.map PyData.int) = true
  | [] => by rfl
  | n :: r => by
    show (PyData.canLay0 (.int n) && PyData.canLayAll0 (r.map PyData.int)) = true
    rw [lay_ints r]; rfl
theorem depth_ints : ∀ ns : List Int, PyData.depthAll (ns.map PyData.int) = 0
  | [] => by rfl
  | n :: r => by
    show max (PyData.depth (.int n)) (PyData.depthAll (r.map PyData.int)) = 0
    rw [depth_ints r]; rfl
theorem shaped_ints (ns : List Int) : SeqAt.shaped (.list (ns.map PyData.int)) = true := by
  unfold SeqAt.shaped
  have h1 : PyData.canLay0 (.list (ns.map PyData.int)) = true := lay_ints ns
  have h2 : PyData.depth (.list (ns.map PyData.int)) = 1 := by
    show PyData.depthAll (ns.map PyData.int) + 1 = 1
    rw [depth_ints]
  rw [h1, h2]; rfl
theorem eqv_ints : ∀ xs ys : List Int, PyData.eqv (.list (xs.map PyData.int)) (.list (ys.map PyData.int)) = decide (xs = ys) := by
  have h : ∀ xs ys : List Int, PyData.eqvAll (xs.map PyData.int) (ys.map PyData.int) = decide (xs = ys) := by
    intro xs
    induction xs with
    | nil => intro ys; cases ys <;> simp [PyData.eqvAll]
    | cons x r ih =>
      intro ys
      cases ys with
      | nil => simp [PyData.eqvAll]
      | cons y t =>
        show (PyData.eqv (.int x) (.int y) && PyData.eqvAll (r.map PyData.int) (t.map PyData.int)) = decide (x :: r = y :: t)
        rw [ih, show PyData.eqv (.int x) (.int y) = (x == y) by simp [PyData.eqv]]
        by_cases e : x = y <;> by_cases e2 : r = t <;> simp [e, e2]
  intro xs ys
  show PyData.eqvAll (xs.map PyData.int) (ys.map PyData.int) = _
  exact h xs ys
theorem inV_ints (n : Int) : ∀ ns : List Int, inV (.int n) (ns.map V.int) = decide (n ∈ ns)
  | [] => by simp [inV]
  | m :: r => by
    have ih := inV_ints n r
    unfold inV at ih ⊢
    rw [List.map_cons, List.any_cons, ih]
    by_cases e : m = n
    · subst e; simp [eqV]
    · have e' : ¬ n = m := fun h => e h.symm
      simp [eqV, e, e']
theorem flat_ints : ∀ ns : List Int, (ns.map V.int).all flatV = true
  | [] => rfl
  | m :: r => by rw [List.map_cons, List.all_cons, flat_ints r]; rfl
/-- a list by a filter -/
def FiltBy (ns : List Int) (P : Int → Prop) (rs : List Int) : Prop := ∃ p : Int → Bool, (∀ n ∈ ns, (p n = true ↔ P n)) ∧ rs = ns.filter p
theorem FiltBy.eq {ns rs ts : List Int} {P R : Int → Prop} (h1 : FiltBy ns P rs) (h2 : FiltBy ns R ts) (h : ∀ n ∈ ns, (P n ↔ R n)) : rs = ts := by
  obtain ⟨p, hp, rfl⟩ := h1
  obtain ⟨q, hq, rfl⟩ := h2
  refine List.filter_congr fun n hn => ?_
  have a := hp n hn
  have b := hq n hn
  have c := h n hn
  cases e : p n <;> cases e2 : q n <;> simp_all
end K1


set_option Elab.async false
set_option linter.all false
set_option maxRecDepth 100000
set_option maxHeartbeats 4000000
/-! Own errors below an own error below ValueError, whose __init__ says super().__init__(a text) and then stores its one argument. -/
namespace PySem
namespace Tide
open PySem.W PySem.Calls PyProof.Rows PySem.HandSPX
def iA (fl : Str) (p1 p2 : Pos) : Arguments := { posonlyargs := [], args := [{ arg := "self", annotation := none, pos := p1 }, { arg := fl, annotation := none, pos := p2 }], vararg := none, kwonlyargs := [], kw_defaults := [], kwarg := none, defaults := [] }
def iB (fl tx : Str) (j : Nat) (q1 q2 q3 q4 q5 q6 q7 q8 q9 q10 : Pos) : List Stmt :=
  [.Expr (.Call (.Attribute (.Call (.Name "super" q1) [] [] q2) "__init__" q3) [.Constant (.str tx) j q4] [] q5) q6, .Assign [.Attribute (.Name "self" q7) fl q8] (.Name fl q9) q10]
def iS (fl : Str) : Scope := { kind := .function, names := [(PySem.Str.ofString "self", .local), (fl, .local), (PySem.Str.ofString "__class__", .free), (PySem.Str.ofString "super", .globalImplicit)], isGenerator := false, isCoroutine := false, more := [] }
/-- how the call of super().__init__ is run (shown at the text's own places) -/
def CallIs (tx : Str) (j : Nat) (q1 q2 q3 q4 q5 : Pos) : Prop := ∃ pl : Sem Bool, ∀ env : Env, eval (.Call (.Attribute (.Call (.Name "super" q1) [] [] q2) "__init__" q3) [.Constant (.str tx) j q4] [] q5) env = (do
      let ov ← attributeBase (.Call (.Name "super" q1) [] [] q2) "__init__" env (eval (.Call (.Name "super" q1) [] [] q2) env)
      standAt q3.atName
      let (f, first) ← holding [ov] (getMethod ov "__init__" pl)
      callWith q5 f first (backTo q5 (starEach [.Constant (.str tx) j q4] env)) [])
example : CallIs "no set text" 0 ⟨7, 8, 7, 13⟩ ⟨7, 8, 7, 15⟩ ⟨7, 8, 7, 24⟩ ⟨7, 25, 7, 38⟩ ⟨7, 8, 7, 39⟩ := ⟨_, fun env => by rfl⟩
/-- the fields' names -/
def FlOk (fl : Str) : Prop := ¬ fl = ("self" : Str) ∧ ¬ fl = ("__class__" : Str) ∧ ¬ fl = ("super" : Str) ∧ (fl == ("__debug__" : Str)) = false ∧
  ∀ (qual : Str) (body : List Stmt) (p1 p2 : Pos) (doc pm ct cd : Value) (an : Option Addr) (cc : Addr) (a b : Value), bindArgs (ksFn "__init__" qual (iA fl p1 p2) body (iS fl) .none .none doc pm an cd ct cc) ⟨[a, b], []⟩ = pure [(("self" : Str), a), (fl, b)]
theorem ok_value : FlOk "value" := ⟨by decide +kernel, by decide +kernel, by decide +kernel, by decide +kernel, fun _ _ _ _ _ _ _ _ _ _ _ _ => rfl⟩
theorem ok_at : FlOk "at" := ⟨by decide +kernel, by decide +kernel, by decide +kernel, by decide +kernel, fun _ _ _ _ _ _ _ _ _ _ _ _ => rfl⟩
theorem ok_why : FlOk "why" := ⟨by decide +kernel, by decide +kernel, by decide +kernel, by decide +kernel, fun _ _ _ _ _ _ _ _ _ _ _ _ => rfl⟩
theorem ok_limit : FlOk "limit" := ⟨by decide +kernel, by decide +kernel, by decide +kernel, by decide +kernel, fun _ _ _ _ _ _ _ _ _ _ _ _ => rfl⟩
/-- what the written part says of the class at C, of its __init__ at fI -/
structure TideTxt (prog : Program) (K : Frag) (mg : Str → Option Value) (x : Str) (C fI : Addr) (fl : Str) : Prop where
  gC : mg x = some (.ref C)
  ok : FlOk fl
  cls : ∃ nm q N bs bm sn sub ab col dd k0 k1 k2 k3 k5, K.lookup C = some (excClassObj nm q C N bs bm true sn sub ab col dd k0 k1 k2 k3 k5 "ValueError.__new__") ∧ refsVE bm = true
  sa : findIn K (.ref C) "__setattr__" = some (some (.builtin "object.__setattr__"))
  ga : findIn K (.ref C) "__getattribute__" = some (some (.builtin "BaseException.__getattribute__"))
  gg : findIn K (.ref C) "__getattr__" = some none
  noN : findIn K (.ref C) fl = some none
  iC : findIn K (.ref C) "__init__" = some (some (.ref fI))
  tC : typeIn K (.ref fI) = some (.type "function")
  kC : keepIn K (.ref C) = true
  exC : subIn K (.ref C) (.type "BaseException") = some true
  tyC : typeIn K (.ref C) = some (.type "type")
  hdC : hasDictIn K C = true
  te : exmOne K (.ref C) (.ref C) = some true
  sup : ks_superIn K C C "__init__" = some (some (.builtin "ValueError.__init__"))
  isV : subIn K (.ref C) (.type "ValueError") = some true
  self_ : mroIn K C (.ref C) = some true
  tpa : nsIn K cStatics "thirdparty.any" = some none
  nsu : mg "super" = none
  htop : (prog.main.scope.names.lookup ("super" : Str)).isSome = false
  fn : ∃ (oc : Value) (od : Option Addr) (doc pm ct : Value) (an : Option Addr) (osl : Array (Option Value)) (qual tx : Str) (j : Nat) (p1 p2 q1 q2 q3 q4 q5 q6 q7 q8 q9 q10 : Pos) (cda cc : Addr),
    K.lookup fI = some ⟨oc, od, .func (ksFn "__init__" qual (iA fl p1 p2) (iB fl tx j q1 q2 q3 q4 q5 q6 q7 q8 q9 q10) (iS fl) .none .none doc pm an (.ref cda) ct cc), osl⟩ ∧ codeIn K (.ref cda) qual = true ∧ CallIs tx j q1 q2 q3 q4 q5 ∧
    (∃ ccl cdd vs ccs file tf, K.lookup cda = some ⟨ccl, cdd, .fields vs, ccs⟩ ∧ vs[2]? = some (.str file tf) ∧ ((prog.main.file : Str) == file) = true) ∧ ∃ cl cld csl, K.lookup cc = some ⟨cl, cld, .cell (some (.ref C)), csl⟩
section
variable {fl : Str}
theorem lkT {β : Type} {a b : Str} {v : β} {l : List (Str × β)} (h : (a == b) = true) : List.lookup a ((b, v) :: l) = some v := by
  rw [List.lookup_cons, h]
theorem lkF {β : Type} {a b : Str} {v : β} {l : List (Str × β)} (h : (a == b) = false) : List.lookup a ((b, v) :: l) = List.lookup a l := by
  rw [List.lookup_cons, h]
theorem neB {a b : Str} (h : ¬ a = b) : (a == b) = false := beq_eq_false_iff_ne.mpr h
theorem lk_self : (iS fl).names.lookup ("self" : Str) = some .local := lkT (by decide +kernel)
theorem lk_fl (ok : FlOk fl) : (iS fl).names.lookup fl = some .local := (lkF (neB ok.1)).trans (lkT (beq_self_eq_true _))
theorem lk_cls (ok : FlOk fl) : (iS fl).names.lookup ("__class__" : Str) = some .free := (lkF (by decide +kernel)).trans ((lkF (neB fun h => ok.2.1 h.symm)).trans (lkT (by decide +kernel)))
theorem lk_super (ok : FlOk fl) : (iS fl).names.lookup ("super" : Str) = some .globalImplicit :=
  (lkF (by decide +kernel)).trans ((lkF (neB fun h => ok.2.2.1 h.symm)).trans ((lkF (by decide +kernel)).trans (lkT (by decide +kernel))))
end
theorem one_size (v : Value) : [v].length ≤ sizeLine := by
  rw [sizeLine_eq]
  exact (by decide : 1 ≤ 16777216)
/-- what __init__ leaves of a fresh exception at x -/
structure InitEnd (fl : Str) (h h' : Heap) (x C dx t1 : Addr) (v : Value) : Prop where
  keep : ∀ b o, b ≠ x → h.get? b = some o → h'.get? b = some o
  obj : h'.get? x = some { cls := .ref C, dict := some dx, data := .fields #[.ref t1, .none, .none, .none, .bool false, .none] }
  dbig : h.objs.size ≤ dx
  dne : dx ≠ x
  ns : h'.Ns1 dx (fun y => if y = fl then some v else none)
/-- a made one -/
structure OwnMade (fl : Str) (h h' : Heap) (e C d : Addr) (v : Value) : Prop where
  keep : ∀ b o, h.get? b = some o → h'.get? b = some o
  new : h.objs.size ≤ e
  obj : ∃ oe vs, h'.get? e = some oe ∧ oe.cls = .ref C ∧ oe.dict = some d ∧ oe.data = .fields vs ∧ vs[1]? = some .none
  dbig : h.objs.size ≤ d
  dne : d ≠ e
  ns : h'.Ns1 d (fun y => if y = fl then some v else none)
section
variable {prog : Program} {w : World} {A : Around} {E : Value → Shared → Prop} {R : Result → Shared → Prop} {s : Shared} {K : Frag} {mg mb : Str → Option Value} {C fI : Addr} {fl xn : Str}
theorem ldC {M : Model} {s : Shared} {env : Env} {m : Str → Option Value} {x : Str} {pos : Pos} {v : Value} {Q : Value → Shared → Prop} {A : Around} {E : Value → Shared → Prop} (hn : s.heap.Ns env.locals m) (hv : m x = some v) (h : Q v s)
    (hk : env.scope.kind = .function) (hl : env.kindOf x = some .local) (hd : (x == ("__debug__" : Str)) = false) :
    wpAny M A (eval (.Name x pos) env) Q E s := wpAny_Name (wpAny_loadName_local hk hl hn hv h) hd
/-- the built-in __init__ bound to the object, called -/
theorem call_mw {u e t0 : Addr} {rest : List Value} {Q : Value → Shared → Prop} {nm q : Str} {N : Addr} {bs bm : List Value} {hdct : Bool} {sn : List Str} {sub : List Value} {ab : Bool} {col : Option Bool} {dd : Option Addr} {k0 k1 k2 k3 k5 : Option Value}
    (hC : s.heap.get? C = some (excClassObj nm q C N bs bm hdct sn sub ab col dd k0 k1 k2 k3 k5 "ValueError.__new__")) (he : s.heap.get? e = some (excO C t0)) (hu : s.heap.get? u = some (kxs_mw "ValueError.__init__" e)) (hrest : rest.length ≤ sizeLine)
    (hq : ∀ h', (∀ b o, b ≠ e → s.heap.get? b = some o → h'.get? b = some o) → h'.get? e = some (excO C s.heap.objs.size) → Q .none { s with heap := h' }) :
    wpAny (model prog w) A (call (.ref u) rest) Q E s := by
  have FB := F.excBase_ValueError
  obtain ⟨hh, g, d, tk, os⟩ := s
  refine wpAny_call (codeAny_of_tree ?_)
  show wpAny _ A.in1 (callAny (.ref u) ⟨rest, []⟩) _ _ _
  simp only [callAny]
  refine wpAny_bind (wpAny_load hu ?_)
  simp only [kxs_mw, show (Value.type "method-wrapper" == Value.type "method" || Value.type "method-wrapper" == Value.type "builtin_function_or_method" || Value.type "method-wrapper" == Value.type "method-wrapper") = true by decide, if_true]
  refine KFB.if_so (by decide) ?_
  refine wpAny_bind (check_bound_init FB.toExcCallFacts hC he rfl ?_)
  refine wpAny_bind (wpAny_pure (wpAny_pure ?_))
  refine ⟨plainId_quiet FB.init.plain _, codeAny_builtin FB.initEntry ?_⟩
  exact exc_init_tree (cls := .ref C) (t0 := t0) (dv := none) (c2 := .none) (c3 := .none) (b4 := .bool false) he hrest fun h' k e' _ => hq h' k e'
theorem tide_init (T : TideTxt prog K mg xn C fI fl) {x t0 : Addr} {v : Value} (X : K.In s.heap) (hG : s.heap.Ns mainGlobals mg) (hB : s.heap.Ns builtinsNs mb) (hmb : mb "super" = some (.type "super")) (hlim : s.heap.NoLimit) (hx : s.heap.get? x = some (excO C t0)) (hnx : K.lookup x = none) (hroom : A.depth < recursionLimit)
    (hq : ∀ h' tk dx t1, InitEnd fl s.heap h' x C dx t1 v → R (.ok (.ret .none)) { s with heap := h', toks := tk }) :
    codeAny (model prog w) A (.call (.ref fI) ⟨[.ref x, v], []⟩) R s := by
  obtain ⟨oc, od, doc, pm, ct, an, osl, qual, tx, j, p1, p2, q1, q2, q3, q4, q5, q6, q7, q8, q9, q10, cda, cc, ho, hcd, ⟨pl, hpl⟩, ⟨ccl, cdd, vs, ccs, file, tf, hcda, hvs, hfile⟩, cl, cld, csl, hcell⟩ := T.fn
  obtain ⟨nm, q, N, bs, bm, sn, sub, ab, col, dd, k0, k1, k2, k3, k5, hC, hbm⟩ := T.cls
  obtain ⟨n1, n2, n3, n4, n5⟩ := T.ok
  have hcl : clsIn K C = some { name := nm, bases := bs, mro := .ref C :: bm, ns := N, qualname := q, hasDict := true, slotNames := sn, subclasses := sub, abstract := ab, collection := col, hasDel := false } := by unfold clsIn; rw [hC] <;> rfl
  have e1 : (("self" : Str) == fl) = false := by rw [beq_eq_false_iff_ne]; exact fun h => n1 h.symm
  have e1' : (fl == ("self" : Str)) = false := by rw [beq_eq_false_iff_ne]; exact n1
  have X₀ := X
  refine ks_codeAny_call_defAt (fd := ksFn "__init__" qual (iA fl p1 p2) (iB fl tx j q1 q2 q3 q4 q5 q6 q7 q8 q9 q10) (iS fl) .none .none doc pm an (.ref cda) ct cc) (body := iB fl tx j q1 q2 q3 q4 q5 q6 q7 q8 q9 q10) (binds := [("self", .ref x), (fl, v)]) hroom (X _ _ ho) rfl hlim (codeRec_of X hcd) rfl (BindsTo.of_eq ?_) ?_ ?_ (fun h₁ hns k => ?_) rfl rfl rfl
  · exact n5 _ _ _ _ _ _ _ _ _ _ _ _
  · intro y hy
    have hy : y ∈ [(PySem.Str.ofString "self", NameKind.local), (fl, .local), (PySem.Str.ofString "__class__", .free), (PySem.Str.ofString "super", .globalImplicit)] := hy
    simp only [List.mem_cons, List.not_mem_nil, or_false] at hy
    rcases hy with rfl | rfl | rfl | rfl <;> exact fun h => nomatch h
  · intro y hy
    simp only [List.mem_cons, List.not_mem_nil, or_false] at hy
    rcases hy with rfl | rfl
    · exact lk_self
    · exact lk_fl T.ok
  · have hxL : s.heap.objs.size ≠ x := Nat.ne_of_gt (Heap.lt_size hx)
    have X₁ : K.In h₁ := X.keeps k
    have hx₁ := k _ _ hx
    have I : InstAt h₁ x (excO C t0) C none := ⟨hx₁, rfl, rfl, trivial⟩
    refine ks_wpAt_execs_cons (ks_wpAt_Expr_any (ks_wpAt_MethodCall (ks_wpAt_super_base (f := fI) (cc := cda) (lk_super T.ok) (lk_cls T.ok) (by decide) rfl (X₁ _ _ ho) rfl rfl rfl (X₁ _ _ hcda) rfl hvs hfile T.htop ?_) (hpl _)))
    refine ks_loadName_global rfl (lk_super T.ok) (loadGlobal_builtin (hG.keeps k) T.nsu (hB.keeps k) hmb ⟨rfl, ?_⟩)
    refine wpAny_loadName_free rfl (lk_cls T.ok) rfl ⟨_, X₁ _ _ hcell, rfl⟩ ?_
    refine wpAny_loadName_local (v := .ref x) rfl lk_self hns ?_ ?_
    · exact (lkF (neB fun h => T.ok.1 h.symm)).trans (lkT (by decide +kernel))
    refine ks_wpAny_isType_cls (X₁ _ _ hC) rfl ⟨rfl, ?_⟩
    refine ks_wpAny_call_super (X₁ _ _ hC) rfl I.at_ I.cls (fun c e => by cases e) (looks_mroIn X₁ T.self_) (fun h₂ e₂ k₂ => ?_)
    have X₂ : K.In h₂ := X₁.keeps k₂
    have I₂ : InstAt h₂ x (excO C t0) C none := ⟨k₂ _ _ hx₁, rfl, rfl, trivial⟩
    have hsup : alongIn K "__init__" (((.ref C :: bm).dropWhile (· != .ref C)).drop 1) = some (some (.builtin "ValueError.__init__")) := by
      have h := T.sup
      unfold ks_superIn at h
      rw [hcl] at h
      exact h
    have hxC : x ≠ C := ks_ne X₂ I₂ hcl
    have hI : Looks (model prog w) h₂ (isInstance (.ref x) (.type "ValueError")) true := I₂.type.andThen (looks_subIn X₂ T.isV)
    refine kxs_getMethod kxs_ValueError e₂ (looks_opaque X₂ T.tpa) (l₀ := .ref C :: bm) (fun A Q E s k q => wpAny_bind ((looks_clsIn X₂ hcl) A _ E s k (wpAny_pure q))) rfl X₂ hsup hI hxC (by decide) ?_
    refine kxs_callWith (i := "ValueError.__init__") (x := x) rfl (evalArgs_plain ?_)
    show wpAny _ _ (spliced ((false, eval (.Constant (.str tx) j q4) _) :: backTo q5 (starEach [] _))) _ _ _
    refine Calls.spliced_cons ?_
    refine Calls.Constant_str (Calls.spliced_nil ⟨?_, ?_⟩)
    · exact Heap.get?_push_at rfl rfl
    refine call_mw (C := C) (t0 := t0) (Heap.get?_push_of_some _ (X₂ _ _ hC)) (Heap.get?_push_of_some _ I₂.at_) (Heap.get?_push_at rfl rfl) (one_size _) (fun h₃ k₃ e₃ => ?_)
    -- self.fl = fl
    have keep : ∀ b o, b ≠ x → s.heap.get? b = some o → h₃.get? b = some o := fun b o hb e => k₃ b o hb (Heap.get?_push_of_some _ (k₂ _ _ (k _ _ e)))
    have keep1 : ∀ b o, b ≠ x → h₁.get? b = some o → h₃.get? b = some o := fun b o hb e => k₃ b o hb (Heap.get?_push_of_some _ (k₂ _ _ e))
    have X₃ : K.In h₃ := fun a o e => keep a o (fun z => by rw [z, hnx] at e; cases e) (X a o e)
    have hns₃ : h₃.Ns s.heap.objs.size (fun y => [(("self" : Str), Value.ref x), (fl, v)].reverse.lookup y) := by
      obtain ⟨oL, es, ep, hL, r⟩ := hns
      exact ⟨oL, es, ep, keep1 _ _ hxL hL, r⟩
    show wpAt _ _ _ (execs _ _) _ _ _
    refine wpAt_of_wpAny (wpAny_execs_cons (plainObj_wpAny_Assign_Attribute ?_))
    refine ldC (v := v) hns₃ ?_ (ldC (v := .ref x) hns₃ ?_ ?_ rfl lk_self (by decide)) rfl (lk_fl T.ok) T.ok.2.2.2.1
    · exact lkT (beq_self_eq_true _)
    · exact (lkF (neB fun h => T.ok.1 h.symm)).trans (lkT (by decide +kernel))
    refine set_plain X₃ (ox := excO C _) (od := none) ⟨e₃, rfl, rfl, trivial⟩ T.sa ?_
    refine exc_osa X₃ e₃ hcl (show refsVE (.ref C :: bm) = true from hbm) rfl T.noN (fun h₄ tk₄ dx k₄ dn dne hx₄ hn₄ => ?_)
    show wpAny _ _ (execs _ _) _ _ _
    have z : s.heap.objs.size ≤ h₃.objs.size := by
      exact Nat.le_of_lt hns₃.lt
    refine wpAny_execs_nil (hq h₄ tk₄ dx _ ⟨fun b o hb e => k₄ b o hb (keep b o hb e), hx₄, Nat.le_trans z dn, dne, hn₄⟩)
theorem tide_made (T : TideTxt prog K mg xn C fI fl) {v : Value} (X : K.In s.heap) (hG : s.heap.Ns mainGlobals mg) (hB : s.heap.Ns builtinsNs mb) (hmb : mb "super" = some (.type "super")) (hlim : s.heap.NoLimit) (hroom : A.depth + 1 < recursionLimit)
    (hq : ∀ h' tk e d, OwnMade fl s.heap h' e C d v → R (.ok (.ret (.ref e))) { s with heap := h', toks := tk }) :
    codeAny (model prog w) A (.call (.ref C) ⟨[v], []⟩) R s := by
  obtain ⟨nm, q, N, bs, bm, sn, sub, ab, col, dd, k0, k1, k2, k3, k5, hC, hbm⟩ := T.cls
  obtain ⟨hp, g, dr, tk, os⟩ := s
  have k : ∀ b o, hp.get? b = some o → ((hp.push (kdv_tup [v])).push (excO C hp.objs.size)).get? b = some o := fun b o e => Heap.get?_push_of_some _ (Heap.get?_push_of_some _ e)
  have hget : ((hp.push (kdv_tup [v])).push (excO C hp.objs.size)).get? (hp.objs.size + 1) = some (excO C hp.objs.size) := by heap_get
  have hnx : K.lookup (hp.objs.size + 1) = none := by
    cases e : K.lookup (hp.objs.size + 1) with
    | none => rfl
    | some o =>
      have z : hp.get? (hp.objs.size + 1) = some o := X _ _ e
      exact absurd (Nat.lt_of_succ_lt (Heap.lt_size z)) (Nat.lt_irrefl _)
  refine call_own F.excBase_ValueError (fun X => refsVE_contains X bm hbm) (X _ _ hC) (looks_findIn X T.iC) (fun self => bind_fn X self T.tC) (one_size v) ?_
  refine tide_init (s := ⟨(hp.push (kdv_tup [v])).push (excO C hp.objs.size), g, dr, tk, os⟩) T (X.keeps k) (hG.keeps k) (hB.keeps k) hmb (hlim.keeps k) hget hnx ?_ fun h' tk' dx t1 ⟨k', hx, dn, dne, hns⟩ => ?_
  · show A.depth + 1 < recursionLimit
    exact hroom
  · have old : ∀ b o, hp.get? b = some o → h'.get? b = some o := fun b o e => k' b o (Nat.ne_of_lt (Nat.lt_succ_of_lt (Heap.lt_size e))) (k b o e)
    have z : hp.objs.size + 1 + 1 ≤ dx := by
      first
        | (simpa only [Heap.size_push] using dn)
        | exact dn
        | (have q := dn; rw [Heap.size_push, Heap.size_push] at q; exact q)
    exact ⟨rfl, hq h' tk' (hp.objs.size + 1) dx ⟨old, Nat.le_succ _, ⟨_, _, hx, rfl, rfl, rfl, rfl⟩, Nat.le_trans (Nat.le_trans (Nat.le_succ _) (Nat.le_succ _)) z, dne, hns⟩⟩
end
end Tide
end PySem
namespace L2
open PySem PySem.Spec PyProof.Rows
theorem relO_tide {fl : Str} {v : V} {v' : Value} (r : RelV v v') (f : Str) : RelO (List.lookup f [(fl, v)]) (if f = fl then some v' else none) := by
  by_cases hw : f = fl
  · subst hw
    rw [if_pos rfl]
    have q : List.lookup f [(f, v)] = some v := by simp [List.lookup]
    rw [q]
    exact r
  · rw [if_neg hw]
    have qw : (f == fl) = false := by simpa using hw
    have q2 : List.lookup f [(fl, v)] = none := by simp [List.lookup, qw]
    rw [q2]
    trivial
section
variable {X : Cx} {C fI : Addr} {fl xn : Str}
/-- E(e) -/
def tMkTide (C : Addr) (fl : Str) (ta : TA) : St → Hp → XK → Prop := fun σ H Q => ta σ H fun vs H1 => ∃ v, vs = [v] ∧ ∀ d, H1 d = none → Q (.ref C) (some d) (upd H1 d (.xd [(fl, v)]))
theorem pmk_tide {a : Expr} {ta : TA} {p pos : Pos} {k : Nat} (T : PySem.Tide.TideTxt X.prog X.K X.mg xn C fI fl) (hr : Room k X.A) (ha : PA X [a] ta) (hg : Gl X xn := by rfl) (hdb : (xn == ("__debug__" : Str)) = false := by decide)
    (he : starEach (a :: []) X.env = (false, eval a X.env) :: starEach [] X.env := by rfl) (hpl : (backTo pos (starEach [] X.env)).any (·.1) = false := by rfl) :
    PMk X (.Call (.Name xn p) [a] [] pos) (tMkTide C fl ta) := by
  intro pins s σ H Q I h
  refine wpAny_Call_Name_kw (ld_glob I hg T.gC ?_ hdb)
  refine PySem.W.callWith_K (h₀ := X.base) I.ok.mod.kin T.kC (thn (ha.run pos pins s σ H _ I h) fun us s1 hh => ?_) he hpl
  obtain ⟨vs, H1, I1, r1, v, ev, q1⟩ := hh
  subst ev
  refine ⟨I1.kIn, ?_⟩
  cases r1 with
  | cons rv rn =>
    rename_i v' us'
    cases rn
    show wpAny _ _ (call (.ref C) [v']) _ _ _
    have hlim := I1.nolimit
    have hG := I1.mod.glob.keeps I1.bk
    obtain ⟨mb, hB0, hmb0⟩ := I1.mod.blt
    have hB := hB0.keeps I1.bk
    have hmb : mb "super" = some (.type "super") := (hmb0 _ (by decide +kernel)).trans (by decide +kernel)
    obtain ⟨hp, g, dr, tk, os⟩ := s1
    refine wpAny_call (PySem.Tide.tide_made T I1.kIn hG hB hmb hlim (by have := hr.dp; omega) fun h' tk' e d M => ?_)
    show MkP X pins σ Q (.ref e) ⟨h', g, dr, tk', os⟩
    obtain ⟨oe, fv, hoe, hc, hd, hdat, h1⟩ := M.obj
    have hns := M.ns
    obtain ⟨G', g1, g2⟩ := restrict h' fun b => decide (b ≠ e)
    have gk : ∀ b, b ≠ e → G'.get? b = h'.get? b := fun b hb => g1 b (decide_eq_true hb)
    have ge : G'.get? e = none := g2 e (by simp)
    have old : ∀ b o, hp.get? b = some o → G'.get? b = some o := fun b o q => (gk b (Nat.ne_of_lt (Nat.lt_of_lt_of_le (Heap.lt_size q) M.new))).trans (M.keep b o q)
    have ob : ObjOk X.prog X.w (upd H1 d (.xd [(fl, v)])) G' d (.xd [(fl, v)]) :=
      ⟨_, hns.at (fun o q => (gk d M.dne).trans q), fun f => relO_tide rv f⟩
    have J : Inv X pins σ (upd H1 d (.xd [(fl, v)])) ⟨G', g, dr, tk', os⟩ := I1.laid (t' := tk') old M.dbig ob
    refine ⟨e, oe, fv, ⟨G', g, dr, tk', os⟩, _, .ref C, some d, rfl, J, fun b o q => ?_, ge, hoe, ⟨hc, hd⟩, hdat, h1, ?_, rfl, I1.bare, raises_own T.exC T.tyC, q1 d (I1.hok.fresh M.dbig)⟩
    · by_cases hb : b = e
      · have q' : G'.get? b = some o := q
        rw [hb, ge] at q'; cases q'
      · exact (gk b hb).symm.trans q
    · rw [upd_ne (Ne.symm M.dne)]
      exact I1.hok.fresh M.new
/-- raise E(e) -/
def tRaiseTide (C : Addr) (fl : Str) (W : WX) (ta : TA) : TS := fun _ σ H => tMkTide C fl ta σ H fun cls d H' => W cls d σ H'
theorem ps_raiseTide {a : Expr} {ta : TA} {W : WX} {p pos pos2 : Pos} {k : Nat} (hc : X.calm = true) (T : PySem.Tide.TideTxt X.prog X.K X.mg xn C fI fl) (hr : Room k X.A) (tk : Takes X W) (ha : PA X [a] ta) (hg : Gl X xn := by rfl) (hdb : (xn == ("__debug__" : Str)) = false := by decide)
    (he : starEach (a :: []) X.env = (false, eval a X.env) :: starEach [] X.env := by rfl) (hpl : (backTo pos (starEach [] X.env)).any (·.1) = false := by rfl) :
    PS X (.Raise (some (.Call (.Name xn p) [a] [] pos)) none pos2) (tRaiseTide C fl W ta) := ps_raise hc tk (pmk_tide T hr ha hg hdb he hpl)
/-- e.fl, e the exception that the suite holds (at a; its class cls, its dict d) -/
def tByTide (C : Addr) (fl : Str) (a : Addr) (cls : Value) (d : Option Addr) (te : TE) : TE := fun σ H Q => te σ H fun x H1 => x = .ref a ∧ cls = .ref C ∧ ∃ (dd : Addr) (v : V), d = some dd ∧ H1 dd = some (.xd [(fl, v)]) ∧ Q v H1
theorem pe_byTide {a : Addr} {oe : Obj} {cls : Value} {d : Option Addr} {pn : List (Addr × Obj)} {e : Expr} {te : TE} {pos : Pos} (T : PySem.Tide.TideTxt X.prog X.K X.mg xn C fI fl) (hz : Zc cls d oe) (hf : ∃ vs, oe.data = .fields vs) (he : PE (X.suite a ((a, oe) :: pn)) e te)
    (hb : attributeBase e fl X.env (eval e X.env) = eval e X.env) :
    PE (X.suite a ((a, oe) :: pn)) (.Attribute e fl pos) (tByTide C fl a cls d te) := by
  refine ⟨fun pins s σ H Q I h => ?_⟩
  refine attr_of hb (thn (he.run pins s σ H _ I h) fun u s1 hh => ?_)
  obtain ⟨x, H1, I1, rx, ex, ec, dd, v, ed, ea, q⟩ := hh
  subst ex
  obtain rfl : u = Value.ref a := rx
  subst ec
  subst ed
  obtain ⟨ha, _⟩ := I1.pin (a, oe) (List.mem_append_left _ List.mem_cons_self)
  obtain ⟨vs, hd⟩ := hf
  have hx : ObjOk X.prog X.w H1 s1.heap dd (.xd [(fl, v)]) := I1.hok dd _ ea
  obtain ⟨mA, hns, hr⟩ := hx
  obtain ⟨od, ho, hl⟩ := lookIn_ns hns
  have l : List.lookup fl [(fl, v)] = some v := by simp [List.lookup]
  obtain ⟨u, hu, ru⟩ := RelO.some_of (v := v) (o := mA fl) (by rw [← l]; exact hr fl)
  have J : PySem.W.InstAt s1.heap a oe C (some od) := ⟨ha, hz.1, by unfold PySem.W.notCls; rw [hd] <;> rfl, by rw [hz.2]; exact ho⟩
  exact HandSPX.exc_get I1.kIn J T.ga T.gg T.exC (PySem.W.findObj_own T.hdC T.noN rfl (by rw [hl, hu])) (handed_of ru) ⟨v, H1, I1.tok _, ru, q⟩
end
end L2


set_option Elab.async false
set_option linter.all false
set_option maxRecDepth 100000
set_option maxHeartbeats 4000000
/-! enumerate over a list or a tuple -/
namespace PySem
open Sem (wp)
open AutoSeq1 (wpAny_loadPart')
theorem my_enumerate_newT (l : Addr) (items : Array Value) (n : Nat) (dct : Option Addr) (sl : Array (Option Value)) :
    Meets (Builtin.«enumerate.__new__» ⟨[.type "enumerate", .ref l], []⟩) (fun _ R s => s.heap.get? l = some { cls := .type "tuple", dict := dct, data := .seq items n, slots := sl } ∧
      R (.ok (.ret (.ref (s.heap.push { cls := .type "tuple_iterator", data := .fields #[.ref l, .int 0 0] }).objs.size)))
        { s with heap := (s.heap.push { cls := .type "tuple_iterator", data := .fields #[.ref l, .int 0 0] }).push { cls := .type "enumerate", data := .fields #[.none, .bool false, .ref s.heap.objs.size, rawInt 0, .none, .none] } }) :=
  .of_wp fun prog w A R s h => by
    obtain ⟨hp, g, d, tk, os⟩ := s; obtain ⟨hl, h⟩ := h
    have hsub := sub_enumerate
    have hL : Heap.IsTuple (Shared.heap ⟨hp, g, d, tk, os⟩) l items := ⟨_, hl, rfl, n, rfl⟩
    wp_walk using wpAny_loadPart' hl
    refine wpAny_stack_any fun st => wpAny_pure ?_
    split
    · rename_i c _ _ _ _ _
      cases (c == Value.type "enumerate")
      · wp_walk using wpAny_loadPart' hl, wpAny_pyIter_tuple hL
        exact ⟨_, rfl, h⟩
      · wp_walk using wpAny_loadPart' hl, wpAny_pyIter_tuple hL
        exact ⟨_, rfl, h⟩
    · wp_walk using wpAny_loadPart' hl, wpAny_pyIter_tuple hL
      exact ⟨_, rfl, h⟩
section
variable {prog : Program} {w : World} {A : Around} {E : Value → Shared → Prop} {s : Shared}
theorem my_enumerate_tuple {l : Addr} {items : Array Value} {Q : Value → Shared → Prop} (hL : s.heap.IsTuple l items)
    (h : ∀ h', IsEnum h' (s.heap.objs.size + 1) s.heap.objs.size 0 .none → h'.IsTupleIter s.heap.objs.size l 0 → h'.objs.size = s.heap.objs.size + 2 →
      (∀ b o, s.heap.get? b = some o → h'.get? b = some o) → Q (.ref (s.heap.objs.size + 1)) { s with heap := h' }) :
    wpAny (model prog w) A (call (.type "enumerate") [.ref l]) Q E s := by
  obtain ⟨⟨c, dct, dt, sl⟩, hl, hc, n, hd⟩ := hL
  replace hc : c = .type "tuple" := hc
  replace hd : dt = .seq items n := hd
  subst hc hd
  refine callType_new F.called_enumerate (by decide) (F.typeCall_enumerate_1 _) (F.newCall_enumerate_1 _) (fun obj => F.args_object_init_2 obj _) F.entry_enumerate_new
    (my_enumerate_newT l items n dct sl) ⟨hl, ?_⟩
  have hz : (s.heap.push { cls := .type "tuple_iterator", data := .fields #[.ref l, .int 0 0] }).objs.size = s.heap.objs.size + 1 := Heap.size_push ..
  show _ ∧ _
  rw [hz]
  have he : IsEnum ((s.heap.push { cls := .type "tuple_iterator", data := .fields #[.ref l, .int 0 0] }).push
      { cls := .type "enumerate", data := .fields #[.none, .bool false, .ref s.heap.objs.size, rawInt 0, .none, .none] }) (s.heap.objs.size + 1) s.heap.objs.size 0 .none := by
    have := Heap.get?_push_size (s.heap.push { cls := .type "tuple_iterator", data := .fields #[.ref l, .int 0 0] })
      (o := { cls := .type "enumerate", data := .fields #[.none, .bool false, .ref s.heap.objs.size, rawInt 0, .none, .none] }) rfl
    rw [hz] at this; exact this
  refine ⟨⟨_, he, rfl⟩, h _ he ⟨_, Heap.get?_push_of_some _ (Heap.get?_push_size _ rfl), rfl, rfl⟩ (by rw [Heap.size_push, hz]) fun b o x => Heap.get?_push_of_some _ (Heap.get?_push_of_some _ x)⟩
end
end PySem
namespace L2
open PySem PySem.Spec PyProof.Rows
def IteT (K : PySem.W.Frag) (a : Addr) : It :=
  ⟨fun i H => ∃ (xs : List V) (x : V), SqT K H a xs ∧ xs[i]? = some x, fun i H v H' => ∃ T x, v = .ref T ∧ H T = none ∧ H' = upd H T (.tup [.int (i : Nat), x]) ∧ ∀ xs, SqT K H a xs → xs[i]? = some x, fun i H => ∃ xs : List V, SqT K H a xs ∧ i = xs.length⟩
theorem turn_enumT {P : Program} {w : World} {K : PySem.W.Frag} {elts : List Expr} {kk : Nat} {tpos : Pos} (a e it : Addr) :
    Turn P w K (.Tuple elts kk tpos) (IteT K a) [e, it] e (fun i h => (∃ old, IsEnum h e it ((i : Nat) : Int) old) ∧ h.IsTupleIter it a i ∧ e ≠ it ∧ e ≠ a ∧ it ≠ a) where
  mem := by simp
  obj := fun i h st b hb => by
    obtain ⟨⟨old, he⟩, ⟨o, ho, hc, hd⟩, _⟩ := st
    have e' : b = e ∨ b = it := by simpa using hb
    rcases e' with z | z
    · rw [z]; exact ⟨_, he, fun v q => nomatch q⟩
    · rw [z]; exact ⟨o, ho, fun v q => by rw [hd] at q; cases q⟩
  keep := fun i h h' st k => let ⟨⟨old, he⟩, hi, hne⟩ := st; ⟨⟨old, k e (by simp) _ he⟩, hi.at fun o q => k it (by simp) o q, hne⟩
  item := by
    intro X hP hw hK hc i pins s σ H E I hf st hg
    subst hP hw hK
    obtain ⟨⟨old, he⟩, hit, hne, hea, hia⟩ := st
    obtain ⟨xs, x, hq, hx⟩ := hg
    obtain ⟨its, rv, p, hz⟩ := I.tuple hq
    have p' : s.heap.IsTuple a its.toArray := p
    obtain ⟨u, hu, ru⟩ := rv.get hx
    have hel : e < s.heap.objs.size := Heap.lt_size he
    have hil : it < s.heap.objs.size := by obtain ⟨_, q, _⟩ := hit; exact Heap.lt_size q
    have D := Draws.tuple (prog := X.prog) (w := X.w) (A := X.A.in1) (I.ok.hd hc) it a hia.symm its.toArray
    refine wpAny_pyNext_enum_itemD D he ⟨hit, p'⟩ (by have := (List.getElem?_eq_some_iff.mp hu).1; simpa using this) hne (by simp [hne, hea]) fun x' h' tk hx' ho hit' hT hsz hk => ?_
    have hxu : x' = u := by
      have e1 : its[i]? = some x' := by simpa using hx'
      rw [hu] at e1
      exact (Option.some.inj e1).symm
    subst hxu
    obtain ⟨hit', _⟩ := hit'
    refine ⟨_, rfl, wpAny_letOwnedTupleGo_enum (s := { s with heap := h', toks := tk + 1 }) ho fun h'' he' sb => ?_⟩
    have hT2 : h''.get? s.heap.objs.size = some { cls := .type "tuple", data := .seq #[.int i tk, x'] } := (sb.2 _ (Nat.ne_of_gt hel)).trans hT
    have new : ObjOk X.prog X.w (upd H s.heap.objs.size (.tup [.int (i : Nat), x])) h'' s.heap.objs.size (.tup [.int (i : Nat), x]) :=
      ⟨by show 2 ≤ sizeLine; decide, [.int i tk, x'], .cons ⟨_, rfl⟩ (.cons ru .nil), ⟨_, hT2, rfl, _, rfl⟩⟩
    have I1 : Inv X pins σ (upd H s.heap.objs.size (.tup [.int (i : Nat), x])) { s with heap := h'', toks := tk + 1 } :=
      I.turnedNew (ch := [e, it]) (fun b ob hb q => (sb.2 b (fun z => hb (by simp [z]))).trans (hk b ob (fun z => hb (by simp [z])) (fun z => hb (by simp [z])) q)) hf (Nat.le_refl _) new
    refine ⟨.ref s.heap.objs.size, _, I1, rfl, ⟨_, x, rfl, I.hok.fresh (Nat.le_refl _), rfl, fun ys hy => by rw [I.tuple_inj hy hq]; exact hx⟩, ⟨⟨x', ?_⟩, hit'.at fun o q => (sb.2 it (Ne.symm hne)).trans q, hne, hea, hia⟩, fun b hb => ?_⟩
    · have e1 : ((i + 1 : Nat) : Int) = (i : Int) + 1 := by omega
      rw [e1]; exact he'
    · have hb' : b < s.heap.objs.size := by
        have e' : b = e ∨ b = it := by simpa using hb
        rcases e' with z | z
        · rw [z]; exact hel
        · rw [z]; exact hil
      rw [upd_ne (Nat.ne_of_lt hb')]
      exact (hf b hb).1
  done := by
    intro X hP hw hK hc i pins s σ H E I hf st hg
    subst hP hw hK
    obtain ⟨⟨old, he⟩, hit, hne, hea, hia⟩ := st
    obtain ⟨xs, hq, hx⟩ := hg
    obtain ⟨its, rv, p, hz⟩ := I.tuple hq
    have p' : s.heap.IsTuple a its.toArray := p
    obtain ⟨f0, f1, f2, f3, f4, f5⟩ := hf it (by simp)
    have hl := rv.length
    have D := Draws.tuple (prog := X.prog) (w := X.w) (A := X.A.in1) (I.ok.hd hc) it a hia.symm its.toArray
    have hn : i = its.toArray.size := by rw [hx, hl]; simp
    refine wpAny_pyNext_enum_endD D he ⟨hn ▸ hit, p'⟩ fun h' eb => ⟨rfl, I.turned (t' := s.toks) (fun b o hb q => eb b o hb q) f0 f1 f3 f4 f5⟩
  self := fun A i s Q E st h => let ⟨⟨_, he⟩, _⟩ := st; wpAny_pyIter_enum he h
/-- enumerate(list | tuple) -/
def iEnumS (K : PySem.W.Frag) (ta : TA) : TI := fun σ H R => ta σ H fun vs H1 => ∃ a xs, vs = [.ref a] ∧ ((SqL K H1 a xs ∧ R (Ite K a) H1) ∨ (SqT K H1 a xs ∧ R (IteT K a) H1))
theorem pi_enumS {X : Cx} {e : Expr} {ta : TA} {p pos tpos : Pos} {elts : List Expr} {kk : Nat} (hg : Gl X "enumerate") (hm : X.mg "enumerate" = none) (ha : PA X [e] ta) (hs : starEach [e] X.env = [(false, eval e X.env)] := by rfl) :
    PI X (.Tuple elts kk tpos) (.Call (.Name "enumerate" p) [e] [] pos) (iEnumS X.K ta) := by
  refine ⟨fun pins s σ H R I h => ?_⟩
  refine Call_ (ld_blt I hg hm boot_enumerate (PyProof.Rows.callWith_type1 (thn (ha.run pos pins s σ H _ I h) fun us s1 ⟨vs, H1, I1, r1, q1⟩ => ?_) hs rfl))
  obtain ⟨a, xs, ex, q1⟩ := q1
  subst ex
  cases r1 with
  | cons r rr =>
    cases rr
    cases r
    have fpk : ∀ b ∈ [s1.heap.objs.size + 1, s1.heap.objs.size], FpOk X pins H1 b := fun b hb => by
      have e' : b = s1.heap.objs.size + 1 ∨ b = s1.heap.objs.size := by simpa using hb
      have hle : s1.heap.objs.size ≤ b := by
        rcases e' with z | z
        · rw [z]; exact Nat.le_add_right _ _
        · rw [z]; exact Nat.le_refl _
      exact I1.fpOk hle (I1.hok.fresh hle)
    rcases q1 with ⟨hq, q⟩ | ⟨hq, q⟩
    · obtain ⟨its, rv, p', hz⟩ := I1.list hq
      refine call_enumerate_list p'.isList fun h' he hit hsz hk => wpAny_pyIter_enum he ?_
      have I2 : Inv X pins σ H1 { s1 with heap := h' } := I1.kept (t' := s1.toks) hk
      exact ⟨s1.heap.objs.size + 1, [s1.heap.objs.size + 1, s1.heap.objs.size], _, _, H1, rfl, I2, turn_enum a (s1.heap.objs.size + 1) s1.heap.objs.size, ⟨⟨.none, he⟩, hit, Nat.succ_ne_self _⟩, fpk, q⟩
    · obtain ⟨its, rv, p', hz⟩ := I1.tuple hq
      have hla : a < s1.heap.objs.size := by obtain ⟨o, ho, _⟩ := p'; exact Heap.lt_size ho
      refine my_enumerate_tuple (show s1.heap.IsTuple a its.toArray from p') fun h' he hit hsz hk => wpAny_pyIter_enum he ?_
      have I2 : Inv X pins σ H1 { s1 with heap := h' } := I1.kept (t' := s1.toks) hk
      exact ⟨s1.heap.objs.size + 1, [s1.heap.objs.size + 1, s1.heap.objs.size], _, _, H1, rfl, I2, turn_enumT a (s1.heap.objs.size + 1) s1.heap.objs.size, ⟨⟨.none, he⟩, hit, Nat.succ_ne_self _, Nat.ne_of_gt (Nat.lt_succ_of_lt hla), Nat.ne_of_gt hla⟩, fpk, q⟩
theorem pi_enumSK {X : Cx} {K : PySem.W.Frag} {e : Expr} {ta : TA} {p pos tpos : Pos} {elts : List Expr} {kk : Nat} (h : X.K = K) (hg : Gl X "enumerate") (hm : X.mg "enumerate" = none) (ha : PA X [e] ta) (hs : starEach [e] X.env = [(false, eval e X.env)] := by rfl) :
    PI X (.Tuple elts kk tpos) (.Call (.Name "enumerate" p) [e] [] pos) (iEnumS K ta) := by subst h; exact pi_enumS hg hm ha hs
/-- a for over it: the pair's own tuple is new; Pv by the turn -/
theorem for_enumS {K : PySem.W.Frag} {a : Addr} {xs : List V} {g : TG} {tb : TS} {D : Ends} {σ : St} {H0 H : Hp} (hq : SqL K H0 a xs ∨ SqT K H0 a xs) (Pv : Nat → St → Hp → Prop) (h0 : Pv 0 σ H) (hm : ∀ i σ' H', Pv i σ' H' → ∀ b o, H0 b = some o → H' b = some o)
    (hs : ∀ i x σ H T, xs[i]? = some x → Pv i σ H → H T = none → g (.ref T) σ (upd H T (.tup [.int (i : Nat), x])) fun σ2 H2 => tb { D with nx := Pv (i + 1), ct := Pv (i + 1), bk := D.nx } σ2 H2) (hd : ∀ σ H, Pv xs.length σ H → D.nx σ H) :
    ((SqL K H a xs ∧ ∃ W : Nat → Nat → St → Hp → Prop, (∃ m, W 0 m σ H) ∧ ∀ i m σ H, W i m σ H →
      ((Ite K a).stop i H ∧ D.nx σ H) ∨ ((Ite K a).go i H ∧ ∃ N : St → Hp → Prop, (∀ σ' H', N σ' H' → ∃ m', m' < m ∧ W (i + 1) m' σ' H') ∧ ∀ x H', (Ite K a).yld i H x H' → g x σ H' fun σ2 H2 => tb { D with nx := N, ct := N, bk := D.nx } σ2 H2)) ∨
     (SqT K H a xs ∧ ∃ W : Nat → Nat → St → Hp → Prop, (∃ m, W 0 m σ H) ∧ ∀ i m σ H, W i m σ H →
      ((IteT K a).stop i H ∧ D.nx σ H) ∨ ((IteT K a).go i H ∧ ∃ N : St → Hp → Prop, (∀ σ' H', N σ' H' → ∃ m', m' < m ∧ W (i + 1) m' σ' H') ∧ ∀ x H', (IteT K a).yld i H x H' → g x σ H' fun σ2 H2 => tb { D with nx := N, ct := N, bk := D.nx } σ2 H2))) := by
  have mL : ∀ {i σ' H'}, SqL K H0 a xs → Pv i σ' H' → SqL K H' a xs := fun {i σ' H'} h p => by
    have k := hm i σ' H' p
    rcases h with (h | ⟨o, h⟩) | h
    · exact .inl (.inl (k _ _ h))
    · exact .inl (.inr ⟨o, k _ _ h⟩)
    · exact .inr h
  have mT : ∀ {i σ' H'}, SqT K H0 a xs → Pv i σ' H' → SqT K H' a xs := fun {i σ' H'} h p => by
    have k := hm i σ' H' p
    rcases h with (h | ⟨o, h⟩) | h
    · exact .inl (.inl (k _ _ h))
    · exact .inl (.inr ⟨o, k _ _ h⟩)
    · exact .inr h
  rcases hq with h | h
  · refine .inl ⟨mL h h0, fun i m σ H => m = xs.length - i ∧ i ≤ xs.length ∧ Pv i σ H, ⟨xs.length, by simp, Nat.zero_le _, h0⟩, ?_⟩
    rintro i m σ H ⟨rfl, hi, p⟩
    have q := mL h p
    by_cases hlt : i < xs.length
    · refine .inr ⟨⟨xs, xs[i], q, by simp [hlt]⟩, Pv (i + 1), fun σ' H' p' => ⟨xs.length - (i + 1), by omega, rfl, hlt, p'⟩, fun x H' y => ?_⟩
      obtain ⟨T, z, rfl, nT, rfl, hz⟩ := y
      exact hs i z σ H T (hz xs q) p nT
    · have e : i = xs.length := by omega
      subst e
      exact .inl ⟨⟨xs, q, Nat.le_refl _⟩, hd σ H p⟩
  · refine .inr ⟨mT h h0, fun i m σ H => m = xs.length - i ∧ i ≤ xs.length ∧ Pv i σ H, ⟨xs.length, by simp, Nat.zero_le _, h0⟩, ?_⟩
    rintro i m σ H ⟨rfl, hi, p⟩
    have q := mT h p
    by_cases hlt : i < xs.length
    · refine .inr ⟨⟨xs, xs[i], q, by simp [hlt]⟩, Pv (i + 1), fun σ' H' p' => ⟨xs.length - (i + 1), by omega, rfl, hlt, p'⟩, fun x H' y => ?_⟩
      obtain ⟨T, z, rfl, nT, rfl, hz⟩ := y
      exact hs i z σ H T (hz xs q) p nT
    · have e : i = xs.length := by omega
      subst e
      exact .inl ⟨⟨xs, q, rfl⟩, hd σ H p⟩
end L2


set_option Elab.async false
set_option linter.all false
set_option maxRecDepth 100000
set_option maxHeartbeats 4000000
/-! try with several except clauses, each with a name or without one -/
namespace L2
open PySem PySem.Spec PyProof.Rows
def wManyA (K : PySem.W.Frag) (Wout : WX) (D : Ends) : List (Value × Option Nat × (Addr → Value → Option Addr → TS)) → WX
  | [] => Wout
  | (c, none, ts) :: r => fun cls d σ H => ∃ b, PySem.W.exmOne K cls c = some b ∧ (b = true → ∀ a, H a = none → ts a cls d D σ H) ∧ (b = false → wManyA K Wout D r cls d σ H)
  | (c, some i, ts) :: r => fun cls d σ H => ∃ b, PySem.W.exmOne K cls c = some b ∧ (b = true → i < σ.length → ∀ a, H a = none → ts a cls d { nx := fun σ' H' => D.nx (σ'.set i none) H', rt := D.rt, bk := fun σ' H' => D.bk (σ'.set i none) H', ct := fun σ' H' => D.ct (σ'.set i none) H' } (σ.set i (some (.ref a))) H) ∧
      (b = false → wManyA K Wout D r cls d σ H)
inductive HdsA (X : Cx) : List ExceptHandler → List (Value × Option Nat × (Addr → Value → Option Addr → TS)) → Prop
  | nil : HdsA X [] []
  | plain {x : Str} {c : Value} {ts : Addr → Value → Option Addr → TS} {b₀ : Stmt} {suite : List Stmt} {np pos' : Pos} {hds : List ExceptHandler} {l : List (Value × Option Nat × (Addr → Value → Option Addr → TS))} (hc : Names X x c)
      (hsu : ∀ (a : Addr) (oe : Obj) (cls : Value) (d : Option Addr) (pn : List (Addr × Obj)), Zc cls d oe → (∃ vs, oe.data = .fields vs) → PSs (X.suite a ((a, oe) :: pn)) (b₀ :: suite) (ts a cls d)) (r : HdsA X hds l) :
      HdsA X (.ExceptHandler (some (.Name x np)) none (b₀ :: suite) pos' :: hds) ((c, none, ts) :: l)
  | named {x n : Str} {i : Nat} {c : Value} {ts : Addr → Value → Option Addr → TS} {b₀ : Stmt} {suite : List Stmt} {np pos' : Pos} {hds : List ExceptHandler} {l : List (Value × Option Nat × (Addr → Value → Option Addr → TS))} (hi : X.N[i]? = some n) (hln : X.env.kindOf n = some .local) (hc : Names X x c)
      (hsu : ∀ (a : Addr) (oe : Obj) (cls : Value) (d : Option Addr) (pn : List (Addr × Obj)), Zc cls d oe → (∃ vs, oe.data = .fields vs) → PSs (X.suite a ((a, oe) :: pn)) (b₀ :: suite) (ts a cls d)) (r : HdsA X hds l) :
      HdsA X (.ExceptHandler (some (.Name x np)) (some n) (b₀ :: suite) pos' :: hds) ((c, some i, ts) :: l)
section
variable {X : Cx} {body : List Stmt} {h₀ : ExceptHandler} {hds : List ExceptHandler} {l : List (Value × Option Nat × (Addr → Value → Option Addr → TS))} {pos : Pos} {tb : WX → TS} {Wout : WX}
theorem ps_try_manyA (hs : X.stack = X.env :: X.outer) (hf : X.env.frame = some X.env.locals) (hN : X.N.Nodup) (tk : Takes X Wout)
    (hb : ∀ (W : WX) (pn : List (Addr × Obj)) (xe : Value → Shared → Prop), Takes (X.tr pn xe) W → PassesOwn (model X.prog X.w) X.A X.env xe → PSs (X.tr pn xe) body (tb W))
    (hh : HdsA X (h₀ :: hds) l) : PS X (.Try body (h₀ :: hds) [] [] pos) (fun D σ H => tb (wManyA X.K Wout D l) D σ H) := by
  refine ⟨fun pins s σ H D I h => ?_⟩
  have ok := I.ok
  have hfr : X.A.frames = some (X.env :: X.outer) := by rw [ok.frames, hs]
  refine wpAny_Try_except ?_
  refine wpAny_mono ((hb (wManyA X.K Wout D l) (X.pn ++ pins) (fun e s₁ => wpAny (model X.prog X.w) X.A (noteFrame e X.env) (fun _ s₂ => wpAny (model X.prog X.w) X.A (setFlight e none) (fun _ s₃ =>
    wpAny (model X.prog X.w) X.A (handleBy e X.env (h₀ :: hds)) (SP X pins D) X.xe s₃) X.xe s₂) X.xe s₁) (fun u s' xx => ?_) PassesOwn.looking).run [] s σ H D (I.toTry _) h) (fun f s1 hsp => ?_) (fun e s1 he => he)
  · -- the catch
    obtain ⟨a, B, sI, pins', σ', H', cls, d, rfl, J', nb, up, sky, na, os, ag, w⟩ := xx
    have J : Inv X pins σ' H' sI := J'.ofTry ok
    have sky' : Sky B (X.env :: X.outer) a (Zc cls d) X.env.locals s'.heap := by rw [← hs]; exact sky
    show wpAny (model X.prog X.w) X.A (noteFrame (.ref a) X.env) _ _ _
    refine Sky.land Zc.steady hfr hf sky' fun h3 fl3 up3 => ?_
    have J3 : Inv X pins σ' H' { s' with heap := h3 } := J.landed nb fl3.1 (up.trans up3) os ag
    obtain ⟨oe3, vs3, he3, hz3, hd3⟩ := fl3.there
    have notFr : ∀ {h : Heap} {o : Obj} {vs : Array Value}, h.FunFrames B (X.env :: X.outer) → h.get? a = some o → o.data = .fields vs → a ∉ frs (X.env :: X.outer) := fun {h o vs} ff e dd hm => by
      obtain ⟨_, o', e', hnf⟩ := ff.mem hm
      rw [e] at e'; cases e'
      exact hnf _ dd
    have nfr := notFr fl3.2.2.1 he3 hd3
    have nL : a ≠ X.env.locals := fun z => nfr (List.mem_filterMap.mpr ⟨X.env, List.mem_cons_self, by rw [hf, z]⟩)
    have nF : a ∉ X.fs := fun hm => by
      obtain ⟨e, he, q⟩ := List.mem_filterMap.mp hm
      exact nfr (List.mem_filterMap.mpr ⟨e, List.mem_cons_of_mem _ he, q⟩)
    have S3 := J3.suite he3 hd3 na nL nF
    have LT : PySem.W.Looks (model X.prog X.w) h3 (typeOf (.ref a)) cls := fun A Q E s k q => wpAny_typeOf_ref (k _ _ he3) (by rw [hz3.1]; exact q)
    have test : ∀ {x : Str} {np : Pos} {c : Value} (hc : Names X x c) {Q : Value → Shared → Prop} {E : Value → Shared → Prop}, Q c { s' with heap := h3 } → wpAny (model X.prog X.w) (X.A.mark (some (.ref a))) (eval (.Name x np) X.env) Q E { s' with heap := h3 } := fun {x np c} hc {Q E} q => by
      obtain ⟨hg, hdbg, hm | ⟨hm, hv, hnn⟩⟩ := hc
      · exact ld_glob (X := X.suite a ((a, oe3) :: (X.pn ++ pins))) S3 hg hm q hdbg
      · exact ld_blt (X := X.suite a ((a, oe3) :: (X.pn ++ pins))) S3 hg hm hv q hnn hdbg
    have go : ∀ {hds' : List ExceptHandler} {l' : List (Value × Option Nat × (Addr → Value → Option Addr → TS))}, HdsA X hds' l' → wManyA X.K Wout D l' cls d σ' H' →
        wpAny (model X.prog X.w) X.A (handleBy (.ref a) X.env hds') (SP X pins D) X.xe { s' with heap := h3 } := by
      intro hds' l' hk
      induction hk with
      | nil =>
        intro w
        refine wpAny_handleBy_nil ?_
        obtain ⟨k1, k2, k3, oe, vs, T, oT, ts', he, hz, hd, h1, hr⟩ := id fl3
        unfold PySem.passOn
        refine wpAny_bind (wpAny_field he hd h1 ?_)
        rw [if_neg (show ¬ ((Value.ref T == Value.none) = true) from by simp)]
        have fin : wpAny (model X.prog X.w) X.A (setFlight (.ref a) X.env.frame) (fun _ s4 => wpAny (model X.prog X.w) X.A (throw (.ref a) : Sem Flow) (SP X pins D) X.xe s4) X.xe { s' with heap := h3 } := by
          rw [hf]
          refine HandSPX.setFlight_upZ fl3 fun h4 hh4 up4 => wpAny_throw (tk _ _ ?_)
          exact ⟨a, B, sI, pins, σ', H', cls, d, rfl, J, nb, (up.trans up3).trans up4, .inr (.inr (by rw [hs]; exact hh4)), na, os, ag, w⟩
        first
          | exact wpAny_bind (wpAny_pure (wpAny_bind fin))
          | exact wpAny_bind fin
      | @plain x c ts b₀ suite np pos' hds2 l2 hc hsu r ih =>
        intro w
        obtain ⟨b, hb1, hyes, hno⟩ := w
        refine wpAny_handleBy_cons (codeAny_handlers_test ?_) (by intro q; cases q)
        have LM := PySem.W.exm_one (M := model X.prog X.w) (J3.kIn) LT hb1
        refine test hc (LM.here ?_)
        cases b with
        | true =>
          refine codeAny_handlers_suite ?_
          refine HandSPX.lands_againZ fl3 fun h4 fl4 up4 => ?_
          have J4 : Inv X pins σ' H' { s' with heap := h4 } := J.landed nb fl4.1 ((up.trans up3).trans up4) os ag
          obtain ⟨oe4, vs4, he4, hz4, hd4⟩ := fl4.there
          have S4 := J4.suite he4 hd4 na nL nF
          refine wpAny_mono ((hsu a oe4 cls d (X.pn ++ pins) hz4 ⟨_, hd4⟩).run [] _ _ H' _ S4 (hyes rfl a na)) (fun f s6 hsp => ?_) (fun _ _ z => False.elim z)
          cases f with
          | next =>
            obtain ⟨σ6, H6, S6, q6⟩ := hsp
            exact ⟨_, _, S6.unsuite ok, q6⟩
          | brk =>
            obtain ⟨σ6, H6, S6, q6⟩ := hsp
            exact ⟨_, _, S6.unsuite ok, q6⟩
          | cont =>
            obtain ⟨σ6, H6, S6, q6⟩ := hsp
            exact ⟨_, _, S6.unsuite ok, q6⟩
          | ret u =>
            obtain ⟨v6, σ6, H6, S6, r6, q6⟩ := hsp
            exact ⟨_, _, _, S6.unsuite ok, r6, q6⟩
        | false =>
          show wpAny _ X.A (handleBy (.ref a) X.env hds2) _ _ _
          exact ih (hno rfl)
      | @named x n i c ts b₀ suite np pos' hds2 l2 hi hln hc hsu r ih =>
        intro w
        have hloc : Loc X.env.scope n := .inl hln
        obtain ⟨b, hb1, hyes, hno⟩ := w
        refine wpAny_handleBy_cons (codeAny_handlers_test ?_) (by intro q; cases q)
        have LM := PySem.W.exm_one (M := model X.prog X.w) (J3.kIn) LT hb1
        refine test hc (LM.here ?_)
        cases b with
        | true =>
          refine codeAny_handlers_suite_as ?_
          refine HandSPX.lands_againZ fl3 fun h4 fl4 up4 => ?_
          have J4 : Inv X pins σ' H' { s' with heap := h4 } := J.landed nb fl4.1 ((up.trans up3).trans up4) os ag
          obtain ⟨oe4, vs4, he4, hz4, hd4⟩ := fl4.there
          have S4 := J4.suite he4 hd4 na nL nF
          refine store_ok (X := X.suite a ((a, oe4) :: (X.pn ++ pins))) (v := .ref a) S4 hN hi hloc rfl (fun s5 S5 => ?_) (.inr hln)
          refine wpAny_mono ((hsu a oe4 cls d (X.pn ++ pins) hz4 ⟨_, hd4⟩).run [] s5 _ H' _ S5 (hyes rfl (by rw [J.len]; exact (List.getElem?_eq_some_iff.mp hi).1) a na)) (fun f s6 hsp => ?_) (fun _ _ z => False.elim z)
          have end_ : ∀ {σ6 : St} {H6 : Hp} {Q : Shared → Prop}, Inv (X.suite a ((a, oe4) :: (X.pn ++ pins))) [] σ6 H6 s6 → (∀ s7, Inv X pins (σ6.set i none) H6 s7 → Q s7) →
              wpAny (model X.prog X.w) X.A (do bindName X.env n .none; unbindBehindTheSuite X.env n pos') (fun _ s7 => Q s7) X.xe s6 := fun {σ6 H6 Q} S6 hq => gone_ok (S6.unsuite ok) hN hi hln hq
          cases f with
          | next =>
            obtain ⟨σ6, H6, S6, q6⟩ := hsp
            exact end_ S6 fun s7 J7 => ⟨_, _, J7, q6⟩
          | brk =>
            obtain ⟨σ6, H6, S6, q6⟩ := hsp
            exact end_ S6 fun s7 J7 => ⟨_, _, J7, q6⟩
          | cont =>
            obtain ⟨σ6, H6, S6, q6⟩ := hsp
            exact end_ S6 fun s7 J7 => ⟨_, _, J7, q6⟩
          | ret u =>
            obtain ⟨v6, σ6, H6, S6, r6, q6⟩ := hsp
            exact end_ S6 fun s7 J7 => ⟨_, _, _, J7, r6, q6⟩
        | false =>
          show wpAny _ X.A (handleBy (.ref a) X.env hds2) _ _ _
          exact ih (hno rfl)
    exact go hh w
  · cases f with
    | next =>
      obtain ⟨σ', H', J', q⟩ := hsp
      exact wpAny_execs_nil ⟨σ', H', J'.ofTry ok, q⟩
    | brk =>
      obtain ⟨σ', H', J', q⟩ := hsp
      exact ⟨σ', H', J'.ofTry ok, q⟩
    | cont =>
      obtain ⟨σ', H', J', q⟩ := hsp
      exact ⟨σ', H', J'.ofTry ok, q⟩
    | ret u =>
      obtain ⟨v, σ', H', J', r, q⟩ := hsp
      exact ⟨v, σ', H', J'.ofTry ok, r, q⟩
end
end L2


set_option Elab.async false
set_option linter.all false
set_option maxRecDepth 100000
set_option maxHeartbeats 4000000
namespace K1
open PySem PySem.Spec PyProof.Rows L2 RZ
/-! ### values as data: what stands at a place, found in the call's own objects -/
mutual
inductive Dv (H : Hp) : V → PyData → Prop
  | non : Dv H .non .none
  | bl (b : Bool) : Dv H (.bl b) (.bool b)
  | int (i : Int) : Dv H (.int i) (.int i)
  | str (x : Str) : Dv H (.str x) (.str x)
  | lst {a : Addr} {xs : List V} {ds : List PyData} : H a = some (.lst xs) → DvA H xs ds → Dv H (.ref a) (.list ds)
  | tup {a : Addr} {xs : List V} {ds : List PyData} : H a = some (.tup xs) → DvA H xs ds → Dv H (.ref a) (.tuple ds)
  | dic {a : Addr} : H a = some (.dK []) → Dv H (.ref a) (.dict [])
inductive DvA (H : Hp) : List V → List PyData → Prop
  | nil : DvA H [] []
  | cons {v : V} {vs : List V} {d : PyData} {ds : List PyData} : Dv H v d → DvA H vs ds → DvA H (v :: vs) (d :: ds)
end
mutual
theorem Dv.ext {H H' : Hp} (e : LamX.ExtN H H') : ∀ {v : V} {d : PyData}, Dv H v d → Dv H' v d
  | _, _, .non => .non
  | _, _, .bl b => .bl b
  | _, _, .int i => .int i
  | _, _, .str x => .str x
  | _, _, .lst h a => .lst (e _ _ h fun _ z => by cases z) (DvA.ext e a)
  | _, _, .tup h a => .tup (e _ _ h fun _ z => by cases z) (DvA.ext e a)
  | _, _, .dic h => .dic (e _ _ h fun _ z => by cases z)
theorem DvA.ext {H H' : Hp} (e : LamX.ExtN H H') : ∀ {vs : List V} {ds : List PyData}, DvA H vs ds → DvA H' vs ds
  | _, _, .nil => .nil
  | _, _, .cons h r => .cons (Dv.ext e h) (DvA.ext e r)
end
theorem Dv.same {H H' : Hp} {v : V} {d : PyData} (h : Dv H v d) (s : Same H H') : Dv H' v d := h.ext (LamX.ExtN.of s)
theorem DvA.same {H H' : Hp} {v : List V} {d : List PyData} (h : DvA H v d) (s : Same H H') : DvA H' v d := h.ext (LamX.ExtN.of s)
mutual
def noDic : PyData → Bool
  | .list xs => noDicA xs
  | .tuple xs => noDicA xs
  | .dict _ => false
  | _ => true
def noDicA : List PyData → Bool
  | [] => true
  | x :: r => noDic x && noDicA r
end
mutual
theorem Dv.dp {K : PySem.W.Frag} {H : Hp} : ∀ {v : V} {d : PyData}, Dv H v d → noDic d = true → Dp K H v d
  | _, _, .non, _ => .non
  | _, _, .bl b, _ => .bl b
  | _, _, .int i, _ => .int i
  | _, _, .str x, _ => .str x
  | _, _, .lst h a, n => .lst (sq h) (DvA.dp a n)
  | _, _, .tup h a, n => .tup (st h) (DvA.dp a n)
  | _, _, .dic h, n => by cases n
theorem DvA.dp {K : PySem.W.Frag} {H : Hp} : ∀ {vs : List V} {ds : List PyData}, DvA H vs ds → noDicA ds = true → DpAll K H vs ds
  | _, _, .nil, _ => .nil
  | _, _, .cons h r, n => .cons (Dv.dp h ((Bool.and_eq_true _ _).mp n).1) (DvA.dp r ((Bool.and_eq_true _ _).mp n).2)
end
theorem DvA.len {H : Hp} : ∀ {vs : List V} {ds : List PyData}, DvA H vs ds → vs.length = ds.length
  | _, _, .nil => rfl
  | _, _, .cons _ r => congrArg (· + 1) (DvA.len r)
theorem DvA.get {H : Hp} : ∀ {vs : List V} {ds : List PyData}, DvA H vs ds → ∀ {i : Nat} {v : V}, vs[i]? = some v → ∃ d, ds[i]? = some d ∧ Dv H v d
  | _, _, .nil, i, v, h => by simp at h
  | _, _, .cons hd r, 0, v, h => ⟨_, rfl, by simp at h; exact h ▸ hd⟩
  | _, _, .cons hd r, i + 1, v, h => by simpa using DvA.get r (i := i) (v := v) (by simpa using h)
theorem DvA.app {H : Hp} : ∀ {vs : List V} {ds : List PyData} {us : List V} {es : List PyData}, DvA H vs ds → DvA H us es → DvA H (vs ++ us) (ds ++ es)
  | _, _, _, _, .nil, h => h
  | _, _, _, _, .cons hd r, h => .cons hd (DvA.app r h)
def tyN : PyData → String
  | .none => "NoneType"
  | .bool _ => "bool"
  | .int _ => "int"
  | .str _ => "str"
  | .list _ => "list"
  | .tuple _ => "tuple"
  | .dict _ => "dict"
theorem Dv.ty {K : PySem.W.Frag} {H : Hp} {v : V} {d : PyData} (h : Dv H v d) : TyX K H v (.type (tyN d)) := by
  cases h with
  | non => exact .base .non
  | bl b => exact .base (.bl b)
  | int i => exact .base (.int i)
  | str x => exact .base (.str x)
  | lst e _ => exact .base (.lst e)
  | tup e _ => exact .base (.tup e)
  | dic e => exact .base (.dK e)
/-! ### what the checks say of data -/
def isInt : PyData → Bool | .int _ => true | _ => false
def isNum : PyData → Bool | .int n => decide (1 ≤ n) | _ => false
def isStr : PyData → Bool | .str _ => true | _ => false
def isTup : PyData → Bool | .tuple _ => true | _ => false
def isSeq : PyData → Bool | .tuple _ => true | .list _ => true | _ => false
def itemsD : PyData → List PyData | .list xs => xs | .tuple xs => xs | _ => []
def dI : PyData → Int | .int n => n | _ => 0
def isNums (d : PyData) : Bool := isSeq d && (itemsD d).all isNum
def ascB (ns : List Int) : Bool := ((ns.zip (ns.drop 1)).map fun p => decide (p.1 < p.2)).all id
theorem kit_int (d : PyData) : ∃ b1 b2, kitB (tyN d) "int" = some b1 ∧ kitB (tyN d) "bool" = some b2 ∧ (b1 && !b2) = isInt d := by
  cases d with
  | none => exact ⟨false, false, (show kitB "NoneType" "int" = some false by decide +kernel), (show kitB "NoneType" "bool" = some false by decide +kernel), rfl⟩
  | bool b => exact ⟨true, true, (show kitB "bool" "int" = some true by decide +kernel), (show kitB "bool" "bool" = some true by decide +kernel), rfl⟩
  | int b => exact ⟨true, false, (show kitB "int" "int" = some true by decide +kernel), (show kitB "int" "bool" = some false by decide +kernel), rfl⟩
  | str b => exact ⟨false, false, (show kitB "str" "int" = some false by decide +kernel), (show kitB "str" "bool" = some false by decide +kernel), rfl⟩
  | list b => exact ⟨false, false, (show kitB "list" "int" = some false by decide +kernel), (show kitB "list" "bool" = some false by decide +kernel), rfl⟩
  | tuple b => exact ⟨false, false, (show kitB "tuple" "int" = some false by decide +kernel), (show kitB "tuple" "bool" = some false by decide +kernel), rfl⟩
  | dict b => exact ⟨false, false, (show kitB "dict" "int" = some false by decide +kernel), (show kitB "dict" "bool" = some false by decide +kernel), rfl⟩
theorem kit_str (d : PyData) : kitB (tyN d) "str" = some (isStr d) := by
  cases d with
  | none => exact (show kitB "NoneType" "str" = some false by decide +kernel)
  | bool b => exact (show kitB "bool" "str" = some false by decide +kernel)
  | int b => exact (show kitB "int" "str" = some false by decide +kernel)
  | str b => exact (show kitB "str" "str" = some true by decide +kernel)
  | list b => exact (show kitB "list" "str" = some false by decide +kernel)
  | tuple b => exact (show kitB "tuple" "str" = some false by decide +kernel)
  | dict b => exact (show kitB "dict" "str" = some false by decide +kernel)
theorem kit_tup (d : PyData) : kitB (tyN d) "tuple" = some (isTup d) := by
  cases d with
  | none => exact (show kitB "NoneType" "tuple" = some false by decide +kernel)
  | bool b => exact (show kitB "bool" "tuple" = some false by decide +kernel)
  | int b => exact (show kitB "int" "tuple" = some false by decide +kernel)
  | str b => exact (show kitB "str" "tuple" = some false by decide +kernel)
  | list b => exact (show kitB "list" "tuple" = some false by decide +kernel)
  | tuple b => exact (show kitB "tuple" "tuple" = some true by decide +kernel)
  | dict b => exact (show kitB "dict" "tuple" = some false by decide +kernel)
theorem kit_seq {K : PySem.W.Frag} (d : PyData) : PySem.W.kitAny K (.type (tyN d)) [.type "list", .type "tuple"] = some (isSeq d) := by
  have kt : ∀ {t : String} {b1 b2 : Bool}, kitB t "list" = some b1 → kitB t "tuple" = some b2 → PySem.W.kitAny K (.type t) [.type "list", .type "tuple"] = some (b1 || b2) := fun {t b1 b2} h1 h2 =>
    kitAny_cons (b := b1) (kit_ty h1) (fun e => by subst e; exact kitAny_cons (b := b2) (kit_ty h2) (fun e => by subst e; exact kitAny_nil) fun e => by subst e; rfl) fun e => by subst e; rfl
  cases d with
  | none => exact kt (t := "NoneType") (b1 := false) (b2 := false) (by decide +kernel) (by decide +kernel)
  | bool b => exact kt (t := "bool") (b1 := false) (b2 := false) (by decide +kernel) (by decide +kernel)
  | int b => exact kt (t := "int") (b1 := false) (b2 := false) (by decide +kernel) (by decide +kernel)
  | str b => exact kt (t := "str") (b1 := false) (b2 := false) (by decide +kernel) (by decide +kernel)
  | list b => exact kt (t := "list") (b1 := true) (b2 := false) (by decide +kernel) (by decide +kernel)
  | tuple b => exact kt (t := "tuple") (b1 := false) (b2 := true) (by decide +kernel) (by decide +kernel)
  | dict b => exact kt (t := "dict") (b1 := false) (b2 := false) (by decide +kernel) (by decide +kernel)
/-- a list or a tuple of the call's own -/
def SeqH (H : Hp) (a : Addr) (xs : List V) : Prop := H a = some (.lst xs) ∨ H a = some (.tup xs)
theorem SeqH.same {H H' : Hp} {a : Addr} {xs : List V} (h : SeqH H a xs) (s : Same H H') : SeqH H' a xs := h.imp (s _ _) (s _ _)
theorem SeqH.len {K : PySem.W.Frag} {H : Hp} {a : Addr} {xs : List V} (h : SeqH H a xs) : SqL K H a xs ∨ SqT K H a xs := h.imp sq st
theorem Dv.seq {H : Hp} {v : V} {d : PyData} (h : Dv H v d) (hs : isSeq d = true) : ∃ a xs, v = .ref a ∧ SeqH H a xs ∧ DvA H xs (itemsD d) := by
  cases h with
  | lst e r => exact ⟨_, _, rfl, .inl e, r⟩
  | tup e r => exact ⟨_, _, rfl, .inr e, r⟩
  | _ => cases hs
theorem Dv.tupD {H : Hp} {v : V} {d : PyData} (h : Dv H v d) (hs : isTup d = true) : ∃ a xs, v = .ref a ∧ H a = some (.tup xs) ∧ DvA H xs (itemsD d) ∧ d = .tuple (itemsD d) := by
  cases h with
  | tup e r => exact ⟨_, _, rfl, e, r, rfl⟩
  | _ => cases hs
/-- what a walk over a list or a tuple asks -/
def SeqR (K : PySem.W.Frag) (a : Addr) (H : Hp) (R : It → Hp → Prop) : Prop := ((∃ xs, SqL K H a xs) ∧ R (Itl K a) H) ∨ ((∃ xs, SqT K H a xs) ∧ R (Itt K a) H)
def ZipR (K : PySem.W.Frag) (a b : Addr) (xs ys : List V) (H : Hp) (R : It → Hp → Prop) : Prop := (SqL K H a xs ∧ SqL K H b ys ∧ R (Itz K a b) H) ∨ (SqT K H a xs ∧ SqT K H b ys ∧ R (ItzT K a b) H)
/-- a walk of a list or a tuple of the call's own -/
theorem seq_walk {K : PySem.W.Frag} {H : Hp} {a : Addr} {xs : List V} {R : It → Hp → Prop} (h : SeqH H a xs)
    (k : ∀ (J : It) (Gd : Hp → Prop), Walk J xs.length Gd (YAt xs) → (∀ H', Same H H' → Gd H') → R J H) : SeqR K a H R := by
  rcases h with h | h
  · exact .inl ⟨⟨xs, sq h⟩, k _ _ walk_list fun H' s => sq (s _ _ h)⟩
  · exact .inr ⟨⟨xs, st h⟩, k _ _ walk_tup fun H' s => st (s _ _ h)⟩
theorem walk_zipT {K : PySem.W.Frag} {a b : Addr} {xs ys : List V} {n : Nat} (hn : n = min xs.length ys.length) : Walk (ItzT K a b) n (fun H => SqT K H a xs ∧ SqT K H b ys) (YPair (fun i => xs[i]?) (fun i => ys[i]?)) := by
  subst hn
  refine ⟨fun i _ hi q => ?_, fun _ q => ⟨xs, ys, q.1, q.2, by omega⟩, fun i H v H' _ q y => ?_⟩
  · have h1 : i < xs.length := by omega
    have h2 : i < ys.length := by omega
    exact ⟨xs, ys, xs[i], ys[i], q.1, q.2, by simp [h1], by simp [h2]⟩
  · obtain ⟨T, x, z, h1, h2, h3, h4, h5⟩ := y
    exact ⟨T, x, z, h1, h2, h3, h4 xs q.1, h5 ys q.2⟩
theorem zip_walkL {K : PySem.W.Frag} {H : Hp} {a b : Addr} {xs ys : List V} {R : It → Hp → Prop} (h1 : H a = some (.lst xs)) (h2 : H b = some (.lst ys))
    (k : ∀ (J : It) (Gd : Hp → Prop), Walk J (min xs.length ys.length) Gd (YPair (fun i => xs[i]?) (fun i => ys[i]?)) → (∀ H', Same H H' → Gd H') → R J H) : ZipR K a b xs ys H R :=
  .inl ⟨sq h1, sq h2, k _ _ (walk_zip rfl) fun H' s => ⟨sq (s _ _ h1), sq (s _ _ h2)⟩⟩
theorem zip_walkT {K : PySem.W.Frag} {H : Hp} {a b : Addr} {xs ys : List V} {R : It → Hp → Prop} (h1 : H a = some (.tup xs)) (h2 : H b = some (.tup ys))
    (k : ∀ (J : It) (Gd : Hp → Prop), Walk J (min xs.length ys.length) Gd (YPair (fun i => xs[i]?) (fun i => ys[i]?)) → (∀ H', Same H H' → Gd H') → R J H) : ZipR K a b xs ys H R :=
  .inr ⟨st h1, st h2, k _ _ (walk_zipT rfl) fun H' s => ⟨st (s _ _ h1), st (s _ _ h2)⟩⟩
structure Bj (mg : Str → Option Value) : Prop extends Bi mg where
  all : mg "all" = none
  zip : mg "zip" = none
section
variable {X : Cx} {K : PySem.W.Frag}
theorem sl_seqK (h : X.K = K) : SlR X (fun x lo hi H Q => rSlL K x lo hi H Q ∨ rSlA K x lo hi H Q) := by subst h; exact SlR.or sl_list sl_tupA
theorem call_isiK1 (h : X.K = K) : CallR X (.builtin "isinstance") (rIsi K) := by subst h; exact call_isi
theorem call_isiTK (h : X.K = K) : CallR X (.builtin "isinstance") (rIsiT K) := by subst h; exact call_isiT
theorem cr_allK (h : X.K = K) (hc : X.calm = true) : CallR X (.builtin "all") (rAll K) := by subst h; exact cr_all hc
theorem ix_seqK (h : X.K = K) : IxR X (rIx K) := by subst h; exact ix_seq
theorem pe_const {x : Str} {pos : Pos} {n : Int} (hm : ∃ t, X.mg x = some (.int n t)) (hg : Gl X x) (hd : (x == ("__debug__" : Str)) = false := by decide) : PE X (.Name x pos) (tC (.int n)) := by
  obtain ⟨t, hm⟩ := hm
  exact pe_glob hg hm ⟨t, rfl⟩ hd
/-- a walk over a list or a tuple -/
def iSeq (K : PySem.W.Frag) (tl : TE) : TI := fun σ H R => tl σ H fun x H1 => ∃ a, x = .ref a ∧ SeqR K a H1 R
theorem pi_seqK {tg l : Expr} {tl : TE} (h : X.K = K) (hl : PE X l tl) : PI X tg l (iSeq K tl) := by
  subst h
  refine ⟨fun pins s σ H R I h => ?_⟩
  refine thn (hl.run pins s σ H _ I h) fun v s1 ⟨x, H1, I1, r1, q1⟩ => ?_
  obtain ⟨a, e, q1⟩ := q1
  subst e
  cases r1
  have fr : ∀ b ∈ [s1.heap.objs.size], FpOk X pins H1 b := fun b hb => by
    have e : b = s1.heap.objs.size := by simpa using hb
    subst e
    exact I1.fpOk (Nat.le_refl _) (I1.hok.fresh (Nat.le_refl _))
  rcases q1 with ⟨⟨xs, hq⟩, q⟩ | ⟨⟨xs, hq⟩, q⟩
  · obtain ⟨its, rv, p, hz⟩ := I1.list hq
    refine wpAny_pyIter_list p.isList ?_
    exact ⟨s1.heap.objs.size, [s1.heap.objs.size], _, _, H1, rfl, I1.kept (t' := s1.toks) fun b o e => Heap.get?_push_of_some _ e, turn_list a _, ⟨_, Heap.get?_push_size _ rfl, rfl, rfl⟩, fr, q⟩
  · obtain ⟨its, rv, p, hz⟩ := I1.tuple hq
    refine wpAny_pyIter_tuple (show s1.heap.IsTuple a its.toArray from p) ?_
    exact ⟨s1.heap.objs.size, [s1.heap.objs.size], _, _, H1, rfl, I1.kept (t' := s1.toks) fun b o e => Heap.get?_push_of_some _ e, turn_tuple a _, ⟨_, Heap.get?_push_size _ rfl, rfl, rfl⟩, fr, q⟩
def iZipS (K : PySem.W.Frag) (ta : TA) : TI := fun σ H R => ta σ H fun vs H1 => ∃ a b xs ys, vs = [.ref a, .ref b] ∧ ZipR K a b xs ys H1 R
theorem pi_zipSK {e e2 : Expr} {ta : TA} {p pos tpos : Pos} {elts : List Expr} {kk : Nat} (h : X.K = K) (hg : Gl X "zip") (hm : X.mg "zip" = none) (ha : PA X [e, e2] ta)
    (hs : starEach [e, e2] X.env = (false, eval e X.env) :: starEach [e2] X.env := by rfl) (hpl : (backTo pos (starEach [e2] X.env)).any (·.1) = false := by rfl) :
    PI X (.Tuple elts kk tpos) (.Call (.Name "zip" p) [e, e2] [] pos) (iZipS K ta) := by subst h; exact pi_zipA hg hm ha hs hpl
end
end K1


set_option Elab.async false
set_option linter.all false
set_option maxRecDepth 100000
set_option maxHeartbeats 400000
/-! a lambda with one parameter handed to a def or a method that calls it -/
namespace LamY
open PySem PySem.Spec PyProof.Rows L2 LamX
/-- one parameter xp, no other name of its own: captured ones and globals -/
structure LamS1 (sc scope : Scope) (xp : Str) : Prop where
  kind : scope.kind = .function
  co : scope.isCoroutine = false
  gen : scope.isGenerator = false
  own : ∀ y ∈ scope.names, y.2 ≠ .cell ∧ (y.2 = .local → y.1 = xp)
  par : scope.names.lookup xp = some .local
  free : ∀ y ∈ scope.names, y.2 = .free → sc.names.lookup y.1 = some .cell ∨ sc.names.lookup y.1 = some .free
def lamSB1 (sc scope : Scope) (xp : Str) : Bool :=
  decide (scope.kind = .function) && !scope.isCoroutine && !scope.isGenerator && decide (scope.names.lookup xp = some .local) && scope.names.all fun y => !decide (y.2 = .cell) && (!decide (y.2 = .local) || decide (y.1 = xp)) && (!decide (y.2 = .free) || decide (sc.names.lookup y.1 = some .cell) || decide (sc.names.lookup y.1 = some .free))
theorem lamS1_by {sc scope : Scope} {xp : Str} (h : lamSB1 sc scope xp = true) : LamS1 sc scope xp := by
  unfold lamSB1 at h
  simp only [Bool.and_eq_true, Bool.or_eq_true, Bool.not_eq_true', decide_eq_true_eq, decide_eq_false_iff_not, List.all_eq_true] at h
  obtain ⟨⟨⟨⟨h1, h2⟩, h3⟩, h5⟩, h4⟩ := h
  refine ⟨h1, h2, h3, fun y hy => ⟨(h4 y hy).1.1, fun e => (h4 y hy).1.2.elim (fun z => absurd e z) id⟩, h5, fun y hy e => ?_⟩
  rcases (h4 y hy).2 with (z | z) | z
  · exact absurd e z
  · exact .inl z
  · exact .inr z
theorem LamS1.has {X : Cx} {scope : Scope} {xp : Str} (L : LamS1 X.env.scope scope xp) (ok : X.Ok) : ∀ y ∈ scope.names, y.2 = .free → ∃ c, X.env.cells.lookup y.1 = some c := fun y hy e => by
  rcases L.free y hy e with k | k
  · exact ok.has _ (.inl k)
  · exact ok.has _ (.inr k)
/-- the context of the lambda's body, entered at s from the frames outer; its parameter is the last slot -/
def lamCx1 (X : Cx) (A : Around) (outer : List Env) (s : Shared) (H : Hp) (E : XK) (scope : Scope) (xp : Str) (f c' : Addr) : Cx := { lamCx X A outer s H E scope f c' with N := X.N ++ [xp] }
section
variable {X : Cx} {pins : List (Addr × Obj)} {σ : L2.St} {H HZ : Hp} {s s1 : Shared}
theorem lam_start1 {A : Around} {outer : List Env} {E : XK} {scope : Scope} {xp : Str} {f c' : Addr} {h₁ : Heap} {tk : Nat} {v : V} {u : Value} (I : Inv X pins σ H s) (L : LamS1 X.env.scope scope xp) (hxn : xp ∉ X.N) (rv : RelV v u) (e0 : Env0 X.prog X.w X.K X.mg X.base A outer s1 HZ) (hd : A.handled = none)
    (un : Un (frs X.stack) [] H HZ s.heap s1.heap) (hns : h₁.Ns s1.heap.objs.size fun y => ([(xp, u)] : List (Str × Value)).reverse.lookup y) (kp : ∀ b o, s1.heap.get? b = some o → h₁.get? b = some o) :
    Inv (lamCx1 X A outer s1 HZ E scope xp f c') [] (σ ++ [some v]) HZ { s1 with heap := h₁, toks := tk } := by
  have hfree := L.has I.ok
  have cm : ∀ {y c}, (cloFrom X.env.cells scope.names []).lookup y = some c → X.env.cells.lookup y = some c := fun {y c} e => by
    rcases cloFrom_mem (PySem.mem_of_lookup e) with hm | ⟨h1, h2⟩
    · cases hm
    · obtain ⟨c1, hc⟩ := hfree _ h1 rfl
      have hc : X.env.cells.lookup y = some c1 := hc
      have e2 : c = c1 := by
        rw [h2, hc] <;> rfl
      rw [e2]
      exact hc
  have look : ∀ {y}, scope.names.lookup y = some .free → ∃ c, (cloFrom X.env.cells scope.names []).lookup y = some c := fun {y} hl => by
    have hy : (y, NameKind.free) ∈ scope.names := PySem.mem_of_lookup hl
    exact mem_lookup (cloFrom_has (cells := X.env.cells) (acc := []) hy)
  have cellK : ∀ {c : Addr} {v : Option Value}, H c = none → s.heap.IsCell c v → h₁.IsCell c v := fun {c v} n ⟨o, ho, hd⟩ => by
    obtain ⟨sl, q⟩ := un.any ho n (by simp)
    exact ⟨_, kp _ _ q, hd⟩
  have noA : ∀ b : Addr, b ∉ (lamCx1 X A outer s1 HZ E scope xp f c').ex := fun b z => absurd (show b ∈ ([] : List Addr) from z) (by simp)
  refine ⟨⟨e0.mod, L.kind, rfl, rfl, Nat.le_refl _, fun y z c e1 e2 => I.ok.inj y z c (cm e1) (cm e2), fun y hy => ?_, fun y c z _ => ?_, fun _ => hd, Around.frames_deeper e0.frames, .inr ⟨rfl, rfl⟩, fun b z => absurd z (noA b), e0.bs, e0.bsz, fun b _ _ => noA b,
      fun b z => absurd z (noA b), e0.funs, e0.frf⟩,
    rfl, e0.bare, Un.kept kp, ⟨_, hns, fun i y v' e1 e2 e3 => ?_⟩, fun y c e => ?_, e0.hok.fresh (Nat.le_refl _), fun y c e => ?_, fun q hq => absurd (show q ∈ ([] : List (Addr × Obj)) ++ [] from hq) (by simp), e0.hok.kept kp, ?_⟩
  · have hy : scope.names.lookup y = some .cell ∨ scope.names.lookup y = some .free := hy
    rcases hy with hy | hy
    · exact absurd rfl (L.own _ (PySem.mem_of_lookup hy)).1
    · exact look hy
  · have z : false = true := z
    cases z
  · have e3 : Vis scope y := e3
    have e1 : (X.N ++ [xp])[i]? = some y := e1
    have hlen := I.len
    by_cases hi : i < X.N.length
    · have e1' : X.N[i]? = some y := by rw [List.getElem?_append_left hi] at e1; exact e1
      have e2' : σ[i]? = some (some v') := by rw [List.getElem?_append_left (by omega)] at e2; exact e2
      have hyN : y ∈ X.N := List.mem_of_getElem? e1'
      rcases e3 with k | k | k
      · exact absurd ((L.own _ (PySem.mem_of_lookup k)).2 rfl ▸ hyN) hxn
      · exact absurd rfl (L.own _ (PySem.mem_of_lookup k)).1
      · obtain ⟨m, hn, hl⟩ := I.loc
        have hvis : Vis X.env.scope y := (L.free _ (PySem.mem_of_lookup k) rfl).elim (fun k => .inr (.inl k)) (fun k => .inr (.inr k))
        obtain ⟨w', r, q⟩ := hl i y v' e1' e2' hvis
        obtain ⟨c2, h2⟩ := look k
        refine ⟨w', r, .inr ⟨.inr k, c2, h2, ?_⟩⟩
        have c1 := cm h2
        rcases q with ⟨k', _⟩ | ⟨_, c3, e', z⟩
        · have k' : X.env.scope.names.lookup y = some .local := k'
          rcases L.free _ (PySem.mem_of_lookup k) rfl with k2 | k2 <;> rw [show X.env.scope.names.lookup y = _ from k2] at k' <;> cases k'
        · rw [c1] at e'
          cases e'
          exact cellK (I.freeC y _ c1) z
    · have ei : i = X.N.length := by
        have := (List.getElem?_eq_some_iff.mp e1).1
        rw [List.length_append] at this
        have h1 : i < X.N.length + 1 := this
        omega
      subst ei
      have ey : xp = y := by
        rw [List.getElem?_append_right (Nat.le_refl _), Nat.sub_self] at e1
        exact Option.some.inj e1
      have ev : v = v' := by
        rw [List.getElem?_append_right (by omega), hlen, Nat.sub_self] at e2
        exact Option.some.inj (Option.some.inj e2)
      subst ey ev
      refine ⟨u, rv, .inl ⟨L.par, ?_⟩⟩
      show ([(xp, u)] : List (Str × Value)).reverse.lookup xp = some u
      simp [List.lookup]
  · obtain ⟨w', z⟩ := I.cell y c (cm e)
    exact ⟨w', cellK (I.freeC y c (cm e)) z⟩
  · obtain ⟨v, o, ho, hd⟩ := I.cell y c (cm e)
    exact un.free c o ho (I.freeC y c (cm e)) (by simp)
  · show (σ ++ [some v]).length = (X.N ++ [xp]).length
    rw [List.length_append, List.length_append, I.len]; rfl
/-- x(e), in the def that got the lambda, entered at s -/
theorem pe_act1 {Ng : List Str} {qg : Str} {sg : Scope} {g f c' : Addr} {cdg pm ctv : Value} {params : Arguments} {body : Expr} {scope : Scope} {xp : Str} {k i : Nat} {a : Str} {tb te : TE} {p1 p2 : Pos} {e : Expr}
    (I : Inv X pins σ H s) (L : LamS1 X.env.scope scope xp) (hxn : xp ∉ X.N) (hf : s.heap.get? f = some (PySem.W.kla_obj "<lambda>" (X.env.qual ++ "<lambda>") params body scope (cloFrom X.env.cells scope.names []) pm c' ctv)) (hfn : H f = none) (hfr : f ∉ frs X.stack)
    (hbind : ∀ u, bindArgs (PySem.W.kla_fn "<lambda>" (X.env.qual ++ "<lambda>") params body scope (cloFrom X.env.cells scope.names []) pm (.ref c') ctv) ⟨[u], []⟩ = pure [(xp, u)])
    (hr : Room (k + 1) (X.A.deeper (envOfC qg sg s.heap.objs.size g cdg)))
    (hbody : ∀ (A : Around) (outer : List Env) (s : Shared) (H : Hp), Room k (A.deeper (lamEnv X scope s.heap.objs.size f c')) → PE (lamCx1 X A outer s H C8.E0 scope xp f c') body tb)
    (hN : Ng[i]? = some a) (hv : Vis sg a) (he : PE (cxOf C8.CX0 X.prog X.w X.K X.mg X.base Ng qg sg g cdg X.A X.stack s H C8.E0).nox e te)
    (hd : (a == ("__debug__" : Str)) = false := by decide) (hcd : (a == ("__classdict__" : Str)) = false := by decide)
    (hst : starEach [e] (envOfC qg sg s.heap.objs.size g cdg) = [(false, eval e (envOfC qg sg s.heap.objs.size g cdg))] := by rfl) :
    PE (cxOf C8.CX0 X.prog X.w X.K X.mg X.base Ng qg sg g cdg X.A X.stack s H C8.E0).nox (.Call (.Name a p1) [e] [] p2)
      (fun σZ HZ Q => σZ[i]? = some (some (.ref f)) ∧ te σZ HZ fun v H2 => H2 c' = some (CodeO c' (X.env.qual ++ "<lambda>")) ∧ tb (σ ++ [some v]) H2 Q) := by
  refine ⟨fun pinsZ sZ σZ HZ Q IZ h => ?_⟩
  obtain ⟨hs, ht⟩ := h
  refine wpAny_Call_Name_kw (thn ((pe_var (pos := p1) (i := i) hN hv hd hcd).run pinsZ sZ σZ HZ (fun v H1 => v = .ref f ∧ H1 = HZ) IZ ⟨.ref f, hs, rfl, rfl⟩) fun u s1 ⟨v, H1, I1, r1, q1⟩ => ?_)
  obtain ⟨ev, eH⟩ := q1
  subst ev
  rw [eH] at I1
  obtain rfl : u = Value.ref f := r1
  have there : ∀ {H2 : Hp} {s2 : Shared}, Inv (cxOf C8.CX0 X.prog X.w X.K X.mg X.base Ng qg sg g cdg X.A X.stack s H C8.E0).nox pinsZ σZ H2 s2 → s2.heap.get? f = some (PySem.W.kla_obj "<lambda>" (X.env.qual ++ "<lambda>") params body scope (cloFrom X.env.cells scope.names []) pm c' ctv) := fun I2 => I2.base.keep f _ hf hfn hfr (fun z => nomatch (show f ∈ ([] : List Addr) from z))
  have ht' : tCons te tNil σZ HZ (fun vs H2 => match vs with | [v] => H2 c' = some (CodeO c' (X.env.qual ++ "<lambda>")) ∧ tb (σ ++ [some v]) H2 Q | _ => False) := ht
  refine PySem.W.callWith_F (e := e) (rest := []) ⟨_, _, _, _, there I1⟩ (thn ((pa_cons he pa_nil (hs := hst)).run p2 pinsZ s1 σZ HZ _ I1 ht') fun us s2 ⟨vs, H2, I2, r2, q2⟩ => ⟨⟨_, _, _, _, there I2⟩, ?_⟩) hst (by rfl)
  cases r2 with
  | nil => exact False.elim q2
  | cons rv rn =>
  cases rn with
  | cons _ _ => exact False.elim q2
  | nil =>
    rename_i v u2 hAP
    obtain ⟨hc, ht2⟩ := q2
    have of1 := there I2
    have un : Un (frs X.stack) [] H H2 s.heap s2.heap := I2.base
    obtain ⟨⟨oc, vs', t, hoc, hdc, hvc⟩, _, _⟩ := I2.hok c' _ hc
    have rc : codeAny (model X.prog X.w) (X.A.deeper (envOfC qg sg s.heap.objs.size g cdg)) (.call (.ref f) ⟨[u2], []⟩) (CR (L2.CX X.prog X.w) (envOfC qg sg s.heap.objs.size g cdg :: X.stack) X.prog X.w H2 s2 Q C8.E0) s2 := by
      refine PySem.W.kla_callFunE hr.depth of1 rfl L.co L.gen rfl ⟨c', oc, vs', t, rfl, hoc, hdc, hvc⟩ ?_
      rw [hbind]
      refine wpAny_pure (wpAny_newFunctionEnv (fun y hy => (L.own y hy).1) (fun y hy => ?_) (fun h₁ hns hsb => ⟨I2.nolimit.fresh _ hsb, ?_⟩) L.kind)
      · rw [List.mem_singleton.mp hy]; exact L.par
      show codeAny _ _ (.expr body (lamEnv X scope s2.heap.objs.size f c')) _ _
      have kp : ∀ b o, s2.heap.get? b = some o → h₁.get? b = some o := fun b o e => hsb.extBut b o (Nat.ne_of_lt (Heap.lt_size e)) (Heap.get?_push_of_some _ e)
      have J : L2.Inv (lamCx1 X (X.A.deeper (envOfC qg sg s.heap.objs.size g cdg)) (envOfC qg sg s.heap.objs.size g cdg :: X.stack) s2 H2 C8.E0 scope xp f c') [] (σ ++ [some v]) H2 { s2 with heap := h₁, toks := s2.toks + ([(xp, u2)] : List (Str × Value)).length } :=
        lam_start1 I L hxn rv I2.env0 hr.hd un hns kp
      refine PySem.W.kla_codeExpr (wpAny_mono ((hbody _ _ s2 H2 (hr.deeper _)).run [] _ _ H2 Q J ht2) (fun v s' hq => ?_) fun e s' hq => hq)
      obtain ⟨w', H', J', rv, q⟩ := hq
      exact ⟨w', H', J'.os, J'.bare, J'.base, J'.hok, rv, q⟩
    refine wpAny_call (codeAny_mono rc fun r s' hq => ?_)
    cases r with
    | error e =>
      obtain ⟨_, _, _, _, _, _, _, _, _, _, _, _, z⟩ := hq
      exact z.elim
    | ok fl =>
      cases fl with
      | ret u => exact I2.after hq
      | next => exact False.elim hq
      | brk => exact False.elim hq
      | cont => exact False.elim hq
end
/-- the method that calls what it got as its last argument: TT, what it makes of the lambda's reading -/
def GivesM (kk : Nat) (X : Cx) (Ng : List Str) (qg : Str) (sg : Scope) (g : Addr) (cdg : Value) (bg : List Stmt) (i : Nat) (a : Str) (q : Str) (TT : V → V → (V → Hp → VK → Prop) → Hp → VK → Prop) : Prop :=
  ∀ (f c' : Addr) (s : Shared) (H : Hp) (Q : VK) (x y : V) (tl : V → Hp → VK → Prop), Room kk (X.A.deeper (envOfC qg sg s.heap.objs.size g cdg)) →
    (∀ (e : Expr) (te : TE) (p1 p2 : Pos), PE (cxOf C8.CX0 X.prog X.w X.K X.mg X.base Ng qg sg g cdg X.A X.stack s H C8.E0).nox e te → starEach [e] (envOfC qg sg s.heap.objs.size g cdg) = [(false, eval e (envOfC qg sg s.heap.objs.size g cdg))] →
      PE (cxOf C8.CX0 X.prog X.w X.K X.mg X.base Ng qg sg g cdg X.A X.stack s H C8.E0).nox (.Call (.Name a p1) [e] [] p2) (fun σZ HZ Q => σZ[i]? = some (some (.ref f)) ∧ te σZ HZ fun v H2 => H2 c' = some (CodeO c' q) ∧ tl v H2 Q)) →
    H c' = some (CodeO c' q) → TT x y tl H Q →
    ∃ t, PSs (cxOf C8.CX0 X.prog X.w X.K X.mg X.base Ng qg sg g cdg X.A X.stack s H C8.E0).nox bg t ∧ t { nx := fun _ H' => Q .non H', rt := Q } (L2.start Ng [x, y, .ref f]) H
def tMethLam (T : List (Addr × Str)) (C : Addr) (m : Str) (TT : V → V → (V → Hp → VK → Prop) → Hp → VK → Prop) (ta te tb : TE) : TE := fun σ H Q => ta σ H fun x H1 => ∃ a dx fs, x = .ref a ∧ H1 a = some (.ins C dx fs) ∧ fs.lookup m = none ∧
  te σ H1 fun y H2 => Tabs T H2 ∧ ∀ H3, ExtN H2 H3 → Tabs T H3 → TT x y (fun v H' Q' => tb (σ ++ [some v]) H' Q') H3 Q
section
variable {X : Cx}
/-- o.m(e, lambda xp: body) -/
theorem pe_methlam {T : List (Addr × Str)} {TT : V → V → (V → Hp → VK → Prop) → Hp → VK → Prop} {C g c P : Addr} {m xp a1 a2 a : Str} {k : Nat} {qg : Str} {pg : Arguments} {bg : List Stmt} {sg : Scope} {dV kV doc pm cdv ct oc : Value} {an od : Option Addr} {osl : Array (Option Value)} {Ng : List Str}
    {o e : Expr} {params : Arguments} {body : Expr} {scope : Scope} {ta te tb : TE} {apos lpos pos : Pos} {pl : Sem Bool} (ho : PE X o ta) (cC : Cls X.K C) (hm : Meth X.K C m g) (he : PE X e te)
    (lk : X.K.lookup g = some ⟨oc, od, .func (PySem.W.fnOf m qg pg bg sg dV kV doc pm an cdv ct), osl⟩) (hcg : PySem.W.codeIn X.K cdv qg = true) (hb : L2.Binds X.K (PySem.W.fnOf m qg pg bg sg dV kV doc pm an cdv ct) [a1, a2, a] []) (Sg : FnScope Ng [a1, a2, a] sg) (hNg : Ng[2]? = some a) (hva : Vis sg a)
    (hG : GivesM (k + 1) X Ng qg sg g cdv bg 2 a (X.env.qual ++ "<lambda>") TT)
    (TB : TabB X.base X.mg c P) (hcode : X.env.code = .ref c) (hmT : (P, X.env.qual ++ "<lambda>") ∈ T) (hu : ∀ p ∈ T, p.1 = P → p.2 = X.env.qual ++ "<lambda>") (hr : Room (k + 2) X.A) (L : LamS1 X.env.scope scope xp) (hxn : xp ∉ X.N) (hdef : defaultsOf params X.env = ([], []))
    (hbind : ∀ (q : Str) (cl : List (Str × Addr)) (pm cv ctv u : Value), bindArgs (PySem.W.kla_fn "<lambda>" q params body scope cl pm cv ctv) ⟨[u], []⟩ = pure [(xp, u)])
    (hbody : ∀ (A : Around) (outer : List Env) (s : Shared) (H : Hp) (f c' : Addr), Room k (A.deeper (lamEnv X scope s.heap.objs.size f c')) → PE (lamCx1 X A outer s H C8.E0 scope xp f c') body tb)
    (hd : (a == ("__debug__" : Str)) = false := by decide) (hcd : (a == ("__classdict__" : Str)) = false := by decide)
    (hst : starEach [e, .Lambda params body scope lpos] X.env = (false, eval e X.env) :: starEach [.Lambda params body scope lpos] X.env := by rfl) (hpl : (backTo pos (starEach [.Lambda params body scope lpos] X.env)).any (·.1) = false := by rfl)
    (ht : eval (.Call (.Attribute o m apos) [e, .Lambda params body scope lpos] [] pos) X.env = (do
      let ov ← eval o X.env
      standAt apos.atName
      let (f, first) ← holding [ov] (getMethod ov m pl)
      callWith pos f first (backTo pos (starEach [e, .Lambda params body scope lpos] X.env)) (backToKw pos (keywordEach [] X.env))) := by rfl) :
    PE X (.Call (.Attribute o m apos) [e, .Lambda params body scope lpos] [] pos) (tMethLam T C m TT ta te tb) := by
  refine ⟨fun pins s σ H Q I h => ?_⟩
  refine PySem.W.methodCall_KW (pl := pl) (thn (ho.run pins s σ H _ I h) fun u s1 ⟨x, H1, I1, rx, a0, dx, fs, ex, ea, l, q⟩ => ?_) ht
  subst ex
  obtain rfl : u = Value.ref a0 := rx
  refine getmeth_ok I1 ea cC hm l ?_
  refine PySem.W.callWith_K (first := [.ref a0]) (h₀ := X.base) I.ok.mod.kin hm.kp ?_ hst hpl
  rw [hst]
  refine Calls.spliced_cons (thn (he.run pins s1 σ H1 _ I1 q) fun u2 s2 ⟨y, H2, I2, ry, hT, q2⟩ => ?_)
  show wpAny _ _ (spliced ((false, eval (.Lambda params body scope lpos) X.env) :: backTo pos (starEach [] X.env))) _ _ s2
  refine Calls.spliced_cons (lam_make2 I2 TB hcode hmT hu hT hdef (L.has I.ok) fun f c' pm' ctv H3 s' I3 eN T1 hf hfn hfr hco => ?_)
  refine Calls.spliced_nil ⟨I3.kIn, ?_⟩
  have rc : codeAny (model X.prog X.w) X.A (.call (.ref g) ⟨[.ref a0, u2, .ref f], []⟩) (CR C8.CX0 X.stack X.prog X.w H3 s' Q C8.E0) s' := by
    refine run_ofS (N := Ng) (ps := [a1, a2, a]) (us := [.ref a0, u2, .ref f]) (vs := [.ref a0, y, .ref f]) lk hcg Sg hr I3.env0 (hb s' [.ref a0, u2, .ref f] I3.kIn rfl) (.cons rfl (.cons ry (.cons rfl .nil))) rfl fun hr' => ?_
    obtain ⟨t', ht', hq'⟩ := hG f c' s' H3 Q (.ref a0) y (fun v H' Q' => tb (σ ++ [some v]) H' Q') hr' (fun e te p1 p2 he' hst' => pe_act1 (i := 2) I3 L hxn hf hfn hfr (fun u => hbind _ _ _ _ _ u) hr' (fun A outer s H hr2 => hbody A outer s H f c' hr2) hNg hva he' hd hcd hst') hco (q2 H3 eN T1)
    exact ⟨t', ht'.nox, hq'⟩
  refine wpAny_call (codeAny_mono rc fun r s2 hq => ?_)
  cases r with
  | error e => exact (show False from hq).elim
  | ok fl =>
    cases fl with
    | ret u => exact I3.after hq
    | next => exact False.elim hq
    | brk => exact False.elim hq
    | cont => exact False.elim hq
end
end LamY


set_option Elab.async false
set_option linter.all false
set_option maxRecDepth 100000
set_option maxHeartbeats 2000000
namespace K1
open PySem PySem.Spec PyProof.Rows L2 RZ
/-- what is never reached -/
theorem pss_any {X : Cx} {b : List Stmt} : PSs X b (fun _ _ _ => False) := ⟨fun _ _ _ _ _ _ h => h.elim⟩
structure Bk (mg : Str → Option Value) : Prop extends Bj mg where
  set : mg "set" = none
  dict : mg "dict" = none
structure Cs (mg : Str → Option Value) : Prop where
  MOST_SIGNS : ∃ t, mg "MOST_SIGNS" = some (.int 6 t)
  LONGEST_SIGN : ∃ t, mg "LONGEST_SIGN" = some (.int 8 t)
abbrev sIsInt : Stmt := st_is_integer
abbrev sIsNum : Stmt := st_is_number
abbrev sIsBody : Stmt := st_is_body
abbrev sIsSign : Stmt := st_is_sign
abbrev sIsSigns : Stmt := st_is_signs
abbrev sIsNums : Stmt := st_is_numbers
abbrev nV : List Str := ["value"]
abbrev pV : List Str := ["value"]
theorem scIsInt : FnScope nV pV (defScope sIsInt) := ⟨rfl, rfl, rfl, by decide +kernel, rfl, by decide +kernel, by decide +kernel⟩
theorem scIsNum : FnScope nV pV (defScope sIsNum) := ⟨rfl, rfl, rfl, by decide +kernel, rfl, by decide +kernel, by decide +kernel⟩
theorem scIsBody : FnScope nV pV (defScope sIsBody) := ⟨rfl, rfl, rfl, by decide +kernel, rfl, by decide +kernel, by decide +kernel⟩
abbrev nIsSign : List Str := ["value", "letter"]
theorem scIsSign : FnScope nIsSign pV (defScope sIsSign) := ⟨rfl, rfl, rfl, by decide +kernel, rfl, by decide +kernel, by decide +kernel⟩
abbrev nIsSigns : List Str := ["value", "ahead", "sign"]
theorem scIsSigns : FnScope nIsSigns pV (defScope sIsSigns) := ⟨rfl, rfl, rfl, by decide +kernel, rfl, by decide +kernel, by decide +kernel⟩
abbrev nIsNums : List Str := ["value", "number"]
theorem scIsNums : FnScope nIsNums pV (defScope sIsNums) := ⟨rfl, rfl, rfl, by decide +kernel, rfl, by decide +kernel, by decide +kernel⟩
/-! ### signs -/
def inAZ (c : Nat) : Bool := (!decide ([c] < ("a" : Str).cps.toList)) && !decide (("z" : Str).cps.toList < [c])
def okS (s : Str) : Bool := decide (1 ≤ s.length) && decide (s.length ≤ 8) && s.cps.toList.all inAZ
def goSs : Str → List Str → Bool
  | _, [] => true
  | a, s :: r => okS s && decide (a.cps.toList < s.cps.toList) && goSs s r
def okSs (ss : List Str) : Bool := decide (ss.length ≤ 6) && goSs "" ss
def spInt : Sp := fun vs H Q _ => ∃ n : Int, vs = [.int n] ∧ Q (.bl true) H
def spNum : Sp := fun vs H Q _ => ∃ n : Int, vs = [.int n] ∧ 1 ≤ n ∧ Q (.bl true) H
def spBody : Sp := fun vs H Q _ => ∃ n : Int, vs = [.int n] ∧ 0 ≤ n ∧ Q (.bl true) H
def spSign : Sp := fun vs H Q _ => ∃ s : Str, vs = [.str s] ∧ okS s = true ∧ ∀ H', Same H H' → Q (.bl true) H'
def spSigns : Sp := fun vs H Q _ => ∃ (a : Addr) (ss : List Str), vs = [.ref a] ∧ H a = some (.tup (ss.map V.str)) ∧ okSs ss = true ∧ ∀ H', Same H H' → Q (.bl true) H'
def spNums : Sp := fun vs H Q _ => ∃ (a : Addr) (ns : List Int), vs = [.ref a] ∧ H a = some (.tup (ns.map V.int)) ∧ (∀ n ∈ ns, 1 ≤ n) ∧ ns.length ≤ 1000 ∧ ∀ H', Same H H' → Q (.bl true) H'
section
variable {P : Program} {w : World} {K : PySem.W.Frag} {mg : Str → Option Value} {base : Heap}
theorem ok_isInt {f : Addr} {fd : FuncData} (T : Bk mg) (F : Fun K "is_integer" "is_integer" sIsInt f fd) : FnOk P w K mg base CX0 1 f fd pV spInt := by
  refine F.ok scIsInt (fun vs H Q E h => ?_) (fun cdv A outer s H vs Q E hr h => ?_)
  · obtain ⟨n, rfl, _⟩ := h
    rfl
  · obtain ⟨n, rfl, q⟩ := h
    refine ⟨_, (pss_one (ps_ret (pe_and (pe_callB (call_isiK1 (K := K) rfl) (by rfl) T.isinstance PyProof.Rows.boot_isinstance (pa_cons (pv 0) (pa_cons (pe_bltn (v := .ty "int") rfl T.int PyProof.Rows.boot_int rfl) pa_nil))) (pe_one (pe_not (pe_callB (call_isiK1 (K := K) rfl) (by rfl) T.isinstance PyProof.Rows.boot_isinstance (pa_cons (pv 0) (pa_cons (pe_bltn (v := .ty "bool") rfl T.bool PyProof.Rows.boot_bool rfl) pa_nil)))))))), ?_⟩
    exact ⟨_, rfl, .int n, .ty "int", .type "int", .type "int", true, rfl, .ty _, .base (.int n), kit_ty (by decide +kernel), _, rfl, itbT rfl ⟨_, rfl, .int n, .ty "bool", .type "int", .type "bool", false, rfl, .ty _, .base (.int n), kit_ty (by decide +kernel), _, rfl, q⟩⟩
theorem ok_isNum {f : Addr} {fd : FuncData} (D_is_integer : Def P w K mg base CX0 1 "is_integer" pV spInt) (F : Fun K "is_number" "is_number" sIsNum f fd) : FnOk P w K mg base CX0 2 f fd pV spNum := by
  refine F.ok scIsNum (fun vs H Q E h => ?_) (fun cdv A outer s H vs Q E hr h => ?_)
  · obtain ⟨n, rfl, _⟩ := h
    rfl
  · obtain ⟨n, rfl, h1, q⟩ := h
    refine ⟨_, (pss_one (ps_ret (pe_and (pe_def D_is_integer (hr.mono (by decide)) rfl pass0 (pa_cons (pv 0) pa_nil)) (pe_one (pe_cmpR op_ge (pv 0) pe_int (nomark _)))))), ?_⟩
    refine ⟨_, rfl, n, rfl, _, rfl, itbT rfl ⟨_, rfl, _, _, rfl, rfl, ?_⟩⟩
    show Q (.bl (decide (1 ≤ n))) H
    rw [decide_eq_true h1]; exact q
theorem ok_isBody {f : Addr} {fd : FuncData} (D_is_integer : Def P w K mg base CX0 1 "is_integer" pV spInt) (F : Fun K "is_body" "is_body" sIsBody f fd) : FnOk P w K mg base CX0 2 f fd pV spBody := by
  refine F.ok scIsBody (fun vs H Q E h => ?_) (fun cdv A outer s H vs Q E hr h => ?_)
  · obtain ⟨n, rfl, _⟩ := h
    rfl
  · obtain ⟨n, rfl, h1, q⟩ := h
    refine ⟨_, (pss_one (ps_ret (pe_and (pe_def D_is_integer (hr.mono (by decide)) rfl pass0 (pa_cons (pv 0) pa_nil)) (pe_one (pe_cmpR op_ge (pv 0) pe_int (nomark _)))))), ?_⟩
    refine ⟨_, rfl, n, rfl, _, rfl, itbT rfl ⟨_, rfl, _, _, rfl, rfl, ?_⟩⟩
    show Q (.bl (decide (0 ≤ n))) H
    rw [decide_eq_true h1]; exact q
theorem ok_isSign {f : Addr} {fd : FuncData} (T : Bk mg) (C : Cs mg) (F : Fun K "is_sign" "is_sign" sIsSign f fd) : FnOk P w K mg base CX0 1 f fd pV spSign := by
  have nd := scIsSign.nd
  refine F.ok scIsSign (fun vs H Q E h => ?_) (fun cdv A outer s H vs Q E hr h => ?_)
  · obtain ⟨z, rfl, _⟩ := h
    rfl
  · obtain ⟨z, rfl, hz, q⟩ := h
    refine ⟨_, (pss_cons (ps_if (PW.pt (pw_or (pt_not (pt_val (pe_callB (call_isiK1 (K := K) rfl) (by rfl) T.isinstance PyProof.Rows.boot_isinstance (pa_cons (pv 0) (pa_cons (pe_bltn (v := .ty "str") rfl T.str PyProof.Rows.boot_str rfl) pa_nil))))) (pw_or1 (pt_not (pt_chain op_le op_le pe_int (pe_callB call_len_str (by rfl) T.len PySem.boot_len (pa_cons (pv 0) pa_nil)) (pe_const C.LONGEST_SIGN rfl))))))
  (pss_one (ps_ret pe_bl))
  pss_nil)
 (pss_one (ps_ret (pe_callB (cr_allK (K := K) rfl rfl) (by rfl) T.all PyProof.Rows.boot_all (pa_cons (pe_lc (own := [("letter", 1)]) (g := gName 1) (tt := tYes) rfl nd (pi_str (pv 0)) (blkOk_by (own := [("letter", 1)]) (N := nIsSign) (sc := defScope sIsSign) (by decide +kernel)) (fun _ _ _ _ _ => pg_name (i := 1) nd rfl (Or.inl rfl)) (fun _ _ _ _ _ => pts_nil) (fun _ _ _ _ _ => (pe_chain op_le_str op_le_str pe_str (pv 1) pe_str))) pa_nil))))), ?_⟩
    unfold okS at hz
    rw [Bool.and_eq_true, Bool.and_eq_true] at hz
    obtain ⟨⟨z1, z2⟩, z3⟩ := hz
    have z1 := of_decide_eq_true z1
    have z2 := of_decide_eq_true z2
    refine ⟨_, rfl, .str z, .ty "str", .type "str", .type "str", true, rfl, .ty _, .base (.str z), kit_ty (by decide +kernel), _, rfl, itbF rfl ?_⟩
    refine ⟨_, rfl, z, rfl, lt1 _ (by omega), _, _, rfl, rfl, _, rfl, itbT (decide_eq_true (show (1 : Int) ≤ z.length by omega)) ⟨_, _, rfl, rfl, _, rfl, itbF (by rw [decide_eq_true (show (z.length : Int) ≤ 8 by omega)]; rfl) ?_⟩⟩
    refine ⟨_, rfl, z, rfl, fun D hD => ?_⟩
    refine lc_it walk_str (fun i H2 => Same H H2 ∧ H2 D = some (.lst ((List.replicate i true).map V.bl))) ⟨same_new hD, upd_same⟩ (fun _ _ _ _ => True.intro) ?_ ?_
    · rintro i x H2 H3 hi ⟨s2, h2⟩ ⟨rfl, c, hc, rfl⟩
      have hcm : c ∈ z.cps.toList := Array.mem_toList_iff.mpr (Array.mem_of_getElem? hc)
      have haz := List.all_eq_true.mp z3 c hcm
      unfold inAZ at haz
      rw [Bool.and_eq_true] at haz
      have hi8 : i < z.length := hi
      have fin : ∃ acc, H3 D = some (.lst acc) ∧ acc.length < sizeLine ∧ (Same H (upd H3 D (.lst (acc ++ [V.bl true]))) ∧ (upd H3 D (.lst (acc ++ [V.bl true]))) D = some (.lst ((List.replicate (i + 1) true).map V.bl))) :=
        ⟨_, h2, lt2 _ (by rw [List.length_map, List.length_replicate]; omega), s2.mut hD, by rw [upd_same, List.replicate_succ', List.map_append]; rfl⟩
      refine ⟨rfl, tyes ⟨_, rfl, _, _, rfl, rfl, _, rfl, ?_⟩⟩
      refine itbT haz.1 ⟨_, _, rfl, rfl, ?_⟩
      rw [haz.2]
      exact fin
    · rintro H2 ⟨s2, h2⟩
      exact ⟨D, _, rfl, sq h2, by show Q (.bl ((List.replicate z.cps.size true).all id)) H2; rw [show (List.replicate z.cps.size true).all id = true by simp]; exact q _ s2⟩
theorem ok_isSigns {f : Addr} {fd : FuncData} (T : Bk mg) (C : Cs mg) (D_is_sign : Def P w K mg base CX0 1 "is_sign" pV spSign) (F : Fun K "is_signs" "is_signs" sIsSigns f fd) : FnOk P w K mg base CX0 2 f fd pV spSigns := by
  have nd := scIsSigns.nd
  refine F.ok scIsSigns (fun vs H Q E h => ?_) (fun cdv A outer s H vs Q E hr h => ?_)
  · obtain ⟨a, ss, rfl, _⟩ := h
    rfl
  · obtain ⟨a, ss, rfl, ha, ho, q⟩ := h
    refine ⟨_, (pss_cons (ps_if (PW.pt (pw_or (pt_not (pt_val (pe_callB (call_isiK1 (K := K) rfl) (by rfl) T.isinstance PyProof.Rows.boot_isinstance (pa_cons (pv 0) (pa_cons (pe_bltn (v := .ty "tuple") rfl T.tuple PyProof.Rows.boot_tuple rfl) pa_nil))))) (pw_or1 (pt_cmpR op_gt (pe_callB (call_lenK (K := K) rfl) (by rfl) T.len PySem.boot_len (pa_cons (pv 0) pa_nil)) (pe_const C.MOST_SIGNS rfl) (nomark _)))))
  (pss_one (ps_ret pe_bl))
  pss_nil)
 (pss_cons (ps_set (i := 1) nd rfl (Or.inl rfl) pe_str)
 (pss_cons (ps_for PassesOwn.never rfl (pi_tupK (K := K) rfl (pv 0)) (pg_name (i := 2) nd rfl (Or.inl rfl))
  (pss_cons (ps_if (PW.pt (pw_or (pt_not (pt_val (pe_def D_is_sign (hr.mono (by decide)) rfl pass0 (pa_cons (pv 2) pa_nil)))) (pw_or1 (pt_cmpR op_le_str (pv 2) (pv 1) (nomark _)))))
  (pss_one (ps_ret pe_bl))
  pss_nil)
 (pss_one (ps_set (i := 1) nd rfl (Or.inl rfl) (pv 2)))))
 (pss_one (ps_ret pe_bl))))), ?_⟩
    unfold okSs at ho
    rw [Bool.and_eq_true] at ho
    have h6 := of_decide_eq_true ho.1
    refine ⟨_, rfl, .ref a, .ty "tuple", .type "tuple", .type "tuple", true, rfl, .ty _, .base (.tup ha), kit_ty (by decide +kernel), _, rfl, itbF rfl ?_⟩
    refine ⟨_, rfl, a, _, rfl, .inr (st ha), _, _, rfl, rfl, _, rfl, itbF (decide_eq_false (by rw [List.length_map]; omega)) ?_⟩
    refine ⟨_, rfl, a, rfl, ⟨_, st ha⟩, for_tup (K := K) (a := a) (xs := ss.map V.str) (fun i σ H1 => ∃ ah v2, σ = [some (.ref a), some (.str ah), v2] ∧ Same H H1 ∧ goSs ah (ss.drop i) = true) ?_ ?_ ?_ ?_⟩
    · exact ⟨"", none, rfl, fun _ _ h => h, ho.2⟩
    · rintro i σ H1 _ ⟨ah, v2, rfl, s1, _⟩
      exact st (s1 _ _ ha)
    · rintro i y σ H1 hy ⟨ah, v2, rfl, s1, hg⟩
      rw [List.getElem?_map] at hy
      cases he : ss[i]? with
      | none => rw [he] at hy; cases hy
      | some z =>
        rw [he] at hy
        obtain rfl := (Option.some.inj hy).symm
        have hi := lt_of_get he
        have e1 : ss.drop i = z :: ss.drop (i + 1) := by
          rw [List.drop_eq_getElem_cons hi]
          congr 1
          rw [List.getElem?_eq_getElem hi] at he
          exact Option.some.inj he
        rw [e1] at hg
        have hg' : (okS z && decide (ah.cps.toList < z.cps.toList) && goSs z (ss.drop (i + 1))) = true := hg
        rw [Bool.and_eq_true, Bool.and_eq_true] at hg'
        refine ⟨_, rfl, z, rfl, hg'.1.1, fun H2 s2 => ⟨_, rfl, itbF rfl ⟨_, rfl, _, rfl, _, _, rfl, rfl, _, rfl, itbF ?_ ⟨_, rfl, z, _, rfl, s1.trans s2, hg'.2⟩⟩⟩⟩
        rw [hg'.1.2]; rfl
    · rintro σ H1 ⟨ah, v2, rfl, s1, _⟩
      exact q _ s1
theorem ok_isNums {f : Addr} {fd : FuncData} (T : Bk mg) (D_is_number : Def P w K mg base CX0 2 "is_number" pV spNum) (F : Fun K "is_numbers" "is_numbers" sIsNums f fd) : FnOk P w K mg base CX0 3 f fd pV spNums := by
  have nd := scIsNums.nd
  refine F.ok scIsNums (fun vs H Q E h => ?_) (fun cdv A outer s H vs Q E hr h => ?_)
  · obtain ⟨a, ns, rfl, _⟩ := h
    rfl
  · obtain ⟨a, ns, rfl, ha, h1, hl, q⟩ := h
    refine ⟨_, (pss_one (ps_ret (pe_and (pe_callB (call_isiTK (K := K) rfl) (by rfl) T.isinstance PyProof.Rows.boot_isinstance (pa_cons (pv 0) (pa_cons (pe_tup (pa_cons (pe_bltn (v := .ty "list") rfl T.list PyProof.Rows.boot_list rfl) (pa_cons (pe_bltn (v := .ty "tuple") rfl T.tuple PyProof.Rows.boot_tuple rfl) pa_nil))) pa_nil))) (pe_one (pe_callB (cr_allK (K := K) rfl rfl) (by rfl) T.all PyProof.Rows.boot_all (pa_cons (pe_lc (own := [("number", 1)]) (g := gName 1) (tt := tYes) rfl nd (pi_tupK (K := K) rfl (pv 0)) (blkOk_by (own := [("number", 1)]) (N := nIsNums) (sc := defScope sIsNums) (by decide +kernel)) (fun _ _ _ _ _ => pg_name (i := 1) nd rfl (Or.inl rfl)) (fun _ _ _ _ _ => pts_nil) (fun _ _ _ _ _ => (pe_def D_is_number (hr.mono (by decide)) rfl pass0 (pa_cons (pv 1) pa_nil)))) pa_nil)))))), ?_⟩
    refine ⟨_, rfl, (by show 2 ≤ sizeLine; decide), fun tp ntp => ?_⟩
    have s1 := same_new (o := .tup [.ty "list", .ty "tuple"]) ntp
    refine ⟨.ref a, tp, [.ty "list", .ty "tuple"], .type "tuple", [.type "list", .type "tuple"], true, rfl, upd_same, .cons (.ty _) (.cons (.ty _) .nil), .base (.tup (s1 _ _ ha)), kit_seq (.tuple []), _, rfl, itbT rfl ?_⟩
    refine ⟨_, rfl, a, rfl, ⟨_, st (s1 _ _ ha)⟩, fun D hD => ?_⟩
    generalize upd H tp (.tup [.ty "list", .ty "tuple"]) = H1 at s1 hD
    refine lc_tup (K := K) (a := a) (xs := ns.map V.int) (fun i H2 => Same H1 H2 ∧ H2 D = some (.lst ((List.replicate i true).map V.bl)) ∧ i ≤ ns.length) ⟨same_new hD, upd_same, Nat.zero_le _⟩ (fun i H2 _ h => st (h.1 _ _ (s1 _ _ ha))) ?_ ?_
    · rintro i y H2 hy ⟨s2, h2, hi⟩
      obtain ⟨n, hn, rfl⟩ := getD_map hy
      exact ⟨rfl, tyes ⟨_, rfl, n, rfl, h1 n (List.mem_of_getElem? hn), _, h2, lt2 _ (by rw [List.length_map, List.length_replicate]; omega), s2.mut hD, by rw [upd_same, List.replicate_succ', List.map_append]; rfl, lt_of_get hn⟩⟩
    · rintro H2 ⟨s2, h2, _⟩
      exact ⟨D, _, rfl, sq h2, by show Q (.bl ((List.replicate (ns.map V.int).length true).all id)) H2; rw [show (List.replicate (ns.map V.int).length true).all id = true by simp]; exact q _ (s1.trans s2)⟩
end
end K1


set_option Elab.async false
set_option linter.all false
set_option maxRecDepth 100000
set_option maxHeartbeats 2000000
namespace K1
open PySem PySem.Spec PyProof.Rows L2 RZ StX
theorem eqv_str (a b : Str) : PyData.eqv (.str a) (.str b) = (a == b) := by simp [PyData.eqv]
def nS (ss : List Str) (s : Str) : List Str := ss.filter fun x => !decide (x = s)
/-! ### signs -/
def ltS (a b : Str) : Prop := a.cps.toList < b.cps.toList
theorem ltS_trans {a b c : Str} (h : ltS a b) (k : ltS b c) : ltS a c := List.lt_trans (α := Nat) h k
theorem ltS_asymm {a b : Str} (h : ltS a b) : ¬ ltS b a := List.lt_asymm (α := Nat) h
theorem str_ext {a b : Str} (h : a.cps.toList = b.cps.toList) : a = b := by
  cases a with | mk x =>
  cases b with | mk y =>
  congr 1
  exact Array.toList_inj.mp h
theorem ltS_total {a b : Str} (h : ¬ ltS a b) (k : ¬ ltS b a) : a = b := str_ext (List.le_antisymm (List.not_lt.mp k) (List.not_lt.mp h))
theorem leS_trans {a b c : Str} (h : ¬ ltS b a) (k : ¬ ltS c b) : ¬ ltS c a := by
  unfold ltS at *
  rw [List.not_lt] at *
  exact List.le_trans h k
instance (a b : Str) : Decidable (ltS a b) := inferInstanceAs (Decidable (a.cps.toList < b.cps.toList))
def Asc (ss : List Str) : Prop := ss.Pairwise ltS
def insS (s : Str) : List Str → List Str
  | [] => [s]
  | x :: r => if ltS s x then s :: x :: r else x :: insS s r
theorem insS_perm (s : Str) : ∀ ss : List Str, (insS s ss).Perm (s :: ss)
  | [] => .refl _
  | x :: r => by
    unfold insS
    split
    · exact .refl _
    · exact ((insS_perm s r).cons x).trans (.swap s x r)
theorem insS_asc {s : Str} : ∀ {ss : List Str}, Asc ss → s ∉ ss → Asc (insS s ss)
  | [], _, _ => List.pairwise_singleton _ _
  | x :: r, h, hn => by
    unfold insS
    have h' := List.pairwise_cons.mp h
    split
    · rename_i c
      refine List.pairwise_cons.mpr ⟨fun y hy => ?_, h⟩
      rcases List.mem_cons.mp hy with rfl | hy
      · exact c
      · exact ltS_trans c (h'.1 y hy)
    · rename_i c
      refine List.pairwise_cons.mpr ⟨fun y hy => ?_, insS_asc h'.2 fun z => hn (List.mem_cons_of_mem _ z)⟩
      rcases List.mem_cons.mp ((insS_perm s r).mem_iff.mp hy) with rfl | hy
      · by_cases k : ltS x y
        · exact k
        · exact absurd (ltS_total k c) fun e => hn (by rw [e]; exact List.mem_cons_self)
      · exact h'.1 y hy
theorem rising_pw : ∀ (r : List Str) (x : Str), risingS x r = true → (x :: r).Pairwise fun a b => ¬ ltS b a
  | [], x, _ => List.pairwise_singleton _ _
  | y :: r, x, h => by
    have h : (!ltCps y.cps.toList x.cps.toList && risingS y r) = true := h
    rw [ltCps_eq, Bool.and_eq_true, Bool.not_eq_true', decide_eq_false_iff_not] at h
    have ih := rising_pw r y h.2
    refine List.pairwise_cons.mpr ⟨fun z hz => ?_, ih⟩
    rcases List.mem_cons.mp hz with rfl | hz
    · exact h.1
    · exact leS_trans h.1 ((List.pairwise_cons.mp ih).1 z hz)
theorem sorted_pw {ys : List Str} (h : sortedS ys = true) : ys.Pairwise fun a b => ¬ ltS b a := by
  cases ys with
  | nil => exact .nil
  | cons x r => exact rising_pw r x h
/-- what sorted tells of signs and a new one -/
theorem sorted_ins {ss ys : List Str} {s : Str} (ha : Asc ss) (hn : s ∉ ss) (hp : ys.Perm (ss ++ [s])) (h : sortedS ys = true) : ys = insS s ss := by
  have p2 : ys.Perm (insS s ss) := (hp.trans List.perm_append_comm).trans (insS_perm s ss).symm
  refine List.Perm.eq_of_pairwise (le := fun a b => decide (¬ ltS b a)) (fun a b _ _ x y => ?_) ?_ ?_ p2
  · exact ltS_total (of_decide_eq_true y) (of_decide_eq_true x)
  · exact (sorted_pw h).imp fun k => decide_eq_true k
  · exact (insS_asc ha hn).imp fun k => decide_eq_true (ltS_asymm k)
/-! what okSs says -/
theorem goSs_mem : ∀ {a : Str} {ss : List Str}, goSs a ss = true → (∀ s ∈ ss, okS s = true ∧ ltS a s) ∧ Asc ss
  | a, [], _ => ⟨fun s hs => (by cases hs), List.Pairwise.nil⟩
  | a, s :: r, h => by
    have h : (okS s && decide (ltS a s) && goSs s r) = true := h
    rw [Bool.and_eq_true, Bool.and_eq_true] at h
    obtain ⟨h1, h2⟩ := goSs_mem h.2
    have lt := of_decide_eq_true h.1.2
    refine ⟨fun x hx => ?_, List.pairwise_cons.mpr ⟨fun x hx => (h1 x hx).2, h2⟩⟩
    rcases List.mem_cons.mp hx with rfl | hx
    · exact ⟨h.1.1, lt⟩
    · exact ⟨(h1 x hx).1, ltS_trans lt (h1 x hx).2⟩
theorem goSs_of : ∀ {a : Str} {ss : List Str}, (∀ s ∈ ss, okS s = true ∧ ltS a s) → Asc ss → goSs a ss = true
  | a, [], _, _ => rfl
  | a, s :: r, h, k => by
    have h0 := h s List.mem_cons_self
    have k' := List.pairwise_cons.mp k
    show (okS s && decide (ltS a s) && goSs s r) = true
    rw [h0.1, decide_eq_true h0.2, goSs_of (fun x hx => ⟨(h x (List.mem_cons_of_mem _ hx)).1, k'.1 x hx⟩) k'.2]
    rfl
theorem okS_pos {s : Str} (h : okS s = true) : ltS "" s := by
  unfold okS at h
  rw [Bool.and_eq_true, Bool.and_eq_true] at h
  have h1 := of_decide_eq_true h.1.1
  show ([] : List Nat) < s.cps.toList
  cases e : s.cps.toList with
  | nil =>
    exfalso
    have : s.length = 0 := by
      show s.cps.size = 0
      rw [← Array.length_toList, e]; rfl
    omega
  | cons c r => exact List.nil_lt_cons c r
structure OkSs (ss : List Str) : Prop where
  len : ss.length ≤ 6
  ok : ∀ s ∈ ss, okS s = true
  asc : Asc ss
theorem okSs_iff {ss : List Str} : okSs ss = true ↔ OkSs ss := by
  unfold okSs
  rw [Bool.and_eq_true]
  constructor
  · rintro ⟨h1, h2⟩
    obtain ⟨a, b⟩ := goSs_mem h2
    exact ⟨of_decide_eq_true h1, fun s hs => (a s hs).1, b⟩
  · rintro ⟨h1, h2, h3⟩
    exact ⟨decide_eq_true h1, goSs_of (fun s hs => ⟨h2 s hs, okS_pos (h2 s hs)⟩) h3⟩
def wG (ss : List Str) (s : Str) : List Str := if s ∈ ss ∨ ss.length = 6 then ss else insS s ss
theorem wG_ok {ss : List Str} {s : Str} (h : OkSs ss) (hs : okS s = true) : OkSs (wG ss s) := by
  unfold wG
  split
  · exact h
  · rename_i c
    have c1 : s ∉ ss := fun z => c (.inl z)
    have c2 : ss.length ≠ 6 := fun z => c (.inr z)
    have p := insS_perm s ss
    refine ⟨by rw [p.length_eq]; have := h.len; simp only [List.length_cons]; omega, fun x hx => ?_, insS_asc h.asc c1⟩
    rcases List.mem_cons.mp (p.mem_iff.mp hx) with rfl | hx
    · exact hs
    · exact h.ok x hx
theorem nS_ok {ss : List Str} {s : Str} (h : OkSs ss) : OkSs (nS ss s) :=
  ⟨Nat.le_trans (List.length_filter_le _ _) h.len, fun x hx => h.ok x (List.mem_filter.mp hx).1, List.Pairwise.filter _ h.asc⟩
theorem strOk_of {s : Str} (h : okS s = true) : PyData.strOk s = true := by
  unfold okS at h
  rw [Bool.and_eq_true] at h
  show s.cps.all (fun c => decide (c < 1114112)) = true
  rw [← Array.all_toList, List.all_eq_true]
  intro c hc
  have := List.all_eq_true.mp h.2 c hc
  unfold inAZ at this
  rw [Bool.and_eq_true, Bool.not_eq_true', Bool.not_eq_true', decide_eq_false_iff_not, decide_eq_false_iff_not] at this
  refine decide_eq_true ?_
  have h2 : ¬ (122 < c) := fun z => this.2 (show ([122] : List Nat) < [c] from List.cons_lt_cons_iff.mpr (.inl z))
  omega
theorem g_lay : ∀ {ss : List Str}, (∀ s ∈ ss, okS s = true) → PyData.canLayAll0 (ss.map PyData.str) = true ∧ PyData.depthAll (ss.map PyData.str) = 0
  | [], _ => ⟨rfl, rfl⟩
  | s :: r, h => by
    obtain ⟨h1, h2⟩ := g_lay fun x hx => h x (List.mem_cons_of_mem _ hx)
    constructor
    · show (PyData.strOk s && PyData.canLayAll0 (r.map PyData.str)) = true
      rw [h1, strOk_of (h s List.mem_cons_self)]; rfl
    · show max 0 (PyData.depthAll (r.map PyData.str)) = 0
      rw [h2]; rfl
theorem g_shape {ss : List Str} (h : ∀ s ∈ ss, okS s = true) : SeqAt.shaped (.tuple (ss.map PyData.str)) = true := by
  obtain ⟨h1, h2⟩ := g_lay h
  unfold SeqAt.shaped
  have e1 : PyData.canLay0 (.tuple (ss.map PyData.str)) = true := h1
  have e2 : PyData.depth (.tuple (ss.map PyData.str)) ≤ 64 := by
    show PyData.depthAll (ss.map PyData.str) + 1 ≤ 64
    rw [h2]; omega
  rw [e1, decide_eq_true e2]; rfl
theorem g_eqv : ∀ xs ys : List Str, PyData.eqv (.tuple (xs.map PyData.str)) (.tuple (ys.map PyData.str)) = decide (xs = ys) := by
  have h : ∀ xs ys : List Str, PyData.eqvAll (xs.map PyData.str) (ys.map PyData.str) = decide (xs = ys) := by
    intro xs
    induction xs with
    | nil => intro ys; cases ys <;> simp [PyData.eqvAll]
    | cons x r ih =>
      intro ys
      cases ys with
      | nil => simp [PyData.eqvAll]
      | cons y t =>
        show (PyData.eqv (.str x) (.str y) && PyData.eqvAll (r.map PyData.str) (t.map PyData.str)) = decide (x :: r = y :: t)
        rw [ih, eqv_str]
        by_cases e : x = y
        · subst e; by_cases e2 : r = t <;> simp [e2]
        · rw [beq_eq_false_iff_ne.mpr e]; simp [e]
  intro xs ys
  exact h xs ys
end K1


set_option Elab.async false
set_option linter.all false
set_option maxRecDepth 100000
set_option maxHeartbeats 2000000
namespace K1
open PySem PySem.Spec PyProof.Rows L2 RZ StX
abbrev sWith : Stmt := st__with_sign
abbrev sWout : Stmt := st__without_sign
abbrev sCkNums : Stmt := st__check_numbers
abbrev nWith : List Str := ["signs", "sign"]
theorem scWith : FnScope nWith nWith (defScope sWith) := ⟨rfl, rfl, rfl, by decide +kernel, rfl, by decide +kernel, by decide +kernel⟩
abbrev nWout : List Str := ["signs", "sign", "old"]
theorem scWout : FnScope nWout nWith (defScope sWout) := ⟨rfl, rfl, rfl, by decide +kernel, rfl, by decide +kernel, by decide +kernel⟩
abbrev nCkNums : List Str := ["numbers"]
theorem scCkNums : FnScope nCkNums nCkNums (defScope sCkNums) := ⟨rfl, rfl, rfl, by decide +kernel, rfl, by decide +kernel, by decide +kernel⟩
theorem inV_strs (s : Str) : ∀ ss : List Str, inV (.str s) (ss.map V.str) = decide (s ∈ ss)
  | [] => by simp [inV]
  | m :: r => by
    have ih := inV_strs s r
    unfold inV at ih ⊢
    rw [List.map_cons, List.any_cons, ih]
    show ((m == s) || _) = _
    by_cases e : m = s
    · subst e; simp
    · have e' : ¬ s = m := fun h => e h.symm
      rw [beq_eq_false_iff_ne.mpr e]; simp [e']
theorem flat_strs : ∀ ss : List Str, (ss.map V.str).all flatV = true
  | [] => rfl
  | m :: r => by rw [List.map_cons, List.all_cons, flat_strs r]; rfl
section
variable {X : Cx} {K : PySem.W.Frag}
theorem cr_sortedSK (h : X.K = K) : CallR X (.builtin "sorted") (rSortedS K) := by subst h; exact cr_sortedS
/-- set(numbers), a tuple of ints -/
theorem cr_setTup (hc : X.calm = true) : CallR X (.type "set") (fun xs H Q => ∃ (l : Addr) (ns : List Int), xs = [.ref l] ∧ SqT X.K H l (ns.map V.int) ∧ ns.length ≤ 1000 ∧ ∀ p n, H p = none → Q (.ref p) (upd H p (SetO X.w p (fun j => decide (j ∈ ns)) n))) := by
  intro pins s σ H xs us Q I r h
  obtain ⟨l, ns, rfl, hq, hl, q⟩ := h
  cases r with
  | cons r rr =>
    cases rr
    cases r
    obtain ⟨its, rv, pt, hz⟩ := I.tuple hq
    have hi : IntsAre its.toArray.toList ns := ints_of_vals rv
    refine call_set_tupI ns (I.ok.hd hc) (show s.heap.IsTuple l its.toArray from pt) hi (by unfold scanBound; omega) fun h' tk c R1 hcn k => ?_
    exact ⟨.ref _, upd H s.heap.objs.size (SetO X.w s.heap.objs.size (fun j => decide (j ∈ ns)) c), I.laid (t' := tk) k (Nat.le_refl _) (setO_new R1), rfl, q _ _ (I.hok.fresh (Nat.le_refl _))⟩
end
theorem cr_setTupW {X : Cx} {w : World} {K : PySem.W.Frag} (hw : X.w = w) (hK : X.K = K) (hc : X.calm = true) : CallR X (.type "set") (fun xs H Q => ∃ (l : Addr) (ns : List Int), xs = [.ref l] ∧ SqT K H l (ns.map V.int) ∧ ns.length ≤ 1000 ∧ ∀ p n, H p = none → Q (.ref p) (upd H p (SetO w p (fun j => decide (j ∈ ns)) n))) := by subst hw; subst hK; exact cr_setTup hc
def spWith : Sp := fun vs H Q _ => ∃ (a : Addr) (ss : List Str) (s : Str), vs = [.ref a, .str s] ∧ H a = some (.tup (ss.map V.str)) ∧ OkSs ss ∧ okS s = true ∧ ∀ b H', Same H H' → H' b = some (.tup ((wG ss s).map V.str)) → Q (.ref b) H'
def spWout : Sp := fun vs H Q _ => ∃ (a : Addr) (ss : List Str) (s : Str), vs = [.ref a, .str s] ∧ H a = some (.tup (ss.map V.str)) ∧ OkSs ss ∧ okS s = true ∧ ∀ b H', Same H H' → H' b = some (.tup ((nS ss s).map V.str)) → Q (.ref b) H'
def spCkNums : Sp := fun vs H Q _ => ∃ (a : Addr) (ns : List Int), vs = [.ref a] ∧ H a = some (.tup (ns.map V.int)) ∧ (∀ n ∈ ns, 1 ≤ n) ∧ ns.length ≤ 1000 ∧ ∀ H', Same H H' → Q .non H'
section
variable {P : Program} {w : World} {K : PySem.W.Frag} {mg : Str → Option Value} {base : Heap}
theorem ok_with {f : Addr} {fd : FuncData} (T : Bk mg) (C : Cs mg) (F : Fun K "_with_sign" "_with_sign" sWith f fd) : FnOk P w K mg base CX0 1 f fd nWith spWith := by
  have nd := scWith.nd
  refine F.ok scWith (fun vs H Q E h => ?_) (fun cdv A outer s H vs Q E hr h => ?_)
  · obtain ⟨a, ss, z, rfl, _⟩ := h
    rfl
  · obtain ⟨a, ss, z, rfl, ha, hu, hz, q⟩ := h
    have hl := hu.len
    refine ⟨_, (pss_cons (ps_if (PW.pt (pw_or (pt_cmpR (op_in_seqK (K := K) rfl) (pv 1) (pv 0) (by rfl)) (pw_or1 (pt_cmpR op_eq (pe_callB (call_lenK (K := K) rfl) (by rfl) T.len PySem.boot_len (pa_cons (pv 0) pa_nil)) (pe_const C.MOST_SIGNS rfl) (nomark _)))))
  (pss_one (ps_ret (pv 0)))
  pss_nil)
 (pss_one (ps_ret (pe_callTy (call_tuple_ofK (K := K) rfl) (by rfl) T.tuple PyProof.Rows.boot_tuple (pa_cons (pe_callB (cr_sortedSK (K := K) rfl) (by rfl) T.sorted PyProof.Rows.boot_sorted (pa_cons (pe_lst (pa_star (pv 0) (pa_cons (pv 1) pa_nil))) pa_nil)) pa_nil))))), ?_⟩
    refine ⟨_, rfl, _, rfl, a, _, rfl, .inr (st ha), rfl, flat_strs _, _, rfl, ?_⟩
    show (if inV (.str z) (ss.map V.str) = true then _ else _)
    rw [inV_strs]
    by_cases hm : z ∈ ss
    · refine itbT (decide_eq_true hm) (itbT rfl ⟨_, rfl, q a H (fun _ _ h => h) ?_⟩)
      rw [ha]
      unfold wG
      rw [if_pos (.inl hm)]
    · refine itbF (decide_eq_false hm) ⟨_, rfl, a, _, rfl, .inr (st ha), rfl, _, rfl, ?_⟩
      by_cases h6 : ss.length = 6
      · refine itbT (decide_eq_true (by rw [List.length_map, h6]; rfl)) ⟨_, rfl, q a H (fun _ _ h => h) ?_⟩
        rw [ha]
        unfold wG
        rw [if_pos (.inr h6)]
      refine itbF (decide_eq_false fun h => ?_) ?_
      · have := V.int.inj h
        rw [List.length_map] at this
        omega
      · refine ⟨_, rfl, a, _, rfl, .inl (st ha), .str z, rfl, lt1 _ (by rw [List.length_append, List.length_map]; show ss.length + 1 ≤ 100000; omega), fun l nl => ?_⟩
        have e : ss.map V.str ++ [V.str z] = (ss ++ [z]).map V.str := by rw [List.map_append]; rfl
        have s1 := same_new (o := .lst (ss.map V.str ++ [V.str z])) nl
        refine ⟨l, ss ++ [z], rfl, sq (by rw [upd_same, e]), by rw [List.length_append]; show ss.length + 1 < 64; omega, fun ys p hp hs np => ?_⟩
        have hy : ys = wG ss z := by
          unfold wG
          rw [if_neg (fun h => h.elim hm h6)]
          exact sorted_ins hu.asc hm hp hs
        refine ⟨p, _, rfl, .inl ⟨sq upd_same, fun b nb => ?_⟩⟩
        exact q b _ ((s1.new np).new nb) (by rw [upd_same, hy])
theorem ok_wout {f : Addr} {fd : FuncData} (T : Bk mg) (F : Fun K "_without_sign" "_without_sign" sWout f fd) : FnOk P w K mg base CX0 1 f fd nWith spWout := by
  have nd := scWout.nd
  refine F.ok scWout (fun vs H Q E h => ?_) (fun cdv A outer s H vs Q E hr h => ?_)
  · obtain ⟨a, ss, z, rfl, _⟩ := h
    rfl
  · obtain ⟨a, ss, z, rfl, ha, hu, hz, q⟩ := h
    have hl := hu.len
    refine ⟨_, (pss_one (ps_ret (pe_callTy (call_tuple_ofK (K := K) rfl) (by rfl) T.tuple PyProof.Rows.boot_tuple (pa_cons (pe_lc (own := [("old", 2)]) (g := gName 2) rfl nd (pi_tupK (K := K) rfl (pv 0)) (blkOk_by (own := [("old", 2)]) (N := nWout) (sc := defScope sWout) (by decide +kernel)) (fun _ _ _ _ _ => pg_name (i := 2) nd rfl (Or.inl rfl)) (fun _ _ _ _ _ => pts_one (pt_cmpR op_ne (pv 2) (pv 1) (nomark _))) (fun _ _ _ _ _ => (pv 2))) pa_nil)))), ?_⟩
    refine ⟨_, rfl, a, rfl, ⟨_, st ha⟩, fun D hD => ?_⟩
    refine lc_tup (K := K) (a := a) (xs := ss.map V.str) (fun i H2 => Same H H2 ∧ H2 D = some (.lst ((nS (ss.take i) z).map V.str))) ⟨same_new hD, upd_same⟩ (fun i H2 _ h => st (h.1 _ _ ha)) ?_ ?_
    · rintro i y H2 hy ⟨s2, h2⟩
      rw [List.getElem?_map] at hy
      cases he : ss[i]? with
      | none => rw [he] at hy; cases hy
      | some x =>
        rw [he] at hy
        obtain rfl := (Option.some.inj hy).symm
        refine ⟨rfl, _, rfl, _, rfl, rfl, _, rfl, ?_⟩
        have hlen : (nS (ss.take i) z).length ≤ 6 := Nat.le_trans (List.length_filter_le _ _) (by rw [List.length_take]; omega)
        have e1 : nS (ss.take (i + 1)) z = nS (ss.take i) z ++ (if x = z then [] else [x]) := by
          unfold nS
          rw [take_more he, List.filter_append]
          by_cases c : x = z <;> simp [c]
        by_cases c : x = z
        · refine itbF (by rw [c]; simp) ?_
          rw [if_pos c, List.append_nil] at e1
          exact ⟨s2, by rw [e1]; exact h2⟩
        · refine itbT (by rw [decide_eq_false (fun h => c (V.str.inj h))]; rfl) ⟨_, rfl, _, h2, lt2 _ (by rw [List.length_map]; omega), s2.mut hD, ?_⟩
          rw [upd_same, e1, if_neg c, List.map_append]; rfl
    · rintro H2 ⟨s2, h2⟩
      rw [List.length_map, List.take_length] at h2
      exact ⟨D, _, rfl, .inl ⟨sq h2, fun b nb => q b _ (s2.new nb) upd_same⟩⟩
theorem ok_ckNums {f : Addr} {fd : FuncData} (D_is_numbers : Def P w K mg base CX0 3 "is_numbers" pV spNums) (F : Fun K "_check_numbers" "_check_numbers" sCkNums f fd) : FnOk P w K mg base CX0 4 f fd nCkNums spCkNums := by
  refine F.ok scCkNums (fun vs H Q E h => ?_) (fun cdv A outer s H vs Q E hr h => ?_)
  · obtain ⟨a, ns, rfl, _⟩ := h
    rfl
  · obtain ⟨a, ns, rfl, ha, h1, hl, q⟩ := h
    refine ⟨_, (pss_one (ps_if (pt_not (pt_val (pe_def D_is_numbers (hr.mono (by decide)) rfl pass0 (pa_cons (pv 0) pa_nil)))) pss_any pss_nil)), ?_⟩
    exact ⟨_, rfl, a, ns, rfl, ha, h1, hl, fun H' s' => ⟨_, rfl, itbF rfl (q H' s')⟩⟩
end
end K1


set_option Elab.async false
set_option linter.all false
set_option maxRecDepth 100000
set_option maxHeartbeats 2000000
namespace K1
open PySem PySem.Spec PyProof.Rows L2 RZ StX
/-! ### methods -/
structure MDef (P : Program) (w : World) (K : PySem.W.Frag) (mg : Str → Option Value) (base : Heap) (CX : CXT) (k : Nat) (C : Addr) (m : Str) (ps : List Str) (sp : Sp) : Prop where
  ex : ∃ (f : Addr) (fd : FuncData), Meth K C m f ∧ Binds K fd ps [] ∧ FnOk P w K mg base CX k f fd ps sp
section
variable {X : Cx} {CX : CXT} {k : Nat} {ps : List Str} {sp : Sp} {E : XK} {m : Str} {pos apos : Pos} {o e : Expr} {es : List Expr} {ta : TE} {t : TA} {C : Addr}
theorem pe_mdef {pl : Sem Bool} (D : MDef X.prog X.w X.K X.mg X.base CX k C m ps sp) (c : Cls X.K C) (hr : Room k X.A) (hx : Passes CX X E) (he : PE X o ta) (ha : PA X (e :: es) t)
    (hst : starEach (e :: es) X.env = (false, eval e X.env) :: starEach es X.env := by rfl) (hpl : (backTo pos (starEach es X.env)).any (·.1) = false := by rfl)
    (ht : eval (.Call (.Attribute o m apos) (e :: es) [] pos) X.env = (do
      let ov ← eval o X.env
      standAt apos.atName
      let (f, first) ← holding [ov] (getMethod ov m pl)
      callWith pos f first (backTo pos (starEach (e :: es) X.env)) (backToKw pos (keywordEach [] X.env))) := by rfl) :
    PE X (.Call (.Attribute o m apos) (e :: es) [] pos) (tMeth C m sp [] E ta t) := by
  obtain ⟨f, fd, hm, hb, F⟩ := D.ex
  exact pe_meth he c hm F hr hb .nil hx ha hst hpl ht
theorem pe_mdef0 {pl : Sem Bool} (D : MDef X.prog X.w X.K X.mg X.base CX k C m ps sp) (c : Cls X.K C) (hr : Room k X.A) (hx : Passes CX X E) (he : PE X o ta)
    (ht : eval (.Call (.Attribute o m apos) [] [] pos) X.env = (do
      let ov ← eval o X.env
      standAt apos.atName
      let (f, first) ← holding [ov] (getMethod ov m pl)
      callWith pos f first (backTo pos (starEach [] X.env)) (backToKw pos (keywordEach [] X.env))) := by rfl) :
    PE X (.Call (.Attribute o m apos) [] [] pos) (tMeth C m sp [] E ta tNil) := by
  obtain ⟨f, fd, hm, hb, F⟩ := D.ex
  exact pe_meth0 he c hm F hr hb .nil hx ht
end
/-! ### folders -/
def flds (a l n m g c : V) : List (Str × V) := [("_age", a), ("_letters", l), ("_next_number", n), ("_mark", m), ("_gone", g), ("_cut", c)]
section
variable {a l n m g c y : V}
theorem fl_age : (flds a l n m g c).lookup ("_age" : Str) = some a := by rfl
theorem fl_let : (flds a l n m g c).lookup ("_letters" : Str) = some l := by rfl
theorem fl_nx : (flds a l n m g c).lookup ("_next_number" : Str) = some n := by rfl
theorem fl_mk : (flds a l n m g c).lookup ("_mark" : Str) = some m := by rfl
theorem fl_gone : (flds a l n m g c).lookup ("_gone" : Str) = some g := by rfl
theorem fl_cut : (flds a l n m g c).lookup ("_cut" : Str) = some c := by rfl
theorem fl_no {x : Str} (h : (["_age", "_letters", "_next_number", "_mark", "_gone", "_cut"] : List Str).all (fun z => !(x == z)) = true) : (flds a l n m g c).lookup x = none := by
  simp only [List.all_cons, List.all_nil, Bool.and_eq_true, Bool.not_eq_true'] at h
  obtain ⟨h1, h2, h3, h4, h5, h6, _⟩ := h
  unfold flds
  simp only [List.lookup, h1, h2, h3, h4, h5, h6]
theorem pu_let : putF "_letters" y (flds a l n m g c) = flds a y n m g c := by rfl
theorem pu_nx : putF "_next_number" y (flds a l n m g c) = flds a l y m g c := by rfl
theorem pu_mk : putF "_mark" y (flds a l n m g c) = flds a l n y g c := by rfl
theorem pu_gone : putF "_gone" y (flds a l n m g c) = flds a l n m y c := by rfl
theorem pu_cut : putF "_cut" y (flds a l n m g c) = flds a l n m g y := by rfl
theorem pu_all : putF "_cut" c (putF "_gone" g (putF "_mark" m (putF "_next_number" n (putF "_letters" l (putF "_age" a []))))) = flds a l n m g c := by rfl
end
structure Lt where
  n : Int
  b : Int
  s : List Str
  m : Int
structure Fo where
  age : Int
  ls : List Lt
  nx : Int
  mr : Int
  go : List (Int × Int)
  ct : Int
def ltD (l : Lt) : PyData := .tuple [.int l.n, .int l.b, .tuple (l.s.map PyData.str), .int l.m]
def goD (g : Int × Int) : PyData := .tuple [.int g.1, .int g.2]
def lsD (ls : List Lt) : PyData := .tuple (ls.map ltD)
def gsD (go : List (Int × Int)) : PyData := .tuple (go.map goD)
def FoAt (C : Addr) (H : Hp) (p : Addr) (F : Fo) : Prop := ∃ dx tl tg, H p = some (.ins C dx (flds (.int F.age) (.ref tl) (.int F.nx) (.int F.mr) (.ref tg) (.int F.ct))) ∧ Dv H (.ref tl) (lsD F.ls) ∧ Dv H (.ref tg) (gsD F.go)
theorem FoAt.same {C p : Addr} {H H' : Hp} {F : Fo} (h : FoAt C H p F) (s : Same H H') : FoAt C H' p F := let ⟨dx, tl, tg, a, b, c⟩ := h; ⟨dx, tl, tg, s _ _ a, b.same s, c.same s⟩
/-- what the class must have -/
structure ClT (K : PySem.W.Frag) (mg : Str → Option Value) (C : Addr) : Prop where
  cl : Cls K C
  gC : mg "Folder" = some (.ref C)
  nA : NoAttr K C "_age"
  nL : NoAttr K C "_letters"
  nN : NoAttr K C "_next_number"
  nM : NoAttr K C "_mark"
  nG : NoAttr K C "_gone"
  nC : NoAttr K C "_cut"
def mS (i : Nat) : Stmt := inClass st_Folder i
abbrev sInit : Stmt := mS 0
abbrev sLetters : Stmt := mS 3
abbrev sNext : Stmt := mS 4
abbrev sMark : Stmt := mS 5
abbrev sGone : Stmt := mS 6
abbrev sApp : Stmt := mS 8
abbrev sCopied : Stmt := mS 14
abbrev nInit : List Str := ["self", "age"]
theorem scInit : FnScope nInit nInit (defScope sInit) := ⟨rfl, rfl, rfl, by decide +kernel, rfl, by decide +kernel, by decide +kernel⟩
abbrev nSelf : List Str := ["self"]
theorem scLetters : FnScope nSelf nSelf (defScope sLetters) := ⟨rfl, rfl, rfl, by decide +kernel, rfl, by decide +kernel, by decide +kernel⟩
theorem scNext : FnScope nSelf nSelf (defScope sNext) := ⟨rfl, rfl, rfl, by decide +kernel, rfl, by decide +kernel, by decide +kernel⟩
theorem scMark : FnScope nSelf nSelf (defScope sMark) := ⟨rfl, rfl, rfl, by decide +kernel, rfl, by decide +kernel, by decide +kernel⟩
theorem scGone : FnScope nSelf nSelf (defScope sGone) := ⟨rfl, rfl, rfl, by decide +kernel, rfl, by decide +kernel, by decide +kernel⟩
abbrev nApp : List Str := ["self", "body", "signs", "folder"]
abbrev pApp : List Str := ["self", "body", "signs"]
theorem scApp : FnScope nApp pApp (defScope sApp) := ⟨rfl, rfl, rfl, by decide +kernel, rfl, by decide +kernel, by decide +kernel⟩
abbrev nCopied : List Str := ["self", "folder"]
theorem scCopied : FnScope nCopied nSelf (defScope sCopied) := ⟨rfl, rfl, rfl, by decide +kernel, rfl, by decide +kernel, by decide +kernel⟩
def fNew (a : Int) : Fo := ⟨a, [], 1, 0, [], 0⟩
def spInit (C : Addr) : Sp := fun vs H Q _ => ∃ (p dx : Addr) (a : Int), vs = [.ref p, .int a] ∧ H p = some (.ins C dx []) ∧ 1 ≤ a ∧
  ∀ H' tl tg, (∀ b o, b ≠ p → H b = some o → H' b = some o) → H' p = some (.ins C dx (flds (.int a) (.ref tl) (.int 1) (.int 0) (.ref tg) (.int 0))) → H' tl = some (.tup []) → H' tg = some (.tup []) → Q .non H'
def spLetters (C : Addr) : Sp := fun vs H Q _ => ∃ (p : Addr) (F : Fo), vs = [.ref p] ∧ FoAt C H p F ∧ ∀ l H', Same H H' → H l = none → Dv H' (.ref l) (.list (F.ls.map ltD)) → Q (.ref l) H'
def spGone (C : Addr) : Sp := fun vs H Q _ => ∃ (p : Addr) (F : Fo), vs = [.ref p] ∧ FoAt C H p F ∧ ∀ l H', Same H H' → H l = none → Dv H' (.ref l) (.list (F.go.map goD)) → Q (.ref l) H'
def spNext (C : Addr) : Sp := fun vs H Q _ => ∃ (p : Addr) (F : Fo), vs = [.ref p] ∧ FoAt C H p F ∧ Q (.int F.nx) H
def spMark (C : Addr) : Sp := fun vs H Q _ => ∃ (p : Addr) (F : Fo), vs = [.ref p] ∧ FoAt C H p F ∧ Q (.int F.mr) H
def spCopied (C : Addr) : Sp := fun vs H Q _ => ∃ (p dx tl tg : Addr) (a n m c : Int), vs = [.ref p] ∧ H p = some (.ins C dx (flds (.int a) (.ref tl) (.int n) (.int m) (.ref tg) (.int c))) ∧ 1 ≤ a ∧
  ∀ q dq H', Same H H' → H q = none → H' q = some (.ins C dq (flds (.int a) (.ref tl) (.int n) (.int m) (.ref tg) (.int c))) → Q (.ref q) H'
def fApp (F : Fo) (b : Int) (s : List Str) : Fo := { F with ls := F.ls ++ [⟨F.nx, b, s, F.mr + 1⟩], nx := F.nx + 1, mr := F.mr + 1 }
def spApp (C : Addr) : Sp := fun vs H Q _ => ∃ (p sg : Addr) (F : Fo) (b : Int) (ss : List Str), vs = [.ref p, .int b, .ref sg] ∧ FoAt C H p F ∧ 1 ≤ F.age ∧ 0 ≤ b ∧ H sg = some (.tup (ss.map V.str)) ∧ OkSs ss ∧ F.ls.length ≤ 1000 ∧
  ∀ q H', Same H H' → H q = none → FoAt C H' q (fApp F b ss) → Q (.ref q) H'
theorem dv_strs {H : Hp} : ∀ ss : List Str, DvA H (ss.map V.str) (ss.map PyData.str)
  | [] => .nil
  | s :: r => .cons (.str s) (dv_strs r)
section
variable {P : Program} {w : World} {K : PySem.W.Frag} {mg : Str → Option Value} {base : Heap} {C : Addr}
theorem ok_init {f : Addr} {fd : FuncData} (t : ClT K mg C) (D_is_number : Def P w K mg base CX0 2 "is_number" pV spNum) (F : Fun K "__init__" "Folder.__init__" sInit f fd) : FnOk P w K mg base CX0 3 f fd nInit (spInit C) := by
  refine F.ok scInit (fun vs H Q E h => ?_) (fun cdv A outer s H vs Q E hr h => ?_)
  · obtain ⟨p, dx, a, rfl, _⟩ := h
    rfl
  · obtain ⟨p, dx, a, rfl, hp, ha, q⟩ := h
    refine ⟨_, pss_cons (ps_if (pt_not (pt_val (pe_def D_is_number (hr.mono (by decide)) rfl pass0 (pa_cons (pv 1) pa_nil)))) pss_any pss_nil)
 (pss_cons (ps_fld (pv 0) (pv 1) rfl)
 (pss_cons (ps_fld (pv 0) (pe_tup pa_nil) rfl)
 (pss_cons (ps_fld (pv 0) pe_int rfl)
 (pss_cons (ps_fld (pv 0) pe_int rfl)
 (pss_cons (ps_fld (pv 0) (pe_tup pa_nil) rfl)
 (pss_one (ps_fld (pv 0) pe_int rfl))))))), ?_⟩
    refine ⟨_, rfl, a, rfl, ha, _, rfl, itbF rfl ?_⟩
    refine ⟨_, rfl, _, rfl, p, C, dx, [], rfl, hp, t.cl, t.nA, by show 0 < 1000; decide, ?_⟩
    refine ⟨Nat.zero_le _, fun tl ntl => ?_⟩
    have n1 : p ≠ tl := ne_of_none (show (upd H p (.ins C dx (putF "_age" (.int a) []))) p = some _ from upd_same) ntl
    refine ⟨_, rfl, p, C, dx, _, rfl, (by rw [upd_ne n1]; exact upd_same), t.cl, t.nL, by show 1 < 1000; decide, ?_⟩
    refine ⟨_, rfl, p, C, dx, _, rfl, upd_same, t.cl, t.nN, by show 2 < 1000; decide, ?_⟩
    refine ⟨_, rfl, p, C, dx, _, rfl, upd_same, t.cl, t.nM, by show 3 < 1000; decide, ?_⟩
    refine ⟨Nat.zero_le _, fun tg ntg => ?_⟩
    have n2 : p ≠ tg := ne_of_none (by exact upd_same) ntg
    have n3 : tl ≠ tg := fun z => by
      subst z
      rw [upd_ne n1.symm, upd_ne n1.symm, upd_ne n1.symm, upd_same] at ntg
      cases ntg
    refine ⟨_, rfl, p, C, dx, _, rfl, (by rw [upd_ne n2]; exact upd_same), t.cl, t.nG, by show 4 < 1000; decide, ?_⟩
    refine ⟨_, rfl, p, C, dx, _, rfl, upd_same, t.cl, t.nC, by show 5 < 1000; decide, ?_⟩
    refine q _ tl tg (fun b o nb hb => ?_) upd_same ?_ ?_
    · have hb0 : (upd H p (.ins C dx (putF "_age" (.int a) []))) b = some o := by rw [upd_ne nb]; exact hb
      rw [upd_ne nb, upd_ne nb, upd_ne (fun z => by
        subst z
        rw [upd_ne nb, upd_ne nb, upd_ne nb, upd_ne (ne_of_none hb0 ntl), upd_ne nb] at ntg
        rw [hb] at ntg; cases ntg), upd_ne nb, upd_ne nb, upd_ne nb, upd_ne (ne_of_none hb0 ntl)]
      exact hb0
    · rw [upd_ne n1.symm, upd_ne n1.symm, upd_ne n3, upd_ne n1.symm, upd_ne n1.symm, upd_ne n1.symm, upd_same]
    · rw [upd_ne n2.symm, upd_ne n2.symm, upd_same]
theorem ok_letters {f : Addr} {fd : FuncData} (T : Bk mg) (t : ClT K mg C) (F : Fun K "letters" "Folder.letters" sLetters f fd) : FnOk P w K mg base CX0 1 f fd nSelf (spLetters C) := by
  refine F.ok scLetters (fun vs H Q E h => ?_) (fun cdv A outer s H vs Q E hr h => ?_)
  · obtain ⟨p, F, rfl, _⟩ := h
    rfl
  · obtain ⟨p, F, rfl, ⟨dx, tl, tg, hp, h1, h2⟩, q⟩ := h
    refine ⟨_, pss_one (ps_ret (pe_callTy (call_list_ofK (K := K) rfl) (by rfl) T.list PyProof.Rows.boot_list (pa_cons (pe_fld (pv 0) rfl) pa_nil))), ?_⟩
    cases h1 with
    | tup e r => exact ⟨_, rfl, p, C, dx, _, _, rfl, hp, t.cl, t.nL, fl_let, tl, _, rfl, .inr (st e), fun l nl => q l _ (same_new nl) nl (.lst upd_same (r.same (same_new nl)))⟩
theorem ok_gone {f : Addr} {fd : FuncData} (T : Bk mg) (t : ClT K mg C) (F : Fun K "gone" "Folder.gone" sGone f fd) : FnOk P w K mg base CX0 1 f fd nSelf (spGone C) := by
  refine F.ok scGone (fun vs H Q E h => ?_) (fun cdv A outer s H vs Q E hr h => ?_)
  · obtain ⟨p, F, rfl, _⟩ := h
    rfl
  · obtain ⟨p, F, rfl, ⟨dx, tl, tg, hp, h1, h2⟩, q⟩ := h
    refine ⟨_, pss_one (ps_ret (pe_callTy (call_list_ofK (K := K) rfl) (by rfl) T.list PyProof.Rows.boot_list (pa_cons (pe_fld (pv 0) rfl) pa_nil))), ?_⟩
    cases h2 with
    | tup e r => exact ⟨_, rfl, p, C, dx, _, _, rfl, hp, t.cl, t.nG, fl_gone, tg, _, rfl, .inr (st e), fun l nl => q l _ (same_new nl) nl (.lst upd_same (r.same (same_new nl)))⟩
theorem ok_next {f : Addr} {fd : FuncData} (t : ClT K mg C) (F : Fun K "next_number" "Folder.next_number" sNext f fd) : FnOk P w K mg base CX0 1 f fd nSelf (spNext C) := by
  refine F.ok scNext (fun vs H Q E h => ?_) (fun cdv A outer s H vs Q E hr h => ?_)
  · obtain ⟨p, F, rfl, _⟩ := h
    rfl
  · obtain ⟨p, F, rfl, ⟨dx, tl, tg, hp, h1, h2⟩, q⟩ := h
    exact ⟨_, pss_one (ps_ret (pe_fld (pv 0) rfl)), ⟨_, rfl, p, C, dx, _, _, rfl, hp, t.cl, t.nN, fl_nx, q⟩⟩
theorem ok_mark {f : Addr} {fd : FuncData} (t : ClT K mg C) (F : Fun K "mark" "Folder.mark" sMark f fd) : FnOk P w K mg base CX0 1 f fd nSelf (spMark C) := by
  refine F.ok scMark (fun vs H Q E h => ?_) (fun cdv A outer s H vs Q E hr h => ?_)
  · obtain ⟨p, F, rfl, _⟩ := h
    rfl
  · obtain ⟨p, F, rfl, ⟨dx, tl, tg, hp, h1, h2⟩, q⟩ := h
    exact ⟨_, pss_one (ps_ret (pe_fld (pv 0) rfl)), ⟨_, rfl, p, C, dx, _, _, rfl, hp, t.cl, t.nM, fl_mk, q⟩⟩
end
end K1


set_option Elab.async false
set_option linter.all false
set_option maxRecDepth 100000
set_option maxHeartbeats 2000000
namespace K1
open PySem PySem.Spec PyProof.Rows L2 RZ StX
/-- the making of a folder -/
structure MkD (P : Program) (w : World) (K : PySem.W.Frag) (mg : Str → Option Value) (base : Heap) (C : Addr) : Prop where
  ex : ∃ (f : Addr) (fd : FuncData), Mk K C f ∧ Binds K fd nInit [] ∧ FnOk P w K mg base CX0 3 f fd nInit (spInit C)
theorem pe_new {X : Cx} {C : Addr} {e : Expr} {t : TA} {p pos : Pos} (D : MkD X.prog X.w X.K X.mg X.base C) (gC : X.mg "Folder" = some (.ref C)) (hr : Room 4 X.A) (hg : Gl X "Folder") (ha : PA X [e] t)
    (he : starEach [e] X.env = (false, eval e X.env) :: starEach [] X.env := by rfl) : PE X (.Call (.Name "Folder" p) [e] [] pos) (tMake C (spInit C) [] E0 t) := by
  obtain ⟨f, fd, hm, hb, F⟩ := D.ex
  exact pe_make hm F hr hg gC hb .nil pass0 ha (he := he)
theorem Dv.tups {H : Hp} {a : Addr} {ds : List PyData} (h : Dv H (.ref a) (.tuple ds)) : ∃ xs, H a = some (.tup xs) ∧ DvA H xs ds := by
  cases h with
  | tup e r => exact ⟨_, e, r⟩
/-- a heap behind which one new object may be changed -/
theorem same_but {H H' : Hp} {q : Addr} {o : HO} (s : Same H H') (n : H q = none) : Same H (upd H' q o) := s.mut n
section
variable {P : Program} {w : World} {K : PySem.W.Frag} {mg : Str → Option Value} {base : Heap} {C : Addr}
theorem ok_copied {f : Addr} {fd : FuncData} (t : ClT K mg C) (D_new : MkD P w K mg base C) (F : Fun K "_copied" "Folder._copied" sCopied f fd) : FnOk P w K mg base CX0 5 f fd nSelf (spCopied C) := by
  have nd := scCopied.nd
  refine F.ok scCopied (fun vs H Q E h => ?_) (fun cdv A outer s H vs Q E hr h => ?_)
  · obtain ⟨p, dx, tl, tg, a, n, m, c, rfl, _⟩ := h
    rfl
  · obtain ⟨p, dx, tl, tg, a, n, m, c, rfl, hp, ha, q⟩ := h
    refine ⟨_, pss_cons (ps_set (i := 1) nd rfl (Or.inl rfl) (pe_new D_new t.gC (hr.mono (by decide)) rfl (pa_cons (pe_fld (pv 0) rfl) pa_nil)))
 (pss_cons (ps_fld (pv 1) (pe_fld (pv 0) rfl) rfl)
 (pss_cons (ps_fld (pv 1) (pe_fld (pv 0) rfl) rfl)
 (pss_cons (ps_fld (pv 1) (pe_fld (pv 0) rfl) rfl)
 (pss_cons (ps_fld (pv 1) (pe_fld (pv 0) rfl) rfl)
 (pss_cons (ps_fld (pv 1) (pe_fld (pv 0) rfl) rfl)
 (pss_one (ps_ret (pv 1)))))))), ?_⟩
    refine ⟨_, rfl, p, C, dx, _, _, rfl, hp, t.cl, t.nA, fl_age, fun x dq nx ndq hne => ⟨x, dq, a, rfl, upd_same, ha, fun H' tl' tg' keep hx _ _ => ⟨rfl, ?_⟩⟩⟩
    have s1 : Same H H' := fun b o hb => keep b o (ne_of_none hb nx) (by rw [upd_ne (ne_of_none hb nx), upd_ne (ne_of_none hb ndq)]; exact hb)
    have npx : p ≠ x := ne_of_none hp nx
    have hp1 := s1 _ _ hp
    have step : ∀ (H1 : Hp), H1 p = some (.ins C dx (flds (.int a) (.ref tl) (.int n) (.int m) (.ref tg) (.int c))) → ∀ o, (upd H1 x o) p = some (.ins C dx (flds (.int a) (.ref tl) (.int n) (.int m) (.ref tg) (.int c))) := fun H1 h o => by rw [upd_ne npx]; exact h
    refine ⟨_, rfl, p, C, dx, _, _, rfl, hp1, t.cl, t.nL, fl_let, _, rfl, x, C, dq, _, rfl, hx, t.cl, t.nL, by show 6 < 1000; decide, ?_⟩
    rw [pu_let]
    refine ⟨_, rfl, p, C, dx, _, _, rfl, step _ hp1 _, t.cl, t.nN, fl_nx, _, rfl, x, C, dq, _, rfl, upd_same, t.cl, t.nN, by show 6 < 1000; decide, ?_⟩
    rw [pu_nx]
    refine ⟨_, rfl, p, C, dx, _, _, rfl, step _ (step _ hp1 _) _, t.cl, t.nM, fl_mk, _, rfl, x, C, dq, _, rfl, upd_same, t.cl, t.nM, by show 6 < 1000; decide, ?_⟩
    rw [pu_mk]
    refine ⟨_, rfl, p, C, dx, _, _, rfl, step _ (step _ (step _ hp1 _) _) _, t.cl, t.nG, fl_gone, _, rfl, x, C, dq, _, rfl, upd_same, t.cl, t.nG, by show 6 < 1000; decide, ?_⟩
    rw [pu_gone]
    refine ⟨_, rfl, p, C, dx, _, _, rfl, step _ (step _ (step _ (step _ hp1 _) _) _) _, t.cl, t.nC, fl_cut, _, rfl, x, C, dq, _, rfl, upd_same, t.cl, t.nC, by show 6 < 1000; decide, ?_⟩
    rw [pu_cut]
    exact ⟨_, rfl, q x dq _ (((((s1.mut nx).mut nx).mut nx).mut nx).mut nx) nx upd_same⟩
theorem ok_app {f : Addr} {fd : FuncData} (t : ClT K mg C) (D_is_body : Def P w K mg base CX0 2 "is_body" pV spBody) (D_is_signs : Def P w K mg base CX0 2 "is_signs" pV spSigns) (M_copied : MDef P w K mg base CX0 5 C "_copied" nSelf (spCopied C))
    (F : Fun K "appended" "Folder.appended" sApp f fd) : FnOk P w K mg base CX0 6 f fd pApp (spApp C) := by
  have nd := scApp.nd
  refine F.ok scApp (fun vs H Q E h => ?_) (fun cdv A outer s H vs Q E hr h => ?_)
  · obtain ⟨p, sg, F, b, ss, rfl, _⟩ := h
    rfl
  · obtain ⟨p, sg, F, b, ss, rfl, ⟨dx, tl, tg, hp, h1, h2⟩, ha, hb, hs, hu, hl, q⟩ := h
    refine ⟨_, pss_cons (ps_if (pt_not (pt_val (pe_def D_is_body (hr.mono (by decide)) rfl pass0 (pa_cons (pv 1) pa_nil)))) pss_any pss_nil)
 (pss_cons (ps_if (pt_not (pt_val (pe_def D_is_signs (hr.mono (by decide)) rfl pass0 (pa_cons (pv 2) pa_nil)))) pss_any pss_nil)
 (pss_cons (ps_set (i := 3) nd rfl (Or.inl rfl) (pe_mdef0 M_copied t.cl (hr.mono (by decide)) pass0 (pv 0)))
 (pss_cons (ps_fldaug (pv 3) pe_int in_add)
 (pss_cons (ps_fld (pv 3) (pe_tup (pa_star (pe_fld (pv 0) rfl) (pa_cons (pe_tup (pa_cons (pe_fld (pv 0) rfl) (pa_cons (pv 1) (pa_cons (pv 2) (pa_cons (pe_fld (pv 3) rfl) pa_nil))))) pa_nil))) rfl)
 (pss_cons (ps_fldaug (pv 3) pe_int in_add)
 (pss_one (ps_ret (pv 3)))))))), ?_⟩
    refine ⟨_, rfl, b, rfl, hb, _, rfl, itbF rfl ?_⟩
    refine ⟨_, rfl, sg, ss, rfl, hs, okSs_iff.mpr hu, fun H1 s1 => ⟨_, rfl, itbF rfl ?_⟩⟩
    refine ⟨_, rfl, p, dx, _, rfl, s1 _ _ hp, fl_no (by decide +kernel), p, dx, tl, tg, F.age, F.nx, F.mr, F.ct, rfl, s1 _ _ hp, ha, fun x dq H2 s2 nx hx => ?_⟩
    have s12 := s1.trans s2
    have nxH : H x = none := s1.free nx
    have npx : p ≠ x := ne_of_none (s1 _ _ hp) nx
    refine ⟨_, rfl, x, C, dq, _, _, rfl, hx, t.cl, t.nM, fl_mk, _, _, rfl, rfl, dq, _, hx, by show 6 < 1000; decide, ?_⟩
    rw [pu_mk]
    have sA : Same H (upd H2 x (.ins C dq (flds (.int F.age) (.ref tl) (.int F.nx) (.int (F.mr + 1)) (.ref tg) (.int F.ct)))) := s12.mut nxH
    have hxA : (upd H2 x (.ins C dq (flds (.int F.age) (.ref tl) (.int F.nx) (.int (F.mr + 1)) (.ref tg) (.int F.ct)))) x = _ := upd_same
    generalize upd H2 x (.ins C dq (flds (.int F.age) (.ref tl) (.int F.nx) (.int (F.mr + 1)) (.ref tg) (.int F.ct))) = HA at sA hxA
    obtain ⟨xs, e0, r0⟩ := Dv.tups h1
    refine ⟨_, rfl, p, C, dx, _, _, rfl, sA _ _ hp, t.cl, t.nL, fl_let, tl, xs, rfl, .inl (st (sA _ _ e0)), ?_⟩
    refine ⟨_, rfl, p, C, dx, _, _, rfl, sA _ _ hp, t.cl, t.nN, fl_nx, _, rfl, _, rfl, _, rfl, x, C, dq, _, _, rfl, hxA, t.cl, t.nM, fl_mk, by show 4 ≤ sizeLine; decide, fun lt nlt => ⟨?_, fun tn ntn => ?_⟩⟩
    · have hlen := r0.len
      rw [List.length_map] at hlen
      exact lt1 _ (by rw [List.length_append, hlen]; show F.ls.length + 1 ≤ 100000; omega)
    · have sB := (sA.new nlt (o := .tup [.int F.nx, .int b, .ref sg, .int (F.mr + 1)])).new ntn (o := .tup (xs ++ [.ref lt]))
      have nxl : x ≠ lt := ne_of_none hxA nlt
      have nxt : x ≠ tn := ne_of_none (by rw [upd_ne nxl]; exact hxA) ntn
      have hlt : (upd (upd HA lt (.tup [.int F.nx, .int b, .ref sg, .int (F.mr + 1)])) tn (.tup (xs ++ [.ref lt]))) lt = some (.tup [.int F.nx, .int b, .ref sg, .int (F.mr + 1)]) := same_new ntn _ _ upd_same
      refine ⟨_, rfl, x, C, dq, _, rfl, (by rw [upd_ne nxt, upd_ne nxl]; exact hxA), t.cl, t.nL, by show 6 < 1000; decide, ?_⟩
      rw [pu_let]
      refine ⟨_, rfl, x, C, dq, _, _, rfl, upd_same, t.cl, t.nN, fl_nx, _, _, rfl, rfl, dq, _, upd_same, by show 6 < 1000; decide, ?_⟩
      rw [pu_nx]
      have sC := (sB.mut nxH (o := .ins C dq (flds (.int F.age) (.ref tn) (.int F.nx) (.int (F.mr + 1)) (.ref tg) (.int F.ct)))).mut nxH (o := .ins C dq (flds (.int F.age) (.ref tn) (.int (F.nx + 1)) (.int (F.mr + 1)) (.ref tg) (.int F.ct)))
      refine ⟨_, rfl, q x _ sC nxH ⟨dq, tn, tg, upd_same, ?_, h2.same sC⟩⟩
      have rl := r0.same sC
      refine .tup (xs := xs ++ [.ref lt]) (by rw [upd_ne nxt.symm, upd_ne nxt.symm, upd_same]) ?_
      have em : (fApp F b ss).ls.map ltD = F.ls.map ltD ++ [ltD ⟨F.nx, b, ss, F.mr + 1⟩] := by unfold fApp; rw [List.map_append]; rfl
      rw [em]
      refine rl.app (.cons (.tup (by rw [upd_ne nxl.symm, upd_ne nxl.symm]; exact hlt) (.cons (.int _) (.cons (.int _) (.cons (.tup (sC _ _ hs) (dv_strs ss)) (.cons (.int _) .nil))))) .nil)
end
end K1


set_option Elab.async false
set_option linter.all false
set_option maxRecDepth 100000
set_option maxHeartbeats 2000000
namespace K1
open PySem PySem.Spec PyProof.Rows L2 RZ StX
/-! ### data of tuples alone -/
mutual
def tO : PyData → Bool
  | .list _ => false
  | .tuple xs => tOA xs
  | .dict _ => false
  | _ => true
def tOA : List PyData → Bool
  | [] => true
  | x :: r => tO x && tOA r
end
mutual
theorem Dv.mut {H : Hp} {a : Addr} {o o' : HO} (ha : H a = some o) (no : ∀ xs, o ≠ .tup xs) : ∀ {v : V} {d : PyData}, Dv H v d → tO d = true → Dv (upd H a o') v d
  | _, _, .non, _ => .non
  | _, _, .bl b, _ => .bl b
  | _, _, .int i, _ => .int i
  | _, _, .str x, _ => .str x
  | _, _, .lst h r, n => by cases n
  | _, _, .tup h r, n => .tup (by rw [upd_ne (fun z => by subst z; rw [h] at ha; cases ha; exact no _ rfl)]; exact h) (DvA.mut ha no r n)
  | _, _, .dic h, n => by cases n
theorem DvA.mut {H : Hp} {a : Addr} {o o' : HO} (ha : H a = some o) (no : ∀ xs, o ≠ .tup xs) : ∀ {vs : List V} {ds : List PyData}, DvA H vs ds → tOA ds = true → DvA (upd H a o') vs ds
  | _, _, .nil, _ => .nil
  | _, _, .cons h r, n => .cons (Dv.mut ha no h ((Bool.and_eq_true _ _).mp n).1) (DvA.mut ha no r ((Bool.and_eq_true _ _).mp n).2)
end
theorem tO_strs : ∀ ss : List Str, tOA (ss.map PyData.str) = true
  | [] => rfl
  | s :: r => by
    show (true && tOA (r.map PyData.str)) = true
    rw [tO_strs r]; rfl
theorem tO_lt (l : Lt) : tO (ltD l) = true := by
  show (true && (true && (tOA (l.s.map PyData.str) && (true && true)))) = true
  rw [tO_strs]; rfl
theorem tO_lts : ∀ ls : List Lt, tOA (ls.map ltD) = true
  | [] => rfl
  | l :: r => by
    show (tO (ltD l) && tOA (r.map ltD)) = true
    rw [tO_lt, tO_lts r]; rfl
theorem tO_gos : ∀ gs : List (Int × Int), tOA (gs.map goD) = true
  | [] => rfl
  | l :: r => by
    show (true && tOA (r.map goD)) = true
    rw [tO_gos r]; rfl
/-! ### what the deeds make -/
def remL (ns : List Int) : List Lt → Int → List Lt × List (Int × Int) × Int
  | [], m => ([], [], m)
  | l :: r, m => if l.n ∈ ns then ((remL ns r (m + 1)).1, (m + 1, l.n) :: (remL ns r (m + 1)).2.1, (remL ns r (m + 1)).2.2) else (l :: (remL ns r m).1, (remL ns r m).2.1, (remL ns r m).2.2)
def fRem (F : Fo) (ns : List Int) : Fo := { F with ls := (remL ns F.ls F.mr).1, go := F.go ++ (remL ns F.ls F.mr).2.1, mr := (remL ns F.ls F.mr).2.2 }
def newS (ns : List Int) (g : List Str → List Str) (l : Lt) : List Str := if l.n ∈ ns then g l.s else l.s
def sigL (ns : List Int) (g : List Str → List Str) : List Lt → Int → List Lt × Int
  | [], m => ([], m)
  | l :: r, m => if newS ns g l = l.s then (l :: (sigL ns g r m).1, (sigL ns g r m).2) else (⟨l.n, l.b, newS ns g l, m + 1⟩ :: (sigL ns g r (m + 1)).1, (sigL ns g r (m + 1)).2)
def fSig (F : Fo) (ns : List Int) (g : List Str → List Str) : Fo := { F with ls := (sigL ns g F.ls F.mr).1, mr := (sigL ns g F.ls F.mr).2 }
abbrev sRem : Stmt := mS 12
abbrev nRem : List Str := ["self", "numbers", "chosen", "folder", "letters", "gone", "letter"]
abbrev pRem : List Str := ["self", "numbers"]
theorem scRem : FnScope nRem pRem (defScope sRem) := ⟨rfl, rfl, rfl, by decide +kernel, rfl, by decide +kernel, by decide +kernel⟩
/-- what a deed on numbers wants -/
structure NumsAt (H : Hp) (a : Addr) (ns : List Int) : Prop where
  at_ : H a = some (.tup (ns.map V.int))
  one : ∀ n ∈ ns, 1 ≤ n
  len : ns.length ≤ 1000
def spRem (C : Addr) : Sp := fun vs H Q _ => ∃ (p na : Addr) (F : Fo) (ns : List Int), vs = [.ref p, .ref na] ∧ FoAt C H p F ∧ 1 ≤ F.age ∧ NumsAt H na ns ∧ F.ls.length ≤ 1000 ∧ F.go.length ≤ 1000 ∧ ∀ q H', Same H H' → H q = none → FoAt C H' q (fRem F ns) → Q (.ref q) H'
theorem drop_cons {α : Type} {l : List α} {i : Nat} {x : α} (h : l[i]? = some x) : l.drop i = x :: l.drop (i + 1) := by
  have hi := lt_of_get h
  rw [List.drop_eq_getElem_cons hi]
  congr 1
  rw [List.getElem?_eq_getElem hi] at h
  exact Option.some.inj h
section
variable {P : Program} {w : World} {K : PySem.W.Frag} {mg : Str → Option Value} {base : Heap} {C : Addr}
theorem ok_rem {f : Addr} {fd : FuncData} (T : Bk mg) (t : ClT K mg C) (D_check_numbers : Def P w K mg base CX0 4 "_check_numbers" nCkNums spCkNums) (M_copied : MDef P w K mg base CX0 5 C "_copied" nSelf (spCopied C))
    (F : Fun K "removed" "Folder.removed" sRem f fd) : FnOk P w K mg base CX0 6 f fd pRem (spRem C) := by
  have nd := scRem.nd
  refine F.ok scRem (fun vs H Q E h => ?_) (fun cdv A outer s H vs Q E hr h => ?_)
  · obtain ⟨p, na, F, ns, rfl, _⟩ := h
    rfl
  · obtain ⟨p, na, F, ns, rfl, ⟨dx, tl, tg, hp, h1, h2⟩, ha, hn, hl, hgl, q⟩ := h
    refine ⟨_, pss_cons (ps_expr (pe_def D_check_numbers (hr.mono (by decide)) rfl pass0 (pa_cons (pv 1) pa_nil)))
 (pss_cons (ps_set (i := 2) nd rfl (Or.inl rfl) (pe_callTy (cr_setTupW (w := w) (K := K) rfl rfl rfl) (by rfl) T.set PyProof.Rows.boot_set (pa_cons (pv 1) pa_nil)))
 (pss_cons (ps_set (i := 3) nd rfl (Or.inl rfl) (pe_mdef0 M_copied t.cl (hr.mono (by decide)) pass0 (pv 0)))
 (pss_cons (ps_set (i := 4) nd rfl (Or.inl rfl) (pe_lst pa_nil))
 (pss_cons (ps_set (i := 5) nd rfl (Or.inl rfl) (pe_lst pa_nil))
 (C8.pss_cut (ps_for PassesOwn.never rfl (pi_tupK (K := K) rfl (pe_fld (pv 0) rfl)) (pg_name (i := 6) nd rfl (Or.inl rfl))
   (pss_one (ps_if (pt_cmpR or_sin (pe_ix (ix_tupK (K := K) rfl) (pv 6) pe_int (fun _ _ => rfl)) (pv 2) (by rfl))
     (pss_cons (ps_fldaug (pv 3) pe_int in_add) (pss_one (ps_expr (pe_bm PySem.F.plainAttrs_list PySem.F.slot_list_append PySem.F.type_list_append mt_append (pv 5) (pa_cons (pe_tup (pa_cons (pe_fld (pv 3) rfl) (pa_cons (pe_ix (ix_tupK (K := K) rfl) (pv 6) pe_int (fun _ _ => rfl)) pa_nil))) pa_nil)))))
     (pss_one (ps_expr (pe_bm PySem.F.plainAttrs_list PySem.F.slot_list_append PySem.F.type_list_append mt_append (pv 4) (pa_cons (pv 6) pa_nil)))))))
 (pss_cons (ps_fld (pv 3) (pe_callTy (call_tuple_ofK (K := K) rfl) (by rfl) T.tuple PyProof.Rows.boot_tuple (pa_cons (pv 4) pa_nil)) rfl)
 (pss_cons (ps_fld (pv 3) (pe_tup (pa_star (pe_fld (pv 0) rfl) (pa_star (pv 5) pa_nil))) rfl)
 (pss_one (ps_ret (pv 3)))))))))), ?_⟩
    obtain ⟨xs, e0, r0⟩ := Dv.tups h1
    obtain ⟨gs, g0, gr0⟩ := Dv.tups h2
    refine ⟨_, rfl, na, ns, rfl, hn.at_, hn.one, hn.len, fun H1 s1 => ?_⟩
    refine ⟨_, rfl, na, ns, rfl, st (s1 _ _ hn.at_), hn.len, fun cs nn ncs => ?_⟩
    have s2 := s1.new ncs (o := SetO w cs (fun j => decide (j ∈ ns)) nn)
    have hcs2 : (upd H1 cs (SetO w cs (fun j => decide (j ∈ ns)) nn)) cs = _ := upd_same
    generalize upd H1 cs (SetO w cs (fun j => decide (j ∈ ns)) nn) = H2 at s2 hcs2
    refine ⟨_, rfl, p, dx, _, rfl, s2 _ _ hp, fl_no (by decide +kernel), p, dx, tl, tg, F.age, F.nx, F.mr, F.ct, rfl, s2 _ _ hp, ha, fun x dq H3 s3 nx hx => ?_⟩
    have s23 := s2.trans s3
    have nxH : H x = none := s2.free nx
    have hcs3 := s3 _ _ hcs2
    refine ⟨Nat.zero_le _, fun lk nlk => ⟨Nat.zero_le _, fun lg nlg => ?_⟩⟩
    have s4 := (s23.new nlk (o := .lst [])).new nlg (o := .lst [])
    have nlkH : H lk = none := s23.free nlk
    have nlgH : H lg = none := (s23.new nlk (o := .lst [])).free nlg
    have xlk : x ≠ lk := ne_of_none hx nlk
    have xlg : x ≠ lg := ne_of_none (by rw [upd_ne xlk]; exact hx) nlg
    have lkg : lk ≠ lg := ne_of_none (show (upd H3 lk (.lst [])) lk = some (.lst []) from upd_same) nlg
    have csk : cs ≠ lk := ne_of_none hcs3 nlk
    have csg : cs ≠ lg := ne_of_none (by rw [upd_ne csk]; exact hcs3) nlg
    have csx : cs ≠ x := fun z => by rw [z] at hcs3; rw [hx] at hcs3; simp [SetO] at hcs3
    refine ⟨fun σ G => ∃ v6 ks kept gg gone m, σ = [some (.ref p), some (.ref na), some (.ref cs), some (.ref x), some (.ref lk), some (.ref lg), v6] ∧ Same H G ∧ G x = some (.ins C dq (flds (.int F.age) (.ref tl) (.int F.nx) (.int m) (.ref tg) (.int F.ct))) ∧ G lk = some (.lst ks) ∧ DvA G ks (kept.map ltD) ∧ G lg = some (.lst gg) ∧ DvA G gg (gone.map goD) ∧
      remL ns F.ls F.mr = (kept, gone, m) ∧ kept.length ≤ 1000 ∧ gone.length ≤ 1000, ?_, ?_⟩
    · refine ⟨_, rfl, p, C, dx, _, _, rfl, s4 _ _ hp, t.cl, t.nL, fl_let, tl, rfl, ⟨_, st (s4 _ _ e0)⟩, for_tup (K := K) (a := tl) (xs := xs) (fun i σ G => ∃ v6 ks kept gg gone m, σ = [some (.ref p), some (.ref na), some (.ref cs), some (.ref x), some (.ref lk), some (.ref lg), v6] ∧ Same H G ∧ G cs = some (SetO w cs (fun j => decide (j ∈ ns)) nn) ∧ G x = some (.ins C dq (flds (.int F.age) (.ref tl) (.int F.nx) (.int m) (.ref tg) (.int F.ct))) ∧ G lk = some (.lst ks) ∧ DvA G ks (kept.map ltD) ∧ G lg = some (.lst gg) ∧ DvA G gg (gone.map goD) ∧
          remL ns F.ls F.mr = (kept ++ (remL ns (F.ls.drop i) m).1, gone ++ (remL ns (F.ls.drop i) m).2.1, (remL ns (F.ls.drop i) m).2.2) ∧ kept.length ≤ i ∧ gone.length ≤ i) ?_ ?_ ?_ ?_⟩
      · exact ⟨none, [], [], [], [], F.mr, rfl, s4, (by rw [upd_ne csg, upd_ne csk]; exact hcs3), (by rw [upd_ne xlg, upd_ne xlk]; exact hx), (by rw [upd_ne lkg]; exact upd_same), .nil, upd_same, .nil, rfl, Nat.le_refl _, Nat.le_refl _⟩
      · rintro i σ G _ ⟨v6, ks, kept, gg, gone, m, rfl, sG, _⟩
        exact st (sG _ _ e0)
      · rintro i y σ G hy ⟨v6, ks, kept, gg, gone, m, rfl, sG, hcs, hx, hk, dk, hg, dg, er, l1, l2⟩
        have hi := lt_of_get hy
        have hlen := r0.len
        rw [List.length_map] at hlen
        obtain ⟨e, he, hde⟩ := (r0.same sG).get hy
        rw [List.getElem?_map] at he
        cases hF : F.ls[i]? with
        | none => rw [hF] at he; cases he
        | some l =>
          rw [hF] at he
          obtain rfl := (Option.some.inj he).symm
          rw [drop_cons hF] at er
          obtain ⟨ta, us, rfl, hta, hus⟩ : ∃ ta us, y = .ref ta ∧ G ta = some (.tup us) ∧ DvA G us [.int l.n, .int l.b, .tuple (l.s.map PyData.str), .int l.m] := by
            cases hde with
            | tup h r => exact ⟨_, _, rfl, h, r⟩
          obtain ⟨u0, ur, rfl⟩ : ∃ u0 ur, us = u0 :: ur := by
            cases hus with
            | cons h r => exact ⟨_, _, rfl⟩
          have hu0 : u0 = .int l.n := by
            cases hus with
            | cons h r => cases h; rfl
          subst hu0
          refine ⟨_, rfl, ta, _, 0, .int l.n, rfl, rfl, st hta, atI_nat (j := 0) rfl, _, rfl, l.n, cs, _, nn, rfl, rfl, hcs, _, rfl, ?_⟩
          by_cases c : l.n ∈ ns
          · refine itbT (decide_eq_true c) ?_
            have er' : remL ns F.ls F.mr = ((kept ++ (remL ns (F.ls.drop (i + 1)) (m + 1)).1, (gone ++ [(m + 1, l.n)]) ++ (remL ns (F.ls.drop (i + 1)) (m + 1)).2.1, (remL ns (F.ls.drop (i + 1)) (m + 1)).2.2) : List Lt × List (Int × Int) × Int) := by
              rw [er]
              show (kept ++ (if l.n ∈ ns then _ else _ : List Lt × List (Int × Int) × Int).1, _, _) = _
              simp only [remL, if_pos c, List.append_assoc, List.singleton_append]
            refine ⟨_, rfl, x, C, dq, _, _, rfl, hx, t.cl, t.nM, fl_mk, _, _, rfl, rfl, dq, _, hx, by show 6 < 1000; decide, ?_⟩
            rw [pu_mk]
            have xk : x ≠ lk := fun z => by rw [z, hk] at hx; cases hx
            have xg : x ≠ lg := fun z => by rw [z, hg] at hx; cases hx
            have kg : lk ≠ lg := lkg
            have sA := sG.mut nxH (o := .ins C dq (flds (.int F.age) (.ref tl) (.int F.nx) (.int (m + 1)) (.ref tg) (.int F.ct)))
            have dkA := dk.mut (o' := .ins C dq (flds (.int F.age) (.ref tl) (.int F.nx) (.int (m + 1)) (.ref tg) (.int F.ct))) hx (fun _ z => by cases z) (tO_lts _)
            have dgA := dg.mut (o' := .ins C dq (flds (.int F.age) (.ref tl) (.int F.nx) (.int (m + 1)) (.ref tg) (.int F.ct))) hx (fun _ z => by cases z) (tO_gos _)
            have hxA : (upd G x (.ins C dq (flds (.int F.age) (.ref tl) (.int F.nx) (.int (m + 1)) (.ref tg) (.int F.ct)))) x = _ := upd_same
            have hkA : (upd G x (.ins C dq (flds (.int F.age) (.ref tl) (.int F.nx) (.int (m + 1)) (.ref tg) (.int F.ct)))) lk = some (.lst ks) := by rw [upd_ne xk.symm]; exact hk
            have hgA : (upd G x (.ins C dq (flds (.int F.age) (.ref tl) (.int F.nx) (.int (m + 1)) (.ref tg) (.int F.ct)))) lg = some (.lst gg) := by rw [upd_ne xg.symm]; exact hg
            have hcA : (upd G x (.ins C dq (flds (.int F.age) (.ref tl) (.int F.nx) (.int (m + 1)) (.ref tg) (.int F.ct)))) cs = some (SetO w cs (fun j => decide (j ∈ ns)) nn) := by rw [upd_ne csx]; exact hcs
            have htA : (upd G x (.ins C dq (flds (.int F.age) (.ref tl) (.int F.nx) (.int (m + 1)) (.ref tg) (.int F.ct)))) ta = some (.tup (.int l.n :: ur)) := by rw [upd_ne (fun z => by rw [z, hx] at hta; cases hta)]; exact hta
            generalize upd G x (.ins C dq (flds (.int F.age) (.ref tl) (.int F.nx) (.int (m + 1)) (.ref tg) (.int F.ct))) = GA at sA dkA dgA hxA hkA hgA hcA htA
            refine ⟨_, rfl, .inl ⟨rfl, _, sq hgA⟩, _, rfl, x, C, dq, _, _, rfl, hxA, t.cl, t.nM, fl_mk, _, rfl, ta, _, 0, .int l.n, rfl, rfl, st htA, atI_nat (j := 0) rfl, by show 2 ≤ sizeLine; decide, fun gn ngn => ?_⟩
            have sB := same_new (o := .tup [.int (m + 1), .int l.n]) ngn
            refine ⟨lg, _, _, rfl, rfl, sB _ _ hgA, lt2 _ (by rw [dgA.len, List.length_map]; omega), ?_⟩
            have hgB := sB _ _ hgA
            refine ⟨some (.ref ta), ks, kept, gg ++ [.ref gn], gone ++ [(m + 1, l.n)], m + 1, rfl, (sA.trans sB).mut nlgH, (by rw [upd_ne csg]; exact sB _ _ hcA), (by rw [upd_ne xg]; exact sB _ _ hxA), (by rw [upd_ne kg]; exact sB _ _ hkA), (dkA.same sB).mut hgB (fun _ z => by cases z) (tO_lts _), upd_same, ?_, er', by omega, by rw [List.length_append]; show gone.length + 1 ≤ i + 1; omega⟩
            rw [List.map_append]
            exact ((dgA.same sB).app (.cons (.tup upd_same (.cons (.int _) (.cons (.int _) .nil))) .nil)).mut hgB (fun _ z => by cases z) (by rw [show gone.map goD ++ [PyData.tuple [.int (m + 1), .int l.n]] = (gone ++ [(m + 1, l.n)]).map goD by rw [List.map_append]; rfl]; exact tO_gos _)
          · refine itbF (decide_eq_false c) ?_
            have er' : remL ns F.ls F.mr = ((kept ++ [l]) ++ (remL ns (F.ls.drop (i + 1)) m).1, gone ++ (remL ns (F.ls.drop (i + 1)) m).2.1, (remL ns (F.ls.drop (i + 1)) m).2.2) := by
              rw [er]
              simp only [remL, if_neg c, List.append_assoc, List.singleton_append]
            refine ⟨_, rfl, .inl ⟨rfl, _, sq hk⟩, _, rfl, lk, _, _, rfl, rfl, hk, lt2 _ (by rw [dk.len, List.length_map]; omega), ?_⟩
            have xk : x ≠ lk := fun z => by rw [z, hk] at hx; cases hx
            refine ⟨some (.ref ta), ks ++ [.ref ta], kept ++ [l], gg, gone, m, rfl, sG.mut nlkH, (by rw [upd_ne csk]; exact hcs), (by rw [upd_ne xk]; exact hx), upd_same, ?_, (by rw [upd_ne lkg.symm]; exact hg), dg.mut hk (fun _ z => by cases z) (tO_gos _), er', by rw [List.length_append]; show kept.length + 1 ≤ i + 1; omega, by omega⟩
            rw [List.map_append]
            exact (dk.app (.cons (.tup hta hus) .nil)).mut hk (fun _ z => by cases z) (by rw [show kept.map ltD ++ [PyData.tuple [.int l.n, .int l.b, .tuple (l.s.map PyData.str), .int l.m]] = (kept ++ [l]).map ltD by rw [List.map_append]; rfl]; exact tO_lts _)
      · rintro σ G ⟨v6, ks, kept, gg, gone, m, rfl, sG, hcs, hx, hk, dk, hg, dg, er, l1, l2⟩
        have hlen := r0.len
        rw [List.length_map] at hlen
        rw [hlen, List.drop_length] at er
        refine ⟨v6, ks, kept, gg, gone, m, rfl, sG, hx, hk, dk, hg, dg, ?_, by omega, by omega⟩
        rw [er]
        simp [remL]
    · rintro σ G ⟨v6, ks, kept, gg, gone, m, rfl, sG, hx, hk, dk, hg, dg, er, l1, l2⟩
      refine ⟨_, rfl, lk, ks, rfl, .inl ⟨sq hk, fun tk ntk => ?_⟩⟩
      have sA := same_new (o := .tup ks) ntk
      refine ⟨_, rfl, x, C, dq, _, rfl, sA _ _ hx, t.cl, t.nL, by show 6 < 1000; decide, ?_⟩
      rw [pu_let]
      have nxt : x ≠ tk := ne_of_none hx ntk
      have sB := ((sG.trans sA).mut nxH (o := .ins C dq (flds (.int F.age) (.ref tk) (.int F.nx) (.int m) (.ref tg) (.int F.ct))))
      have hkB : (upd (upd G tk (.tup ks)) x (.ins C dq (flds (.int F.age) (.ref tk) (.int F.nx) (.int m) (.ref tg) (.int F.ct)))) tk = some (.tup ks) := by rw [upd_ne nxt.symm]; exact upd_same
      have hxB : (upd (upd G tk (.tup ks)) x (.ins C dq (flds (.int F.age) (.ref tk) (.int F.nx) (.int m) (.ref tg) (.int F.ct)))) x = _ := upd_same
      have xg : x ≠ lg := fun z => by rw [z, hg] at hx; cases hx
      have hgB : (upd (upd G tk (.tup ks)) x (.ins C dq (flds (.int F.age) (.ref tk) (.int F.nx) (.int m) (.ref tg) (.int F.ct)))) lg = some (.lst gg) := by rw [upd_ne xg.symm]; exact sA _ _ hg
      have dkB := (dk.same sA).mut (o' := .ins C dq (flds (.int F.age) (.ref tk) (.int F.nx) (.int m) (.ref tg) (.int F.ct))) (sA _ _ hx) (fun _ z => by cases z) (tO_lts _)
      have dgB := (dg.same sA).mut (o' := .ins C dq (flds (.int F.age) (.ref tk) (.int F.nx) (.int m) (.ref tg) (.int F.ct))) (sA _ _ hx) (fun _ z => by cases z) (tO_gos _)
      generalize upd (upd G tk (.tup ks)) x (.ins C dq (flds (.int F.age) (.ref tk) (.int F.nx) (.int m) (.ref tg) (.int F.ct))) = GB at sB hkB hxB hgB dkB dgB
      refine ⟨_, rfl, p, C, dx, _, _, rfl, sB _ _ hp, t.cl, t.nG, fl_gone, tg, gs, rfl, .inl (st (sB _ _ g0)), _, rfl, lg, gg, rfl, .inr (sq hgB), ?_, fun tn ntn => ?_⟩
      · rw [List.append_nil, List.length_append, gr0.len, dgB.len, List.length_map, List.length_map]
        exact lt1 _ (by omega)
      · rw [List.append_nil]
        have sC := same_new (o := .tup (gs ++ gg)) ntn
        have nxn : x ≠ tn := ne_of_none hxB ntn
        refine ⟨_, rfl, x, C, dq, _, rfl, sC _ _ hxB, t.cl, t.nG, by show 6 < 1000; decide, ?_⟩
        rw [pu_gone]
        have sD := (sB.trans sC).mut nxH (o := .ins C dq (flds (.int F.age) (.ref tk) (.int F.nx) (.int m) (.ref tn) (.int F.ct)))
        have hxC := sC _ _ hxB
        refine ⟨_, rfl, q x _ sD nxH ?_⟩
        have ef : fRem F ns = { F with ls := kept, go := F.go ++ gone, mr := m } := by unfold fRem; rw [er]
        rw [ef]
        refine ⟨dq, tk, tn, upd_same, .tup (by rw [upd_ne nxt.symm]; exact sC _ _ hkB) ((dkB.same sC).mut hxC (fun _ z => by cases z) (tO_lts _)), .tup (by rw [upd_ne nxn.symm]; exact upd_same) ?_⟩
        show DvA _ (gs ++ gg) ((F.go ++ gone).map goD)
        rw [List.map_append]
        exact (gr0.same sD).app ((dgB.same sC).mut hxC (fun _ z => by cases z) (tO_gos _))
end
end K1


set_option Elab.async false
set_option linter.all false
set_option maxRecDepth 100000
set_option maxHeartbeats 2000000
namespace K1
open PySem PySem.Spec PyProof.Rows L2 RZ StX
theorem nd_strs : ∀ ss : List Str, noDicA (ss.map PyData.str) = true
  | [] => rfl
  | s :: r => by
    show (true && noDicA (r.map PyData.str)) = true
    rw [nd_strs r]; rfl
theorem dva_strs {H : Hp} : ∀ {xs : List V} {ss : List Str}, DvA H xs (ss.map PyData.str) → xs = ss.map V.str
  | _, [], .nil => rfl
  | _, _ :: _, .cons (.str _) r => by rw [dva_strs r]; rfl
theorem dv_lt {H : Hp} {y : V} {l : Lt} (h : Dv H y (ltD l)) : ∃ ta sa, y = .ref ta ∧ H ta = some (.tup [.int l.n, .int l.b, .ref sa, .int l.m]) ∧ H sa = some (.tup (l.s.map V.str)) := by
  cases h with
  | tup h r =>
  cases r with
  | cons h1 r =>
  cases r with
  | cons h2 r =>
  cases r with
  | cons h3 r =>
  cases r with
  | cons h4 r =>
  cases r
  cases h1
  cases h2
  cases h4
  cases h3 with
  | tup e q => exact ⟨_, _, rfl, h, by rw [e, dva_strs q]⟩
theorem dv_lt_of {H : Hp} {l : Lt} {ta sa : Addr} (h : H ta = some (.tup [.int l.n, .int l.b, .ref sa, .int l.m])) (h2 : H sa = some (.tup (l.s.map V.str))) : Dv H (.ref ta) (ltD l) :=
  .tup h (.cons (.int _) (.cons (.int _) (.cons (.tup h2 (dv_strs _)) (.cons (.int _) .nil))))
abbrev sSig : Stmt := mS 15
abbrev nSig : List Str := ["self", "numbers", "renewed", "chosen", "folder", "letters", "number", "body", "signs", "mark", "wanted"]
abbrev pSig : List Str := ["self", "numbers", "renewed"]
theorem scSig : FnScope nSig pSig (defScope sSig) := ⟨rfl, rfl, rfl, by decide +kernel, rfl, by decide +kernel, by decide +kernel⟩
/-- what _signed makes of a lambda that makes g of the signs -/
def TSig (C : Addr) (g : List Str → List Str) : V → V → (V → Hp → VK → Prop) → Hp → VK → Prop := fun x y tl H Q => ∃ p na F ns, x = .ref p ∧ y = .ref na ∧ FoAt C H p F ∧ 1 ≤ F.age ∧ NumsAt H na ns ∧ F.ls.length ≤ 1000 ∧ (∀ l ∈ F.ls, OkSs l.s) ∧ (∀ ss, OkSs ss → OkSs (g ss)) ∧
  (∀ a ss H' Q', Same H H' → OkSs ss → H' a = some (.tup (ss.map V.str)) → (∀ b H'', Same H' H'' → H'' b = some (.tup ((g ss).map V.str)) → Q' (.ref b) H'') → tl (.ref a) H' Q') ∧
  ∀ q H', Same H H' → H q = none → FoAt C H' q (fSig F ns g) → Q (.ref q) H'
theorem newS_u {ns : List Int} {g : List Str → List Str} {l : Lt} (hl : OkSs l.s) (hg : ∀ ss, OkSs ss → OkSs (g ss)) : OkSs (newS ns g l) := by
  unfold newS
  by_cases c : l.n ∈ ns
  · rw [if_pos c]; exact hg _ hl
  · rw [if_neg c]; exact hl
theorem signed_gives {X : Cx} {C c0 : Addr} {cdg : Value} {q : Str} {g : List Str → List Str} (T : Bk X.mg) (t : ClT X.K X.mg C) (M_copied : MDef X.prog X.w X.K X.mg X.base CX0 5 C "_copied" nSelf (spCopied C)) :
    LamY.GivesM 6 X nSig "Folder._signed" (defScope sSig) c0 cdg (defBody sSig) 2 "renewed" q (TSig C g) := by
  intro f c' s H Q x0 y0 tl hr hcall hc h
  have nd := scSig.nd
  obtain ⟨p, na, F, ns, rfl, rfl, ⟨dx, tl', tg, hp, h1, h2⟩, ha, hn, hl, hu, hg, hlam, q⟩ := h
  refine ⟨_, pss_cons (ps_set (i := 3) nd rfl (Or.inl rfl) (pe_callTy (cr_setTupW (w := X.w) (K := X.K) rfl rfl rfl) (by rfl) T.set PyProof.Rows.boot_set (pa_cons (pv 1) pa_nil)))
 (pss_cons (ps_set (i := 4) nd rfl (Or.inl rfl) (pe_mdef0 M_copied t.cl (hr.mono (by decide)) pass0 (pv 0)))
 (pss_cons (ps_set (i := 5) nd rfl (Or.inl rfl) (pe_lst pa_nil))
 (C8.pss_cut (ps_for PassesOwn.never rfl (pi_tupK (K := X.K) rfl (pe_fld (pv 0) rfl)) (pg_tup rfl (pgs_cons (pg_name (i := 6) nd rfl (Or.inl rfl)) (pgs_cons (pg_name (i := 7) nd rfl (Or.inl rfl)) (pgs_cons (pg_name (i := 8) nd rfl (Or.inl rfl)) (pgs_cons (pg_name (i := 9) nd rfl (Or.inl rfl)) pgs_nil)))))
   (C8.pss_cut (ps_set (i := 10) nd rfl (Or.inl rfl) (pe_ifExp (pt_cmpR or_sin (pv 6) (pv 3) (by rfl)) (hcall _ _ _ _ (pv 8) rfl) (pv 8)))
   (pss_cons (ps_if (pt_cmpR (op_neDK (K := X.K) rfl hr.units) (pv 10) (pv 8) (nomark _))
     (pss_cons (ps_fldaug (pv 4) pe_int in_add) (pss_one (ps_set (i := 9) nd rfl (Or.inl rfl) (pe_fld (pv 4) rfl))))
     pss_nil)
   (pss_one (ps_expr (pe_bm PySem.F.plainAttrs_list PySem.F.slot_list_append PySem.F.type_list_append mt_append (pv 5) (pa_cons (pe_tup (pa_cons (pv 6) (pa_cons (pv 7) (pa_cons (pv 10) (pa_cons (pv 9) pa_nil))))) pa_nil)))))))
 (pss_cons (ps_fld (pv 4) (pe_callTy (call_tuple_ofK (K := X.K) rfl) (by rfl) T.tuple PyProof.Rows.boot_tuple (pa_cons (pv 5) pa_nil)) rfl)
 (pss_one (ps_ret (pv 4))))))), ?_⟩
  obtain ⟨xs, e0, r0⟩ := Dv.tups h1
  refine ⟨_, rfl, na, ns, rfl, st hn.at_, hn.len, fun cs nn ncs => ?_⟩
  have s2 := same_new (H := H) ncs (o := SetO X.w cs (fun j => decide (j ∈ ns)) nn)
  have hcs2 : (upd H cs (SetO X.w cs (fun j => decide (j ∈ ns)) nn)) cs = some (SetO X.w cs (fun j => decide (j ∈ ns)) nn) := upd_same
  generalize upd H cs (SetO X.w cs (fun j => decide (j ∈ ns)) nn) = H2 at s2 hcs2
  refine ⟨_, rfl, p, dx, _, rfl, s2 _ _ hp, fl_no (by decide +kernel), p, dx, tl', tg, F.age, F.nx, F.mr, F.ct, rfl, s2 _ _ hp, ha, fun x dq H3 s3 nx hx => ?_⟩
  have s23 := s2.trans s3
  have nxH : H x = none := s2.free nx
  have hcs3 := s3 _ _ hcs2
  refine ⟨Nat.zero_le _, fun lk nlk => ?_⟩
  have s4 := s23.new nlk (o := .lst [])
  have nlkH : H lk = none := s23.free nlk
  have xlk : x ≠ lk := ne_of_none hx nlk
  have csk : cs ≠ lk := ne_of_none hcs3 nlk
  have csx : cs ≠ x := fun z => by rw [z] at hcs3; rw [hx] at hcs3; simp [SetO] at hcs3
  refine ⟨fun σ G => ∃ v6 v7 v8 v9 v10 ks kept m, σ = [some (.ref p), some (.ref na), some (.ref f), some (.ref cs), some (.ref x), some (.ref lk), v6, v7, v8, v9, v10] ∧ Same H G ∧ G x = some (.ins C dq (flds (.int F.age) (.ref tl') (.int F.nx) (.int m) (.ref tg) (.int F.ct))) ∧ G lk = some (.lst ks) ∧ DvA G ks (kept.map ltD) ∧
      sigL ns g F.ls F.mr = (kept, m) ∧ kept.length ≤ 1000, ?_, ?_⟩
  · refine ⟨_, rfl, p, C, dx, _, _, rfl, s4 _ _ hp, t.cl, t.nL, fl_let, tl', rfl, ⟨_, st (s4 _ _ e0)⟩, for_tup (K := X.K) (a := tl') (xs := xs) (fun i σ G => ∃ v6 v7 v8 v9 v10 ks kept m, σ = [some (.ref p), some (.ref na), some (.ref f), some (.ref cs), some (.ref x), some (.ref lk), v6, v7, v8, v9, v10] ∧ Same H G ∧ G cs = some (SetO X.w cs (fun j => decide (j ∈ ns)) nn) ∧ G x = some (.ins C dq (flds (.int F.age) (.ref tl') (.int F.nx) (.int m) (.ref tg) (.int F.ct))) ∧ G lk = some (.lst ks) ∧ DvA G ks (kept.map ltD) ∧
          sigL ns g F.ls F.mr = (kept ++ (sigL ns g (F.ls.drop i) m).1, (sigL ns g (F.ls.drop i) m).2) ∧ kept.length ≤ i) ?_ ?_ ?_ ?_⟩
    · exact ⟨none, none, none, none, none, [], [], F.mr, rfl, s4, (by rw [upd_ne csk]; exact hcs3), (by rw [upd_ne xlk]; exact hx), upd_same, .nil, rfl, Nat.le_refl _⟩
    · rintro i σ G _ ⟨v6, v7, v8, v9, v10, ks, kept, m, rfl, sG, _⟩
      exact st (sG _ _ e0)
    · rintro i y σ G hy ⟨v6, v7, v8, v9, v10, ks, kept, m, rfl, sG, hcs, hx, hk, dk, er, l1⟩
      have hi := lt_of_get hy
      have hlen := r0.len
      rw [List.length_map] at hlen
      obtain ⟨e, he, hde⟩ := (r0.same sG).get hy
      rw [List.getElem?_map] at he
      cases hF : F.ls[i]? with
      | none => rw [hF] at he; cases he
      | some l =>
        rw [hF] at he
        obtain rfl := (Option.some.inj he).symm
        rw [drop_cons hF] at er
        have hlU : OkSs l.s := hu l (List.mem_of_getElem? hF)
        have hnU : OkSs (newS ns g l) := newS_u hlU hg
        obtain ⟨ta, sa, rfl, hta, hsa⟩ := dv_lt hde
        refine ⟨ta, _, rfl, st hta, rfl, _, _, rfl, _, _, rfl, _, _, rfl, _, _, rfl, rfl, ?_⟩
        refine ⟨fun σ2 G2 => ∃ b, σ2 = [some (.ref p), some (.ref na), some (.ref f), some (.ref cs), some (.ref x), some (.ref lk), some (.int l.n), some (.int l.b), some (.ref sa), some (.int l.m), some (.ref b)] ∧ Same G G2 ∧ G2 b = some (.tup ((newS ns g l).map V.str)), ?_, ?_⟩
        · refine ⟨_, rfl, _, rfl, l.n, cs, _, nn, rfl, rfl, hcs, _, rfl, ?_⟩
          by_cases c : l.n ∈ ns
          · refine itbT (decide_eq_true c) ⟨rfl, _, rfl, sG _ _ hc, hlam sa l.s G _ sG hlU hsa fun b G2 s2 hb => ?_⟩
            exact ⟨b, rfl, s2, by unfold newS; rw [if_pos c]; exact hb⟩
          · refine itbF (decide_eq_false c) ⟨_, rfl, ?_⟩
            exact ⟨sa, rfl, fun _ _ h => h, by unfold newS; rw [if_neg c]; exact hsa⟩
        · rintro σ2 G2 ⟨b, rfl, s2, hb⟩
          have sG2 := sG.trans s2
          have hsa2 := s2 _ _ hsa
          have hx2 := s2 _ _ hx
          have hk2 := s2 _ _ hk
          have hcs2 := s2 _ _ hcs
          have dk2 := dk.same s2
          refine ⟨_, rfl, _, rfl, .tuple ((newS ns g l).map PyData.str), .tuple (l.s.map PyData.str), (Dv.tup hb (dv_strs _)).dp (nd_strs _), (Dv.tup hsa2 (dv_strs _)).dp (nd_strs _), g_shape hnU.ok, g_shape hlU.ok, _, rfl, ?_⟩
          rw [g_eqv]
          have xk : x ≠ lk := fun z => by rw [z, hk] at hx; cases hx
          by_cases c : newS ns g l = l.s
          · refine itbF (by rw [decide_eq_true c]; rfl) ?_
            refine ⟨_, rfl, .inl ⟨rfl, _, sq hk2⟩, _, rfl, _, rfl, _, rfl, _, rfl, by show 4 ≤ sizeLine; decide, fun nt nnt => ?_⟩
            have sB := same_new (o := .tup [.int l.n, .int l.b, .ref b, .int l.m]) nnt
            have hkB := sB _ _ hk2
            refine ⟨lk, _, _, rfl, rfl, hkB, lt2 _ (by rw [dk2.len, List.length_map]; omega), ?_⟩
            have er' : sigL ns g F.ls F.mr = ((kept ++ [l]) ++ (sigL ns g (F.ls.drop (i + 1)) m).1, (sigL ns g (F.ls.drop (i + 1)) m).2) := by
              rw [er]
              simp only [sigL, if_pos c, List.append_assoc, List.singleton_append]
            refine ⟨_, _, _, _, _, ks ++ [.ref nt], kept ++ [l], m, rfl, (sG2.trans sB).mut nlkH, (by rw [upd_ne csk]; exact sB _ _ hcs2), (by rw [upd_ne xk]; exact sB _ _ hx2), upd_same, ?_, er', by rw [List.length_append]; show kept.length + 1 ≤ i + 1; omega⟩
            rw [List.map_append]
            refine ((dk2.same sB).app (.cons (dv_lt_of upd_same (sB _ _ ?_)) .nil)).mut hkB (fun _ z => by cases z) (by rw [show kept.map ltD ++ [ltD l] = (kept ++ [l]).map ltD by rw [List.map_append]; rfl]; exact tO_lts _)
            rw [← c]; exact hb
          · refine itbT (by rw [decide_eq_false c]; rfl) ?_
            refine ⟨_, rfl, x, C, dq, _, _, rfl, hx2, t.cl, t.nM, fl_mk, _, _, rfl, rfl, dq, _, hx2, by show 6 < 1000; decide, ?_⟩
            rw [pu_mk]
            have sA := sG2.mut nxH (o := .ins C dq (flds (.int F.age) (.ref tl') (.int F.nx) (.int (m + 1)) (.ref tg) (.int F.ct)))
            have dkA := dk2.mut (o' := .ins C dq (flds (.int F.age) (.ref tl') (.int F.nx) (.int (m + 1)) (.ref tg) (.int F.ct))) hx2 (fun _ z => by cases z) (tO_lts _)
            have hxA : (upd G2 x (.ins C dq (flds (.int F.age) (.ref tl') (.int F.nx) (.int (m + 1)) (.ref tg) (.int F.ct)))) x = some (.ins C dq (flds (.int F.age) (.ref tl') (.int F.nx) (.int (m + 1)) (.ref tg) (.int F.ct))) := upd_same
            have hkA : (upd G2 x (.ins C dq (flds (.int F.age) (.ref tl') (.int F.nx) (.int (m + 1)) (.ref tg) (.int F.ct)))) lk = some (.lst ks) := by rw [upd_ne xk.symm]; exact hk2
            have hcA : (upd G2 x (.ins C dq (flds (.int F.age) (.ref tl') (.int F.nx) (.int (m + 1)) (.ref tg) (.int F.ct)))) cs = some (SetO X.w cs (fun j => decide (j ∈ ns)) nn) := by rw [upd_ne csx]; exact hcs2
            have hbA : (upd G2 x (.ins C dq (flds (.int F.age) (.ref tl') (.int F.nx) (.int (m + 1)) (.ref tg) (.int F.ct)))) b = some (.tup ((newS ns g l).map V.str)) := by rw [upd_ne (fun z => by rw [z, hx2] at hb; cases hb)]; exact hb
            generalize upd G2 x (.ins C dq (flds (.int F.age) (.ref tl') (.int F.nx) (.int (m + 1)) (.ref tg) (.int F.ct))) = GA at sA dkA hxA hkA hcA hbA
            refine ⟨_, rfl, x, C, dq, _, _, rfl, hxA, t.cl, t.nM, fl_mk, ?_⟩
            refine ⟨_, rfl, .inl ⟨rfl, _, sq hkA⟩, _, rfl, _, rfl, _, rfl, _, rfl, by show 4 ≤ sizeLine; decide, fun nt nnt => ?_⟩
            have sB := same_new (o := .tup [.int l.n, .int l.b, .ref b, .int (m + 1)]) nnt
            have hkB := sB _ _ hkA
            refine ⟨lk, _, _, rfl, rfl, hkB, lt2 _ (by rw [dkA.len, List.length_map]; omega), ?_⟩
            have er' : sigL ns g F.ls F.mr = ((kept ++ [⟨l.n, l.b, newS ns g l, m + 1⟩]) ++ (sigL ns g (F.ls.drop (i + 1)) (m + 1)).1, (sigL ns g (F.ls.drop (i + 1)) (m + 1)).2) := by
              rw [er]
              simp only [sigL, if_neg c, List.append_assoc, List.singleton_append]
            refine ⟨_, _, _, _, _, ks ++ [.ref nt], kept ++ [⟨l.n, l.b, newS ns g l, m + 1⟩], m + 1, rfl, (sA.trans sB).mut nlkH, (by rw [upd_ne csk]; exact sB _ _ hcA), (by rw [upd_ne xk]; exact sB _ _ hxA), upd_same, ?_, er', by rw [List.length_append]; show kept.length + 1 ≤ i + 1; omega⟩
            rw [List.map_append]
            exact ((dkA.same sB).app (.cons (dv_lt_of (l := ⟨l.n, l.b, newS ns g l, m + 1⟩) upd_same (sB _ _ hbA)) .nil)).mut hkB (fun _ z => by cases z) (by rw [show kept.map ltD ++ [ltD (⟨l.n, l.b, newS ns g l, m + 1⟩ : Lt)] = (kept ++ [(⟨l.n, l.b, newS ns g l, m + 1⟩ : Lt)]).map ltD by rw [List.map_append]; rfl]; exact tO_lts _)
    · rintro σ G ⟨v6, v7, v8, v9, v10, ks, kept, m, rfl, sG, hcs, hx, hk, dk, er, l1⟩
      have hlen := r0.len
      rw [List.length_map] at hlen
      rw [hlen, List.drop_length] at er
      refine ⟨v6, v7, v8, v9, v10, ks, kept, m, rfl, sG, hx, hk, dk, ?_, by omega⟩
      rw [er]
      simp [sigL]
  · rintro σ G ⟨v6, v7, v8, v9, v10, ks, kept, m, rfl, sG, hx, hk, dk, er, l1⟩
    refine ⟨_, rfl, lk, ks, rfl, .inl ⟨sq hk, fun tk ntk => ?_⟩⟩
    have sA := same_new (o := .tup ks) ntk
    refine ⟨_, rfl, x, C, dq, _, rfl, sA _ _ hx, t.cl, t.nL, by show 6 < 1000; decide, ?_⟩
    rw [pu_let]
    have nxt : x ≠ tk := ne_of_none hx ntk
    have sB := ((sG.trans sA).mut nxH (o := .ins C dq (flds (.int F.age) (.ref tk) (.int F.nx) (.int m) (.ref tg) (.int F.ct))))
    refine ⟨_, rfl, q x _ sB nxH ?_⟩
    have ef : fSig F ns g = { F with ls := kept, mr := m } := by unfold fSig; rw [er]
    rw [ef]
    refine ⟨dq, tk, tg, upd_same, .tup (by rw [upd_ne nxt.symm]; exact upd_same) ((dk.same sA).mut (sA _ _ hx) (fun _ z => by cases z) (tO_lts _)), h2.same sB⟩
end K1


set_option Elab.async false
set_option linter.all false
set_option maxRecDepth 100000
set_option maxHeartbeats 2000000
namespace K1
open PySem PySem.Spec PyProof.Rows L2 RZ StX
theorem Fo_ext {C p : Addr} {H H' : Hp} {F : Fo} (h : FoAt C H p F) (s : LamX.ExtN H H') : FoAt C H' p F := let ⟨dx, tl, tg, a, b, c⟩ := h; ⟨dx, tl, tg, s _ _ a fun _ z => (by cases z), b.ext s, c.ext s⟩
theorem NumsAt.ext {H H' : Hp} {a : Addr} {ns : List Int} (h : NumsAt H a ns) (s : LamX.ExtN H H') : NumsAt H' a ns := ⟨s _ _ h.at_ fun _ z => (by cases z), h.one, h.len⟩
theorem tup_ext {H H' : Hp} {a : Addr} {xs : List V} (h : H a = some (.tup xs)) (s : LamX.ExtN H H') : H' a = some (.tup xs) := s _ _ h fun _ z => (by cases z)
/-- the method that gets the lambdas -/
structure SgD (K : PySem.W.Frag) (C : Addr) : Prop where
  ex : ∃ (f : Addr) (fd : FuncData), Meth K C "_signed" f ∧ Fun K "_signed" "Folder._signed" sSig f fd
theorem pe_signed {X : Cx} {C c P : Addr} {T : List (Addr × Str)} {xp : Str} {g : List Str → List Str} {o e : Expr} {params : Arguments} {body : Expr} {scope : Scope} {ta te tb : TE} {apos lpos pos : Pos} {pl : Sem Bool} (D : SgD X.K C) (Tb : Bk X.mg) (tC : ClT X.K X.mg C) (Mc : MDef X.prog X.w X.K X.mg X.base CX0 5 C "_copied" nSelf (spCopied C))
    (ho : PE X o ta) (he : PE X e te)
    (TB : LamX.TabB X.base X.mg c P) (hcode : X.env.code = .ref c) (hmT : (P, X.env.qual ++ "<lambda>") ∈ T) (hu : ∀ p ∈ T, p.1 = P → p.2 = X.env.qual ++ "<lambda>") (hr : Room 7 X.A) (L : LamY.LamS1 X.env.scope scope xp) (hxn : xp ∉ X.N) (hdef : defaultsOf params X.env = ([], []))
    (hbind : ∀ (q : Str) (cl : List (Str × Addr)) (pm cv ctv u : Value), bindArgs (PySem.W.kla_fn "<lambda>" q params body scope cl pm cv ctv) ⟨[u], []⟩ = pure [(xp, u)])
    (hbody : ∀ (A : Around) (outer : List Env) (s : Shared) (H : Hp) (f c' : Addr), Room 5 (A.deeper (LamX.lamEnv X scope s.heap.objs.size f c')) → PE (LamY.lamCx1 X A outer s H C8.E0 scope xp f c') body tb)
    (hst : starEach [e, .Lambda params body scope lpos] X.env = (false, eval e X.env) :: starEach [.Lambda params body scope lpos] X.env := by rfl) (hpl : (backTo pos (starEach [.Lambda params body scope lpos] X.env)).any (·.1) = false := by rfl)
    (ht : eval (.Call (.Attribute o "_signed" apos) [e, .Lambda params body scope lpos] [] pos) X.env = (do
      let ov ← eval o X.env
      standAt apos.atName
      let (f, first) ← holding [ov] (getMethod ov "_signed" pl)
      callWith pos f first (backTo pos (starEach [e, .Lambda params body scope lpos] X.env)) (backToKw pos (keywordEach [] X.env))) := by rfl) :
    PE X (.Call (.Attribute o "_signed" apos) [e, .Lambda params body scope lpos] [] pos) (LamY.tMethLam T C "_signed" (TSig C g) ta te tb) := by
  obtain ⟨f, fd, hm, F⟩ := D.ex
  obtain ⟨oc, od, kV, doc, pm, an, cdv, ct, osl, rfl, lk, hcd⟩ := F.ex
  exact LamY.pe_methlam (k := 5) (a := "renewed") ho tC.cl hm he lk hcd (F.binds (ps := pSig) fun _ _ _ _ _ _ us hl => match us, hl with | [_, _, _], _ => rfl) scSig rfl (.inl rfl) (signed_gives Tb tC Mc) TB hcode hmT hu hr L hxn hdef hbind hbody (hst := hst) (hpl := hpl) (ht := ht)
abbrev lamA : Str := "Folder.added" ++ ".<locals>." ++ "<lambda>"
abbrev lamT : Str := "Folder.taken" ++ ".<locals>." ++ "<lambda>"
abbrev lamS : Str := "Folder.set_to" ++ ".<locals>." ++ "<lambda>"
def T3 (PA PT PS : Addr) : List (Addr × Str) := [(PA, lamA), (PT, lamT), (PS, lamS)]
structure Ap (PA PT PS : Addr) : Prop where
  af : PA ≠ PT
  al : PA ≠ PS
  fl : PT ≠ PS
theorem Ap.a {PA PF PL : Addr} (h : Ap PA PF PL) : ∀ p ∈ T3 PA PF PL, p.1 = PA → p.2 = lamA := by
  intro p hp e
  simp only [T3, List.mem_cons, List.not_mem_nil, or_false] at hp
  rcases hp with rfl | rfl | rfl
  · rfl
  · exact absurd e.symm h.af
  · exact absurd e.symm h.al
theorem Ap.t {PA PF PL : Addr} (h : Ap PA PF PL) : ∀ p ∈ T3 PA PF PL, p.1 = PF → p.2 = lamT := by
  intro p hp e
  simp only [T3, List.mem_cons, List.not_mem_nil, or_false] at hp
  rcases hp with rfl | rfl | rfl
  · exact absurd e h.af
  · rfl
  · exact absurd e.symm h.fl
theorem Ap.s {PA PF PL : Addr} (h : Ap PA PF PL) : ∀ p ∈ T3 PA PF PL, p.1 = PL → p.2 = lamS := by
  intro p hp e
  simp only [T3, List.mem_cons, List.not_mem_nil, or_false] at hp
  rcases hp with rfl | rfl | rfl
  · exact absurd e h.al
  · exact absurd e h.fl
  · rfl
theorem mem_a {PA PF PL : Addr} : (PA, lamA) ∈ T3 PA PF PL := List.mem_cons_self
theorem mem_t {PA PF PL : Addr} : (PF, lamT) ∈ T3 PA PF PL := List.mem_cons_of_mem _ List.mem_cons_self
theorem mem_s {PA PF PL : Addr} : (PL, lamS) ∈ T3 PA PF PL := List.mem_cons_of_mem _ (List.mem_cons_of_mem _ List.mem_cons_self)
abbrev sAdd : Stmt := mS 9
abbrev sTake : Stmt := mS 10
abbrev sSet : Stmt := mS 11
abbrev nAdd : List Str := ["self", "numbers", "sign"]
theorem scAdd : FnScope nAdd nAdd (defScope sAdd) := ⟨rfl, rfl, rfl, by decide +kernel, rfl, by decide +kernel, by decide +kernel⟩
theorem scTake : FnScope nAdd nAdd (defScope sTake) := ⟨rfl, rfl, rfl, by decide +kernel, rfl, by decide +kernel, by decide +kernel⟩
abbrev nSet : List Str := ["self", "numbers", "signs"]
theorem scSet : FnScope nSet nSet (defScope sSet) := ⟨rfl, rfl, rfl, by decide +kernel, rfl, by decide +kernel, by decide +kernel⟩
/-- a deed that renews signs -/
def spSgn (C PA PT PS : Addr) (G : Str → List Str → List Str) : Sp := fun vs H Q _ => ∃ (p na : Addr) (F : Fo) (ns : List Int) (z : Str), vs = [.ref p, .ref na, .str z] ∧ FoAt C H p F ∧ 1 ≤ F.age ∧ NumsAt H na ns ∧ F.ls.length ≤ 1000 ∧ (∀ l ∈ F.ls, OkSs l.s) ∧ okS z = true ∧ LamX.Tabs (T3 PA PT PS) H ∧
  ∀ q H', LamX.ExtN H H' → LamX.Tabs (T3 PA PT PS) H' → FoAt C H' q (fSig F ns (G z)) → Q (.ref q) H'
def spSet (C PA PT PS : Addr) : Sp := fun vs H Q _ => ∃ (p na sa : Addr) (F : Fo) (ns : List Int) (zs : List Str), vs = [.ref p, .ref na, .ref sa] ∧ FoAt C H p F ∧ 1 ≤ F.age ∧ NumsAt H na ns ∧ F.ls.length ≤ 1000 ∧ (∀ l ∈ F.ls, OkSs l.s) ∧ OkSs zs ∧ H sa = some (.tup (zs.map V.str)) ∧ LamX.Tabs (T3 PA PT PS) H ∧
  ∀ q H', LamX.ExtN H H' → LamX.Tabs (T3 PA PT PS) H' → FoAt C H' q (fSig F ns (fun _ => zs)) → Q (.ref q) H'
section
variable {P : Program} {w : World} {K : PySem.W.Frag} {mg : Str → Option Value} {base : Heap} {C PA PT PS c : Addr}
theorem ok_add {f : Addr} {oc : Value} {od : Option Addr} {kV doc pm : Value} {an : Option Addr} {ct : Value} {osl : Array (Option Value)} (T : Bk mg) (t : ClT K mg C) (ap : Ap PA PT PS) (DS : SgD K C) (TB : LamX.TabB base mg c PA)
    (D_check_numbers : Def P w K mg base CX0 4 "_check_numbers" nCkNums spCkNums) (D_is_sign : Def P w K mg base CX0 1 "is_sign" pV spSign) (D_with : Def P w K mg base CX0 1 "_with_sign" nWith spWith) (M_copied : MDef P w K mg base CX0 5 C "_copied" nSelf (spCopied C))
    (lk : K.lookup f = some ⟨oc, od, .func (PySem.W.fnOf "added" "Folder.added" (defArgs sAdd) (defBody sAdd) (defScope sAdd) .none kV doc pm an (.ref c) ct), osl⟩) (hcd : PySem.W.codeIn K (.ref c) "Folder.added" = true) :
    FnOk P w K mg base CX0 8 f (PySem.W.fnOf "added" "Folder.added" (defArgs sAdd) (defBody sAdd) (defScope sAdd) .none kV doc pm an (.ref c) ct) nAdd (spSgn C PA PT PS (fun z ss => wG ss z)) := by
  have nd := scAdd.nd
  have hu1 := ap.a
  refine fn_of lk hcd scAdd (fun vs H Q E h => ?_) (fun A outer s H vs Q E hr h => ?_)
  · obtain ⟨p, na, F, ns, z, rfl, _⟩ := h
    rfl
  · obtain ⟨p, na, F, ns, z, rfl, hF, ha, hn, hl, hu, hz, hT, q⟩ := h
    refine ⟨_, PSs.nox (pss_cons (ps_expr (pe_def D_check_numbers (hr.mono (by decide)) rfl pass0 (pa_cons (pv 1) pa_nil)))
 (pss_cons (ps_if (pt_not (pt_val (pe_def D_is_sign (hr.mono (by decide)) rfl pass0 (pa_cons (pv 2) pa_nil)))) pss_any pss_nil)
 (pss_one (ps_ret (pe_signed (T := T3 PA PT PS) (g := fun ss => wG ss z) DS T t M_copied (pv 0) (pv 1) TB rfl mem_a hu1 hr (LamY.lamS1_by (by rfl)) (show ("signs" : Str) ∉ nAdd by decide +kernel) rfl (fun _ _ _ _ _ _ => rfl) (fun _ _ _ _ _ _ hr2 => pe_def D_with (hr2.mono (by decide)) rfl pass0 (pa_cons (pv 3) (pa_cons (pv 2) pa_nil)))))))), ?_⟩
    refine ⟨_, rfl, na, ns, rfl, hn.at_, hn.one, hn.len, fun H1 s1 => ?_⟩
    refine ⟨_, rfl, z, rfl, hz, fun H2 s2 => ⟨_, rfl, itbF rfl ?_⟩⟩
    have s12 := s1.trans s2
    obtain ⟨dx, tl, tg, hp, h1, h2⟩ := hF.same s12
    refine ⟨_, rfl, p, dx, _, rfl, hp, fl_no (by decide +kernel), _, rfl, hT.ext s12, fun H3 e3 t3 => ?_⟩
    refine ⟨p, na, F, ns, rfl, rfl, Fo_ext (hF.same s12) e3, ha, (hn.ext (LamX.ExtN.of s12)).ext e3, hl, hu, fun ss hs => wG_ok hs hz, fun a ss H' Q' s3 hs has k => ?_, fun q' H' s3 _ hF' => q q' H' (((LamX.ExtN.of s12).trans e3).trans (LamX.ExtN.of s3)) (t3.ext s3) hF'⟩
    exact ⟨_, rfl, _, rfl, a, ss, z, rfl, has, hs, hz, k⟩
theorem ok_take {f : Addr} {oc : Value} {od : Option Addr} {kV doc pm : Value} {an : Option Addr} {ct : Value} {osl : Array (Option Value)} (T : Bk mg) (t : ClT K mg C) (ap : Ap PA PT PS) (DS : SgD K C) (TB : LamX.TabB base mg c PT)
    (D_check_numbers : Def P w K mg base CX0 4 "_check_numbers" nCkNums spCkNums) (D_is_sign : Def P w K mg base CX0 1 "is_sign" pV spSign) (D_wout : Def P w K mg base CX0 1 "_without_sign" nWith spWout) (M_copied : MDef P w K mg base CX0 5 C "_copied" nSelf (spCopied C))
    (lk : K.lookup f = some ⟨oc, od, .func (PySem.W.fnOf "taken" "Folder.taken" (defArgs sTake) (defBody sTake) (defScope sTake) .none kV doc pm an (.ref c) ct), osl⟩) (hcd : PySem.W.codeIn K (.ref c) "Folder.taken" = true) :
    FnOk P w K mg base CX0 8 f (PySem.W.fnOf "taken" "Folder.taken" (defArgs sTake) (defBody sTake) (defScope sTake) .none kV doc pm an (.ref c) ct) nAdd (spSgn C PA PT PS (fun z ss => nS ss z)) := by
  have nd := scTake.nd
  have hu1 := ap.t
  refine fn_of lk hcd scTake (fun vs H Q E h => ?_) (fun A outer s H vs Q E hr h => ?_)
  · obtain ⟨p, na, F, ns, z, rfl, _⟩ := h
    rfl
  · obtain ⟨p, na, F, ns, z, rfl, hF, ha, hn, hl, hu, hz, hT, q⟩ := h
    refine ⟨_, PSs.nox (pss_cons (ps_expr (pe_def D_check_numbers (hr.mono (by decide)) rfl pass0 (pa_cons (pv 1) pa_nil)))
 (pss_cons (ps_if (pt_not (pt_val (pe_def D_is_sign (hr.mono (by decide)) rfl pass0 (pa_cons (pv 2) pa_nil)))) pss_any pss_nil)
 (pss_one (ps_ret (pe_signed (T := T3 PA PT PS) (g := fun ss => nS ss z) DS T t M_copied (pv 0) (pv 1) TB rfl mem_t hu1 hr (LamY.lamS1_by (by rfl)) (show ("signs" : Str) ∉ nAdd by decide +kernel) rfl (fun _ _ _ _ _ _ => rfl) (fun _ _ _ _ _ _ hr2 => pe_def D_wout (hr2.mono (by decide)) rfl pass0 (pa_cons (pv 3) (pa_cons (pv 2) pa_nil)))))))), ?_⟩
    refine ⟨_, rfl, na, ns, rfl, hn.at_, hn.one, hn.len, fun H1 s1 => ?_⟩
    refine ⟨_, rfl, z, rfl, hz, fun H2 s2 => ⟨_, rfl, itbF rfl ?_⟩⟩
    have s12 := s1.trans s2
    obtain ⟨dx, tl, tg, hp, h1, h2⟩ := hF.same s12
    refine ⟨_, rfl, p, dx, _, rfl, hp, fl_no (by decide +kernel), _, rfl, hT.ext s12, fun H3 e3 t3 => ?_⟩
    refine ⟨p, na, F, ns, rfl, rfl, Fo_ext (hF.same s12) e3, ha, (hn.ext (LamX.ExtN.of s12)).ext e3, hl, hu, fun ss hs => nS_ok hs, fun a ss H' Q' s3 hs has k => ?_, fun q' H' s3 _ hF' => q q' H' (((LamX.ExtN.of s12).trans e3).trans (LamX.ExtN.of s3)) (t3.ext s3) hF'⟩
    exact ⟨_, rfl, _, rfl, a, ss, z, rfl, has, hs, hz, k⟩
theorem ok_set {f : Addr} {oc : Value} {od : Option Addr} {kV doc pm : Value} {an : Option Addr} {ct : Value} {osl : Array (Option Value)} (T : Bk mg) (t : ClT K mg C) (ap : Ap PA PT PS) (DS : SgD K C) (TB : LamX.TabB base mg c PS)
    (D_check_numbers : Def P w K mg base CX0 4 "_check_numbers" nCkNums spCkNums) (D_is_signs : Def P w K mg base CX0 2 "is_signs" pV spSigns) (M_copied : MDef P w K mg base CX0 5 C "_copied" nSelf (spCopied C))
    (lk : K.lookup f = some ⟨oc, od, .func (PySem.W.fnOf "set_to" "Folder.set_to" (defArgs sSet) (defBody sSet) (defScope sSet) .none kV doc pm an (.ref c) ct), osl⟩) (hcd : PySem.W.codeIn K (.ref c) "Folder.set_to" = true) :
    FnOk P w K mg base CX0 8 f (PySem.W.fnOf "set_to" "Folder.set_to" (defArgs sSet) (defBody sSet) (defScope sSet) .none kV doc pm an (.ref c) ct) nSet (spSet C PA PT PS) := by
  have nd := scSet.nd
  have hu1 := ap.s
  refine fn_of lk hcd scSet (fun vs H Q E h => ?_) (fun A outer s H vs Q E hr h => ?_)
  · obtain ⟨p, na, sa, F, ns, z, rfl, _⟩ := h
    rfl
  · obtain ⟨p, na, sa, F, ns, zs, rfl, hF, ha, hn, hl, hu, hz, hsa, hT, q⟩ := h
    refine ⟨_, PSs.nox (pss_cons (ps_expr (pe_def D_check_numbers (hr.mono (by decide)) rfl pass0 (pa_cons (pv 1) pa_nil)))
 (pss_cons (ps_if (pt_not (pt_val (pe_def D_is_signs (hr.mono (by decide)) rfl pass0 (pa_cons (pv 2) pa_nil)))) pss_any pss_nil)
 (pss_one (ps_ret (pe_signed (T := T3 PA PT PS) (g := fun ss => zs) DS T t M_copied (pv 0) (pv 1) TB rfl mem_s hu1 hr (LamY.lamS1_by (by rfl)) (show ("old" : Str) ∉ nSet by decide +kernel) rfl (fun _ _ _ _ _ _ => rfl) (fun _ _ _ _ _ _ hr2 => pv 2)))))), ?_⟩
    refine ⟨_, rfl, na, ns, rfl, hn.at_, hn.one, hn.len, fun H1 s1 => ?_⟩
    refine ⟨_, rfl, sa, zs, rfl, s1 _ _ hsa, okSs_iff.mpr hz, fun H2 s2 => ⟨_, rfl, itbF rfl ?_⟩⟩
    have s12 := s1.trans s2
    obtain ⟨dx, tl, tg, hp, h1, h2⟩ := hF.same s12
    refine ⟨_, rfl, p, dx, _, rfl, hp, fl_no (by decide +kernel), _, rfl, hT.ext s12, fun H3 e3 t3 => ?_⟩
    refine ⟨p, na, F, ns, rfl, rfl, Fo_ext (hF.same s12) e3, ha, (hn.ext (LamX.ExtN.of s12)).ext e3, hl, hu, fun ss hs => hz, fun a ss H' Q' s3 hs has k => ?_, fun q' H' s3 _ hF' => q q' H' (((LamX.ExtN.of s12).trans e3).trans (LamX.ExtN.of s3)) (t3.ext s3) hF'⟩
    exact ⟨_, rfl, k sa H' (fun _ _ h => h) (s3 _ _ (tup_ext (s12 _ _ hsa) e3))⟩
end
end K1


set_option Elab.async false
set_option linter.all false
set_option maxRecDepth 100000
set_option maxHeartbeats 2000000
namespace K1
open PySem PySem.Spec PyProof.Rows L2 RZ StX
/-! is_mark and trimmed -/
theorem dv_go {H : Hp} {y : V} {g : Int × Int} (h : Dv H y (goD g)) : ∃ ta, y = .ref ta ∧ H ta = some (.tup [.int g.1, .int g.2]) := by
  cases h with
  | tup h r =>
  cases r with
  | cons h1 r =>
  cases r with
  | cons h2 r =>
  cases r
  cases h1
  cases h2
  exact ⟨_, rfl, h⟩
abbrev sIsMark : Stmt := st_is_mark
theorem scIsMark : FnScope nV pV (defScope sIsMark) := ⟨rfl, rfl, rfl, by decide +kernel, rfl, by decide +kernel, by decide +kernel⟩
abbrev sTrim : Stmt := mS 13
abbrev nTrim : List Str := ["self", "mark", "folder", "cut", "row"]
abbrev pTrim : List Str := ["self", "mark"]
theorem scTrim : FnScope nTrim pTrim (defScope sTrim) := ⟨rfl, rfl, rfl, by decide +kernel, rfl, by decide +kernel, by decide +kernel⟩
def mxI (i j : Int) : Int := if j > i then j else i
def fTrim (F : Fo) (m : Int) : Fo := { F with ct := mxI F.ct m, go := F.go.filter fun g => decide (mxI F.ct m < g.1) }
def spTrim (C : Addr) : Sp := fun vs H Q _ => ∃ (p : Addr) (F : Fo) (m : Int), vs = [.ref p, .int m] ∧ FoAt C H p F ∧ 1 ≤ F.age ∧ 0 ≤ m ∧ m ≤ F.mr ∧ F.go.length ≤ 1000 ∧ ∀ q H', Same H H' → H q = none → FoAt C H' q (fTrim F m) → Q (.ref q) H'
section
variable {P : Program} {w : World} {K : PySem.W.Frag} {mg : Str → Option Value} {base : Heap} {C : Addr}
theorem ok_isMark {f : Addr} {fd : FuncData} (D_is_integer : Def P w K mg base CX0 1 "is_integer" pV spInt) (F : Fun K "is_mark" "is_mark" sIsMark f fd) : FnOk P w K mg base CX0 2 f fd pV spBody := by
  refine F.ok scIsMark (fun vs H Q E h => ?_) (fun cdv A outer s H vs Q E hr h => ?_)
  · obtain ⟨n, rfl, _⟩ := h
    rfl
  · obtain ⟨n, rfl, h1, q⟩ := h
    refine ⟨_, (pss_one (ps_ret (pe_and (pe_def D_is_integer (hr.mono (by decide)) rfl pass0 (pa_cons (pv 0) pa_nil)) (pe_one (pe_cmpR op_ge (pv 0) pe_int (nomark _)))))), ?_⟩
    refine ⟨_, rfl, n, rfl, _, rfl, itbT rfl ⟨_, rfl, _, _, rfl, rfl, ?_⟩⟩
    show Q (.bl (decide (0 ≤ n))) H
    rw [decide_eq_true h1]; exact q
theorem ok_trim {f : Addr} {fd : FuncData} (T : Bk mg) (t : ClT K mg C) (D_is_mark : Def P w K mg base CX0 2 "is_mark" pV spBody) (M_copied : MDef P w K mg base CX0 5 C "_copied" nSelf (spCopied C))
    (F : Fun K "trimmed" "Folder.trimmed" sTrim f fd) : FnOk P w K mg base CX0 6 f fd pTrim (spTrim C) := by
  have nd := scTrim.nd
  refine F.ok scTrim (fun vs H Q E h => ?_) (fun cdv A outer s H vs Q E hr h => ?_)
  · obtain ⟨p, F, m, rfl, _⟩ := h
    rfl
  · obtain ⟨p, F, m, rfl, hF, ha, m0, m1, gl, q⟩ := h
    refine ⟨_, pss_cons (ps_if (PW.pt (pw_or (pt_not (pt_val (pe_def D_is_mark (hr.mono (by decide)) rfl pass0 (pa_cons (pv 1) pa_nil)))) (pw_or1 (pt_cmpR op_gt (pv 1) (pe_fld (pv 0) rfl) (nomark _)))))
  pss_any
  pss_nil)
 (pss_cons (ps_set (i := 2) nd rfl (Or.inl rfl) (pe_mdef0 M_copied t.cl (hr.mono (by decide)) pass0 (pv 0)))
 (pss_cons (ps_set (i := 3) nd rfl (Or.inr rfl) (pe_callB (call_max2 rfl) (by rfl) T.max PyProof.Rows.boot_max (pa_cons (pe_fld (pv 0) rfl) (pa_cons (pv 1) pa_nil))))
 (pss_cons (ps_fld (pv 2) (pv 3) rfl)
 (pss_cons (ps_fld (pv 2) (pe_callTy (call_tuple_ofK (K := K) rfl) (by rfl) T.tuple PyProof.Rows.boot_tuple (pa_cons (pe_lc (own := [("row", 4)]) (g := gName 4) rfl nd (pi_tupK (K := K) rfl (pe_fld (pv 0) rfl)) (blkOk_by (own := [("row", 4)]) (N := nTrim) (sc := defScope sTrim) (by decide +kernel)) (fun _ _ _ _ _ => pg_name (i := 4) nd rfl (Or.inl rfl)) (fun _ _ _ _ _ => pts_one (pt_cmpR op_gt (pe_ix (ix_tupK (K := K) rfl) (pv 4) pe_int (fun _ _ => rfl)) (pv 3) (nomark _))) (fun _ _ _ _ _ => (pv 4))) pa_nil)) rfl)
 (pss_one (ps_ret (pv 2))))))), ?_⟩
    obtain ⟨dx, tl, tg, hp, h1, h2⟩ := hF
    obtain ⟨gs, g0, gr0⟩ := Dv.tups h2
    refine ⟨_, rfl, m, rfl, m0, _, rfl, itbF rfl ?_⟩
    refine ⟨_, rfl, _, rfl, p, C, dx, _, _, rfl, hp, t.cl, t.nM, fl_mk, _, _, rfl, rfl, _, rfl, itbF (decide_eq_false (by omega)) ?_⟩
    refine ⟨_, rfl, p, dx, _, rfl, hp, fl_no (by decide +kernel), p, dx, tl, tg, F.age, F.nx, F.mr, F.ct, rfl, hp, ha, fun x dq H3 s3 nx hx => ?_⟩
    refine ⟨_, rfl, p, C, dx, _, _, rfl, s3 _ _ hp, t.cl, t.nC, fl_cut, _, rfl, _, _, rfl, ?_⟩
    refine ⟨_, rfl, _, rfl, x, C, dq, _, rfl, hx, t.cl, t.nC, by show 6 < 1000; decide, ?_⟩
    rw [pu_cut]
    generalize hc : (if m > F.ct then m else F.ct) = c
    have sA := s3.mut nx (o := .ins C dq (flds (.int F.age) (.ref tl) (.int F.nx) (.int F.mr) (.ref tg) (.int c)))
    have hxA : (upd H3 x (.ins C dq (flds (.int F.age) (.ref tl) (.int F.nx) (.int F.mr) (.ref tg) (.int c)))) x = some (.ins C dq (flds (.int F.age) (.ref tl) (.int F.nx) (.int F.mr) (.ref tg) (.int c))) := upd_same
    generalize upd H3 x (.ins C dq (flds (.int F.age) (.ref tl) (.int F.nx) (.int F.mr) (.ref tg) (.int c))) = HA at sA hxA
    have gr := gr0.same sA
    have hgl := gr.len
    rw [List.length_map] at hgl
    refine ⟨_, rfl, p, C, dx, _, _, rfl, sA _ _ hp, t.cl, t.nG, fl_gone, tg, rfl, ⟨_, st (sA _ _ g0)⟩, fun D hD => ?_⟩
    refine lc_tup (K := K) (a := tg) (xs := gs) (fun i H2 => Same HA H2 ∧ ∃ ks, H2 D = some (.lst ks) ∧ DvA H2 ks (((F.go.take i).filter fun g => decide (c < g.1)).map goD)) ⟨same_new hD, [], upd_same, .nil⟩ (fun i H2 _ h => st (h.1 _ _ (sA _ _ g0))) ?_ ?_
    · rintro i y H2 hy ⟨s2, ks, h2, hk⟩
      obtain ⟨e, he, hde⟩ := (gr.same s2).get hy
      rw [List.getElem?_map] at he
      cases hFi : F.go[i]? with
      | none => rw [hFi] at he; cases he
      | some g =>
        rw [hFi] at he
        obtain rfl := (Option.some.inj he).symm
        obtain ⟨ta, rfl, hta⟩ := dv_go hde
        have hlen := hk.len
        have hfl := List.length_filter_le (fun g : Int × Int => decide (c < g.1)) (F.go.take i)
        rw [List.length_map] at hlen
        rw [List.length_take] at hfl
        refine ⟨rfl, _, rfl, ta, _, 0, .int g.1, rfl, rfl, st hta, atI_nat (j := 0) rfl, _, rfl, _, _, rfl, rfl, _, rfl, ?_⟩
        rw [take_more hFi, List.filter_append, List.map_append]
        by_cases cc : c < g.1
        · refine itbT (decide_eq_true cc) ⟨_, rfl, _, h2, lt2 _ (by omega), s2.mut hD, ks ++ [.ref ta], upd_same, ?_⟩
          rw [show [g].filter (fun g => decide (c < g.1)) = [g] by simp [cc]]
          exact (hk.app (.cons hde .nil)).mut h2 (fun _ z => by cases z) (show tOA (((F.go.take i).filter fun g => decide (c < g.1)).map goD ++ [g].map goD) = true by rw [← List.map_append]; exact tO_gos _)
        · refine itbF (decide_eq_false cc) ?_
          rw [show [g].filter (fun g => decide (c < g.1)) = [] by simp [cc], List.map_nil, List.append_nil]
          exact ⟨s2, ks, h2, hk⟩
    · rintro H2 ⟨s2, ks, h2, hk⟩
      rw [hgl, List.take_length] at hk
      refine ⟨D, ks, rfl, .inl ⟨sq h2, fun tn ntn => ?_⟩⟩
      have s5 := same_new (o := .tup ks) ntn
      have hx5 := s5 _ _ (s2 _ _ hxA)
      have nxt : x ≠ tn := ne_of_none (s2 _ _ hxA) ntn
      refine ⟨_, rfl, x, C, dq, _, rfl, hx5, t.cl, t.nG, by show 6 < 1000; decide, ?_⟩
      rw [pu_gone]
      have sZ := ((sA.trans s2).trans s5).mut nx (o := .ins C dq (flds (.int F.age) (.ref tl) (.int F.nx) (.int F.mr) (.ref tn) (.int c)))
      refine ⟨_, rfl, q x _ sZ nx ?_⟩
      have ef : fTrim F m = { F with ct := c, go := F.go.filter fun g => decide (c < g.1) } := by unfold fTrim mxI; rw [hc]
      rw [ef]
      exact ⟨dq, tl, tn, upd_same, h1.same sZ, .tup (by rw [upd_ne nxt.symm]; exact upd_same) ((hk.same s5).mut hx5 (fun _ z => by cases z) (tO_gos _))⟩
end
end K1


set_option Elab.async false
set_option linter.all false
set_option maxRecDepth 100000
set_option maxHeartbeats 2000000
namespace K1
open PySem PySem.Spec PyProof.Rows L2 RZ StX
theorem pe_any {X : Cx} {e : Expr} : PE X e (fun _ _ _ => False) := ⟨fun _ _ _ _ _ _ h => h.elim⟩
/-! ### deeds -/
inductive Dd where
  | app (b : Int) (ss : List Str)
  | add (ns : List Int) (z : Str)
  | take (ns : List Int) (z : Str)
  | set (ns : List Int) (zs : List Str)
  | rem (ns : List Int)
  | trim (m : Int)
def DdAt (H : Hp) (a : Addr) : Dd → Prop
  | .app b ss => ∃ sa, H a = some (.tup [.str "append", .int b, .ref sa]) ∧ H sa = some (.tup (ss.map V.str)) ∧ 0 ≤ b ∧ OkSs ss
  | .add ns z => ∃ na, H a = some (.tup [.str "add", .ref na, .str z]) ∧ NumsAt H na ns ∧ okS z = true
  | .take ns z => ∃ na, H a = some (.tup [.str "take", .ref na, .str z]) ∧ NumsAt H na ns ∧ okS z = true
  | .set ns zs => ∃ na sa, H a = some (.tup [.str "set", .ref na, .ref sa]) ∧ NumsAt H na ns ∧ H sa = some (.tup (zs.map V.str)) ∧ OkSs zs
  | .rem ns => ∃ na, H a = some (.tup [.str "remove", .ref na]) ∧ NumsAt H na ns
  | .trim m => H a = some (.tup [.str "trim", .int m]) ∧ 0 ≤ m
def does : Dd → Fo → Fo
  | .app b ss, F => fApp F b ss
  | .add ns z, F => fSig F ns (fun ss => wG ss z)
  | .take ns z, F => fSig F ns (fun ss => nS ss z)
  | .set ns zs, F => fSig F ns (fun _ => zs)
  | .rem ns, F => fRem F ns
  | .trim m, F => fTrim F m
def wordD : Dd → Str
  | .app _ _ => "append"
  | .add _ _ => "add"
  | .take _ _ => "take"
  | .set _ _ => "set"
  | .rem _ => "remove"
  | .trim _ => "trim"
theorem DdAt.ext {H H' : Hp} {a : Addr} (s : LamX.ExtN H H') : ∀ {d : Dd}, DdAt H a d → DdAt H' a d
  | .app b ss, ⟨sa, h, h2, h3, h4⟩ => ⟨sa, tup_ext h s, tup_ext h2 s, h3, h4⟩
  | .add ns z, ⟨na, h, h2, h3⟩ => ⟨na, tup_ext h s, h2.ext s, h3⟩
  | .take ns z, ⟨na, h, h2, h3⟩ => ⟨na, tup_ext h s, h2.ext s, h3⟩
  | .set ns zs, ⟨na, sa, h, h2, h3, h4⟩ => ⟨na, sa, tup_ext h s, h2.ext s, tup_ext h3 s, h4⟩
  | .rem ns, ⟨na, h, h2⟩ => ⟨na, tup_ext h s, h2.ext s⟩
  | .trim m, ⟨h, h2⟩ => ⟨tup_ext h s, h2⟩
theorem DdAt.same {H H' : Hp} {a : Addr} {d : Dd} (h : DdAt H a d) (s : Same H H') : DdAt H' a d := h.ext (LamX.ExtN.of s)
theorem DdAt.word {H : Hp} {a : Addr} : ∀ {d : Dd}, DdAt H a d → ∃ u rest, H a = some (.tup (.str (wordD d) :: u :: rest)) ∧ rest.length ≤ 1
  | .app b ss, ⟨sa, h, _⟩ => ⟨_, _, h, Nat.le_refl _⟩
  | .add ns z, ⟨na, h, _⟩ => ⟨_, _, h, Nat.le_refl _⟩
  | .take ns z, ⟨na, h, _⟩ => ⟨_, _, h, Nat.le_refl _⟩
  | .set ns zs, ⟨na, sa, h, _⟩ => ⟨_, _, h, Nat.le_refl _⟩
  | .rem ns, ⟨na, h, _⟩ => ⟨_, _, h, Nat.zero_le _⟩
  | .trim m, ⟨h, _⟩ => ⟨_, _, h, Nat.zero_le _⟩
abbrev sIsDeed : Stmt := st_is_deed
abbrev sCan : Stmt := st_can_be_done
abbrev sDone : Stmt := st_done
abbrev sPlayed : Stmt := st_played
abbrev nIsDeed : List Str := ["value", "word", "first"]
theorem scIsDeed : FnScope nIsDeed pV (defScope sIsDeed) := ⟨rfl, rfl, rfl, by decide +kernel, rfl, by decide +kernel, by decide +kernel⟩
abbrev nCan : List Str := ["folder", "value"]
theorem scCan : FnScope nCan nCan (defScope sCan) := ⟨rfl, rfl, rfl, by decide +kernel, rfl, by decide +kernel, by decide +kernel⟩
abbrev nDone : List Str := ["folder", "deed", "word", "first"]
abbrev pDone : List Str := ["folder", "deed"]
theorem scDone : FnScope nDone pDone (defScope sDone) := ⟨rfl, rfl, rfl, by decide +kernel, rfl, by decide +kernel, by decide +kernel⟩
abbrev nPlayed : List Str := ["folder", "history", "at", "deed"]
abbrev pPlayed : List Str := ["folder", "history"]
theorem scPlayed : FnScope nPlayed pPlayed (defScope sPlayed) := ⟨rfl, rfl, rfl, by decide +kernel, rfl, by decide +kernel, by decide +kernel⟩
def spIsDeed : Sp := fun vs H Q _ => ∃ (a : Addr) (d : Dd), vs = [.ref a] ∧ DdAt H a d ∧ ∀ H', Same H H' → Q (.bl true) H'
def CanD (F : Fo) : Dd → Prop
  | .trim m => m ≤ F.mr
  | _ => True
def spCan (C : Addr) : Sp := fun vs H Q _ => ∃ (p a : Addr) (F : Fo) (d : Dd), vs = [.ref p, .ref a] ∧ FoAt C H p F ∧ CanD F d ∧ DdAt H a d ∧ ∀ H', Same H H' → Q (.bl true) H'
theorem shaped_str {s : Str} (h : PyData.strOk s = true) : SeqAt.shaped (.str s) = true := by
  unfold SeqAt.shaped
  simp [PyData.canLay0, PyData.depth, h]
theorem eq_str {K : PySem.W.Frag} {H : Hp} {a b : Str} {Q : VK} (c : Bool) (ha : PyData.strOk a = true) (e : (a == b) = c) (q : Q (.bl c) H) (hb : PyData.strOk b = true := by decide +kernel) : rEqD K (.str a) (.str b) H Q :=
  ⟨.str a, .str b, .str _, .str _, shaped_str ha, shaped_str hb, by rw [eqv_str, e]; exact q⟩
theorem ne_str {K : PySem.W.Frag} {H : Hp} {a b : Str} {Q : VK} (c : Bool) (ha : PyData.strOk a = true) (e : (a == b) = c) (q : Q (.bl !c) H) (hb : PyData.strOk b = true := by decide +kernel) : rNeD K (.str a) (.str b) H Q :=
  ⟨.str a, .str b, .str _, .str _, shaped_str ha, shaped_str hb, by rw [eqv_str, e]; exact q⟩
theorem word_ok : ∀ d : Dd, PyData.strOk (wordD d) = true
  | .app _ _ => (show PyData.strOk "append" = true by decide +kernel)
  | .add _ _ => (show PyData.strOk "add" = true by decide +kernel)
  | .take _ _ => (show PyData.strOk "take" = true by decide +kernel)
  | .set _ _ => (show PyData.strOk "set" = true by decide +kernel)
  | .rem _ => (show PyData.strOk "remove" = true by decide +kernel)
  | .trim _ => (show PyData.strOk "trim" = true by decide +kernel)
section
variable {P : Program} {w : World} {K : PySem.W.Frag} {mg : Str → Option Value} {base : Heap} {C : Addr}
theorem ok_isDeed {f : Addr} {fd : FuncData} (T : Bk mg) (D_is_body : Def P w K mg base CX0 2 "is_body" pV spBody) (D_is_sign : Def P w K mg base CX0 1 "is_sign" pV spSign) (D_is_signs : Def P w K mg base CX0 2 "is_signs" pV spSigns) (D_is_numbers : Def P w K mg base CX0 3 "is_numbers" pV spNums) (D_is_mark : Def P w K mg base CX0 2 "is_mark" pV spBody)
    (F : Fun K "is_deed" "is_deed" sIsDeed f fd) : FnOk P w K mg base CX0 4 f fd pV spIsDeed := by
  have nd := scIsDeed.nd
  refine F.ok scIsDeed (fun vs H Q E h => ?_) (fun cdv A outer s H vs Q E hr h => ?_)
  · obtain ⟨a, d, rfl, _⟩ := h
    rfl
  · obtain ⟨a, d, rfl, hd, q⟩ := h
    refine ⟨_, pss_cons (ps_if (PW.pt (pw_or (pt_not (pt_val (pe_callB (call_isiK1 (K := K) rfl) (by rfl) T.isinstance PyProof.Rows.boot_isinstance (pa_cons (pv 0) (pa_cons (pe_bltn (v := .ty "tuple") rfl T.tuple PyProof.Rows.boot_tuple rfl) pa_nil))))) (pw_or (pt_cmpR (op_notIn_seqK (K := K) rfl) (pe_callB (call_lenK (K := K) rfl) (by rfl) T.len PySem.boot_len (pa_cons (pv 0) pa_nil)) (pe_tup (pa_cons pe_int (pa_cons pe_int pa_nil))) (by rfl)) (pw_or1 (pt_not (pt_val (pe_callB (call_isiK1 (K := K) rfl) (by rfl) T.isinstance PyProof.Rows.boot_isinstance (pa_cons (pe_ix (ix_tupK (K := K) rfl) (pv 0) pe_int (fun _ _ => rfl)) (pa_cons (pe_bltn (v := .ty "str") rfl T.str PyProof.Rows.boot_str rfl) pa_nil)))))))))
  pss_any
  pss_nil)
 (pss_cons (ps_par (i := 1) (j := 2) (by rfl) nd rfl rfl (by decide) rfl rfl (pa_cons (pe_ix (ix_tupK (K := K) rfl) (pv 0) pe_int (fun _ _ => rfl)) (pa_cons (pe_ix (ix_tupK (K := K) rfl) (pv 0) pe_int (fun _ _ => rfl)) pa_nil)) (by rfl))
 (pss_cons (ps_if (pt_cmpR op_eq (pe_callB (call_lenK (K := K) rfl) (by rfl) T.len PySem.boot_len (pa_cons (pv 0) pa_nil)) pe_int (nomark _))
  (pss_one (ps_ret (pe_or (pe_and (pe_cmpR (op_eqDK (K := K) rfl hr.units) (pv 1) pe_str (nomark _)) (pe_one (pe_def D_is_numbers (hr.mono (by decide)) rfl pass0 (pa_cons (pv 2) pa_nil)))) (pe_one (pe_and (pe_cmpR (op_eqDK (K := K) rfl hr.units) (pv 1) pe_str (nomark _)) (pe_one (pe_def D_is_mark (hr.mono (by decide)) rfl pass0 (pa_cons (pv 2) pa_nil))))))))
  pss_nil)
 (pss_cons (ps_if (pt_cmpR (op_eqDK (K := K) rfl hr.units) (pv 1) pe_str (nomark _))
  (pss_one (ps_ret (pe_and (pe_def D_is_body (hr.mono (by decide)) rfl pass0 (pa_cons (pv 2) pa_nil)) (pe_one (pe_def D_is_signs (hr.mono (by decide)) rfl pass0 (pa_cons (pe_ix (ix_tupK (K := K) rfl) (pv 0) pe_int (fun _ _ => rfl)) pa_nil))))))
  pss_nil)
 (pss_cons (ps_if (pt_cmpR (op_in_seqK (K := K) rfl) (pv 1) (pe_tup (pa_cons pe_str (pa_cons pe_str pa_nil))) (by rfl))
  (pss_one (ps_ret (pe_and (pe_def D_is_numbers (hr.mono (by decide)) rfl pass0 (pa_cons (pv 2) pa_nil)) (pe_one (pe_def D_is_sign (hr.mono (by decide)) rfl pass0 (pa_cons (pe_ix (ix_tupK (K := K) rfl) (pv 0) pe_int (fun _ _ => rfl)) pa_nil))))))
  pss_nil)
 (pss_one (ps_ret (pe_and (pe_cmpR (op_eqDK (K := K) rfl hr.units) (pv 1) pe_str (nomark _)) (pe_and (pe_def D_is_numbers (hr.mono (by decide)) rfl pass0 (pa_cons (pv 2) pa_nil)) (pe_one (pe_def D_is_signs (hr.mono (by decide)) rfl pass0 (pa_cons (pe_ix (ix_tupK (K := K) rfl) (pv 0) pe_int (fun _ _ => rfl)) pa_nil))))))))))), ?_⟩
    obtain ⟨u, rest, ha, hl⟩ := hd.word
    refine ⟨_, rfl, .ref a, .ty "tuple", .type "tuple", .type "tuple", true, rfl, .ty _, .base (.tup ha), kit_ty (by decide +kernel), _, rfl, itbF rfl ?_⟩
    refine ⟨_, rfl, a, _, rfl, .inr (st ha), by show 2 ≤ sizeLine; decide, fun tp ntp => ?_⟩
    have s1 := same_new (o := .tup [.int 2, .int 3]) ntp
    refine ⟨tp, _, rfl, .inr (st upd_same), rfl, rfl, _, rfl, itbF ?_ ?_⟩
    · match rest, hl with
      | [], _ => rfl
      | [_], _ => rfl
      | _ :: _ :: _, hl => simp at hl
    have ha1 := s1 _ _ ha
    have hd1 := hd.same s1
    generalize upd H tp (.tup [.int 2, .int 3]) = H1 at s1 ha1 hd1
    refine ⟨_, rfl, a, _, 0, .str (wordD d), rfl, rfl, st ha1, atI_nat (j := 0) rfl, .str (wordD d), .ty "str", .type "str", .type "str", true, rfl, .ty _, .base (.str _), kit_ty (by decide +kernel), _, rfl, itbF rfl ?_⟩
    cases d with
    | app b ss =>
      obtain ⟨sa, h, hs, hb, hu⟩ := hd1
      refine ⟨_, rfl, a, _, 0, .str "append", rfl, rfl, st h, atI_nat (j := 0) rfl, _, rfl, a, _, 1, .int b, rfl, rfl, st h, atI_nat (j := 1) rfl, _, _, rfl, ?_⟩
      refine ⟨_, rfl, a, _, rfl, .inr (st h), rfl, _, rfl, itbF (decide_eq_false (fun z => absurd (V.int.inj z) (by simp))) ?_⟩
      refine ⟨_, rfl, ?_⟩
      delta tC; dsimp only
      refine eq_str true (by decide +kernel) (by decide +kernel) ⟨_, rfl, itbT rfl ?_⟩
      refine ⟨_, rfl, b, rfl, hb, _, rfl, itbT rfl ?_⟩
      exact ⟨_, rfl, a, _, 2, .ref sa, rfl, rfl, st h, atI_nat (j := 2) rfl, sa, ss, rfl, hs, okSs_iff.mpr hu, fun H2 s2 => q H2 (s1.trans s2)⟩
    | add ns z =>
      obtain ⟨na, h, hn, hz⟩ := hd1
      refine ⟨_, rfl, a, _, 0, .str "add", rfl, rfl, st h, atI_nat (j := 0) rfl, _, rfl, a, _, 1, .ref na, rfl, rfl, st h, atI_nat (j := 1) rfl, _, _, rfl, ?_⟩
      refine ⟨_, rfl, a, _, rfl, .inr (st h), rfl, _, rfl, itbF (decide_eq_false (fun z => absurd (V.int.inj z) (by simp))) ?_⟩
      refine ⟨_, rfl, ?_⟩
      delta tC; dsimp only
      refine eq_str false (by decide +kernel) (by decide +kernel) ⟨_, rfl, itbF rfl ?_⟩
      refine ⟨_, rfl, by show 2 ≤ sizeLine; decide, fun t2 n2 => ?_⟩
      have s2 := same_new (o := .tup [.str "add", .str "take"]) n2
      refine ⟨t2, _, rfl, .inr (st upd_same), rfl, rfl, _, rfl, itbT (by decide +kernel) ?_⟩
      refine ⟨_, rfl, na, ns, rfl, s2 _ _ hn.at_, hn.one, hn.len, fun H3 s3 => ⟨_, rfl, itbT rfl ?_⟩⟩
      exact ⟨_, rfl, a, _, 2, .str z, rfl, rfl, st (s3 _ _ (s2 _ _ h)), atI_nat (j := 2) rfl, z, rfl, hz, fun H4 s4 => q H4 (((s1.trans s2).trans s3).trans s4)⟩
    | take ns z =>
      obtain ⟨na, h, hn, hz⟩ := hd1
      refine ⟨_, rfl, a, _, 0, .str "take", rfl, rfl, st h, atI_nat (j := 0) rfl, _, rfl, a, _, 1, .ref na, rfl, rfl, st h, atI_nat (j := 1) rfl, _, _, rfl, ?_⟩
      refine ⟨_, rfl, a, _, rfl, .inr (st h), rfl, _, rfl, itbF (decide_eq_false (fun z => absurd (V.int.inj z) (by simp))) ?_⟩
      refine ⟨_, rfl, ?_⟩
      delta tC; dsimp only
      refine eq_str false (by decide +kernel) (by decide +kernel) ⟨_, rfl, itbF rfl ?_⟩
      refine ⟨_, rfl, by show 2 ≤ sizeLine; decide, fun t2 n2 => ?_⟩
      have s2 := same_new (o := .tup [.str "add", .str "take"]) n2
      refine ⟨t2, _, rfl, .inr (st upd_same), rfl, rfl, _, rfl, itbT (by decide +kernel) ?_⟩
      refine ⟨_, rfl, na, ns, rfl, s2 _ _ hn.at_, hn.one, hn.len, fun H3 s3 => ⟨_, rfl, itbT rfl ?_⟩⟩
      exact ⟨_, rfl, a, _, 2, .str z, rfl, rfl, st (s3 _ _ (s2 _ _ h)), atI_nat (j := 2) rfl, z, rfl, hz, fun H4 s4 => q H4 (((s1.trans s2).trans s3).trans s4)⟩
    | set ns zs =>
      obtain ⟨na, sa, h, hn, hs, hz⟩ := hd1
      refine ⟨_, rfl, a, _, 0, .str "set", rfl, rfl, st h, atI_nat (j := 0) rfl, _, rfl, a, _, 1, .ref na, rfl, rfl, st h, atI_nat (j := 1) rfl, _, _, rfl, ?_⟩
      refine ⟨_, rfl, a, _, rfl, .inr (st h), rfl, _, rfl, itbF (decide_eq_false (fun z => absurd (V.int.inj z) (by simp))) ?_⟩
      refine ⟨_, rfl, ?_⟩
      delta tC; dsimp only
      refine eq_str false (by decide +kernel) (by decide +kernel) ⟨_, rfl, itbF rfl ?_⟩
      refine ⟨_, rfl, by show 2 ≤ sizeLine; decide, fun t2 n2 => ?_⟩
      have s2 := same_new (o := .tup [.str "add", .str "take"]) n2
      refine ⟨t2, _, rfl, .inr (st upd_same), rfl, rfl, _, rfl, itbF (by decide +kernel) ?_⟩
      refine ⟨_, rfl, ?_⟩
      dsimp only
      refine eq_str true (by decide +kernel) (by decide +kernel) ⟨_, rfl, itbT rfl ?_⟩
      refine ⟨_, rfl, na, ns, rfl, s2 _ _ hn.at_, hn.one, hn.len, fun H3 s3 => ⟨_, rfl, itbT rfl ?_⟩⟩
      exact ⟨_, rfl, a, _, 2, .ref sa, rfl, rfl, st (s3 _ _ (s2 _ _ h)), atI_nat (j := 2) rfl, sa, zs, rfl, s3 _ _ (s2 _ _ hs), okSs_iff.mpr hz, fun H4 s4 => q H4 (((s1.trans s2).trans s3).trans s4)⟩
    | rem ns =>
      obtain ⟨na, h, hn⟩ := hd1
      refine ⟨_, rfl, a, _, 0, .str "remove", rfl, rfl, st h, atI_nat (j := 0) rfl, _, rfl, a, _, 1, .ref na, rfl, rfl, st h, atI_nat (j := 1) rfl, _, _, rfl, ?_⟩
      refine ⟨_, rfl, a, _, rfl, .inr (st h), rfl, _, rfl, itbT (decide_eq_true rfl) ?_⟩
      refine ⟨_, rfl, ?_⟩
      delta tC; dsimp only
      refine eq_str true (by decide +kernel) (by decide +kernel) ⟨_, rfl, itbT rfl ?_⟩
      exact ⟨_, rfl, na, ns, rfl, hn.at_, hn.one, hn.len, fun H3 s3 => ⟨_, rfl, itbT rfl (q H3 (s1.trans s3))⟩⟩
    | trim m =>
      obtain ⟨h, h0⟩ := hd1
      refine ⟨_, rfl, a, _, 0, .str "trim", rfl, rfl, st h, atI_nat (j := 0) rfl, _, rfl, a, _, 1, .int m, rfl, rfl, st h, atI_nat (j := 1) rfl, _, _, rfl, ?_⟩
      refine ⟨_, rfl, a, _, rfl, .inr (st h), rfl, _, rfl, itbT (decide_eq_true rfl) ?_⟩
      refine ⟨_, rfl, ?_⟩
      delta tC; dsimp only
      refine eq_str false (by decide +kernel) (by decide +kernel) ⟨_, rfl, itbF rfl ⟨_, rfl, itbF rfl ⟨_, rfl, ?_⟩⟩⟩
      dsimp only
      refine eq_str true (by decide +kernel) (by decide +kernel) ⟨_, rfl, itbT rfl ?_⟩
      exact ⟨_, rfl, m, rfl, h0, q H1 s1⟩
theorem ok_can {f : Addr} {fd : FuncData} (t : ClT K mg C) (M_mark : MDef P w K mg base CX0 1 C "mark" nSelf (spMark C)) (D_is_deed : Def P w K mg base CX0 4 "is_deed" pV spIsDeed)
    (F : Fun K "can_be_done" "can_be_done" sCan f fd) : FnOk P w K mg base CX0 5 f fd nCan (spCan C) := by
  have nd := scCan.nd
  refine F.ok scCan (fun vs H Q E h => ?_) (fun cdv A outer s H vs Q E hr h => ?_)
  · obtain ⟨p, a, F, d, rfl, _⟩ := h
    rfl
  · obtain ⟨p, a, F, d, rfl, hF, hc, hd, q⟩ := h
    refine ⟨_, pss_cons (ps_if (pt_not (pt_val (pe_def D_is_deed (hr.mono (by decide)) rfl pass0 (pa_cons (pv 1) pa_nil)))) pss_any pss_nil)
 (pss_one (ps_ret (pe_or (pe_cmpR (op_neDK (K := K) rfl hr.units) (pe_ix (ix_tupK (K := K) rfl) (pv 1) pe_int (fun _ _ => rfl)) pe_str (nomark _)) (pe_one (pe_cmpR op_le (pe_ix (ix_tupK (K := K) rfl) (pv 1) pe_int (fun _ _ => rfl)) (pe_mdef0 M_mark t.cl (hr.mono (by decide)) pass0 (pv 0)) (nomark _)))))), ?_⟩
    refine ⟨_, rfl, a, d, rfl, hd, fun H1 s1 => ⟨_, rfl, itbF rfl ?_⟩⟩
    have hd1 := hd.same s1
    by_cases ht : ∃ m, d = .trim m
    · obtain ⟨m, rfl⟩ := ht
      obtain ⟨ha, h0⟩ := hd1
      have hF1 := hF.same s1
      obtain ⟨dx, tl, tg, hp, _⟩ := id hF1
      refine ⟨_, rfl, a, _, 0, .str "trim", rfl, rfl, st ha, atI_nat (j := 0) rfl, ?_⟩
      delta tC; dsimp only
      refine ne_str true (by decide +kernel) (by decide +kernel) ⟨_, rfl, itbF rfl ?_⟩
      refine ⟨_, rfl, a, _, 1, .int m, rfl, rfl, st ha, atI_nat (j := 1) rfl, _, rfl, p, dx, _, rfl, hp, fl_no (by decide +kernel), p, F, rfl, hF1, _, _, rfl, rfl, ?_⟩
      show Q (.bl (decide (m ≤ F.mr))) H1
      rw [decide_eq_true (show m ≤ F.mr from hc)]
      exact q H1 s1
    obtain ⟨u, rest, ha, hl⟩ := hd1.word
    refine ⟨_, rfl, a, _, 0, .str (wordD d), rfl, rfl, st ha, atI_nat (j := 0) rfl, ?_⟩
    delta tC; dsimp only
    refine ne_str false (word_ok d) ?_ ⟨_, rfl, itbT rfl (q H1 s1)⟩
    cases d with
    | app b ss => exact (show (("append" : Str) == "trim") = false by decide +kernel)
    | add b ss => exact (show (("add" : Str) == "trim") = false by decide +kernel)
    | take b ss => exact (show (("take" : Str) == "trim") = false by decide +kernel)
    | set b ss => exact (show (("set" : Str) == "trim") = false by decide +kernel)
    | rem b => exact (show (("remove" : Str) == "trim") = false by decide +kernel)
    | trim m => exact absurd ⟨m, rfl⟩ ht
end
end K1


set_option Elab.async false
set_option linter.all false
set_option maxRecDepth 100000
set_option maxHeartbeats 2000000
namespace K1
open PySem PySem.Spec PyProof.Rows L2 RZ StX
/-! ### what folders keep -/
structure Wf (n : Nat) (F : Fo) : Prop where
  age : 1 ≤ F.age
  len : F.ls.length + F.go.length ≤ n
  sg : ∀ l ∈ F.ls, OkSs l.s
def OkD : Dd → Prop
  | .app b ss => 0 ≤ b ∧ OkSs ss
  | .add _ z => okS z = true
  | .take _ z => okS z = true
  | .set _ zs => OkSs zs
  | .rem _ => True
  | .trim m => 0 ≤ m
theorem DdAt.ok {H : Hp} {a : Addr} : ∀ {d : Dd}, DdAt H a d → OkD d
  | .app b ss, ⟨sa, _, _, h3, h4⟩ => ⟨h3, h4⟩
  | .add ns z, ⟨na, _, _, h3⟩ => h3
  | .take ns z, ⟨na, _, _, h3⟩ => h3
  | .set ns zs, ⟨na, sa, _, _, _, h4⟩ => h4
  | .rem ns, ⟨na, _, _⟩ => trivial
  | .trim m, ⟨_, h⟩ => h
theorem sigL_len (ns : List Int) (g : List Str → List Str) : ∀ (ls : List Lt) (m : Int), (sigL ns g ls m).1.length = ls.length
  | [], m => rfl
  | l :: r, m => by
    unfold sigL
    split
    · show (sigL ns g r m).1.length + 1 = _
      rw [sigL_len ns g r m]; rfl
    · show (sigL ns g r (m + 1)).1.length + 1 = _
      rw [sigL_len ns g r (m + 1)]; rfl
theorem remL_len (ns : List Int) : ∀ (ls : List Lt) (m : Int), (remL ns ls m).1.length + (remL ns ls m).2.1.length = ls.length
  | [], m => rfl
  | l :: r, m => by
    unfold remL
    split
    · have := remL_len ns r (m + 1)
      simp only [List.length_cons]; omega
    · have := remL_len ns r m
      simp only [List.length_cons]; omega
theorem sigL_sg (ns : List Int) {g : List Str → List Str} (hg : ∀ ss, OkSs ss → OkSs (g ss)) : ∀ (ls : List Lt) (m : Int), (∀ l ∈ ls, OkSs l.s) → ∀ l ∈ (sigL ns g ls m).1, OkSs l.s
  | [], m, _, l, hl => by cases hl
  | x :: r, m, h, l, hl => by
    unfold sigL at hl
    split at hl
    · rcases List.mem_cons.mp hl with rfl | hl
      · exact h _ List.mem_cons_self
      · exact sigL_sg ns hg r m (fun y hy => h y (List.mem_cons_of_mem _ hy)) l hl
    · rcases List.mem_cons.mp hl with rfl | hl
      · exact newS_u (h _ List.mem_cons_self) hg
      · exact sigL_sg ns hg r (m + 1) (fun y hy => h y (List.mem_cons_of_mem _ hy)) l hl
theorem remL_mem (ns : List Int) : ∀ (ls : List Lt) (m : Int), ∀ l ∈ (remL ns ls m).1, l ∈ ls
  | [], m, l, hl => by cases hl
  | x :: r, m, l, hl => by
    unfold remL at hl
    split at hl
    · exact List.mem_cons_of_mem _ (remL_mem ns r (m + 1) l hl)
    · rcases List.mem_cons.mp hl with rfl | hl
      · exact List.mem_cons_self
      · exact List.mem_cons_of_mem _ (remL_mem ns r m l hl)
theorem wf_sig {n : Nat} {F : Fo} {ns : List Int} {g : List Str → List Str} (h : Wf n F) (hg : ∀ ss, OkSs ss → OkSs (g ss)) : Wf n (fSig F ns g) :=
  ⟨h.age, by show (sigL ns g F.ls F.mr).1.length + F.go.length ≤ n; rw [sigL_len]; exact h.len, sigL_sg ns hg _ _ h.sg⟩
theorem Wf.mono {n m : Nat} {F : Fo} (h : Wf n F) (k : n ≤ m) : Wf m F := ⟨h.age, Nat.le_trans h.len k, h.sg⟩
theorem wf_does {n : Nat} {F : Fo} : ∀ {d : Dd}, OkD d → Wf n F → Wf (n + 1) (does d F)
  | .app b ss, h, w => ⟨w.age, by have := w.len; show (F.ls ++ _).length + F.go.length ≤ n + 1; rw [List.length_append]; show F.ls.length + 1 + F.go.length ≤ n + 1; omega, fun l hl => by
      rcases List.mem_append.mp (show l ∈ F.ls ++ _ from hl) with hl | hl
      · exact w.sg l hl
      · rw [List.mem_singleton.mp hl]; exact h.2⟩
  | .add ns z, h, w => (wf_sig w fun ss hs => wG_ok hs h).mono (Nat.le_succ _)
  | .take ns z, h, w => (wf_sig w fun ss hs => nS_ok hs).mono (Nat.le_succ _)
  | .set ns zs, h, w => (wf_sig w fun ss hs => h).mono (Nat.le_succ _)
  | .rem ns, h, w => ⟨w.age, by have := w.len; have := remL_len ns F.ls F.mr; show (remL ns F.ls F.mr).1.length + (F.go ++ (remL ns F.ls F.mr).2.1).length ≤ n + 1; rw [List.length_append]; omega, fun l hl => w.sg l (remL_mem ns _ _ l hl)⟩
  | .trim m, h, w => ⟨w.age, by have := w.len; have := List.length_filter_le (fun g : Int × Int => decide (mxI F.ct m < g.1)) F.go; show F.ls.length + (F.go.filter fun g => decide (mxI F.ct m < g.1)).length ≤ n + 1; omega, w.sg⟩
def spDone (C PA PT PS : Addr) : Sp := fun vs H Q _ => ∃ (p a : Addr) (F : Fo) (d : Dd), vs = [.ref p, .ref a] ∧ FoAt C H p F ∧ Wf 1000 F ∧ DdAt H a d ∧ CanD F d ∧ LamX.Tabs (T3 PA PT PS) H ∧
  ∀ q H', LamX.ExtN H H' → LamX.Tabs (T3 PA PT PS) H' → FoAt C H' q (does d F) → Q (.ref q) H'
/-- the folder behind deeds -/
def doesL : List Dd → Fo → Fo
  | [], F => F
  | d :: r, F => doesL r (does d F)
inductive DdsAt (H : Hp) : List V → List Dd → Prop
  | nil : DdsAt H [] []
  | cons {a : Addr} {d : Dd} {xs : List V} {ds : List Dd} : DdAt H a d → DdsAt H xs ds → DdsAt H (.ref a :: xs) (d :: ds)
theorem DdsAt.get {H : Hp} : ∀ {xs : List V} {ds : List Dd}, DdsAt H xs ds → ∀ {i : Nat} {v : V}, xs[i]? = some v → ∃ a d, v = .ref a ∧ ds[i]? = some d ∧ DdAt H a d
  | _, _, .nil, i, v, h => by simp at h
  | _, _, .cons hd r, 0, v, h => ⟨_, _, by simpa using h.symm, rfl, hd⟩
  | _, _, .cons hd r, i + 1, v, h => by simpa using DdsAt.get r (i := i) (v := v) (by simpa using h)
theorem DdsAt.len {H : Hp} : ∀ {xs : List V} {ds : List Dd}, DdsAt H xs ds → xs.length = ds.length
  | _, _, .nil => rfl
  | _, _, .cons _ r => congrArg (· + 1) r.len
section
variable {P : Program} {w : World} {K : PySem.W.Frag} {mg : Str → Option Value} {base : Heap} {C PA PT PS : Addr}
theorem ok_done {f : Addr} {fd : FuncData} (t : ClT K mg C) (M_app : MDef P w K mg base CX0 6 C "appended" pApp (spApp C)) (M_add : MDef P w K mg base CX0 8 C "added" nAdd (spSgn C PA PT PS (fun z ss => wG ss z))) (M_take : MDef P w K mg base CX0 8 C "taken" nAdd (spSgn C PA PT PS (fun z ss => nS ss z)))
    (M_set : MDef P w K mg base CX0 8 C "set_to" nSet (spSet C PA PT PS)) (M_rem : MDef P w K mg base CX0 6 C "removed" pRem (spRem C)) (M_trim : MDef P w K mg base CX0 6 C "trimmed" pTrim (spTrim C)) (F : Fun K "done" "done" sDone f fd) : FnOk P w K mg base CX0 9 f fd pDone (spDone C PA PT PS) := by
  have nd := scDone.nd
  refine F.ok scDone (fun vs H Q E h => ?_) (fun cdv A outer s H vs Q E hr h => ?_)
  · obtain ⟨p, a, F, d, rfl, _⟩ := h
    rfl
  · obtain ⟨p, a, F, d, rfl, hF, hw, hd, hcan, hT, q⟩ := h
    refine ⟨_, pss_cons (ps_par (i := 2) (j := 3) (by rfl) nd rfl rfl (by decide) rfl rfl (pa_cons (pe_ix (ix_tupK (K := K) rfl) (pv 1) pe_int (fun _ _ => rfl)) (pa_cons (pe_ix (ix_tupK (K := K) rfl) (pv 1) pe_int (fun _ _ => rfl)) pa_nil)) (by rfl))
 (pss_cons (ps_if (pt_cmpR (op_eqDK (K := K) rfl hr.units) (pv 2) pe_str (nomark _))
  (pss_one (ps_ret (pe_mdef M_app t.cl (hr.mono (by decide)) pass0 (pv 0) (pa_cons (pv 3) (pa_cons (pe_ix (ix_tupK (K := K) rfl) (pv 1) pe_int (fun _ _ => rfl)) pa_nil)))))
  pss_nil)
 (pss_cons (ps_if (pt_cmpR (op_eqDK (K := K) rfl hr.units) (pv 2) pe_str (nomark _))
  (pss_one (ps_ret (pe_mdef M_add t.cl (hr.mono (by decide)) pass0 (pv 0) (pa_cons (pv 3) (pa_cons (pe_ix (ix_tupK (K := K) rfl) (pv 1) pe_int (fun _ _ => rfl)) pa_nil)))))
  pss_nil)
 (pss_cons (ps_if (pt_cmpR (op_eqDK (K := K) rfl hr.units) (pv 2) pe_str (nomark _))
  (pss_one (ps_ret (pe_mdef M_take t.cl (hr.mono (by decide)) pass0 (pv 0) (pa_cons (pv 3) (pa_cons (pe_ix (ix_tupK (K := K) rfl) (pv 1) pe_int (fun _ _ => rfl)) pa_nil)))))
  pss_nil)
 (pss_cons (ps_if (pt_cmpR (op_eqDK (K := K) rfl hr.units) (pv 2) pe_str (nomark _))
  (pss_one (ps_ret (pe_mdef M_set t.cl (hr.mono (by decide)) pass0 (pv 0) (pa_cons (pv 3) (pa_cons (pe_ix (ix_tupK (K := K) rfl) (pv 1) pe_int (fun _ _ => rfl)) pa_nil)))))
  pss_nil)
 (pss_cons (ps_if (pt_cmpR (op_eqDK (K := K) rfl hr.units) (pv 2) pe_str (nomark _))
  (pss_one (ps_ret (pe_mdef M_rem t.cl (hr.mono (by decide)) pass0 (pv 0) (pa_cons (pv 3) pa_nil))))
  pss_nil)
 (pss_one (ps_ret (pe_mdef M_trim t.cl (hr.mono (by decide)) pass0 (pv 0) (pa_cons (pv 3) pa_nil))))))))), ?_⟩
    have hwl := hw.len
    obtain ⟨dx, tl, tg, hp, h1, h2⟩ := hF
    have hF : FoAt C H p F := ⟨dx, tl, tg, hp, h1, h2⟩
    cases d with
    | app b ss =>
      obtain ⟨sa, h, hs, hb, hu⟩ := hd
      refine ⟨_, rfl, a, _, 0, .str "append", rfl, rfl, st h, atI_nat (j := 0) rfl, _, rfl, a, _, 1, .int b, rfl, rfl, st h, atI_nat (j := 1) rfl, _, _, rfl, ?_⟩
      refine ⟨_, rfl, ?_⟩
      delta tC; dsimp only
      refine eq_str true (by decide +kernel) (by decide +kernel) ⟨_, rfl, itbT rfl ?_⟩
      exact ⟨_, rfl, p, dx, _, rfl, hp, fl_no (by decide +kernel), _, rfl, _, rfl, a, _, 2, .ref sa, rfl, rfl, st h, atI_nat (j := 2) rfl, p, sa, F, b, ss, rfl, hF, hw.age, hb, hs, hu, by omega, fun q' H' s' _ hF' => q q' H' (LamX.ExtN.of s') (hT.ext s') hF'⟩
    | add ns z =>
      obtain ⟨na, h, hn, hz⟩ := hd
      refine ⟨_, rfl, a, _, 0, .str "add", rfl, rfl, st h, atI_nat (j := 0) rfl, _, rfl, a, _, 1, .ref na, rfl, rfl, st h, atI_nat (j := 1) rfl, _, _, rfl, ?_⟩
      refine ⟨_, rfl, ?_⟩
      delta tC; dsimp only
      refine eq_str false (by decide +kernel) (by decide +kernel) ⟨_, rfl, itbF rfl ⟨_, rfl, ?_⟩⟩
      dsimp only
      refine eq_str true (by decide +kernel) (by decide +kernel) ⟨_, rfl, itbT rfl ?_⟩
      exact ⟨_, rfl, p, dx, _, rfl, hp, fl_no (by decide +kernel), _, rfl, _, rfl, a, _, 2, .str z, rfl, rfl, st h, atI_nat (j := 2) rfl, p, na, F, ns, z, rfl, hF, hw.age, hn, by omega, hw.sg, hz, hT, q⟩
    | take ns z =>
      obtain ⟨na, h, hn, hz⟩ := hd
      refine ⟨_, rfl, a, _, 0, .str "take", rfl, rfl, st h, atI_nat (j := 0) rfl, _, rfl, a, _, 1, .ref na, rfl, rfl, st h, atI_nat (j := 1) rfl, _, _, rfl, ?_⟩
      refine ⟨_, rfl, ?_⟩
      delta tC; dsimp only
      refine eq_str false (by decide +kernel) (by decide +kernel) ⟨_, rfl, itbF rfl ⟨_, rfl, ?_⟩⟩
      dsimp only
      refine eq_str false (by decide +kernel) (by decide +kernel) ⟨_, rfl, itbF rfl ⟨_, rfl, ?_⟩⟩
      dsimp only
      refine eq_str true (by decide +kernel) (by decide +kernel) ⟨_, rfl, itbT rfl ?_⟩
      exact ⟨_, rfl, p, dx, _, rfl, hp, fl_no (by decide +kernel), _, rfl, _, rfl, a, _, 2, .str z, rfl, rfl, st h, atI_nat (j := 2) rfl, p, na, F, ns, z, rfl, hF, hw.age, hn, by omega, hw.sg, hz, hT, q⟩
    | set ns zs =>
      obtain ⟨na, sa, h, hn, hs, hz⟩ := hd
      refine ⟨_, rfl, a, _, 0, .str "set", rfl, rfl, st h, atI_nat (j := 0) rfl, _, rfl, a, _, 1, .ref na, rfl, rfl, st h, atI_nat (j := 1) rfl, _, _, rfl, ?_⟩
      refine ⟨_, rfl, ?_⟩
      delta tC; dsimp only
      refine eq_str false (by decide +kernel) (by decide +kernel) ⟨_, rfl, itbF rfl ⟨_, rfl, ?_⟩⟩
      dsimp only
      refine eq_str false (by decide +kernel) (by decide +kernel) ⟨_, rfl, itbF rfl ⟨_, rfl, ?_⟩⟩
      dsimp only
      refine eq_str false (by decide +kernel) (by decide +kernel) ⟨_, rfl, itbF rfl ⟨_, rfl, ?_⟩⟩
      dsimp only
      refine eq_str true (by decide +kernel) (by decide +kernel) ⟨_, rfl, itbT rfl ?_⟩
      exact ⟨_, rfl, p, dx, _, rfl, hp, fl_no (by decide +kernel), _, rfl, _, rfl, a, _, 2, .ref sa, rfl, rfl, st h, atI_nat (j := 2) rfl, p, na, sa, F, ns, zs, rfl, hF, hw.age, hn, by omega, hw.sg, hz, hs, hT, q⟩
    | rem ns =>
      obtain ⟨na, h, hn⟩ := hd
      refine ⟨_, rfl, a, _, 0, .str "remove", rfl, rfl, st h, atI_nat (j := 0) rfl, _, rfl, a, _, 1, .ref na, rfl, rfl, st h, atI_nat (j := 1) rfl, _, _, rfl, ?_⟩
      refine ⟨_, rfl, ?_⟩
      delta tC; dsimp only
      refine eq_str false (by decide +kernel) (by decide +kernel) ⟨_, rfl, itbF rfl ⟨_, rfl, ?_⟩⟩
      dsimp only
      refine eq_str false (by decide +kernel) (by decide +kernel) ⟨_, rfl, itbF rfl ⟨_, rfl, ?_⟩⟩
      dsimp only
      refine eq_str false (by decide +kernel) (by decide +kernel) ⟨_, rfl, itbF rfl ⟨_, rfl, ?_⟩⟩
      dsimp only
      refine eq_str false (by decide +kernel) (by decide +kernel) ⟨_, rfl, itbF rfl ⟨_, rfl, ?_⟩⟩
      dsimp only
      refine eq_str true (by decide +kernel) (by decide +kernel) ⟨_, rfl, itbT rfl ?_⟩
      exact ⟨_, rfl, p, dx, _, rfl, hp, fl_no (by decide +kernel), _, rfl, p, na, F, ns, rfl, hF, hw.age, hn, by omega, by omega, fun q' H' s' _ hF' => q q' H' (LamX.ExtN.of s') (hT.ext s') hF'⟩
    | trim m =>
      obtain ⟨h, h0⟩ := hd
      refine ⟨_, rfl, a, _, 0, .str "trim", rfl, rfl, st h, atI_nat (j := 0) rfl, _, rfl, a, _, 1, .int m, rfl, rfl, st h, atI_nat (j := 1) rfl, _, _, rfl, ?_⟩
      refine ⟨_, rfl, ?_⟩
      delta tC; dsimp only
      refine eq_str false (by decide +kernel) (by decide +kernel) ⟨_, rfl, itbF rfl ⟨_, rfl, ?_⟩⟩
      dsimp only
      refine eq_str false (by decide +kernel) (by decide +kernel) ⟨_, rfl, itbF rfl ⟨_, rfl, ?_⟩⟩
      dsimp only
      refine eq_str false (by decide +kernel) (by decide +kernel) ⟨_, rfl, itbF rfl ⟨_, rfl, ?_⟩⟩
      dsimp only
      refine eq_str false (by decide +kernel) (by decide +kernel) ⟨_, rfl, itbF rfl ⟨_, rfl, ?_⟩⟩
      dsimp only
      refine eq_str false (by decide +kernel) (by decide +kernel) ⟨_, rfl, itbF rfl ?_⟩
      exact ⟨_, rfl, p, dx, _, rfl, hp, fl_no (by decide +kernel), _, rfl, p, F, m, rfl, hF, hw.age, h0, hcan, by omega, fun q' H' s' _ hF' => q q' H' (LamX.ExtN.of s') (hT.ext s') hF'⟩
end
end K1


set_option Elab.async false
set_option linter.all false
set_option maxRecDepth 100000
set_option maxHeartbeats 2000000
namespace K1
open PySem PySem.Spec PyProof.Rows L2 RZ StX
theorem DdsAt.ext {H H' : Hp} (s : LamX.ExtN H H') : ∀ {xs : List V} {ds : List Dd}, DdsAt H xs ds → DdsAt H' xs ds
  | _, _, .nil => .nil
  | _, _, .cons h r => .cons (h.ext s) (r.ext s)
def CanL : List Dd → Fo → Prop
  | [], _ => True
  | d :: r, F => CanD F d ∧ CanL r (does d F)
theorem canL_take {ds : List Dd} {i : Nat} {d : Dd} {F : Fo} (h : ds[i]? = some d) (c : CanL (ds.drop i) F) : CanD F d ∧ CanL (ds.drop (i + 1)) (does d F) := by rw [drop_cons h] at c; exact c
theorem doesL_take {ds : List Dd} {i : Nat} {d : Dd} (F : Fo) (h : ds[i]? = some d) : doesL (ds.drop i) F = doesL (ds.drop (i + 1)) (does d F) := by rw [drop_cons h]; rfl
def spPlayed (C PA PT PS : Addr) : Sp := fun vs H Q _ => ∃ (p h : Addr) (F : Fo) (xs : List V) (ds : List Dd) (n : Nat), vs = [.ref p, .ref h] ∧ FoAt C H p F ∧ Wf n F ∧ n + ds.length ≤ 1000 ∧ H h = some (.lst xs) ∧ DdsAt H xs ds ∧ CanL ds F ∧ LamX.Tabs (T3 PA PT PS) H ∧
  ∀ q H', LamX.ExtN H H' → LamX.Tabs (T3 PA PT PS) H' → FoAt C H' q (doesL ds F) → Q (.ref q) H'
section
variable {P : Program} {w : World} {K : PySem.W.Frag} {mg : Str → Option Value} {base : Heap} {C PA PT PS : Addr}
theorem ok_played {f : Addr} {fd : FuncData} (T : Bk mg) (t : ClT K mg C) (iC : C8.InsC K C) (D_can : Def P w K mg base CX0 5 "can_be_done" nCan (spCan C)) (D_done : Def P w K mg base CX0 9 "done" pDone (spDone C PA PT PS)) (F : Fun K "played" "played" sPlayed f fd) : FnOk P w K mg base CX0 10 f fd pPlayed (spPlayed C PA PT PS) := by
  have nd := scPlayed.nd
  refine F.ok scPlayed (fun vs H Q E h => ?_) (fun cdv A outer s H vs Q E hr h => ?_)
  · obtain ⟨p, hh, F, xs, ds, n, rfl, _⟩ := h
    rfl
  · obtain ⟨p, hh, F, xs, ds, n, rfl, hF, hw, hn, hh1, hds, hcl, hT, q⟩ := h
    refine ⟨_, pss_cons (ps_if (pt_not (pt_val (pe_callB (C8.call_isC iC) (by rfl) T.isinstance PyProof.Rows.boot_isinstance (pa_cons (pv 0) (pa_cons (pe_glob (v := .ref C) rfl t.gC rfl) pa_nil)))))
  pss_any
  pss_nil)
 (pss_cons (ps_if (pt_not (pt_val (pe_callB (call_isiTK (K := K) rfl) (by rfl) T.isinstance PyProof.Rows.boot_isinstance (pa_cons (pv 1) (pa_cons (pe_tup (pa_cons (pe_bltn (v := .ty "list") rfl T.list PyProof.Rows.boot_list rfl) (pa_cons (pe_bltn (v := .ty "tuple") rfl T.tuple PyProof.Rows.boot_tuple rfl) pa_nil))) pa_nil)))))
  pss_any
  pss_nil)
 (C8.pss_cut (ps_for PassesOwn.never rfl (pi_enumSK (K := K) rfl (by rfl) T.enumerate (pa_cons (pv 1) pa_nil)) (pg_tup rfl (pgs_cons (pg_name (i := 2) nd rfl (Or.inl rfl)) (pgs_cons (pg_name (i := 3) nd rfl (Or.inl rfl)) pgs_nil)))
  (pss_cons (ps_if (pt_not (pt_val (pe_def D_can (hr.mono (by decide)) rfl pass0 (pa_cons (pv 0) (pa_cons (pv 3) pa_nil)))))
  pss_any
  pss_nil)
 (pss_one (ps_set (i := 0) nd rfl (Or.inl rfl) (pe_def D_done (hr.mono (by decide)) rfl pass0 (pa_cons (pv 0) (pa_cons (pv 3) pa_nil)))))))
 (pss_one (ps_ret (pv 0))))), ?_⟩
    obtain ⟨dx, tl, tg, hp, h1, h2⟩ := id hF
    refine ⟨_, rfl, p, dx, _, rfl, hp, _, rfl, itbF rfl ?_⟩
    refine ⟨_, rfl, (by show 2 ≤ sizeLine; decide), fun tp ntp => ?_⟩
    have s1 := same_new (o := .tup [.ty "list", .ty "tuple"]) ntp
    refine ⟨.ref hh, tp, [.ty "list", .ty "tuple"], .type "list", [.type "list", .type "tuple"], true, rfl, upd_same, .cons (.ty _) (.cons (.ty _) .nil), .base (.lst (s1 _ _ hh1)), kit_seq (.list []), _, rfl, itbF rfl ?_⟩
    refine ⟨fun σ G => ∃ q' v2 v3, σ = [some (.ref q'), some (.ref hh), v2, v3] ∧ LamX.ExtN H G ∧ LamX.Tabs (T3 PA PT PS) G ∧ FoAt C G q' (doesL ds F), ?_, ?_⟩
    · refine ⟨_, rfl, hh, xs, rfl, for_enumS (K := K) (H0 := fun b => if b = hh then H b else none) (a := hh) (xs := xs) (.inl (sq (by rw [if_pos rfl]; exact hh1))) (fun i σ G => ∃ q' v2 v3 F', σ = [some (.ref q'), some (.ref hh), v2, v3] ∧ LamX.ExtN H G ∧ LamX.Tabs (T3 PA PT PS) G ∧ FoAt C G q' F' ∧ Wf (n + i) F' ∧ CanL (ds.drop i) F' ∧ doesL ds F = doesL (ds.drop i) F') ?_ ?_ ?_ ?_⟩
      · exact ⟨p, none, none, F, rfl, LamX.ExtN.of s1, hT.ext s1, hF.same s1, hw, hcl, rfl⟩
      · rintro i σ G ⟨q', v2, v3, F', rfl, eG, _⟩ b o hb
        by_cases c : b = hh
        · subst c
          have hb : (if b = b then H b else none) = some o := hb
          rw [if_pos rfl, hh1] at hb
          cases hb
          exact eG _ _ hh1 fun _ z => by cases z
        · have hb : (if b = hh then H b else none) = some o := hb
          rw [if_neg c] at hb
          cases hb
      · rintro i y σ G Tt hy ⟨q', v2, v3, F', rfl, eG, tG, hF', hw', hcF, er⟩ nT
        obtain ⟨a, d, rfl, he, hd⟩ := hds.get hy
        have hi := lt_of_get he
        obtain ⟨hcd, hcn⟩ := canL_take he hcF
        have sT := same_new (H := G) nT (o := .tup [.int (i : Nat), .ref a])
        refine ⟨Tt, [.int (i : Nat), .ref a], rfl, st upd_same, rfl, .int (i : Nat), [.ref a], rfl, .ref a, [], rfl, rfl, ?_⟩
        have hd1 := (hd.ext eG).same sT
        refine ⟨_, rfl, _, rfl, q', a, F', d, rfl, hF'.same sT, hcd, hd1, fun H4 s4 => ⟨_, rfl, itbF rfl ?_⟩⟩
        refine ⟨_, rfl, _, rfl, q', a, F', d, rfl, (hF'.same sT).same s4, hw'.mono (by omega), hd1.same s4, hcd, (tG.ext sT).ext s4, fun q2 H5 e5 t5 hF5 => ?_⟩
        exact ⟨q2, _, _, does d F', rfl, ((eG.trans (LamX.ExtN.of sT)).trans (LamX.ExtN.of s4)).trans e5, t5, hF5, wf_does hd1.ok hw', hcn, by rw [er, doesL_take F' he]⟩
      · rintro σ G ⟨q', v2, v3, F', rfl, eG, tG, hF', hw', hcF, er⟩
        rw [hds.len, List.drop_length] at er
        exact ⟨q', v2, v3, rfl, eG, tG, by rw [er]; exact hF'⟩
    · rintro σ G ⟨q', v2, v3, rfl, eG, tG, hF'⟩
      exact ⟨_, rfl, q q' G eG tG hF'⟩
end
end K1


set_option Elab.async false
set_option linter.all false
set_option maxRecDepth 100000
set_option maxHeartbeats 4000000
namespace K1
open PySem PySem.Spec PyProof.Rows L2 RZ
/-! ### the draws -/
abbrev sCell : Stmt := st__law_cell_at
abbrev sWell : Stmt := st__law_well
abbrev sDraw : Stmt := st__law_draw
abbrev sOne : Stmt := st__law_one
abbrev nCell : List Str := ["_law_script", "_law_k"]
theorem scCell : FnScope nCell nCell (defScope sCell) := ⟨rfl, rfl, rfl, by decide +kernel, rfl, by decide +kernel, by decide +kernel⟩
abbrev nWell : List Str := ["_law_cell"]
theorem scWell : FnScope nWell nWell (defScope sWell) := ⟨rfl, rfl, rfl, by decide +kernel, rfl, by decide +kernel, by decide +kernel⟩
abbrev nDraw : List Str := ["_law_well_here", "_law_many", "_law_found", "_law_salt", "_law_base", "_law_number"]
abbrev pDraw : List Str := ["_law_well_here", "_law_many"]
theorem scDraw : FnScope nDraw pDraw (defScope sDraw) := ⟨rfl, rfl, rfl, by decide +kernel, rfl, by decide +kernel, by decide +kernel⟩
abbrev nOne : List Str := ["_law_well_here", "_law_some"]
theorem scOne : FnScope nOne nOne (defScope sOne) := ⟨rfl, rfl, rfl, by decide +kernel, rfl, by decide +kernel, by decide +kernel⟩
/-- a well, at most k of whose draws are done by its number -/
def WellT (H : Hp) (p : Addr) (k : Nat) : Prop := ∃ c m t : Int, H p = some (.lst [.int c, .int m, .int t]) ∧ 0 ≤ t ∧ t ≤ k
theorem WellT.at {H : Hp} {p : Addr} {k : Nat} (w : WellT H p k) : WellAt H p := let ⟨c, m, t, e, _⟩ := w; ⟨c, m, t, e⟩
theorem WellT.keep {H H' : Hp} {p : Addr} {k : Nat} (w : WellT H p k) (s : ∀ o, H p = some o → H' p = some o) : WellT H' p k := let ⟨c, m, t, e, h⟩ := w; ⟨c, m, t, s _ e, h⟩
def spCell (K : PySem.W.Frag) : Sp := fun vs H Q _ => ∃ (a : Addr) (ns : List Int) (k : Int), vs = [.ref a, .int k] ∧ SqL K H a (ns.map V.int) ∧ 0 ≤ k ∧ ∀ n : Int, Q (.int n) H
def spWell : Sp := fun vs H Q _ => ∃ (c : Int), vs = [.int c] ∧ ∀ (p : Addr) (H' : Hp), H p = none → Same H H' → WellT H' p 0 → Q (.ref p) H'
def spDraw : Sp := fun vs H Q _ => ∃ (p : Addr) (b : Int) (k : Nat), vs = [.ref p, .int b] ∧ WellT H p k ∧ k ≤ 100000 ∧ 0 < b ∧ b < 1073741824 ∧
  ∀ (d : Int) (H' : Hp), 0 ≤ d → d < b → Ext p H H' → WellT H' p (k + 1) → Q (.int d) H'
def spOne : Sp := fun vs H Q _ => ∃ (p a : Addr) (xs : List V) (k : Nat), vs = [.ref p, .ref a] ∧ WellT H p k ∧ k ≤ 100000 ∧ H a = some (.lst xs) ∧ 0 < xs.length ∧ xs.length < 1073741824 ∧ a ≠ p ∧
  ∀ (i : Nat) (x : V) (H' : Hp), xs[i]? = some x → Ext p H H' → WellT H' p (k + 1) → Q x H'
section
variable {P : Program} {w : World} {K : PySem.W.Frag} {mg : Str → Option Value} {base : Heap}
theorem ok_cell {f : Addr} {fd : FuncData} (T : Bj mg) (F : Fun K "_law_cell_at" "_law_cell_at" sCell f fd) : FnOk P w K mg base CX0 1 f fd nCell (spCell K) := by
  have nd := scCell.nd
  refine F.ok scCell (fun vs H Q E h => ?_) (fun cdv A outer s H vs Q E hr h => ?_)
  · obtain ⟨a, ns, k, rfl, _⟩ := h
    rfl
  · obtain ⟨a, ns, k, rfl, hS, h0, q⟩ := h
    refine ⟨_, (pss_cons (ps_if (pt_cmpR op_lt (pv 1) (pe_callB (call_lenK (K := K) rfl) (by rfl) T.len PySem.boot_len (pa_cons (pv 0) pa_nil)) (nomark _))
  (pss_one (ps_ret (pe_ix (ix_listK (K := K) rfl) (pv 0) (pv 1) (fun _ _ => rfl))))
  pss_nil)
 (pss_one (ps_ret pe_int))), ?_⟩
    refine ⟨_, rfl, _, rfl, a, _, rfl, .inl hS, _, _, rfl, rfl, _, rfl, ite2 (fun c => ?_) (fun c => q 0)⟩
    have c' : k < ns.length := by simpa using c
    have hi : k.toNat < ns.length := by omega
    exact ⟨_, rfl, _, rfl, a, _, k, .int ns[k.toNat], rfl, rfl, hS, at_of (j := k.toNat) (by omega) (by simp [hi]), q _⟩
theorem ok_well {f : Addr} {fd : FuncData} (T : Bj mg) (F : Fun K "_law_well" "_law_well" sWell f fd) : FnOk P w K mg base CX0 1 f fd nWell spWell := by
  have nd := scWell.nd
  refine F.ok scWell (fun vs H Q E h => ?_) (fun cdv A outer s H vs Q E hr h => ?_)
  · obtain ⟨c, rfl, _⟩ := h
    rfl
  · obtain ⟨c, rfl, q⟩ := h
    refine ⟨_, (pss_one (ps_ret (pe_lst (pa_cons (pe_ix (ix_listK (K := K) rfl) (pe_lst (pa_cons pe_int (pa_cons (pv 0) pa_nil))) (pe_callTy call_int1 (by rfl) T.int PyProof.Rows.boot_int (pa_cons (pe_cmpR op_ge (pv 0) (pe_op op_pow pe_int pe_int) (nomark _)) pa_nil)) (fun _ _ => rfl)) (pa_cons (pv 0) (pa_cons pe_int pa_nil)))))), ?_⟩
    refine ⟨_, rfl, (by show 2 ≤ sizeLine; decide), fun l nl => ⟨_, rfl, _, _, rfl, rfl, ⟨by decide, by decide, by decide⟩, _, _, rfl, rfl, .inr ⟨_, rfl, ?_⟩⟩⟩
    have s1 := same_new (o := .lst [.int 0, .int c]) nl
    have fin : ∀ (n : Int), ∀ p, (upd H l (.lst [.int 0, .int c])) p = none → Q (.ref p) (upd (upd H l (.lst [.int 0, .int c])) p (.lst [.int n, .int c, .int 0])) := fun n p np => q p _ (s1.free np) (s1.new np) ⟨n, c, 0, upd_same, by decide, by decide⟩
    by_cases h : c ≥ 10 ^ (18 : Int).toNat
    · rw [decide_eq_true h]
      exact ⟨l, _, 1, .int c, rfl, rfl, sq upd_same, atI_nat (j := 1) rfl, _, rfl, (by show 3 ≤ sizeLine; decide), fin c⟩
    · rw [decide_eq_false h]
      exact ⟨l, _, 0, .int 0, rfl, rfl, sq upd_same, atI_nat (j := 0) rfl, _, rfl, (by show 3 ≤ sizeLine; decide), fin 0⟩
theorem ok_draw {f : Addr} {fd : FuncData} (T : Bj mg) (F : Fun K "_law_draw" "_law_draw" sDraw f fd) : FnOk P w K mg base CX0 1 f fd pDraw spDraw := by
  have nd := scDraw.nd
  refine F.ok scDraw (fun vs H Q E h => ?_) (fun cdv A outer s H vs Q E hr h => ?_)
  · obtain ⟨p, b, k, rfl, _⟩ := h
    rfl
  · obtain ⟨p, b, k, rfl, ⟨c, m, t, hp, t0, tk⟩, hk, hb0, hb1, q'⟩ := h
    have q : ∀ (d c m t : Int), 0 ≤ d → d < b → 0 ≤ t → t ≤ (k + 1 : Nat) → Q (.int d) (upd H p (.lst [.int c, .int m, .int t])) := fun d c m t h1 h2 h3 h4 => q' d _ h1 h2 (Ext.refl H).self ⟨c, m, t, upd_same, h3, h4⟩
    refine ⟨_, (pss_cons (ps_if (pt_cmpR op_gt (pe_ix (ix_listK (K := K) rfl) (pv 0) pe_int (fun _ _ => rfl)) pe_int (nomark _))
  (pss_cons (ps_set (i := 2) nd rfl (Or.inl rfl) (pe_op op_mod (pe_callTy call_int1 (by rfl) T.int PyProof.Rows.boot_int (pa_cons (pe_ix (ix_listK (K := K) rfl) (pv 0) pe_int (fun _ _ => rfl)) pa_nil)) (pv 1)))
 (pss_cons (ps_asg (pe_op op_fdiv (pe_ix (ix_listK (K := K) rfl) (pv 0) pe_int (fun _ _ => rfl)) (pv 1)) (pg_sub (pv 0) pe_int set_list))
 (pss_one (ps_ret (pv 2)))))
  pss_nil)
 (pss_cons (ps_asg (pe_op op_add (pe_ix (ix_listK (K := K) rfl) (pv 0) pe_int (fun _ _ => rfl)) pe_int) (pg_sub (pv 0) pe_int set_list))
 (pss_cons (ps_set (i := 3) nd rfl (Or.inl rfl) (pe_op op_mod (pe_callTy call_int1 (by rfl) T.int PyProof.Rows.boot_int (pa_cons (pe_op op_fdivW (pe_ix (ix_listK (K := K) rfl) (pv 0) pe_int (fun _ _ => rfl)) pe_int) pa_nil)) pe_int))
 (pss_cons (ps_set (i := 4) nd rfl (Or.inl rfl) (pe_op op_add (pe_op op_add (pe_op op_add (pe_op op_mod (pe_callTy call_int1 (by rfl) T.int PyProof.Rows.boot_int (pa_cons (pe_ix (ix_listK (K := K) rfl) (pv 0) pe_int (fun _ _ => rfl)) pa_nil)) pe_int) (pe_op op_mul pe_int (pe_ix (ix_listK (K := K) rfl) (pv 0) pe_int (fun _ _ => rfl)))) (pv 3)) pe_int))
 (pss_cons (ps_set (i := 5) nd rfl (Or.inl rfl) (pe_op op_mod (pe_callTy call_int1 (by rfl) T.int PyProof.Rows.boot_int (pa_cons (pe_op op_pow (pv 4) pe_int) pa_nil)) pe_int))
 (pss_cons (ps_set (i := 5) nd rfl (Or.inl rfl) (pe_op op_mod (pe_callTy call_int1 (by rfl) T.int PyProof.Rows.boot_int (pa_cons (pe_op op_mul (pv 5) (pe_op op_add (pe_op op_add (pe_op op_fdiv (pv 5) pe_int) pe_int) (pe_ix (ix_listK (K := K) rfl) (pv 0) pe_int (fun _ _ => rfl)))) pa_nil)) pe_int))
 (pss_one (ps_ret (pe_op op_mod (pe_callTy call_int1 (by rfl) T.int PyProof.Rows.boot_int (pa_cons (pe_op op_mod (pe_callTy call_int1 (by rfl) T.int PyProof.Rows.boot_int (pa_cons (pe_op op_mul (pv 5) (pe_op op_add (pe_op op_fdiv (pv 5) pe_int) pe_int)) pa_nil)) pe_int) pa_nil)) (pv 1)))))))))), ?_⟩
    have r0 : ∀ x y z : Int, SqL K (upd H p (.lst [.int x, .int y, .int z])) p [.int x, .int y, .int z] := fun x y z => .inl (.inl upd_same)
    have hS : SqL K H p [.int c, .int m, .int t] := .inl (.inl hp)
    have rg : ∀ z : Int, 0 ≤ z % b ∧ z % b < b := fun z => ⟨Int.emod_nonneg _ (by omega), Int.emod_lt_of_pos _ hb0⟩
    refine ⟨.ref p, rfl, p, _, 0, .int c, rfl, rfl, hS, atI_nat (j := 0) rfl, _, _, rfl, rfl, _, rfl, ?_⟩
    refine ite2 (fun _ => ?_) (fun _ => ?_)
    · refine ⟨.ref p, rfl, p, _, 0, .int c, rfl, rfl, hS, atI_nat (j := 0) rfl, .inl ⟨c, rfl, _, rfl, c, b, rfl, rfl, hb0, ?_⟩⟩
      refine ⟨.ref p, rfl, p, _, 0, .int c, rfl, rfl, hS, atI_nat (j := 0) rfl, _, rfl, c, b, rfl, rfl, ⟨hb0, hb1⟩, ?_⟩
      refine ⟨.ref p, rfl, p, _, 0, 0, rfl, rfl, hp, rfl, ?_⟩
      exact ⟨_, rfl, q (c % b) (c / b) m t (rg c).1 (rg c).2 t0 (by omega)⟩
    · refine ⟨.ref p, rfl, p, _, 2, .int t, rfl, rfl, hS, atI_nat (j := 2) rfl, _, _, rfl, rfl, ?_⟩
      refine ⟨.ref p, rfl, p, _, 2, 2, rfl, rfl, hp, rfl, ?_⟩
      refine ⟨.ref p, rfl, p, _, 1, .int m, rfl, rfl, r0 c m (t + 1), atI_nat (j := 1) rfl, _, _, rfl, rfl, wide_div (b := 31) (by decide) (by decide) (by decide) (by decide), .inl ⟨_, rfl, _, _, rfl, rfl, (by show (0 : Int) < _; decide), ?_⟩⟩
      refine ⟨.ref p, rfl, p, _, 1, .int m, rfl, rfl, r0 c m (t + 1), atI_nat (j := 1) rfl, .inl ⟨_, rfl, _, _, rfl, rfl, (by show (0 : Int) < _; decide), ?_⟩⟩
      refine ⟨.ref p, rfl, p, _, 2, .int (t + 1), rfl, rfl, r0 c m (t + 1), atI_nat (j := 2) rfl, _, _, rfl, rfl, .inl ⟨by decide, by decide⟩, _, _, rfl, rfl, _, rfl, _, _, rfl, rfl, _, _, rfl, rfl, ?_⟩
      have b0 : (m % 2147483629 + 7919 * (t + 1) + m / 2147483629 % 65521 + 1).natAbs < 2 ^ 64 := by
        have h1 : 0 ≤ m % 2147483629 ∧ m % 2147483629 < 2147483629 := ⟨Int.emod_nonneg _ (by decide), Int.emod_lt_of_pos _ (by decide)⟩
        have h2 : 0 ≤ m / 2147483629 % 65521 ∧ m / 2147483629 % 65521 < 65521 := ⟨Int.emod_nonneg _ (by decide), Int.emod_lt_of_pos _ (by decide)⟩
        exact Nat.lt_of_lt_of_le (show _ < 10000000000 by omega) (by decide)
      refine ⟨_, rfl, m % 2147483629 + 7919 * (t + 1) + m / 2147483629 % 65521 + 1, 5, rfl, rfl, ⟨by decide, by decide, b0⟩, .inl ⟨_, rfl, _, _, rfl, rfl, (by show (0 : Int) < _; decide), ?_⟩⟩
      generalize he : (m % 2147483629 + 7919 * (t + 1) + m / 2147483629 % 65521 + 1) ^ (5 : Int).toNat % 2147483647 = e
      have e0 : 0 ≤ e ∧ e < 2147483647 := by rw [← he]; exact ⟨Int.emod_nonneg _ (by decide), Int.emod_lt_of_pos _ (by decide)⟩
      refine ⟨_, rfl, _, rfl, _, _, rfl, rfl, ⟨by decide, by decide⟩, _, _, rfl, rfl, .ref p, rfl, p, _, 2, .int (t + 1), rfl, rfl, r0 c m (t + 1), atI_nat (j := 2) rfl, _, _, rfl, rfl, _, _, rfl, rfl, .inl ⟨by omega, by omega⟩, .inl ⟨_, rfl, _, _, rfl, rfl, (by show (0 : Int) < _; decide), ?_⟩⟩
      generalize hg : e * (e / 1009 + 69621 + (t + 1)) % 2147483629 = g
      have g0 : 0 ≤ g ∧ g < 2147483629 := by rw [← hg]; exact ⟨Int.emod_nonneg _ (by decide), Int.emod_lt_of_pos _ (by decide)⟩
      refine ⟨_, rfl, _, rfl, _, _, rfl, rfl, ⟨by decide, by decide⟩, _, _, rfl, rfl, _, _, rfl, rfl, .inl ⟨by omega, by omega⟩, .inl ⟨_, rfl, _, _, rfl, rfl, (by show (0 : Int) < _; decide), .inl ⟨_, rfl, _, rfl, _, _, rfl, rfl, hb0, ?_⟩⟩⟩
      exact q _ c m (t + 1) (rg _).1 (rg _).2 (by omega) (by omega)
theorem ok_one {f : Addr} {fd : FuncData} (T : Bj mg) (D_draw : Def P w K mg base CX0 1 "_law_draw" pDraw spDraw) (F : Fun K "_law_one" "_law_one" sOne f fd) : FnOk P w K mg base CX0 2 f fd nOne spOne := by
  refine F.ok scOne (fun vs H Q E h => ?_) (fun cdv A outer s H vs Q E hr h => ?_)
  · obtain ⟨p, a, xs, k, rfl, _⟩ := h
    rfl
  · obtain ⟨p, a, xs, k, rfl, hw, hk, ha, h0, h1, nap, q⟩ := h
    refine ⟨_, (pss_one (ps_ret (pe_ix (ix_listK (K := K) rfl) (pv 1) (pe_def D_draw (hr.mono (by decide)) rfl pass0 (pa_cons (pv 0) (pa_cons (pe_callB (call_lenK (K := K) rfl) (by rfl) T.len PySem.boot_len (pa_cons (pv 1) pa_nil)) pa_nil))) (fun _ _ => rfl)))), ?_⟩
    refine ⟨_, rfl, _, rfl, _, rfl, a, xs, rfl, .inl (sq ha), ?_⟩
    refine ⟨p, xs.length, k, rfl, hw, hk, by omega, by omega, fun d H' d0 d1 hx hw' => ?_⟩
    have hi : d.toNat < xs.length := by omega
    have hg : xs[d.toNat]? = some xs[d.toNat] := List.getElem?_eq_getElem hi
    exact ⟨a, xs, d, _, rfl, rfl, sq (hx _ _ nap ha), at_of (j := d.toNat) (by omega) hg, q _ _ _ hg hx hw'⟩
end
end K1


set_option Elab.async false
set_option linter.all false
set_option maxRecDepth 100000
set_option maxHeartbeats 2000000
namespace K1
open PySem PySem.Spec PyProof.Rows L2 RZ StX
/-! ### what is neither a list nor a table stays -/
def TK (H H' : Hp) : Prop := ∀ b o, H b = some o → (∀ xs, o ≠ .lst xs) → (∀ ps, o ≠ .tbl ps) → H' b = some o
theorem TK.of {H H' : Hp} (s : Same H H') : TK H H' := fun b o h _ _ => s b o h
theorem TK.lam {H H' : Hp} (s : LamX.ExtN H H') : TK H H' := fun b o h _ t => s b o h t
theorem TK.ext {H H' : Hp} {p : Addr} (w : WellAt H p) (s : Ext p H H') : TK H H' := fun b o h n _ => s b o (fun z => by
  obtain ⟨c, m, t, e⟩ := w
  rw [z, e] at h
  exact n _ (Option.some.inj h).symm) h
theorem TK.trans {H H1 H2 : Hp} (a : TK H H1) (b : TK H1 H2) : TK H H2 := fun c o h n t => b c o (a c o h n t) n t
theorem TK.tup {H H' : Hp} (s : TK H H') {a : Addr} {xs : List V} (h : H a = some (.tup xs)) : H' a = some (.tup xs) := s _ _ h (fun _ z => by cases z) fun _ z => by cases z
mutual
theorem Dv.tk {H H' : Hp} (s : TK H H') : ∀ {v : V} {d : PyData}, Dv H v d → tO d = true → Dv H' v d
  | _, _, .non, _ => .non
  | _, _, .bl b, _ => .bl b
  | _, _, .int i, _ => .int i
  | _, _, .str x, _ => .str x
  | _, _, .lst h r, n => by cases n
  | _, _, .tup h r, n => .tup (s.tup h) (DvA.tk s r n)
  | _, _, .dic h, n => by cases n
theorem DvA.tk {H H' : Hp} (s : TK H H') : ∀ {vs : List V} {ds : List PyData}, DvA H vs ds → tOA ds = true → DvA H' vs ds
  | _, _, .nil, _ => .nil
  | _, _, .cons h r, n => .cons (Dv.tk s h ((Bool.and_eq_true _ _).mp n).1) (DvA.tk s r ((Bool.and_eq_true _ _).mp n).2)
end
theorem FoAt.tk {C p : Addr} {H H' : Hp} {F : Fo} (h : FoAt C H p F) (s : TK H H') : FoAt C H' p F := let ⟨dx, tl, tg, a, b, c⟩ := h; ⟨dx, tl, tg, s _ _ a (fun _ z => by cases z) (fun _ z => by cases z), b.tk s (tO_lts _), c.tk s (tO_gos _)⟩
theorem NumsAt.tk {H H' : Hp} {a : Addr} {ns : List Int} (h : NumsAt H a ns) (s : TK H H') : NumsAt H' a ns := ⟨s.tup h.at_, h.one, h.len⟩
theorem DdAt.tk {H H' : Hp} {a : Addr} (s : TK H H') : ∀ {d : Dd}, DdAt H a d → DdAt H' a d
  | .app b ss, ⟨sa, h, h2, h3, h4⟩ => ⟨sa, s.tup h, s.tup h2, h3, h4⟩
  | .add ns z, ⟨na, h, h2, h3⟩ => ⟨na, s.tup h, h2.tk s, h3⟩
  | .take ns z, ⟨na, h, h2, h3⟩ => ⟨na, s.tup h, h2.tk s, h3⟩
  | .set ns zs, ⟨na, sa, h, h2, h3, h4⟩ => ⟨na, sa, s.tup h, h2.tk s, s.tup h3, h4⟩
  | .rem ns, ⟨na, h, h2⟩ => ⟨na, s.tup h, h2.tk s⟩
  | .trim m, ⟨h, h2⟩ => ⟨s.tup h, h2⟩
end K1


set_option Elab.async false
set_option linter.all false
set_option maxRecDepth 100000
set_option maxHeartbeats 2000000
namespace K1
open PySem PySem.Spec PyProof.Rows L2 RZ StX
theorem Dv.lsts {H : Hp} {a : Addr} {ds : List PyData} (h : Dv H (.ref a) (.list ds)) : ∃ xs, H a = some (.lst xs) ∧ DvA H xs ds := by
  cases h with
  | lst e r => exact ⟨_, e, r⟩
theorem dva_ints {H : Hp} : ∀ ns : List Int, DvA H (ns.map V.int) (ns.map PyData.int)
  | [] => .nil
  | n :: r => .cons (.int n) (dva_ints r)
end K1


set_option Elab.async false
set_option linter.all false
set_option maxRecDepth 100000
set_option maxHeartbeats 2000000
namespace K1
open PySem PySem.Spec PyProof.Rows L2 RZ StX
/-! the other readers -/
abbrev sAge : Stmt := mS 2
abbrev sCut : Stmt := mS 7
theorem scAge : FnScope nSelf nSelf (defScope sAge) := ⟨rfl, rfl, rfl, by decide +kernel, rfl, by decide +kernel, by decide +kernel⟩
theorem scCut : FnScope nSelf nSelf (defScope sCut) := ⟨rfl, rfl, rfl, by decide +kernel, rfl, by decide +kernel, by decide +kernel⟩
def spAge (C : Addr) : Sp := fun vs H Q _ => ∃ (p : Addr) (F : Fo), vs = [.ref p] ∧ FoAt C H p F ∧ Q (.int F.age) H
def spCut (C : Addr) : Sp := fun vs H Q _ => ∃ (p : Addr) (F : Fo), vs = [.ref p] ∧ FoAt C H p F ∧ Q (.int F.ct) H
section
variable {P : Program} {w : World} {K : PySem.W.Frag} {mg : Str → Option Value} {base : Heap} {C : Addr}
theorem ok_age {f : Addr} {fd : FuncData} (t : ClT K mg C) (F : Fun K "age" "Folder.age" sAge f fd) : FnOk P w K mg base CX0 1 f fd nSelf (spAge C) := by
  refine F.ok scAge (fun vs H Q E h => ?_) (fun cdv A outer s H vs Q E hr h => ?_)
  · obtain ⟨p, F, rfl, _⟩ := h
    rfl
  · obtain ⟨p, F, rfl, ⟨dx, tl, tg, hp, h1, h2⟩, q⟩ := h
    exact ⟨_, pss_one (ps_ret (pe_fld (pv 0) rfl)), ⟨_, rfl, p, C, dx, _, _, rfl, hp, t.cl, t.nA, fl_age, q⟩⟩
theorem ok_cut {f : Addr} {fd : FuncData} (t : ClT K mg C) (F : Fun K "cut" "Folder.cut" sCut f fd) : FnOk P w K mg base CX0 1 f fd nSelf (spCut C) := by
  refine F.ok scCut (fun vs H Q E h => ?_) (fun cdv A outer s H vs Q E hr h => ?_)
  · obtain ⟨p, F, rfl, _⟩ := h
    rfl
  · obtain ⟨p, F, rfl, ⟨dx, tl, tg, hp, h1, h2⟩, q⟩ := h
    exact ⟨_, pss_one (ps_ret (pe_fld (pv 0) rfl)), ⟨_, rfl, p, C, dx, _, _, rfl, hp, t.cl, t.nC, fl_cut, q⟩⟩
end
end K1


set_option Elab.async false
set_option linter.all false
set_option maxRecDepth 100000
set_option maxHeartbeats 4000000
/-! min of three ints. -/
namespace PySem
open Sem (wp)
section
variable {prog : Program} {w : World} {A : Around} {E : Value → Shared → Prop} {s : Shared}
theorem my_args_min3 (a b c : Value) : argsOk "min" ⟨[a, b, c], []⟩ := by unfold argsOk; kernel_rfl
theorem my_min_three {a b c : Value} {Q : Value → Shared → Prop}
    (h : wpAny (model prog w) A.in1 (pyIter (.ref s.heap.objs.size)) (fun it s2 => ∃ I fp wr n P St bt, it = .ref I ∧ Walks prog w A.in1 I fp wr n P St ∧ St 0 s2.heap ∧ (∀ z ∈ fp, z < s2.heap.objs.size) ∧ 0 < n ∧ CmpOf prog w A.in1 .Lt P bt ∧
      ∀ v h' tk, P (argBest bt (n - 1)) v → (∀ z o, z ∉ wr → s2.heap.get? z = some o → h'.get? z = some o) → Q v { s2 with heap := h', toks := tk }) E { s with heap := s.heap.push { cls := .type "tuple", data := .seq #[a, b, c] } }) :
    wpAny (model prog w) A (call (.builtin "min") [a, b, c]) Q E s := by
  refine call_function_tree F.kind_min F.plain_min F.entry_min (my_args_min3 _ _ _) ?_
  show wpAny _ A.in1 (Builtin.Builtins.bindParams "min" ["key", "default"] 0 ⟨[], []⟩ >>= _) _ _ s; refine wpAny_bind (wpAny_of_eq (show Builtin.Builtins.bindParams "min" ["key", "default"] 0 ⟨[], []⟩ = pure [none, none] from rfl) ?_)
  show wpAny _ A.in1 (newTuple [a, b, c] >>= _) _ _ s
  refine wpAny_bind (wpAny_newObj_type (wpAny_bind (wpAny_mono h (fun it s2 ⟨I, fp, wr, n, P, St, bt, e, W, st0, small, hn, cmp, hQ⟩ => ?_) fun _ _ e => e)))
  subst e
  refine wpAny_bind (wpAny_newObj_type ?_)
  have apart : s2.heap.objs.size ∉ fp := fun z => Nat.lt_irrefl _ (small _ z)
  rw [show (toString "min" ++ toString ".loop" : String) = "min.loop" by decide]
  refine wpAny_pure ⟨plainId_quiet F.plain_min_loop _, codeAny_min_loop_first W bt cmp s2.heap.objs.size apart hn (W.frame _ _ _ st0 fun z _ o e => Heap.get?_push_of_some _ e) (Heap.get?_push_size _ rfl) fun v h' tk hP hk => ?_⟩
  exact hQ v h' tk hP fun z o n e => hk z o n (Nat.ne_of_lt (Heap.lt_size e)) (Heap.get?_push_of_some _ e)
theorem my_min_ints {a b c : Int} {t u r : Tok} {Q : Value → Shared → Prop} (hh : A.handled = none)
    (h : ∀ (m : Int) (y : Tok) h' tk, (m = a ∨ m = b ∨ m = c) → m ≤ a → m ≤ b → m ≤ c → (∀ z o, s.heap.get? z = some o → h'.get? z = some o) → Q (.int m y) { s with heap := h', toks := tk }) :
    wpAny (model prog w) A (call (.builtin "min") [.int a t, .int b u, .int c r]) Q E s := by
  have isT : (s.heap.push { cls := .type "tuple", data := .seq #[.int a t, .int b u, .int c r] }).IsTuple s.heap.objs.size (intItems #[(a, t), (b, u), (c, r)]) := ⟨_, Heap.get?_push_size _ rfl, rfl, 0, by simp [intItems]⟩
  refine my_min_three (wpAny_pyIter_tuple isT ?_)
  have sz : (s.heap.push { cls := .type "tuple", data := .seq #[.int a t, .int b u, .int c r] }).objs.size = s.heap.objs.size + 1 := Heap.size_push ..
  refine ⟨_, [_, s.heap.objs.size], [_], _, _, _, _, rfl, Walks.tuple (A := A.in1) hh _ s.heap.objs.size (by rw [sz]; exact Nat.ne_of_lt (Nat.lt_succ_self _)) (intItems #[(a, t), (b, u), (c, r)]), ⟨⟨_, Heap.get?_push_size _ rfl, rfl, rfl⟩, isT.push _⟩, fun z hz => ?_, by simp [intItems],
    CmpOf.ints_lt (numAt #[(a, t), (b, u), (c, r)]) (fun _ _ => intItems_at), fun v h' tk hP hk => ?_⟩
  · show z < ((s.heap.push _).push _).objs.size
    rw [Heap.size_push, sz]
    simp only [List.mem_cons, List.not_mem_nil, or_false] at hz
    rcases hz with rfl | rfl
    · rw [sz]; exact Nat.lt_succ_self _
    · exact Nat.lt_succ_of_lt (Nat.lt_succ_self _)
  · have old : ∀ z o, s.heap.get? z = some o → h'.get? z = some o := fun z o e => by
      refine hk z o (fun hm => ?_) (Heap.get?_push_of_some _ (Heap.get?_push_of_some _ e))
      have lt := Heap.lt_size e
      rw [List.mem_singleton] at hm
      rw [hm, sz] at lt
      exact Nat.lt_irrefl _ (Nat.lt_of_succ_lt lt)
    have hP : (intItems #[(a, t), (b, u), (c, r)])[argBest (fun i j => decide (numAt #[(a, t), (b, u), (c, r)] i < numAt #[(a, t), (b, u), (c, r)] j)) 2]? = some v := by
      have e : (intItems #[(a, t), (b, u), (c, r)]).size - 1 = 2 := by simp [intItems]
      rw [← e]; exact hP
    by_cases c1 : b < a
    · by_cases c2 : c < b
      · have e : argBest (fun i j => decide (numAt #[(a, t), (b, u), (c, r)] i < numAt #[(a, t), (b, u), (c, r)] j)) 2 = 2 := by simp [argBest, numAt, c1, c2]
        rw [e] at hP
        obtain rfl : Value.int c r = v := by simpa [intItems] using hP
        exact h c r h' tk (.inr (.inr rfl)) (by omega) (by omega) (by omega) old
      · have e : argBest (fun i j => decide (numAt #[(a, t), (b, u), (c, r)] i < numAt #[(a, t), (b, u), (c, r)] j)) 2 = 1 := by simp [argBest, numAt, c1, c2]
        rw [e] at hP
        obtain rfl : Value.int b u = v := by simpa [intItems] using hP
        exact h b u h' tk (.inr (.inl rfl)) (by omega) (by omega) (by omega) old
    · by_cases c2 : c < a
      · have e : argBest (fun i j => decide (numAt #[(a, t), (b, u), (c, r)] i < numAt #[(a, t), (b, u), (c, r)] j)) 2 = 2 := by simp [argBest, numAt, c1, c2]
        rw [e] at hP
        obtain rfl : Value.int c r = v := by simpa [intItems] using hP
        exact h c r h' tk (.inr (.inr rfl)) (by omega) (by omega) (by omega) old
      · have e : argBest (fun i j => decide (numAt #[(a, t), (b, u), (c, r)] i < numAt #[(a, t), (b, u), (c, r)] j)) 2 = 0 := by simp [argBest, numAt, c1, c2]
        rw [e] at hP
        obtain rfl : Value.int a t = v := by simpa [intItems] using hP
        exact h a t h' tk (.inl rfl) (by omega) (by omega) (by omega) old
end
end PySem
namespace K1
open PySem PySem.Spec PyProof.Rows L2
def rMin3 : List V → Hp → VK → Prop := fun xs H Q => ∃ i j k, xs = [.int i, .int j, .int k] ∧ ∀ m, (m = i ∨ m = j ∨ m = k) → m ≤ i → m ≤ j → m ≤ k → Q (.int m) H
theorem call_min3 {X : Cx} (hc : X.calm = true) : CallR X (.builtin "min") rMin3 := by
  intro pins s σ H xs us Q I r h
  obtain ⟨i, j, k, rfl, q⟩ := h
  cases r with
  | cons r1 r =>
  obtain ⟨u2, u3, rfl, r2, r3⟩ := vals2 r
  obtain ⟨t1, rfl⟩ := r1
  obtain ⟨t2, rfl⟩ := r2
  obtain ⟨t3, rfl⟩ := r3
  exact my_min_ints (I.ok.hd hc) fun m y h' tk a b c d old => ⟨.int m, H, I.kept old, ⟨_, rfl⟩, q m a b c d⟩
end K1


set_option Elab.async false
set_option linter.all false
set_option maxRecDepth 100000
set_option maxHeartbeats 2000000
namespace K1
open PySem PySem.Spec PyProof.Rows L2 RZ StX
abbrev sSigns : Stmt := st__law_signs
abbrev nSigns : List Str := ["_law_well_here"]
theorem scSigns : FnScope nSigns nSigns (defScope sSigns) := ⟨rfl, rfl, rfl, by decide +kernel, rfl, by decide +kernel, by decide +kernel⟩
abbrev sDeed : Stmt := st__law_deed
abbrev nDeed : List Str := ["_law_well_here", "_law_folder_here", "_law_way", "_law_top", "_law_numbers", "_law_k"]
abbrev pDeed : List Str := ["_law_well_here", "_law_folder_here"]
theorem scDeed : FnScope nDeed pDeed (defScope sDeed) := ⟨rfl, rfl, rfl, by decide +kernel, rfl, by decide +kernel, by decide +kernel⟩
def spLsigns : Sp := fun vs H Q _ => ∃ (p : Addr) (k : Nat), vs = [.ref p] ∧ WellT H p k ∧ k ≤ 90000 ∧ ∀ sa ss H', OkSs ss → H' sa = some (.tup (ss.map V.str)) → Ext p H H' → WellT H' p (k + 1) → Q (.ref sa) H'
def NoTrim : Dd → Prop
  | .trim _ => False
  | _ => True
def spDeed (C : Addr) : Sp := fun vs H Q _ => ∃ (p q : Addr) (F : Fo) (k : Nat), vs = [.ref p, .ref q] ∧ WellT H p k ∧ k ≤ 80000 ∧ FoAt C H q F ∧ 1 ≤ F.nx ∧ F.nx ≤ 1000 ∧
  ∀ a d k' H', DdAt H' a d → NoTrim d → Ext p H H' → WellT H' p k' → k' ≤ k + 10 → Q (.ref a) H'
section
variable {P : Program} {w : World} {K : PySem.W.Frag} {mg : Str → Option Value} {base : Heap} {C : Addr}
theorem ok_lsigns {f : Addr} {fd : FuncData} (T : Bk mg) (D_one : Def P w K mg base CX0 2 "_law_one" nOne spOne) (F : Fun K "_law_signs" "_law_signs" sSigns f fd) : FnOk P w K mg base CX0 3 f fd nSigns spLsigns := by
  have nd := scSigns.nd
  refine F.ok scSigns (fun vs H Q E h => ?_) (fun cdv A outer s H vs Q E hr h => ?_)
  · obtain ⟨p, k, rfl, _⟩ := h
    rfl
  · obtain ⟨p, k, rfl, hw, hk, q⟩ := h
    refine ⟨_, (pss_one (ps_ret (pe_def D_one (hr.mono (by decide)) rfl pass0 (pa_cons (pv 0) (pa_cons (pe_lst (pa_cons (pe_tup pa_nil) (pa_cons (pe_tup (pa_cons pe_str pa_nil)) (pa_cons (pe_tup (pa_cons pe_str pa_nil)) (pa_cons (pe_tup (pa_cons pe_str (pa_cons pe_str pa_nil))) (pa_cons (pe_tup (pa_cons pe_str pa_nil)) pa_nil)))))) pa_nil))))), ?_⟩
    refine ⟨_, rfl, Nat.zero_le _, fun t1 n1 => ⟨by show 1 ≤ sizeLine; decide, fun t2 n2 => ⟨by show 1 ≤ sizeLine; decide, fun t3 n3 => ⟨by show 2 ≤ sizeLine; decide, fun t4 n4 => ⟨by show 1 ≤ sizeLine; decide, fun t5 n5 => ⟨by show 5 ≤ sizeLine; decide, fun l nl => ?_⟩⟩⟩⟩⟩⟩
    have s1 := same_new (o := .tup (([] : List Str).map V.str)) n1
    have s2 := same_new (o := .tup ((["a"] : List Str).map V.str)) n2
    have s3 := same_new (o := .tup ((["b"] : List Str).map V.str)) n3
    have s4 := same_new (o := .tup ((["a", "b"] : List Str).map V.str)) n4
    have s5 := same_new (o := .tup ((["seen"] : List Str).map V.str)) n5
    have s6 := same_new (o := .lst [.ref t1, .ref t2, .ref t3, .ref t4, .ref t5]) nl
    have w1 := hw.keep fun o ho => s1 _ _ ho
    have w2 := w1.keep fun o ho => s2 _ _ ho
    have w3 := w2.keep fun o ho => s3 _ _ ho
    have w4 := w3.keep fun o ho => s4 _ _ ho
    have w5 := w4.keep fun o ho => s5 _ _ ho
    have w6 := w5.keep fun o ho => s6 _ _ ho
    have sA := ((((s1.trans s2).trans s3).trans s4).trans s5).trans s6
    refine ⟨p, l, _, k, rfl, w6, by omega, upd_same, by show 0 < 5; decide, by show 5 < 1073741824; decide, w5.at.ne nl, fun j y H5 hj e5 w7 => ?_⟩
    have eA : Ext p H H5 := (same_ext sA).trans e5
    have tk := TK.ext w6.at e5
    have hm := List.mem_of_getElem? hj
    simp only [List.mem_cons, List.not_mem_nil, or_false] at hm
    rcases hm with rfl | rfl | rfl | rfl | rfl
    · exact q t1 [] H5 (okSs_iff.mp (by decide +kernel)) (tk.tup (s6 _ _ (s5 _ _ (s4 _ _ (s3 _ _ (s2 _ _ upd_same)))))) eA w7
    · exact q t2 ["a"] H5 (okSs_iff.mp (by decide +kernel)) (tk.tup (s6 _ _ (s5 _ _ (s4 _ _ (s3 _ _ upd_same))))) eA w7
    · exact q t3 ["b"] H5 (okSs_iff.mp (by decide +kernel)) (tk.tup (s6 _ _ (s5 _ _ (s4 _ _ upd_same)))) eA w7
    · exact q t4 ["a", "b"] H5 (okSs_iff.mp (by decide +kernel)) (tk.tup (s6 _ _ (s5 _ _ upd_same))) eA w7
    · exact q t5 ["seen"] H5 (okSs_iff.mp (by decide +kernel)) (tk.tup (s6 _ _ upd_same)) eA w7
end
end K1


set_option Elab.async false
set_option linter.all false
set_option maxRecDepth 100000
set_option maxHeartbeats 2000000
namespace K1
open PySem PySem.Spec PyProof.Rows L2 RZ StX
section
variable {P : Program} {w : World} {K : PySem.W.Frag} {mg : Str → Option Value} {base : Heap} {C : Addr}
theorem WellT.mono {H : Hp} {p : Addr} {k m : Nat} (w : WellT H p k) (h : k ≤ m) : WellT H p m := let ⟨c, n, t, e, h0, h1⟩ := w; ⟨c, n, t, e, h0, by omega⟩
theorem ok_deed {f : Addr} {fd : FuncData} (T : Bk mg) (t : ClT K mg C) (D_draw : Def P w K mg base CX0 1 "_law_draw" pDraw spDraw) (D_one : Def P w K mg base CX0 2 "_law_one" nOne spOne) (D_signs : Def P w K mg base CX0 3 "_law_signs" nSigns spLsigns) (M_next : MDef P w K mg base CX0 1 C "next_number" nSelf (spNext C))
    (F : Fun K "_law_deed" "_law_deed" sDeed f fd) : FnOk P w K mg base CX0 4 f fd pDeed (spDeed C) := by
  have nd := scDeed.nd
  refine F.ok scDeed (fun vs H Q E h => ?_) (fun cdv A outer s H vs Q E hr h => ?_)
  · obtain ⟨p, qq, F, k, rfl, _⟩ := h
    rfl
  · obtain ⟨p, qq, F, k, rfl, hw, hk, hF, hx1, hx2, q⟩ := h
    refine ⟨_, (pss_cons (ps_asg (pe_tup (pa_cons (pe_def D_draw (hr.mono (by decide)) rfl pass0 (pa_cons (pv 0) (pa_cons pe_int pa_nil))) (pa_cons (pe_mdef0 M_next t.cl (hr.mono (by decide)) pass0 (pv 1)) pa_nil))) (pg_tup rfl (pgs_cons (pg_name (i := 2) nd rfl (Or.inl rfl)) (pgs_cons (pg_name (i := 3) nd rfl (Or.inr rfl)) pgs_nil))))
 (pss_cons (ps_set (i := 4) nd rfl (Or.inl rfl) (pe_callTy (call_tuple_ofK (K := K) rfl) (by rfl) T.tuple PyProof.Rows.boot_tuple (pa_cons (pe_lc (own := [("_law_k", 5)]) (g := gName 5) (tt := tYes) rfl nd (pi_range1 rfl T.range (pa_cons (pe_op op_add pe_int (pe_def D_draw (hr.mono (by decide)) rfl pass0 (pa_cons (pv 0) (pa_cons pe_int pa_nil)))) pa_nil)) (blkOk_by (own := [("_law_k", 5)]) (N := nDeed) (sc := defScope sDeed) (by decide +kernel)) (fun _ _ _ _ _ => pg_name (i := 5) nd rfl (Or.inl rfl)) (fun _ _ _ _ _ => pts_nil) (fun _ _ _ _ _ => (pe_op op_add pe_int (pe_def D_draw (hr.mono (by decide)) rfl pass0 (pa_cons (pv 0) (pa_cons (pv 3) pa_nil)))))) pa_nil)))
 (pss_cons (ps_if (PW.pt (pw_or (pt_cmpR op_lt (pv 2) pe_int (nomark _)) (pw_or1 (pt_cmpR op_eq (pv 3) pe_int (nomark _)))))
  (pss_one (ps_ret (pe_tup (pa_cons pe_str (pa_cons (pe_def D_draw (hr.mono (by decide)) rfl pass0 (pa_cons (pv 0) (pa_cons pe_int pa_nil))) (pa_cons (pe_def D_signs (hr.mono (by decide)) rfl pass0 (pa_cons (pv 0) pa_nil)) pa_nil))))))
  pss_nil)
 (pss_cons (ps_if (pt_cmpR op_eq (pv 2) pe_int (nomark _))
  (pss_one (ps_ret (pe_tup (pa_cons pe_str (pa_cons (pv 4) pa_nil)))))
  pss_nil)
 (pss_cons (ps_if (pt_cmpR op_eq (pv 2) pe_int (nomark _))
  (pss_one (ps_ret (pe_tup (pa_cons pe_str (pa_cons (pv 4) (pa_cons (pe_def D_signs (hr.mono (by decide)) rfl pass0 (pa_cons (pv 0) pa_nil)) pa_nil))))))
  pss_nil)
 (pss_one (ps_ret (pe_tup (pa_cons (pe_def D_one (hr.mono (by decide)) rfl pass0 (pa_cons (pv 0) (pa_cons (pe_lst (pa_cons pe_str (pa_cons pe_str pa_nil))) pa_nil))) (pa_cons (pv 4) (pa_cons (pe_def D_one (hr.mono (by decide)) rfl pass0 (pa_cons (pv 0) (pa_cons (pe_lst (pa_cons pe_str (pa_cons pe_str (pa_cons pe_str pa_nil)))) pa_nil))) pa_nil))))))))))), ?_⟩
    refine ⟨_, rfl, p, 8, k, rfl, hw, by omega, by decide, by decide, fun way H1 y0 y1 e1 w1 => ?_⟩
    have hF1 := hF.tk (TK.ext hw.at e1)
    obtain ⟨dx, tl, tg, hp, _⟩ := id hF1
    refine ⟨_, rfl, qq, dx, _, rfl, hp, fl_no (by decide +kernel), qq, F, rfl, hF1, by show 2 ≤ sizeLine; decide, fun tt ntt => ?_⟩
    have s2 := same_new (o := .tup [.int way, .int F.nx]) ntt
    refine ⟨tt, _, rfl, st upd_same, rfl, _, _, rfl, _, _, rfl, rfl, ?_⟩
    have w2 := w1.keep fun o ho => s2 _ _ ho
    have e2 : Ext p H (upd H1 tt (.tup [.int way, .int F.nx])) := e1.trans (same_ext s2)
    generalize upd H1 tt (.tup [.int way, .int F.nx]) = H2 at w2 e2
    refine ⟨_, rfl, p, 3, k + 1, rfl, w2, by omega, by decide, by decide, fun d2 Hc z0 z1 ec wc => ⟨_, _, rfl, rfl, 1 + d2, rfl, by omega, by omega, fun D hD => ?_⟩⟩
    have nDp : D ≠ p := wc.at.ne hD
    refine lc_range (lo := 0) (n := (1 + d2).toNat) (fun i H4 => ∃ ns : List Int, Ext p Hc H4 ∧ WellT H4 p (k + 2 + i) ∧ H4 D = some (.lst (ns.map V.int)) ∧ ns.length = i ∧ i ≤ 3 ∧ ∀ n ∈ ns, 1 ≤ n) ?_ ?_ ?_
    · exact ⟨[], (Ext.refl Hc).new hD, wc.keep fun o ho => by rw [upd_ne (ne_of_none ho hD)]; exact ho, upd_same, rfl, by omega, fun x hx => by simp at hx⟩
    · rintro i H4 hi ⟨ns, e4, w4, hD4, xl, i3, dr⟩
      refine ⟨rfl, tyes ⟨_, rfl, _, rfl, p, F.nx, k + 2 + i, rfl, w4, by omega, by omega, by omega, fun d5 H5 u0 u1 e5 w5 => ⟨_, _, rfl, rfl, ?_⟩⟩⟩
      have hD5 : H5 D = some (.lst (ns.map V.int)) := e5 _ _ nDp hD4
      refine ⟨_, hD5, lt2 _ (by rw [List.length_map]; omega), ns ++ [1 + d5], (e4.trans e5).mut hD, ?_, by rw [upd_same, List.map_append]; rfl, by rw [List.length_append, xl]; rfl, by omega, fun z hz => ?_⟩
      · have w5' : WellT H5 p (k + 2 + (i + 1)) := w5
        exact w5'.keep fun o ho => by rw [upd_ne nDp.symm]; exact ho
      · rcases List.mem_append.mp hz with hz | hz
        · exact dr z hz
        · rw [List.mem_singleton.mp hz]; omega
    · rintro H4 ⟨ns, e4, w4, hD4, xl, i3, dr⟩
      refine ⟨D, _, rfl, .inl ⟨sq hD4, fun b nb => ?_⟩⟩
      have sM := same_new (o := .tup (ns.map V.int)) nb
      have wM : WellT (upd H4 b (.tup (ns.map V.int))) p (k + 10 - 5) := (w4.keep fun o ho => sM _ _ ho).mono (by omega)
      have eM : Ext p H (upd H4 b (.tup (ns.map V.int))) := (e2.trans (ec.trans e4)).trans (same_ext sM)
      have hN : NumsAt (upd H4 b (.tup (ns.map V.int))) b ns := ⟨upd_same, dr, by omega⟩
      generalize upd H4 b (.tup (ns.map V.int)) = HM at wM eM hN
      refine ⟨_, rfl, _, _, rfl, rfl, _, rfl, ?_⟩
      by_cases c0 : way < 3
      · refine itbT (decide_eq_true c0) (itbT rfl ?_)
        refine ⟨_, rfl, p, 4, k + 10 - 5, rfl, wM, by omega, by decide, by decide, fun d5 H5 d0 d1 e5 w5 => ⟨_, rfl, p, k + 10 - 5 + 1, rfl, w5, by omega, fun sa ss H6 hu hs e6 w6 => ⟨by show 3 ≤ sizeLine; decide, fun a na => ?_⟩⟩⟩
        have s7 := same_new (o := .tup [.str "append", .int d5, .ref sa]) na
        exact q a (.app d5 ss) _ _ ⟨sa, upd_same, s7 _ _ hs, d0, hu⟩ trivial ((eM.trans (e5.trans e6)).trans (same_ext s7)) (w6.keep fun o ho => s7 _ _ ho) (by omega)
      refine itbF (decide_eq_false c0) ⟨_, rfl, rfl, _, rfl, ?_⟩
      by_cases c1 : F.nx = 1
      · refine itbT (decide_eq_true (by rw [c1])) ?_
        refine ⟨_, rfl, p, 4, k + 10 - 5, rfl, wM, by omega, by decide, by decide, fun d5 H5 d0 d1 e5 w5 => ⟨_, rfl, p, k + 10 - 5 + 1, rfl, w5, by omega, fun sa ss H6 hu hs e6 w6 => ⟨by show 3 ≤ sizeLine; decide, fun a na => ?_⟩⟩⟩
        have s7 := same_new (o := .tup [.str "append", .int d5, .ref sa]) na
        exact q a (.app d5 ss) _ _ ⟨sa, upd_same, s7 _ _ hs, d0, hu⟩ trivial ((eM.trans (e5.trans e6)).trans (same_ext s7)) (w6.keep fun o ho => s7 _ _ ho) (by omega)
      refine itbF (decide_eq_false fun z => c1 (V.int.inj z)) ⟨_, rfl, rfl, _, rfl, ?_⟩
      by_cases c3 : way = 3
      · refine itbT (decide_eq_true (by rw [c3])) ⟨_, rfl, by show 2 ≤ sizeLine; decide, fun a na => ?_⟩
        have s7 := same_new (o := .tup [.str "remove", .ref b]) na
        exact q a (.rem ns) _ _ ⟨b, upd_same, hN.tk (TK.of s7)⟩ trivial (eM.trans (same_ext s7)) (wM.keep fun o ho => s7 _ _ ho) (by omega)
      refine itbF (decide_eq_false fun z => c3 (V.int.inj z)) ⟨_, rfl, rfl, _, rfl, ?_⟩
      by_cases c4 : way = 4
      · refine itbT (decide_eq_true (by rw [c4])) ⟨_, rfl, _, rfl, p, k + 10 - 5, rfl, wM, by omega, fun sa ss H6 hu hs e6 w6 => ⟨by show 3 ≤ sizeLine; decide, fun a na => ?_⟩⟩
        have s7 := same_new (o := .tup [.str "set", .ref b, .ref sa]) na
        exact q a (.set ns ss) _ _ ⟨b, sa, upd_same, (hN.tk (TK.ext wM.at e6)).tk (TK.of s7), s7 _ _ hs, hu⟩ trivial ((eM.trans e6).trans (same_ext s7)) (w6.keep fun o ho => s7 _ _ ho) (by omega)
      refine itbF (decide_eq_false fun z => c4 (V.int.inj z)) ⟨_, rfl, by show 2 ≤ sizeLine; decide, fun l nl => ?_⟩
      have sL := same_new (o := .lst [.str "add", .str "take"]) nl
      have wL := wM.keep fun o ho => sL _ _ ho
      refine ⟨p, l, _, k + 10 - 5, rfl, wL, by omega, upd_same, by show 0 < 2; decide, by show 2 < 1073741824; decide, wM.at.ne nl, fun j y H5 hj e5 w5 => ?_⟩
      refine ⟨_, rfl, _, rfl, by show 3 ≤ sizeLine; decide, fun l2 nl2 => ?_⟩
      have sL2 := same_new (o := .lst [.str "a", .str "b", .str "seen"]) nl2
      have wL2 := w5.keep fun o ho => sL2 _ _ ho
      refine ⟨p, l2, _, k + 10 - 5 + 1, rfl, wL2, by omega, upd_same, by show 0 < 3; decide, by show 3 < 1073741824; decide, w5.at.ne nl2, fun j2 y2 H6 hj2 e6 w6 => ⟨by show 3 ≤ sizeLine; decide, fun a na => ?_⟩⟩
      have tkA := ((((TK.of sL).trans (TK.ext wL.at e5)).trans (TK.of sL2)).trans (TK.ext wL2.at e6)).trans (TK.of (same_new (o := .tup [y, .ref b, y2]) na))
      have eA := (((same_ext (p := p) sL).trans e5).trans (same_ext sL2)).trans (e6.trans (same_ext (same_new (o := .tup [y, .ref b, y2]) na)))
      have wA := w6.keep fun o ho => same_new (o := .tup [y, .ref b, y2]) na _ _ ho
      have hm := List.mem_of_getElem? hj
      have hm2 := List.mem_of_getElem? hj2
      simp only [List.mem_cons, List.not_mem_nil, or_false] at hm hm2
      obtain ⟨z, hz, rfl⟩ : ∃ z, okS z = true ∧ y2 = .str z := by
        rcases hm2 with h | h | h
        · exact ⟨_, by decide +kernel, h⟩
        · exact ⟨_, by decide +kernel, h⟩
        · exact ⟨_, by decide +kernel, h⟩
      rcases hm with rfl | rfl
      · exact q a (.add ns z) _ _ ⟨b, upd_same, hN.tk tkA, hz⟩ trivial (eM.trans eA) wA (by omega)
      · exact q a (.take ns z) _ _ ⟨b, upd_same, hN.tk tkA, hz⟩ trivial (eM.trans eA) wA (by omega)
end
end K1


set_option Elab.async false
set_option linter.all false
set_option maxRecDepth 100000
set_option maxHeartbeats 2000000
namespace K1
open PySem PySem.Spec PyProof.Rows L2 RZ StX
/-! ### what deeds on numbers do, letter by letter -/
abbrev Psi := Int → List Str → Option (List Str)
def ev (ψ : Psi) : List Lt → Int → List Lt × List (Int × Int) × Int
  | [], m => ([], [], m)
  | l :: r, m => match ψ l.n l.s with
    | none => ((ev ψ r (m + 1)).1, (m + 1, l.n) :: (ev ψ r (m + 1)).2.1, (ev ψ r (m + 1)).2.2)
    | some s => if s = l.s then (l :: (ev ψ r m).1, (ev ψ r m).2.1, (ev ψ r m).2.2) else (⟨l.n, l.b, s, m + 1⟩ :: (ev ψ r (m + 1)).1, (ev ψ r (m + 1)).2.1, (ev ψ r (m + 1)).2.2)
def evF (ψ : Psi) (F : Fo) : Fo := { F with ls := (ev ψ F.ls F.mr).1, go := F.go ++ (ev ψ F.ls F.mr).2.1, mr := (ev ψ F.ls F.mr).2.2 }
def psi : Dd → Psi
  | .app _ _ => fun _ s => some s
  | .add ns z => fun n s => some (if n ∈ ns then wG s z else s)
  | .take ns z => fun n s => some (if n ∈ ns then nS s z else s)
  | .set ns zs => fun n s => some (if n ∈ ns then zs else s)
  | .rem ns => fun n s => if n ∈ ns then none else some s
  | .trim _ => fun _ s => some s
theorem ev_sig (ns : List Int) (g : List Str → List Str) : ∀ (ls : List Lt) (m : Int), ev (fun n s => some (if n ∈ ns then g s else s)) ls m = ((sigL ns g ls m).1, [], (sigL ns g ls m).2)
  | [], m => rfl
  | l :: r, m => by
    have h0 := ev_sig ns g r m
    have h1 := ev_sig ns g r (m + 1)
    by_cases c : newS ns g l = l.s
    · have c' : (if l.n ∈ ns then g l.s else l.s) = l.s := c
      simp only [ev, sigL, if_pos c, if_pos c', h0]
    · have c' : ¬ (if l.n ∈ ns then g l.s else l.s) = l.s := c
      simp only [ev, sigL, if_neg c, if_neg c', h1]
      rfl
theorem ev_rem (ns : List Int) : ∀ (ls : List Lt) (m : Int), ev (fun n s => if n ∈ ns then none else some s) ls m = remL ns ls m
  | [], m => rfl
  | l :: r, m => by
    unfold ev remL
    rw [ev_rem ns r m, ev_rem ns r (m + 1)]
    by_cases c : l.n ∈ ns
    · simp only [if_pos c]
    · simp only [if_neg c, if_true]
theorem does_ev : ∀ {d : Dd} {F : Fo}, NoTrim d → (∀ b ss, d ≠ .app b ss) → does d F = evF (psi d) F
  | .app b ss, F, _, h => absurd rfl (h b ss)
  | .trim m, F, h, _ => h.elim
  | .add ns z, F, _, _ => by unfold evF psi; rw [ev_sig]; simp only [List.append_nil]; rfl
  | .take ns z, F, _, _ => by unfold evF psi; rw [ev_sig]; simp only [List.append_nil]; rfl
  | .set ns zs, F, _, _ => by unfold evF psi; rw [ev_sig]; simp only [List.append_nil]; rfl
  | .rem ns, F, _, _ => by unfold evF psi; rw [ev_rem]; rfl
/-! ### numbers stay ascending, marks are new -/
theorem ev_sub (ψ : Psi) : ∀ (ls : List Lt) (m : Int), ((ev ψ ls m).1.map (·.n)).Sublist (ls.map (·.n))
  | [], m => .slnil
  | l :: r, m => by
    unfold ev
    split
    · exact (ev_sub ψ r (m + 1)).cons _
    · split
      · exact (ev_sub ψ r m).cons_cons _
      · exact (ev_sub ψ r (m + 1)).cons_cons _
theorem ev_le (ψ : Psi) : ∀ (ls : List Lt) (m : Int), m ≤ (ev ψ ls m).2.2
  | [], m => Int.le_refl _
  | l :: r, m => by
    unfold ev
    split
    · have := ev_le ψ r (m + 1); show m ≤ (ev ψ r (m + 1)).2.2; omega
    · split
      · exact ev_le ψ r m
      · have := ev_le ψ r (m + 1); show m ≤ (ev ψ r (m + 1)).2.2; omega
theorem ev_same (ψ : Psi) : ∀ (ls : List Lt) (m : Int), (ev ψ ls m).2.2 = m → (ev ψ ls m).1 = ls ∧ (ev ψ ls m).2.1 = []
  | [], m, _ => ⟨rfl, rfl⟩
  | l :: r, m, h => by
    have hle := ev_le ψ r (m + 1)
    cases hs : ψ l.n l.s with
    | none =>
      simp only [ev, hs] at h
      omega
    | some s =>
      simp only [ev, hs] at h ⊢
      by_cases c : s = l.s
      · simp only [if_pos c] at h ⊢
        have ih := ev_same ψ r m h
        exact ⟨by rw [ih.1], ih.2⟩
      · simp only [if_neg c] at h
        omega
theorem ev_marks (ψ : Psi) {m0 : Int} : ∀ (ls : List Lt) (m : Int), (ls.map (·.m)).Nodup → (∀ x ∈ ls.map (·.m), x ≤ m0) → m0 ≤ m →
    ((ev ψ ls m).1.map (·.m) ++ (ev ψ ls m).2.1.map (·.1)).Nodup ∧ (∀ x ∈ (ev ψ ls m).1.map (·.m) ++ (ev ψ ls m).2.1.map (·.1), x ∈ ls.map (·.m) ∨ (m < x ∧ x ≤ (ev ψ ls m).2.2)) ∧ (m < (ev ψ ls m).2.2 → (ev ψ ls m).2.2 ∈ (ev ψ ls m).1.map (·.m) ++ (ev ψ ls m).2.1.map (·.1))
  | [], m, _, _, _ => ⟨List.Pairwise.nil, fun x hx => by simp [ev] at hx, fun h => absurd h (Int.lt_irrefl _)⟩
  | l :: r, m, hn, hb, hm => by
    rw [List.map_cons, List.nodup_cons] at hn
    have hbr : ∀ x ∈ r.map (·.m), x ≤ m0 := fun x hx => hb x (by rw [List.map_cons]; exact List.mem_cons_of_mem _ hx)
    have hbl : l.m ≤ m0 := hb l.m (by rw [List.map_cons]; exact List.mem_cons_self)
    unfold ev
    split
    · obtain ⟨h1, h2, h3⟩ := ev_marks ψ r (m + 1) hn.2 hbr (by omega)
      have hle := ev_le ψ r (m + 1)
      generalize ev ψ r (m + 1) = e at h1 h2 h3 hle
      refine ⟨?_, fun x hx => ?_, fun _ => ?_⟩
      · show (e.1.map (·.m) ++ (m + 1) :: e.2.1.map (·.1)).Nodup
        rw [List.perm_middle.nodup_iff, List.nodup_cons]
        refine ⟨fun hx => ?_, h1⟩
        rcases h2 _ hx with h | h
        · have := hbr _ h; omega
        · omega
      · have hx : x ∈ e.1.map (·.m) ++ (m + 1) :: e.2.1.map (·.1) := hx
        rw [List.mem_append, List.mem_cons] at hx
        have hx' : x = m + 1 ∨ x ∈ e.1.map (·.m) ++ e.2.1.map (·.1) := by
          rw [List.mem_append]
          rcases hx with h | h | h
          · exact .inr (.inl h)
          · exact .inl h
          · exact .inr (.inr h)
        show x ∈ (l :: r).map (·.m) ∨ (m < x ∧ x ≤ e.2.2)
        rcases hx' with rfl | h
        · exact .inr ⟨by omega, hle⟩
        · rcases h2 _ h with h | h
          · exact .inl (by rw [List.map_cons]; exact List.mem_cons_of_mem _ h)
          · exact .inr ⟨by omega, h.2⟩
      · show e.2.2 ∈ e.1.map (·.m) ++ (m + 1) :: e.2.1.map (·.1)
        by_cases c : m + 1 < e.2.2
        · have := h3 c
          rw [List.mem_append] at this ⊢
          exact this.imp_right (List.mem_cons_of_mem _)
        · have : e.2.2 = m + 1 := by omega
          rw [this, List.mem_append]
          exact .inr List.mem_cons_self
    · rename_i s hs
      split
      · obtain ⟨h1, h2, h3⟩ := ev_marks ψ r m hn.2 hbr hm
        generalize ev ψ r m = e at h1 h2 h3
        refine ⟨?_, fun x hx => ?_, fun h => ?_⟩
        · show (l.m :: (e.1.map (·.m) ++ e.2.1.map (·.1))).Nodup
          rw [List.nodup_cons]
          refine ⟨fun hx => ?_, h1⟩
          rcases h2 _ hx with h | h
          · exact hn.1 h
          · omega
        · have hx : x ∈ l.m :: (e.1.map (·.m) ++ e.2.1.map (·.1)) := hx
          show x ∈ (l :: r).map (·.m) ∨ (m < x ∧ x ≤ e.2.2)
          rcases List.mem_cons.mp hx with rfl | h
          · exact .inl (by rw [List.map_cons]; exact List.mem_cons_self)
          · rcases h2 _ h with h | h
            · exact .inl (by rw [List.map_cons]; exact List.mem_cons_of_mem _ h)
            · exact .inr h
        · exact List.mem_cons_of_mem _ (h3 h)
      · obtain ⟨h1, h2, h3⟩ := ev_marks ψ r (m + 1) hn.2 hbr (by omega)
        have hle := ev_le ψ r (m + 1)
        generalize ev ψ r (m + 1) = e at h1 h2 h3 hle
        refine ⟨?_, fun x hx => ?_, fun _ => ?_⟩
        · show ((m + 1) :: (e.1.map (·.m) ++ e.2.1.map (·.1))).Nodup
          rw [List.nodup_cons]
          refine ⟨fun hx => ?_, h1⟩
          rcases h2 _ hx with h | h
          · have := hbr _ h; omega
          · omega
        · have hx : x ∈ (m + 1) :: (e.1.map (·.m) ++ e.2.1.map (·.1)) := hx
          show x ∈ (l :: r).map (·.m) ∨ (m < x ∧ x ≤ e.2.2)
          rcases List.mem_cons.mp hx with rfl | h
          · exact .inr ⟨by omega, hle⟩
          · rcases h2 _ h with h | h
            · exact .inl (by rw [List.map_cons]; exact List.mem_cons_of_mem _ h)
            · exact .inr ⟨by omega, h.2⟩
        · show e.2.2 ∈ (m + 1) :: (e.1.map (·.m) ++ e.2.1.map (·.1))
          by_cases c : m + 1 < e.2.2
          · exact List.mem_cons_of_mem _ (h3 c)
          · have : e.2.2 = m + 1 := by omega
            rw [this]; exact List.mem_cons_self
/-! ### what stands at a number -/
def look (ls : List Lt) (n : Int) : Option (Int × List Str) := (ls.find? fun l => decide (l.n = n)).map fun l => (l.b, l.s)
theorem look_cons (l : Lt) (r : List Lt) (n : Int) : look (l :: r) n = if l.n = n then some (l.b, l.s) else look r n := by
  unfold look
  rw [List.find?_cons]
  by_cases c : l.n = n <;> simp [c]
theorem look_none {ls : List Lt} {n : Int} (h : n ∉ ls.map (·.n)) : look ls n = none := by
  unfold look
  rw [List.find?_eq_none.mpr, Option.map_none]
  intro l hl
  simp only [decide_eq_true_eq]
  exact fun e => h (List.mem_map.mpr ⟨l, hl, e⟩)
def cntR (f : Int → Bool) (lo : Int) : Nat → Int
  | 0 => 0
  | k + 1 => cntR f lo k + (if f (lo + k) = true then 1 else 0)
theorem cntR_cons (f : Int → Bool) : ∀ (k : Nat) (lo : Int), cntR f lo (k + 1) = (if f lo = true then 1 else 0) + cntR f (lo + 1) k
  | 0, lo => by simp [cntR]
  | k + 1, lo => by
    rw [cntR, cntR_cons f k lo, cntR, Int.add_assoc]
    rw [show lo + ((k + 1 : Nat) : Int) = lo + 1 + (k : Int) by omega]
theorem cntR_congr {f g : Int → Bool} : ∀ (k : Nat) (lo : Int), (∀ n, lo ≤ n → n < lo + k → f n = g n) → cntR f lo k = cntR g lo k
  | 0, lo, _ => rfl
  | k + 1, lo, h => by
    rw [cntR, cntR, cntR_congr k lo fun n h1 h2 => h n h1 (by omega), h (lo + k) (by omega) (by omega)]
theorem cntR_zero {f : Int → Bool} (k : Nat) (lo : Int) (h : ∀ n, lo ≤ n → n < lo + k → f n = false) : cntR f lo k = 0 := by
  induction k with
  | zero => rfl
  | succ k ih =>
    rw [cntR, ih fun n h1 h2 => h n h1 (by omega), h (lo + k) (by omega) (by omega)]
    rfl
def chg (ls ls' : List Lt) (n : Int) : Bool := !decide (look ls n = look ls' n)
theorem ev_cnt (ψ : Psi) : ∀ (k : Nat) (lo : Int) (ls : List Lt) (m : Int), (ls.map (·.n)).Pairwise (· < ·) → (∀ l ∈ ls, lo ≤ l.n ∧ l.n < lo + k) → cntR (chg ls (ev ψ ls m).1) lo k = (ev ψ ls m).2.2 - m
  | 0, lo, [], m, _, _ => by show (0 : Int) = m - m; omega
  | 0, lo, l :: r, m, _, h => by have := h l List.mem_cons_self; omega
  | k + 1, lo, [], m, _, _ => by
    rw [cntR_zero]
    · show (0 : Int) = m - m; omega
    · intro n _ _
      unfold chg
      rw [show (ev ψ [] m).1 = [] from rfl]
      simp
  | k + 1, lo, l :: r, m, hp, h => by
    have hl := h l List.mem_cons_self
    rw [List.map_cons, List.pairwise_cons] at hp
    by_cases c : l.n = lo
    · have hr : ∀ x ∈ r, lo + 1 ≤ x.n ∧ x.n < lo + 1 + k := fun x hx => by
        have h1 := hp.1 x.n (List.mem_map.mpr ⟨x, hx, rfl⟩)
        have h2 := h x (List.mem_cons_of_mem _ hx)
        omega
      have nin : ∀ m', lo ∉ ((ev ψ r m').1.map (·.n)) := fun m' hx => by
        obtain ⟨x, hx, e⟩ := List.mem_map.mp ((ev_sub ψ r m').subset hx)
        have := hr x hx
        omega
      rw [cntR_cons]
      have ih0 := ev_cnt ψ k (lo + 1) r m hp.2 hr
      have ih1 := ev_cnt ψ k (lo + 1) r (m + 1) hp.2 hr
      unfold ev
      split
      · show (if chg (l :: r) (ev ψ r (m + 1)).1 lo = true then 1 else 0) + cntR (chg (l :: r) (ev ψ r (m + 1)).1) (lo + 1) k = (ev ψ r (m + 1)).2.2 - m
        have e1 : chg (l :: r) (ev ψ r (m + 1)).1 lo = true := by
          unfold chg
          rw [look_cons, if_pos c, look_none (nin _)]; rfl
        rw [e1, if_pos rfl, cntR_congr (g := chg r (ev ψ r (m + 1)).1) k (lo + 1) (fun n h1 h2 => by unfold chg; rw [look_cons, if_neg (by omega)]), ih1]
        omega
      · rename_i s hs
        split
        · rename_i cs
          show (if chg (l :: r) (l :: (ev ψ r m).1) lo = true then 1 else 0) + cntR (chg (l :: r) (l :: (ev ψ r m).1)) (lo + 1) k = (ev ψ r m).2.2 - m
          have e1 : chg (l :: r) (l :: (ev ψ r m).1) lo = false := by
            unfold chg
            rw [look_cons, if_pos c, look_cons, if_pos c]; simp
          rw [e1, if_neg Bool.false_ne_true, cntR_congr (g := chg r (ev ψ r m).1) k (lo + 1) (fun n h1 h2 => by unfold chg; rw [look_cons, if_neg (by omega), look_cons, if_neg (by omega)]), ih0]
          omega
        · rename_i cs
          show (if chg (l :: r) (⟨l.n, l.b, s, m + 1⟩ :: (ev ψ r (m + 1)).1) lo = true then 1 else 0) + cntR (chg (l :: r) (⟨l.n, l.b, s, m + 1⟩ :: (ev ψ r (m + 1)).1)) (lo + 1) k = (ev ψ r (m + 1)).2.2 - m
          have e1 : chg (l :: r) (⟨l.n, l.b, s, m + 1⟩ :: (ev ψ r (m + 1)).1) lo = true := by
            unfold chg
            rw [look_cons, if_pos c, look_cons, if_pos c]
            have cs' : ¬ l.s = s := fun e => cs e.symm
            simp [cs']
          rw [e1, if_pos rfl, cntR_congr (g := chg r (ev ψ r (m + 1)).1) k (lo + 1) (fun n h1 h2 => by unfold chg; rw [look_cons, if_neg (by omega), look_cons, if_neg (show ¬ l.n = n by omega)]), ih1]
          omega
    · have hr : ∀ x ∈ l :: r, lo + 1 ≤ x.n ∧ x.n < lo + 1 + k := fun x hx => by
        have h2 := h x hx
        rcases List.mem_cons.mp hx with rfl | hx
        · omega
        · have h1 := hp.1 x.n (List.mem_map.mpr ⟨x, hx, rfl⟩)
          omega
      have nin : lo ∉ (l :: r).map (·.n) := fun hx => by
        obtain ⟨x, hx, e⟩ := List.mem_map.mp hx
        have := hr x hx
        omega
      have nin' : lo ∉ (ev ψ (l :: r) m).1.map (·.n) := fun hx => nin ((ev_sub ψ (l :: r) m).subset hx)
      rw [cntR_cons]
      have e1 : chg (l :: r) (ev ψ (l :: r) m).1 lo = false := by
        unfold chg
        rw [look_none nin, look_none nin']; simp
      rw [e1, if_neg Bool.false_ne_true, ev_cnt ψ k (lo + 1) (l :: r) m (by rw [List.map_cons, List.pairwise_cons]; exact hp) hr]
      omega
end K1


set_option Elab.async false
set_option linter.all false
set_option maxRecDepth 100000
set_option maxHeartbeats 2000000
namespace K1
open PySem PySem.Spec PyProof.Rows L2 RZ StX
def Mk (F : Fo) : List Int := F.ls.map (·.m) ++ F.go.map (·.1)
structure GoodF (F : Fo) : Prop where
  asc : (F.ls.map (·.n)).Pairwise (· < ·)
  rng : ∀ l ∈ F.ls, 1 ≤ l.n ∧ l.n < F.nx
  nx1 : 1 ≤ F.nx
  mkd : (Mk F).Nodup
  mb : ∀ x ∈ Mk F, 1 ≤ x ∧ x ≤ F.mr
  mx : 1 ≤ F.mr → F.mr ∈ Mk F
  m0 : 0 ≤ F.mr
theorem good_new (a : Int) : GoodF (fNew a) := ⟨List.Pairwise.nil, fun l hl => (by cases hl), Int.le_refl _, List.Pairwise.nil, fun x hx => (by cases hx), fun h => absurd (show (1 : Int) ≤ 0 from h) (by decide), Int.le_refl _⟩
theorem good_app {F : Fo} (b : Int) (ss : List Str) (g : GoodF F) : GoodF (fApp F b ss) := by
  have e : Mk (fApp F b ss) = F.ls.map (·.m) ++ (F.mr + 1) :: F.go.map (·.1) := by
    show (F.ls ++ [(⟨F.nx, b, ss, F.mr + 1⟩ : Lt)]).map (·.m) ++ F.go.map (·.1) = _
    rw [List.map_append, List.append_assoc]; rfl
  have p : (Mk (fApp F b ss)).Perm ((F.mr + 1) :: Mk F) := by rw [e]; exact List.perm_middle
  have g0 := g.m0
  refine ⟨?_, fun l hl => ?_, ?_, ?_, fun x hx => ?_, fun _ => ?_, ?_⟩
  · show ((F.ls ++ [(⟨F.nx, b, ss, F.mr + 1⟩ : Lt)]).map (·.n)).Pairwise (· < ·)
    rw [List.map_append, List.pairwise_append]
    refine ⟨g.asc, List.pairwise_singleton _ _, fun x hx y hy => ?_⟩
    obtain ⟨l, hl, rfl⟩ := List.mem_map.mp hx
    rw [List.mem_singleton.mp (show y ∈ [F.nx] from hy)]
    exact (g.rng l hl).2
  · show 1 ≤ l.n ∧ l.n < F.nx + 1
    have h1 := g.nx1
    rcases List.mem_append.mp (show l ∈ F.ls ++ [(⟨F.nx, b, ss, F.mr + 1⟩ : Lt)] from hl) with h | h
    · have := g.rng l h; omega
    · rw [List.mem_singleton.mp h]
      show 1 ≤ F.nx ∧ F.nx < F.nx + 1
      omega
  · have := g.nx1
    show 1 ≤ F.nx + 1
    omega
  · rw [p.nodup_iff, List.nodup_cons]
    exact ⟨fun h => by have := g.mb _ h; omega, g.mkd⟩
  · show 1 ≤ x ∧ x ≤ F.mr + 1
    rcases List.mem_cons.mp (p.mem_iff.mp hx) with rfl | h
    · omega
    · have := g.mb _ h; omega
  · exact p.mem_iff.mpr List.mem_cons_self
  · show 0 ≤ F.mr + 1
    omega
theorem good_ev {F : Fo} (ψ : Psi) (g : GoodF F) : GoodF (evF ψ F) := by
  have hm := List.nodup_append.mp g.mkd
  have hb : ∀ x ∈ F.ls.map (·.m), x ≤ F.mr := fun x hx => (g.mb x (List.mem_append_left _ hx)).2
  obtain ⟨h1, h2, h3⟩ := ev_marks ψ F.ls F.mr hm.1 hb (Int.le_refl _)
  have hle := ev_le ψ F.ls F.mr
  have hsm := ev_same ψ F.ls F.mr
  have hsub := ev_sub ψ F.ls F.mr
  have e : Mk (evF ψ F) = (ev ψ F.ls F.mr).1.map (·.m) ++ (F.go.map (·.1) ++ (ev ψ F.ls F.mr).2.1.map (·.1)) := by
    show (ev ψ F.ls F.mr).1.map (·.m) ++ (F.go ++ (ev ψ F.ls F.mr).2.1).map (·.1) = _
    rw [List.map_append]
  have e2 : (evF ψ F).mr = (ev ψ F.ls F.mr).2.2 := rfl
  have e3 : (evF ψ F).ls = (ev ψ F.ls F.mr).1 := rfl
  have e4 : (evF ψ F).nx = F.nx := rfl
  generalize ev ψ F.ls F.mr = r at h1 h2 h3 hle hsm hsub e e2 e3
  have p : (Mk (evF ψ F)).Perm (F.go.map (·.1) ++ (r.1.map (·.m) ++ r.2.1.map (·.1))) := by
    rw [e, ← List.append_assoc, ← List.append_assoc]
    exact List.Perm.append_right _ List.perm_append_comm
  have g0 := g.m0
  refine ⟨by rw [e3]; exact g.asc.sublist hsub, fun l hl => ?_, by rw [e4]; exact g.nx1, ?_, fun x hx => ?_, fun h => ?_, by rw [e2]; omega⟩
  · rw [e3] at hl
    rw [e4]
    obtain ⟨x, hx, ex⟩ := List.mem_map.mp (hsub.subset (List.mem_map.mpr ⟨l, hl, rfl⟩))
    have := g.rng x hx
    have ex : x.n = l.n := ex
    omega
  · rw [p.nodup_iff, List.nodup_append]
    refine ⟨hm.2.1, h1, fun a ha b hb' eab => ?_⟩
    subst eab
    rcases h2 _ hb' with h | h
    · exact hm.2.2 _ h _ ha rfl
    · have := g.mb a (List.mem_append_right _ ha)
      omega
  · rw [e2]
    rcases List.mem_append.mp (p.mem_iff.mp hx) with h | h
    · have := g.mb x (List.mem_append_right _ h); omega
    · rcases h2 _ h with h | h
      · have := g.mb x (List.mem_append_left _ h); omega
      · omega
  · rw [e2] at h ⊢
    by_cases c : F.mr < r.2.2
    · exact p.mem_iff.mpr (List.mem_append_right _ (h3 c))
    · have ec : r.2.2 = F.mr := by omega
      obtain ⟨s1, s2⟩ := hsm ec
      rw [ec] at h ⊢
      have := g.mx h
      rw [e, s1, s2, List.map_nil, List.append_nil]
      exact this
theorem good_does {F : Fo} (d : Dd) (nt : NoTrim d) (g : GoodF F) : GoodF (does d F) := by
  by_cases c : ∃ b ss, d = .app b ss
  · obtain ⟨b, ss, rfl⟩ := c
    exact good_app b ss g
  · rw [does_ev nt fun b ss e => c ⟨b, ss, e⟩]
    exact good_ev _ g
theorem look_app {ls : List Lt} {l : Lt} {n : Int} (h : l.n ∉ ls.map (·.n)) : look (ls ++ [l]) n = if l.n = n then some (l.b, l.s) else look ls n := by
  by_cases c : l.n = n
  · subst c
    rw [if_pos rfl]
    unfold look
    rw [List.find?_append, List.find?_eq_none.mpr (fun x hx => by
      simp only [decide_eq_true_eq]
      exact fun e => h (List.mem_map.mpr ⟨x, hx, e⟩))]
    simp
  · rw [if_neg c]
    unfold look
    rw [List.find?_append]
    simp [c]
theorem cnt_does {F : Fo} (d : Dd) (nt : NoTrim d) (g : GoodF F) : (does d F).mr = F.mr + cntR (chg F.ls (does d F).ls) 1 ((does d F).nx - 1).toNat ∧ F.nx ≤ (does d F).nx ∧ (does d F).nx ≤ F.nx + 1 := by
  have h1 := g.nx1
  by_cases c : ∃ b ss, d = .app b ss
  · obtain ⟨b, ss, rfl⟩ := c
    have nin : F.nx ∉ F.ls.map (·.n) := fun hx => by
      obtain ⟨x, hx, ex⟩ := List.mem_map.mp hx
      have := g.rng x hx
      have ex : x.n = F.nx := ex
      omega
    refine ⟨?_, by show F.nx ≤ F.nx + 1; omega, Int.le_refl _⟩
    show F.mr + 1 = F.mr + cntR (chg F.ls (F.ls ++ [(⟨F.nx, b, ss, F.mr + 1⟩ : Lt)])) 1 (F.nx + 1 - 1).toNat
    obtain ⟨k, hk⟩ : ∃ k : Nat, F.nx = k + 1 := ⟨(F.nx - 1).toNat, by omega⟩
    rw [show (F.nx + 1 - 1).toNat = k + 1 by omega, cntR, cntR_zero k 1 (fun n a1 a2 => by
      unfold chg
      rw [look_app (l := ⟨F.nx, b, ss, F.mr + 1⟩) nin, if_neg (show ¬ F.nx = n by omega)]; simp)]
    have e : chg F.ls (F.ls ++ [(⟨F.nx, b, ss, F.mr + 1⟩ : Lt)]) (1 + (k : Int)) = true := by
      unfold chg
      rw [look_app (l := ⟨F.nx, b, ss, F.mr + 1⟩) nin, if_pos (show F.nx = 1 + (k : Int) by omega), look_none (by rw [show (1 + (k : Int)) = F.nx by omega]; exact nin)]
      rfl
    rw [e, if_pos rfl]
    omega
  · rw [does_ev nt fun b ss e => c ⟨b, ss, e⟩]
    refine ⟨?_, Int.le_refl _, by show F.nx ≤ F.nx + 1; omega⟩
    show (ev (psi d) F.ls F.mr).2.2 = F.mr + cntR (chg F.ls (ev (psi d) F.ls F.mr).1) 1 (F.nx - 1).toNat
    rw [ev_cnt (psi d) (F.nx - 1).toNat 1 F.ls F.mr g.asc fun l hl => by have := g.rng l hl; omega]
    omega
end K1


set_option Elab.async false
set_option linter.all false
set_option maxRecDepth 100000
set_option maxHeartbeats 2000000
/-! Folders between two looks, as mathematics. -/
namespace K1
open PySem PySem.Spec PyProof.Rows L2 RZ StX
def sgAt (ls : List Lt) (n : Int) : Option (List Str) := (look ls n).map (·.2)
theorem sgAt_cons (l : Lt) (r : List Lt) (n : Int) : sgAt (l :: r) n = if l.n = n then some l.s else sgAt r n := by
  unfold sgAt
  rw [look_cons]
  split <;> rfl
theorem sgAt_none {ls : List Lt} {n : Int} (h : n ∉ ls.map (·.n)) : sgAt ls n = none := by unfold sgAt; rw [look_none h]; rfl
theorem sgAt_mem {ls : List Lt} {n : Int} {s : List Str} (h : sgAt ls n = some s) : n ∈ ls.map (·.n) := Classical.byContradiction fun k => by rw [sgAt_none k] at h; cases h
theorem sgAt_some : ∀ {ls : List Lt} {n : Int}, n ∈ ls.map (·.n) → ∃ s, sgAt ls n = some s
  | l :: r, n, h => by
    rw [sgAt_cons]
    by_cases c : l.n = n
    · rw [if_pos c]; exact ⟨_, rfl⟩
    · rw [if_neg c]
      rcases List.mem_cons.mp (show n ∈ l.n :: r.map (·.n) from h) with h | h
      · exact absurd h.symm c
      · exact sgAt_some h
def goneB (ψ : Psi) (l : Lt) : Bool := decide (ψ l.n l.s = none)
def chgB (ψ : Psi) (l : Lt) : Bool := decide (ψ l.n l.s ≠ none ∧ ψ l.n l.s ≠ some l.s)
def goneC (ψ : Psi) (ls : List Lt) : Nat := (ls.filter (goneB ψ)).length
def chgC (ψ : Psi) (ls : List Lt) : Nat := (ls.filter (chgB ψ)).length
theorem goneC_cons (ψ : Psi) (l : Lt) (r : List Lt) : goneC ψ (l :: r) = (if ψ l.n l.s = none then 1 else 0) + goneC ψ r := by
  unfold goneC
  by_cases c : ψ l.n l.s = none
  · rw [List.filter_cons_of_pos (show goneB ψ l = true from decide_eq_true c), if_pos c, List.length_cons]; omega
  · rw [List.filter_cons_of_neg (show ¬ goneB ψ l = true from fun z => c (of_decide_eq_true z)), if_neg c]; omega
theorem chgC_cons (ψ : Psi) (l : Lt) (r : List Lt) : chgC ψ (l :: r) = (if ψ l.n l.s ≠ none ∧ ψ l.n l.s ≠ some l.s then 1 else 0) + chgC ψ r := by
  unfold chgC
  by_cases c : ψ l.n l.s ≠ none ∧ ψ l.n l.s ≠ some l.s
  · rw [List.filter_cons_of_pos (show chgB ψ l = true from decide_eq_true c), if_pos c, List.length_cons]; omega
  · rw [List.filter_cons_of_neg (show ¬ chgB ψ l = true from fun z => c (of_decide_eq_true z)), if_neg c]; omega
theorem ev_mr (ψ : Psi) : ∀ (ls : List Lt) (m : Int), (ev ψ ls m).2.2 = m + goneC ψ ls + chgC ψ ls ∧ (ev ψ ls m).1.length + goneC ψ ls = ls.length
  | [], m => ⟨by show m = m + 0 + 0; omega, rfl⟩
  | l :: r, m => by
    obtain ⟨a1, a2⟩ := ev_mr ψ r m
    obtain ⟨b1, b2⟩ := ev_mr ψ r (m + 1)
    rw [goneC_cons, chgC_cons, List.length_cons]
    cases hs : ψ l.n l.s with
    | none =>
      rw [if_pos rfl, if_neg (fun z => z.1 rfl)]
      simp only [ev, hs]
      exact ⟨by omega, by omega⟩
    | some s =>
      rw [if_neg (fun z => by cases z)]
      by_cases c : s = l.s
      · rw [if_neg (fun z => z.2 (by rw [c]))]
        simp only [ev, hs, if_pos c, List.length_cons]
        exact ⟨by omega, by omega⟩
      · rw [if_pos ⟨fun z => (by cases z), fun z => c (Option.some.inj z)⟩]
        simp only [ev, hs, if_neg c, List.length_cons]
        exact ⟨by omega, by omega⟩
theorem ev_at (ψ : Psi) : ∀ (ls : List Lt) (m : Int), (ls.map (·.n)).Nodup → ∀ l ∈ ls, sgAt (ev ψ ls m).1 l.n = ψ l.n l.s
  | [], m, _, l, h => by cases h
  | l0 :: r, m, nd, l, h => by
    rw [List.map_cons, List.nodup_cons] at nd
    have nin : ∀ m', l0.n ∉ (ev ψ r m').1.map (·.n) := fun m' hx => nd.1 ((ev_sub ψ r m').subset hx)
    have ne : l ∈ r → ¬ l0.n = l.n := fun hl e => nd.1 (by rw [e]; exact List.mem_map.mpr ⟨l, hl, rfl⟩)
    have ih0 := ev_at ψ r m nd.2 l
    have ih1 := ev_at ψ r (m + 1) nd.2 l
    rcases List.mem_cons.mp h with rfl | hl
    · cases hs : ψ l.n l.s with
      | none => simp only [ev, hs]; exact sgAt_none (nin _)
      | some s =>
        by_cases c : s = l.s
        · simp only [ev, hs, if_pos c]; rw [sgAt_cons, if_pos rfl, c]
        · simp only [ev, hs, if_neg c]; rw [sgAt_cons, if_pos rfl]
    · cases hs : ψ l0.n l0.s with
      | none => simp only [ev, hs]; exact ih1 hl
      | some s =>
        by_cases c : s = l0.s
        · simp only [ev, hs, if_pos c]; rw [sgAt_cons, if_neg (ne hl)]; exact ih0 hl
        · simp only [ev, hs, if_neg c]; rw [sgAt_cons, if_neg (show ¬ l0.n = l.n from ne hl)]; exact ih1 hl
structure StepF (F F' : Fo) (ψ : Psi) (cm : Int) : Prop where
  age : F'.age = F.age
  c01 : cm = 0 ∨ cm = 1
  nx : F'.nx = F.nx + cm
  mr : F'.mr = F.mr + cm + goneC ψ F.ls + chgC ψ F.ls
  len : (F'.ls.length : Int) + goneC ψ F.ls = F.ls.length + cm
  at_ : ∀ l ∈ F.ls, sgAt F'.ls l.n = ψ l.n l.s
  nums : ∀ l' ∈ F'.ls, l'.n ∈ F.ls.map (·.n) ∨ (cm = 1 ∧ l'.n = F.nx)
theorem asc_nd {ls : List Lt} (h : (ls.map (·.n)).Pairwise (· < ·)) : (ls.map (·.n)).Nodup := h.imp fun h e => absurd e (Int.ne_of_lt h)
theorem step_does {F : Fo} {d : Dd} (nt : NoTrim d) (g : GoodF F) : ∃ ψ cm, StepF F (does d F) ψ cm := by
  have nd := asc_nd g.asc
  by_cases c : ∃ b ss, d = .app b ss
  · obtain ⟨b, ss, rfl⟩ := c
    have e0 : ∀ ls : List Lt, goneC (fun _ s => some s) ls = 0 ∧ chgC (fun _ s => some s) ls = 0 := fun ls => by
      induction ls with
      | nil => exact ⟨rfl, rfl⟩
      | cons l r ih =>
        rw [goneC_cons, chgC_cons, if_neg (fun z => by cases z), if_neg (fun z => z.2 rfl)]
        exact ⟨by omega, by omega⟩
    obtain ⟨e1, e2⟩ := e0 F.ls
    refine ⟨fun _ s => some s, 1, rfl, .inr rfl, rfl, ?_, ?_, fun l hl => ?_, fun l' hl' => ?_⟩
    · rw [e1, e2]; show F.mr + 1 = F.mr + 1 + 0 + 0; omega
    · rw [e1]
      show (((F.ls ++ [(⟨F.nx, b, ss, F.mr + 1⟩ : Lt)]).length : Nat) : Int) + 0 = _
      rw [List.length_append]; show ((F.ls.length + 1 : Nat) : Int) + 0 = _; omega
    · show sgAt (F.ls ++ [(⟨F.nx, b, ss, F.mr + 1⟩ : Lt)]) l.n = some l.s
      have r := g.rng l hl
      have : ∀ ls : List Lt, (ls.map (·.n)).Nodup → l ∈ ls → sgAt (ls ++ [(⟨F.nx, b, ss, F.mr + 1⟩ : Lt)]) l.n = some l.s := fun ls => by
        induction ls with
        | nil => intro _ h; cases h
        | cons h t ih =>
          intro nd hl
          rw [List.map_cons, List.nodup_cons] at nd
          rw [List.cons_append, sgAt_cons]
          rcases List.mem_cons.mp hl with rfl | hl
          · rw [if_pos rfl]
          · rw [if_neg (fun e => nd.1 (by rw [e]; exact List.mem_map.mpr ⟨l, hl, rfl⟩))]
            exact ih nd.2 hl
      exact this F.ls nd hl
    · rcases List.mem_append.mp (show l' ∈ F.ls ++ [(⟨F.nx, b, ss, F.mr + 1⟩ : Lt)] from hl') with h | h
      · exact .inl (List.mem_map.mpr ⟨l', h, rfl⟩)
      · rw [List.mem_singleton.mp h]; exact .inr ⟨rfl, rfl⟩
  · rw [does_ev nt fun b ss e => c ⟨b, ss, e⟩]
    obtain ⟨e1, e2⟩ := ev_mr (psi d) F.ls F.mr
    refine ⟨psi d, 0, rfl, .inl rfl, by show F.nx = F.nx + 0; omega, ?_, ?_, ev_at _ _ _ nd, fun l' hl' => .inl ((ev_sub (psi d) F.ls F.mr).subset (List.mem_map.mpr ⟨l', hl', rfl⟩))⟩
    · show (ev (psi d) F.ls F.mr).2.2 = F.mr + 0 + goneC (psi d) F.ls + chgC (psi d) F.ls
      omega
    · show (((ev (psi d) F.ls F.mr).1.length : Nat) : Int) + goneC (psi d) F.ls = F.ls.length + 0
      omega
/-- a folder that one can look at -/
structure SgF (F : Fo) : Prop where
  a1 : 1 ≤ F.age
  lt : (F.ls.length : Int) < F.nx
  lo : 2 * (F.nx - 1) - F.ls.length ≤ F.mr
  one : 1 < F.nx ∨ F.mr = 0
theorem sgF_new {a : Int} (h : 1 ≤ a) : SgF (fNew a) := ⟨h, by show ((0 : Nat) : Int) < 1; decide, by show 2 * ((1 : Int) - 1) - ((0 : Nat) : Int) ≤ 0; decide, .inr rfl⟩
theorem gc_le (ψ : Psi) (ls : List Lt) : goneC ψ ls ≤ ls.length ∧ chgC ψ ls ≤ ls.length := ⟨List.length_filter_le _ _, List.length_filter_le _ _⟩
theorem sgF_step {F F' : Fo} {ψ : Psi} {cm : Int} (h : SgF F) (s : StepF F F' ψ cm) : SgF F' := by
  obtain ⟨s1, s2, s3, s4, s5, s6, s7⟩ := s
  obtain ⟨h1, h2, h3, h4⟩ := h
  have g := gc_le ψ F.ls
  exact ⟨by omega, by omega, by omega, by omega⟩
def chgL (ψ : Psi) (ls : List Lt) : List Int := (ls.filter (chgB ψ)).map (·.n)
/-- between the first look and now -/
structure RunF (F0 F : Fo) (w x : Int) (tch cs : List Int) : Prop where
  age : F.age = F0.age
  nx0 : F0.nx ≤ F.nx
  w0 : 0 ≤ w
  x0 : 0 ≤ x
  mr : F.mr = F0.mr + (F.nx - F0.nx) + w + x
  len : (F.ls.length : Int) = F0.ls.length + (F.nx - F0.nx) - w
  tl : (tch.length : Int) = x
  tm : ∀ n ∈ tch, n ∈ F0.ls.map (·.n) ∨ (F0.nx ≤ n ∧ n < F.nx)
  nm : ∀ l ∈ F.ls, l.n ∈ F0.ls.map (·.n) ∨ (F0.nx ≤ l.n ∧ l.n < F.nx)
  cl : ∀ c ∈ cs, F0.ls.length - w ≤ c ∧ c ≤ F0.ls.length + (F.nx - F0.nx) ∧ 0 ≤ c
  ne : cs ≠ []
theorem run0 (F : Fo) : RunF F F 0 0 [] [(F.ls.length : Int)] := ⟨rfl, Int.le_refl _, Int.le_refl _, Int.le_refl _, by omega, by omega, rfl, (fun _ z => by cases z), fun l hl => .inl (List.mem_map.mpr ⟨l, hl, rfl⟩), fun c hc => by rw [List.mem_singleton.mp hc]; omega, List.cons_ne_nil _ _⟩
theorem run_step {F0 F F' : Fo} {w x cm : Int} {tch cs : List Int} {ψ : Psi} (r : RunF F0 F w x tch cs) (s : StepF F F' ψ cm) : RunF F0 F' (w + goneC ψ F.ls) (x + chgC ψ F.ls) (tch ++ chgL ψ F.ls) (cs ++ [(F'.ls.length : Int)]) := by
  obtain ⟨s1, s2, s3, s4, s5, s6, s7⟩ := s
  obtain ⟨r1, r2, r3, r4, r5, r6, r7, r8, r9, r10, r11⟩ := r
  have g := gc_le ψ F.ls
  have keep : ∀ n, n ∈ F.ls.map (·.n) → n ∈ F0.ls.map (·.n) ∨ (F0.nx ≤ n ∧ n < F'.nx) := fun n hn => by
    obtain ⟨l, hl, rfl⟩ := List.mem_map.mp hn
    rcases r9 l hl with h | h
    · exact .inl h
    · exact .inr ⟨h.1, by omega⟩
  refine ⟨by rw [s1, r1], by omega, by omega, by omega, by omega, by omega, ?_, fun n hn => ?_, fun l hl => ?_, fun c hc => ?_, ?_⟩
  · rw [List.length_append]
    have : (chgL ψ F.ls).length = chgC ψ F.ls := List.length_map _
    omega
  · rcases List.mem_append.mp hn with h | h
    · rcases r8 n h with h | h
      · exact .inl h
      · exact .inr ⟨h.1, by omega⟩
    · refine keep n ?_
      obtain ⟨l, hl, rfl⟩ := List.mem_map.mp h
      exact List.mem_map.mpr ⟨l, (List.mem_filter.mp hl).1, rfl⟩
  · rcases s7 l hl with h | ⟨h1, h2⟩
    · exact keep _ h
    · exact .inr ⟨by omega, by omega⟩
  · rcases List.mem_append.mp hc with h | h
    · have := r10 c h; omega
    · rw [List.mem_singleton.mp h]; omega
  · exact fun z => by simp at z
end K1


set_option Elab.async false
set_option linter.all false
set_option maxRecDepth 100000
set_option maxHeartbeats 4000000
namespace K1
open PySem PySem.Spec PyProof.Rows L2 RZ
abbrev sSight : Stmt := st__is_sight
abbrev nSight : List Str := ["value", "age", "count", "upcoming", "mark"]
theorem scSight : FnScope nSight pV (defScope sSight) := ⟨rfl, rfl, rfl, by decide +kernel, rfl, by decide +kernel, by decide +kernel⟩
/-- a def that tells a bool of one value, and makes nothing -/
def spB1 (f : PyData → Bool) : Sp := fun vs H Q _ => ∃ (x : V) (d : PyData), vs = [x] ∧ Dv H x d ∧ Q (.bl (f d)) H
def isMark : PyData → Bool | .int n => decide (0 ≤ n) | _ => false
def sightB : PyData → Bool
  | .tuple [a, c, n, m] => isNum a && (isInt c && (isNum n && (isMark m && ((decide (0 ≤ dI c) && decide (dI c < dI n)) && (!decide (dI m < 2 * (dI n - 1) - dI c) && (decide (1 < dI n) || decide (dI m = 0)))))))
  | _ => false
theorem intB {d : PyData} (h : isInt d = true) : ∃ n, d = .int n := by
  cases d with
  | int n => exact ⟨n, rfl⟩
  | _ => cases h
theorem numB {d : PyData} (h : isNum d = true) : ∃ n, d = .int n ∧ 1 ≤ n := by
  cases d with
  | int n => exact ⟨n, rfl, of_decide_eq_true h⟩
  | _ => cases h
theorem markB {d : PyData} (h : isMark d = true) : ∃ n, d = .int n ∧ 0 ≤ n := by
  cases d with
  | int n => exact ⟨n, rfl, of_decide_eq_true h⟩
  | _ => cases h
theorem Dv.intV {H : Hp} {x : V} {n : Int} (h : Dv H x (.int n)) : x = .int n := by
  cases h; rfl
section
variable {P : Program} {w : World} {K : PySem.W.Frag} {mg : Str → Option Value} {base : Heap}
theorem ok_isIntB {f : Addr} {fd : FuncData} (T : Bj mg) (F : Fun K "is_integer" "is_integer" sIsInt f fd) : FnOk P w K mg base CX0 1 f fd pV (spB1 isInt) := by
  refine F.ok scIsInt (fun vs H Q E h => ?_) (fun cdv A outer s H vs Q E hr h => ?_)
  · obtain ⟨x, d, rfl, _⟩ := h
    rfl
  · obtain ⟨x, d, rfl, hd, q⟩ := h
    obtain ⟨b1, b2, h1, h2, hb⟩ := kit_int d
    have ty := hd.ty (K := K)
    refine ⟨_, (pss_one (ps_ret (pe_and (pe_callB (call_isiK1 (K := K) rfl) (by rfl) T.isinstance PyProof.Rows.boot_isinstance (pa_cons (pv 0) (pa_cons (pe_bltn (v := .ty "int") rfl T.int PyProof.Rows.boot_int rfl) pa_nil))) (pe_one (pe_not (pe_callB (call_isiK1 (K := K) rfl) (by rfl) T.isinstance PyProof.Rows.boot_isinstance (pa_cons (pv 0) (pa_cons (pe_bltn (v := .ty "bool") rfl T.bool PyProof.Rows.boot_bool rfl) pa_nil)))))))), ?_⟩
    refine ⟨_, rfl, x, .ty "int", .type _, .type "int", b1, rfl, .ty _, ty, kit_ty h1, _, rfl, ?_⟩
    rw [← hb] at q
    cases b1 with
    | true => exact itbT rfl ⟨_, rfl, x, .ty "bool", .type _, .type "bool", b2, rfl, .ty _, ty, kit_ty h2, _, rfl, q⟩
    | false => exact itbF rfl q
theorem def_isInt (T : Bj mg) (a : At K mg "is_integer" sIsInt) : Def P w K mg base CX0 1 "is_integer" pV (spB1 isInt) :=
  a.def (fun _ _ _ _ _ _ us hl => match us, hl with | [_], _ => rfl) fun f fd F => ok_isIntB T F
theorem ok_isNumB {f : Addr} {fd : FuncData} (T : Bj mg) (D_is_integer : Def P w K mg base CX0 1 "is_integer" pV (spB1 isInt)) (F : Fun K "is_number" "is_number" sIsNum f fd) : FnOk P w K mg base CX0 2 f fd pV (spB1 isNum) := by
  refine F.ok scIsNum (fun vs H Q E h => ?_) (fun cdv A outer s H vs Q E hr h => ?_)
  · obtain ⟨x, d, rfl, _⟩ := h
    rfl
  · obtain ⟨x, d, rfl, hd, q⟩ := h
    refine ⟨_, (pss_one (ps_ret (pe_and (pe_def D_is_integer (hr.mono (by decide)) rfl pass0 (pa_cons (pv 0) pa_nil)) (pe_one (pe_cmpR op_ge (pv 0) pe_int (nomark _)))))), ?_⟩
    refine ⟨_, rfl, x, d, rfl, hd, _, rfl, ?_⟩
    cases hd with
    | int n => exact itbT rfl ⟨_, rfl, _, _, rfl, rfl, q⟩
    | _ => exact itbF rfl q
theorem def_isNum (T : Bj mg) (D_is_integer : Def P w K mg base CX0 1 "is_integer" pV (spB1 isInt)) (a : At K mg "is_number" sIsNum) : Def P w K mg base CX0 2 "is_number" pV (spB1 isNum) :=
  a.def (fun _ _ _ _ _ _ us hl => match us, hl with | [_], _ => rfl) fun f fd F => ok_isNumB T D_is_integer F
theorem ok_isMarkB {f : Addr} {fd : FuncData} (T : Bj mg) (D_is_integer : Def P w K mg base CX0 1 "is_integer" pV (spB1 isInt)) (F : Fun K "is_mark" "is_mark" sIsMark f fd) : FnOk P w K mg base CX0 2 f fd pV (spB1 isMark) := by
  refine F.ok scIsMark (fun vs H Q E h => ?_) (fun cdv A outer s H vs Q E hr h => ?_)
  · obtain ⟨x, d, rfl, _⟩ := h
    rfl
  · obtain ⟨x, d, rfl, hd, q⟩ := h
    refine ⟨_, (pss_one (ps_ret (pe_and (pe_def D_is_integer (hr.mono (by decide)) rfl pass0 (pa_cons (pv 0) pa_nil)) (pe_one (pe_cmpR op_ge (pv 0) pe_int (nomark _)))))), ?_⟩
    refine ⟨_, rfl, x, d, rfl, hd, _, rfl, ?_⟩
    cases hd with
    | int n => exact itbT rfl ⟨_, rfl, _, _, rfl, rfl, q⟩
    | _ => exact itbF rfl q
theorem def_isMark (T : Bj mg) (D_is_integer : Def P w K mg base CX0 1 "is_integer" pV (spB1 isInt)) (a : At K mg "is_mark" sIsMark) : Def P w K mg base CX0 2 "is_mark" pV (spB1 isMark) :=
  a.def (fun _ _ _ _ _ _ us hl => match us, hl with | [_], _ => rfl) fun f fd F => ok_isMarkB T D_is_integer F
theorem ok_sight {f : Addr} {fd : FuncData} (T : Bj mg) (D_is_integer : Def P w K mg base CX0 1 "is_integer" pV (spB1 isInt)) (D_is_number : Def P w K mg base CX0 2 "is_number" pV (spB1 isNum)) (D_is_mark : Def P w K mg base CX0 2 "is_mark" pV (spB1 isMark))
    (F : Fun K "_is_sight" "_is_sight" sSight f fd) : FnOk P w K mg base CX0 3 f fd pV (spB1 sightB) := by
  have nd := scSight.nd
  refine F.ok scSight (fun vs H Q E h => ?_) (fun cdv A outer s H vs Q E hr h => ?_)
  · obtain ⟨x, d, rfl, _⟩ := h
    rfl
  · obtain ⟨x, d, rfl, hd, q⟩ := h
    refine ⟨_, (pss_cons (ps_if (PW.pt (pw_or (pt_not (pt_val (pe_callB (call_isiK1 (K := K) rfl) (by rfl) T.isinstance PyProof.Rows.boot_isinstance (pa_cons (pv 0) (pa_cons (pe_bltn (v := .ty "tuple") rfl T.tuple PyProof.Rows.boot_tuple rfl) pa_nil))))) (pw_or1 (pt_cmpR op_ne (pe_callB (call_lenK (K := K) rfl) (by rfl) T.len PySem.boot_len (pa_cons (pv 0) pa_nil)) pe_int (nomark _)))))
  (pss_one (ps_ret pe_bl))
  pss_nil)
 (pss_cons (ps_asg (pv 0) (pg_tup rfl (pgs_cons (pg_name (i := 1) nd rfl (Or.inl rfl)) (pgs_cons (pg_name (i := 2) nd rfl (Or.inl rfl)) (pgs_cons (pg_name (i := 3) nd rfl (Or.inl rfl)) (pgs_cons (pg_name (i := 4) nd rfl (Or.inl rfl)) pgs_nil))))))
 (pss_cons (ps_if (PW.pt (pw_or (pt_not (pt_val (pe_def D_is_number (hr.mono (by decide)) rfl pass0 (pa_cons (pv 1) pa_nil)))) (pw_or (pt_not (pt_val (pe_def D_is_integer (hr.mono (by decide)) rfl pass0 (pa_cons (pv 2) pa_nil)))) (pw_or (pt_not (pt_val (pe_def D_is_number (hr.mono (by decide)) rfl pass0 (pa_cons (pv 3) pa_nil)))) (pw_or1 (pt_not (pt_val (pe_def D_is_mark (hr.mono (by decide)) rfl pass0 (pa_cons (pv 4) pa_nil)))))))))
  (pss_one (ps_ret pe_bl))
  pss_nil)
 (pss_cons (ps_if (PW.pt (pw_or (pt_not (pt_chain op_le op_lt pe_int (pv 2) (pv 3))) (pw_or1 (pt_cmpR op_lt (pv 4) (pe_op op_sub (pe_op op_mul pe_int (pe_op op_sub (pv 3) pe_int)) (pv 2)) (nomark _)))))
  (pss_one (ps_ret pe_bl))
  pss_nil)
 (pss_one (ps_ret (pe_or (pe_cmpR op_gt (pv 3) pe_int (nomark _)) (pe_one (pe_cmpR op_eq (pv 4) pe_int (nomark _)))))))))), ?_⟩
    refine ⟨_, rfl, x, .ty "tuple", .type _, .type "tuple", isTup d, rfl, .ty _, hd.ty, kit_ty (kit_tup d), _, rfl, ?_⟩
    by_cases hs : isTup d = true
    · obtain ⟨a, xs, rfl, ha, hA, ed⟩ := hd.tupD hs
      have hlen := hA.len
      generalize itemsD d = ds at hA ed hlen
      subst ed
      refine itbF rfl ⟨_, rfl, a, xs, rfl, .inr (st ha), rfl, _, rfl, ?_⟩
      by_cases h4 : ds.length = 4
      · refine itbF (by rw [hlen, h4]; rfl) ?_
        match ds, xs, hA, h4 with
        | [d1, d2, d3, d4], _, .cons (v := x1) h1 (.cons (v := x2) h2 (.cons (v := x3) h3 (.cons (v := x4) hm .nil))), _ =>
          have e0 : sightB (.tuple [d1, d2, d3, d4]) = (isNum d1 && (isInt d2 && (isNum d3 && (isMark d4 && ((decide (0 ≤ dI d2) && decide (dI d2 < dI d3)) && (!decide (dI d4 < 2 * (dI d3 - 1) - dI d2) && (decide (1 < dI d3) || decide (dI d4 = 0)))))))) := rfl
          rw [e0] at q
          refine ⟨_, rfl, a, _, rfl, st ha, rfl, x1, _, rfl, x2, _, rfl, x3, _, rfl, x4, _, rfl, rfl, ?_⟩
          refine ⟨_, rfl, x1, d1, rfl, h1, _, rfl, ?_⟩
          by_cases n1 : isNum d1 = true
          · rw [n1] at q ⊢
            refine itbF rfl ⟨_, rfl, x2, d2, rfl, h2, _, rfl, ?_⟩
            by_cases n2 : isInt d2 = true
            · rw [n2] at q ⊢
              refine itbF rfl ⟨_, rfl, x3, d3, rfl, h3, _, rfl, ?_⟩
              by_cases n3 : isNum d3 = true
              · rw [n3] at q ⊢
                refine itbF rfl ⟨_, rfl, x4, d4, rfl, hm, _, rfl, ?_⟩
                by_cases n4 : isMark d4 = true
                · rw [n4] at q ⊢
                  refine itbF rfl ?_
                  obtain ⟨c, rfl⟩ := intB n2
                  obtain ⟨n, rfl, _⟩ := numB n3
                  obtain ⟨m, rfl, _⟩ := markB n4
                  obtain rfl := h2.intV
                  obtain rfl := h3.intV
                  obtain rfl := hm.intV
                  have q : Q (.bl ((decide (0 ≤ c) && decide (c < n)) && (!decide (m < 2 * (n - 1) - c) && (decide (1 < n) || decide (m = 0))))) H := q
                  refine ⟨_, rfl, _, _, rfl, rfl, _, rfl, ?_⟩
                  by_cases c1 : 0 ≤ c
                  · rw [decide_eq_true c1] at q
                    refine itbT (decide_eq_true c1) ⟨_, rfl, _, _, rfl, rfl, _, rfl, ?_⟩
                    by_cases c2 : c < n
                    · rw [decide_eq_true c2] at q
                      refine itbF (by rw [decide_eq_true c2]; rfl) ⟨_, rfl, _, rfl, _, _, rfl, rfl, _, _, rfl, rfl, .inl ⟨by decide, by decide⟩, _, rfl, _, _, rfl, rfl, _, _, rfl, rfl, _, rfl, ?_⟩
                      by_cases c3 : m < 2 * (n - 1) - c
                      · rw [decide_eq_true c3] at q
                        exact itbT (decide_eq_true c3) q
                      · rw [decide_eq_false c3] at q
                        refine itbF (decide_eq_false c3) ⟨_, rfl, _, _, rfl, rfl, _, rfl, ?_⟩
                        by_cases c4 : 1 < n
                        · rw [decide_eq_true c4] at q
                          exact itbT (decide_eq_true c4) q
                        · rw [decide_eq_false c4] at q
                          refine itbF (decide_eq_false c4) ⟨_, rfl, rfl, ?_⟩
                          have e : decide (V.int m = V.int 0) = decide (m = 0) := decide_eq_decide.mpr ⟨fun h => V.int.inj h, fun h => by rw [h]⟩
                          rw [e]
                          exact q
                    · rw [decide_eq_false c2] at q
                      exact itbT (by rw [decide_eq_false c2]; rfl) (itbT rfl q)
                  · rw [decide_eq_false c1] at q
                    exact itbF (decide_eq_false c1) ⟨_, rfl, itbT rfl (itbT rfl q)⟩
                · have n4' : isMark d4 = false := by simpa using n4
                  rw [n4'] at q ⊢
                  exact itbT rfl q
              · have n3' : isNum d3 = false := by simpa using n3
                rw [n3'] at q ⊢
                exact itbT rfl (itbT rfl q)
            · have n2' : isInt d2 = false := by simpa using n2
              rw [n2'] at q ⊢
              exact itbT rfl (itbT rfl q)
          · have n1' : isNum d1 = false := by simpa using n1
            rw [n1'] at q ⊢
            exact itbT rfl (itbT rfl q)
      · refine itbT ?_ ?_
        · rw [decide_eq_false fun h => ?_]
          · rfl
          · have := V.int.inj h
            omega
        · have e : sightB (.tuple ds) = false := by
            match ds, h4 with
            | [], _ => rfl
            | [_], _ => rfl
            | [_, _], _ => rfl
            | [_, _, _], _ => rfl
            | [_, _, _, _], h => exact absurd rfl h
            | _ :: _ :: _ :: _ :: _ :: _, _ => rfl
          rw [e] at q
          exact q
    · have hs' : isTup d = false := by simpa using hs
      refine itbT (by rw [hs']; rfl) (itbT rfl ?_)
      have e : sightB d = false := by
        cases d with
        | tuple _ => cases hs'
        | _ => rfl
      rw [e] at q
      exact q
theorem def_sight (T : Bj mg) (D_is_integer : Def P w K mg base CX0 1 "is_integer" pV (spB1 isInt)) (D_is_number : Def P w K mg base CX0 2 "is_number" pV (spB1 isNum)) (D_is_mark : Def P w K mg base CX0 2 "is_mark" pV (spB1 isMark)) (a : At K mg "_is_sight" sSight) :
    Def P w K mg base CX0 3 "_is_sight" pV (spB1 sightB) :=
  a.def (fun _ _ _ _ _ _ us hl => match us, hl with | [_], _ => rfl) fun f fd F => ok_sight T D_is_integer D_is_number D_is_mark F
end
end K1


set_option Elab.async false
set_option linter.all false
set_option maxRecDepth 100000
set_option maxHeartbeats 4000000
namespace K1
open PySem PySem.Spec PyProof.Rows L2 RZ
/-- the errors at, value, why -/
def ErrAt (C : Addr) (fl : Str) (v : V) (H : Hp) (E : XK) : Prop := ∀ (d : Addr) (H' : Hp), Same H H' → H' d = some (.xd [(fl, v)]) → E (.ref C) (some d) H'
theorem ErrAt.same {C : Addr} {fl : Str} {v : V} {H H1 : Hp} {E : XK} (h : ErrAt C fl v H E) (s : Same H H1) : ErrAt C fl v H1 E := fun d H' s' e => h d H' (s.trans s') e
/-- what is never reached -/
structure Sg where
  a : Int
  c : Int
  n : Int
  m : Int
def sgD (s : Sg) : PyData := .tuple [.int s.a, .int s.c, .int s.n, .int s.m]
def sgV (s : Sg) : List V := [.int s.a, .int s.c, .int s.n, .int s.m]
def SgAt (H : Hp) (a : Addr) (s : Sg) : Prop := H a = some (.tup (sgV s))
theorem sight_of {d : PyData} (h : sightB d = true) : ∃ s : Sg, d = sgD s := by
  match d, h with
  | .tuple [d1, d2, d3, d4], h =>
    have h : (isNum d1 && (isInt d2 && (isNum d3 && (isMark d4 && ((decide (0 ≤ dI d2) && decide (dI d2 < dI d3)) && (!decide (dI d4 < 2 * (dI d3 - 1) - dI d2) && (decide (1 < dI d3) || decide (dI d4 = 0)))))))) = true := h
    simp only [Bool.and_eq_true] at h
    obtain ⟨n1, n2, n3, n4, _⟩ := h
    obtain ⟨a, rfl, _⟩ := numB n1
    obtain ⟨c, rfl⟩ := intB n2
    obtain ⟨n, rfl, _⟩ := numB n3
    obtain ⟨m, rfl, _⟩ := markB n4
    exact ⟨⟨a, c, n, m⟩, rfl⟩
theorem Dv.sg {H : Hp} {x : V} {s : Sg} (h : Dv H x (sgD s)) : ∃ a, x = .ref a ∧ SgAt H a s := by
  cases h with
  | tup e r =>
    cases r with
    | cons h1 r =>
    cases r with
    | cons h2 r =>
    cases r with
    | cons h3 r =>
    cases r with
    | cons h4 r =>
    cases r
    rw [h1.intV, h2.intV, h3.intV, h4.intV] at e
    exact ⟨_, rfl, e⟩
theorem SgAt.same {H H' : Hp} {a : Addr} {s : Sg} (h : SgAt H a s) (e : Same H H') : SgAt H' a s := e _ _ h
theorem SgAt.dv {H : Hp} {a : Addr} {s : Sg} (h : SgAt H a s) : Dv H (.ref a) (sgD s) := .tup h (.cons (.int _) (.cons (.int _) (.cons (.int _) (.cons (.int _) .nil))))
abbrev sCheck : Stmt := st__check_sights
abbrev nTwo : List Str := ["one", "other"]
theorem scCheck : FnScope nTwo nTwo (defScope sCheck) := ⟨rfl, rfl, rfl, by decide +kernel, rfl, by decide +kernel, by decide +kernel⟩
def spCheck (CV : Addr) : Sp := fun vs H Q E => ∃ (x y : V) (dx dy : PyData), vs = [x, y] ∧ Dv H x dx ∧ Dv H y dy ∧ (sightB dx = true → sightB dy = true → Q .non H) ∧ (sightB dx = false → ErrAt CV "why" (.str "one") H E) ∧
  (sightB dx = true → sightB dy = false → ErrAt CV "why" (.str "other") H E)
abbrev sBtw : Stmt := st__between
abbrev nBtw : List Str := ["one", "other", "came", "went", "changed"]
theorem scBtw : FnScope nBtw nTwo (defScope sBtw) := ⟨rfl, rfl, rfl, by decide +kernel, rfl, by decide +kernel, by decide +kernel⟩
def came (s t : Sg) : Int := t.n - s.n
def went (s t : Sg) : Int := s.c + came s t - t.c
def chgd (s t : Sg) : Int := t.m - s.m - came s t - went s t
def btw (s t : Sg) : Option (Int × Int × Int) := if s.a ≠ t.a ∨ came s t < 0 ∨ went s t < 0 ∨ chgd s t < 0 then none else if chgd s t ≠ 0 ∧ s.c = 0 ∧ came s t = 0 then none else some (came s t, went s t, chgd s t)
def spBtw : Sp := fun vs H Q _ => ∃ (a b : Addr) (s t : Sg), vs = [.ref a, .ref b] ∧ SgAt H a s ∧ SgAt H b t ∧ (btw s t = none → Q .non H) ∧
  (∀ c w g, btw s t = some (c, w, g) → ∀ p, H p = none → Q (.ref p) (upd H p (.tup [.int c, .int w, .int g])))
abbrev sWord : Stmt := st__word
abbrev nWord : List Str := ["fewest", "most", "of"]
theorem scWord : FnScope nWord nWord (defScope sWord) := ⟨rfl, rfl, rfl, by decide +kernel, rfl, by decide +kernel, by decide +kernel⟩
def wordS (f m o : Int) : Str := if f = o then "all" else if m = 0 then "none" else if 0 < f ∧ m < o then "some" else "open"
def spWord : Sp := fun vs H Q _ => ∃ f m o : Int, vs = [.int f, .int m, .int o] ∧ Q (.str (wordS f m o)) H
theorem deqI (a b : Int) : decide (V.int a = V.int b) = decide (a = b) := decide_eq_decide.mpr ⟨fun h => V.int.inj h, fun h => by rw [h]⟩
section
variable {P : Program} {w : World} {K : PySem.W.Frag} {mg : Str → Option Value} {base : Heap} {CV fV : Addr}
theorem ok_check {f : Addr} {fd : FuncData} (TV : PySem.Tide.TideTxt P K mg "BadValue" CV fV "why") (D_is_sight : Def P w K mg base CX0 3 "_is_sight" pV (spB1 sightB)) (F : Fun K "_check_sights" "_check_sights" sCheck f fd) :
    FnOk P w K mg base (L2.CX P w) 4 f fd nTwo (spCheck CV) := by
  refine F.okX scCheck (fun vs H Q E h => ?_) (fun cdv A outer s H vs Q E hr h => ?_)
  · obtain ⟨x, y, dx, dy, rfl, _⟩ := h
    rfl
  · obtain ⟨x, y, dx, dy, rfl, hx, hy, q, e1, e2⟩ := h
    refine ⟨_, (pss_cons (ps_if (pt_not (pt_val (pe_def D_is_sight (hr.mono (by decide)) rfl pass0 (pa_cons (pv 0) pa_nil))))
  (pss_one (ps_raiseTide rfl TV hr (takes_of rfl rfl rfl rfl) (pa_cons pe_str pa_nil)))
  pss_nil)
 (pss_one (ps_if (pt_not (pt_val (pe_def D_is_sight (hr.mono (by decide)) rfl pass0 (pa_cons (pv 1) pa_nil))))
  (pss_one (ps_raiseTide rfl TV hr (takes_of rfl rfl rfl rfl) (pa_cons pe_str pa_nil)))
  pss_nil))), ?_⟩
    refine ⟨_, rfl, x, dx, rfl, hx, _, rfl, ?_⟩
    by_cases c1 : sightB dx = true
    · refine itbF (by rw [c1]; rfl) ⟨_, rfl, y, dy, rfl, hy, _, rfl, ?_⟩
      by_cases c2 : sightB dy = true
      · exact itbF (by rw [c2]; rfl) (q c1 c2)
      · have c2' : sightB dy = false := by simpa using c2
        exact itbT (by rw [c2']; rfl) ⟨_, rfl, fun dd nd => e2 c1 c2' dd _ (same_new nd) upd_same⟩
    · have c1' : sightB dx = false := by simpa using c1
      exact itbT (by rw [c1']; rfl) ⟨_, rfl, fun dd nd => e1 c1' dd _ (same_new nd) upd_same⟩
theorem def_check (TV : PySem.Tide.TideTxt P K mg "BadValue" CV fV "why") (D_is_sight : Def P w K mg base CX0 3 "_is_sight" pV (spB1 sightB)) (a : At K mg "_check_sights" sCheck) : Def P w K mg base (L2.CX P w) 4 "_check_sights" nTwo (spCheck CV) :=
  a.def (fun _ _ _ _ _ _ us hl => match us, hl with | [_, _], _ => rfl) fun f fd F => ok_check TV D_is_sight F
theorem ok_btw {f : Addr} {fd : FuncData} (T : Bj mg) (F : Fun K "_between" "_between" sBtw f fd) : FnOk P w K mg base CX0 1 f fd nTwo spBtw := by
  have nd := scBtw.nd
  refine F.ok scBtw (fun vs H Q E h => ?_) (fun cdv A outer s H vs Q E hr h => ?_)
  · obtain ⟨a, b, s, t, rfl, _⟩ := h
    rfl
  · obtain ⟨a, b, s, t, rfl, ha, hb, q1, q2⟩ := h
    refine ⟨_, (pss_cons (ps_set (i := 2) nd rfl (Or.inl rfl) (pe_op op_sub (pe_ix (ix_tupK (K := K) rfl) (pv 1) pe_int (fun _ _ => rfl)) (pe_ix (ix_tupK (K := K) rfl) (pv 0) pe_int (fun _ _ => rfl))))
 (pss_cons (ps_set (i := 3) nd rfl (Or.inl rfl) (pe_op op_sub (pe_op op_add (pe_ix (ix_tupK (K := K) rfl) (pv 0) pe_int (fun _ _ => rfl)) (pv 2)) (pe_ix (ix_tupK (K := K) rfl) (pv 1) pe_int (fun _ _ => rfl))))
 (pss_cons (ps_set (i := 4) nd rfl (Or.inl rfl) (pe_op op_sub (pe_op op_sub (pe_op op_sub (pe_ix (ix_tupK (K := K) rfl) (pv 1) pe_int (fun _ _ => rfl)) (pe_ix (ix_tupK (K := K) rfl) (pv 0) pe_int (fun _ _ => rfl))) (pv 2)) (pv 3)))
 (pss_cons (ps_if (PW.pt (pw_or (pt_cmpR op_ne (pe_ix (ix_tupK (K := K) rfl) (pv 0) pe_int (fun _ _ => rfl)) (pe_ix (ix_tupK (K := K) rfl) (pv 1) pe_int (fun _ _ => rfl)) (nomark _)) (pw_or1 (pt_cmpR op_lt (pe_callB (call_min3 rfl) (by rfl) T.min PyProof.Rows.boot_min (pa_cons (pv 2) (pa_cons (pv 3) (pa_cons (pv 4) pa_nil)))) pe_int (nomark _)))))
  (pss_one (ps_ret pe_non))
  pss_nil)
 (pss_cons (ps_if (PW.pt (pw_and (pt_truth (pv 4) (by intro _; rfl)) (pw_and (pt_not (pt_truth (pe_ix (ix_tupK (K := K) rfl) (pv 0) pe_int (fun _ _ => rfl)) (by intro _; rfl))) (pw_and1 (pt_not (pt_truth (pv 2) (by intro _; rfl)))))))
  (pss_one (ps_ret pe_non))
  pss_nil)
 (pss_one (ps_ret (pe_tup (pa_cons (pv 2) (pa_cons (pv 3) (pa_cons (pv 4) pa_nil))))))))))), ?_⟩
    have A0 : SqT K H a (sgV s) := st ha
    have B0 : SqT K H b (sgV t) := st hb
    refine ⟨_, rfl, b, _, 2, .int t.n, rfl, rfl, B0, atI_nat (j := 2) rfl, _, rfl, a, _, 2, .int s.n, rfl, rfl, A0, atI_nat (j := 2) rfl, _, _, rfl, rfl, ?_⟩
    refine ⟨_, rfl, a, _, 1, .int s.c, rfl, rfl, A0, atI_nat (j := 1) rfl, _, rfl, _, _, rfl, rfl, _, rfl, b, _, 1, .int t.c, rfl, rfl, B0, atI_nat (j := 1) rfl, _, _, rfl, rfl, ?_⟩
    refine ⟨_, rfl, b, _, 3, .int t.m, rfl, rfl, B0, atI_nat (j := 3) rfl, _, rfl, a, _, 3, .int s.m, rfl, rfl, A0, atI_nat (j := 3) rfl, _, _, rfl, rfl, _, rfl, _, _, rfl, rfl, _, rfl, _, _, rfl, rfl, ?_⟩
    refine ⟨_, rfl, a, _, 0, .int s.a, rfl, rfl, A0, atI_nat (j := 0) rfl, _, rfl, b, _, 0, .int t.a, rfl, rfl, B0, atI_nat (j := 0) rfl, rfl, _, rfl, ?_⟩
    by_cases c1 : s.a = t.a
    · refine itbF (by rw [c1]; simp) ⟨_, rfl, _, rfl, _, rfl, _, _, _, rfl, fun m h1 h2 h3 h4 => ⟨_, _, rfl, rfl, _, rfl, ?_⟩⟩
      have h2 : m ≤ came s t := h2
      have h3 : m ≤ went s t := h3
      have h4 : m ≤ chgd s t := h4
      have h1 : m = came s t ∨ m = went s t ∨ m = chgd s t := h1
      by_cases c2 : m < 0
      · refine itbT (decide_eq_true c2) (q1 ?_)
        unfold btw
        rw [if_pos (by omega)]
      · refine itbF (decide_eq_false c2) ?_
        have nn : ¬ (s.a ≠ t.a ∨ came s t < 0 ∨ went s t < 0 ∨ chgd s t < 0) := by omega
        unfold btw at q1 q2
        rw [if_neg nn] at q1 q2
        refine ⟨_, rfl, (chgd s t != 0), rfl, ?_⟩
        by_cases c3 : chgd s t = 0
        · refine itbF (by simp [c3]) ?_
          rw [if_neg (by omega)] at q2
          exact ⟨_, rfl, _, rfl, _, rfl, (by show 3 ≤ sizeLine; decide), fun p np => q2 _ _ _ rfl p np⟩
        · refine itbT (by simp [c3]) ⟨_, rfl, a, _, 1, .int s.c, rfl, rfl, A0, atI_nat (j := 1) rfl, (s.c != 0), rfl, ?_⟩
          by_cases c4 : s.c = 0
          · refine itbT (by rw [c4]; rfl) ⟨_, rfl, (came s t != 0), rfl, ?_⟩
            by_cases c5 : came s t = 0
            · refine itbT (by simp [c5]) (q1 ?_)
              rw [if_pos ⟨c3, c4, c5⟩]
            · refine itbF (by simp [c5]) ?_
              rw [if_neg (by omega)] at q2
              exact ⟨_, rfl, _, rfl, _, rfl, (by show 3 ≤ sizeLine; decide), fun p np => q2 _ _ _ rfl p np⟩
          · refine itbF (by simp [c4]) (itbF rfl ?_)
            rw [if_neg (by omega)] at q2
            exact ⟨_, rfl, _, rfl, _, rfl, (by show 3 ≤ sizeLine; decide), fun p np => q2 _ _ _ rfl p np⟩
    · refine itbT (by simp [deqI, c1]) (itbT rfl (q1 ?_))
      unfold btw
      rw [if_pos (.inl c1)]
theorem def_btw (T : Bj mg) (a : At K mg "_between" sBtw) : Def P w K mg base CX0 1 "_between" nTwo spBtw :=
  a.def (fun _ _ _ _ _ _ us hl => match us, hl with | [_, _], _ => rfl) fun f fd F => ok_btw T F
theorem ok_word {f : Addr} {fd : FuncData} (F : Fun K "_word" "_word" sWord f fd) : FnOk P w K mg base CX0 1 f fd nWord spWord := by
  refine F.ok scWord (fun vs H Q E h => ?_) (fun cdv A outer s H vs Q E hr h => ?_)
  · obtain ⟨f, m, o, rfl, _⟩ := h
    rfl
  · obtain ⟨f, m, o, rfl, q⟩ := h
    refine ⟨_, (pss_cons (ps_if (pt_cmpR op_eq (pv 0) (pv 2) (nomark _))
  (pss_one (ps_ret pe_str))
  pss_nil)
 (pss_cons (ps_if (pt_cmpR op_eq (pv 1) pe_int (nomark _))
  (pss_one (ps_ret pe_str))
  pss_nil)
 (pss_one (ps_ret (pe_ifExp (PW.pt (pw_and (pt_cmpR op_gt (pv 0) pe_int (nomark _)) (pw_and1 (pt_cmpR op_lt (pv 1) (pv 2) (nomark _))))) pe_str pe_str))))), ?_⟩
    unfold wordS at q
    refine ⟨_, rfl, _, rfl, rfl, _, rfl, ?_⟩
    by_cases c1 : f = o
    · rw [if_pos c1] at q
      exact itbT (by rw [deqI]; exact decide_eq_true c1) q
    · rw [if_neg c1] at q
      refine itbF (by rw [deqI]; exact decide_eq_false c1) ⟨_, rfl, rfl, _, rfl, ?_⟩
      by_cases c2 : m = 0
      · rw [if_pos c2] at q
        exact itbT (by rw [deqI]; exact decide_eq_true c2) q
      · rw [if_neg c2] at q
        refine itbF (by rw [deqI]; exact decide_eq_false c2) ⟨_, rfl, _, _, rfl, rfl, _, rfl, ?_⟩
        by_cases c3 : 0 < f
        · refine itbT (decide_eq_true c3) ⟨_, rfl, _, rfl, _, _, rfl, rfl, _, rfl, ?_⟩
          by_cases c4 : m < o
          · rw [if_pos ⟨c3, c4⟩] at q
            exact itbT (decide_eq_true c4) q
          · rw [if_neg (fun h => c4 h.2)] at q
            exact itbF (decide_eq_false c4) q
        · rw [if_neg (fun h => c3 h.1)] at q
          exact itbF (decide_eq_false c3) (itbF rfl q)
theorem def_word (a : At K mg "_word" sWord) : Def P w K mg base CX0 1 "_word" nWord spWord :=
  a.def (fun _ _ _ _ _ _ us hl => match us, hl with | [_, _, _], _ => rfl) fun f fd F => ok_word F
end
end K1


set_option Elab.async false
set_option linter.all false
set_option maxRecDepth 100000
set_option maxHeartbeats 4000000
namespace K1
open PySem PySem.Spec PyProof.Rows L2 RZ
inductive Er
  | why (s : Str)
  | lim (n : Int)
def ErE (CV CL : Addr) (H : Hp) (E : XK) : Er → Prop
  | .why s => ErrAt CV "why" (.str s) H E
  | .lim n => ErrAt CL "limit" (.int n) H E
theorem ErE.same {CV CL : Addr} {H H' : Hp} {E : XK} {e : Er} (h : ErE CV CL H E e) (s : Same H H') : ErE CV CL H' E e := by
  cases e with
  | why z => exact ErrAt.same h s
  | lim z => exact ErrAt.same h s
inductive Res
  | ok (d : PyData)
  | er (e : Er)
def sgOf : PyData → Sg
  | .tuple [a, c, n, m] => ⟨dI a, dI c, dI n, dI m⟩
  | _ => ⟨0, 0, 0, 0⟩
theorem sgOf_sgD (s : Sg) : sgOf (sgD s) = s := rfl
def ckR (dx dy : PyData) : Option Er := if sightB dx = true then (if sightB dy = true then none else some (.why "other")) else some (.why "one")
/-- a call's end, by data -/
def Ends1 (CV CL : Addr) (H : Hp) (Q : VK) (E : XK) : Res → Prop
  | .ok d => ∀ v H', Same H H' → Dv H' v d → Q v H'
  | .er e => ErE CV CL H E e
def spR (CV CL : Addr) (okd : List PyData → Prop) (f : List PyData → Res) : Sp := fun vs H Q E => ∃ ds, DvA H vs ds ∧ okd ds ∧ Ends1 CV CL H Q E (f ds)
/-- a function of two sights that are checked first -/
def twoR (f : Sg → Sg → PyData) : List PyData → Res
  | [dx, dy] => match ckR dx dy with
    | some e => .er e
    | none => .ok (f (sgOf dx) (sgOf dy))
  | _ => .ok .none
def isTwo (ds : List PyData) : Prop := ds.length = 2
def btwD (s t : Sg) : PyData := match btw s t with
  | none => .none
  | some (c, w, g) => .tuple [.int c, .int w, .int g]
def mostD (s t : Sg) : PyData := match btw s t with
  | none => .none
  | some (c, _, _) => .int (s.c + c)
def fewD (s t : Sg) : PyData := match btw s t with
  | none => .none
  | some (_, w, _) => .int (if 0 > s.c - w then 0 else s.c - w)
def lessI (i j : Int) : Int := if j < i then j else i
def moreI (i j : Int) : Int := if j > i then j else i
def sureD (s t : Sg) : PyData := match btw s t with
  | none => .none
  | some (c, w, g) => .tuple [.str (wordS (s.c - lessI s.c w) (s.c - moreI 0 (w - c)) s.c), .str (wordS (s.c - lessI s.c g) (s.c - (if g ≠ 0 ∧ c = 0 then 1 else 0)) s.c), .str (wordS (t.c - (s.c - moreI 0 (w - c))) (t.c - (s.c - lessI s.c w)) t.c)]
abbrev sBetween : Stmt := st_between
abbrev sMost : Stmt := st_most_at_once
abbrev sFew : Stmt := st_fewest_at_once
abbrev sSurely : Stmt := st_surely
abbrev nMost : List Str := ["one", "other", "numbers"]
abbrev nSurely : List Str := ["one", "other", "numbers", "came", "went", "changed", "first", "last", "fewest_still", "most_still", "least_changed"]
theorem scBetween : FnScope nTwo nTwo (defScope sBetween) := ⟨rfl, rfl, rfl, by decide +kernel, rfl, by decide +kernel, by decide +kernel⟩
theorem scMost : FnScope nMost nTwo (defScope sMost) := ⟨rfl, rfl, rfl, by decide +kernel, rfl, by decide +kernel, by decide +kernel⟩
theorem scFew : FnScope nMost nTwo (defScope sFew) := ⟨rfl, rfl, rfl, by decide +kernel, rfl, by decide +kernel, by decide +kernel⟩
theorem scSurely : FnScope nSurely nTwo (defScope sSurely) := ⟨rfl, rfl, rfl, by decide +kernel, rfl, by decide +kernel, by decide +kernel⟩
/-- what is known of two arguments -/
theorem two_cases {CV CL : Addr} {f : Sg → Sg → PyData} {vs : List V} {H : Hp} {Q : VK} {E : XK} (h : spR CV CL isTwo (twoR f) vs H Q E) :
    ∃ x y dx dy, vs = [x, y] ∧ Dv H x dx ∧ Dv H y dy ∧ (sightB dx = false → ErrAt CV "why" (.str "one") H E) ∧ (sightB dx = true → sightB dy = false → ErrAt CV "why" (.str "other") H E) ∧
      (sightB dx = true → sightB dy = true → ∃ a b s t, x = .ref a ∧ y = .ref b ∧ SgAt H a s ∧ SgAt H b t ∧ ∀ v H', Same H H' → Dv H' v (f s t) → Q v H') := by
  obtain ⟨ds, hA, hl, q⟩ := h
  have hl : ds.length = 2 := hl
  match ds, vs, hA, hl with
  | [dx, dy], _, .cons (v := x) h1 (.cons (v := y) h2 .nil), _ =>
    have q : Ends1 CV CL H Q E (match ckR dx dy with | some e => .er e | none => .ok (f (sgOf dx) (sgOf dy))) := q
    refine ⟨x, y, dx, dy, rfl, h1, h2, fun c => ?_, fun c1 c2 => ?_, fun c1 c2 => ?_⟩
    · have e : ckR dx dy = some (.why "one") := by unfold ckR; rw [c, if_neg Bool.false_ne_true]
      rw [e] at q
      exact q
    · have e : ckR dx dy = some (.why "other") := by unfold ckR; rw [c1, c2, if_pos rfl, if_neg Bool.false_ne_true]
      rw [e] at q
      exact q
    · have e : ckR dx dy = none := by unfold ckR; rw [c1, c2, if_pos rfl, if_pos rfl]
      rw [e] at q
      obtain ⟨s, rfl⟩ := sight_of c1
      obtain ⟨t, rfl⟩ := sight_of c2
      obtain ⟨a, rfl, ha⟩ := h1.sg
      obtain ⟨b, rfl, hb⟩ := h2.sg
      exact ⟨a, b, s, t, rfl, rfl, ha, hb, q⟩
section
variable {P : Program} {w : World} {K : PySem.W.Frag} {mg : Str → Option Value} {base : Heap} {CV CL : Addr}
theorem ok_between {f : Addr} {fd : FuncData} (D_check_sights : Def P w K mg base (L2.CX P w) 4 "_check_sights" nTwo (spCheck CV)) (D_btw : Def P w K mg base CX0 1 "_between" nTwo spBtw) (F : Fun K "between" "between" sBetween f fd) :
    FnOk P w K mg base (L2.CX P w) 5 f fd nTwo (spR CV CL isTwo (twoR btwD)) := by
  refine F.okX scBetween (fun vs H Q E h => ?_) (fun cdv A outer s H vs Q E hr h => ?_)
  · obtain ⟨x, y, dx, dy, rfl, _⟩ := two_cases h
    rfl
  · obtain ⟨x, y, dx, dy, rfl, hx, hy, e1, e2, q⟩ := two_cases h
    refine ⟨_, (pss_cons (ps_expr (pe_def D_check_sights (hr.mono (by decide)) rfl (passes_call (takes_of rfl rfl rfl rfl) (fun _ _ _ _ h => h)) (pa_cons (pv 0) (pa_cons (pv 1) pa_nil))))
 (pss_one (ps_ret (pe_def D_btw (hr.mono (by decide)) rfl pass0 (pa_cons (pv 0) (pa_cons (pv 1) pa_nil)))))), ?_⟩
    refine ⟨_, rfl, _, rfl, x, y, dx, dy, rfl, hx, hy, fun c1 c2 => ?_, e1, e2⟩
    obtain ⟨a, b, s, t, rfl, rfl, ha, hb, q⟩ := q c1 c2
    refine ⟨_, rfl, _, rfl, a, b, s, t, rfl, ha, hb, fun e => q _ _ (fun _ _ h => h) ?_, fun c w g e p np => q _ _ (same_new np) ?_⟩
    · unfold btwD; rw [e]; exact .non
    · unfold btwD; rw [e]; exact .tup upd_same (.cons (.int _) (.cons (.int _) (.cons (.int _) .nil)))
theorem ok_most {f : Addr} {fd : FuncData} (D_check_sights : Def P w K mg base (L2.CX P w) 4 "_check_sights" nTwo (spCheck CV)) (D_btw : Def P w K mg base CX0 1 "_between" nTwo spBtw) (F : Fun K "most_at_once" "most_at_once" sMost f fd) :
    FnOk P w K mg base (L2.CX P w) 5 f fd nTwo (spR CV CL isTwo (twoR mostD)) := by
  have nd := scMost.nd
  refine F.okX scMost (fun vs H Q E h => ?_) (fun cdv A outer s H vs Q E hr h => ?_)
  · obtain ⟨x, y, dx, dy, rfl, _⟩ := two_cases h
    rfl
  · obtain ⟨x, y, dx, dy, rfl, hx, hy, e1, e2, q⟩ := two_cases h
    refine ⟨_, (pss_cons (ps_expr (pe_def D_check_sights (hr.mono (by decide)) rfl (passes_call (takes_of rfl rfl rfl rfl) (fun _ _ _ _ h => h)) (pa_cons (pv 0) (pa_cons (pv 1) pa_nil))))
 (pss_cons (ps_set (i := 2) nd rfl (Or.inl rfl) (pe_def D_btw (hr.mono (by decide)) rfl pass0 (pa_cons (pv 0) (pa_cons (pv 1) pa_nil))))
 (pss_cons (ps_if (pt_cmpR op_isN (pv 2) pe_non (nomark _))
  (pss_one (ps_ret pe_non))
  pss_nil)
 (pss_one (ps_ret (pe_op op_add (pe_ix (ix_tupK (K := K) rfl) (pv 0) pe_int (fun _ _ => rfl)) (pe_ix (ix_tupK (K := K) rfl) (pv 2) pe_int (fun _ _ => rfl)))))))), ?_⟩
    refine ⟨_, rfl, _, rfl, x, y, dx, dy, rfl, hx, hy, fun c1 c2 => ?_, e1, e2⟩
    obtain ⟨a, b, s, t, rfl, rfl, ha, hb, q⟩ := q c1 c2
    refine ⟨_, rfl, _, rfl, a, b, s, t, rfl, ha, hb, fun e => ⟨_, rfl, rfl, _, rfl, itbT rfl (q _ _ (fun _ _ h => h) ?_)⟩, fun c w g e p np => ⟨_, rfl, rfl, _, rfl, itbF rfl ?_⟩⟩
    · unfold mostD; rw [e]; exact .non
    · refine ⟨_, rfl, a, _, 1, .int s.c, rfl, rfl, st (same_new np _ _ ha), atI_nat (j := 1) rfl, _, rfl, p, _, 0, .int c, rfl, rfl, st upd_same, atI_nat (j := 0) rfl, _, _, rfl, rfl, q _ _ (same_new np) ?_⟩
      unfold mostD; rw [e]; exact .int _
theorem ok_few {f : Addr} {fd : FuncData} (T : Bj mg) (D_check_sights : Def P w K mg base (L2.CX P w) 4 "_check_sights" nTwo (spCheck CV)) (D_btw : Def P w K mg base CX0 1 "_between" nTwo spBtw) (F : Fun K "fewest_at_once" "fewest_at_once" sFew f fd) :
    FnOk P w K mg base (L2.CX P w) 5 f fd nTwo (spR CV CL isTwo (twoR fewD)) := by
  have nd := scFew.nd
  refine F.okX scFew (fun vs H Q E h => ?_) (fun cdv A outer s H vs Q E hr h => ?_)
  · obtain ⟨x, y, dx, dy, rfl, _⟩ := two_cases h
    rfl
  · obtain ⟨x, y, dx, dy, rfl, hx, hy, e1, e2, q⟩ := two_cases h
    refine ⟨_, (pss_cons (ps_expr (pe_def D_check_sights (hr.mono (by decide)) rfl (passes_call (takes_of rfl rfl rfl rfl) (fun _ _ _ _ h => h)) (pa_cons (pv 0) (pa_cons (pv 1) pa_nil))))
 (pss_cons (ps_set (i := 2) nd rfl (Or.inl rfl) (pe_def D_btw (hr.mono (by decide)) rfl pass0 (pa_cons (pv 0) (pa_cons (pv 1) pa_nil))))
 (pss_cons (ps_if (pt_cmpR op_isN (pv 2) pe_non (nomark _))
  (pss_one (ps_ret pe_non))
  pss_nil)
 (pss_one (ps_ret (pe_callB (call_max2 rfl) (by rfl) T.max PyProof.Rows.boot_max (pa_cons (pe_op op_sub (pe_ix (ix_tupK (K := K) rfl) (pv 0) pe_int (fun _ _ => rfl)) (pe_ix (ix_tupK (K := K) rfl) (pv 2) pe_int (fun _ _ => rfl))) (pa_cons pe_int pa_nil)))))))), ?_⟩
    refine ⟨_, rfl, _, rfl, x, y, dx, dy, rfl, hx, hy, fun c1 c2 => ?_, e1, e2⟩
    obtain ⟨a, b, s, t, rfl, rfl, ha, hb, q⟩ := q c1 c2
    refine ⟨_, rfl, _, rfl, a, b, s, t, rfl, ha, hb, fun e => ⟨_, rfl, rfl, _, rfl, itbT rfl (q _ _ (fun _ _ h => h) ?_)⟩, fun c w g e p np => ⟨_, rfl, rfl, _, rfl, itbF rfl ?_⟩⟩
    · unfold fewD; rw [e]; exact .non
    · refine ⟨_, rfl, a, _, 1, .int s.c, rfl, rfl, st (same_new np _ _ ha), atI_nat (j := 1) rfl, _, rfl, p, _, 1, .int w, rfl, rfl, st upd_same, atI_nat (j := 1) rfl, _, _, rfl, rfl, _, _, rfl, q _ _ (same_new np) ?_⟩
      unfold fewD; rw [e]; exact .int _
theorem ok_surely {f : Addr} {fd : FuncData} (T : Bj mg) (D_check_sights : Def P w K mg base (L2.CX P w) 4 "_check_sights" nTwo (spCheck CV)) (D_btw : Def P w K mg base CX0 1 "_between" nTwo spBtw) (D_word : Def P w K mg base CX0 1 "_word" nWord spWord)
    (F : Fun K "surely" "surely" sSurely f fd) : FnOk P w K mg base (L2.CX P w) 5 f fd nTwo (spR CV CL isTwo (twoR sureD)) := by
  have nd := scSurely.nd
  refine F.okX scSurely (fun vs H Q E h => ?_) (fun cdv A outer s H vs Q E hr h => ?_)
  · obtain ⟨x, y, dx, dy, rfl, _⟩ := two_cases h
    rfl
  · obtain ⟨x, y, dx, dy, rfl, hx, hy, e1, e2, q⟩ := two_cases h
    refine ⟨_, (pss_cons (ps_expr (pe_def D_check_sights (hr.mono (by decide)) rfl (passes_call (takes_of rfl rfl rfl rfl) (fun _ _ _ _ h => h)) (pa_cons (pv 0) (pa_cons (pv 1) pa_nil))))
 (pss_cons (ps_set (i := 2) nd rfl (Or.inl rfl) (pe_def D_btw (hr.mono (by decide)) rfl pass0 (pa_cons (pv 0) (pa_cons (pv 1) pa_nil))))
 (pss_cons (ps_if (pt_cmpR op_isN (pv 2) pe_non (nomark _))
  (pss_one (ps_ret pe_non))
  pss_nil)
 (pss_cons (ps_asg (pv 2) (pg_tup rfl (pgs_cons (pg_name (i := 3) nd rfl (Or.inl rfl)) (pgs_cons (pg_name (i := 4) nd rfl (Or.inl rfl)) (pgs_cons (pg_name (i := 5) nd rfl (Or.inl rfl)) pgs_nil)))))
 (pss_cons (ps_par (i := 6) (j := 7) (by rfl) nd rfl rfl (by decide) rfl rfl (pa_cons (pe_ix (ix_tupK (K := K) rfl) (pv 0) pe_int (fun _ _ => rfl)) (pa_cons (pe_ix (ix_tupK (K := K) rfl) (pv 1) pe_int (fun _ _ => rfl)) pa_nil)) (by rfl))
 (pss_cons (ps_set (i := 8) nd rfl (Or.inl rfl) (pe_op op_sub (pv 6) (pe_callB (call_min2 rfl) (by rfl) T.min PyProof.Rows.boot_min (pa_cons (pv 6) (pa_cons (pv 4) pa_nil)))))
 (pss_cons (ps_set (i := 9) nd rfl (Or.inl rfl) (pe_op op_sub (pv 6) (pe_callB (call_max2 rfl) (by rfl) T.max PyProof.Rows.boot_max (pa_cons pe_int (pa_cons (pe_op op_sub (pv 4) (pv 3)) pa_nil)))))
 (pss_cons (ps_set (i := 10) nd rfl (Or.inl rfl) (pe_ifExp (PW.pt (pw_and (pt_truth (pv 5) (by intro _; rfl)) (pw_and1 (pt_not (pt_truth (pv 3) (by intro _; rfl)))))) pe_int pe_int))
 (pss_one (ps_ret (pe_tup (pa_cons (pe_def D_word (hr.mono (by decide)) rfl pass0 (pa_cons (pv 8) (pa_cons (pv 9) (pa_cons (pv 6) pa_nil)))) (pa_cons (pe_def D_word (hr.mono (by decide)) rfl pass0 (pa_cons (pe_op op_sub (pv 6) (pe_callB (call_min2 rfl) (by rfl) T.min PyProof.Rows.boot_min (pa_cons (pv 6) (pa_cons (pv 5) pa_nil)))) (pa_cons (pe_op op_sub (pv 6) (pv 10)) (pa_cons (pv 6) pa_nil)))) (pa_cons (pe_def D_word (hr.mono (by decide)) rfl pass0 (pa_cons (pe_op op_sub (pv 7) (pv 9)) (pa_cons (pe_op op_sub (pv 7) (pv 8)) (pa_cons (pv 7) pa_nil)))) pa_nil)))))))))))))), ?_⟩
    refine ⟨_, rfl, _, rfl, x, y, dx, dy, rfl, hx, hy, fun c1 c2 => ?_, e1, e2⟩
    obtain ⟨a, b, s, t, rfl, rfl, ha, hb, q⟩ := q c1 c2
    refine ⟨_, rfl, _, rfl, a, b, s, t, rfl, ha, hb, fun e => ⟨_, rfl, rfl, _, rfl, itbT rfl (q _ _ (fun _ _ h => h) ?_)⟩, fun c w g e p np => ⟨_, rfl, rfl, _, rfl, itbF rfl ?_⟩⟩
    · unfold sureD; rw [e]; exact .non
    · have s1 := same_new (o := .tup [.int c, .int w, .int g]) np
      refine ⟨_, rfl, p, _, rfl, st upd_same, rfl, _, _, rfl, _, _, rfl, _, _, rfl, rfl, ?_⟩
      refine ⟨_, rfl, a, _, 1, .int s.c, rfl, rfl, st (s1 _ _ ha), atI_nat (j := 1) rfl, _, rfl, b, _, 1, .int t.c, rfl, rfl, st (s1 _ _ hb), atI_nat (j := 1) rfl, _, _, rfl, ?_⟩
      refine ⟨_, rfl, _, rfl, _, rfl, _, _, rfl, _, _, rfl, rfl, ?_⟩
      refine ⟨_, rfl, _, rfl, _, rfl, _, _, rfl, rfl, _, _, rfl, _, _, rfl, rfl, ?_⟩
      have fin : ∀ z : Int, z = (if g ≠ 0 ∧ c = 0 then 1 else 0) → ∀ T, (upd H p (.tup [.int c, .int w, .int g])) T = none →
          Q (.ref T) (upd (upd H p (.tup [.int c, .int w, .int g])) T (.tup [.str (wordS (s.c - lessI s.c w) (s.c - moreI 0 (w - c)) s.c), .str (wordS (s.c - lessI s.c g) (s.c - z) s.c), .str (wordS (t.c - (s.c - moreI 0 (w - c))) (t.c - (s.c - lessI s.c w)) t.c)])) := fun z ez T nT => by
        subst ez
        refine q _ _ (s1.new nT) ?_
        unfold sureD; rw [e]
        exact .tup upd_same (.cons (.str _) (.cons (.str _) (.cons (.str _) .nil)))
      have tail : ∀ z : Int, z = (if g ≠ 0 ∧ c = 0 then 1 else 0) → _ := fun z ez => fin z ez
      refine ⟨_, rfl, (g != 0), rfl, ?_⟩
      by_cases c3 : g = 0
      · refine itbF (by simp [c3]) ?_
        refine ⟨_, rfl, _, rfl, _, rfl, _, _, _, rfl, _, rfl, _, rfl, _, rfl, _, _, rfl, _, _, rfl, rfl, _, rfl, _, rfl, _, _, rfl, rfl, _, rfl, _, _, _, rfl, _, rfl, _, rfl, _, _, rfl, rfl, _, rfl, _, rfl, _, _, rfl, rfl, _, rfl, _, _, _, rfl, (by show 3 ≤ sizeLine; decide), fin 0 ?_⟩
        rw [if_neg (fun h => h.1 c3)]
      · refine itbT (by simp [c3]) ⟨_, rfl, (c != 0), rfl, ?_⟩
        by_cases c4 : c = 0
        · refine itbT (by simp [c4]) ?_
          refine ⟨_, rfl, _, rfl, _, rfl, _, _, _, rfl, _, rfl, _, rfl, _, rfl, _, _, rfl, _, _, rfl, rfl, _, rfl, _, rfl, _, _, rfl, rfl, _, rfl, _, _, _, rfl, _, rfl, _, rfl, _, _, rfl, rfl, _, rfl, _, rfl, _, _, rfl, rfl, _, rfl, _, _, _, rfl, (by show 3 ≤ sizeLine; decide), fin 1 ?_⟩
          rw [if_pos ⟨c3, c4⟩]
        · refine itbF (by simp [c4]) ?_
          refine ⟨_, rfl, _, rfl, _, rfl, _, _, _, rfl, _, rfl, _, rfl, _, rfl, _, _, rfl, _, _, rfl, rfl, _, rfl, _, rfl, _, _, rfl, rfl, _, rfl, _, _, _, rfl, _, rfl, _, rfl, _, _, rfl, rfl, _, rfl, _, rfl, _, _, rfl, rfl, _, rfl, _, _, _, rfl, (by show 3 ≤ sizeLine; decide), fin 0 ?_⟩
          rw [if_neg (fun h => c4 h.2)]
theorem def_between (D_check_sights : Def P w K mg base (L2.CX P w) 4 "_check_sights" nTwo (spCheck CV)) (D_btw : Def P w K mg base CX0 1 "_between" nTwo spBtw) (a : At K mg "between" sBetween) : Def P w K mg base (L2.CX P w) 5 "between" nTwo (spR CV CL isTwo (twoR btwD)) :=
  a.def (fun _ _ _ _ _ _ us hl => match us, hl with | [_, _], _ => rfl) fun f fd F => ok_between D_check_sights D_btw F
theorem def_most (D_check_sights : Def P w K mg base (L2.CX P w) 4 "_check_sights" nTwo (spCheck CV)) (D_btw : Def P w K mg base CX0 1 "_between" nTwo spBtw) (a : At K mg "most_at_once" sMost) : Def P w K mg base (L2.CX P w) 5 "most_at_once" nTwo (spR CV CL isTwo (twoR mostD)) :=
  a.def (fun _ _ _ _ _ _ us hl => match us, hl with | [_, _], _ => rfl) fun f fd F => ok_most D_check_sights D_btw F
theorem def_few (T : Bj mg) (D_check_sights : Def P w K mg base (L2.CX P w) 4 "_check_sights" nTwo (spCheck CV)) (D_btw : Def P w K mg base CX0 1 "_between" nTwo spBtw) (a : At K mg "fewest_at_once" sFew) : Def P w K mg base (L2.CX P w) 5 "fewest_at_once" nTwo (spR CV CL isTwo (twoR fewD)) :=
  a.def (fun _ _ _ _ _ _ us hl => match us, hl with | [_, _], _ => rfl) fun f fd F => ok_few T D_check_sights D_btw F
theorem def_surely (T : Bj mg) (D_check_sights : Def P w K mg base (L2.CX P w) 4 "_check_sights" nTwo (spCheck CV)) (D_btw : Def P w K mg base CX0 1 "_between" nTwo spBtw) (D_word : Def P w K mg base CX0 1 "_word" nWord spWord) (a : At K mg "surely" sSurely) :
    Def P w K mg base (L2.CX P w) 5 "surely" nTwo (spR CV CL isTwo (twoR sureD)) :=
  a.def (fun _ _ _ _ _ _ us hl => match us, hl with | [_, _], _ => rfl) fun f fd F => ok_surely T D_check_sights D_btw D_word F
end
end K1


set_option Elab.async false
set_option linter.all false
set_option maxRecDepth 100000
set_option maxHeartbeats 4000000
namespace K1
open PySem PySem.Spec PyProof.Rows L2 RZ
/-! ### what tells data, whatever new objects are made meanwhile -/
def Gv (T : List (Addr × Str)) (te : TE) (σ : L2.St) (H : Hp) (d : PyData) : Prop := ∀ H1, LamX.ExtN H H1 → LamX.Tabs T H1 → ∀ Q : VK, (∀ v H2, LamX.ExtN H1 H2 → LamX.Tabs T H2 → Dv H2 v d → Q v H2) → te σ H1 Q
def GvA (T : List (Addr × Str)) (ta : TA) (σ : L2.St) (H : Hp) (ds : List PyData) : Prop := ∀ H1, LamX.ExtN H H1 → LamX.Tabs T H1 → ∀ Q : List V → Hp → Prop, (∀ vs H2, LamX.ExtN H1 H2 → LamX.Tabs T H2 → DvA H2 vs ds → Q vs H2) → ta σ H1 Q
section
variable {T : List (Addr × Str)} {σ : L2.St} {H : Hp} {te tf : TE} {ta : TA} {d : PyData} {ds es : List PyData}
theorem gv_c {v : V} (h : ∀ H, Dv H v d) : Gv T (tC v) σ H d := fun H1 _ t Q k => k v H1 (.refl _) t (h H1)
theorem gv_int (n : Int) : Gv T (tC (.int n)) σ H (.int n) := gv_c fun _ => .int n
theorem gv_str (n : Str) : Gv T (tC (.str n)) σ H (.str n) := gv_c fun _ => .str n
theorem gv_bl (n : Bool) : Gv T (tC (.bl n)) σ H (.bool n) := gv_c fun _ => .bl n
theorem gv_non : Gv T (tC .non) σ H .none := gv_c fun _ => .non
theorem gv_var {i : Nat} {v : V} (hi : σ[i]? = some (some v)) (h : Dv H v d) : Gv T (tVar i) σ H d := fun H1 e t Q k => ⟨v, hi, k v H1 (.refl _) t (h.ext e)⟩
theorem gv_nil : GvA T tNil σ H [] := fun H1 _ t Q k => k [] H1 (.refl _) t .nil
theorem gv_cons (h1 : Gv T te σ H d) (h2 : GvA T ta σ H ds) : GvA T (tCons te ta) σ H (d :: ds) := fun H1 e t Q k =>
  h1 H1 e t _ fun x H2 e2 t2 hx => h2 H2 (e.trans e2) t2 _ fun xs H3 e3 t3 hxs => k (x :: xs) H3 (e2.trans e3) t3 (.cons (hx.ext e3) hxs)
theorem gv_tup (h : GvA T ta σ H ds) (hl : ds.length ≤ 1000 := by exact Nat.le_of_ble_eq_true rfl) : Gv T (tTup ta) σ H (.tuple ds) := fun H1 e t Q k =>
  h H1 e t _ fun xs H2 e2 t2 hxs => ⟨lt1 _ (by rw [hxs.len]; omega), fun p np => k _ _ (e2.trans (LamX.ExtN.of (same_new np))) (t2.ext (same_new np)) (.tup upd_same (hxs.same (same_new np)))⟩
theorem gv_lst (h : GvA T ta σ H ds) (hl : ds.length ≤ 1000 := by exact Nat.le_of_ble_eq_true rfl) : Gv T (tLst ta) σ H (.list ds) := fun H1 e t Q k =>
  h H1 e t _ fun xs H2 e2 t2 hxs => ⟨lt1 _ (by rw [hxs.len]; omega), fun p np => k _ _ (e2.trans (LamX.ExtN.of (same_new np))) (t2.ext (same_new np)) (.lst upd_same (hxs.same (same_new np)))⟩
theorem Dv.lstD {v : V} (h : Dv H v (.list ds)) : ∃ a xs, v = .ref a ∧ H a = some (.lst xs) ∧ DvA H xs ds := by
  cases h with
  | lst e r => exact ⟨_, _, rfl, e, r⟩
theorem gv_cat (h1 : Gv T te σ H (.list ds)) (h2 : Gv T tf σ H (.list es)) (hl : ds.length + es.length ≤ 1000) : Gv T (tOp rCat te tf) σ H (.list (ds ++ es)) := fun H1 e t Q k =>
  h1 H1 e t _ fun x H2 e2 t2 hx => h2 H2 (e.trans e2) t2 _ fun y H3 e3 t3 hy => by
    obtain ⟨a, xs, rfl, ha, hA⟩ := (hx.ext e3).lstD
    obtain ⟨b, ys, rfl, hb, hB⟩ := hy.lstD
    exact ⟨a, b, xs, ys, rfl, rfl, ha, hb, lt1 _ (by rw [hA.len, hB.len]; omega), fun p np => k _ _ ((e2.trans e3).trans (LamX.ExtN.of (same_new np))) (t3.ext (same_new np)) (.lst upd_same ((hA.app hB).same (same_new np)))⟩
theorem DvA.rep {xs : List V} (h : DvA H xs ds) : ∀ n : Nat, DvA H (List.replicate n xs).flatten (List.replicate n ds).flatten
  | 0 => .nil
  | n + 1 => by
    rw [List.replicate_succ, List.replicate_succ, List.flatten_cons, List.flatten_cons]
    exact h.app (DvA.rep h n)
theorem gv_rep {n : Nat} (h1 : Gv T te σ H (.list ds)) (hl : ds.length * n ≤ 1000) (hn : n ≤ 1000) : Gv T (tOp rRep te (tC (.int (n : Int)))) σ H (.list (List.replicate n ds).flatten) := fun H1 e t Q k =>
  h1 H1 e t _ fun x H2 e2 t2 hx => by
    obtain ⟨a, xs, rfl, ha, hA⟩ := hx.lstD
    refine ⟨a, n, xs, rfl, rfl, ha, by omega, by omega, lt1 _ (by rw [hA.len, Int.toNat_natCast]; omega), fun p np => ?_⟩
    rw [Int.toNat_natCast]
    exact k _ _ (e2.trans (LamX.ExtN.of (same_new np))) (t2.ext (same_new np)) (.lst upd_same ((hA.rep n).same (same_new np)))
end
theorem passN {X : Cx} : Passes (L2.CX X.prog X.w) X (fun _ _ _ => False) := fun _ _ _ _ _ _ _ ⟨_, _, _, _, _, _, _, _, _, _, _, _, h⟩ => h.elim
/-! ### calls, as data -/
section
variable {CV CL : Addr} {T : List (Addr × Str)} {σ : L2.St} {H : Hp} {te tf : TE} {ta : TA} {d : PyData} {ds : List PyData} {okd : List PyData → Prop} {f : List PyData → Res}
theorem gv_call {E : XK} (hok : okd ds) (hf : f ds = .ok d) (ha : GvA T ta σ H ds) : Gv T (tCall (spR CV CL okd f) [] E ta) σ H d := fun H1 e t Q k =>
  ha H1 e t _ fun vs H2 e2 t2 hA => ⟨ds, by rw [List.append_nil]; exact hA, hok, by
    rw [hf]
    exact fun v H3 s3 hv => k v H3 (e2.trans (LamX.ExtN.of s3)) (t2.ext s3) hv⟩
theorem gv_op0 {g : Int → Int → V} {i j n : Int} (h : g i j = .int n) (h1 : Gv T te σ H (.int i)) (h2 : Gv T tf σ H (.int j)) : Gv T (tOp (rI0 g) te tf) σ H (.int n) := fun H1 e t Q k =>
  h1 H1 e t _ fun x H2 e2 t2 hx => h2 H2 (e.trans e2) t2 _ fun y H3 e3 t3 hy => by
    obtain rfl := hx.intV
    obtain rfl := hy.intV
    exact ⟨i, j, rfl, rfl, k _ H3 (e2.trans e3) t3 (by rw [h]; exact .int n)⟩
theorem gv_add {i j : Int} (h1 : Gv T te σ H (.int i)) (h2 : Gv T tf σ H (.int j)) : Gv T (tOp (rI0 fun i j => .int (i + j)) te tf) σ H (.int (i + j)) := gv_op0 rfl h1 h2
theorem gv_sub {i j : Int} (h1 : Gv T te σ H (.int i)) (h2 : Gv T tf σ H (.int j)) : Gv T (tOp (rI0 fun i j => .int (i - j)) te tf) σ H (.int (i - j)) := gv_op0 rfl h1 h2
theorem gv_mul {i j : Int} (c : CMul i j) (h1 : Gv T te σ H (.int i)) (h2 : Gv T tf σ H (.int j)) : Gv T (tOp (rI CMul fun i j => .int (i * j)) te tf) σ H (.int (i * j)) := fun H1 e t Q k =>
  h1 H1 e t _ fun x H2 e2 t2 hx => h2 H2 (e.trans e2) t2 _ fun y H3 e3 t3 hy => by
    obtain rfl := hx.intV
    obtain rfl := hy.intV
    exact ⟨i, j, rfl, rfl, c, k _ H3 (e2.trans e3) t3 (.int _)⟩
theorem gv_neg {n : Int} : Gv T (tUn (rU fun i => .int (-i)) (tC (.int n))) σ H (.int (-n)) := fun H1 _ t Q k => ⟨n, rfl, k _ H1 (.refl _) t (.int _)⟩
theorem Dv.tup4 {H : Hp} {v : V} {d1 d2 d3 d4 : PyData} (h : Dv H v (.tuple [d1, d2, d3, d4])) : ∃ a x1 x2 x3 x4, v = .ref a ∧ H a = some (.tup [x1, x2, x3, x4]) ∧ Dv H x1 d1 ∧ Dv H x2 d2 ∧ Dv H x3 d3 ∧ Dv H x4 d4 := by
  cases h with
  | tup e r =>
    match r with
    | .cons h1 (.cons h2 (.cons h3 (.cons h4 .nil))) => exact ⟨_, _, _, _, _, rfl, e, h1, h2, h3, h4⟩
theorem cut1 (xs : List V) : cutV xs (some 1) none = xs.drop 1 := by
  unfold cutV
  rw [show (1 : Int) = ((1 : Nat) : Int) from rfl, HT.sIx_nat, HT.sIx_none]
  cases xs with
  | nil => rfl
  | cons x r =>
    rw [show min 1 (x :: r).length = 1 by rw [List.length_cons]; omega]
    exact List.take_of_length_le (by simp)
/-- (x,) + t[1:] -/
theorem gv_swap {K : PySem.W.Frag} {tx : TE} {d0 d1 d2 d3 d4 : PyData} (h1 : Gv T tx σ H d0) (h2 : Gv T te σ H (.tuple [d1, d2, d3, d4])) :
    Gv T (tOp (rCatA K) (tTup (tCons tx tNil)) (tSl (rSlA K) te (tPart (tC (.int 1))) tNoPart)) σ H (.tuple [d0, d2, d3, d4]) := fun H1 e t Q k =>
  h1 H1 e t _ fun x H2 e2 t2 hx => ⟨(by show 1 ≤ sizeLine; decide), fun p np => h2 _ ((e.trans e2).trans (LamX.ExtN.of (same_new np))) (t2.ext (same_new np)) _ fun v H3 e3 t3 hv => by
    obtain ⟨b, x1, x2, x3, x4, rfl, hb, g1, g2, g3, g4⟩ := hv.tup4
    have hp : H3 p = some (.tup [x]) := e3 _ _ upd_same fun _ z => by cases z
    have hx3 := (hx.same (same_new (o := .tup [x]) np)).ext e3
    refine ⟨1, rfl, b, _, rfl, st hb, fun hw => ?_, fun _ q nq => ?_⟩
    · have := hw.1
      rw [show (1 : Int) = ((1 : Nat) : Int) from rfl, HT.sIx_nat] at this
      simp at this
    · have sq := same_new (o := .tup (cutV [x1, x2, x3, x4] (some 1) none)) nq
      have ec : cutV [x1, x2, x3, x4] (some 1) none = [x2, x3, x4] := by rw [cut1]; rfl
      refine ⟨p, q, [x], _, rfl, rfl, st (sq _ _ hp), st upd_same, by rw [ec]; show 1 + 3 ≤ sizeLine; decide, fun z => (by cases z), fun _ z => (by rw [ec] at z; cases z), fun _ _ r nr => ?_⟩
      have sr := sq.new (o := .tup ([x] ++ cutV [x1, x2, x3, x4] (some 1) none)) nr
      refine k _ _ (((e2.trans (LamX.ExtN.of (same_new np))).trans e3).trans (LamX.ExtN.of sr)) (t3.ext sr) ?_
      rw [ec] at sr ⊢
      exact .tup upd_same (.cons (hx3.same sr) (.cons (g2.same sr) (.cons (g3.same sr) (.cons (g4.same sr) .nil))))⟩
end
/-! ### comparisons of data that are alike -/
theorem gv_ne {K : PySem.W.Frag} {T : List (Addr × Str)} {σ : L2.St} {H : Hp} {te tf : TE} {d : PyData} (h1 : Gv T te σ H d) (h2 : Gv T tf σ H d) (hn : noDic d = true) (hs : SeqAt.shaped d = true) {H1 : Hp} (e1 : LamX.ExtN H H1) (t1 : LamX.Tabs T H1) {A B : Hp → Prop}
    (k : ∀ H2, LamX.ExtN H1 H2 → LamX.Tabs T H2 → B H2) : tTest (tOp (rNeD K) te tf) σ H1 (fun c H2 => if c = true then A H2 else B H2) :=
  h1 H1 e1 t1 _ fun x H2 e2 t2 hx => h2 H2 (e1.trans e2) t2 _ fun y H3 e3 t3 hy =>
    ⟨d, d, (hx.ext e3).dp hn, hy.dp hn, hs, hs, _, rfl, itbF (by rw [SeqAt.eqv_refl _ (SeqAt.canLay_of_shaped hs)]; rfl) (k H3 (e2.trans e3) t3)⟩
theorem gv_eq {K : PySem.W.Frag} {T : List (Addr × Str)} {σ : L2.St} {H : Hp} {te tf : TE} {d : PyData} (h1 : Gv T te σ H d) (h2 : Gv T tf σ H d) (hn : noDic d = true) (hs : SeqAt.shaped d = true) {H1 : Hp} (e1 : LamX.ExtN H H1) (t1 : LamX.Tabs T H1) {Q : VK}
    (k : ∀ H2, LamX.ExtN H1 H2 → LamX.Tabs T H2 → Q (.bl true) H2) : tOp (rEqD K) te tf σ H1 Q :=
  h1 H1 e1 t1 _ fun x H2 e2 t2 hx => h2 H2 (e1.trans e2) t2 _ fun y H3 e3 t3 hy =>
    ⟨d, d, (hx.ext e3).dp hn, hy.dp hn, hs, hs, by rw [SeqAt.eqv_refl _ (SeqAt.canLay_of_shaped hs)]; exact k H3 (e2.trans e3) t3⟩
/-! ### rules that tell data -/
section
variable {X : Cx}
def tG (T : List (Addr × Str)) (te : TE) : TE := fun σ H Q => ∃ d, LamX.Tabs T H ∧ Gv T te σ H d ∧ ∀ v H2, LamX.ExtN H H2 → LamX.Tabs T H2 → Dv H2 v d → Q v H2
def tNe (T : List (Addr × Str)) (te tf : TE) : TT := fun σ H Q => ∃ d, LamX.Tabs T H ∧ Gv T te σ H d ∧ Gv T tf σ H d ∧ noDic d = true ∧ SeqAt.shaped d = true ∧ ∀ H2, LamX.ExtN H H2 → LamX.Tabs T H2 → Q false H2
def tEqG (T : List (Addr × Str)) (te tf : TE) : TE := fun σ H Q => ∃ d, LamX.Tabs T H ∧ Gv T te σ H d ∧ Gv T tf σ H d ∧ noDic d = true ∧ SeqAt.shaped d = true ∧ ∀ H2, LamX.ExtN H H2 → LamX.Tabs T H2 → Q (.bl true) H2
theorem pe_weak {e : Expr} {t t' : TE} (h : PE X e t) (k : ∀ σ H Q, t' σ H Q → t σ H Q) : PE X e t' := ⟨fun pins s σ H Q I q => h.run pins s σ H Q I (k σ H Q q)⟩
theorem pt_weak {e : Expr} {t t' : TT} (h : PT X e t) (k : ∀ σ H Q, t' σ H Q → t σ H Q) : PT X e t' := ⟨fun pins s σ H Q I q => h.run pins s σ H Q I (k σ H Q q)⟩
theorem pe_G (T : List (Addr × Str)) {e : Expr} {te : TE} (h : PE X e te) : PE X e (tG T te) := pe_weak h fun σ H Q ⟨d, t, g, k⟩ => g H (.refl _) t Q k
theorem pt_neG (T : List (Addr × Str)) {K : PySem.W.Frag} {e : Expr} {te tf : TE} (h : PT X e (tTest (tOp (rNeD K) te tf))) : PT X e (tNe T te tf) := pt_weak h fun σ H Q ⟨d, t, g1, g2, hn, hs, k⟩ =>
  g1 H (.refl _) t _ fun x H2 e2 t2 hx => g2 H2 e2 t2 _ fun y H3 e3 t3 hy => ⟨d, d, (hx.ext e3).dp hn, hy.dp hn, hs, hs, _, rfl, by rw [SeqAt.eqv_refl _ (SeqAt.canLay_of_shaped hs)]; exact k H3 (e2.trans e3) t3⟩
theorem pe_eqG (T : List (Addr × Str)) {K : PySem.W.Frag} {e : Expr} {te tf : TE} (h : PE X e (tOp (rEqD K) te tf)) : PE X e (tEqG T te tf) := pe_weak h fun σ H Q ⟨d, t, g1, g2, hn, hs, k⟩ =>
  g1 H (.refl _) t _ fun x H2 e2 t2 hx => g2 H2 e2 t2 _ fun y H3 e3 t3 hy => ⟨d, d, (hx.ext e3).dp hn, hy.dp hn, hs, hs, by rw [SeqAt.eqv_refl _ (SeqAt.canLay_of_shaped hs)]; exact k H3 (e2.trans e3) t3⟩
/-- what is None -/
def tNn (T : List (Addr × Str)) (te : TE) : TT := fun σ H Q => LamX.Tabs T H ∧ Gv T te σ H .none ∧ ∀ H2, LamX.ExtN H H2 → LamX.Tabs T H2 → Q false H2
theorem pt_nnG (T : List (Addr × Str)) {e : Expr} {te : TE} (h : PT X e (tTest (tOp (fun x y H Q => y = .non ∧ Q (.bl (!decide (x = .non))) H) te (tC .non)))) : PT X e (tNn T te) := pt_weak h fun σ H Q ⟨t, g, k⟩ =>
  g H (.refl _) t _ fun x H2 e2 t2 hx => by
    cases hx
    exact ⟨rfl, _, rfl, k H2 e2 t2⟩
end
end K1


set_option Elab.async false
set_option linter.all false
set_option maxRecDepth 100000
set_option maxHeartbeats 2000000
namespace K1
open PySem PySem.Spec PyProof.Rows L2 RZ StX
def sgOfF (F : Fo) : Sg := ⟨F.age, F.ls.length, F.nx, F.mr⟩
theorem sightB_F {F : Fo} (h : SgF F) : sightB (sgD (sgOfF F)) = true := by
  obtain ⟨h1, h2, h3, h4⟩ := h
  show (isNum (.int F.age) && (isInt (.int F.ls.length) && (isNum (.int F.nx) && (isMark (.int F.mr) && ((decide (0 ≤ (F.ls.length : Int)) && decide ((F.ls.length : Int) < F.nx)) && (!decide (F.mr < 2 * (F.nx - 1) - F.ls.length) && (decide (1 < F.nx) || decide (F.mr = 0)))))))) = true
  have e1 : isNum (.int F.age) = true := decide_eq_true h1
  have e2 : isNum (.int F.nx) = true := decide_eq_true (by omega)
  have e3 : isMark (.int F.mr) = true := decide_eq_true (by omega)
  have e4 : isInt (.int F.ls.length) = true := rfl
  have e5 : (decide (1 < F.nx) || decide (F.mr = 0)) = true := by rcases h4 with h | h <;> simp [h]
  rw [e1, e2, e3, e4, e5, decide_eq_true (show 0 ≤ (F.ls.length : Int) by omega), decide_eq_true h2, decide_eq_false (by omega)]; rfl
theorem ckR_ok {s t : Sg} (h1 : sightB (sgD s) = true) (h2 : sightB (sgD t) = true) : ckR (sgD s) (sgD t) = none := by
  unfold ckR; rw [h1, h2, if_pos rfl, if_pos rfl]
theorem twoR_ok {f : Sg → Sg → PyData} {s t : Sg} (h1 : sightB (sgD s) = true) (h2 : sightB (sgD t) = true) : twoR f [sgD s, sgD t] = .ok (f s t) := by
  show (match ckR (sgD s) (sgD t) with | some e => Res.er e | none => .ok (f (sgOf (sgD s)) (sgOf (sgD t)))) = _
  rw [ckR_ok h1 h2]; rfl
theorem gv_two {CV CL : Addr} {T : List (Addr × Str)} {σ : L2.St} {H : Hp} {ta : TA} {f : Sg → Sg → PyData} {s t : Sg} {E : XK} (o1 : sightB (sgD s) = true) (o2 : sightB (sgD t) = true) (ha : GvA T ta σ H [sgD s, sgD t]) :
    Gv T (tCall (spR CV CL isTwo (twoR f)) [] E ta) σ H (f s t) := gv_call (show isTwo [sgD s, sgD t] from rfl) (twoR_ok o1 o2) ha
/-! ### numbers of two lists -/
theorem nodup_le {α : Type} [DecidableEq α] : ∀ (l m : List α), l.Nodup → (∀ x ∈ l, x ∈ m) → l.length ≤ m.length
  | [], m, _, _ => Nat.zero_le _
  | a :: l, m, nd, h => by
    obtain ⟨n1, n2⟩ := List.nodup_cons.mp nd
    have ha := h a List.mem_cons_self
    have ih := nodup_le l (m.erase a) n2 fun x hx => (List.mem_erase_of_ne (fun e => n1 (by rw [← e]; exact hx))).mpr (h x (List.mem_cons_of_mem _ hx))
    have := List.length_erase_of_mem ha
    have pos := List.length_pos_of_mem ha
    rw [List.length_cons]; omega
def cIn (xs ys : List Int) : Nat := (xs.filter fun n => decide (n ∈ ys)).length
def cOut (xs ys : List Int) : Nat := (xs.filter fun n => !decide (n ∈ ys)).length
theorem c_split (xs ys : List Int) : cIn xs ys + cOut xs ys = xs.length := by
  unfold cIn cOut
  induction xs with
  | nil => rfl
  | cons a l ih =>
    by_cases c : a ∈ ys
    · rw [List.filter_cons_of_pos (by exact decide_eq_true c), List.filter_cons_of_neg (by rw [decide_eq_true c]; exact Bool.false_ne_true), List.length_cons, List.length_cons]; omega
    · rw [List.filter_cons_of_neg (by rw [decide_eq_false c]; exact Bool.false_ne_true), List.filter_cons_of_pos (by rw [decide_eq_false c]; rfl), List.length_cons, List.length_cons]; omega
theorem c_in_le {xs ys : List Int} (h : xs.Nodup) : cIn xs ys ≤ cIn ys xs := by
  unfold cIn
  refine nodup_le _ _ (h.sublist List.filter_sublist) fun x hx => ?_
  obtain ⟨h1, h2⟩ := List.mem_filter.mp hx
  exact List.mem_filter.mpr ⟨of_decide_eq_true h2, decide_eq_true h1⟩
theorem c_in_le2 {xs ys : List Int} (h : xs.Nodup) : cIn xs ys ≤ ys.length := by
  unfold cIn
  exact nodup_le _ _ (h.sublist List.filter_sublist) fun x hx => of_decide_eq_true (List.mem_filter.mp hx).2
theorem c_in_pos {xs ys : List Int} {n : Int} (h1 : n ∈ xs) (h2 : n ∈ ys) : 1 ≤ cIn xs ys := List.length_pos_of_mem (List.mem_filter.mpr ⟨h1, decide_eq_true h2⟩)
theorem range_le {xs : List Int} {a b : Int} (h : xs.Nodup) (hab : a ≤ b) (k : ∀ x ∈ xs, a ≤ x ∧ x < b) : (xs.length : Int) ≤ b - a := by
  have := nodup_le xs ((List.range (b - a).toNat).map fun i => a + (i : Nat)) h fun x hx => by
    have := k x hx
    exact List.mem_map.mpr ⟨(x - a).toNat, List.mem_range.mpr (by omega), by omega⟩
  rw [List.length_map, List.length_range] at this
  omega
def nms (F : Fo) : List Int := F.ls.map (·.n)
/-- what is still there, of those that were known -/
structure FinF (F0 F : Fo) (w x st sm : Int) : Prop where
  s1 : F0.ls.length - w ≤ st
  s2 : 0 ≤ st
  s3 : st ≤ F0.ls.length
  s4 : st ≤ F0.ls.length - (w - (F.nx - F0.nx))
  m1 : F0.ls.length - x ≤ sm
  m2 : 0 ≤ sm
  m3 : sm ≤ F0.ls.length
  m4 : x ≠ 0 → F.nx - F0.nx = 0 → sm ≤ F0.ls.length - 1
  t1 : st ≤ F.ls.length
  bt : btw (sgOfF F0) (sgOfF F) = some (F.nx - F0.nx, w, x)
theorem fin_run {F0 F : Fo} {w x : Int} {tch cs : List Int} (r : RunF F0 F w x tch cs) (g0 : GoodF F0) (g : GoodF F) : FinF F0 F w x (cIn (nms F0) (nms F)) (cOut (nms F0) tch) := by
  obtain ⟨r1, r2, r3, r4, r5, r6, r7, r8, r9, r10, r11⟩ := r
  have n0 := asc_nd g0.asc
  have n1 := asc_nd g.asc
  have l0 : (nms F0).length = F0.ls.length := List.length_map _
  have l1 : (nms F).length = F.ls.length := List.length_map _
  have a1 := c_split (nms F0) (nms F)
  have a2 := c_split (nms F) (nms F0)
  have a3 := c_split (nms F0) tch
  have b1 : cIn (nms F0) (nms F) ≤ cIn (nms F) (nms F0) := c_in_le n0
  have b2 : cIn (nms F) (nms F0) ≤ cIn (nms F0) (nms F) := c_in_le n1
  have b3 : cIn (nms F0) tch ≤ tch.length := c_in_le2 n0
  have fresh : (cOut (nms F) (nms F0) : Int) ≤ F.nx - F0.nx := by
    refine range_le (List.Pairwise.sublist List.filter_sublist n1) r2 fun n hn => ?_
    obtain ⟨h1, h2⟩ := List.mem_filter.mp hn
    obtain ⟨l, hl, rfl⟩ := List.mem_map.mp h1
    rcases r9 l hl with h | h
    · exfalso
      have h : l.n ∈ nms F0 := h
      rw [decide_eq_true h] at h2; cases h2
    · exact h
  have pos : x ≠ 0 → ∃ n, n ∈ tch := fun hx => by
    cases ht : tch with
    | nil => rw [ht] at r7; have : (([] : List Int).length : Int) = 0 := rfl; omega
    | cons n t => exact ⟨n, List.mem_cons_self⟩
  refine ⟨by omega, by omega, by omega, by omega, by omega, by omega, by omega, fun hx hc => ?_, by omega, ?_⟩
  · obtain ⟨n, hn⟩ := pos hx
    rcases r8 n hn with h | h
    · have := c_in_pos (xs := nms F0) h hn
      omega
    · omega
  · have e1 : came (sgOfF F0) (sgOfF F) = F.nx - F0.nx := rfl
    have e2 : went (sgOfF F0) (sgOfF F) = w := by unfold went; rw [e1]; show (F0.ls.length : Int) + (F.nx - F0.nx) - F.ls.length = w; omega
    have e3 : chgd (sgOfF F0) (sgOfF F) = x := by unfold chgd; rw [e1, e2]; show F.mr - F0.mr - (F.nx - F0.nx) - w = x; omega
    unfold btw
    rw [e1, e2, e3, if_neg (by rintro (h | h | h | h) <;> first | exact h r1.symm | omega), if_neg]
    rintro ⟨h1, h2, h3⟩
    obtain ⟨n, hn⟩ := pos h1
    have h2 : (F0.ls.length : Int) = 0 := h2
    rcases r8 n hn with h | h
    · obtain ⟨l, hl, _⟩ := List.mem_map.mp h
      have := List.length_pos_of_mem hl
      omega
    · omega
/-! ### the words -/
def fitsB (z : Str) (n o : Int) : Bool := if z = "all" then decide (n = o) else if z = "none" then decide (n = 0) else decide (z = "open") || (decide (0 < n) && decide (n < o))
theorem fits_word {f m o n : Int} (h1 : f ≤ n) (h2 : n ≤ m) (h3 : 0 ≤ n) (h4 : n ≤ o) : fitsB (wordS f m o) n o = true := by
  unfold wordS
  by_cases c1 : f = o
  · rw [if_pos c1]
    show decide (n = o) = true
    exact decide_eq_true (by omega)
  rw [if_neg c1]
  by_cases c2 : m = 0
  · rw [if_pos c2]
    show (if ("none" : Str) = "all" then decide (n = o) else if ("none" : Str) = "none" then decide (n = 0) else _) = true
    rw [if_neg (by decide), if_pos rfl]
    exact decide_eq_true (by omega)
  rw [if_neg c2]
  by_cases c3 : 0 < f ∧ m < o
  · rw [if_pos c3]
    show (if ("some" : Str) = "all" then decide (n = o) else if ("some" : Str) = "none" then decide (n = 0) else decide (("some" : Str) = "open") || (decide (0 < n) && decide (n < o))) = true
    rw [if_neg (by decide), if_neg (by decide), decide_eq_true (show 0 < n by omega), decide_eq_true (show n < o by omega)]; simp
  · rw [if_neg c3]
    show (if ("open" : Str) = "all" then decide (n = o) else if ("open" : Str) = "none" then decide (n = 0) else decide (("open" : Str) = "open") || (decide (0 < n) && decide (n < o))) = true
    rw [if_neg (by decide), if_neg (by decide), decide_eq_true rfl]; rfl
def wd1 (F0 F : Fo) (w : Int) : Str := wordS (F0.ls.length - lessI F0.ls.length w) (F0.ls.length - moreI 0 (w - (F.nx - F0.nx))) F0.ls.length
def wd2 (F0 F : Fo) (x : Int) : Str := wordS (F0.ls.length - lessI F0.ls.length x) (F0.ls.length - (if x ≠ 0 ∧ F.nx - F0.nx = 0 then 1 else 0)) F0.ls.length
def wd3 (F0 F : Fo) (w : Int) : Str := wordS (F.ls.length - (F0.ls.length - moreI 0 (w - (F.nx - F0.nx)))) (F.ls.length - (F0.ls.length - lessI F0.ls.length w)) F.ls.length
theorem sure_fin {F0 F : Fo} {w x st sm : Int} (h : FinF F0 F w x st sm) : sureD (sgOfF F0) (sgOfF F) = .tuple [.str (wd1 F0 F w), .str (wd2 F0 F x), .str (wd3 F0 F w)] := by
  unfold sureD
  rw [h.bt]; rfl
theorem less_le {i j n : Int} (h1 : i - j ≤ n) (h2 : 0 ≤ n) : i - lessI i j ≤ n := by unfold lessI; split <;> omega
theorem more_ge {i j n : Int} (h1 : n ≤ i - j) (h2 : n ≤ i) : n ≤ i - moreI 0 j := by unfold moreI; split <;> omega
theorem fits1 {F0 F : Fo} {w x st sm : Int} (h : FinF F0 F w x st sm) : fitsB (wd1 F0 F w) st F0.ls.length = true := fits_word (less_le h.s1 h.s2) (more_ge h.s4 h.s3) h.s2 h.s3
theorem fits2 {F0 F : Fo} {w x st sm : Int} (h : FinF F0 F w x st sm) : fitsB (wd2 F0 F x) sm F0.ls.length = true := by
  refine fits_word (less_le h.m1 h.m2) ?_ h.m2 h.m3
  split
  · rename_i c; exact h.m4 c.1 c.2
  · have := h.m3; omega
theorem fits3 {F0 F : Fo} {w x st sm : Int} (h : FinF F0 F w x st sm) : fitsB (wd3 F0 F w) (F.ls.length - st) F.ls.length = true := by
  have a := less_le h.s1 h.s2
  have b := more_ge h.s4 h.s3
  have c := h.t1
  have d := h.s2
  exact fits_word (by omega) (by omega) (by omega) (by omega)
end K1


set_option Elab.async false
set_option linter.all false
set_option maxRecDepth 100000
set_option maxHeartbeats 4000000
namespace K1
open PySem PySem.Spec PyProof.Rows L2 RZ StX
def FrN (p : Addr) (H H' : Hp) : Prop := ∀ b o, b ≠ p → H b = some o → (∀ ps, o ≠ .tbl ps) → H' b = some o
theorem FrN.refl (p : Addr) (H : Hp) : FrN p H H := fun _ _ _ h _ => h
theorem FrN.trans {p : Addr} {H H1 H2 : Hp} (a : FrN p H H1) (b : FrN p H1 H2) : FrN p H H2 := fun c o n h t => b c o n (a c o n h t) t
theorem FrN.ext {p : Addr} {H H1 : Hp} (a : Ext p H H1) : FrN p H H1 := fun c o n h t => a c o n h
theorem FrN.lam {p : Addr} {H H1 : Hp} (a : LamX.ExtN H H1) : FrN p H H1 := fun c o n h t => a c o h t
theorem FrN.same {p : Addr} {H H1 : Hp} (a : Same H H1) : FrN p H H1 := fun c o n h t => a c o h
theorem WellT.lam {H H' : Hp} {p : Addr} {k : Nat} (w : WellT H p k) (e : LamX.ExtN H H') : WellT H' p k := let ⟨c, m, t, h, h0⟩ := w; ⟨c, m, t, e _ _ h fun _ z => (by cases z), h0⟩
theorem WellT.same {H H' : Hp} {p : Addr} {k : Nat} (w : WellT H p k) (e : Same H H') : WellT H' p k := w.keep fun o h => e _ _ h
theorem tabs_ext {T : List (Addr × Str)} {p : Addr} {H H' : Hp} (hw : WellAt H p) (e : Ext p H H') (hT : LamX.Tabs T H) : LamX.Tabs T H' := fun x hx => by
  obtain ⟨ps, h1, h2, h3⟩ := hT x hx
  have np : ∀ a, (∃ ps, H a = some (.tbl ps)) → a ≠ p := fun a ⟨ps, h⟩ z => by
    obtain ⟨c, m, t, e⟩ := hw
    rw [z, e] at h; cases h
  refine ⟨ps, e _ _ (np _ ⟨ps, h1⟩) h1, h2, fun pos cv hc => ?_⟩
  obtain ⟨c', g1, g2⟩ := h3 pos cv hc
  refine ⟨c', g1, e _ _ (fun z => ?_) g2⟩
  obtain ⟨c, m, t, e⟩ := hw
  rw [z, e] at g2; cases g2
abbrev sSee : Stmt := st__law_sight
abbrev nSee : List Str := ["_law_folder_here"]
theorem scSee : FnScope nSee nSee (defScope sSee) := ⟨rfl, rfl, rfl, by decide +kernel, rfl, by decide +kernel, by decide +kernel⟩
abbrev sFits : Stmt := st__law_fits
abbrev nFits : List Str := ["_law_word", "_law_some", "_law_whole"]
theorem scFits : FnScope nFits nFits (defScope sFits) := ⟨rfl, rfl, rfl, by decide +kernel, rfl, by decide +kernel, by decide +kernel⟩
abbrev sFold : Stmt := st__law_folder
abbrev nFold : List Str := ["_law_well_here", "_law_most", "_law_folder_here", "_law_k"]
abbrev pFold : List Str := ["_law_well_here", "_law_most"]
theorem scFold : FnScope nFold pFold (defScope sFold) := ⟨rfl, rfl, rfl, by decide +kernel, rfl, by decide +kernel, by decide +kernel⟩
def spSee (C : Addr) : Sp := fun vs H Q _ => ∃ (q : Addr) (F : Fo), vs = [.ref q] ∧ FoAt C H q F ∧ ∀ S H', Same H H' → H S = none → SgAt H' S (sgOfF F) → Q (.ref S) H'
def spFits : Sp := fun vs H Q _ => ∃ (z : Str) (n o : Int), vs = [.str z, .int n, .int o] ∧ Q (.bl (fitsB z n o)) H
structure OkF (m : Nat) (F : Fo) : Prop where
  wf : Wf m F
  good : GoodF F
  sg : SgF F
  nx : F.nx ≤ m + 1
def spFold (C PA PT PS : Addr) : Sp := fun vs H Q _ => ∃ (p : Addr) (m : Int) (k : Nat), vs = [.ref p, .int m] ∧ WellT H p k ∧ k ≤ 50000 ∧ 0 < m ∧ m ≤ 100 ∧ LamX.Tabs (T3 PA PT PS) H ∧
  ∀ (q : Addr) (F : Fo) (k' : Nat) (H' : Hp), FrN p H H' → WellT H' p k' → k' ≤ k + 2 + 11 * m.toNat → LamX.Tabs (T3 PA PT PS) H' → FoAt C H' q F → OkF m.toNat F → Q (.ref q) H'
theorem deqS (a b : Str) : decide (V.str a = V.str b) = decide (a = b) := decide_eq_decide.mpr ⟨fun h => V.str.inj h, fun h => by rw [h]⟩
theorem ok_step {n : Nat} {F : Fo} {d : Dd} (nt : NoTrim d) (od : OkD d) (h : OkF n F) : OkF (n + 1) (does d F) ∧ ∃ ψ cm, StepF F (does d F) ψ cm := by
  obtain ⟨ψ, cm, s⟩ := step_does nt h.good
  have h4 := h.nx
  have c := s.c01
  have nx := s.nx
  exact ⟨⟨wf_does od h.wf, good_does d nt h.good, sgF_step h.sg s, by omega⟩, ψ, cm, s⟩
theorem can_nt {F : Fo} : ∀ {d : Dd}, NoTrim d → CanD F d
  | .app _ _, _ => trivial
  | .add _ _, _ => trivial
  | .take _ _, _ => trivial
  | .set _ _, _ => trivial
  | .rem _, _ => trivial
section
variable {P : Program} {w : World} {K : PySem.W.Frag} {mg : Str → Option Value} {base : Heap} {C PA PT PS : Addr}
theorem ok_see {f : Addr} {fd : FuncData} (T : Bk mg) (t : ClT K mg C) (M_age : MDef P w K mg base CX0 1 C "age" nSelf (spAge C)) (M_letters : MDef P w K mg base CX0 1 C "letters" nSelf (spLetters C)) (M_next : MDef P w K mg base CX0 1 C "next_number" nSelf (spNext C)) (M_mark : MDef P w K mg base CX0 1 C "mark" nSelf (spMark C))
    (F : Fun K "_law_sight" "_law_sight" sSee f fd) : FnOk P w K mg base CX0 2 f fd nSee (spSee C) := by
  have nd := scSee.nd
  refine F.ok scSee (fun vs H Q E h => ?_) (fun cdv A outer s H vs Q E hr h => ?_)
  · obtain ⟨q, F, rfl, _⟩ := h
    rfl
  · obtain ⟨q, F, rfl, hF, k⟩ := h
    refine ⟨_, (pss_one (ps_ret (pe_tup (pa_cons (pe_mdef0 M_age t.cl (hr.mono (by decide)) pass0 (pv 0)) (pa_cons (pe_callB (call_lenK (K := K) rfl) (by rfl) T.len PySem.boot_len (pa_cons (pe_mdef0 M_letters t.cl (hr.mono (by decide)) pass0 (pv 0)) pa_nil)) (pa_cons (pe_mdef0 M_next t.cl (hr.mono (by decide)) pass0 (pv 0)) (pa_cons (pe_mdef0 M_mark t.cl (hr.mono (by decide)) pass0 (pv 0)) pa_nil))))))), ?_⟩
    have use : ∀ H', Same H H' → ∃ dx fs, H' q = some (.ins C dx fs) ∧ (∀ x : Str, (["_age", "_letters", "_next_number", "_mark", "_gone", "_cut"] : List Str).all (fun z => !(x == z)) = true → fs.lookup x = none) := fun H' s' => by
      obtain ⟨dx, tl, tg, hp, _⟩ := hF
      exact ⟨dx, _, s' _ _ hp, fun x h => fl_no h⟩
    obtain ⟨dx, fs, hp, hno⟩ := use H (fun _ _ h => h)
    refine ⟨_, rfl, q, dx, fs, rfl, hp, hno _ (by decide +kernel), q, F, rfl, hF, _, rfl, q, dx, fs, rfl, hp, hno _ (by decide +kernel), q, F, rfl, hF, fun l H1 s1 nl hL => ?_⟩
    obtain ⟨xs, e0, r0⟩ := hL.lsts
    have hxl := r0.len
    rw [List.length_map] at hxl
    obtain ⟨dx2, fs2, hp2, hno2⟩ := use H1 s1
    refine ⟨l, xs, rfl, .inl (sq e0), _, rfl, q, dx2, fs2, rfl, hp2, hno2 _ (by decide +kernel), q, F, rfl, hF.same s1, _, rfl, q, dx2, fs2, rfl, hp2, hno2 _ (by decide +kernel), q, F, rfl, hF.same s1, (by show 4 ≤ sizeLine; decide), fun S nS => ?_⟩
    refine k S _ (s1.new nS) (s1.free nS) ?_
    show _ = some (HO.tup [.int F.age, .int F.ls.length, .int F.nx, .int F.mr])
    rw [upd_same, hxl]
theorem ok_fits {f : Addr} {fd : FuncData} (F : Fun K "_law_fits" "_law_fits" sFits f fd) : FnOk P w K mg base CX0 1 f fd nFits spFits := by
  have nd := scFits.nd
  refine F.ok scFits (fun vs H Q E h => ?_) (fun cdv A outer s H vs Q E hr h => ?_)
  · obtain ⟨z, n, o, rfl, _⟩ := h
    rfl
  · obtain ⟨z, n, o, rfl, q⟩ := h
    refine ⟨_, (pss_cons (ps_if (pt_cmpR op_eq (pv 0) pe_str (nomark _))
  (pss_one (ps_ret (pe_cmpR op_eq (pv 1) (pv 2) (nomark _))))
  pss_nil)
 (pss_cons (ps_if (pt_cmpR op_eq (pv 0) pe_str (nomark _))
  (pss_one (ps_ret (pe_cmpR op_eq (pv 1) pe_int (nomark _))))
  pss_nil)
 (pss_one (ps_ret (pe_or (pe_cmpR op_eq (pv 0) pe_str (nomark _)) (pe_one (pe_chain op_lt op_lt pe_int (pv 1) (pv 2)))))))), ?_⟩
    unfold fitsB at q
    refine ⟨_, rfl, rfl, _, rfl, ?_⟩
    by_cases c1 : z = "all"
    · rw [if_pos c1] at q
      refine itbT (by rw [deqS]; exact decide_eq_true c1) ⟨_, rfl, _, rfl, rfl, ?_⟩
      rw [deqI]; exact q
    rw [if_neg c1] at q
    refine itbF (by rw [deqS]; exact decide_eq_false c1) ⟨_, rfl, rfl, _, rfl, ?_⟩
    by_cases c2 : z = "none"
    · rw [if_pos c2] at q
      refine itbT (by rw [deqS]; exact decide_eq_true c2) ⟨_, rfl, rfl, ?_⟩
      rw [deqI]; exact q
    rw [if_neg c2] at q
    refine itbF (by rw [deqS]; exact decide_eq_false c2) ⟨_, rfl, rfl, ?_⟩
    refine ⟨_, rfl, ?_⟩
    by_cases c3 : z = "open"
    · rw [decide_eq_true c3] at q
      exact itbT (by rw [deqS]; exact decide_eq_true c3) q
    rw [decide_eq_false c3, Bool.false_or] at q
    refine itbF (by rw [deqS]; exact decide_eq_false c3) ⟨_, rfl, _, _, rfl, rfl, _, rfl, ?_⟩
    by_cases c4 : 0 < n
    · rw [decide_eq_true c4, Bool.true_and] at q
      exact itbT (decide_eq_true c4) ⟨_, rfl, _, _, rfl, rfl, q⟩
    · rw [decide_eq_false c4, Bool.false_and] at q
      exact itbF (decide_eq_false c4) q
theorem ok_fold {f : Addr} {fd : FuncData} (T : Bk mg) (t : ClT K mg C) (D_new : MkD P w K mg base C) (D_draw : Def P w K mg base CX0 1 "_law_draw" pDraw spDraw) (D_deed : Def P w K mg base CX0 4 "_law_deed" pDeed (spDeed C)) (D_played : Def P w K mg base CX0 10 "played" pPlayed (spPlayed C PA PT PS))
    (F : Fun K "_law_folder" "_law_folder" sFold f fd) : FnOk P w K mg base CX0 11 f fd pFold (spFold C PA PT PS) := by
  have nd := scFold.nd
  refine F.ok scFold (fun vs H Q E h => ?_) (fun cdv A outer s H vs Q E hr h => ?_)
  · obtain ⟨p, m, k, rfl, _⟩ := h
    rfl
  · obtain ⟨p, m, k, rfl, hw, hk, m0, m1, hT, q⟩ := h
    refine ⟨_, (pss_cons (ps_set (i := 2) nd rfl (Or.inl rfl) (pe_new D_new t.gC (hr.mono (by decide)) rfl (pa_cons (pe_op op_add pe_int (pe_def D_draw (hr.mono (by decide)) rfl pass0 (pa_cons (pv 0) (pa_cons pe_int pa_nil)))) pa_nil)))
 (C8.pss_cut (ps_for PassesOwn.never rfl (pi_range1 rfl T.range (pa_cons (pe_def D_draw (hr.mono (by decide)) rfl pass0 (pa_cons (pv 0) (pa_cons (pv 1) pa_nil))) pa_nil)) (pg_name (i := 3) nd rfl (Or.inl rfl))
  (pss_one (ps_set (i := 2) nd rfl (Or.inl rfl) (pe_def D_played (hr.mono (by decide)) rfl pass0 (pa_cons (pv 2) (pa_cons (pe_lst (pa_cons (pe_def D_deed (hr.mono (by decide)) rfl pass0 (pa_cons (pv 0) (pa_cons (pv 2) pa_nil))) pa_nil)) pa_nil))))))
 (pss_one (ps_ret (pv 2))))), ?_⟩
    refine ⟨_, rfl, p, 9, k, rfl, hw, by omega, by decide, by decide, fun d H1 d0 d1 e1 w1 => ⟨_, _, rfl, rfl, fun x dx nx ndx hne => ⟨x, dx, 1 + d, rfl, upd_same, by omega, fun Hb tl tg keep hx htl htg => ?_⟩⟩⟩
    have sb : Same H1 Hb := fun b o hb => keep b o (ne_of_none hb nx) (by rw [upd_ne (ne_of_none hb nx), upd_ne (ne_of_none hb ndx)]; exact hb)
    have hF0 : FoAt C Hb x (fNew (1 + d)) := ⟨dx, tl, tg, hx, .tup htl .nil, .tup htg .nil⟩
    have wb := w1.same sb
    have tb : LamX.Tabs (T3 PA PT PS) Hb := (tabs_ext hw.at e1 hT).ext sb
    have ok0 : OkF 0 (fNew (1 + d)) := ⟨⟨by show 1 ≤ 1 + d; omega, Nat.zero_le _, fun l hl => (by cases hl)⟩, good_new _, sgF_new (by omega), Int.le_refl _⟩
    refine ⟨rfl, fun σ G => ∃ (F : Fo) (x : Addr) (v3 : Option V) (k' : Nat), σ = [some (.ref p), some (.int m), some (.ref x), v3] ∧ FrN p Hb G ∧ WellT G p k' ∧ k' ≤ k + 2 + 11 * m.toNat ∧ LamX.Tabs (T3 PA PT PS) G ∧ FoAt C G x F ∧ OkF m.toNat F, ?_, ?_⟩
    rotate_left
    · rintro σ G ⟨F, x', v3, k', rfl, fG, wG, kG, tG, hF, okF⟩
      exact ⟨_, rfl, q x' F k' G (((FrN.ext e1).trans (FrN.same sb)).trans fG) wG kG tG hF okF⟩
    refine ⟨_, rfl, _, rfl, p, m, k + 1, rfl, wb, by omega, m0, by omega, fun n H2 n0 n1 e2 w2 => ⟨n, rfl, by omega, by omega, for_range (lo := 0) (n := n.toNat) (fun i σ G => ∃ (F : Fo) (x : Addr) (v3 : Option V), σ = [some (.ref p), some (.int m), some (.ref x), v3] ∧ FrN p Hb G ∧ WellT G p (k + 2 + 11 * i) ∧ LamX.Tabs (T3 PA PT PS) G ∧ FoAt C G x F ∧ OkF i F)
      ⟨fNew (1 + d), x, none, rfl, FrN.ext e2, w2, tabs_ext wb.at e2 tb, hF0.tk (TK.ext wb.at e2), ok0⟩ ?_ ?_⟩⟩
    rotate_left
    · rintro σ G ⟨F, x', v3, rfl, fG, wG, tG, hF, okF⟩
      exact ⟨F, x', v3, k + 2 + 11 * n.toNat, rfl, fG, wG, by omega, tG, hF, ⟨okF.wf.mono (by omega), okF.good, okF.sg, by have := okF.nx; omega⟩⟩
    rintro i σ G hi ⟨F, x', v3, rfl, fG, wG, tG, hF, okF⟩
    have hW := okF.wf
    have hnx := okF.nx
    have hx1 := okF.good.nx1
    refine ⟨_, rfl, _, rfl, _, rfl, p, x', F, k + 2 + 11 * i, rfl, wG, by omega, hF, hx1, by omega, fun ad dd k' G2 hd nt e3 w3 hk' => ⟨by show 1 ≤ sizeLine; decide, fun l nl => ?_⟩⟩
    have sL := same_new (o := .lst [.ref ad]) nl
    have tk2 := (TK.ext wG.at e3).trans (TK.of sL)
    refine ⟨x', l, F, [.ref ad], [dd], i, rfl, hF.tk tk2, hW, by show i + 1 ≤ 1000; omega, upd_same, .cons (hd.same sL) .nil, ⟨can_nt nt, trivial⟩, (tabs_ext wG.at e3 tG).ext sL, fun x2 G4 e4 t4 hF4 => ?_⟩
    have st := ok_step nt hd.ok okF
    exact ⟨does dd F, x2, _, rfl, fG.trans (((FrN.ext e3).trans (FrN.same sL)).trans (FrN.lam e4)), ((w3.same sL).lam e4).mono (by omega), t4, hF4, st.1⟩
end
end K1


set_option Elab.async false
set_option linter.all false
set_option maxRecDepth 100000
set_option maxHeartbeats 4000000
namespace K1
open PySem PySem.Spec PyProof.Rows L2 RZ StX
/-! ### dicts of signs by number -/
theorem mergeK_id : ∀ (kvs acc : List (Key × V)), ((acc ++ kvs).map (·.1)).Nodup → mergeK acc kvs = acc ++ kvs
  | [], acc, _ => by rw [List.append_nil]; rfl
  | kv :: r, acc, h => by
    show mergeK (putK acc kv.1 kv.2) r = _
    have e : putK acc kv.1 kv.2 = acc ++ [kv] := by
      unfold putK
      rw [if_neg]
      intro z
      obtain ⟨x, hx, hx2⟩ := List.any_eq_true.mp z
      rw [List.map_append, List.nodup_append] at h
      exact h.2.2 x.1 (List.mem_map.mpr ⟨x, hx, rfl⟩) kv.1 (by rw [List.map_cons]; exact List.mem_cons_self) (of_decide_eq_true hx2)
    rw [e, mergeK_id r (acc ++ [kv]) (by rw [List.append_assoc]; exact h), List.append_assoc]; rfl
inductive KL (H : Hp) : List (Key × V) → List Lt → Prop
  | nil : KL H [] []
  | cons {sa : Addr} {l : Lt} {kvs : List (Key × V)} {ls : List Lt} : H sa = some (.tup (l.s.map V.str)) → KL H kvs ls → KL H ((.inl l.n, .ref sa) :: kvs) (l :: ls)
theorem KL.keep {H H' : Hp} (s : ∀ a xs, H a = some (.tup xs) → H' a = some (.tup xs)) : ∀ {kvs : List (Key × V)} {ls : List Lt}, KL H kvs ls → KL H' kvs ls
  | _, _, .nil => .nil
  | _, _, .cons a r => .cons (s _ _ a) (KL.keep s r)
theorem KL.app {H : Hp} {sa : Addr} {l : Lt} (a : H sa = some (.tup (l.s.map V.str))) : ∀ {kvs : List (Key × V)} {ls : List Lt}, KL H kvs ls → KL H (kvs ++ [(.inl l.n, .ref sa)]) (ls ++ [l])
  | _, _, .nil => .cons a .nil
  | _, _, .cons b r => .cons b (r.app a)
theorem KL.keys {H : Hp} : ∀ {kvs : List (Key × V)} {ls : List Lt}, KL H kvs ls → kvs.map (·.1) = ls.map fun l => Sum.inl l.n
  | _, _, .nil => rfl
  | _, _, .cons a r => congrArg (Sum.inl _ :: ·) r.keys
theorem KL.len {H : Hp} : ∀ {kvs : List (Key × V)} {ls : List Lt}, KL H kvs ls → kvs.length = ls.length
  | _, _, .nil => rfl
  | _, _, .cons a r => congrArg (· + 1) r.len
theorem KL.get {H : Hp} : ∀ {kvs : List (Key × V)} {ls : List Lt}, KL H kvs ls → ∀ {i : Nat} {k : Key} {v : V}, kvs[i]? = some (k, v) → ∃ l sa, ls[i]? = some l ∧ k = .inl l.n ∧ v = .ref sa ∧ H sa = some (.tup (l.s.map V.str))
  | _, _, .cons (sa := sa) (l := l) a r, 0, k, v, h => by
    have := Option.some.inj h
    obtain ⟨rfl, rfl⟩ := Prod.mk.inj this
    exact ⟨l, sa, rfl, rfl, rfl, a⟩
  | _, _, .cons a r, i + 1, k, v, h => r.get (i := i) (by simpa using h)
theorem valV_cons (kv : Key × V) (r : List (Key × V)) (k : Key) : valV (kv :: r) k = if kv.1 = k then some kv.2 else valV r k := by
  unfold valV
  rw [List.find?_cons]
  by_cases c : kv.1 = k <;> simp [c]
theorem valV_mem {k : Key} {v : V} : ∀ {kvs : List (Key × V)}, (kvs.map (·.1)).Nodup → (k, v) ∈ kvs → valV kvs k = some v
  | kv :: r, nd, h => by
    rw [List.map_cons, List.nodup_cons] at nd
    rw [valV_cons]
    rcases List.mem_cons.mp h with rfl | h
    · rw [if_pos rfl]
    · rw [if_neg (fun e => nd.1 (by rw [e]; exact List.mem_map.mpr ⟨_, h, rfl⟩))]; exact valV_mem nd.2 h
/-- what stands at a number -/
theorem KL.val {H : Hp} : ∀ {kvs : List (Key × V)} {ls : List Lt}, KL H kvs ls → ∀ n : Int, (sgAt ls n = none ∧ valV kvs (.inl n) = none) ∨ ∃ s sa, sgAt ls n = some s ∧ valV kvs (.inl n) = some (.ref sa) ∧ H sa = some (.tup (s.map V.str))
  | _, _, .nil, n => .inl ⟨rfl, rfl⟩
  | _, _, .cons (sa := sa) (l := l) a r, n => by
    rw [valV_cons, sgAt_cons]
    by_cases e : l.n = n
    · rw [if_pos e, if_pos (by rw [e])]; exact .inr ⟨_, _, rfl, rfl, a⟩
    · rw [if_neg e, if_neg (fun z => e (Sum.inl.inj z))]; exact r.val n
def DicS (H : Hp) (a : Addr) (ls : List Lt) : Prop := ∃ kvs, H a = some (.dK kvs) ∧ KL H kvs ls
theorem DicS.keep {H H' : Hp} {a : Addr} {ls : List Lt} (h : DicS H a ls) (s : LamX.ExtN H H') : DicS H' a ls := let ⟨kvs, h1, h2⟩ := h; ⟨kvs, s _ _ h1 (fun _ z => (by cases z)), h2.keep fun _ _ h => s _ _ h fun _ z => (by cases z)⟩
theorem keys_nd {H : Hp} {kvs : List (Key × V)} {ls : List Lt} (h : KL H kvs ls) (nd : (ls.map (·.n)).Nodup) : (kvs.map (·.1)).Nodup := by
  rw [h.keys]
  have : (ls.map fun l => (Sum.inl l.n : Key)) = (ls.map (·.n)).map Sum.inl := by rw [List.map_map]; rfl
  rw [this]
  unfold List.Nodup
  rw [List.pairwise_map]
  exact nd.imp fun h e => h (Sum.inl.inj e)
inductive PK (H : Hp) : List Addr → List (Key × V) → Prop
  | nil : PK H [] []
  | cons {p : Addr} {n : Int} {v : V} {ps : List Addr} {kvs : List (Key × V)} : H p = some (.tup [.int n, v]) → PK H ps kvs → PK H (p :: ps) ((.inl n, v) :: kvs)
theorem PK.keep {H H' : Hp} (s : ∀ a xs, H a = some (.tup xs) → H' a = some (.tup xs)) : ∀ {ps : List Addr} {kvs : List (Key × V)}, PK H ps kvs → PK H' ps kvs
  | _, _, .nil => .nil
  | _, _, .cons a r => .cons (s _ _ a) (PK.keep s r)
theorem PK.app {H : Hp} {p : Addr} {n : Int} {v : V} (a : H p = some (.tup [.int n, v])) : ∀ {ps : List Addr} {kvs : List (Key × V)}, PK H ps kvs → PK H (ps ++ [p]) (kvs ++ [(.inl n, v)])
  | _, _, .nil => .cons a .nil
  | _, _, .cons b r => .cons b (r.app a)
theorem PK.paired {K : PySem.W.Frag} {H : Hp} : ∀ {ps : List Addr} {kvs : List (Key × V)}, PK H ps kvs → Paired (fun p (kv : Key × V) => SqT K H p [kV kv.1, kv.2]) ps kvs
  | _, _, .nil => .nil
  | _, _, .cons a r => .cons (st a) r.paired
theorem PK.len {H : Hp} : ∀ {ps : List Addr} {kvs : List (Key × V)}, PK H ps kvs → ps.length = kvs.length
  | _, _, .nil => rfl
  | _, _, .cons a r => congrArg (· + 1) r.len
abbrev S22 (v0 v1 v2 v3 v4 v5 v6 v7 v8 v9 v10 v11 v12 v13 v14 v15 v16 v17 v18 v19 : Option V) : L2.St := [v0, v1, v2, v3, v4, v5, v6, v7, v8, v9, v10, v11, v12, v13, v14, v15, v16, v17, v18, v19, none, none]
abbrev rDict (K : PySem.W.Frag) : List V → Hp → VK → Prop := fun xs H Q => ∃ (a : Addr) (ps : List Addr) (kvs : List (Key × V)), xs = [.ref a] ∧ SqL K H a (ps.map V.ref) ∧ Paired (fun p (kv : Key × V) => SqT K H p [kV kv.1, kv.2]) ps kvs ∧ ∀ p, H p = none → Q (.ref p) (upd H p (.dK (mergeK [] kvs)))
abbrev rLenK (K : PySem.W.Frag) : List V → Hp → VK → Prop := fun xs H Q => ∃ p ys, xs = [V.ref p] ∧ (SqL K H p ys ∨ SqT K H p ys) ∧ Q (.int ys.length) H
section
variable {K : PySem.W.Frag} {C : Addr} {v0 v1 v2 v3 v4 v5 v6 v7 v8 v9 v10 v11 v12 v13 v14 v15 v16 v17 v18 v19 : Option V} {H : Hp} {Q : VK}
theorem same_tup {H H' : Hp} (s : Same H H') : ∀ a xs, H a = some (.tup xs) → H' a = some (.tup xs) := fun a xs h => s _ _ h
theorem lst_tup {H : Hp} {D : Addr} {ys : List V} {o : HO} (hD : H D = some (.lst ys)) : ∀ a xs, H a = some (.tup xs) → upd H D o a = some (.tup xs) := fun a xs h => by rw [upd_ne (fun z => by rw [z, hD] at h; cases h)]; exact h
theorem rd_dic {x : Addr} {F : Fo} (hF : FoAt C H x F) (nd : (F.ls.map (·.n)).Nodup) (ln : F.ls.length ≤ 1000) (k : ∀ a H', Same H H' → H a = none → DicS H' a F.ls → Q (.ref a) H') :
    tCB (rDict K) (tCons (tLc (iList K (tMeth C (Str.ofString "letters") (spLetters C) [] E0 (tVar 3) tNil)) (gName 20) tYes (tTup (tCons (tOp (rIxT K) (tVar 20) (tC (.int 0))) (tCons (tOp (rIxT K) (tVar 20) (tC (.int 2))) tNil))) (List.map (fun x => x.snd) [(Str.ofString "_law_letter", 20)])) tNil)
      (S22 v0 v1 v2 (some (.ref x)) v4 v5 v6 v7 v8 v9 v10 v11 v12 v13 v14 v15 v16 v17 v18 v19) H Q := by
  obtain ⟨dx, tl, tg, hp, _⟩ := id hF
  refine ⟨_, rfl, x, dx, _, rfl, hp, fl_no (by decide +kernel), x, F, rfl, hF, fun l0 H1 s1 nl0 hL => ?_⟩
  obtain ⟨xs, e0, r0⟩ := hL.lsts
  have hxl := r0.len
  rw [List.length_map] at hxl
  refine ⟨l0, rfl, ⟨_, sq e0⟩, fun D hD => ?_⟩
  refine lc_list (K := K) (a := l0) (xs := xs) (fun i H2 => Same H1 H2 ∧ ∃ ps kvs, H2 D = some (.lst (ps.map V.ref)) ∧ PK H2 ps kvs ∧ KL H2 kvs (F.ls.take i)) ⟨same_new hD, [], [], upd_same, .nil, .nil⟩ (fun i H2 _ h => sq (h.1 _ _ e0)) ?_ ?_
  · rintro i y H2 hy ⟨s2, ps, kvs, h2, hk, hkl⟩
    obtain ⟨e, he, hde⟩ := (r0.same s2).get hy
    rw [List.getElem?_map] at he
    cases hFi : F.ls[i]? with
    | none => rw [hFi] at he; cases he
    | some l =>
      rw [hFi] at he
      obtain rfl := (Option.some.inj he).symm
      obtain ⟨ta, sa', rfl, hta, hsa⟩ := dv_lt hde
      refine ⟨rfl, tyes ⟨_, rfl, ta, _, 0, .int l.n, rfl, rfl, st hta, atI_nat (j := 0) rfl, _, rfl, ta, _, 2, .ref sa', rfl, rfl, st hta, atI_nat (j := 2) rfl, by show 2 ≤ sizeLine; decide, fun pt npt => ?_⟩⟩
      have s4 := same_new (o := .tup [.int l.n, .ref sa']) npt
      have hlen := hk.len
      have hlen2 := hkl.len
      rw [List.length_take] at hlen2
      have hD4 := s4 _ _ h2
      refine ⟨_, hD4, lt2 _ (by rw [List.length_map]; omega), (s2.trans s4).mut hD, ps ++ [pt], kvs ++ [(.inl l.n, .ref sa')], by rw [upd_same, List.map_append]; rfl, ?_, ?_⟩
      · exact ((hk.keep (same_tup s4)).app (n := l.n) (v := .ref sa') upd_same).keep (lst_tup hD4)
      · rw [take_more hFi]
        exact ((hkl.keep (same_tup s4)).app (s4 _ _ hsa)).keep (lst_tup hD4)
  · rintro H2 ⟨s2, ps, kvs, h2, hk, hkl⟩
    rw [hxl, List.take_length] at hkl
    refine ⟨D, ps, kvs, rfl, sq h2, hk.paired, fun q' nq => k q' _ ((s1.trans s2).new nq) ((s1.trans s2).free nq) ⟨kvs, ?_, hkl.keep (same_tup (same_new nq))⟩⟩
    rw [upd_same, mergeK_id kvs [] (keys_nd hkl nd)]; rfl
theorem rd_nums {x : Addr} {F : Fo} (hF : FoAt C H x F) (ln : F.ls.length ≤ 1000) (k : ∀ D H', Same H H' → H D = none → H' D = some (.lst ((nms F).map V.int)) → Q (.ref D) H') :
    tLc (iList K (tMeth C (Str.ofString "letters") (spLetters C) [] E0 (tVar 3) tNil)) (gName 20) tYes (tOp (rIxT K) (tVar 20) (tC (.int 0))) (List.map (fun x => x.snd) [(Str.ofString "_law_letter", 20)])
      (S22 v0 v1 v2 (some (.ref x)) v4 v5 v6 v7 v8 v9 v10 v11 v12 v13 v14 v15 v16 v17 v18 v19) H Q := by
  obtain ⟨dx, tl, tg, hp, _⟩ := id hF
  refine ⟨_, rfl, x, dx, _, rfl, hp, fl_no (by decide +kernel), x, F, rfl, hF, fun l0 H1 s1 nl0 hL => ?_⟩
  obtain ⟨xs, e0, r0⟩ := hL.lsts
  have hxl := r0.len
  rw [List.length_map] at hxl
  refine ⟨l0, rfl, ⟨_, sq e0⟩, fun D hD => ?_⟩
  refine lc_list (K := K) (a := l0) (xs := xs) (fun i H2 => Same H1 H2 ∧ H2 D = some (.lst (((F.ls.take i).map (·.n)).map V.int))) ⟨same_new hD, upd_same⟩ (fun i H2 _ h => sq (h.1 _ _ e0)) ?_ ?_
  · rintro i y H2 hy ⟨s2, h2⟩
    obtain ⟨e, he, hde⟩ := (r0.same s2).get hy
    rw [List.getElem?_map] at he
    cases hFi : F.ls[i]? with
    | none => rw [hFi] at he; cases he
    | some l =>
      rw [hFi] at he
      obtain rfl := (Option.some.inj he).symm
      obtain ⟨ta, sa', rfl, hta, hsa⟩ := dv_lt hde
      refine ⟨rfl, tyes ⟨_, rfl, ta, _, 0, .int l.n, rfl, rfl, st hta, atI_nat (j := 0) rfl, _, h2, lt2 _ (by rw [List.length_map, List.length_map, List.length_take]; omega), s2.mut hD, ?_⟩⟩
      rw [upd_same, take_more hFi, List.map_append, List.map_append]; rfl
  · rintro H2 ⟨s2, h2⟩
    rw [hxl, List.take_length] at h2
    exact k D _ (s1.trans s2) (s1.free hD) h2
theorem unlock_same {G G2 : Hp} {a : Addr} {u : HO} {od : Obj} (hG : G a = some u) (s : Same (upd G a (.frz od u)) G2) : Same G (upd G2 a u) := fun b o hb => by
  by_cases e : b = a
  · subst e; rw [hG] at hb; rw [upd_same]; exact hb
  · rw [upd_ne e]; exact s b o (by rw [upd_ne e]; exact hb)
def outN (ls ls2 : List Lt) : List Int := (ls.filter fun l => decide (sgAt ls2 l.n = none)).map (·.n)
def newN (ls ls2 : List Lt) : List Int := (ls.filter fun l => decide (sgAt ls2 l.n ≠ none ∧ sgAt ls2 l.n ≠ some l.s)).map (·.n)
theorem filt_take {ls : List Lt} {i : Nat} {l : Lt} (f : Lt → Bool) (h : ls[i]? = some l) : ((ls.take (i + 1)).filter f).map (·.n) = ((ls.take i).filter f).map (·.n) ++ (if f l = true then [l.n] else []) := by
  rw [take_more h, List.filter_append, List.map_append]
  by_cases c : f l = true
  · rw [if_pos c, List.filter_cons_of_pos c]; rfl
  · rw [if_neg c, List.filter_cons_of_neg c]; rfl
/-- len([n for n in ahead if n not in after]) -/
theorem rd_out {a1 a2 : Addr} {ls ls2 : List Lt} (h1 : DicS H a1 ls) (h2 : DicS H a2 ls2) (ne : a2 ≠ a1) (ln : ls.length ≤ 1000) (k : ∀ H', Same H H' → Q (.int (outN ls ls2).length) H') :
    tCB (rLenK K) (tCons (tLockE (tLc (iKeys (tVar 12)) (gName 21) (tB (tDNotIn (tVar 21) (tVar 13))) (tVar 21) (List.map (fun x => x.snd) [(Str.ofString "_law_number", 21)]))) tNil)
      (S22 v0 v1 v2 v3 v4 v5 v6 v7 v8 v9 v10 v11 (some (.ref a1)) (some (.ref a2)) v14 v15 v16 v17 v18 v19) H Q := by
  obtain ⟨kvs, hk, hkl⟩ := h1
  obtain ⟨kvs2, hk2, hkl2⟩ := h2
  refine ⟨a1, .dK kvs, hk, trivial, fun od => ⟨_, rfl, a1, od, rfl, .inl ⟨kvs, upd_same, fun D hD => ?_⟩⟩⟩
  have apD : D ≠ a1 := fun z => by rw [z, upd_same] at hD; cases hD
  have hD0 : H D = none := by rw [upd_ne apD] at hD; exact hD
  have hk2' : (upd H a1 (.frz od (.dK kvs))) a2 = some (.dK kvs2) := by rw [upd_ne ne]; exact hk2
  refine lc_it walk_keys (fun j G => Same (upd H a1 (.frz od (.dK kvs))) G ∧ G D = some (.lst ((((ls.take j).filter fun l => decide (sgAt ls2 l.n = none)).map (·.n)).map V.int))) ⟨same_new hD, upd_same⟩ (fun j G _ h => h.1 _ _ upd_same) ?_ ?_
  · rintro j x G G' hj ⟨sG, hDG⟩ ⟨rfl, kk, v, hkv, rfl⟩
    obtain ⟨l, sa, hl, rfl, rfl, _⟩ := hkl.get hkv
    have ft := filt_take (fun l => decide (sgAt ls2 l.n = none)) hl
    refine ⟨rfl, _, rfl, _, rfl, a2, _, rfl, DGet.k (k := .inl l.n) (sG _ _ hk2'), _, rfl, ?_⟩
    rcases hkl2.val l.n with ⟨e1, e2⟩ | ⟨s, sa2, e1, e2, _⟩
    · refine itbT (by rw [e2]; rfl) ⟨_, rfl, _, hDG, lt2 _ ?_, sG.mut hD, ?_⟩
      · rw [List.length_map, List.length_map]
        refine Nat.le_trans (List.length_filter_le _ _) ?_
        rw [List.length_take]; omega
      · rw [upd_same, ft, if_pos (decide_eq_true e1), List.map_append]; rfl
    · refine itbF (by rw [e2]; rfl) ⟨sG, ?_⟩
      rw [ft, if_neg (by rw [e1, decide_eq_false (fun z => by cases z)]; exact Bool.false_ne_true), List.append_nil]
      exact hDG
  · rintro G ⟨sG, hDG⟩
    rw [hkl.len, List.take_length] at hDG
    refine ⟨sG _ _ upd_same, D, _, rfl, .inl (sq (by rw [upd_ne apD]; exact hDG)), ?_⟩
    have := k _ (unlock_same hk sG)
    unfold outN at this
    rw [List.length_map]
    exact this
/-- new = [n for n in ahead if after.get(n, ahead[n]) != ahead[n]], the dict ahead locked -/
theorem rd_new {a1 a2 : Addr} {ls ls2 : List Lt} {od : Obj} {kvs : List (Key × V)} (hk : H a1 = some (.frz od (.dK kvs))) (hkl : KL H kvs ls) (h2 : DicS H a2 ls2) (nd : (ls.map (·.n)).Nodup) (ok : ∀ l ∈ ls, OkSs l.s) (ok2 : ∀ l ∈ ls2, OkSs l.s) (ln : ls.length ≤ 1000)
    (k : ∀ D H', Same H H' → H D = none → H' D = some (.lst ((newN ls ls2).map V.int)) → Q (.ref D) H') :
    tLc (iKeys (tVar 12)) (gName 21) (tTest (tOp (rNeD K) (tDGet2 (tVar 13) (tVar 21) (tDGet (tVar 12) (tVar 21))) (tDGet (tVar 12) (tVar 21)))) (tVar 21) (List.map (fun x => x.snd) [(Str.ofString "_law_number", 21)])
      (S22 v0 v1 v2 v3 v4 v5 v6 v7 v8 v9 v10 v11 (some (.ref a1)) (some (.ref a2)) v14 v15 v16 v17 v18 v19) H Q := by
  obtain ⟨kvs2, hk2, hkl2⟩ := h2
  refine ⟨_, rfl, a1, od, rfl, .inl ⟨kvs, hk, fun D hD => ?_⟩⟩
  have selfAt : ∀ l ∈ ls, sgAt ls l.n = some l.s := fun l => by
    clear hkl ok ln k
    induction ls with
    | nil => intro h; cases h
    | cons h t ih =>
      intro hl
      rw [List.map_cons, List.nodup_cons] at nd
      rw [sgAt_cons]
      rcases List.mem_cons.mp hl with rfl | hl
      · rw [if_pos rfl]
      · rw [if_neg (fun e => nd.1 (by rw [e]; exact List.mem_map.mpr ⟨l, hl, rfl⟩))]; exact ih nd.2 hl
  have okAt : ∀ n s, sgAt ls2 n = some s → OkSs s := fun n s => by
    clear hkl2 hk2 k
    induction ls2 with
    | nil => intro h; cases h
    | cons h t ih =>
      rw [sgAt_cons]
      by_cases c : h.n = n
      · rw [if_pos c]; intro e; rw [← Option.some.inj e]; exact ok2 h List.mem_cons_self
      · rw [if_neg c]; exact ih fun l hl => ok2 l (List.mem_cons_of_mem _ hl)
  refine lc_it walk_keys (fun j G => Same H G ∧ G D = some (.lst ((((ls.take j).filter fun l => decide (sgAt ls2 l.n ≠ none ∧ sgAt ls2 l.n ≠ some l.s)).map (·.n)).map V.int))) ⟨same_new hD, upd_same⟩ (fun j G _ h => h.1 _ _ hk) ?_ ?_
  · rintro j x G G' hj ⟨sG, hDG⟩ ⟨rfl, kk, v, hkv, rfl⟩
    obtain ⟨l, sa, hl, rfl, rfl, hsa⟩ := hkl.get hkv
    have ml := List.mem_of_getElem? hl
    have ft := filt_take (fun l => decide (sgAt ls2 l.n ≠ none ∧ sgAt ls2 l.n ≠ some l.s)) hl
    have gA : DGet G' a1 (.int l.n) (some (.ref sa)) := by
      have e : valV kvs (.inl l.n) = some (.ref sa) := valV_mem (keys_nd hkl nd) (List.mem_of_getElem? hkv)
      exact .inl ⟨kvs, .inl l.n, .inr ⟨od, sG _ _ hk⟩, rfl, e.symm⟩
    have sz : (((ls.take j).filter fun l => decide (sgAt ls2 l.n ≠ none ∧ sgAt ls2 l.n ≠ some l.s)).map (·.n)).length ≤ 1000 := by
      rw [List.length_map]
      refine Nat.le_trans (List.length_filter_le _ _) ?_
      rw [List.length_take]; omega
    have dL : Dp K G' (.ref sa) (.tuple (l.s.map PyData.str)) := (Dv.tup (sG _ _ hsa) (dv_strs l.s)).dp (nd_strs l.s)
    have shL := g_shape (fun z hz => (ok l ml).ok z hz)
    have gB := DGet.k (k := .inl l.n) (sG _ _ hk2)
    refine ⟨rfl, _, rfl, a2, rfl, .inl ⟨_, .inl (sG _ _ hk2)⟩, _, rfl, _, rfl, _, rfl, a1, .ref sa, rfl, gA, _, gB, _, rfl, _, rfl, a1, .ref sa, rfl, gA, ?_⟩
    rcases hkl2.val l.n with ⟨e1, e2⟩ | ⟨s, sa2, e1, e2, h2s⟩
    · rw [e2]
      refine ⟨_, _, dL, dL, shL, shL, _, rfl, itbF (by rw [g_eqv, decide_eq_true rfl]; rfl) ⟨sG, ?_⟩⟩
      rw [ft, if_neg (by rw [e1, decide_eq_false (fun z => z.1 rfl)]; exact Bool.false_ne_true), List.append_nil]; exact hDG
    · rw [e2]
      have dS : Dp K G' (.ref sa2) (.tuple (s.map PyData.str)) := (Dv.tup (sG _ _ h2s) (dv_strs s)).dp (nd_strs s)
      have shS := g_shape (fun z hz => (okAt _ _ e1).ok z hz)
      refine ⟨_, _, dS, dL, shS, shL, _, rfl, ?_⟩
      rw [g_eqv]
      by_cases c : s = l.s
      · refine itbF (by rw [decide_eq_true c]; rfl) ⟨sG, ?_⟩
        rw [ft, if_neg (by rw [e1, c, decide_eq_false (fun z => z.2 rfl)]; exact Bool.false_ne_true), List.append_nil]; exact hDG
      · refine itbT (by rw [decide_eq_false c]; rfl) ⟨_, rfl, _, hDG, lt2 _ (by rw [List.length_map]; omega), sG.mut hD, ?_⟩
        rw [upd_same, ft, if_pos (by rw [e1]; exact decide_eq_true ⟨fun z => (by cases z), fun z => c (Option.some.inj z)⟩), List.map_append]; rfl
  · rintro G ⟨sG, hDG⟩
    rw [hkl.len, List.take_length] at hDG
    exact k D _ sG hD hDG
theorem filtI_take {xs : List Int} {i : Nat} {n : Int} (f : Int → Bool) (h : xs[i]? = some n) : (xs.take (i + 1)).filter f = (xs.take i).filter f ++ (if f n = true then [n] else []) := by
  rw [take_more h, List.filter_append]
  by_cases c : f n = true
  · rw [if_pos c, List.filter_cons_of_pos c]; rfl
  · rw [if_neg c, List.filter_cons_of_neg c]; rfl
/-- len([n for n in xs if n in ys]) -/
theorem rd_in {Kn Nw : Addr} {xs ys : List Int} (h5 : H Kn = some (.lst (xs.map V.int))) (h16 : H Nw = some (.lst (ys.map V.int))) (ln : xs.length ≤ 1000) (k : ∀ H', Same H H' → Q (.int (cIn xs ys)) H') :
    tCB (rLenK K) (tCons (tLc (iList K (tVar 5)) (gName 21) (tTest (tOp (rIn K false) (tVar 21) (tVar 16))) (tVar 21) (List.map (fun x => x.snd) [(Str.ofString "_law_number", 21)])) tNil)
      (S22 v0 v1 v2 v3 v4 (some (.ref Kn)) v6 v7 v8 v9 v10 v11 v12 v13 v14 v15 (some (.ref Nw)) v17 v18 v19) H Q := by
  refine ⟨_, rfl, Kn, rfl, ⟨_, sq h5⟩, fun D hD => ?_⟩
  refine lc_list (K := K) (a := Kn) (xs := xs.map V.int) (fun i G => Same H G ∧ G D = some (.lst (((xs.take i).filter fun n => decide (n ∈ ys)).map V.int))) ⟨same_new hD, upd_same⟩ (fun i G _ h => sq (h.1 _ _ h5)) ?_ ?_
  · rintro i y G hy ⟨sG, hDG⟩
    obtain ⟨n, hn, rfl⟩ := getD_map hy
    have ft := filtI_take (fun n => decide (n ∈ ys)) hn
    refine ⟨rfl, _, rfl, _, rfl, Nw, _, rfl, .inl (sq (sG _ _ h16)), rfl, flat_ints ys, _, rfl, ?_⟩
    show (if inV (.int n) (ys.map V.int) = true then _ else _)
    rw [inV_ints]
    by_cases c : n ∈ ys
    · refine itbT (decide_eq_true c) ⟨_, rfl, _, hDG, lt2 _ ?_, sG.mut hD, ?_⟩
      · rw [List.length_map]
        refine Nat.le_trans (List.length_filter_le _ _) ?_
        rw [List.length_take]; omega
      · rw [upd_same, ft, if_pos (decide_eq_true c), List.map_append]; rfl
    · refine itbF (decide_eq_false c) ⟨sG, ?_⟩
      rw [ft, if_neg (by rw [decide_eq_false c]; exact Bool.false_ne_true), List.append_nil]; exact hDG
  · rintro G ⟨sG, hDG⟩
    rw [List.length_map, List.take_length] at hDG
    refine ⟨D, _, rfl, .inl (sq hDG), ?_⟩
    rw [List.length_map]
    exact k _ sG
theorem rd_notin {Kn Tc : Addr} {xs ys : List Int} (h5 : H Kn = some (.lst (xs.map V.int))) (h9 : H Tc = some (.lst (ys.map V.int))) (ln : xs.length ≤ 1000) (k : ∀ H', Same H H' → Q (.int (cOut xs ys)) H') :
    tCB (rLenK K) (tCons (tLc (iList K (tVar 5)) (gName 21) (tTest (tOp (rIn K true) (tVar 21) (tVar 9))) (tVar 21) (List.map (fun x => x.snd) [(Str.ofString "_law_number", 21)])) tNil)
      (S22 v0 v1 v2 v3 v4 (some (.ref Kn)) v6 v7 v8 (some (.ref Tc)) v10 v11 v12 v13 v14 v15 v16 v17 v18 v19) H Q := by
  refine ⟨_, rfl, Kn, rfl, ⟨_, sq h5⟩, fun D hD => ?_⟩
  refine lc_list (K := K) (a := Kn) (xs := xs.map V.int) (fun i G => Same H G ∧ G D = some (.lst (((xs.take i).filter fun n => !decide (n ∈ ys)).map V.int))) ⟨same_new hD, upd_same⟩ (fun i G _ h => sq (h.1 _ _ h5)) ?_ ?_
  · rintro i y G hy ⟨sG, hDG⟩
    obtain ⟨n, hn, rfl⟩ := getD_map hy
    have ft := filtI_take (fun n => !decide (n ∈ ys)) hn
    refine ⟨rfl, _, rfl, _, rfl, Tc, _, rfl, .inl (sq (sG _ _ h9)), rfl, flat_ints ys, _, rfl, ?_⟩
    show (if (!inV (.int n) (ys.map V.int)) = true then _ else _)
    rw [inV_ints]
    by_cases c : n ∈ ys
    · refine itbF (by rw [decide_eq_true c]; rfl) ⟨sG, ?_⟩
      rw [ft, if_neg (by rw [decide_eq_true c]; exact Bool.false_ne_true), List.append_nil]; exact hDG
    · refine itbT (by rw [decide_eq_false c]; rfl) ⟨_, rfl, _, hDG, lt2 _ ?_, sG.mut hD, ?_⟩
      · rw [List.length_map]
        refine Nat.le_trans (List.length_filter_le _ _) ?_
        rw [List.length_take]; omega
      · rw [upd_same, ft, if_pos (by rw [decide_eq_false c]; rfl), List.map_append]; rfl
  · rintro G ⟨sG, hDG⟩
    rw [List.length_map, List.take_length] at hDG
    refine ⟨D, _, rfl, .inl (sq hDG), ?_⟩
    rw [List.length_map]
    exact k _ sG
/-! ### the goals of statements -/
theorem asg_go {te : TE} {g : TG} {tb : TS} {D : Ends} {σ : L2.St} {H : Hp} (h : te σ H fun v H1 => g v σ H1 fun σ2 H2 => tb D σ2 H2) : tSeq (tAsg te g) tb D σ H := h
theorem asg1_go {te : TE} {g : TG} {D : Ends} {σ : L2.St} {H : Hp} (h : te σ H fun v H1 => g v σ H1 fun σ2 H2 => D.nx σ2 H2) : tAsg te g D σ H := h
/-- newN and outN by what a deed does -/
theorem step_out {F F' : Fo} {ψ : Psi} {cm : Int} (s : StepF F F' ψ cm) : (outN F.ls F'.ls).length = goneC ψ F.ls := by
  unfold outN goneC
  rw [List.length_map]
  congr 1
  refine List.filter_congr fun l hl => ?_
  unfold goneB
  rw [s.at_ l hl]
theorem step_new {F F' : Fo} {ψ : Psi} {cm : Int} (s : StepF F F' ψ cm) : newN F.ls F'.ls = chgL ψ F.ls ∧ (newN F.ls F'.ls).length = chgC ψ F.ls := by
  have e : newN F.ls F'.ls = chgL ψ F.ls := by
    unfold newN chgL
    congr 1
    refine List.filter_congr fun l hl => ?_
    unfold chgB
    rw [s.at_ l hl]
  exact ⟨e, by rw [e]; exact List.length_map _⟩
end
end K1


set_option Elab.async false
set_option linter.all false
set_option maxRecDepth 100000
set_option maxHeartbeats 4000000
namespace K1
open PySem PySem.Spec PyProof.Rows L2 RZ StX
theorem sl_listK {X : Cx} {K : PySem.W.Frag} (h : X.K = K) : SlR X (rSlL K) := by subst h; exact sl_list
theorem cr_minI {X : Cx} {K : PySem.W.Frag} (h : X.K = K) (hc : X.calm = true) : CallR X (.builtin "min") (rMin K) := by subst h; exact cr_min hc
theorem cr_maxI {X : Cx} {K : PySem.W.Frag} (h : X.K = K) (hc : X.calm = true) : CallR X (.builtin "max") (rMax K) := by subst h; exact cr_max hc
theorem call_dictPK {X : Cx} {K : PySem.W.Frag} (h : X.K = K) (hc : X.calm = true) : CallR X (.type "dict") (fun xs H Q => ∃ (a : Addr) (ps : List Addr) (kvs : List (Key × V)), xs = [.ref a] ∧ SqL K H a (ps.map V.ref) ∧ Paired (fun p (kv : Key × V) => SqT K H p [kV kv.1, kv.2]) ps kvs ∧ ∀ p, H p = none → Q (.ref p) (upd H p (.dK (mergeK [] kvs)))) := by subst h; exact call_dictP hc
theorem TK.mut {H : Hp} {D : Addr} {xs : List V} {o : HO} (h : H D = some (.lst xs)) : TK H (upd H D o) := fun b u hb n _ => by rw [upd_ne (fun z => by rw [z, h] at hb; exact n _ (Option.some.inj hb).symm)]; exact hb
theorem tabs_mut {T : List (Addr × Str)} {D : Addr} {H : Hp} {xs : List V} {o : HO} (hD : H D = some (.lst xs)) (hT : LamX.Tabs T H) : LamX.Tabs T (upd H D o) := fun x hx => by
  obtain ⟨ps, h1, h2, h3⟩ := hT x hx
  refine ⟨ps, by rw [upd_ne (fun z => by rw [z, hD] at h1; cases h1)]; exact h1, h2, fun pos cv hc => ?_⟩
  obtain ⟨c', g1, g2⟩ := h3 pos cv hc
  exact ⟨c', g1, by rw [upd_ne (fun z => by rw [z, hD] at g2; cases g2)]; exact g2⟩
theorem DvA.at_ {H : Hp} : ∀ {vs : List V} {ds : List PyData}, DvA H vs ds → ∀ {i : Nat} {d : PyData}, ds[i]? = some d → ∃ v, vs[i]? = some v ∧ Dv H v d
  | _, _, .cons h r, 0, d, e => by cases e; exact ⟨_, rfl, h⟩
  | _, _, .cons h r, i + 1, d, e => r.at_ (i := i) (by simpa using e)
theorem gv_ixT {K : PySem.W.Frag} {T : List (Addr × Str)} {σ : L2.St} {H : Hp} {te : TE} {ds : List PyData} {j : Nat} {d : PyData} (h : Gv T te σ H (.tuple ds)) (hj : ds[j]? = some d) : Gv T (tOp (rIxT K) te (tC (.int (j : Int)))) σ H d := fun H1 e t Q k =>
  h H1 e t _ fun x H2 e2 t2 hx => by
    cases hx with
    | tup ha hA =>
      obtain ⟨v, hv, hd⟩ := hA.at_ hj
      exact ⟨_, _, (j : Int), v, rfl, rfl, st ha, atI_nat hv, k v H2 e2 t2 hd⟩
theorem gname_go {i : Nat} {v : V} {σ : L2.St} {H : Hp} {Q : L2.St → Hp → Prop} (h : Q (σ.set i (some v)) H) : gName i v σ H Q := h
theorem neTup {H : Hp} {a b : Addr} {ys xs : List V} (h : H a = some (.lst ys)) (k : H b = some (.tup xs)) : b ≠ a := fun z => by rw [z, h] at k; cases k
structure LF (C p S Kn Cs Tc x PA PT PS : Addr) (F0 F : Fo) (w xx : Int) (tch cs : List Int) (n : Nat) (L3 : Addr) (zs : List V) (G : Hp) : Prop where
  hL : G L3 = some (.lst zs)
  nL : L3 ≠ p
  nLC : L3 ≠ Cs
  tb : LamX.Tabs (T3 PA PT PS) G
  hS : SgAt G S (sgOfF F0)
  hK : G Kn = some (.lst ((nms F0).map V.int))
  hC : G Cs = some (.lst (cs.map V.int))
  hT : G Tc = some (.lst (tch.map V.int))
  hF : FoAt C G x F
  ok : OkF n F
  run : RunF F0 F w xx tch cs
  nS : S ≠ p
  nK : Kn ≠ p
  nC : Cs ≠ p
  nT : Tc ≠ p
  nTC : Tc ≠ Cs
  nKC : Kn ≠ Cs
section
variable {C p S Kn Cs Tc x PA PT PS : Addr} {F0 F : Fo} {w xx : Int} {tch cs : List Int} {n : Nat} {L3 : Addr} {zs : List V} {G G' : Hp}
theorem LF.same (h : LF C p S Kn Cs Tc x PA PT PS F0 F w xx tch cs n L3 zs G) (s : Same G G') : LF C p S Kn Cs Tc x PA PT PS F0 F w xx tch cs n L3 zs G' :=
  ⟨s _ _ h.hL, h.nL, h.nLC, h.tb.ext s, s _ _ h.hS, s _ _ h.hK, s _ _ h.hC, s _ _ h.hT, h.hF.same s, h.ok, h.run, h.nS, h.nK, h.nC, h.nT, h.nTC, h.nKC⟩
theorem LF.ext (h : LF C p S Kn Cs Tc x PA PT PS F0 F w xx tch cs n L3 zs G) (wl : WellAt G p) (s : Ext p G G') : LF C p S Kn Cs Tc x PA PT PS F0 F w xx tch cs n L3 zs G' :=
  ⟨s _ _ h.nL h.hL, h.nL, h.nLC, tabs_ext wl s h.tb, s _ _ h.nS h.hS, s _ _ h.nK h.hK, s _ _ h.nC h.hC, s _ _ h.nT h.hT, h.hF.tk (TK.ext wl s), h.ok, h.run, h.nS, h.nK, h.nC, h.nT, h.nTC, h.nKC⟩
end
abbrev sLaw : Stmt := st_law
abbrev nLaw : List Str := ["_law_script", "_law_cell", "_law_well_here", "_law_folder_here", "_law_one_here", "_law_known", "_law_counts", "_law_went", "_law_changed", "_law_touched", "_law_k", "_law_deed_here", "_law_ahead", "_law_after", "_law_new", "_law_other", "_law_now", "_law_words", "_law_still", "_law_same", "_law_letter", "_law_number"]
abbrev pLaw : List Str := ["_law_script"]
theorem scLaw : FnScope nLaw pLaw (defScope sLaw) := ⟨rfl, rfl, rfl, by decide +kernel, rfl, by decide +kernel, by decide +kernel⟩
def spLaw (K : PySem.W.Frag) (PA PT PS : Addr) : Sp := fun vs H Q _ => ∃ (a : Addr) (xs : List Int), vs = [.ref a] ∧ SqL K H a (xs.map V.int) ∧ xs.length ≤ 63 ∧ LamX.Tabs (T3 PA PT PS) H ∧ ∀ H', Q (.bl true) H'
section
variable {P : Program} {w : World} {K : PySem.W.Frag} {mg : Str → Option Value} {base : Heap} {C PA PT PS CV CL : Addr}
theorem ok_law {f : Addr} {fd : FuncData} (T : Bk mg) (t : ClT K mg C) (M_letters : MDef P w K mg base CX0 1 C "letters" nSelf (spLetters C))
    (D_cell_at : Def P w K mg base CX0 1 "_law_cell_at" nCell (spCell K)) (D_well : Def P w K mg base CX0 1 "_law_well" nWell spWell) (D_draw : Def P w K mg base CX0 1 "_law_draw" pDraw spDraw) (D_deed : Def P w K mg base CX0 4 "_law_deed" pDeed (spDeed C)) (D_played : Def P w K mg base CX0 10 "played" pPlayed (spPlayed C PA PT PS))
    (D_folder : Def P w K mg base CX0 11 "_law_folder" pFold (spFold C PA PT PS)) (D_sight : Def P w K mg base CX0 2 "_law_sight" nSee (spSee C)) (D_fits : Def P w K mg base CX0 1 "_law_fits" nFits spFits)
    (D_between : Def P w K mg base (L2.CX P w) 5 "between" nTwo (spR CV CL isTwo (twoR btwD))) (D_most_at_once : Def P w K mg base (L2.CX P w) 5 "most_at_once" nTwo (spR CV CL isTwo (twoR mostD)))
    (D_fewest_at_once : Def P w K mg base (L2.CX P w) 5 "fewest_at_once" nTwo (spR CV CL isTwo (twoR fewD))) (D_surely : Def P w K mg base (L2.CX P w) 5 "surely" nTwo (spR CV CL isTwo (twoR sureD)))
    (F : Fun K "law" "law" sLaw f fd) : FnOk P w K mg base CX0 12 f fd pLaw (spLaw K PA PT PS) := by
  have nd := scLaw.nd
  refine F.ok scLaw (fun vs H Q E h => ?_) (fun cdv A outer s H vs Q E hr h => ?_)
  · obtain ⟨a, ns, rfl, _⟩ := h
    rfl
  · obtain ⟨a, ns, rfl, hS, hl, hT, q⟩ := h
    refine ⟨_, (C8.pss_cut (ps_for PassesOwn.never rfl (pi_listK (K := K) rfl (pe_op op_cat (pe_lst (pa_cons (pe_def D_cell_at (hr.mono (by decide)) rfl pass0 (pa_cons (pv 0) (pa_cons pe_int pa_nil))) pa_nil)) (pe_slice (sl_listK (K := K) rfl) (pv 0) (po_some pe_int) (po_some pe_int)))) (pg_name (i := 1) nd rfl (Or.inl rfl))
  (pss_cons (ps_set (i := 2) nd rfl (Or.inl rfl) (pe_def D_well (hr.mono (by decide)) rfl pass0 (pa_cons (pv 1) pa_nil)))
 (pss_cons (ps_set (i := 3) nd rfl (Or.inl rfl) (pe_def D_folder (hr.mono (by decide)) rfl pass0 (pa_cons (pv 2) (pa_cons pe_int pa_nil))))
 (pss_cons (ps_set (i := 4) nd rfl (Or.inl rfl) (pe_def D_sight (hr.mono (by decide)) rfl pass0 (pa_cons (pv 3) pa_nil)))
 (pss_cons (ps_setLc (i := 5) (own := [("_law_letter", 20)]) (g := gName 20) (tt := tYes) rfl nd rfl rfl (sw_true rfl rfl rfl (by decide +kernel)) (pi_listK (K := K) rfl (pe_mdef0 M_letters t.cl (hr.mono (by decide)) pass0 (pv 3))) (blkOk_by (own := [("_law_letter", 20)]) (N := nLaw) (sc := defScope sLaw) (by decide +kernel)) (fun _ _ _ _ _ => pg_name (i := 20) nd rfl (Or.inl rfl)) (fun _ _ _ _ _ => pts_nil) (fun _ _ _ _ _ => (pe_ix (ix_tupK (K := K) rfl) (pv 20) pe_int (fun _ _ => rfl))))
 (pss_cons (ps_asg (pe_tup (pa_cons (pe_lst (pa_cons (pe_callB (call_lenK (K := K) rfl) (by rfl) T.len PySem.boot_len (pa_cons (pv 5) pa_nil)) pa_nil)) (pa_cons pe_int (pa_cons pe_int (pa_cons (pe_lst pa_nil) pa_nil))))) (pg_tup rfl (pgs_cons (pg_name (i := 6) nd rfl (Or.inl rfl)) (pgs_cons (pg_name (i := 7) nd rfl (Or.inl rfl)) (pgs_cons (pg_name (i := 8) nd rfl (Or.inl rfl)) (pgs_cons (pg_name (i := 9) nd rfl (Or.inr rfl)) pgs_nil))))))
 (C8.pss_cut (ps_for PassesOwn.never rfl (pi_range1 rfl T.range (pa_cons (pe_def D_draw (hr.mono (by decide)) rfl pass0 (pa_cons (pv 2) (pa_cons pe_int pa_nil))) pa_nil)) (pg_name (i := 10) nd rfl (Or.inl rfl))
  (pss_cons (ps_set (i := 11) nd rfl (Or.inl rfl) (pe_def D_deed (hr.mono (by decide)) rfl pass0 (pa_cons (pv 2) (pa_cons (pv 3) pa_nil))))
 (pss_cons (ps_set (i := 12) nd rfl (Or.inr rfl) (pe_callTy (call_dictPK (K := K) rfl rfl) (by rfl) T.dict (by decide +kernel) (pa_cons (pe_lc (own := [("_law_letter", 20)]) (g := gName 20) (tt := tYes) rfl nd (pi_listK (K := K) rfl (pe_mdef0 M_letters t.cl (hr.mono (by decide)) pass0 (pv 3))) (blkOk_by (own := [("_law_letter", 20)]) (N := nLaw) (sc := defScope sLaw) (by decide +kernel)) (fun _ _ _ _ _ => pg_name (i := 20) nd rfl (Or.inl rfl)) (fun _ _ _ _ _ => pts_nil) (fun _ _ _ _ _ => (pe_tup (pa_cons (pe_ix (ix_tupK (K := K) rfl) (pv 20) pe_int (fun _ _ => rfl)) (pa_cons (pe_ix (ix_tupK (K := K) rfl) (pv 20) pe_int (fun _ _ => rfl)) pa_nil))))) pa_nil)))
 (pss_cons (ps_set (i := 3) nd rfl (Or.inl rfl) (pe_def D_played (hr.mono (by decide)) rfl pass0 (pa_cons (pv 3) (pa_cons (pe_lst (pa_cons (pv 11) pa_nil)) pa_nil))))
 (pss_cons (ps_set (i := 13) nd rfl (Or.inr rfl) (pe_callTy (call_dictPK (K := K) rfl rfl) (by rfl) T.dict (by decide +kernel) (pa_cons (pe_lc (own := [("_law_letter", 20)]) (g := gName 20) (tt := tYes) rfl nd (pi_listK (K := K) rfl (pe_mdef0 M_letters t.cl (hr.mono (by decide)) pass0 (pv 3))) (blkOk_by (own := [("_law_letter", 20)]) (N := nLaw) (sc := defScope sLaw) (by decide +kernel)) (fun _ _ _ _ _ => pg_name (i := 20) nd rfl (Or.inl rfl)) (fun _ _ _ _ _ => pts_nil) (fun _ _ _ _ _ => (pe_tup (pa_cons (pe_ix (ix_tupK (K := K) rfl) (pv 20) pe_int (fun _ _ => rfl)) (pa_cons (pe_ix (ix_tupK (K := K) rfl) (pv 20) pe_int (fun _ _ => rfl)) pa_nil))))) pa_nil)))
 (pss_cons (ps_set (i := 7) nd rfl (Or.inl rfl) (pe_op op_add (pv 7) (pe_callB (call_lenK (K := K) rfl) (by rfl) T.len PySem.boot_len (pa_cons (pe_lock (pe_lc (own := [("_law_number", 21)]) (g := gName 21) rfl nd (pi_keys (pv 12)) (blkOk_by (own := [("_law_number", 21)]) (N := nLaw) (sc := defScope sLaw) (by decide +kernel)) (fun _ _ _ _ _ => pg_name (i := 21) nd rfl (Or.inl rfl)) (fun _ _ _ _ _ => pts_one (pt_cmp (pc_dnotin (hu_of hr) (pv 21) (pv 13)))) (fun _ _ _ _ _ => (pv 21)))) pa_nil))))
 (pss_cons (ps_lock (ps_setLc (i := 14) (own := [("_law_number", 21)]) (g := gName 21) rfl nd rfl rfl (sw_true rfl rfl rfl (by decide +kernel)) (pi_keys (pv 12)) (blkOk_by (own := [("_law_number", 21)]) (N := nLaw) (sc := defScope sLaw) (by decide +kernel)) (fun _ _ _ _ _ => pg_name (i := 21) nd rfl (Or.inl rfl)) (fun _ _ _ _ _ => pts_one (pt_cmpR (op_neDK (K := K) rfl hr.units) (pe_dget2 (hu_of hr) (pv 13) (pv 21) (pe_dget (hu_of hr) (pv 12) (pv 21) (fun _ _ => rfl)) ⟨rfl, rfl, rfl, rfl⟩) (pe_dget (hu_of hr) (pv 12) (pv 21) (fun _ _ => rfl)) (nomark _))) (fun _ _ _ _ _ => (pv 21))))
 (pss_cons (ps_asg (pe_tup (pa_cons (pe_op op_add (pv 8) (pe_callB (call_lenK (K := K) rfl) (by rfl) T.len PySem.boot_len (pa_cons (pv 14) pa_nil))) (pa_cons (pe_op op_cat (pv 9) (pv 14)) pa_nil))) (pg_tup rfl (pgs_cons (pg_name (i := 8) nd rfl (Or.inl rfl)) (pgs_cons (pg_name (i := 9) nd rfl (Or.inr rfl)) pgs_nil))))
 (pss_one (ps_expr (pe_bm PySem.F.plainAttrs_list PySem.F.slot_list_append PySem.F.type_list_append mt_append (pv 6) (pa_cons (pe_callB call_lenD (by rfl) T.len PySem.boot_len (pa_cons (pv 13) pa_nil)) pa_nil))))))))))))
 (pss_cons (ps_asg (pe_tup (pa_cons (pe_def D_sight (hr.mono (by decide)) rfl pass0 (pa_cons (pv 3) pa_nil)) (pa_cons (pe_lc (own := [("_law_letter", 20)]) (g := gName 20) (tt := tYes) rfl nd (pi_listK (K := K) rfl (pe_mdef0 M_letters t.cl (hr.mono (by decide)) pass0 (pv 3))) (blkOk_by (own := [("_law_letter", 20)]) (N := nLaw) (sc := defScope sLaw) (by decide +kernel)) (fun _ _ _ _ _ => pg_name (i := 20) nd rfl (Or.inl rfl)) (fun _ _ _ _ _ => pts_nil) (fun _ _ _ _ _ => (pe_ix (ix_tupK (K := K) rfl) (pv 20) pe_int (fun _ _ => rfl)))) pa_nil))) (pg_tup rfl (pgs_cons (pg_name (i := 15) nd rfl (Or.inl rfl)) (pgs_cons (pg_name (i := 16) nd rfl (Or.inr rfl)) pgs_nil))))
 (pss_cons (ps_if (pt_neG (T3 PA PT PS) (pt_cmpR (op_neDK (K := K) rfl hr.units) (pe_def D_between (hr.mono (by decide)) rfl passN (pa_cons (pv 4) (pa_cons (pv 15) pa_nil))) (pe_tup (pa_cons (pe_op op_sub (pe_ix (ix_tupK (K := K) rfl) (pv 15) pe_int (fun _ _ => rfl)) (pe_ix (ix_tupK (K := K) rfl) (pv 4) pe_int (fun _ _ => rfl))) (pa_cons (pv 7) (pa_cons (pv 8) pa_nil)))) (nomark _)))
  (pss_one (ps_ret pe_bl))
  pss_nil)
 (pss_cons (ps_if (PW.pt (pw_or (pt_not (pt_cmpR op_le (pe_G (T3 PA PT PS) (pe_def D_fewest_at_once (hr.mono (by decide)) rfl passN (pa_cons (pv 4) (pa_cons (pv 15) pa_nil)))) (pe_callB (cr_minI (K := K) rfl rfl) (by rfl) T.min PyProof.Rows.boot_min (pa_cons (pv 6) pa_nil)) (nomark _))) (pw_or1 (pt_not (pt_cmpR op_le (pe_callB (cr_maxI (K := K) rfl rfl) (by rfl) T.max PyProof.Rows.boot_max (pa_cons (pv 6) pa_nil)) (pe_G (T3 PA PT PS) (pe_def D_most_at_once (hr.mono (by decide)) rfl passN (pa_cons (pv 4) (pa_cons (pv 15) pa_nil)))) (nomark _))))))
  (pss_one (ps_ret pe_bl))
  pss_nil)
 (pss_cons (ps_set (i := 17) nd rfl (Or.inl rfl) (pe_G (T3 PA PT PS) (pe_def D_surely (hr.mono (by decide)) rfl passN (pa_cons (pv 4) (pa_cons (pv 15) pa_nil)))))
 (pss_cons (ps_set (i := 18) nd rfl (Or.inl rfl) (pe_callB (call_lenK (K := K) rfl) (by rfl) T.len PySem.boot_len (pa_cons (pe_lc (own := [("_law_number", 21)]) (g := gName 21) rfl nd (pi_listK (K := K) rfl (pv 5)) (blkOk_by (own := [("_law_number", 21)]) (N := nLaw) (sc := defScope sLaw) (by decide +kernel)) (fun _ _ _ _ _ => pg_name (i := 21) nd rfl (Or.inl rfl)) (fun _ _ _ _ _ => pts_one (pt_cmpR (op_in_seqK (K := K) rfl) (pv 21) (pv 16) (by rfl))) (fun _ _ _ _ _ => (pv 21))) pa_nil)))
 (pss_cons (ps_set (i := 19) nd rfl (Or.inl rfl) (pe_callB (call_lenK (K := K) rfl) (by rfl) T.len PySem.boot_len (pa_cons (pe_lc (own := [("_law_number", 21)]) (g := gName 21) rfl nd (pi_listK (K := K) rfl (pv 5)) (blkOk_by (own := [("_law_number", 21)]) (N := nLaw) (sc := defScope sLaw) (by decide +kernel)) (fun _ _ _ _ _ => pg_name (i := 21) nd rfl (Or.inl rfl)) (fun _ _ _ _ _ => pts_one (pt_cmpR (op_notIn_seqK (K := K) rfl) (pv 21) (pv 9) (by rfl))) (fun _ _ _ _ _ => (pv 21))) pa_nil)))
 (pss_cons (ps_if (PW.pt (pw_or (pt_not (pt_val (pe_def D_fits (hr.mono (by decide)) rfl pass0 (pa_cons (pe_ix (ix_tupK (K := K) rfl) (pv 17) pe_int (fun _ _ => rfl)) (pa_cons (pv 18) (pa_cons (pe_callB (call_lenK (K := K) rfl) (by rfl) T.len PySem.boot_len (pa_cons (pv 5) pa_nil)) pa_nil)))))) (pw_or1 (pt_not (pt_val (pe_def D_fits (hr.mono (by decide)) rfl pass0 (pa_cons (pe_ix (ix_tupK (K := K) rfl) (pv 17) pe_int (fun _ _ => rfl)) (pa_cons (pv 19) (pa_cons (pe_callB (call_lenK (K := K) rfl) (by rfl) T.len PySem.boot_len (pa_cons (pv 5) pa_nil)) pa_nil)))))))))
  (pss_one (ps_ret pe_bl))
  pss_nil)
 (pss_one (ps_if (pt_not (pt_val (pe_def D_fits (hr.mono (by decide)) rfl pass0 (pa_cons (pe_ix (ix_tupK (K := K) rfl) (pv 17) pe_int (fun _ _ => rfl)) (pa_cons (pe_op op_sub (pe_callB (call_lenK (K := K) rfl) (by rfl) T.len PySem.boot_len (pa_cons (pv 16) pa_nil)) (pv 18)) (pa_cons (pe_callB (call_lenK (K := K) rfl) (by rfl) T.len PySem.boot_len (pa_cons (pv 16) pa_nil)) pa_nil))))))
  (pss_one (ps_ret pe_bl))
  pss_nil))))))))))))))))
 (pss_one (ps_ret pe_bl))), ?_⟩
    have sqS : ∀ {H1 H2 : Hp} {b : Addr} {xs : List V}, SqL K H1 b xs → Same H1 H2 → SqL K H2 b xs := fun {H1 H2 b xs} h s => by
      rcases h with (h | ⟨o, h⟩) | h
      · exact .inl (.inl (s _ _ h))
      · exact .inl (.inr ⟨o, s _ _ h⟩)
      · exact .inr h
    refine ⟨fun _ _ => True, ?_, fun σ H1 _ => q H1⟩
    refine ⟨_, rfl, a, ns, 0, rfl, hS, by decide, fun c0 => ⟨lt1 _ (by show 1 ≤ 100000; decide), fun l1 nl1 => ?_⟩⟩
    have s1 := same_new (o := .lst [.int c0]) nl1
    refine ⟨_, rfl, 1, rfl, 3, rfl, a, _, rfl, sqS hS s1, fun l2 nl2 => ?_⟩
    have hcut : cutV (ns.map V.int) (some 1) (some 3) = ((ns.drop (HT.sIx (ns.map V.int).length 0 (some 1))).take (HT.sIx (ns.map V.int).length (ns.map V.int).length (some 3) - HT.sIx (ns.map V.int).length 0 (some 1))).map V.int := by
      unfold cutV
      rw [List.map_take, List.map_drop]
    have hcl : ((ns.drop (HT.sIx (ns.map V.int).length 0 (some 1))).take (HT.sIx (ns.map V.int).length (ns.map V.int).length (some 3) - HT.sIx (ns.map V.int).length 0 (some 1))).length ≤ 63 := by
      rw [List.length_take, List.length_drop]; omega
    rw [hcut]
    generalize (ns.drop (HT.sIx (ns.map V.int).length 0 (some 1))).take (HT.sIx (ns.map V.int).length (ns.map V.int).length (some 3) - HT.sIx (ns.map V.int).length 0 (some 1)) = sub at hcl
    have s2 := s1.new nl2 (o := .lst (sub.map V.int))
    refine ⟨l1, l2, _, _, rfl, rfl, same_new nl2 _ _ upd_same, upd_same, lt1 _ (by rw [List.length_map]; show 1 + sub.length ≤ 100000; omega), fun l3 nl3 => ?_⟩
    have s3 := s2.new nl3 (o := .lst ([V.int c0] ++ sub.map V.int))
    refine ⟨l3, rfl, ⟨_, sq upd_same⟩, for_list (K := K) (a := l3) (xs := (c0 :: sub).map V.int) (fun i σ H2 => ∃ v1 v2 v3 v4 v5 v6 v7 v8 v9 v10 v11 v12 v13 v14 v15 v16 v17 v18 v19, σ = S22 (some (.ref a)) v1 v2 v3 v4 v5 v6 v7 v8 v9 v10 v11 v12 v13 v14 v15 v16 v17 v18 v19 ∧ H2 l3 = some (.lst ((c0 :: sub).map V.int)) ∧ LamX.Tabs (T3 PA PT PS) H2) ?_ ?_ ?_ (fun _ _ _ => True.intro)⟩
    · exact ⟨none, none, none, none, none, none, none, none, none, none, none, none, none, none, none, none, none, none, none, rfl, upd_same, hT.ext s3⟩
    · rintro i σ H2 _ ⟨v1, v2, v3, v4, v5, v6, v7, v8, v9, v10, v11, v12, v13, v14, v15, v16, v17, v18, v19, rfl, h3, _⟩
      exact sq h3
    rintro i x σ H2 hx ⟨v1, v2, v3, v4, v5, v6, v7, v8, v9, v10, v11, v12, v13, v14, v15, v16, v17, v18, v19, rfl, h3, t2⟩
    obtain ⟨cc, _, rfl⟩ := getD_map hx
    refine ⟨_, rfl, cc, rfl, fun p Ha np sa wa => ?_⟩
    refine ⟨_, rfl, p, 12, 0, rfl, wa, by omega, by decide, by decide, t2.ext sa, fun x0 F0 k1 H3 f3 w3 hk1 t3 hF0 ok0 => ?_⟩
    have np3 : l3 ≠ p := ne_of_none h3 np
    have h33 : H3 l3 = some (.lst ((c0 :: sub).map V.int)) := f3 _ _ np3 (sa _ _ h3) fun _ z => by cases z
    have k1b : k1 ≤ 134 := hk1
    refine ⟨_, rfl, x0, F0, rfl, hF0, fun S H4 s4 nS hSg => ?_⟩
    have ln0 : F0.ls.length ≤ 12 := by have := ok0.wf.len; have e : (12 : Int).toNat = 12 := rfl; omega
    refine asg_go (rd_nums (hF0.same s4) (by omega) fun Kn H5 s5 nK hK => ?_)
    refine ⟨_, rfl, Kn, _, rfl, .inl (sq hK), (by show 1 ≤ sizeLine; decide), fun Cs nC => ⟨(by show 0 ≤ sizeLine; decide), fun Tc nT => ⟨(by show 4 ≤ sizeLine; decide), fun tt ntt => ⟨tt, _, rfl, st upd_same, rfl, .ref Cs, _, rfl, .int 0, _, rfl, .int 0, _, rfl, .ref Tc, _, rfl, rfl, ?_⟩⟩⟩⟩
    have sC := same_new (o := .lst [.int ((nms F0).map V.int).length]) nC
    have sT := same_new (o := .lst ([] : List V)) nT
    have sV := same_new (o := .tup [.ref Cs, .int 0, .int 0, .ref Tc]) ntt
    have w4 := w3.same s4
    have w5 := w4.same s5
    have wC := w5.same sC
    have wT := wC.same sT
    have wV := wT.same sV
    have lf0 : LF C p S Kn Cs Tc x0 PA PT PS F0 F0 0 0 [] [(F0.ls.length : Int)] 12 l3 ((c0 :: sub).map V.int) (upd (upd (upd H5 Cs (.lst [.int ((nms F0).map V.int).length])) Tc (.lst [])) tt (.tup [.ref Cs, .int 0, .int 0, .ref Tc])) :=
      ⟨sV _ _ (sT _ _ (sC _ _ (s5 _ _ (s4 _ _ h33)))), np3, ne_of_none (s5 _ _ (s4 _ _ h33)) nC, ((((t3.ext s4).ext s5).ext sC).ext sT).ext sV, sV _ _ (sT _ _ (sC _ _ (s5 _ _ hSg))), sV _ _ (sT _ _ (sC _ _ hK)), sV _ _ (sT _ _ (by rw [upd_same, List.length_map]; unfold nms; rw [List.length_map]; rfl)), sV _ _ upd_same, ((((hF0.same s4).same s5).same sC).same sT).same sV, ok0, run0 F0, w3.at.ne nS, w4.at.ne nK, w5.at.ne nC, wC.at.ne nT, fun z => (by rw [z, upd_same] at nT; cases nT), ne_of_none hK nC⟩
    generalize (upd (upd (upd H5 Cs (.lst [.int ((nms F0).map V.int).length])) Tc (.lst [])) tt (.tup [.ref Cs, .int 0, .int 0, .ref Tc])) = G0 at wV lf0 ⊢
    clear sC sT sV wT wC w5 w4 ntt nT nC
    refine ⟨fun σ G => ∃ (x : Addr) (F : Fo) (w xx : Int) (tch cs : List Int) (Tc : Addr) (v10 v11 v12 v13 v14 : Option V), σ = S22 (some (.ref a)) (some (.int cc)) (some (.ref p)) (some (.ref x)) (some (.ref S)) (some (.ref Kn)) (some (.ref Cs)) (some (.int w)) (some (.int xx)) (some (.ref Tc)) v10 v11 v12 v13 v14 v15 v16 v17 v18 v19 ∧ LF C p S Kn Cs Tc x PA PT PS F0 F w xx tch cs 52 l3 ((c0 :: sub).map V.int) G ∧ tch.length ≤ 5000, ?_, ?_⟩
    · refine ⟨_, rfl, p, 41, k1, rfl, wV, by omega, by decide, by decide, fun m Hm m0 m1 em wm => ⟨m, rfl, by omega, by omega, for_range (lo := 0) (n := m.toNat) (fun i σ G => ∃ (x : Addr) (F : Fo) (w xx : Int) (tch cs : List Int) (Tc : Addr) (v10 v11 v12 v13 v14 : Option V), σ = S22 (some (.ref a)) (some (.int cc)) (some (.ref p)) (some (.ref x)) (some (.ref S)) (some (.ref Kn)) (some (.ref Cs)) (some (.int w)) (some (.int xx)) (some (.ref Tc)) v10 v11 v12 v13 v14 v15 v16 v17 v18 v19 ∧ LF C p S Kn Cs Tc x PA PT PS F0 F w xx tch cs (12 + i) l3 ((c0 :: sub).map V.int) G ∧ WellT G p (k1 + 1 + 11 * i) ∧ tch.length ≤ 60 * i ∧ cs.length ≤ i + 1)
        ⟨x0, F0, 0, 0, [], [(F0.ls.length : Int)], Tc, _, _, _, _, _, rfl, lf0.ext wV.at em, wm, Nat.zero_le _, Nat.le_refl _⟩ ?_ ?_⟩⟩
      rotate_left
      · rintro σ G ⟨x, F, w, xx, tch, cs, Tc, v10, v11, v12, v13, v14, rfl, lf, _, tl, _⟩
        have okF := lf.ok
        have onx := okF.nx
        exact ⟨x, F, w, xx, tch, cs, Tc, v10, v11, v12, v13, v14, rfl, { lf with ok := ⟨okF.wf.mono (by omega), okF.good, okF.sg, by omega⟩ }, by omega⟩
      rintro i σ G hi ⟨x, F, w, xx, tch, cs, Tc, v10, v11, v12, v13, v14, rfl, lf, wG, tl, cl⟩
      have okF := lf.ok
      have onx := okF.nx
      have hx1 := okF.good.nx1
      have hW := okF.wf
      have hWl := hW.len
      refine ⟨_, rfl, _, rfl, p, x, F, k1 + 1 + 11 * i, rfl, wG, by omega, lf.hF, hx1, by omega, fun ad dd k' G1 hd nt e1 w1 hk' => ?_⟩
      have lf1 := lf.ext wG.at e1
      have nd := asc_nd okF.good.asc
      refine asg_go (rd_dic lf1.hF nd (by omega) fun a1 G2 s2 na1 hd1 => ?_)
      have lf2 := lf1.same s2
      have hd2' := hd.same s2
      refine asg_go ?_
      refine ⟨_, rfl, _, rfl, (by show 1 ≤ sizeLine; decide), fun l nl => ?_⟩
      have sL := same_new (o := .lst [.ref ad]) nl
      have lf3 := lf2.same sL
      refine ⟨x, l, F, [.ref ad], [dd], 12 + i, rfl, lf3.hF, hW, by show 12 + i + 1 ≤ 1000; omega, upd_same, .cons (hd2'.same sL) .nil, ⟨can_nt nt, trivial⟩, lf3.tb, fun x' G4 e4 t4 hF4 => ?_⟩
      have hF4 : FoAt C G4 x' (does dd F) := hF4
      obtain ⟨ok4, ψ, cm, stp⟩ := ok_step nt hd.ok okF
      have run4 := run_step lf.run stp
      have so := step_out stp
      obtain ⟨sn, sn2⟩ := step_new stp
      have gc := gc_le ψ F.ls
      have ok4' : OkF (12 + (i + 1)) (does dd F) := ok4
      have W4l := ok4'.wf.len
      have sg2 := ok4'.wf.sg
      have sg1 := hW.sg
      have nd4 := asc_nd ok4'.good.asc
      generalize does dd F = F' at hF4 ok4' run4 so sn sn2 W4l sg2 nd4 ok4 stp
      have d1 := (hd1.keep (LamX.ExtN.of sL)).keep e4
      have w4 : WellT G4 p (k1 + 1 + 11 * (i + 1)) := (((w1.same s2).same sL).lam e4).mono (by omega)
      have lfN : G4 l3 = some (.lst ((c0 :: sub).map V.int)) ∧ SgAt G4 S (sgOfF F0) ∧ G4 Kn = some (.lst ((nms F0).map V.int)) ∧ G4 Cs = some (.lst (cs.map V.int)) ∧ G4 Tc = some (.lst (tch.map V.int)) := ⟨e4 _ _ lf3.hL fun _ z => (by cases z), e4 _ _ lf3.hS fun _ z => (by cases z), e4 _ _ lf3.hK fun _ z => (by cases z), e4 _ _ lf3.hC fun _ z => (by cases z), e4 _ _ lf3.hT fun _ z => (by cases z)⟩
      clear lf3 lf2 lf1 w1 hd2' hd hd1 sL s2 e4 e1
      obtain ⟨g1, g2, g3, g4, g5⟩ := lfN
      refine asg_go (rd_dic hF4 nd4 (by omega) fun a2 G5 s5' na2 hd2 => ?_)
      have ne12 : a2 ≠ a1 := by
        obtain ⟨_, z, _⟩ := d1
        exact (ne_of_none z na2).symm
      have d1' := d1.keep (LamX.ExtN.of s5')
      refine asg_go ?_
      refine ⟨_, rfl, rd_out d1' hd2 ne12 (by omega) fun G6 s6 => ⟨_, _, rfl, rfl, ?_⟩⟩
      have d1'' := d1'.keep (LamX.ExtN.of s6)
      have d2'' := hd2.keep (LamX.ExtN.of s6)
      have s46 := s5'.trans s6
      obtain ⟨kvs, hk, hkl⟩ := d1''
      obtain ⟨kvs2, hk2, hkl2⟩ := d2''
      refine ⟨a1, .dK kvs, hk, trivial, fun od => asg1_go ?_⟩
      have tupL : ∀ b xs, G6 b = some (.tup xs) → (upd G6 a1 (.frz od (.dK kvs))) b = some (.tup xs) := fun b xs h => by rw [upd_ne (fun z => by rw [z, hk] at h; cases h)]; exact h
      refine rd_new upd_same (hkl.keep tupL) ⟨kvs2, by rw [upd_ne ne12]; exact hk2, hkl2.keep tupL⟩ nd sg1 sg2 (by omega) fun D G7 s7 nD hD => ⟨s7 _ _ upd_same, ?_⟩
      have s67 := unlock_same hk s7
      have s47 := s46.trans s67
      have apD : D ≠ a1 := fun z => by rw [z, upd_same] at nD; cases nD
      have hD8 : (upd G7 a1 (.dK kvs)) D = some (.lst ((newN F.ls F'.ls).map V.int)) := by rw [upd_ne apD]; exact hD
      generalize upd G7 a1 (.dK kvs) = G8 at s67 s47 hD8 ⊢
      have hk28 := s67 _ _ hk2
      rw [sn] at hD8
      have chl : (chgL ψ F.ls).length = chgC ψ F.ls := List.length_map _
      refine ⟨_, rfl, _, rfl, D, _, rfl, .inl (sq hD8), _, _, rfl, rfl, _, rfl, _, rfl, Tc, D, _, _, rfl, rfl, s47 _ _ g5, hD8, lt1 _ ?_, fun Tc' nT' => ⟨(by show 2 ≤ sizeLine; decide), fun tt ntt => ⟨tt, _, rfl, st upd_same, rfl, .int _, _, rfl, .ref Tc', _, rfl, rfl, ?_⟩⟩⟩
      · rw [List.length_map, List.length_map]; omega
      have sT := same_new (o := .lst (tch.map V.int ++ (chgL ψ F.ls).map V.int)) nT'
      have sV := same_new (o := .tup [.int (xx + ((chgL ψ F.ls).map V.int).length), .ref Tc']) ntt
      have s49 := s47.trans (sT.trans sV)
      have hT9 := sV _ _ (show (upd G8 Tc' (.lst (tch.map V.int ++ (chgL ψ F.ls).map V.int))) Tc' = some (.lst (tch.map V.int ++ (chgL ψ F.ls).map V.int)) from upd_same)
      have hk9 := sV _ _ (sT _ _ hk28)
      have nTp : Tc' ≠ p := (w4.same s47).at.ne nT'
      have nTC' : Tc' ≠ Cs := (ne_of_none (s47 _ _ g4) nT').symm
      generalize upd (upd G8 Tc' (.lst (tch.map V.int ++ (chgL ψ F.ls).map V.int))) tt (.tup [.int (xx + ((chgL ψ F.ls).map V.int).length), .ref Tc']) = G9 at s49 hT9 hk9 ⊢
      have hC9 := s49 _ _ g4
      have klen := hkl2.len
      refine ⟨_, rfl, .inl ⟨rfl, _, sq hC9⟩, _, rfl, a2, kvs2, rfl, hk9, Cs, cs.map V.int, .int kvs2.length, rfl, rfl, hC9, lt2 _ (by rw [List.length_map]; omega), ?_⟩
      have run5 : RunF F0 F' (w + ((outN F.ls F'.ls).length : Int)) (xx + (((chgL ψ F.ls).map V.int).length : Int)) (tch ++ chgL ψ F.ls) (cs ++ [(kvs2.length : Int)]) := by
        rw [so, List.length_map, chl, klen]; exact run4
      have TKm := TK.mut (o := .lst (cs.map V.int ++ [.int kvs2.length])) hC9
      refine ⟨x', F', _, _, tch ++ chgL ψ F.ls, cs ++ [(kvs2.length : Int)], Tc', _, _, _, _, _, rfl, ⟨by rw [upd_ne lf.nLC]; exact s49 _ _ g1, lf.nL, lf.nLC, ?_, TKm.tup (s49 _ _ g2), by rw [upd_ne lf.nKC]; exact s49 _ _ g3, by rw [upd_same, List.map_append]; rfl, by rw [upd_ne nTC', List.map_append]; exact hT9, (hF4.same s49).tk TKm, ok4', run5, lf.nS, lf.nK, lf.nC, nTp, nTC', lf.nKC⟩, ?_, ?_, ?_⟩
      · exact tabs_mut hC9 (t4.ext s49)
      · exact (w4.same s49).keep fun o ho => by rw [upd_ne lf.nC.symm]; exact ho
      · rw [List.length_append, chl]; omega
      · rw [List.length_append]; show cs.length + 1 ≤ _; omega
    rintro σ G ⟨x, F, w, xx, tch, cs, Tc, v10, v11, v12, v13, v14, rfl, lf, tl⟩
    have fin := fin_run lf.run ok0.good lf.ok.good
    have hlF : F.ls.length ≤ 52 := by have := lf.ok.wf.len; omega
    refine ⟨_, rfl, x, F, rfl, lf.hF, fun O G1 s1 nO hO => ?_⟩
    refine rd_nums (lf.hF.same s1) (by omega) fun Nw G2 s2 nN hN => ?_
    refine ⟨(by show 2 ≤ sizeLine; decide), fun tt ntt => ⟨tt, _, rfl, st upd_same, rfl, .ref O, _, rfl, .ref Nw, _, rfl, rfl, ?_⟩⟩
    have sV := same_new (o := .tup [.ref O, .ref Nw]) ntt
    have lz := ((lf.same s1).same s2).same sV
    have hO3 := sV _ _ (s2 _ _ hO)
    have hN3 := sV _ _ hN
    generalize upd G2 tt (.tup [.ref O, .ref Nw]) = G3 at sV lz hO3 hN3 ⊢
    have o0 := sightB_F ok0.sg
    have o1 := sightB_F lf.ok.sg
    have dS : Dv G3 (.ref S) (sgD (sgOfF F0)) := SgAt.dv lz.hS
    have dO : Dv G3 (.ref O) (sgD (sgOfF F)) := SgAt.dv hO3
    have bt : btwD (sgOfF F0) (sgOfF F) = .tuple [.int (F.nx - F0.nx), .int w, .int xx] := by unfold btwD; rw [fin.bt]
    refine ⟨.tuple [.int (F.nx - F0.nx), .int w, .int xx], lz.tb, by rw [← bt]; exact gv_two o0 o1 (gv_cons (gv_var rfl dS) (gv_cons (gv_var rfl dO) gv_nil)), gv_tup (gv_cons (gv_sub (gv_ixT (j := 2) (gv_var rfl dO) rfl) (gv_ixT (j := 2) (gv_var rfl dS) rfl)) (gv_cons (gv_var rfl (.int _)) (gv_cons (gv_var rfl (.int _)) gv_nil))), rfl, rfl, fun G4 e4 t4 => itbF rfl ?_⟩
    have few : fewD (sgOfF F0) (sgOfF F) = .int (if 0 > (F0.ls.length : Int) - w then 0 else (F0.ls.length : Int) - w) := by unfold fewD; rw [fin.bt]; rfl
    have most : mostD (sgOfF F0) (sgOfF F) = .int ((F0.ls.length : Int) + (F.nx - F0.nx)) := by unfold mostD; rw [fin.bt]; rfl
    have cl := lf.run.cl
    refine ⟨.int (if 0 > (F0.ls.length : Int) - w then 0 else (F0.ls.length : Int) - w), t4, (by rw [← few]; exact gv_two o0 o1 (gv_cons (gv_var rfl (dS.ext e4)) (gv_cons (gv_var rfl (dO.ext e4)) gv_nil))), fun v G5 e5 t5 hv => ?_⟩
    obtain rfl : v = .int (if 0 > (F0.ls.length : Int) - w then 0 else (F0.ls.length : Int) - w) := by cases hv; rfl
    have e35 := e4.trans e5
    have hC5 : G5 Cs = some (.lst (cs.map V.int)) := e35 _ _ lz.hC fun _ z => by cases z
    have cpos : 0 < cs.length := List.length_pos_iff.mpr lf.run.ne
    refine ⟨_, rfl, Cs, cs, rfl, sq hC5, cpos, fun m hm hle => ⟨_, _, rfl, rfl, _, rfl, ?_⟩⟩
    have c1 := cl m hm
    have le1 : (if 0 > (F0.ls.length : Int) - w then 0 else (F0.ls.length : Int) - w) ≤ m := by split <;> omega
    refine itbF (by rw [decide_eq_true le1]; rfl) ⟨_, rfl, Cs, cs, rfl, sq hC5, cpos, fun m2 hm2 hle2 => ?_⟩
    refine ⟨.int ((F0.ls.length : Int) + (F.nx - F0.nx)), t5, (by rw [← most]; exact gv_two o0 o1 (gv_cons (gv_var rfl (dS.ext e35)) (gv_cons (gv_var rfl (dO.ext e35)) gv_nil))), fun v G6 e6 t6 hv => ?_⟩
    obtain rfl : v = .int ((F0.ls.length : Int) + (F.nx - F0.nx)) := by cases hv; rfl
    have c2 := cl m2 hm2
    refine ⟨_, _, rfl, rfl, _, rfl, itbF (by rw [decide_eq_true c2.2.1]; rfl) ?_⟩
    have e36 := e35.trans e6
    refine ⟨sureD (sgOfF F0) (sgOfF F), t6, gv_two o0 o1 (gv_cons (gv_var rfl (dS.ext e36)) (gv_cons (gv_var rfl (dO.ext e36)) gv_nil)), fun v G7 e7 t7 hv => ?_⟩
    rw [sure_fin fin] at hv
    obtain ⟨ws, rfl, hws⟩ : ∃ ws, v = .ref ws ∧ G7 ws = some (.tup [.str (wd1 F0 F w), .str (wd2 F0 F xx), .str (wd3 F0 F w)]) := by
      cases hv with
      | tup h r =>
      cases r with
      | cons h1 r =>
      cases r with
      | cons h2 r =>
      cases r with
      | cons h3 r =>
      cases r
      cases h1; cases h2; cases h3
      exact ⟨_, rfl, h⟩
    have e37 := e36.trans e7
    have hK7 : G7 Kn = some (.lst ((nms F0).map V.int)) := e37 _ _ lz.hK fun _ z => by cases z
    have hN7 : G7 Nw = some (.lst ((nms F).map V.int)) := e37 _ _ hN3 fun _ z => by cases z
    have hT7 : G7 Tc = some (.lst (tch.map V.int)) := e37 _ _ lz.hT fun _ z => by cases z
    have hL7 : G7 l3 = some (.lst ((c0 :: sub).map V.int)) := e37 _ _ lz.hL fun _ z => by cases z
    have lnm : (nms F0).length = F0.ls.length := List.length_map _
    have lnm1 : (nms F).length = F.ls.length := List.length_map _
    refine gname_go ?_
    dsimp only
    refine asg_go (rd_in hK7 hN7 (by omega) fun G8 s8 => ?_)
    refine asg_go (rd_notin (s8 _ _ hK7) (s8 _ _ hT7) (by omega) fun G9 s9 => ?_)
    have s79 := s8.trans s9
    have hw9 := s79 _ _ hws
    have hK9 := s79 _ _ hK7
    have hN9 := s79 _ _ hN7
    have l1 : (((nms F0).map V.int).length : Int) = F0.ls.length := by rw [List.length_map, lnm]
    have l2 : (((nms F).map V.int).length : Int) = F.ls.length := by rw [List.length_map, lnm1]
    refine ⟨_, rfl, ws, _, 0, .str (wd1 F0 F w), rfl, rfl, st hw9, atI_nat (j := 0) rfl, _, rfl, _, rfl, Kn, _, rfl, .inl (sq hK9), _, _, _, rfl, _, rfl, itbF (by rw [l1, fits1 fin]; rfl) ?_⟩
    refine ⟨_, rfl, ws, _, 1, .str (wd2 F0 F xx), rfl, rfl, st hw9, atI_nat (j := 1) rfl, _, rfl, _, rfl, Kn, _, rfl, .inl (sq hK9), _, _, _, rfl, _, rfl, itbF (by rw [l1, fits2 fin]; rfl) ?_⟩
    refine ⟨_, rfl, ws, _, 2, .str (wd3 F0 F w), rfl, rfl, st hw9, atI_nat (j := 2) rfl, _, rfl, Nw, _, rfl, .inl (sq hN9), _, rfl, _, _, rfl, rfl, _, rfl, Nw, _, rfl, .inl (sq hN9), _, _, _, rfl, _, rfl, itbF (by rw [l2, fits3 fin]; rfl) ?_⟩
    exact ⟨_, _, _, _, _, _, _, _, _, _, _, _, _, _, _, _, _, _, _, rfl, s79 _ _ hL7, t7.ext s79⟩
end
end K1


set_option Elab.async false
set_option linter.all false
set_option maxRecDepth 100000
set_option maxHeartbeats 4000000
namespace K1
open PySem PySem.Spec PyProof.Rows L2 RZ StX
/-! ### the end -/
def AtM (K : PySem.W.Frag) (C : Addr) (m q : Str) (st : Stmt) : Prop := ∃ (f : Addr) (fd : FuncData), Meth K C m f ∧ Fun K m q st f fd
def AtMC (K : PySem.W.Frag) (C : Addr) (m q : Str) (st : Stmt) (c : Addr) : Prop := ∃ (f : Addr) (oc : Value) (od : Option Addr) (kV doc pm : Value) (an : Option Addr) (ct : Value) (osl : Array (Option Value)),
  Meth K C m f ∧ K.lookup f = some ⟨oc, od, .func (PySem.W.fnOf m q (defArgs st) (defBody st) (defScope st) .none kV doc pm an (.ref c) ct), osl⟩ ∧ PySem.W.codeIn K (.ref c) q = true
section
variable {K : PySem.W.Frag} {h : Heap} {mg : Str → Option Value}
theorem cs_mk {x : Str} {n : Int} {t : Tok} {v : Value} (X : K.In h) (G : h.Ns mainGlobals mg) (a : PySem.W.nsIn K mainGlobals x = some (some v)) (e : v = .int n t) : ∃ t, mg x = some (.int n t) := ⟨t, by rw [PySem.W.mg_of X G a, e]⟩
theorem at_mk {x : Str} {st : Stmt} {f : Addr} {oc : Value} {od an : Option Addr} {osl : Array (Option Value)} {kV doc pm cdv ct : Value} (X : K.In h) (G : h.Ns mainGlobals mg) (a : PySem.W.nsIn K mainGlobals x = some (some (.ref f)))
    (l : K.lookup f = some ⟨oc, od, .func (PySem.W.fnOf x x (defArgs st) (defBody st) (defScope st) .none kV doc pm an cdv ct), osl⟩) (c : PySem.W.codeIn K cdv x = true) (k : PySem.W.keepIn K (.ref f) = true) : At K mg x st :=
  ⟨f, _, PySem.W.mg_of X G a, fun_mk l c k⟩
theorem atM_mk {C : Addr} {m q : Str} {st : Stmt} {f : Addr} {oc : Value} {od an : Option Addr} {osl : Array (Option Value)} {kV doc pm cdv ct : Value} (a : PySem.W.findIn K (.ref C) m = some (some (.ref f))) (n : PySem.W.isFn K (.ref f) = true)
    (l : K.lookup f = some ⟨oc, od, .func (PySem.W.fnOf m q (defArgs st) (defBody st) (defScope st) .none kV doc pm an cdv ct), osl⟩) (c : PySem.W.codeIn K cdv q = true) (k : PySem.W.keepIn K (.ref f) = true) : AtM K C m q st :=
  ⟨f, _, ⟨a, n, k⟩, fun_mk l c k⟩
theorem atMC_mk {C : Addr} {m q : Str} {st : Stmt} {f co : Addr} {oc : Value} {od an : Option Addr} {osl : Array (Option Value)} {kV doc pm ct : Value} (a : PySem.W.findIn K (.ref C) m = some (some (.ref f))) (n : PySem.W.isFn K (.ref f) = true)
    (l : K.lookup f = some ⟨oc, od, .func (PySem.W.fnOf m q (defArgs st) (defBody st) (defScope st) .none kV doc pm an (.ref co) ct), osl⟩) (c : PySem.W.codeIn K (.ref co) q = true) (k : PySem.W.keepIn K (.ref f) = true) : AtMC K C m q st co :=
  ⟨f, oc, od, kV, doc, pm, an, ct, osl, ⟨a, n, k⟩, l, c⟩
theorem AtM.mdef {P : Program} {w : World} {base : Heap} {CX : CXT} {k : Nat} {C : Addr} {m q : Str} {ps : List Str} {sp : Sp} {st : Stmt} (a : AtM K C m q st)
    (hb : ∀ (kV doc pm : Value) (an : Option Addr) (cdv ct : Value) (us : List Value), us.length = ps.length → bindArgs (PySem.W.fnOf m q (defArgs st) (defBody st) (defScope st) .none kV doc pm an cdv ct) ⟨us, []⟩ = pure (ps.zip us))
    (ok : ∀ (f : Addr) (fd : FuncData), Fun K m q st f fd → FnOk P w K mg base CX k f fd ps sp) : MDef P w K mg base CX k C m ps sp := by
  obtain ⟨f, fd, hm, F⟩ := a
  refine ⟨f, fd, hm, ?_, ok f fd F⟩
  obtain ⟨oc, od, kV, doc, pm, an, cdv, ct, osl, rfl, lk, hcd⟩ := F.ex
  exact F.binds hb
theorem AtMC.mdef {P : Program} {w : World} {base : Heap} {CX : CXT} {k : Nat} {C c : Addr} {m q : Str} {ps : List Str} {sp : Sp} {st : Stmt} (a : AtMC K C m q st c)
    (hb : ∀ (kV doc pm : Value) (an : Option Addr) (cdv ct : Value) (us : List Value), us.length = ps.length → bindArgs (PySem.W.fnOf m q (defArgs st) (defBody st) (defScope st) .none kV doc pm an cdv ct) ⟨us, []⟩ = pure (ps.zip us))
    (ok : ∀ {f : Addr} {oc : Value} {od : Option Addr} {kV doc pm : Value} {an : Option Addr} {ct : Value} {osl : Array (Option Value)}, K.lookup f = some ⟨oc, od, .func (PySem.W.fnOf m q (defArgs st) (defBody st) (defScope st) .none kV doc pm an (.ref c) ct), osl⟩ → PySem.W.codeIn K (.ref c) q = true → FnOk P w K mg base CX k f (PySem.W.fnOf m q (defArgs st) (defBody st) (defScope st) .none kV doc pm an (.ref c) ct) ps sp) : MDef P w K mg base CX k C m ps sp := by
  obtain ⟨f, oc, od, kV, doc, pm, an, ct, osl, hm, lk, hcd⟩ := a
  have F : Fun K m q st f _ := ⟨⟨oc, od, kV, doc, pm, an, .ref c, ct, osl, rfl, lk, hcd⟩, hm.kp⟩
  exact ⟨f, _, hm, F.binds hb, ok lk hcd⟩
end
section
variable {K : PySem.W.Frag} {h : Heap} {mg : Str → Option Value}
/-- an error of the class at S is what its own clause names -/
theorem exm_own {S : Addr} (h1 : PySem.W.subIn K (.ref S) (.type "BaseException") = some true) (h2 : PySem.W.isClsIn K S = true) (h3 : PySem.W.typeIn K (.ref S) = some (.type "type")) (h4 : PySem.W.subIn K (.ref S) (.ref S) = some true) :
    PySem.W.exmOne K (.ref S) (.ref S) = some true := by
  unfold PySem.W.exmOne
  unfold PySem.W.kitCls
  unfold PySem.W.isClsIn at h2
  simp only [h1, h2, h3, h4]
  simp
theorem tide_mk {prog : Program} {x fl qual tx : Str} {C fI cda cc : Addr} {nm q : Str} {N : Addr} {bs BM : List Value} {sn : List Str} {sub : List Value} {ab : Bool} {col : Option Bool} {dd : Option Addr} {m0 m1 m2 m3 m5 : Option Value}
    {oc doc pm ct ccl cl : Value} {od an cdd cld : Option Addr} {osl ccs csl : Array (Option Value)} {j : Nat} {p1 p2 q1 q2 q3 q4 q5 q6 q7 q8 q9 q10 : Pos} {vs : Array Value} {file : Str} {tf : Tok} (X : K.In h) (G : h.Ns mainGlobals mg) (ok : PySem.Tide.FlOk fl)
    (ci : PySem.Tide.CallIs tx j q1 q2 q3 q4 q5) (htop : (prog.main.scope.names.lookup ("super" : Str)).isSome = false)
    (aC : PySem.W.nsIn K mainGlobals x = some (some (.ref C))) (xL : K.lookup C = some (PySem.excClassObj nm q C N bs BM true sn sub ab col dd m0 m1 m2 m3 m5 "ValueError.__new__")) (bm : PySem.HandSPX.refsVE BM = true)
    (sa : PySem.W.findIn K (.ref C) "__setattr__" = some (some (.builtin "object.__setattr__"))) (ga : PySem.W.findIn K (.ref C) "__getattribute__" = some (some (.builtin "BaseException.__getattribute__"))) (gg : PySem.W.findIn K (.ref C) "__getattr__" = some none) (nb : PySem.W.findIn K (.ref C) fl = some none)
    (a1 : PySem.W.findIn K (.ref C) "__init__" = some (some (.ref fI))) (t1 : PySem.W.typeIn K (.ref fI) = some (.type "function"))
    (l1 : K.lookup fI = some ⟨oc, od, .func (PySem.W.ksFn "__init__" qual (PySem.Tide.iA fl p1 p2) (PySem.Tide.iB fl tx j q1 q2 q3 q4 q5 q6 q7 q8 q9 q10) (PySem.Tide.iS fl) .none .none doc pm an (.ref cda) ct cc), osl⟩) (c1 : PySem.W.codeIn K (.ref cda) qual = true)
    (n1 : K.lookup cda = some ⟨ccl, cdd, .fields vs, ccs⟩) (n2 : vs[2]? = some (.str file tf)) (n3 : ((prog.main.file : Str) == file) = true) (n4 : K.lookup cc = some ⟨cl, cld, .cell (some (.ref C)), csl⟩)
    (kC : PySem.W.keepIn K (.ref C) = true) (eC : PySem.W.subIn K (.ref C) (.type "BaseException") = some true) (tC : PySem.W.typeIn K (.ref C) = some (.type "type")) (hC : PySem.W.hasDictIn K C = true) (iC : PySem.W.isClsIn K C = true) (sC : PySem.W.subIn K (.ref C) (.ref C) = some true)
    (su : PySem.W.ks_superIn K C C "__init__" = some (some (.builtin "ValueError.__init__"))) (vC : PySem.W.subIn K (.ref C) (.type "ValueError") = some true) (mC : PySem.W.mroIn K C (.ref C) = some true) (tpa : PySem.W.nsIn K PySem.cStatics "thirdparty.any" = some none)
    (ns : PySem.W.nsIn K mainGlobals "super" = some none) : PySem.Tide.TideTxt prog K mg x C fI fl :=
  { gC := PySem.W.mg_of X G aC, ok := ok, cls := ⟨nm, q, N, bs, BM, sn, sub, ab, col, dd, m0, m1, m2, m3, m5, xL, bm⟩, sa := sa, ga := ga, gg := gg, noN := nb, iC := a1, tC := t1, kC := kC, exC := eC, tyC := tC, hdC := hC, te := exm_own eC iC tC sC, sup := su, isV := vC, self_ := mC, tpa := tpa,
    nsu := PySem.W.mg_none_of X G ns, htop := htop,
    fn := ⟨oc, od, doc, pm, ct, an, osl, qual, tx, j, p1, p2, q1, q2, q3, q4, q5, q6, q7, q8, q9, q10, cda, cc, l1, c1, ci, ⟨ccl, cdd, vs, ccs, file, tf, n1, n2, n3⟩, ⟨cl, cld, csl, n4⟩⟩ }
end
theorem all_mk {CV fV : Addr} {l : PySem.W.OpenLaw} {w : World} {K : PySem.W.Frag} {h : Heap} {mg : Str → Option Value} {fa f C fI cA cT cS PA PT PS : Addr} {oc kV dc pm cdv ct oI kI dI pI cI tI : Value} {od an oD aI : Option Addr} {sl sI : Array (Option Value)} (X : K.In h) (G : h.Ns mainGlobals mg) (hfa : mg "law" = some (.ref fa))
    (TV : PySem.Tide.TideTxt l.prog K mg "BadValue" CV fV "why") (T : Bk mg) (Co : Cs mg) (t : ClT K mg C) (iC : C8.InsC K C) (mk : L2.Mk K C fI)
    (lI : K.lookup fI = some ⟨oI, oD, .func (PySem.W.fnOf "__init__" "Folder.__init__" (defArgs sInit) (defBody sInit) (defScope sInit) .none kI dI pI aI cI tI), sI⟩) (gI : PySem.W.codeIn K cI "Folder.__init__" = true) (hI : PySem.W.keepIn K (.ref fI) = true)
    (a0 : At K mg "is_integer" sIsInt) (a1 : At K mg "is_number" sIsNum) (a2 : At K mg "is_body" sIsBody) (a3 : At K mg "is_sign" sIsSign) (a4 : At K mg "is_signs" sIsSigns) (a5 : At K mg "is_numbers" sIsNums)
    (a6 : At K mg "_check_numbers" sCkNums) (a7 : At K mg "_with_sign" sWith) (a8 : At K mg "_without_sign" sWout) (a9 : At K mg "played" sPlayed) (a10 : At K mg "is_deed" sIsDeed) (a11 : At K mg "can_be_done" sCan) (a12 : At K mg "done" sDone)
    (a13 : At K mg "_law_cell_at" sCell) (a14 : At K mg "_law_well" sWell) (a15 : At K mg "_law_draw" sDraw) (a16 : At K mg "_law_one" sOne) (a17 : At K mg "_law_signs" sSigns) (a18 : At K mg "_law_deed" sDeed) (a19 : At K mg "_law_folder" sFold) (a20 : At K mg "_law_sight" sSee) (a21 : At K mg "_law_fits" sFits) (a22 : At K mg "is_mark" sIsMark) (a23 : At K mg "between" sBetween) (a24 : At K mg "most_at_once" sMost) (a25 : At K mg "fewest_at_once" sFew) (a26 : At K mg "surely" sSurely) (a27 : At K mg "_between" sBtw) (a28 : At K mg "_word" sWord) (a29 : At K mg "_check_sights" sCheck) (a30 : At K mg "_is_sight" sSight)
    (m0 : AtM K C "letters" "Folder.letters" sLetters) (m1 : AtM K C "next_number" "Folder.next_number" sNext) (m2 : AtM K C "mark" "Folder.mark" sMark) (m3 : AtM K C "age" "Folder.age" sAge) (m4 : AtM K C "appended" "Folder.appended" sApp) (m5 : AtM K C "removed" "Folder.removed" sRem) (m6 : AtM K C "_copied" "Folder._copied" sCopied) (m7 : AtM K C "_signed" "Folder._signed" sSig) (m8 : AtM K C "trimmed" "Folder.trimmed" sTrim)
    (aA : AtMC K C "added" "Folder.added" sAdd cA) (aT : AtMC K C "taken" "Folder.taken" sTake cT) (aS : AtMC K C "set_to" "Folder.set_to" sSet cS)
    (aL : PySem.W.nsIn K mainGlobals "law" = some (some (.ref f))) (lL : K.lookup f = some ⟨oc, od, .func (PySem.W.fnOf "law" "law" (defArgs sLaw) (defBody sLaw) (defScope sLaw) .none kV dc pm an cdv ct), sl⟩) (cL' : PySem.W.codeIn K cdv "law" = true) (kL : PySem.W.keepIn K (.ref f) = true)
    (hP : ∀ p ∈ [(cA, PA), (cT, PT), (cS, PS)], h.get? p.2 = some { cls := .none, data := .fields #[] }) (nP : ∀ p ∈ [(cA, PA), (cT, PT), (cS, PS)], K.lookup p.2 = none) (hC : ∀ p ∈ [(cA, PA), (cT, PT), (cS, PS)], PySem.W.CodeHd h p.1 p.2) (ap : Ap PA PT PS) :
    LamX.LawAtS l w K CX0 12 63 "_law_script" mg fa h := by
  have e := hfa.symm.trans (PySem.W.mg_of X G aL)
  cases e
  refine ⟨PySem.W.fnOf "law" "law" (defArgs sLaw) (defBody sLaw) (defScope sLaw) .none kV dc pm an cdv ct, [(cA, PA), (cT, PT), (cS, PS)], spLaw K PA PT PS, hP, nP, hC, fun s u => .of_eq rfl,
    fun H a ns hl _ hH hS => ⟨a, ns, rfl, hS, hl, fun p hp => ?_, fun _ => rfl⟩, fun base hb _ hTB => ?_⟩
  · simp only [T3, List.mem_cons, List.not_mem_nil, or_false] at hp
    rcases hp with rfl | rfl | rfl
    · exact LamX.TabS.nil (hH (cA, PA) (by simp))
    · exact LamX.TabS.nil (hH (cT, PT) (by simp))
    · exact LamX.TabS.nil (hH (cS, PS) (by simp))
  have TA := hTB (cA, PA) (by simp)
  have TT := hTB (cT, PT) (by simp)
  have TS := hTB (cS, PS) (by simp)
  have dInt : Def l.prog w K mg base CX0 1 "is_integer" pV spInt := a0.def (fun _ _ _ _ _ _ us hl => match us, hl with | [_], _ => rfl) fun f fd F => ok_isInt T F
  have dNum : Def l.prog w K mg base CX0 2 "is_number" pV spNum := a1.def (fun _ _ _ _ _ _ us hl => match us, hl with | [_], _ => rfl) fun f fd F => ok_isNum dInt F
  have dBody : Def l.prog w K mg base CX0 2 "is_body" pV spBody := a2.def (fun _ _ _ _ _ _ us hl => match us, hl with | [_], _ => rfl) fun f fd F => ok_isBody dInt F
  have dSign : Def l.prog w K mg base CX0 1 "is_sign" pV spSign := a3.def (fun _ _ _ _ _ _ us hl => match us, hl with | [_], _ => rfl) fun f fd F => ok_isSign T Co F
  have dSigns : Def l.prog w K mg base CX0 2 "is_signs" pV spSigns := a4.def (fun _ _ _ _ _ _ us hl => match us, hl with | [_], _ => rfl) fun f fd F => ok_isSigns T Co dSign F
  have dNums : Def l.prog w K mg base CX0 3 "is_numbers" pV spNums := a5.def (fun _ _ _ _ _ _ us hl => match us, hl with | [_], _ => rfl) fun f fd F => ok_isNums T dNum F
  have dCk : Def l.prog w K mg base CX0 4 "_check_numbers" nCkNums spCkNums := a6.def (fun _ _ _ _ _ _ us hl => match us, hl with | [_], _ => rfl) fun f fd F => ok_ckNums dNums F
  have dWith : Def l.prog w K mg base CX0 1 "_with_sign" nWith spWith := a7.def (fun _ _ _ _ _ _ us hl => match us, hl with | [_, _], _ => rfl) fun f fd F => ok_with T Co F
  have dWout : Def l.prog w K mg base CX0 1 "_without_sign" nWith spWout := a8.def (fun _ _ _ _ _ _ us hl => match us, hl with | [_, _], _ => rfl) fun f fd F => ok_wout T F
  have dNew : MkD l.prog w K mg base C := by
    have F : Fun K "__init__" "Folder.__init__" sInit fI _ := fun_mk lI gI hI
    exact ⟨fI, _, mk, F.binds (fun _ _ _ _ _ _ us hl => match us, hl with | [_, _], _ => rfl), ok_init t dNum F⟩
  have mLet : MDef l.prog w K mg base CX0 1 C "letters" nSelf (spLetters C) := m0.mdef (fun _ _ _ _ _ _ us hl => match us, hl with | [_], _ => rfl) fun f fd F => ok_letters T t F
  have mNext : MDef l.prog w K mg base CX0 1 C "next_number" nSelf (spNext C) := m1.mdef (fun _ _ _ _ _ _ us hl => match us, hl with | [_], _ => rfl) fun f fd F => ok_next t F
  have mMark : MDef l.prog w K mg base CX0 1 C "mark" nSelf (spMark C) := m2.mdef (fun _ _ _ _ _ _ us hl => match us, hl with | [_], _ => rfl) fun f fd F => ok_mark t F
  have mAge : MDef l.prog w K mg base CX0 1 C "age" nSelf (spAge C) := m3.mdef (fun _ _ _ _ _ _ us hl => match us, hl with | [_], _ => rfl) fun f fd F => ok_age t F
  have mCop : MDef l.prog w K mg base CX0 5 C "_copied" nSelf (spCopied C) := m6.mdef (fun _ _ _ _ _ _ us hl => match us, hl with | [_], _ => rfl) fun f fd F => ok_copied t dNew F
  have mApp : MDef l.prog w K mg base CX0 6 C "appended" pApp (spApp C) := m4.mdef (fun _ _ _ _ _ _ us hl => match us, hl with | [_, _, _], _ => rfl) fun f fd F => ok_app t dBody dSigns mCop F
  have mRem : MDef l.prog w K mg base CX0 6 C "removed" pRem (spRem C) := m5.mdef (fun _ _ _ _ _ _ us hl => match us, hl with | [_, _], _ => rfl) fun f fd F => ok_rem T t dCk mCop F
  have DS : SgD K C := ⟨m7⟩
  have mAdd : MDef l.prog w K mg base CX0 8 C "added" nAdd (spSgn C PA PT PS (fun z ss => wG ss z)) := aA.mdef (fun _ _ _ _ _ _ us hl => match us, hl with | [_, _, _], _ => rfl) fun lk hcd => ok_add T t ap DS TA dCk dSign dWith mCop lk hcd
  have mTake : MDef l.prog w K mg base CX0 8 C "taken" nAdd (spSgn C PA PT PS (fun z ss => nS ss z)) := aT.mdef (fun _ _ _ _ _ _ us hl => match us, hl with | [_, _, _], _ => rfl) fun lk hcd => ok_take T t ap DS TT dCk dSign dWout mCop lk hcd
  have mSet : MDef l.prog w K mg base CX0 8 C "set_to" nSet (spSet C PA PT PS) := aS.mdef (fun _ _ _ _ _ _ us hl => match us, hl with | [_, _, _], _ => rfl) fun lk hcd => ok_set T t ap DS TS dCk dSigns mCop lk hcd
  have dMark : Def l.prog w K mg base CX0 2 "is_mark" pV spBody := a22.def (fun _ _ _ _ _ _ us hl => match us, hl with | [_], _ => rfl) fun f fd F => ok_isMark dInt F
  have mTrim : MDef l.prog w K mg base CX0 6 C "trimmed" pTrim (spTrim C) := m8.mdef (fun _ _ _ _ _ _ us hl => match us, hl with | [_, _], _ => rfl) fun f fd F => ok_trim T t dMark mCop F
  have dIs : Def l.prog w K mg base CX0 4 "is_deed" pV spIsDeed := a10.def (fun _ _ _ _ _ _ us hl => match us, hl with | [_], _ => rfl) fun f fd F => ok_isDeed T dBody dSign dSigns dNums dMark F
  have dCan : Def l.prog w K mg base CX0 5 "can_be_done" nCan (spCan C) := a11.def (fun _ _ _ _ _ _ us hl => match us, hl with | [_, _], _ => rfl) fun f fd F => ok_can t mMark dIs F
  have dDone : Def l.prog w K mg base CX0 9 "done" pDone (spDone C PA PT PS) := a12.def (fun _ _ _ _ _ _ us hl => match us, hl with | [_, _], _ => rfl) fun f fd F => ok_done t mApp mAdd mTake mSet mRem mTrim F
  have dPlay : Def l.prog w K mg base CX0 10 "played" pPlayed (spPlayed C PA PT PS) := a9.def (fun _ _ _ _ _ _ us hl => match us, hl with | [_, _], _ => rfl) fun f fd F => ok_played T t iC dCan dDone F
  have dCell : Def l.prog w K mg base CX0 1 "_law_cell_at" nCell (spCell K) := a13.def (fun _ _ _ _ _ _ us hl => match us, hl with | [_, _], _ => rfl) fun f fd F => ok_cell T.toBj F
  have dWell : Def l.prog w K mg base CX0 1 "_law_well" nWell spWell := a14.def (fun _ _ _ _ _ _ us hl => match us, hl with | [_], _ => rfl) fun f fd F => ok_well T.toBj F
  have dDraw : Def l.prog w K mg base CX0 1 "_law_draw" pDraw spDraw := a15.def (fun _ _ _ _ _ _ us hl => match us, hl with | [_, _], _ => rfl) fun f fd F => ok_draw T.toBj F
  have dOne : Def l.prog w K mg base CX0 2 "_law_one" nOne spOne := a16.def (fun _ _ _ _ _ _ us hl => match us, hl with | [_, _], _ => rfl) fun f fd F => ok_one T.toBj dDraw F
  have dLs : Def l.prog w K mg base CX0 3 "_law_signs" nSigns spLsigns := a17.def (fun _ _ _ _ _ _ us hl => match us, hl with | [_], _ => rfl) fun f fd F => ok_lsigns T dOne F
  have dDeed : Def l.prog w K mg base CX0 4 "_law_deed" pDeed (spDeed C) := a18.def (fun _ _ _ _ _ _ us hl => match us, hl with | [_, _], _ => rfl) fun f fd F => ok_deed T t dDraw dOne dLs mNext F
  have dFold : Def l.prog w K mg base CX0 11 "_law_folder" pFold (spFold C PA PT PS) := a19.def (fun _ _ _ _ _ _ us hl => match us, hl with | [_, _], _ => rfl) fun f fd F => ok_fold T t dNew dDraw dDeed dPlay F
  have dSee : Def l.prog w K mg base CX0 2 "_law_sight" nSee (spSee C) := a20.def (fun _ _ _ _ _ _ us hl => match us, hl with | [_], _ => rfl) fun f fd F => ok_see T t mAge mLet mNext mMark F
  have dFits : Def l.prog w K mg base CX0 1 "_law_fits" nFits spFits := a21.def (fun _ _ _ _ _ _ us hl => match us, hl with | [_, _, _], _ => rfl) fun f fd F => ok_fits F
  have eInt := def_isInt (P := l.prog) (w := w) (base := base) T.toBj a0
  have eNum := def_isNum T.toBj eInt a1
  have eMark := def_isMark T.toBj eInt a22
  have eSight := def_sight T.toBj eInt eNum eMark a30
  have eCheck := def_check TV eSight a29
  have eBtw := def_btw (P := l.prog) (w := w) (base := base) T.toBj a27
  have eWord := def_word (P := l.prog) (w := w) (base := base) a28
  have eBetween := def_between (CL := CV) eCheck eBtw a23
  have eMost := def_most (CL := CV) eCheck eBtw a24
  have eFew := def_few (CL := CV) T.toBj eCheck eBtw a25
  have eSurely := def_surely (CL := CV) T.toBj eCheck eBtw eWord a26
  exact ok_law T t mLet dCell dWell dDraw dDeed dPlay dFold dSee dFits eBetween eMost eFew eSurely (fun_mk lL cL' kL)
theorem walk_tops {l : PySem.W.OpenLaw} {n k : Nat} {q : Program} {loose : List Str} {XP : (Str → Option Value) → Heap → Prop} {YP : World → Heap → Prop} {d : DefRec} {K : Params → PySem.W.Frag} {x : Str}
    (hn : l.most = some n) (hn2 : n ≤ sizeLine) (hdf : d.params.defaults = []) (hr : Room k callerA) (hY : ∀ (w : World) (h : Heap), YP w h → (K w.params).In h)
    (F : ∀ (w : World) (s : Shared) (mg mb : Str → Option Value) (fa : Addr) (h : Heap), (K w.params).In h → YP w h → PyProof.Rows.Top q (PySem.W.looseW q loose) (ExcName.means s.heap) mg mb h → mg d.name = some (.ref fa) → LamX.LawAtS l w (K w.params) CX0 k n x mg fa h) :
    PySem.W.WalkO q loose XP YP l.row.toRowW d [] (fun f vs => PySem.call f vs) := by
  refine Att.attach_callB hn hdf fun w s0 s1 mg mb fa o pm cd doc a vs ns G Y ho hd hcd hmg hobj hints hlen hbits hg => ?_
  have KX := hY w _ Y
  obtain ⟨fd, cs, sp, hT, nT, C, hb, hsp, hF⟩ := F w s0 mg mb fa _ KX Y G.T hmg
  exact LamX.law_callTs KX G.T.g G.T.b G.T.builtins G.T.nolimit hg hT nT C G.T.bmain hobj hints (Nat.le_trans hlen hn2) hr hF hb (fun H hH hS => hsp H a ns hlen hbits hH hS) fun _ _ _ z => z
end K1


open PySem PySem.W PyProof.Rows
set_option Elab.async false
set_option linter.all false
set_option maxRecDepth 100000 in
set_option maxHeartbeats 0 in
theorem PySem.Challenge.cw_mailtide_k59_whole_sights_of_real_folder_holds : PySem.Challenge.rw_mailtide_k59_whole_sights_of_real_folder.Holds := by
  w_on; o_law; k_head; (case hw => w_witness2)
  k_fill
  refine K1.walk_tops (l := PySem.Challenge.rw_mailtide_k59_whole_sights_of_real_folder) (n := 63) (k := 12) (x := "_law_script") rfl (by decide) rfl ⟨rfl, by decide, by decide⟩ (fun w h Y => PySem.W.km_in_of Y) ?F
  intro w s mg mb fa h KX Y G hmg
  have hTab := PySem.W.km_tabs_of Y
  refine' K1.all_mk (C := 353) (cA := 309) (cT := 316) (cS := 323) (PA := 305) (PT := 312) (PS := 319) KX G.g hmg ?TV ?T ?Co ?t ?iC ?mk ?lI ?gI ?hI ?a0 ?a1 ?a2 ?a3 ?a4 ?a5 ?a6 ?a7 ?a8 ?a9 ?a10 ?a11 ?a12 ?a13 ?a14 ?a15 ?a16 ?a17 ?a18 ?a19 ?a20 ?a21 ?a22 ?a23 ?a24 ?a25 ?a26 ?a27 ?a28 ?a29 ?a30 ?m0 ?m1 ?m2 ?m3 ?m4 ?m5 ?m6 ?m7 ?m8 ?aA ?aT ?aS ?aL ?lL ?cL ?kL (List.forall_mem_cons.mpr ⟨hTab _ (by simp), List.forall_mem_cons.mpr ⟨hTab _ (by simp), List.forall_mem_cons.mpr ⟨hTab _ (by simp), fun _ z => nomatch z⟩⟩⟩) (List.forall_mem_cons.mpr ⟨?nA, List.forall_mem_cons.mpr ⟨?nF, List.forall_mem_cons.mpr ⟨?nL, fun _ z => nomatch z⟩⟩⟩) (List.forall_mem_cons.mpr ⟨PySem.W.codeHd_of_K KX ?hA, List.forall_mem_cons.mpr ⟨PySem.W.codeHd_of_K KX ?hF, List.forall_mem_cons.mpr ⟨PySem.W.codeHd_of_K KX ?hL, fun _ z => nomatch z⟩⟩⟩) ⟨by decide, by decide, by decide⟩
  case TV =>
    refine' K1.tide_mk (tx := "a wrong value") (j := 0) (p1 := ⟨26, 17, 26, 21⟩) (p2 := ⟨26, 23, 26, 26⟩) (q1 := ⟨27, 8, 27, 13⟩) (q2 := ⟨27, 8, 27, 15⟩) (q3 := ⟨27, 8, 27, 24⟩) (q4 := ⟨27, 25, 27, 40⟩) (q5 := ⟨27, 8, 27, 41⟩) (q6 := ⟨27, 8, 27, 41⟩) (q7 := ⟨28, 8, 28, 12⟩) (q8 := ⟨28, 8, 28, 16⟩) (q9 := ⟨28, 19, 28, 22⟩) (q10 := ⟨28, 8, 28, 22⟩) KX G.g PySem.Tide.ok_why ⟨_, fun env => by rfl⟩ (by decide +kernel) ?vaC ?vxL ?vbm ?vsa ?vga ?vgg ?vnb ?va1 ?vt1 ?vl1 ?vc1 ?vn1 ?vn2 ?vn3 ?vn4 ?vkC ?veC ?vtC ?vhC ?viC ?vsC ?vsu ?vvC ?vmC ?vtpa ?vns
    (case vaC => k_is)
    (case vxL => k_is)
    (case vbm => decide +kernel)
    (case vsa => k_is)
    (case vga => k_is)
    (case vgg => k_is)
    (case vnb => k_is)
    (case va1 => k_is)
    (case vt1 => k_is)
    (case vl1 => k_is)
    (case vc1 => k_is)
    (case vn1 => k_is)
    (case vn2 => rfl)
    (case vn3 => decide +kernel)
    (case vn4 => k_is)
    (case vkC => k_is)
    (case veC => k_is)
    (case vtC => k_is)
    (case vhC => k_is)
    (case viC => k_is)
    (case vsC => k_is)
    (case vsu => ks_is)
    (case vvC => k_is)
    (case vmC => k_is)
    (case vtpa => k_is)
    (case vns => k_is)
  case T =>
    refine' ⟨⟨⟨PySem.W.mg_none_of KX G.g ?z0, PySem.W.mg_none_of KX G.g ?z1, PySem.W.mg_none_of KX G.g ?z2, PySem.W.mg_none_of KX G.g ?z3, PySem.W.mg_none_of KX G.g ?z4, PySem.W.mg_none_of KX G.g ?z5, PySem.W.mg_none_of KX G.g ?z6, PySem.W.mg_none_of KX G.g ?z7, PySem.W.mg_none_of KX G.g ?z8, PySem.W.mg_none_of KX G.g ?z9, PySem.W.mg_none_of KX G.g ?z10, PySem.W.mg_none_of KX G.g ?z11⟩, PySem.W.mg_none_of KX G.g ?z12, PySem.W.mg_none_of KX G.g ?z13⟩, PySem.W.mg_none_of KX G.g ?z14, PySem.W.mg_none_of KX G.g ?z15⟩
    (case z0 => k_is); (case z1 => k_is); (case z2 => k_is); (case z3 => k_is); (case z4 => k_is); (case z5 => k_is); (case z6 => k_is); (case z7 => k_is); (case z8 => k_is); (case z9 => k_is); (case z10 => k_is); (case z11 => k_is); (case z12 => k_is); (case z13 => k_is); (case z14 => k_is); (case z15 => k_is)
  case Co =>
    refine' ⟨K1.cs_mk KX G.g ?v0 ?w0, K1.cs_mk KX G.g ?v1 ?w1⟩
    (case v0 => k_is); (case w0 => rfl); (case v1 => k_is); (case w1 => rfl)
  case t =>
    refine' ⟨⟨?c0, ?c1, ?c2, ?c3⟩, PySem.W.mg_of KX G.g ?c4, ?n0, ?n1, ?n2, ?n3, ?n4, ?n5⟩
    (case c0 => k_is); (case c1 => k_is); (case c2 => k_is); (case c3 => k_is); (case c4 => k_is)
    (case n0 => show PySem.W.findIn _ _ _ = some none; k_is); (case n1 => show PySem.W.findIn _ _ _ = some none; k_is); (case n2 => show PySem.W.findIn _ _ _ = some none; k_is); (case n3 => show PySem.W.findIn _ _ _ = some none; k_is); (case n4 => show PySem.W.findIn _ _ _ = some none; k_is); (case n5 => show PySem.W.findIn _ _ _ = some none; k_is)
  case iC =>
    refine' ⟨⟨?c0, ?c1, ?c2, ?c3⟩, ?d0, ?d1, ?d2, ?d3, ?d4⟩
    (case c0 => k_is); (case c1 => k_is); (case c2 => k_is); (case c3 => k_is)
    (case d0 => k_is); (case d1 => k_is); (case d2 => k_is); (case d3 => k_is); (case d4 => first | k_is | rfl | kernel_rfl)
  case mk =>
    refine' ⟨?e0, ?e1, ?e2, ?e3⟩
    (case e0 => k_is); (case e1 => k_is); (case e2 => k_is); (case e3 => k_is)
  (case lI => k_is); (case gI => k_is); (case hI => k_is)
  case a0 =>
    refine' K1.at_mk KX G.g ?b ?l ?c ?k
    (case b => k_is); (case l => k_is); (case c => k_is); (case k => k_is)
  case a1 =>
    refine' K1.at_mk KX G.g ?b ?l ?c ?k
    (case b => k_is); (case l => k_is); (case c => k_is); (case k => k_is)
  case a2 =>
    refine' K1.at_mk KX G.g ?b ?l ?c ?k
    (case b => k_is); (case l => k_is); (case c => k_is); (case k => k_is)
  case a3 =>
    refine' K1.at_mk KX G.g ?b ?l ?c ?k
    (case b => k_is); (case l => k_is); (case c => k_is); (case k => k_is)
  case a4 =>
    refine' K1.at_mk KX G.g ?b ?l ?c ?k
    (case b => k_is); (case l => k_is); (case c => k_is); (case k => k_is)
  case a5 =>
    refine' K1.at_mk KX G.g ?b ?l ?c ?k
    (case b => k_is); (case l => k_is); (case c => k_is); (case k => k_is)
  case a6 =>
    refine' K1.at_mk KX G.g ?b ?l ?c ?k
    (case b => k_is); (case l => k_is); (case c => k_is); (case k => k_is)
  case a7 =>
    refine' K1.at_mk KX G.g ?b ?l ?c ?k
    (case b => k_is); (case l => k_is); (case c => k_is); (case k => k_is)
  case a8 =>
    refine' K1.at_mk KX G.g ?b ?l ?c ?k
    (case b => k_is); (case l => k_is); (case c => k_is); (case k => k_is)
  case a9 =>
    refine' K1.at_mk KX G.g ?b ?l ?c ?k
    (case b => k_is); (case l => k_is); (case c => k_is); (case k => k_is)
  case a10 =>
    refine' K1.at_mk KX G.g ?b ?l ?c ?k
    (case b => k_is); (case l => k_is); (case c => k_is); (case k => k_is)
  case a11 =>
    refine' K1.at_mk KX G.g ?b ?l ?c ?k
    (case b => k_is); (case l => k_is); (case c => k_is); (case k => k_is)
  case a12 =>
    refine' K1.at_mk KX G.g ?b ?l ?c ?k
    (case b => k_is); (case l => k_is); (case c => k_is); (case k => k_is)
  case a13 =>
    refine' K1.at_mk KX G.g ?b ?l ?c ?k
    (case b => k_is); (case l => k_is); (case c => k_is); (case k => k_is)
  case a14 =>
    refine' K1.at_mk KX G.g ?b ?l ?c ?k
    (case b => k_is); (case l => k_is); (case c => k_is); (case k => k_is)
  case a15 =>
    refine' K1.at_mk KX G.g ?b ?l ?c ?k
    (case b => k_is); (case l => k_is); (case c => k_is); (case k => k_is)
  case a16 =>
    refine' K1.at_mk KX G.g ?b ?l ?c ?k
    (case b => k_is); (case l => k_is); (case c => k_is); (case k => k_is)
  case a17 =>
    refine' K1.at_mk KX G.g ?b ?l ?c ?k
    (case b => k_is); (case l => k_is); (case c => k_is); (case k => k_is)
  case a18 =>
    refine' K1.at_mk KX G.g ?b ?l ?c ?k
    (case b => k_is); (case l => k_is); (case c => k_is); (case k => k_is)
  case a19 =>
    refine' K1.at_mk KX G.g ?b ?l ?c ?k
    (case b => k_is); (case l => k_is); (case c => k_is); (case k => k_is)
  case a20 =>
    refine' K1.at_mk KX G.g ?b ?l ?c ?k
    (case b => k_is); (case l => k_is); (case c => k_is); (case k => k_is)
  case a21 =>
    refine' K1.at_mk KX G.g ?b ?l ?c ?k
    (case b => k_is); (case l => k_is); (case c => k_is); (case k => k_is)
  case a22 =>
    refine' K1.at_mk KX G.g ?b ?l ?c ?k
    (case b => k_is); (case l => k_is); (case c => k_is); (case k => k_is)
  case a23 =>
    refine' K1.at_mk KX G.g ?b ?l ?c ?k
    (case b => k_is); (case l => k_is); (case c => k_is); (case k => k_is)
  case a24 =>
    refine' K1.at_mk KX G.g ?b ?l ?c ?k
    (case b => k_is); (case l => k_is); (case c => k_is); (case k => k_is)
  case a25 =>
    refine' K1.at_mk KX G.g ?b ?l ?c ?k
    (case b => k_is); (case l => k_is); (case c => k_is); (case k => k_is)
  case a26 =>
    refine' K1.at_mk KX G.g ?b ?l ?c ?k
    (case b => k_is); (case l => k_is); (case c => k_is); (case k => k_is)
  case a27 =>
    refine' K1.at_mk KX G.g ?b ?l ?c ?k
    (case b => k_is); (case l => k_is); (case c => k_is); (case k => k_is)
  case a28 =>
    refine' K1.at_mk KX G.g ?b ?l ?c ?k
    (case b => k_is); (case l => k_is); (case c => k_is); (case k => k_is)
  case a29 =>
    refine' K1.at_mk KX G.g ?b ?l ?c ?k
    (case b => k_is); (case l => k_is); (case c => k_is); (case k => k_is)
  case a30 =>
    refine' K1.at_mk KX G.g ?b ?l ?c ?k
    (case b => k_is); (case l => k_is); (case c => k_is); (case k => k_is)
  case m0 =>
    refine' K1.atM_mk ?b ?n ?l ?c ?k
    (case b => k_is); (case n => k_is); (case l => k_is); (case c => k_is); (case k => k_is)
  case m1 =>
    refine' K1.atM_mk ?b ?n ?l ?c ?k
    (case b => k_is); (case n => k_is); (case l => k_is); (case c => k_is); (case k => k_is)
  case m2 =>
    refine' K1.atM_mk ?b ?n ?l ?c ?k
    (case b => k_is); (case n => k_is); (case l => k_is); (case c => k_is); (case k => k_is)
  case m3 =>
    refine' K1.atM_mk ?b ?n ?l ?c ?k
    (case b => k_is); (case n => k_is); (case l => k_is); (case c => k_is); (case k => k_is)
  case m4 =>
    refine' K1.atM_mk ?b ?n ?l ?c ?k
    (case b => k_is); (case n => k_is); (case l => k_is); (case c => k_is); (case k => k_is)
  case m5 =>
    refine' K1.atM_mk ?b ?n ?l ?c ?k
    (case b => k_is); (case n => k_is); (case l => k_is); (case c => k_is); (case k => k_is)
  case m6 =>
    refine' K1.atM_mk ?b ?n ?l ?c ?k
    (case b => k_is); (case n => k_is); (case l => k_is); (case c => k_is); (case k => k_is)
  case m7 =>
    refine' K1.atM_mk ?b ?n ?l ?c ?k
    (case b => k_is); (case n => k_is); (case l => k_is); (case c => k_is); (case k => k_is)
  case m8 =>
    refine' K1.atM_mk ?b ?n ?l ?c ?k
    (case b => k_is); (case n => k_is); (case l => k_is); (case c => k_is); (case k => k_is)
  case aA =>
    refine' K1.atMC_mk ?b ?n ?l ?c ?k
    (case b => k_is); (case n => k_is); (case l => k_is); (case c => k_is); (case k => k_is)
  case aT =>
    refine' K1.atMC_mk ?b ?n ?l ?c ?k
    (case b => k_is); (case n => k_is); (case l => k_is); (case c => k_is); (case k => k_is)
  case aS =>
    refine' K1.atMC_mk ?b ?n ?l ?c ?k
    (case b => k_is); (case n => k_is); (case l => k_is); (case c => k_is); (case k => k_is)
  (case aL => k_is); (case lL => k_is); (case cL => k_is); (case kL => k_is)
  (case nA => first | kernel_rfl | rfl)
  (case nF => first | kernel_rfl | rfl)
  (case nL => first | kernel_rfl | rfl)
  (case hA => first | kernel_rfl | rfl)
  (case hF => first | kernel_rfl | rfl)
  (case hL => first | kernel_rfl | rfl)

