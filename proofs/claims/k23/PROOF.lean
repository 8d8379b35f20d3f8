import PyProof.Rows.All
import Wide.All
import OpenK.AllK
import Wide.FinOn
import PySem.Challenge.RW_mailtide_k23_what_lists_and_sessions_ref
import HandS.ForMost
import HandS.Exc
import HandS.TryOnly
import HandS.TryMany
import HandS.Lambda
import HandS.EndTab
import HandS.IsInst
import HandS.SortRule
import HandS.SortInts
import HandS.StrMore
import HandS.Conv
import HandS.Wide
import HandS.Flow
import HandS.Walk
import HandS.TupAny
import HandS.ListEq
import HandS.DeepEq
import KE.KExcSuper
import KE.GoesMore
import PyProof.Draws
import HandS.ForExc
import HandS.Zip
import HandS.Strs
import HandS.SetFor
import HandS.Star
import HandS.SortKw
import HandS.Deep
import KE.DataMinMax
import KE.DatumOrd
import PyProof.P3In
import PyProof.Rows.SetFrom
import KE.KLam
import HandS.OwnEq
import PyProof.NeKinds
import HandS.Style
set_option Elab.async false
set_option linter.all false
set_option maxRecDepth 100000
namespace K1
open PySem PySem.Spec PyProof.Rows L2
def topS (i : Nat) : Stmt := PySem.Challenge.pw_mailtide_k23_what_lists_and_sessions_ref.main.body.getD i (.Pass ⟨0, 0, 0, 0⟩)
abbrev st__wall : Stmt := topS 0
abbrev st_TideError : Stmt := topS 2
abbrev st_BadFolder : Stmt := topS 3
abbrev st_BadNumber : Stmt := topS 4
abbrev st_BadSigns : Stmt := topS 5
abbrev st_BadNotice : Stmt := topS 6
abbrev st_BadRow : Stmt := topS 7
abbrev st_BadValue : Stmt := topS 8
abbrev st_is_integer : Stmt := topS 12
abbrev st_is_number : Stmt := topS 13
abbrev st_is_body : Stmt := topS 14
abbrev st_is_mark : Stmt := topS 15
abbrev st_is_sign : Stmt := topS 16
abbrev st_is_signs : Stmt := topS 17
abbrev st_Folder : Stmt := topS 19
abbrev st_applied : Stmt := topS 21
abbrev st_check_entries : Stmt := topS 22
abbrev st_fits : Stmt := topS 23
abbrev st_behind : Stmt := topS 24
abbrev st_is_notice : Stmt := topS 25
abbrev st_Session : Stmt := topS 26
abbrev st_opened : Stmt := topS 27
abbrev st_behind_right : Stmt := topS 28
abbrev st_entries_of : Stmt := topS 29
abbrev st__is_so : Stmt := topS 30
abbrev st__is_entry : Stmt := topS 31
abbrev st__law_cell_at : Stmt := topS 33
abbrev st__law_well : Stmt := topS 34
abbrev st__law_draw : Stmt := topS 35
abbrev st__law_one : Stmt := topS 36
abbrev st__law_entries : Stmt := topS 37
abbrev st__law_notice : Stmt := topS 38
abbrev st__law_behind : Stmt := topS 39
abbrev st__law_odd_notices : Stmt := topS 40
abbrev st__law_told : Stmt := topS 41
abbrev st__law_refused : Stmt := topS 42
abbrev st__law_sessions_right : Stmt := topS 43
abbrev st__law_long_right : Stmt := topS 44
abbrev st_law : Stmt := topS 45
end K1


set_option Elab.async false
set_option linter.all false
set_option maxRecDepth 100000
set_option maxHeartbeats 4000000
namespace K1
open PySem PySem.Spec PyProof.Rows L2
/-! ### a def by its name -/
structure Def (P : Program) (w : World) (K : PySem.W.Frag) (mg : Str → Option Value) (base : Heap) (CX : CXT) (k : Nat) (x : Str) (ps : List Str) (sp : Sp) : Prop where
  ex : ∃ (f : Addr) (fd : FuncData), mg x = some (.ref f) ∧ PySem.W.keepIn K (.ref f) = true ∧ Binds K fd ps [] ∧ FnOk P w K mg base CX k f fd ps sp
section
variable {X : Cx} {CX : CXT} {k : Nat} {ps : List Str} {sp : Sp} {E : XK} {x : Str} {p pos : Pos} {e : Expr} {es : List Expr} {t : TA}
theorem pe_def (D : Def X.prog X.w X.K X.mg X.base CX k x ps sp) (hr : Room k X.A) (hg : Gl X x) (hx : Passes CX X E)
    (ha : PA X (e :: es) t) (hdb : (x == ("__debug__" : Str)) = false := by decide) (he : starEach (e :: es) X.env = (false, eval e X.env) :: starEach es X.env := by rfl) (hpl : (backTo pos (starEach es X.env)).any (·.1) = false := by rfl) :
    PE X (.Call (.Name x p) (e :: es) [] pos) (tCall sp [] E t) := by
  obtain ⟨f, fd, hm, hk, hb, F⟩ := D.ex
  exact pe_call F hr hg hm hk hb .nil hx ha hdb he hpl
theorem pe_def0 (D : Def X.prog X.w X.K X.mg X.base CX k x ps sp) (hr : Room k X.A) (hg : Gl X x) (hx : Passes CX X E)
    (hdb : (x == ("__debug__" : Str)) = false := by decide) : PE X (.Call (.Name x p) [] [] pos) (tCall sp [] E tNil) := by
  obtain ⟨f, fd, hm, hk, hb, F⟩ := D.ex
  exact pe_call0 F hr hg hm hk hb .nil hx hdb
end
/-! ### heaps: all that is tracked but p stays -/
def Ext (p : Addr) (H H' : Hp) : Prop := ∀ b o, b ≠ p → H b = some o → H' b = some o
theorem Ext.refl {p : Addr} (H : Hp) : Ext p H H := fun _ _ _ h => h
theorem Ext.trans {p : Addr} {H H1 H2 : Hp} (a : Ext p H H1) (b : Ext p H1 H2) : Ext p H H2 := fun c o n h => b c o n (a c o n h)
theorem Ext.self {p : Addr} {H H' : Hp} {o : HO} (a : Ext p H H') : Ext p H (upd H' p o) := fun c u n h => by rw [upd_ne n]; exact a c u n h
theorem Ext.new {p q : Addr} {H H' : Hp} {o : HO} (a : Ext p H H') (h : H' q = none) : Ext p H (upd H' q o) := fun c u n e => by
  have e' := a c u n e
  rw [upd_ne (ne_of_none e' h)]; exact e'
theorem Ext.mut {p q : Addr} {H H' : Hp} {o : HO} (a : Ext p H H') (h : H q = none) : Ext p H (upd H' q o) := fun c u n e => by
  rw [upd_ne (ne_of_none e h)]; exact a c u n e
theorem Ext.free {p q : Addr} {H H' : Hp} (a : Ext p H H') (h : H' q = none) (n : q ≠ p) : H q = none := by
  cases e : H q with
  | none => rfl
  | some o => rw [a q o n e] at h; cases h
theorem same_ext {p : Addr} {H H' : Hp} (a : Same H H') : Ext p H H' := fun b o _ h => a b o h
theorem same_new {q : Addr} {H : Hp} {o : HO} (h : H q = none) : Same H (upd H q o) := fun c u e => by
  rw [upd_ne (ne_of_none e h)]; exact e
theorem _root_.L2.Same.new {q : Addr} {H H' : Hp} {o : HO} (a : Same H H') (h : H' q = none) : Same H (upd H' q o) := a.trans (same_new h)
theorem _root_.L2.Same.mut {q : Addr} {H H' : Hp} {o : HO} (a : Same H H') (h : H q = none) : Same H (upd H' q o) := fun c u e => by
  rw [upd_ne (ne_of_none e h)]; exact a c u e
theorem lt1 (n : Nat) (h : n ≤ 100000) : n ≤ sizeLine := Nat.le_trans h (by decide)
theorem lt2 (n : Nat) (h : n ≤ 100000) : n < sizeLine := Nat.lt_of_le_of_lt h (by decide)
/-- a well: three ints -/
def WellAt (H : Hp) (p : Addr) : Prop := ∃ c m t : Int, H p = some (.lst [.int c, .int m, .int t])
theorem WellAt.new {H : Hp} {p q : Addr} {o : HO} (w : WellAt H p) (h : H q = none) : WellAt (upd H q o) p := by
  obtain ⟨c, m, t, e⟩ := w
  exact ⟨c, m, t, by rw [upd_ne (ne_of_none e h)]; exact e⟩
theorem WellAt.ne {H : Hp} {p q : Addr} (w : WellAt H p) (h : H q = none) : q ≠ p := by
  obtain ⟨c, m, t, e⟩ := w
  exact (ne_of_none e h).symm
theorem WellAt.upd {H : Hp} {p q : Addr} {o : HO} (w : WellAt H p) (h : q ≠ p) : WellAt (upd H q o) p := by
  obtain ⟨c, m, t, e⟩ := w
  exact ⟨c, m, t, by rw [upd_ne h.symm]; exact e⟩
theorem sq {K : PySem.W.Frag} {H : Hp} {a : Addr} {xs : List V} (h : H a = some (.lst xs)) : SqL K H a xs := .inl (.inl h)
theorem st {K : PySem.W.Frag} {H : Hp} {a : Addr} {xs : List V} (h : H a = some (.tup xs)) : SqT K H a xs := .inl (.inl h)
/-- names that the top leaves to the built-ins -/
structure Bi (mg : Str → Option Value) : Prop where
  int : mg "int" = none
  len : mg "len" = none
  str : mg "str" = none
  range : mg "range" = none
  max : mg "max" = none
  min : mg "min" = none
  sorted : mg "sorted" = none
  tuple : mg "tuple" = none
  list : mg "list" = none
  enumerate : mg "enumerate" = none
  isinstance : mg "isinstance" = none
  bool : mg "bool" = none
end K1
namespace K1
open PySem PySem.Spec PyProof.Rows L2
/-- a def of the text stands at its name -/
def At (K : PySem.W.Frag) (mg : Str → Option Value) (x : Str) (st : Stmt) : Prop := ∃ (f : Addr) (fd : FuncData), mg x = some (.ref f) ∧ Fun K x x st f fd
theorem At.def {P : Program} {w : World} {K : PySem.W.Frag} {mg : Str → Option Value} {base : Heap} {CX : CXT} {k : Nat} {x : Str} {ps : List Str} {sp : Sp} {st : Stmt} (a : At K mg x st)
    (hb : ∀ (kV doc pm : Value) (an : Option Addr) (cdv ct : Value) (us : List Value), us.length = ps.length → bindArgs (PySem.W.fnOf x x (defArgs st) (defBody st) (defScope st) .none kV doc pm an cdv ct) ⟨us, []⟩ = pure (ps.zip us))
    (h : ∀ f fd, Fun K x x st f fd → FnOk P w K mg base CX k f fd ps sp) : Def P w K mg base CX k x ps sp := by
  obtain ⟨f, fd, hm, F⟩ := a
  exact ⟨f, fd, hm, F.kp, F.binds hb, h f fd F⟩
end K1
namespace K1
open PySem PySem.Spec PyProof.Rows L2
def G : Int := 999999999999999999999999999999
/-- numbers that are there -/
structure There (ns : List Int) : Prop where
  asc : ns.Pairwise (· < ·)
  rng : ∀ n ∈ ns, 1 ≤ n ∧ n ≤ G
  len : ns.length ≤ 200
theorem getD_map {ns : List Int} {i : Nat} {y : V} (h : (ns.map V.int)[i]? = some y) : ∃ z, ns[i]? = some z ∧ y = .int z := by
  rw [List.getElem?_map] at h
  cases e : ns[i]? with
  | none => rw [e] at h; cases h
  | some z => rw [e] at h; exact ⟨z, rfl, (Option.some.inj h).symm⟩
theorem take_more {α : Type} {l : List α} {i : Nat} {x : α} (h : l[i]? = some x) : l.take (i + 1) = l.take i ++ [x] := by
  rw [List.take_add_one, h]; rfl
theorem lt_of_get {α : Type} {l : List α} {i : Nat} {x : α} (h : l[i]? = some x) : i < l.length := (List.getElem?_eq_some_iff.mp h).1
end K1
namespace K1
open PySem PySem.Spec PyProof.Rows L2
/-- a comprehension without a test -/
theorem tyes {σ : L2.St} {H : Hp} {A B : Hp → Prop} (h : A H) : tYes σ H (fun b H3 => if b = true then A H3 else B H3) := by
  show (if true = true then A H else B H)
  rw [if_pos rfl]
  exact h
/-- a test whose answer is known -/
theorem itbT {c : Bool} {A B : Prop} (hc : c = true) (h : A) : if c = true then A else B := by
  rw [if_pos hc]
  exact h
theorem itbF {c : Bool} {A B : Prop} (hc : c = false) (h : B) : if c = true then A else B := by
  rw [hc, if_neg Bool.false_ne_true]
  exact h
end K1
namespace K1
open PySem PySem.Spec PyProof.Rows L2
/-! ### rules with the written part by its name (for blocks) -/
section
variable {X : Cx} {K : PySem.W.Frag}
theorem call_lenK (h : X.K = K) : CallR X (.builtin "len") (fun xs H Q => ∃ p ys, xs = [.ref p] ∧ (SqL K H p ys ∨ SqT K H p ys) ∧ Q (.int ys.length) H) := by
  subst h; exact call_len_seq
theorem ix_listK (h : X.K = K) : IxR X (rIxL K) := by subst h; exact ix_list
theorem ix_tupK (h : X.K = K) : IxR X (rIxT K) := by subst h; exact ix_tup
theorem op_in_seqK (h : X.K = K) : OpR X (compareOp .In) (rIn K false) := by subst h; exact op_in_seq
theorem op_notIn_seqK (h : X.K = K) : OpR X (compareOp .NotIn) (rIn K true) := by subst h; exact op_notIn_seq
theorem op_eqDK (h : X.K = K) (hu : X.A.units + 64 < cLine) : OpR X (compareOp .Eq) (rEqD K) := by subst h; exact op_eqD hu
theorem op_neDK (h : X.K = K) (hu : X.A.units + 64 < cLine) : OpR X (compareOp .NotEq) (rNeD K) := by subst h; exact op_neD hu
theorem pi_listK {tg l : Expr} {tl : TE} (h : X.K = K) (hl : PE X l tl) : PI X tg l (iList K tl) := by subst h; exact pi_list hl
theorem pi_tupK {tg l : Expr} {tl : TE} (h : X.K = K) (hl : PE X l tl) : PI X tg l (iTup K tl) := by subst h; exact pi_tup hl
theorem call_list_ofK (h : X.K = K) : CallR X (.type "list") (fun xs H Q => ∃ p ys, xs = [.ref p] ∧ (SqL K H p ys ∨ SqT K H p ys) ∧ ∀ l, H l = none → Q (.ref l) (upd H l (.lst ys))) := by
  subst h; exact call_list_of
theorem call_tuple_ofK (h : X.K = K) : CallR X (.type "tuple") (fun xs H Q => ∃ p ys, xs = [.ref p] ∧ ((SqL K H p ys ∧ ∀ l, H l = none → Q (.ref l) (upd H l (.tup ys))) ∨ (SqT K H p ys ∧ Q (.ref p) H))) := by
  subst h; exact call_tuple_of
theorem pe_joinK {o e : Expr} {to te : TE} {apos pos : Pos} (h : X.K = K) (ho : PE X o to) (he : PE X e te) (hs : starEach [e] X.env = [(false, eval e X.env)] := by rfl) (hbase : attributeBase o "join" X.env (eval o X.env) = eval o X.env := by rfl) (hline : (apos.endLine == pos.line) = true := by rfl) :
    PE X (.Call (.Attribute o "join" apos) [e] [] pos) (tM1 (fun x xs H Q => ∃ a p, ∃ ys : List Str, x = .str a ∧ xs = [.ref p] ∧ (SqL K H p (ys.map V.str) ∨ SqT K H p (ys.map V.str)) ∧
      (ys.map (·.length)).sum + ys.length * a.length ≤ 16777216 ∧ Q (.str (Txt.join a ys)) H) to te) := by
  subst h; exact pe_join ho he hs hbase hline
end
end K1
namespace K1
open PySem PySem.Spec PyProof.Rows L2
section
variable {X : Cx} {K : PySem.W.Frag}
theorem cr_minK (h : X.K = K) (hc : X.calm = true) : CallR X (.builtin "min") (rMin K) := by subst h; exact cr_min hc
theorem cr_maxK (h : X.K = K) (hc : X.calm = true) : CallR X (.builtin "max") (rMax K) := by subst h; exact cr_max hc
end
/-! ### data that are compared -/
theorem dp_ints {K : PySem.W.Frag} {H : Hp} : ∀ ns : List Int, DpAll K H (ns.map V.int) (ns.map PyData.int)
  | [] => .nil
  | n :: r => .cons (.int n) (dp_ints r)
theorem dp_list {K : PySem.W.Frag} {H : Hp} {a : Addr} {ns : List Int} (h : SqL K H a (ns.map V.int)) : Dp K H (.ref a) (.list (ns.map PyData.int)) := .lst h (dp_ints ns)
theorem lay_ints : ∀ ns : List Int, PyData.canLayAll0 (ns.map PyData.int) = true
  | [] => by rfl
  | n :: r => by
    show (PyData.canLay0 (.int n) && PyData.canLayAll0 (r.map PyData.int)) = true
    rw [lay_ints r]; rfl
theorem depth_ints : ∀ ns : List Int, PyData.depthAll (ns.map PyData.int) = 0
  | [] => by rfl
  | n :: r => by
    show max (PyData.depth (.int n)) (PyData.depthAll (r.map PyData.int)) = 0
    rw [depth_ints r]; rfl
theorem shaped_ints (ns : List Int) : SeqAt.shaped (.list (ns.map PyData.int)) = true := by
  unfold SeqAt.shaped
  have h1 : PyData.canLay0 (.list (ns.map PyData.int)) = true := lay_ints ns
  have h2 : PyData.depth (.list (ns.map PyData.int)) = 1 := by
    show PyData.depthAll (ns.map PyData.int) + 1 = 1
    rw [depth_ints]
  rw [h1, h2]; rfl
theorem eqv_ints : ∀ xs ys : List Int, PyData.eqv (.list (xs.map PyData.int)) (.list (ys.map PyData.int)) = decide (xs = ys) := by
  have h : ∀ xs ys : List Int, PyData.eqvAll (xs.map PyData.int) (ys.map PyData.int) = decide (xs = ys) := by
    intro xs
    induction xs with
    | nil => intro ys; cases ys <;> simp [PyData.eqvAll]
    | cons x r ih =>
      intro ys
      cases ys with
      | nil => simp [PyData.eqvAll]
      | cons y t =>
        show (PyData.eqv (.int x) (.int y) && PyData.eqvAll (r.map PyData.int) (t.map PyData.int)) = decide (x :: r = y :: t)
        rw [ih, show PyData.eqv (.int x) (.int y) = (x == y) by simp [PyData.eqv]]
        by_cases e : x = y <;> by_cases e2 : r = t <;> simp [e, e2]
  intro xs ys
  show PyData.eqvAll (xs.map PyData.int) (ys.map PyData.int) = _
  exact h xs ys
theorem inV_ints (n : Int) : ∀ ns : List Int, inV (.int n) (ns.map V.int) = decide (n ∈ ns)
  | [] => by simp [inV]
  | m :: r => by
    have ih := inV_ints n r
    unfold inV at ih ⊢
    rw [List.map_cons, List.any_cons, ih]
    by_cases e : m = n
    · subst e; simp [eqV]
    · have e' : ¬ n = m := fun h => e h.symm
      simp [eqV, e, e']
theorem flat_ints : ∀ ns : List Int, (ns.map V.int).all flatV = true
  | [] => rfl
  | m :: r => by rw [List.map_cons, List.all_cons, flat_ints r]; rfl
/-- a list by a filter -/
def FiltBy (ns : List Int) (P : Int → Prop) (rs : List Int) : Prop := ∃ p : Int → Bool, (∀ n ∈ ns, (p n = true ↔ P n)) ∧ rs = ns.filter p
theorem FiltBy.eq {ns rs ts : List Int} {P R : Int → Prop} (h1 : FiltBy ns P rs) (h2 : FiltBy ns R ts) (h : ∀ n ∈ ns, (P n ↔ R n)) : rs = ts := by
  obtain ⟨p, hp, rfl⟩ := h1
  obtain ⟨q, hq, rfl⟩ := h2
  refine List.filter_congr fun n hn => ?_
  have a := hp n hn
  have b := hq n hn
  have c := h n hn
  cases e : p n <;> cases e2 : q n <;> simp_all
/-- the rest of a row of statements, told by what it is good for alone: the text of a reading does not grow with it -/
theorem seq_opq {t u : TS} {D : Ends} {σ : L2.St} {H : Hp} (h : ∀ N : L2.St → Hp → Prop, (∀ σ H, u D σ H → N σ H) → t { D with nx := N } σ H) : tSeq t u D σ H := h _ fun _ _ x => x
end K1


set_option Elab.async false
set_option linter.all false
set_option maxRecDepth 100000
set_option maxHeartbeats 4000000
/-! Own errors below an own error below ValueError, whose __init__ says super().__init__(a text) and then stores its one argument. -/
namespace PySem
namespace Tide
open PySem.W PySem.Calls PyProof.Rows PySem.HandSPX
def iA (fl : Str) (p1 p2 : Pos) : Arguments := { posonlyargs := [], args := [{ arg := "self", annotation := none, pos := p1 }, { arg := fl, annotation := none, pos := p2 }], vararg := none, kwonlyargs := [], kw_defaults := [], kwarg := none, defaults := [] }
def iB (fl tx : Str) (j : Nat) (q1 q2 q3 q4 q5 q6 q7 q8 q9 q10 : Pos) : List Stmt :=
  [.Expr (.Call (.Attribute (.Call (.Name "super" q1) [] [] q2) "__init__" q3) [.Constant (.str tx) j q4] [] q5) q6, .Assign [.Attribute (.Name "self" q7) fl q8] (.Name fl q9) q10]
def iS (fl : Str) : Scope := { kind := .function, names := [(PySem.Str.ofString "self", .local), (fl, .local), (PySem.Str.ofString "__class__", .free), (PySem.Str.ofString "super", .globalImplicit)], isGenerator := false, isCoroutine := false, more := [] }
/-- how the call of super().__init__ is run (shown at the text's own places) -/
def CallIs (tx : Str) (j : Nat) (q1 q2 q3 q4 q5 : Pos) : Prop := ∃ pl : Sem Bool, ∀ env : Env, eval (.Call (.Attribute (.Call (.Name "super" q1) [] [] q2) "__init__" q3) [.Constant (.str tx) j q4] [] q5) env = (do
      let ov ← attributeBase (.Call (.Name "super" q1) [] [] q2) "__init__" env (eval (.Call (.Name "super" q1) [] [] q2) env)
      standAt q3.atName
      let (f, first) ← holding [ov] (getMethod ov "__init__" pl)
      callWith q5 f first (backTo q5 (starEach [.Constant (.str tx) j q4] env)) [])
example : CallIs "no set text" 0 ⟨7, 8, 7, 13⟩ ⟨7, 8, 7, 15⟩ ⟨7, 8, 7, 24⟩ ⟨7, 25, 7, 38⟩ ⟨7, 8, 7, 39⟩ := ⟨_, fun env => by rfl⟩
/-- the fields' names -/
def FlOk (fl : Str) : Prop := ¬ fl = ("self" : Str) ∧ ¬ fl = ("__class__" : Str) ∧ ¬ fl = ("super" : Str) ∧ (fl == ("__debug__" : Str)) = false ∧
  ∀ (qual : Str) (body : List Stmt) (p1 p2 : Pos) (doc pm ct cd : Value) (an : Option Addr) (cc : Addr) (a b : Value), bindArgs (ksFn "__init__" qual (iA fl p1 p2) body (iS fl) .none .none doc pm an cd ct cc) ⟨[a, b], []⟩ = pure [(("self" : Str), a), (fl, b)]
theorem ok_value : FlOk "value" := ⟨by decide +kernel, by decide +kernel, by decide +kernel, by decide +kernel, fun _ _ _ _ _ _ _ _ _ _ _ _ => rfl⟩
theorem ok_at : FlOk "at" := ⟨by decide +kernel, by decide +kernel, by decide +kernel, by decide +kernel, fun _ _ _ _ _ _ _ _ _ _ _ _ => rfl⟩
theorem ok_why : FlOk "why" := ⟨by decide +kernel, by decide +kernel, by decide +kernel, by decide +kernel, fun _ _ _ _ _ _ _ _ _ _ _ _ => rfl⟩
theorem ok_limit : FlOk "limit" := ⟨by decide +kernel, by decide +kernel, by decide +kernel, by decide +kernel, fun _ _ _ _ _ _ _ _ _ _ _ _ => rfl⟩
/-- what the written part says of the class at C, of its __init__ at fI -/
structure TideTxt (prog : Program) (K : Frag) (mg : Str → Option Value) (x : Str) (C fI : Addr) (fl : Str) : Prop where
  gC : mg x = some (.ref C)
  ok : FlOk fl
  cls : ∃ nm q N bs bm sn sub ab col dd k0 k1 k2 k3 k5, K.lookup C = some (excClassObj nm q C N bs bm true sn sub ab col dd k0 k1 k2 k3 k5 "ValueError.__new__") ∧ refsVE bm = true
  sa : findIn K (.ref C) "__setattr__" = some (some (.builtin "object.__setattr__"))
  ga : findIn K (.ref C) "__getattribute__" = some (some (.builtin "BaseException.__getattribute__"))
  gg : findIn K (.ref C) "__getattr__" = some none
  noN : findIn K (.ref C) fl = some none
  iC : findIn K (.ref C) "__init__" = some (some (.ref fI))
  tC : typeIn K (.ref fI) = some (.type "function")
  kC : keepIn K (.ref C) = true
  exC : subIn K (.ref C) (.type "BaseException") = some true
  tyC : typeIn K (.ref C) = some (.type "type")
  hdC : hasDictIn K C = true
  te : exmOne K (.ref C) (.ref C) = some true
  sup : ks_superIn K C C "__init__" = some (some (.builtin "ValueError.__init__"))
  isV : subIn K (.ref C) (.type "ValueError") = some true
  self_ : mroIn K C (.ref C) = some true
  tpa : nsIn K cStatics "thirdparty.any" = some none
  nsu : mg "super" = none
  htop : (prog.main.scope.names.lookup ("super" : Str)).isSome = false
  fn : ∃ (oc : Value) (od : Option Addr) (doc pm ct : Value) (an : Option Addr) (osl : Array (Option Value)) (qual tx : Str) (j : Nat) (p1 p2 q1 q2 q3 q4 q5 q6 q7 q8 q9 q10 : Pos) (cda cc : Addr),
    K.lookup fI = some ⟨oc, od, .func (ksFn "__init__" qual (iA fl p1 p2) (iB fl tx j q1 q2 q3 q4 q5 q6 q7 q8 q9 q10) (iS fl) .none .none doc pm an (.ref cda) ct cc), osl⟩ ∧ codeIn K (.ref cda) qual = true ∧ CallIs tx j q1 q2 q3 q4 q5 ∧
    (∃ ccl cdd vs ccs file tf, K.lookup cda = some ⟨ccl, cdd, .fields vs, ccs⟩ ∧ vs[2]? = some (.str file tf) ∧ ((prog.main.file : Str) == file) = true) ∧ ∃ cl cld csl, K.lookup cc = some ⟨cl, cld, .cell (some (.ref C)), csl⟩
section
variable {fl : Str}
theorem lkT {β : Type} {a b : Str} {v : β} {l : List (Str × β)} (h : (a == b) = true) : List.lookup a ((b, v) :: l) = some v := by
  rw [List.lookup_cons, h]
theorem lkF {β : Type} {a b : Str} {v : β} {l : List (Str × β)} (h : (a == b) = false) : List.lookup a ((b, v) :: l) = List.lookup a l := by
  rw [List.lookup_cons, h]
theorem neB {a b : Str} (h : ¬ a = b) : (a == b) = false := beq_eq_false_iff_ne.mpr h
theorem lk_self : (iS fl).names.lookup ("self" : Str) = some .local := lkT (by decide +kernel)
theorem lk_fl (ok : FlOk fl) : (iS fl).names.lookup fl = some .local := (lkF (neB ok.1)).trans (lkT (beq_self_eq_true _))
theorem lk_cls (ok : FlOk fl) : (iS fl).names.lookup ("__class__" : Str) = some .free := (lkF (by decide +kernel)).trans ((lkF (neB fun h => ok.2.1 h.symm)).trans (lkT (by decide +kernel)))
theorem lk_super (ok : FlOk fl) : (iS fl).names.lookup ("super" : Str) = some .globalImplicit :=
  (lkF (by decide +kernel)).trans ((lkF (neB fun h => ok.2.2.1 h.symm)).trans ((lkF (by decide +kernel)).trans (lkT (by decide +kernel))))
end
theorem one_size (v : Value) : [v].length ≤ sizeLine := by
  rw [sizeLine_eq]
  exact (by decide : 1 ≤ 16777216)
/-- what __init__ leaves of a fresh exception at x -/
structure InitEnd (fl : Str) (h h' : Heap) (x C dx t1 : Addr) (v : Value) : Prop where
  keep : ∀ b o, b ≠ x → h.get? b = some o → h'.get? b = some o
  obj : h'.get? x = some { cls := .ref C, dict := some dx, data := .fields #[.ref t1, .none, .none, .none, .bool false, .none] }
  dbig : h.objs.size ≤ dx
  dne : dx ≠ x
  ns : h'.Ns1 dx (fun y => if y = fl then some v else none)
/-- a made one -/
structure OwnMade (fl : Str) (h h' : Heap) (e C d : Addr) (v : Value) : Prop where
  keep : ∀ b o, h.get? b = some o → h'.get? b = some o
  new : h.objs.size ≤ e
  obj : ∃ oe vs, h'.get? e = some oe ∧ oe.cls = .ref C ∧ oe.dict = some d ∧ oe.data = .fields vs ∧ vs[1]? = some .none
  dbig : h.objs.size ≤ d
  dne : d ≠ e
  ns : h'.Ns1 d (fun y => if y = fl then some v else none)
section
variable {prog : Program} {w : World} {A : Around} {E : Value → Shared → Prop} {R : Result → Shared → Prop} {s : Shared} {K : Frag} {mg mb : Str → Option Value} {C fI : Addr} {fl xn : Str}
theorem ldC {M : Model} {s : Shared} {env : Env} {m : Str → Option Value} {x : Str} {pos : Pos} {v : Value} {Q : Value → Shared → Prop} {A : Around} {E : Value → Shared → Prop} (hn : s.heap.Ns env.locals m) (hv : m x = some v) (h : Q v s)
    (hk : env.scope.kind = .function) (hl : env.kindOf x = some .local) (hd : (x == ("__debug__" : Str)) = false) :
    wpAny M A (eval (.Name x pos) env) Q E s := wpAny_Name (wpAny_loadName_local hk hl hn hv h) hd
/-- the built-in __init__ bound to the object, called -/
theorem call_mw {u e t0 : Addr} {rest : List Value} {Q : Value → Shared → Prop} {nm q : Str} {N : Addr} {bs bm : List Value} {hdct : Bool} {sn : List Str} {sub : List Value} {ab : Bool} {col : Option Bool} {dd : Option Addr} {k0 k1 k2 k3 k5 : Option Value}
    (hC : s.heap.get? C = some (excClassObj nm q C N bs bm hdct sn sub ab col dd k0 k1 k2 k3 k5 "ValueError.__new__")) (he : s.heap.get? e = some (excO C t0)) (hu : s.heap.get? u = some (kxs_mw "ValueError.__init__" e)) (hrest : rest.length ≤ sizeLine)
    (hq : ∀ h', (∀ b o, b ≠ e → s.heap.get? b = some o → h'.get? b = some o) → h'.get? e = some (excO C s.heap.objs.size) → Q .none { s with heap := h' }) :
    wpAny (model prog w) A (call (.ref u) rest) Q E s := by
  have FB := F.excBase_ValueError
  obtain ⟨hh, g, d, tk, os⟩ := s
  refine wpAny_call (codeAny_of_tree ?_)
  show wpAny _ A.in1 (callAny (.ref u) ⟨rest, []⟩) _ _ _
  simp only [callAny]
  refine wpAny_bind (wpAny_load hu ?_)
  simp only [kxs_mw, show (Value.type "method-wrapper" == Value.type "method" || Value.type "method-wrapper" == Value.type "builtin_function_or_method" || Value.type "method-wrapper" == Value.type "method-wrapper") = true by decide, if_true]
  refine KFB.if_so (by decide) ?_
  refine wpAny_bind (check_bound_init FB.toExcCallFacts hC he rfl ?_)
  refine wpAny_bind (wpAny_pure (wpAny_pure ?_))
  refine ⟨plainId_quiet FB.init.plain _, codeAny_builtin FB.initEntry ?_⟩
  exact exc_init_tree (cls := .ref C) (t0 := t0) (dv := none) (c2 := .none) (c3 := .none) (b4 := .bool false) he hrest fun h' k e' _ => hq h' k e'
theorem tide_init (T : TideTxt prog K mg xn C fI fl) {x t0 : Addr} {v : Value} (X : K.In s.heap) (hG : s.heap.Ns mainGlobals mg) (hB : s.heap.Ns builtinsNs mb) (hmb : mb "super" = some (.type "super")) (hlim : s.heap.NoLimit) (hx : s.heap.get? x = some (excO C t0)) (hnx : K.lookup x = none) (hroom : A.depth < recursionLimit)
    (hq : ∀ h' tk dx t1, InitEnd fl s.heap h' x C dx t1 v → R (.ok (.ret .none)) { s with heap := h', toks := tk }) :
    codeAny (model prog w) A (.call (.ref fI) ⟨[.ref x, v], []⟩) R s := by
  obtain ⟨oc, od, doc, pm, ct, an, osl, qual, tx, j, p1, p2, q1, q2, q3, q4, q5, q6, q7, q8, q9, q10, cda, cc, ho, hcd, ⟨pl, hpl⟩, ⟨ccl, cdd, vs, ccs, file, tf, hcda, hvs, hfile⟩, cl, cld, csl, hcell⟩ := T.fn
  obtain ⟨nm, q, N, bs, bm, sn, sub, ab, col, dd, k0, k1, k2, k3, k5, hC, hbm⟩ := T.cls
  obtain ⟨n1, n2, n3, n4, n5⟩ := T.ok
  have hcl : clsIn K C = some { name := nm, bases := bs, mro := .ref C :: bm, ns := N, qualname := q, hasDict := true, slotNames := sn, subclasses := sub, abstract := ab, collection := col, hasDel := false } := by unfold clsIn; rw [hC] <;> rfl
  have e1 : (("self" : Str) == fl) = false := by rw [beq_eq_false_iff_ne]; exact fun h => n1 h.symm
  have e1' : (fl == ("self" : Str)) = false := by rw [beq_eq_false_iff_ne]; exact n1
  have X₀ := X
  refine ks_codeAny_call_defAt (fd := ksFn "__init__" qual (iA fl p1 p2) (iB fl tx j q1 q2 q3 q4 q5 q6 q7 q8 q9 q10) (iS fl) .none .none doc pm an (.ref cda) ct cc) (body := iB fl tx j q1 q2 q3 q4 q5 q6 q7 q8 q9 q10) (binds := [("self", .ref x), (fl, v)]) hroom (X _ _ ho) rfl hlim (codeRec_of X hcd) rfl (BindsTo.of_eq ?_) ?_ ?_ (fun h₁ hns k => ?_) rfl rfl rfl
  · exact n5 _ _ _ _ _ _ _ _ _ _ _ _
  · intro y hy
    have hy : y ∈ [(PySem.Str.ofString "self", NameKind.local), (fl, .local), (PySem.Str.ofString "__class__", .free), (PySem.Str.ofString "super", .globalImplicit)] := hy
    simp only [List.mem_cons, List.not_mem_nil, or_false] at hy
    rcases hy with rfl | rfl | rfl | rfl <;> exact fun h => nomatch h
  · intro y hy
    simp only [List.mem_cons, List.not_mem_nil, or_false] at hy
    rcases hy with rfl | rfl
    · exact lk_self
    · exact lk_fl T.ok
  · have hxL : s.heap.objs.size ≠ x := Nat.ne_of_gt (Heap.lt_size hx)
    have X₁ : K.In h₁ := X.keeps k
    have hx₁ := k _ _ hx
    have I : InstAt h₁ x (excO C t0) C none := ⟨hx₁, rfl, rfl, trivial⟩
    refine ks_wpAt_execs_cons (ks_wpAt_Expr_any (ks_wpAt_MethodCall (ks_wpAt_super_base (f := fI) (cc := cda) (lk_super T.ok) (lk_cls T.ok) (by decide) rfl (X₁ _ _ ho) rfl rfl rfl (X₁ _ _ hcda) rfl hvs hfile T.htop ?_) (hpl _)))
    refine ks_loadName_global rfl (lk_super T.ok) (loadGlobal_builtin (hG.keeps k) T.nsu (hB.keeps k) hmb ⟨rfl, ?_⟩)
    refine wpAny_loadName_free rfl (lk_cls T.ok) rfl ⟨_, X₁ _ _ hcell, rfl⟩ ?_
    refine wpAny_loadName_local (v := .ref x) rfl lk_self hns ?_ ?_
    · exact (lkF (neB fun h => T.ok.1 h.symm)).trans (lkT (by decide +kernel))
    refine ks_wpAny_isType_cls (X₁ _ _ hC) rfl ⟨rfl, ?_⟩
    refine ks_wpAny_call_super (X₁ _ _ hC) rfl I.at_ I.cls (fun c e => by cases e) (looks_mroIn X₁ T.self_) (fun h₂ e₂ k₂ => ?_)
    have X₂ : K.In h₂ := X₁.keeps k₂
    have I₂ : InstAt h₂ x (excO C t0) C none := ⟨k₂ _ _ hx₁, rfl, rfl, trivial⟩
    have hsup : alongIn K "__init__" (((.ref C :: bm).dropWhile (· != .ref C)).drop 1) = some (some (.builtin "ValueError.__init__")) := by
      have h := T.sup
      unfold ks_superIn at h
      rw [hcl] at h
      exact h
    have hxC : x ≠ C := ks_ne X₂ I₂ hcl
    have hI : Looks (model prog w) h₂ (isInstance (.ref x) (.type "ValueError")) true := I₂.type.andThen (looks_subIn X₂ T.isV)
    refine kxs_getMethod kxs_ValueError e₂ (looks_opaque X₂ T.tpa) (l₀ := .ref C :: bm) (fun A Q E s k q => wpAny_bind ((looks_clsIn X₂ hcl) A _ E s k (wpAny_pure q))) rfl X₂ hsup hI hxC (by decide) ?_
    refine kxs_callWith (i := "ValueError.__init__") (x := x) rfl (evalArgs_plain ?_)
    show wpAny _ _ (spliced ((false, eval (.Constant (.str tx) j q4) _) :: backTo q5 (starEach [] _))) _ _ _
    refine Calls.spliced_cons ?_
    refine Calls.Constant_str (Calls.spliced_nil ⟨?_, ?_⟩)
    · exact Heap.get?_push_at rfl rfl
    refine call_mw (C := C) (t0 := t0) (Heap.get?_push_of_some _ (X₂ _ _ hC)) (Heap.get?_push_of_some _ I₂.at_) (Heap.get?_push_at rfl rfl) (one_size _) (fun h₃ k₃ e₃ => ?_)
    -- self.fl = fl
    have keep : ∀ b o, b ≠ x → s.heap.get? b = some o → h₃.get? b = some o := fun b o hb e => k₃ b o hb (Heap.get?_push_of_some _ (k₂ _ _ (k _ _ e)))
    have keep1 : ∀ b o, b ≠ x → h₁.get? b = some o → h₃.get? b = some o := fun b o hb e => k₃ b o hb (Heap.get?_push_of_some _ (k₂ _ _ e))
    have X₃ : K.In h₃ := fun a o e => keep a o (fun z => by rw [z, hnx] at e; cases e) (X a o e)
    have hns₃ : h₃.Ns s.heap.objs.size (fun y => [(("self" : Str), Value.ref x), (fl, v)].reverse.lookup y) := by
      obtain ⟨oL, es, ep, hL, r⟩ := hns
      exact ⟨oL, es, ep, keep1 _ _ hxL hL, r⟩
    show wpAt _ _ _ (execs _ _) _ _ _
    refine wpAt_of_wpAny (wpAny_execs_cons (plainObj_wpAny_Assign_Attribute ?_))
    refine ldC (v := v) hns₃ ?_ (ldC (v := .ref x) hns₃ ?_ ?_ rfl lk_self (by decide)) rfl (lk_fl T.ok) T.ok.2.2.2.1
    · exact lkT (beq_self_eq_true _)
    · exact (lkF (neB fun h => T.ok.1 h.symm)).trans (lkT (by decide +kernel))
    refine set_plain X₃ (ox := excO C _) (od := none) ⟨e₃, rfl, rfl, trivial⟩ T.sa ?_
    refine exc_osa X₃ e₃ hcl (show refsVE (.ref C :: bm) = true from hbm) rfl T.noN (fun h₄ tk₄ dx k₄ dn dne hx₄ hn₄ => ?_)
    show wpAny _ _ (execs _ _) _ _ _
    have z : s.heap.objs.size ≤ h₃.objs.size := by
      exact Nat.le_of_lt hns₃.lt
    refine wpAny_execs_nil (hq h₄ tk₄ dx _ ⟨fun b o hb e => k₄ b o hb (keep b o hb e), hx₄, Nat.le_trans z dn, dne, hn₄⟩)
theorem tide_made (T : TideTxt prog K mg xn C fI fl) {v : Value} (X : K.In s.heap) (hG : s.heap.Ns mainGlobals mg) (hB : s.heap.Ns builtinsNs mb) (hmb : mb "super" = some (.type "super")) (hlim : s.heap.NoLimit) (hroom : A.depth + 1 < recursionLimit)
    (hq : ∀ h' tk e d, OwnMade fl s.heap h' e C d v → R (.ok (.ret (.ref e))) { s with heap := h', toks := tk }) :
    codeAny (model prog w) A (.call (.ref C) ⟨[v], []⟩) R s := by
  obtain ⟨nm, q, N, bs, bm, sn, sub, ab, col, dd, k0, k1, k2, k3, k5, hC, hbm⟩ := T.cls
  obtain ⟨hp, g, dr, tk, os⟩ := s
  have k : ∀ b o, hp.get? b = some o → ((hp.push (kdv_tup [v])).push (excO C hp.objs.size)).get? b = some o := fun b o e => Heap.get?_push_of_some _ (Heap.get?_push_of_some _ e)
  have hget : ((hp.push (kdv_tup [v])).push (excO C hp.objs.size)).get? (hp.objs.size + 1) = some (excO C hp.objs.size) := by heap_get
  have hnx : K.lookup (hp.objs.size + 1) = none := by
    cases e : K.lookup (hp.objs.size + 1) with
    | none => rfl
    | some o =>
      have z : hp.get? (hp.objs.size + 1) = some o := X _ _ e
      exact absurd (Nat.lt_of_succ_lt (Heap.lt_size z)) (Nat.lt_irrefl _)
  refine call_own F.excBase_ValueError (fun X => refsVE_contains X bm hbm) (X _ _ hC) (looks_findIn X T.iC) (fun self => bind_fn X self T.tC) (one_size v) ?_
  refine tide_init (s := ⟨(hp.push (kdv_tup [v])).push (excO C hp.objs.size), g, dr, tk, os⟩) T (X.keeps k) (hG.keeps k) (hB.keeps k) hmb (hlim.keeps k) hget hnx ?_ fun h' tk' dx t1 ⟨k', hx, dn, dne, hns⟩ => ?_
  · show A.depth + 1 < recursionLimit
    exact hroom
  · have old : ∀ b o, hp.get? b = some o → h'.get? b = some o := fun b o e => k' b o (Nat.ne_of_lt (Nat.lt_succ_of_lt (Heap.lt_size e))) (k b o e)
    have z : hp.objs.size + 1 + 1 ≤ dx := by
      first
        | (simpa only [Heap.size_push] using dn)
        | exact dn
        | (have q := dn; rw [Heap.size_push, Heap.size_push] at q; exact q)
    exact ⟨rfl, hq h' tk' (hp.objs.size + 1) dx ⟨old, Nat.le_succ _, ⟨_, _, hx, rfl, rfl, rfl, rfl⟩, Nat.le_trans (Nat.le_trans (Nat.le_succ _) (Nat.le_succ _)) z, dne, hns⟩⟩
end
end Tide
end PySem
namespace L2
open PySem PySem.Spec PyProof.Rows
theorem relO_tide {fl : Str} {v : V} {v' : Value} (r : RelV v v') (f : Str) : RelO (List.lookup f [(fl, v)]) (if f = fl then some v' else none) := by
  by_cases hw : f = fl
  · subst hw
    rw [if_pos rfl]
    have q : List.lookup f [(f, v)] = some v := by simp [List.lookup]
    rw [q]
    exact r
  · rw [if_neg hw]
    have qw : (f == fl) = false := by simpa using hw
    have q2 : List.lookup f [(fl, v)] = none := by simp [List.lookup, qw]
    rw [q2]
    trivial
section
variable {X : Cx} {C fI : Addr} {fl xn : Str}
/-- E(e) -/
def tMkTide (C : Addr) (fl : Str) (ta : TA) : St → Hp → XK → Prop := fun σ H Q => ta σ H fun vs H1 => ∃ v, vs = [v] ∧ ∀ d, H1 d = none → Q (.ref C) (some d) (upd H1 d (.xd [(fl, v)]))
theorem pmk_tide {a : Expr} {ta : TA} {p pos : Pos} {k : Nat} (T : PySem.Tide.TideTxt X.prog X.K X.mg xn C fI fl) (hr : Room k X.A) (ha : PA X [a] ta) (hg : Gl X xn := by rfl) (hdb : (xn == ("__debug__" : Str)) = false := by decide)
    (he : starEach (a :: []) X.env = (false, eval a X.env) :: starEach [] X.env := by rfl) (hpl : (backTo pos (starEach [] X.env)).any (·.1) = false := by rfl) :
    PMk X (.Call (.Name xn p) [a] [] pos) (tMkTide C fl ta) := by
  intro pins s σ H Q I h
  refine wpAny_Call_Name_kw (ld_glob I hg T.gC ?_ hdb)
  refine PySem.W.callWith_K (h₀ := X.base) I.ok.mod.kin T.kC (thn (ha.run pos pins s σ H _ I h) fun us s1 hh => ?_) he hpl
  obtain ⟨vs, H1, I1, r1, v, ev, q1⟩ := hh
  subst ev
  refine ⟨I1.kIn, ?_⟩
  cases r1 with
  | cons rv rn =>
    rename_i v' us'
    cases rn
    show wpAny _ _ (call (.ref C) [v']) _ _ _
    have hlim := I1.nolimit
    have hG := I1.mod.glob.keeps I1.bk
    obtain ⟨mb, hB0, hmb0⟩ := I1.mod.blt
    have hB := hB0.keeps I1.bk
    have hmb : mb "super" = some (.type "super") := (hmb0 _ (by decide +kernel)).trans (by decide +kernel)
    obtain ⟨hp, g, dr, tk, os⟩ := s1
    refine wpAny_call (PySem.Tide.tide_made T I1.kIn hG hB hmb hlim (by have := hr.dp; omega) fun h' tk' e d M => ?_)
    show MkP X pins σ Q (.ref e) ⟨h', g, dr, tk', os⟩
    obtain ⟨oe, fv, hoe, hc, hd, hdat, h1⟩ := M.obj
    have hns := M.ns
    obtain ⟨G', g1, g2⟩ := restrict h' fun b => decide (b ≠ e)
    have gk : ∀ b, b ≠ e → G'.get? b = h'.get? b := fun b hb => g1 b (decide_eq_true hb)
    have ge : G'.get? e = none := g2 e (by simp)
    have old : ∀ b o, hp.get? b = some o → G'.get? b = some o := fun b o q => (gk b (Nat.ne_of_lt (Nat.lt_of_lt_of_le (Heap.lt_size q) M.new))).trans (M.keep b o q)
    have ob : ObjOk X.prog X.w (upd H1 d (.xd [(fl, v)])) G' d (.xd [(fl, v)]) :=
      ⟨_, hns.at (fun o q => (gk d M.dne).trans q), fun f => relO_tide rv f⟩
    have J : Inv X pins σ (upd H1 d (.xd [(fl, v)])) ⟨G', g, dr, tk', os⟩ := I1.laid (t' := tk') old M.dbig ob
    refine ⟨e, oe, fv, ⟨G', g, dr, tk', os⟩, _, .ref C, some d, rfl, J, fun b o q => ?_, ge, hoe, ⟨hc, hd⟩, hdat, h1, ?_, rfl, I1.bare, raises_own T.exC T.tyC, q1 d (I1.hok.fresh M.dbig)⟩
    · by_cases hb : b = e
      · have q' : G'.get? b = some o := q
        rw [hb, ge] at q'; cases q'
      · exact (gk b hb).symm.trans q
    · rw [upd_ne (Ne.symm M.dne)]
      exact I1.hok.fresh M.new
/-- raise E(e) -/
def tRaiseTide (C : Addr) (fl : Str) (W : WX) (ta : TA) : TS := fun _ σ H => tMkTide C fl ta σ H fun cls d H' => W cls d σ H'
theorem ps_raiseTide {a : Expr} {ta : TA} {W : WX} {p pos pos2 : Pos} {k : Nat} (hc : X.calm = true) (T : PySem.Tide.TideTxt X.prog X.K X.mg xn C fI fl) (hr : Room k X.A) (tk : Takes X W) (ha : PA X [a] ta) (hg : Gl X xn := by rfl) (hdb : (xn == ("__debug__" : Str)) = false := by decide)
    (he : starEach (a :: []) X.env = (false, eval a X.env) :: starEach [] X.env := by rfl) (hpl : (backTo pos (starEach [] X.env)).any (·.1) = false := by rfl) :
    PS X (.Raise (some (.Call (.Name xn p) [a] [] pos)) none pos2) (tRaiseTide C fl W ta) := ps_raise hc tk (pmk_tide T hr ha hg hdb he hpl)
/-- e.fl, e the exception that the suite holds (at a; its class cls, its dict d) -/
def tByTide (C : Addr) (fl : Str) (a : Addr) (cls : Value) (d : Option Addr) (te : TE) : TE := fun σ H Q => te σ H fun x H1 => x = .ref a ∧ cls = .ref C ∧ ∃ (dd : Addr) (v : V), d = some dd ∧ H1 dd = some (.xd [(fl, v)]) ∧ Q v H1
theorem pe_byTide {a : Addr} {oe : Obj} {cls : Value} {d : Option Addr} {pn : List (Addr × Obj)} {e : Expr} {te : TE} {pos : Pos} (T : PySem.Tide.TideTxt X.prog X.K X.mg xn C fI fl) (hz : Zc cls d oe) (hf : ∃ vs, oe.data = .fields vs) (he : PE (X.suite a ((a, oe) :: pn)) e te)
    (hb : attributeBase e fl X.env (eval e X.env) = eval e X.env) :
    PE (X.suite a ((a, oe) :: pn)) (.Attribute e fl pos) (tByTide C fl a cls d te) := by
  refine ⟨fun pins s σ H Q I h => ?_⟩
  refine attr_of hb (thn (he.run pins s σ H _ I h) fun u s1 hh => ?_)
  obtain ⟨x, H1, I1, rx, ex, ec, dd, v, ed, ea, q⟩ := hh
  subst ex
  obtain rfl : u = Value.ref a := rx
  subst ec
  subst ed
  obtain ⟨ha, _⟩ := I1.pin (a, oe) (List.mem_append_left _ List.mem_cons_self)
  obtain ⟨vs, hd⟩ := hf
  have hx : ObjOk X.prog X.w H1 s1.heap dd (.xd [(fl, v)]) := I1.hok dd _ ea
  obtain ⟨mA, hns, hr⟩ := hx
  obtain ⟨od, ho, hl⟩ := lookIn_ns hns
  have l : List.lookup fl [(fl, v)] = some v := by simp [List.lookup]
  obtain ⟨u, hu, ru⟩ := RelO.some_of (v := v) (o := mA fl) (by rw [← l]; exact hr fl)
  have J : PySem.W.InstAt s1.heap a oe C (some od) := ⟨ha, hz.1, by unfold PySem.W.notCls; rw [hd] <;> rfl, by rw [hz.2]; exact ho⟩
  exact HandSPX.exc_get I1.kIn J T.ga T.gg T.exC (PySem.W.findObj_own T.hdC T.noN rfl (by rw [hl, hu])) (handed_of ru) ⟨v, H1, I1.tok _, ru, q⟩
end
end L2


set_option Elab.async false
set_option linter.all false
set_option maxRecDepth 100000
set_option maxHeartbeats 4000000
/-! enumerate over a list or a tuple -/
namespace PySem
open Sem (wp)
open AutoSeq1 (wpAny_loadPart')
theorem my_enumerate_newT (l : Addr) (items : Array Value) (n : Nat) (dct : Option Addr) (sl : Array (Option Value)) :
    Meets (Builtin.«enumerate.__new__» ⟨[.type "enumerate", .ref l], []⟩) (fun _ R s => s.heap.get? l = some { cls := .type "tuple", dict := dct, data := .seq items n, slots := sl } ∧
      R (.ok (.ret (.ref (s.heap.push { cls := .type "tuple_iterator", data := .fields #[.ref l, .int 0 0] }).objs.size)))
        { s with heap := (s.heap.push { cls := .type "tuple_iterator", data := .fields #[.ref l, .int 0 0] }).push { cls := .type "enumerate", data := .fields #[.none, .bool false, .ref s.heap.objs.size, rawInt 0, .none, .none] } }) :=
  .of_wp fun prog w A R s h => by
    obtain ⟨hp, g, d, tk, os⟩ := s; obtain ⟨hl, h⟩ := h
    have hsub := sub_enumerate
    have hL : Heap.IsTuple (Shared.heap ⟨hp, g, d, tk, os⟩) l items := ⟨_, hl, rfl, n, rfl⟩
    wp_walk using wpAny_loadPart' hl
    refine wpAny_stack_any fun st => wpAny_pure ?_
    split
    · rename_i c _ _ _ _ _
      cases (c == Value.type "enumerate")
      · wp_walk using wpAny_loadPart' hl, wpAny_pyIter_tuple hL
        exact ⟨_, rfl, h⟩
      · wp_walk using wpAny_loadPart' hl, wpAny_pyIter_tuple hL
        exact ⟨_, rfl, h⟩
    · wp_walk using wpAny_loadPart' hl, wpAny_pyIter_tuple hL
      exact ⟨_, rfl, h⟩
section
variable {prog : Program} {w : World} {A : Around} {E : Value → Shared → Prop} {s : Shared}
theorem my_enumerate_tuple {l : Addr} {items : Array Value} {Q : Value → Shared → Prop} (hL : s.heap.IsTuple l items)
    (h : ∀ h', IsEnum h' (s.heap.objs.size + 1) s.heap.objs.size 0 .none → h'.IsTupleIter s.heap.objs.size l 0 → h'.objs.size = s.heap.objs.size + 2 →
      (∀ b o, s.heap.get? b = some o → h'.get? b = some o) → Q (.ref (s.heap.objs.size + 1)) { s with heap := h' }) :
    wpAny (model prog w) A (call (.type "enumerate") [.ref l]) Q E s := by
  obtain ⟨⟨c, dct, dt, sl⟩, hl, hc, n, hd⟩ := hL
  replace hc : c = .type "tuple" := hc
  replace hd : dt = .seq items n := hd
  subst hc hd
  refine callType_new F.called_enumerate (by decide) (F.typeCall_enumerate_1 _) (F.newCall_enumerate_1 _) (fun obj => F.args_object_init_2 obj _) F.entry_enumerate_new
    (my_enumerate_newT l items n dct sl) ⟨hl, ?_⟩
  have hz : (s.heap.push { cls := .type "tuple_iterator", data := .fields #[.ref l, .int 0 0] }).objs.size = s.heap.objs.size + 1 := Heap.size_push ..
  show _ ∧ _
  rw [hz]
  have he : IsEnum ((s.heap.push { cls := .type "tuple_iterator", data := .fields #[.ref l, .int 0 0] }).push
      { cls := .type "enumerate", data := .fields #[.none, .bool false, .ref s.heap.objs.size, rawInt 0, .none, .none] }) (s.heap.objs.size + 1) s.heap.objs.size 0 .none := by
    have := Heap.get?_push_size (s.heap.push { cls := .type "tuple_iterator", data := .fields #[.ref l, .int 0 0] })
      (o := { cls := .type "enumerate", data := .fields #[.none, .bool false, .ref s.heap.objs.size, rawInt 0, .none, .none] }) rfl
    rw [hz] at this; exact this
  refine ⟨⟨_, he, rfl⟩, h _ he ⟨_, Heap.get?_push_of_some _ (Heap.get?_push_size _ rfl), rfl, rfl⟩ (by rw [Heap.size_push, hz]) fun b o x => Heap.get?_push_of_some _ (Heap.get?_push_of_some _ x)⟩
end
end PySem
namespace L2
open PySem PySem.Spec PyProof.Rows
def IteT (K : PySem.W.Frag) (a : Addr) : It :=
  ⟨fun i H => ∃ (xs : List V) (x : V), SqT K H a xs ∧ xs[i]? = some x, fun i H v H' => ∃ T x, v = .ref T ∧ H T = none ∧ H' = upd H T (.tup [.int (i : Nat), x]) ∧ ∀ xs, SqT K H a xs → xs[i]? = some x, fun i H => ∃ xs : List V, SqT K H a xs ∧ i = xs.length⟩
theorem turn_enumT {P : Program} {w : World} {K : PySem.W.Frag} {elts : List Expr} {kk : Nat} {tpos : Pos} (a e it : Addr) :
    Turn P w K (.Tuple elts kk tpos) (IteT K a) [e, it] e (fun i h => (∃ old, IsEnum h e it ((i : Nat) : Int) old) ∧ h.IsTupleIter it a i ∧ e ≠ it ∧ e ≠ a ∧ it ≠ a) where
  mem := by simp
  obj := fun i h st b hb => by
    obtain ⟨⟨old, he⟩, ⟨o, ho, hc, hd⟩, _⟩ := st
    have e' : b = e ∨ b = it := by simpa using hb
    rcases e' with z | z
    · rw [z]; exact ⟨_, he, fun v q => nomatch q⟩
    · rw [z]; exact ⟨o, ho, fun v q => by rw [hd] at q; cases q⟩
  keep := fun i h h' st k => let ⟨⟨old, he⟩, hi, hne⟩ := st; ⟨⟨old, k e (by simp) _ he⟩, hi.at fun o q => k it (by simp) o q, hne⟩
  item := by
    intro X hP hw hK hc i pins s σ H E I hf st hg
    subst hP hw hK
    obtain ⟨⟨old, he⟩, hit, hne, hea, hia⟩ := st
    obtain ⟨xs, x, hq, hx⟩ := hg
    obtain ⟨its, rv, p, hz⟩ := I.tuple hq
    have p' : s.heap.IsTuple a its.toArray := p
    obtain ⟨u, hu, ru⟩ := rv.get hx
    have hel : e < s.heap.objs.size := Heap.lt_size he
    have hil : it < s.heap.objs.size := by obtain ⟨_, q, _⟩ := hit; exact Heap.lt_size q
    have D := Draws.tuple (prog := X.prog) (w := X.w) (A := X.A.in1) (I.ok.hd hc) it a hia.symm its.toArray
    refine wpAny_pyNext_enum_itemD D he ⟨hit, p'⟩ (by have := (List.getElem?_eq_some_iff.mp hu).1; simpa using this) hne (by simp [hne, hea]) fun x' h' tk hx' ho hit' hT hsz hk => ?_
    have hxu : x' = u := by
      have e1 : its[i]? = some x' := by simpa using hx'
      rw [hu] at e1
      exact (Option.some.inj e1).symm
    subst hxu
    obtain ⟨hit', _⟩ := hit'
    refine ⟨_, rfl, wpAny_letOwnedTupleGo_enum (s := { s with heap := h', toks := tk + 1 }) ho fun h'' he' sb => ?_⟩
    have hT2 : h''.get? s.heap.objs.size = some { cls := .type "tuple", data := .seq #[.int i tk, x'] } := (sb.2 _ (Nat.ne_of_gt hel)).trans hT
    have new : ObjOk X.prog X.w (upd H s.heap.objs.size (.tup [.int (i : Nat), x])) h'' s.heap.objs.size (.tup [.int (i : Nat), x]) :=
      ⟨by show 2 ≤ sizeLine; decide, [.int i tk, x'], .cons ⟨_, rfl⟩ (.cons ru .nil), ⟨_, hT2, rfl, _, rfl⟩⟩
    have I1 : Inv X pins σ (upd H s.heap.objs.size (.tup [.int (i : Nat), x])) { s with heap := h'', toks := tk + 1 } :=
      I.turnedNew (ch := [e, it]) (fun b ob hb q => (sb.2 b (fun z => hb (by simp [z]))).trans (hk b ob (fun z => hb (by simp [z])) (fun z => hb (by simp [z])) q)) hf (Nat.le_refl _) new
    refine ⟨.ref s.heap.objs.size, _, I1, rfl, ⟨_, x, rfl, I.hok.fresh (Nat.le_refl _), rfl, fun ys hy => by rw [I.tuple_inj hy hq]; exact hx⟩, ⟨⟨x', ?_⟩, hit'.at fun o q => (sb.2 it (Ne.symm hne)).trans q, hne, hea, hia⟩, fun b hb => ?_⟩
    · have e1 : ((i + 1 : Nat) : Int) = (i : Int) + 1 := by omega
      rw [e1]; exact he'
    · have hb' : b < s.heap.objs.size := by
        have e' : b = e ∨ b = it := by simpa using hb
        rcases e' with z | z
        · rw [z]; exact hel
        · rw [z]; exact hil
      rw [upd_ne (Nat.ne_of_lt hb')]
      exact (hf b hb).1
  done := by
    intro X hP hw hK hc i pins s σ H E I hf st hg
    subst hP hw hK
    obtain ⟨⟨old, he⟩, hit, hne, hea, hia⟩ := st
    obtain ⟨xs, hq, hx⟩ := hg
    obtain ⟨its, rv, p, hz⟩ := I.tuple hq
    have p' : s.heap.IsTuple a its.toArray := p
    obtain ⟨f0, f1, f2, f3, f4, f5⟩ := hf it (by simp)
    have hl := rv.length
    have D := Draws.tuple (prog := X.prog) (w := X.w) (A := X.A.in1) (I.ok.hd hc) it a hia.symm its.toArray
    have hn : i = its.toArray.size := by rw [hx, hl]; simp
    refine wpAny_pyNext_enum_endD D he ⟨hn ▸ hit, p'⟩ fun h' eb => ⟨rfl, I.turned (t' := s.toks) (fun b o hb q => eb b o hb q) f0 f1 f3 f4 f5⟩
  self := fun A i s Q E st h => let ⟨⟨_, he⟩, _⟩ := st; wpAny_pyIter_enum he h
/-- enumerate(list | tuple) -/
def iEnumS (K : PySem.W.Frag) (ta : TA) : TI := fun σ H R => ta σ H fun vs H1 => ∃ a xs, vs = [.ref a] ∧ ((SqL K H1 a xs ∧ R (Ite K a) H1) ∨ (SqT K H1 a xs ∧ R (IteT K a) H1))
theorem pi_enumS {X : Cx} {e : Expr} {ta : TA} {p pos tpos : Pos} {elts : List Expr} {kk : Nat} (hg : Gl X "enumerate") (hm : X.mg "enumerate" = none) (ha : PA X [e] ta) (hs : starEach [e] X.env = [(false, eval e X.env)] := by rfl) :
    PI X (.Tuple elts kk tpos) (.Call (.Name "enumerate" p) [e] [] pos) (iEnumS X.K ta) := by
  refine ⟨fun pins s σ H R I h => ?_⟩
  refine Call_ (ld_blt I hg hm boot_enumerate (PyProof.Rows.callWith_type1 (thn (ha.run pos pins s σ H _ I h) fun us s1 ⟨vs, H1, I1, r1, q1⟩ => ?_) hs rfl))
  obtain ⟨a, xs, ex, q1⟩ := q1
  subst ex
  cases r1 with
  | cons r rr =>
    cases rr
    cases r
    have fpk : ∀ b ∈ [s1.heap.objs.size + 1, s1.heap.objs.size], FpOk X pins H1 b := fun b hb => by
      have e' : b = s1.heap.objs.size + 1 ∨ b = s1.heap.objs.size := by simpa using hb
      have hle : s1.heap.objs.size ≤ b := by
        rcases e' with z | z
        · rw [z]; exact Nat.le_add_right _ _
        · rw [z]; exact Nat.le_refl _
      exact I1.fpOk hle (I1.hok.fresh hle)
    rcases q1 with ⟨hq, q⟩ | ⟨hq, q⟩
    · obtain ⟨its, rv, p', hz⟩ := I1.list hq
      refine call_enumerate_list p'.isList fun h' he hit hsz hk => wpAny_pyIter_enum he ?_
      have I2 : Inv X pins σ H1 { s1 with heap := h' } := I1.kept (t' := s1.toks) hk
      exact ⟨s1.heap.objs.size + 1, [s1.heap.objs.size + 1, s1.heap.objs.size], _, _, H1, rfl, I2, turn_enum a (s1.heap.objs.size + 1) s1.heap.objs.size, ⟨⟨.none, he⟩, hit, Nat.succ_ne_self _⟩, fpk, q⟩
    · obtain ⟨its, rv, p', hz⟩ := I1.tuple hq
      have hla : a < s1.heap.objs.size := by obtain ⟨o, ho, _⟩ := p'; exact Heap.lt_size ho
      refine my_enumerate_tuple (show s1.heap.IsTuple a its.toArray from p') fun h' he hit hsz hk => wpAny_pyIter_enum he ?_
      have I2 : Inv X pins σ H1 { s1 with heap := h' } := I1.kept (t' := s1.toks) hk
      exact ⟨s1.heap.objs.size + 1, [s1.heap.objs.size + 1, s1.heap.objs.size], _, _, H1, rfl, I2, turn_enumT a (s1.heap.objs.size + 1) s1.heap.objs.size, ⟨⟨.none, he⟩, hit, Nat.succ_ne_self _, Nat.ne_of_gt (Nat.lt_succ_of_lt hla), Nat.ne_of_gt hla⟩, fpk, q⟩
theorem pi_enumSK {X : Cx} {K : PySem.W.Frag} {e : Expr} {ta : TA} {p pos tpos : Pos} {elts : List Expr} {kk : Nat} (h : X.K = K) (hg : Gl X "enumerate") (hm : X.mg "enumerate" = none) (ha : PA X [e] ta) (hs : starEach [e] X.env = [(false, eval e X.env)] := by rfl) :
    PI X (.Tuple elts kk tpos) (.Call (.Name "enumerate" p) [e] [] pos) (iEnumS K ta) := by subst h; exact pi_enumS hg hm ha hs
/-- a for over it: the pair's own tuple is new; Pv by the turn -/
theorem for_enumS {K : PySem.W.Frag} {a : Addr} {xs : List V} {g : TG} {tb : TS} {D : Ends} {σ : St} {H0 H : Hp} (hq : SqL K H0 a xs ∨ SqT K H0 a xs) (Pv : Nat → St → Hp → Prop) (h0 : Pv 0 σ H) (hm : ∀ i σ' H', Pv i σ' H' → ∀ b o, H0 b = some o → H' b = some o)
    (hs : ∀ i x σ H T, xs[i]? = some x → Pv i σ H → H T = none → g (.ref T) σ (upd H T (.tup [.int (i : Nat), x])) fun σ2 H2 => tb { D with nx := Pv (i + 1), ct := Pv (i + 1), bk := D.nx } σ2 H2) (hd : ∀ σ H, Pv xs.length σ H → D.nx σ H) :
    ((SqL K H a xs ∧ ∃ W : Nat → Nat → St → Hp → Prop, (∃ m, W 0 m σ H) ∧ ∀ i m σ H, W i m σ H →
      ((Ite K a).stop i H ∧ D.nx σ H) ∨ ((Ite K a).go i H ∧ ∃ N : St → Hp → Prop, (∀ σ' H', N σ' H' → ∃ m', m' < m ∧ W (i + 1) m' σ' H') ∧ ∀ x H', (Ite K a).yld i H x H' → g x σ H' fun σ2 H2 => tb { D with nx := N, ct := N, bk := D.nx } σ2 H2)) ∨
     (SqT K H a xs ∧ ∃ W : Nat → Nat → St → Hp → Prop, (∃ m, W 0 m σ H) ∧ ∀ i m σ H, W i m σ H →
      ((IteT K a).stop i H ∧ D.nx σ H) ∨ ((IteT K a).go i H ∧ ∃ N : St → Hp → Prop, (∀ σ' H', N σ' H' → ∃ m', m' < m ∧ W (i + 1) m' σ' H') ∧ ∀ x H', (IteT K a).yld i H x H' → g x σ H' fun σ2 H2 => tb { D with nx := N, ct := N, bk := D.nx } σ2 H2))) := by
  have mL : ∀ {i σ' H'}, SqL K H0 a xs → Pv i σ' H' → SqL K H' a xs := fun {i σ' H'} h p => by
    have k := hm i σ' H' p
    rcases h with (h | ⟨o, h⟩) | h
    · exact .inl (.inl (k _ _ h))
    · exact .inl (.inr ⟨o, k _ _ h⟩)
    · exact .inr h
  have mT : ∀ {i σ' H'}, SqT K H0 a xs → Pv i σ' H' → SqT K H' a xs := fun {i σ' H'} h p => by
    have k := hm i σ' H' p
    rcases h with (h | ⟨o, h⟩) | h
    · exact .inl (.inl (k _ _ h))
    · exact .inl (.inr ⟨o, k _ _ h⟩)
    · exact .inr h
  rcases hq with h | h
  · refine .inl ⟨mL h h0, fun i m σ H => m = xs.length - i ∧ i ≤ xs.length ∧ Pv i σ H, ⟨xs.length, by simp, Nat.zero_le _, h0⟩, ?_⟩
    rintro i m σ H ⟨rfl, hi, p⟩
    have q := mL h p
    by_cases hlt : i < xs.length
    · refine .inr ⟨⟨xs, xs[i], q, by simp [hlt]⟩, Pv (i + 1), fun σ' H' p' => ⟨xs.length - (i + 1), by omega, rfl, hlt, p'⟩, fun x H' y => ?_⟩
      obtain ⟨T, z, rfl, nT, rfl, hz⟩ := y
      exact hs i z σ H T (hz xs q) p nT
    · have e : i = xs.length := by omega
      subst e
      exact .inl ⟨⟨xs, q, Nat.le_refl _⟩, hd σ H p⟩
  · refine .inr ⟨mT h h0, fun i m σ H => m = xs.length - i ∧ i ≤ xs.length ∧ Pv i σ H, ⟨xs.length, by simp, Nat.zero_le _, h0⟩, ?_⟩
    rintro i m σ H ⟨rfl, hi, p⟩
    have q := mT h p
    by_cases hlt : i < xs.length
    · refine .inr ⟨⟨xs, xs[i], q, by simp [hlt]⟩, Pv (i + 1), fun σ' H' p' => ⟨xs.length - (i + 1), by omega, rfl, hlt, p'⟩, fun x H' y => ?_⟩
      obtain ⟨T, z, rfl, nT, rfl, hz⟩ := y
      exact hs i z σ H T (hz xs q) p nT
    · have e : i = xs.length := by omega
      subst e
      exact .inl ⟨⟨xs, q, rfl⟩, hd σ H p⟩
end L2


set_option Elab.async false
set_option linter.all false
set_option maxRecDepth 100000
set_option maxHeartbeats 4000000
namespace K1
open PySem PySem.Spec PyProof.Rows L2 RZ
/-! ### values as data: what stands at a place, found in the call's own objects -/
mutual
inductive Dv (H : Hp) : V → PyData → Prop
  | non : Dv H .non .none
  | bl (b : Bool) : Dv H (.bl b) (.bool b)
  | int (i : Int) : Dv H (.int i) (.int i)
  | str (x : Str) : Dv H (.str x) (.str x)
  | lst {a : Addr} {xs : List V} {ds : List PyData} : H a = some (.lst xs) → DvA H xs ds → Dv H (.ref a) (.list ds)
  | tup {a : Addr} {xs : List V} {ds : List PyData} : H a = some (.tup xs) → DvA H xs ds → Dv H (.ref a) (.tuple ds)
  | dic {a : Addr} : H a = some (.dK []) → Dv H (.ref a) (.dict [])
inductive DvA (H : Hp) : List V → List PyData → Prop
  | nil : DvA H [] []
  | cons {v : V} {vs : List V} {d : PyData} {ds : List PyData} : Dv H v d → DvA H vs ds → DvA H (v :: vs) (d :: ds)
end
mutual
theorem Dv.ext {H H' : Hp} (e : LamX.ExtN H H') : ∀ {v : V} {d : PyData}, Dv H v d → Dv H' v d
  | _, _, .non => .non
  | _, _, .bl b => .bl b
  | _, _, .int i => .int i
  | _, _, .str x => .str x
  | _, _, .lst h a => .lst (e _ _ h fun _ z => by cases z) (DvA.ext e a)
  | _, _, .tup h a => .tup (e _ _ h fun _ z => by cases z) (DvA.ext e a)
  | _, _, .dic h => .dic (e _ _ h fun _ z => by cases z)
theorem DvA.ext {H H' : Hp} (e : LamX.ExtN H H') : ∀ {vs : List V} {ds : List PyData}, DvA H vs ds → DvA H' vs ds
  | _, _, .nil => .nil
  | _, _, .cons h r => .cons (Dv.ext e h) (DvA.ext e r)
end
theorem Dv.same {H H' : Hp} {v : V} {d : PyData} (h : Dv H v d) (s : Same H H') : Dv H' v d := h.ext (LamX.ExtN.of s)
theorem DvA.same {H H' : Hp} {v : List V} {d : List PyData} (h : DvA H v d) (s : Same H H') : DvA H' v d := h.ext (LamX.ExtN.of s)
mutual
def noDic : PyData → Bool
  | .list xs => noDicA xs
  | .tuple xs => noDicA xs
  | .dict _ => false
  | _ => true
def noDicA : List PyData → Bool
  | [] => true
  | x :: r => noDic x && noDicA r
end
mutual
theorem Dv.dp {K : PySem.W.Frag} {H : Hp} : ∀ {v : V} {d : PyData}, Dv H v d → noDic d = true → Dp K H v d
  | _, _, .non, _ => .non
  | _, _, .bl b, _ => .bl b
  | _, _, .int i, _ => .int i
  | _, _, .str x, _ => .str x
  | _, _, .lst h a, n => .lst (sq h) (DvA.dp a n)
  | _, _, .tup h a, n => .tup (st h) (DvA.dp a n)
  | _, _, .dic h, n => by cases n
theorem DvA.dp {K : PySem.W.Frag} {H : Hp} : ∀ {vs : List V} {ds : List PyData}, DvA H vs ds → noDicA ds = true → DpAll K H vs ds
  | _, _, .nil, _ => .nil
  | _, _, .cons h r, n => .cons (Dv.dp h ((Bool.and_eq_true _ _).mp n).1) (DvA.dp r ((Bool.and_eq_true _ _).mp n).2)
end
theorem DvA.len {H : Hp} : ∀ {vs : List V} {ds : List PyData}, DvA H vs ds → vs.length = ds.length
  | _, _, .nil => rfl
  | _, _, .cons _ r => congrArg (· + 1) (DvA.len r)
theorem DvA.get {H : Hp} : ∀ {vs : List V} {ds : List PyData}, DvA H vs ds → ∀ {i : Nat} {v : V}, vs[i]? = some v → ∃ d, ds[i]? = some d ∧ Dv H v d
  | _, _, .nil, i, v, h => by simp at h
  | _, _, .cons hd r, 0, v, h => ⟨_, rfl, by simp at h; exact h ▸ hd⟩
  | _, _, .cons hd r, i + 1, v, h => by simpa using DvA.get r (i := i) (v := v) (by simpa using h)
theorem DvA.app {H : Hp} : ∀ {vs : List V} {ds : List PyData} {us : List V} {es : List PyData}, DvA H vs ds → DvA H us es → DvA H (vs ++ us) (ds ++ es)
  | _, _, _, _, .nil, h => h
  | _, _, _, _, .cons hd r, h => .cons hd (DvA.app r h)
def tyN : PyData → String
  | .none => "NoneType"
  | .bool _ => "bool"
  | .int _ => "int"
  | .str _ => "str"
  | .list _ => "list"
  | .tuple _ => "tuple"
  | .dict _ => "dict"
theorem Dv.ty {K : PySem.W.Frag} {H : Hp} {v : V} {d : PyData} (h : Dv H v d) : TyX K H v (.type (tyN d)) := by
  cases h with
  | non => exact .base .non
  | bl b => exact .base (.bl b)
  | int i => exact .base (.int i)
  | str x => exact .base (.str x)
  | lst e _ => exact .base (.lst e)
  | tup e _ => exact .base (.tup e)
  | dic e => exact .base (.dK e)
/-! ### what the checks say of data -/
def isInt : PyData → Bool | .int _ => true | _ => false
def isNum : PyData → Bool | .int n => decide (1 ≤ n) | _ => false
def isStr : PyData → Bool | .str _ => true | _ => false
def isTup : PyData → Bool | .tuple _ => true | _ => false
def isSeq : PyData → Bool | .tuple _ => true | .list _ => true | _ => false
def itemsD : PyData → List PyData | .list xs => xs | .tuple xs => xs | _ => []
def dI : PyData → Int | .int n => n | _ => 0
def isNums (d : PyData) : Bool := isSeq d && (itemsD d).all isNum
def ascB (ns : List Int) : Bool := ((ns.zip (ns.drop 1)).map fun p => decide (p.1 < p.2)).all id
theorem kit_int (d : PyData) : ∃ b1 b2, kitB (tyN d) "int" = some b1 ∧ kitB (tyN d) "bool" = some b2 ∧ (b1 && !b2) = isInt d := by
  cases d with
  | none => exact ⟨false, false, (show kitB "NoneType" "int" = some false by decide +kernel), (show kitB "NoneType" "bool" = some false by decide +kernel), rfl⟩
  | bool b => exact ⟨true, true, (show kitB "bool" "int" = some true by decide +kernel), (show kitB "bool" "bool" = some true by decide +kernel), rfl⟩
  | int b => exact ⟨true, false, (show kitB "int" "int" = some true by decide +kernel), (show kitB "int" "bool" = some false by decide +kernel), rfl⟩
  | str b => exact ⟨false, false, (show kitB "str" "int" = some false by decide +kernel), (show kitB "str" "bool" = some false by decide +kernel), rfl⟩
  | list b => exact ⟨false, false, (show kitB "list" "int" = some false by decide +kernel), (show kitB "list" "bool" = some false by decide +kernel), rfl⟩
  | tuple b => exact ⟨false, false, (show kitB "tuple" "int" = some false by decide +kernel), (show kitB "tuple" "bool" = some false by decide +kernel), rfl⟩
  | dict b => exact ⟨false, false, (show kitB "dict" "int" = some false by decide +kernel), (show kitB "dict" "bool" = some false by decide +kernel), rfl⟩
theorem kit_str (d : PyData) : kitB (tyN d) "str" = some (isStr d) := by
  cases d with
  | none => exact (show kitB "NoneType" "str" = some false by decide +kernel)
  | bool b => exact (show kitB "bool" "str" = some false by decide +kernel)
  | int b => exact (show kitB "int" "str" = some false by decide +kernel)
  | str b => exact (show kitB "str" "str" = some true by decide +kernel)
  | list b => exact (show kitB "list" "str" = some false by decide +kernel)
  | tuple b => exact (show kitB "tuple" "str" = some false by decide +kernel)
  | dict b => exact (show kitB "dict" "str" = some false by decide +kernel)
theorem kit_tup (d : PyData) : kitB (tyN d) "tuple" = some (isTup d) := by
  cases d with
  | none => exact (show kitB "NoneType" "tuple" = some false by decide +kernel)
  | bool b => exact (show kitB "bool" "tuple" = some false by decide +kernel)
  | int b => exact (show kitB "int" "tuple" = some false by decide +kernel)
  | str b => exact (show kitB "str" "tuple" = some false by decide +kernel)
  | list b => exact (show kitB "list" "tuple" = some false by decide +kernel)
  | tuple b => exact (show kitB "tuple" "tuple" = some true by decide +kernel)
  | dict b => exact (show kitB "dict" "tuple" = some false by decide +kernel)
theorem kit_seq {K : PySem.W.Frag} (d : PyData) : PySem.W.kitAny K (.type (tyN d)) [.type "list", .type "tuple"] = some (isSeq d) := by
  have kt : ∀ {t : String} {b1 b2 : Bool}, kitB t "list" = some b1 → kitB t "tuple" = some b2 → PySem.W.kitAny K (.type t) [.type "list", .type "tuple"] = some (b1 || b2) := fun {t b1 b2} h1 h2 =>
    kitAny_cons (b := b1) (kit_ty h1) (fun e => by subst e; exact kitAny_cons (b := b2) (kit_ty h2) (fun e => by subst e; exact kitAny_nil) fun e => by subst e; rfl) fun e => by subst e; rfl
  cases d with
  | none => exact kt (t := "NoneType") (b1 := false) (b2 := false) (by decide +kernel) (by decide +kernel)
  | bool b => exact kt (t := "bool") (b1 := false) (b2 := false) (by decide +kernel) (by decide +kernel)
  | int b => exact kt (t := "int") (b1 := false) (b2 := false) (by decide +kernel) (by decide +kernel)
  | str b => exact kt (t := "str") (b1 := false) (b2 := false) (by decide +kernel) (by decide +kernel)
  | list b => exact kt (t := "list") (b1 := true) (b2 := false) (by decide +kernel) (by decide +kernel)
  | tuple b => exact kt (t := "tuple") (b1 := false) (b2 := true) (by decide +kernel) (by decide +kernel)
  | dict b => exact kt (t := "dict") (b1 := false) (b2 := false) (by decide +kernel) (by decide +kernel)
/-- a list or a tuple of the call's own -/
def SeqH (H : Hp) (a : Addr) (xs : List V) : Prop := H a = some (.lst xs) ∨ H a = some (.tup xs)
theorem SeqH.same {H H' : Hp} {a : Addr} {xs : List V} (h : SeqH H a xs) (s : Same H H') : SeqH H' a xs := h.imp (s _ _) (s _ _)
theorem SeqH.len {K : PySem.W.Frag} {H : Hp} {a : Addr} {xs : List V} (h : SeqH H a xs) : SqL K H a xs ∨ SqT K H a xs := h.imp sq st
theorem Dv.seq {H : Hp} {v : V} {d : PyData} (h : Dv H v d) (hs : isSeq d = true) : ∃ a xs, v = .ref a ∧ SeqH H a xs ∧ DvA H xs (itemsD d) := by
  cases h with
  | lst e r => exact ⟨_, _, rfl, .inl e, r⟩
  | tup e r => exact ⟨_, _, rfl, .inr e, r⟩
  | _ => cases hs
theorem Dv.tupD {H : Hp} {v : V} {d : PyData} (h : Dv H v d) (hs : isTup d = true) : ∃ a xs, v = .ref a ∧ H a = some (.tup xs) ∧ DvA H xs (itemsD d) ∧ d = .tuple (itemsD d) := by
  cases h with
  | tup e r => exact ⟨_, _, rfl, e, r, rfl⟩
  | _ => cases hs
/-- what a walk over a list or a tuple asks -/
def SeqR (K : PySem.W.Frag) (a : Addr) (H : Hp) (R : It → Hp → Prop) : Prop := ((∃ xs, SqL K H a xs) ∧ R (Itl K a) H) ∨ ((∃ xs, SqT K H a xs) ∧ R (Itt K a) H)
def ZipR (K : PySem.W.Frag) (a b : Addr) (xs ys : List V) (H : Hp) (R : It → Hp → Prop) : Prop := (SqL K H a xs ∧ SqL K H b ys ∧ R (Itz K a b) H) ∨ (SqT K H a xs ∧ SqT K H b ys ∧ R (ItzT K a b) H)
/-- a walk of a list or a tuple of the call's own -/
theorem seq_walk {K : PySem.W.Frag} {H : Hp} {a : Addr} {xs : List V} {R : It → Hp → Prop} (h : SeqH H a xs)
    (k : ∀ (J : It) (Gd : Hp → Prop), Walk J xs.length Gd (YAt xs) → (∀ H', Same H H' → Gd H') → R J H) : SeqR K a H R := by
  rcases h with h | h
  · exact .inl ⟨⟨xs, sq h⟩, k _ _ walk_list fun H' s => sq (s _ _ h)⟩
  · exact .inr ⟨⟨xs, st h⟩, k _ _ walk_tup fun H' s => st (s _ _ h)⟩
theorem walk_zipT {K : PySem.W.Frag} {a b : Addr} {xs ys : List V} {n : Nat} (hn : n = min xs.length ys.length) : Walk (ItzT K a b) n (fun H => SqT K H a xs ∧ SqT K H b ys) (YPair (fun i => xs[i]?) (fun i => ys[i]?)) := by
  subst hn
  refine ⟨fun i _ hi q => ?_, fun _ q => ⟨xs, ys, q.1, q.2, by omega⟩, fun i H v H' _ q y => ?_⟩
  · have h1 : i < xs.length := by omega
    have h2 : i < ys.length := by omega
    exact ⟨xs, ys, xs[i], ys[i], q.1, q.2, by simp [h1], by simp [h2]⟩
  · obtain ⟨T, x, z, h1, h2, h3, h4, h5⟩ := y
    exact ⟨T, x, z, h1, h2, h3, h4 xs q.1, h5 ys q.2⟩
theorem zip_walkL {K : PySem.W.Frag} {H : Hp} {a b : Addr} {xs ys : List V} {R : It → Hp → Prop} (h1 : H a = some (.lst xs)) (h2 : H b = some (.lst ys))
    (k : ∀ (J : It) (Gd : Hp → Prop), Walk J (min xs.length ys.length) Gd (YPair (fun i => xs[i]?) (fun i => ys[i]?)) → (∀ H', Same H H' → Gd H') → R J H) : ZipR K a b xs ys H R :=
  .inl ⟨sq h1, sq h2, k _ _ (walk_zip rfl) fun H' s => ⟨sq (s _ _ h1), sq (s _ _ h2)⟩⟩
theorem zip_walkT {K : PySem.W.Frag} {H : Hp} {a b : Addr} {xs ys : List V} {R : It → Hp → Prop} (h1 : H a = some (.tup xs)) (h2 : H b = some (.tup ys))
    (k : ∀ (J : It) (Gd : Hp → Prop), Walk J (min xs.length ys.length) Gd (YPair (fun i => xs[i]?) (fun i => ys[i]?)) → (∀ H', Same H H' → Gd H') → R J H) : ZipR K a b xs ys H R :=
  .inr ⟨st h1, st h2, k _ _ (walk_zipT rfl) fun H' s => ⟨st (s _ _ h1), st (s _ _ h2)⟩⟩
structure Bj (mg : Str → Option Value) : Prop extends Bi mg where
  all : mg "all" = none
  zip : mg "zip" = none
section
variable {X : Cx} {K : PySem.W.Frag}
theorem sl_seqK (h : X.K = K) : SlR X (fun x lo hi H Q => rSlL K x lo hi H Q ∨ rSlA K x lo hi H Q) := by subst h; exact SlR.or sl_list sl_tupA
theorem call_isiK1 (h : X.K = K) : CallR X (.builtin "isinstance") (rIsi K) := by subst h; exact call_isi
theorem call_isiTK (h : X.K = K) : CallR X (.builtin "isinstance") (rIsiT K) := by subst h; exact call_isiT
theorem cr_allK (h : X.K = K) (hc : X.calm = true) : CallR X (.builtin "all") (rAll K) := by subst h; exact cr_all hc
theorem ix_seqK (h : X.K = K) : IxR X (rIx K) := by subst h; exact ix_seq
theorem pe_const {x : Str} {pos : Pos} {n : Int} (hm : ∃ t, X.mg x = some (.int n t)) (hg : Gl X x) (hd : (x == ("__debug__" : Str)) = false := by decide) : PE X (.Name x pos) (tC (.int n)) := by
  obtain ⟨t, hm⟩ := hm
  exact pe_glob hg hm ⟨t, rfl⟩ hd
/-- a walk over a list or a tuple -/
def iSeq (K : PySem.W.Frag) (tl : TE) : TI := fun σ H R => tl σ H fun x H1 => ∃ a, x = .ref a ∧ SeqR K a H1 R
theorem pi_seqK {tg l : Expr} {tl : TE} (h : X.K = K) (hl : PE X l tl) : PI X tg l (iSeq K tl) := by
  subst h
  refine ⟨fun pins s σ H R I h => ?_⟩
  refine thn (hl.run pins s σ H _ I h) fun v s1 ⟨x, H1, I1, r1, q1⟩ => ?_
  obtain ⟨a, e, q1⟩ := q1
  subst e
  cases r1
  have fr : ∀ b ∈ [s1.heap.objs.size], FpOk X pins H1 b := fun b hb => by
    have e : b = s1.heap.objs.size := by simpa using hb
    subst e
    exact I1.fpOk (Nat.le_refl _) (I1.hok.fresh (Nat.le_refl _))
  rcases q1 with ⟨⟨xs, hq⟩, q⟩ | ⟨⟨xs, hq⟩, q⟩
  · obtain ⟨its, rv, p, hz⟩ := I1.list hq
    refine wpAny_pyIter_list p.isList ?_
    exact ⟨s1.heap.objs.size, [s1.heap.objs.size], _, _, H1, rfl, I1.kept (t' := s1.toks) fun b o e => Heap.get?_push_of_some _ e, turn_list a _, ⟨_, Heap.get?_push_size _ rfl, rfl, rfl⟩, fr, q⟩
  · obtain ⟨its, rv, p, hz⟩ := I1.tuple hq
    refine wpAny_pyIter_tuple (show s1.heap.IsTuple a its.toArray from p) ?_
    exact ⟨s1.heap.objs.size, [s1.heap.objs.size], _, _, H1, rfl, I1.kept (t' := s1.toks) fun b o e => Heap.get?_push_of_some _ e, turn_tuple a _, ⟨_, Heap.get?_push_size _ rfl, rfl, rfl⟩, fr, q⟩
def iZipS (K : PySem.W.Frag) (ta : TA) : TI := fun σ H R => ta σ H fun vs H1 => ∃ a b xs ys, vs = [.ref a, .ref b] ∧ ZipR K a b xs ys H1 R
theorem pi_zipSK {e e2 : Expr} {ta : TA} {p pos tpos : Pos} {elts : List Expr} {kk : Nat} (h : X.K = K) (hg : Gl X "zip") (hm : X.mg "zip" = none) (ha : PA X [e, e2] ta)
    (hs : starEach [e, e2] X.env = (false, eval e X.env) :: starEach [e2] X.env := by rfl) (hpl : (backTo pos (starEach [e2] X.env)).any (·.1) = false := by rfl) :
    PI X (.Tuple elts kk tpos) (.Call (.Name "zip" p) [e, e2] [] pos) (iZipS K ta) := by subst h; exact pi_zipA hg hm ha hs hpl
end
end K1


set_option Elab.async false
set_option linter.all false
set_option maxRecDepth 100000
set_option maxHeartbeats 400000
/-! a lambda with one parameter handed to a def or a method that calls it -/
namespace LamY
open PySem PySem.Spec PyProof.Rows L2 LamX
/-- one parameter xp, no other name of its own: captured ones and globals -/
structure LamS1 (sc scope : Scope) (xp : Str) : Prop where
  kind : scope.kind = .function
  co : scope.isCoroutine = false
  gen : scope.isGenerator = false
  own : ∀ y ∈ scope.names, y.2 ≠ .cell ∧ (y.2 = .local → y.1 = xp)
  par : scope.names.lookup xp = some .local
  free : ∀ y ∈ scope.names, y.2 = .free → sc.names.lookup y.1 = some .cell ∨ sc.names.lookup y.1 = some .free
def lamSB1 (sc scope : Scope) (xp : Str) : Bool :=
  decide (scope.kind = .function) && !scope.isCoroutine && !scope.isGenerator && decide (scope.names.lookup xp = some .local) && scope.names.all fun y => !decide (y.2 = .cell) && (!decide (y.2 = .local) || decide (y.1 = xp)) && (!decide (y.2 = .free) || decide (sc.names.lookup y.1 = some .cell) || decide (sc.names.lookup y.1 = some .free))
theorem lamS1_by {sc scope : Scope} {xp : Str} (h : lamSB1 sc scope xp = true) : LamS1 sc scope xp := by
  unfold lamSB1 at h
  simp only [Bool.and_eq_true, Bool.or_eq_true, Bool.not_eq_true', decide_eq_true_eq, decide_eq_false_iff_not, List.all_eq_true] at h
  obtain ⟨⟨⟨⟨h1, h2⟩, h3⟩, h5⟩, h4⟩ := h
  refine ⟨h1, h2, h3, fun y hy => ⟨(h4 y hy).1.1, fun e => (h4 y hy).1.2.elim (fun z => absurd e z) id⟩, h5, fun y hy e => ?_⟩
  rcases (h4 y hy).2 with (z | z) | z
  · exact absurd e z
  · exact .inl z
  · exact .inr z
theorem LamS1.has {X : Cx} {scope : Scope} {xp : Str} (L : LamS1 X.env.scope scope xp) (ok : X.Ok) : ∀ y ∈ scope.names, y.2 = .free → ∃ c, X.env.cells.lookup y.1 = some c := fun y hy e => by
  rcases L.free y hy e with k | k
  · exact ok.has _ (.inl k)
  · exact ok.has _ (.inr k)
/-- the context of the lambda's body, entered at s from the frames outer; its parameter is the last slot -/
def lamCx1 (X : Cx) (A : Around) (outer : List Env) (s : Shared) (H : Hp) (E : XK) (scope : Scope) (xp : Str) (f c' : Addr) : Cx := { lamCx X A outer s H E scope f c' with N := X.N ++ [xp] }
section
variable {X : Cx} {pins : List (Addr × Obj)} {σ : L2.St} {H HZ : Hp} {s s1 : Shared}
theorem lam_start1 {A : Around} {outer : List Env} {E : XK} {scope : Scope} {xp : Str} {f c' : Addr} {h₁ : Heap} {tk : Nat} {v : V} {u : Value} (I : Inv X pins σ H s) (L : LamS1 X.env.scope scope xp) (hxn : xp ∉ X.N) (rv : RelV v u) (e0 : Env0 X.prog X.w X.K X.mg X.base A outer s1 HZ) (hd : A.handled = none)
    (un : Un (frs X.stack) [] H HZ s.heap s1.heap) (hns : h₁.Ns s1.heap.objs.size fun y => ([(xp, u)] : List (Str × Value)).reverse.lookup y) (kp : ∀ b o, s1.heap.get? b = some o → h₁.get? b = some o) :
    Inv (lamCx1 X A outer s1 HZ E scope xp f c') [] (σ ++ [some v]) HZ { s1 with heap := h₁, toks := tk } := by
  have hfree := L.has I.ok
  have cm : ∀ {y c}, (cloFrom X.env.cells scope.names []).lookup y = some c → X.env.cells.lookup y = some c := fun {y c} e => by
    rcases cloFrom_mem (PySem.mem_of_lookup e) with hm | ⟨h1, h2⟩
    · cases hm
    · obtain ⟨c1, hc⟩ := hfree _ h1 rfl
      have hc : X.env.cells.lookup y = some c1 := hc
      have e2 : c = c1 := by
        rw [h2, hc] <;> rfl
      rw [e2]
      exact hc
  have look : ∀ {y}, scope.names.lookup y = some .free → ∃ c, (cloFrom X.env.cells scope.names []).lookup y = some c := fun {y} hl => by
    have hy : (y, NameKind.free) ∈ scope.names := PySem.mem_of_lookup hl
    exact mem_lookup (cloFrom_has (cells := X.env.cells) (acc := []) hy)
  have cellK : ∀ {c : Addr} {v : Option Value}, H c = none → s.heap.IsCell c v → h₁.IsCell c v := fun {c v} n ⟨o, ho, hd⟩ => by
    obtain ⟨sl, q⟩ := un.any ho n (by simp)
    exact ⟨_, kp _ _ q, hd⟩
  have noA : ∀ b : Addr, b ∉ (lamCx1 X A outer s1 HZ E scope xp f c').ex := fun b z => absurd (show b ∈ ([] : List Addr) from z) (by simp)
  refine ⟨⟨e0.mod, L.kind, rfl, rfl, Nat.le_refl _, fun y z c e1 e2 => I.ok.inj y z c (cm e1) (cm e2), fun y hy => ?_, fun y c z _ => ?_, fun _ => hd, Around.frames_deeper e0.frames, .inr ⟨rfl, rfl⟩, fun b z => absurd z (noA b), e0.bs, e0.bsz, fun b _ _ => noA b,
      fun b z => absurd z (noA b), e0.funs, e0.frf⟩,
    rfl, e0.bare, Un.kept kp, ⟨_, hns, fun i y v' e1 e2 e3 => ?_⟩, fun y c e => ?_, e0.hok.fresh (Nat.le_refl _), fun y c e => ?_, fun q hq => absurd (show q ∈ ([] : List (Addr × Obj)) ++ [] from hq) (by simp), e0.hok.kept kp, ?_⟩
  · have hy : scope.names.lookup y = some .cell ∨ scope.names.lookup y = some .free := hy
    rcases hy with hy | hy
    · exact absurd rfl (L.own _ (PySem.mem_of_lookup hy)).1
    · exact look hy
  · have z : false = true := z
    cases z
  · have e3 : Vis scope y := e3
    have e1 : (X.N ++ [xp])[i]? = some y := e1
    have hlen := I.len
    by_cases hi : i < X.N.length
    · have e1' : X.N[i]? = some y := by rw [List.getElem?_append_left hi] at e1; exact e1
      have e2' : σ[i]? = some (some v') := by rw [List.getElem?_append_left (by omega)] at e2; exact e2
      have hyN : y ∈ X.N := List.mem_of_getElem? e1'
      rcases e3 with k | k | k
      · exact absurd ((L.own _ (PySem.mem_of_lookup k)).2 rfl ▸ hyN) hxn
      · exact absurd rfl (L.own _ (PySem.mem_of_lookup k)).1
      · obtain ⟨m, hn, hl⟩ := I.loc
        have hvis : Vis X.env.scope y := (L.free _ (PySem.mem_of_lookup k) rfl).elim (fun k => .inr (.inl k)) (fun k => .inr (.inr k))
        obtain ⟨w', r, q⟩ := hl i y v' e1' e2' hvis
        obtain ⟨c2, h2⟩ := look k
        refine ⟨w', r, .inr ⟨.inr k, c2, h2, ?_⟩⟩
        have c1 := cm h2
        rcases q with ⟨k', _⟩ | ⟨_, c3, e', z⟩
        · have k' : X.env.scope.names.lookup y = some .local := k'
          rcases L.free _ (PySem.mem_of_lookup k) rfl with k2 | k2 <;> rw [show X.env.scope.names.lookup y = _ from k2] at k' <;> cases k'
        · rw [c1] at e'
          cases e'
          exact cellK (I.freeC y _ c1) z
    · have ei : i = X.N.length := by
        have := (List.getElem?_eq_some_iff.mp e1).1
        rw [List.length_append] at this
        have h1 : i < X.N.length + 1 := this
        omega
      subst ei
      have ey : xp = y := by
        rw [List.getElem?_append_right (Nat.le_refl _), Nat.sub_self] at e1
        exact Option.some.inj e1
      have ev : v = v' := by
        rw [List.getElem?_append_right (by omega), hlen, Nat.sub_self] at e2
        exact Option.some.inj (Option.some.inj e2)
      subst ey ev
      refine ⟨u, rv, .inl ⟨L.par, ?_⟩⟩
      show ([(xp, u)] : List (Str × Value)).reverse.lookup xp = some u
      simp [List.lookup]
  · obtain ⟨w', z⟩ := I.cell y c (cm e)
    exact ⟨w', cellK (I.freeC y c (cm e)) z⟩
  · obtain ⟨v, o, ho, hd⟩ := I.cell y c (cm e)
    exact un.free c o ho (I.freeC y c (cm e)) (by simp)
  · show (σ ++ [some v]).length = (X.N ++ [xp]).length
    rw [List.length_append, List.length_append, I.len]; rfl
/-- x(e), in the def that got the lambda, entered at s -/
theorem pe_act1 {Ng : List Str} {qg : Str} {sg : Scope} {g f c' : Addr} {cdg pm ctv : Value} {params : Arguments} {body : Expr} {scope : Scope} {xp : Str} {k i : Nat} {a : Str} {tb te : TE} {p1 p2 : Pos} {e : Expr}
    (I : Inv X pins σ H s) (L : LamS1 X.env.scope scope xp) (hxn : xp ∉ X.N) (hf : s.heap.get? f = some (PySem.W.kla_obj "<lambda>" (X.env.qual ++ "<lambda>") params body scope (cloFrom X.env.cells scope.names []) pm c' ctv)) (hfn : H f = none) (hfr : f ∉ frs X.stack)
    (hbind : ∀ u, bindArgs (PySem.W.kla_fn "<lambda>" (X.env.qual ++ "<lambda>") params body scope (cloFrom X.env.cells scope.names []) pm (.ref c') ctv) ⟨[u], []⟩ = pure [(xp, u)])
    (hr : Room (k + 1) (X.A.deeper (envOfC qg sg s.heap.objs.size g cdg)))
    (hbody : ∀ (A : Around) (outer : List Env) (s : Shared) (H : Hp), Room k (A.deeper (lamEnv X scope s.heap.objs.size f c')) → PE (lamCx1 X A outer s H C8.E0 scope xp f c') body tb)
    (hN : Ng[i]? = some a) (hv : Vis sg a) (he : PE (cxOf C8.CX0 X.prog X.w X.K X.mg X.base Ng qg sg g cdg X.A X.stack s H C8.E0).nox e te)
    (hd : (a == ("__debug__" : Str)) = false := by decide) (hcd : (a == ("__classdict__" : Str)) = false := by decide)
    (hst : starEach [e] (envOfC qg sg s.heap.objs.size g cdg) = [(false, eval e (envOfC qg sg s.heap.objs.size g cdg))] := by rfl) :
    PE (cxOf C8.CX0 X.prog X.w X.K X.mg X.base Ng qg sg g cdg X.A X.stack s H C8.E0).nox (.Call (.Name a p1) [e] [] p2)
      (fun σZ HZ Q => σZ[i]? = some (some (.ref f)) ∧ te σZ HZ fun v H2 => H2 c' = some (CodeO c' (X.env.qual ++ "<lambda>")) ∧ tb (σ ++ [some v]) H2 Q) := by
  refine ⟨fun pinsZ sZ σZ HZ Q IZ h => ?_⟩
  obtain ⟨hs, ht⟩ := h
  refine wpAny_Call_Name_kw (thn ((pe_var (pos := p1) (i := i) hN hv hd hcd).run pinsZ sZ σZ HZ (fun v H1 => v = .ref f ∧ H1 = HZ) IZ ⟨.ref f, hs, rfl, rfl⟩) fun u s1 ⟨v, H1, I1, r1, q1⟩ => ?_)
  obtain ⟨ev, eH⟩ := q1
  subst ev
  rw [eH] at I1
  obtain rfl : u = Value.ref f := r1
  have there : ∀ {H2 : Hp} {s2 : Shared}, Inv (cxOf C8.CX0 X.prog X.w X.K X.mg X.base Ng qg sg g cdg X.A X.stack s H C8.E0).nox pinsZ σZ H2 s2 → s2.heap.get? f = some (PySem.W.kla_obj "<lambda>" (X.env.qual ++ "<lambda>") params body scope (cloFrom X.env.cells scope.names []) pm c' ctv) := fun I2 => I2.base.keep f _ hf hfn hfr (fun z => nomatch (show f ∈ ([] : List Addr) from z))
  have ht' : tCons te tNil σZ HZ (fun vs H2 => match vs with | [v] => H2 c' = some (CodeO c' (X.env.qual ++ "<lambda>")) ∧ tb (σ ++ [some v]) H2 Q | _ => False) := ht
  refine PySem.W.callWith_F (e := e) (rest := []) ⟨_, _, _, _, there I1⟩ (thn ((pa_cons he pa_nil (hs := hst)).run p2 pinsZ s1 σZ HZ _ I1 ht') fun us s2 ⟨vs, H2, I2, r2, q2⟩ => ⟨⟨_, _, _, _, there I2⟩, ?_⟩) hst (by rfl)
  cases r2 with
  | nil => exact False.elim q2
  | cons rv rn =>
  cases rn with
  | cons _ _ => exact False.elim q2
  | nil =>
    rename_i v u2 hAP
    obtain ⟨hc, ht2⟩ := q2
    have of1 := there I2
    have un : Un (frs X.stack) [] H H2 s.heap s2.heap := I2.base
    obtain ⟨⟨oc, vs', t, hoc, hdc, hvc⟩, _, _⟩ := I2.hok c' _ hc
    have rc : codeAny (model X.prog X.w) (X.A.deeper (envOfC qg sg s.heap.objs.size g cdg)) (.call (.ref f) ⟨[u2], []⟩) (CR (L2.CX X.prog X.w) (envOfC qg sg s.heap.objs.size g cdg :: X.stack) X.prog X.w H2 s2 Q C8.E0) s2 := by
      refine PySem.W.kla_callFunE hr.depth of1 rfl L.co L.gen rfl ⟨c', oc, vs', t, rfl, hoc, hdc, hvc⟩ ?_
      rw [hbind]
      refine wpAny_pure (wpAny_newFunctionEnv (fun y hy => (L.own y hy).1) (fun y hy => ?_) (fun h₁ hns hsb => ⟨I2.nolimit.fresh _ hsb, ?_⟩) L.kind)
      · rw [List.mem_singleton.mp hy]; exact L.par
      show codeAny _ _ (.expr body (lamEnv X scope s2.heap.objs.size f c')) _ _
      have kp : ∀ b o, s2.heap.get? b = some o → h₁.get? b = some o := fun b o e => hsb.extBut b o (Nat.ne_of_lt (Heap.lt_size e)) (Heap.get?_push_of_some _ e)
      have J : L2.Inv (lamCx1 X (X.A.deeper (envOfC qg sg s.heap.objs.size g cdg)) (envOfC qg sg s.heap.objs.size g cdg :: X.stack) s2 H2 C8.E0 scope xp f c') [] (σ ++ [some v]) H2 { s2 with heap := h₁, toks := s2.toks + ([(xp, u2)] : List (Str × Value)).length } :=
        lam_start1 I L hxn rv I2.env0 hr.hd un hns kp
      refine PySem.W.kla_codeExpr (wpAny_mono ((hbody _ _ s2 H2 (hr.deeper _)).run [] _ _ H2 Q J ht2) (fun v s' hq => ?_) fun e s' hq => hq)
      obtain ⟨w', H', J', rv, q⟩ := hq
      exact ⟨w', H', J'.os, J'.bare, J'.base, J'.hok, rv, q⟩
    refine wpAny_call (codeAny_mono rc fun r s' hq => ?_)
    cases r with
    | error e =>
      obtain ⟨_, _, _, _, _, _, _, _, _, _, _, _, z⟩ := hq
      exact z.elim
    | ok fl =>
      cases fl with
      | ret u => exact I2.after hq
      | next => exact False.elim hq
      | brk => exact False.elim hq
      | cont => exact False.elim hq
end
/-- the method that calls what it got as its last argument: TT, what it makes of the lambda's reading -/
def GivesM (kk : Nat) (X : Cx) (Ng : List Str) (qg : Str) (sg : Scope) (g : Addr) (cdg : Value) (bg : List Stmt) (i : Nat) (a : Str) (q : Str) (TT : V → V → (V → Hp → VK → Prop) → Hp → VK → Prop) : Prop :=
  ∀ (f c' : Addr) (s : Shared) (H : Hp) (Q : VK) (x y : V) (tl : V → Hp → VK → Prop), Room kk (X.A.deeper (envOfC qg sg s.heap.objs.size g cdg)) →
    (∀ (e : Expr) (te : TE) (p1 p2 : Pos), PE (cxOf C8.CX0 X.prog X.w X.K X.mg X.base Ng qg sg g cdg X.A X.stack s H C8.E0).nox e te → starEach [e] (envOfC qg sg s.heap.objs.size g cdg) = [(false, eval e (envOfC qg sg s.heap.objs.size g cdg))] →
      PE (cxOf C8.CX0 X.prog X.w X.K X.mg X.base Ng qg sg g cdg X.A X.stack s H C8.E0).nox (.Call (.Name a p1) [e] [] p2) (fun σZ HZ Q => σZ[i]? = some (some (.ref f)) ∧ te σZ HZ fun v H2 => H2 c' = some (CodeO c' q) ∧ tl v H2 Q)) →
    H c' = some (CodeO c' q) → TT x y tl H Q →
    ∃ t, PSs (cxOf C8.CX0 X.prog X.w X.K X.mg X.base Ng qg sg g cdg X.A X.stack s H C8.E0).nox bg t ∧ t { nx := fun _ H' => Q .non H', rt := Q } (L2.start Ng [x, y, .ref f]) H
def tMethLam (T : List (Addr × Str)) (C : Addr) (m : Str) (TT : V → V → (V → Hp → VK → Prop) → Hp → VK → Prop) (ta te tb : TE) : TE := fun σ H Q => ta σ H fun x H1 => ∃ a dx fs, x = .ref a ∧ H1 a = some (.ins C dx fs) ∧ fs.lookup m = none ∧
  te σ H1 fun y H2 => Tabs T H2 ∧ ∀ H3, ExtN H2 H3 → Tabs T H3 → TT x y (fun v H' Q' => tb (σ ++ [some v]) H' Q') H3 Q
section
variable {X : Cx}
/-- o.m(e, lambda xp: body) -/
theorem pe_methlam {T : List (Addr × Str)} {TT : V → V → (V → Hp → VK → Prop) → Hp → VK → Prop} {C g c P : Addr} {m xp a1 a2 a : Str} {k : Nat} {qg : Str} {pg : Arguments} {bg : List Stmt} {sg : Scope} {dV kV doc pm cdv ct oc : Value} {an od : Option Addr} {osl : Array (Option Value)} {Ng : List Str}
    {o e : Expr} {params : Arguments} {body : Expr} {scope : Scope} {ta te tb : TE} {apos lpos pos : Pos} {pl : Sem Bool} (ho : PE X o ta) (cC : Cls X.K C) (hm : Meth X.K C m g) (he : PE X e te)
    (lk : X.K.lookup g = some ⟨oc, od, .func (PySem.W.fnOf m qg pg bg sg dV kV doc pm an cdv ct), osl⟩) (hcg : PySem.W.codeIn X.K cdv qg = true) (hb : L2.Binds X.K (PySem.W.fnOf m qg pg bg sg dV kV doc pm an cdv ct) [a1, a2, a] []) (Sg : FnScope Ng [a1, a2, a] sg) (hNg : Ng[2]? = some a) (hva : Vis sg a)
    (hG : GivesM (k + 1) X Ng qg sg g cdv bg 2 a (X.env.qual ++ "<lambda>") TT)
    (TB : TabB X.base X.mg c P) (hcode : X.env.code = .ref c) (hmT : (P, X.env.qual ++ "<lambda>") ∈ T) (hu : ∀ p ∈ T, p.1 = P → p.2 = X.env.qual ++ "<lambda>") (hr : Room (k + 2) X.A) (L : LamS1 X.env.scope scope xp) (hxn : xp ∉ X.N) (hdef : defaultsOf params X.env = ([], []))
    (hbind : ∀ (q : Str) (cl : List (Str × Addr)) (pm cv ctv u : Value), bindArgs (PySem.W.kla_fn "<lambda>" q params body scope cl pm cv ctv) ⟨[u], []⟩ = pure [(xp, u)])
    (hbody : ∀ (A : Around) (outer : List Env) (s : Shared) (H : Hp) (f c' : Addr), Room k (A.deeper (lamEnv X scope s.heap.objs.size f c')) → PE (lamCx1 X A outer s H C8.E0 scope xp f c') body tb)
    (hd : (a == ("__debug__" : Str)) = false := by decide) (hcd : (a == ("__classdict__" : Str)) = false := by decide)
    (hst : starEach [e, .Lambda params body scope lpos] X.env = (false, eval e X.env) :: starEach [.Lambda params body scope lpos] X.env := by rfl) (hpl : (backTo pos (starEach [.Lambda params body scope lpos] X.env)).any (·.1) = false := by rfl)
    (ht : eval (.Call (.Attribute o m apos) [e, .Lambda params body scope lpos] [] pos) X.env = (do
      let ov ← eval o X.env
      standAt apos.atName
      let (f, first) ← holding [ov] (getMethod ov m pl)
      callWith pos f first (backTo pos (starEach [e, .Lambda params body scope lpos] X.env)) (backToKw pos (keywordEach [] X.env))) := by rfl) :
    PE X (.Call (.Attribute o m apos) [e, .Lambda params body scope lpos] [] pos) (tMethLam T C m TT ta te tb) := by
  refine ⟨fun pins s σ H Q I h => ?_⟩
  refine PySem.W.methodCall_KW (pl := pl) (thn (ho.run pins s σ H _ I h) fun u s1 ⟨x, H1, I1, rx, a0, dx, fs, ex, ea, l, q⟩ => ?_) ht
  subst ex
  obtain rfl : u = Value.ref a0 := rx
  refine getmeth_ok I1 ea cC hm l ?_
  refine PySem.W.callWith_K (first := [.ref a0]) (h₀ := X.base) I.ok.mod.kin hm.kp ?_ hst hpl
  rw [hst]
  refine Calls.spliced_cons (thn (he.run pins s1 σ H1 _ I1 q) fun u2 s2 ⟨y, H2, I2, ry, hT, q2⟩ => ?_)
  show wpAny _ _ (spliced ((false, eval (.Lambda params body scope lpos) X.env) :: backTo pos (starEach [] X.env))) _ _ s2
  refine Calls.spliced_cons (lam_make2 I2 TB hcode hmT hu hT hdef (L.has I.ok) fun f c' pm' ctv H3 s' I3 eN T1 hf hfn hfr hco => ?_)
  refine Calls.spliced_nil ⟨I3.kIn, ?_⟩
  have rc : codeAny (model X.prog X.w) X.A (.call (.ref g) ⟨[.ref a0, u2, .ref f], []⟩) (CR C8.CX0 X.stack X.prog X.w H3 s' Q C8.E0) s' := by
    refine run_ofS (N := Ng) (ps := [a1, a2, a]) (us := [.ref a0, u2, .ref f]) (vs := [.ref a0, y, .ref f]) lk hcg Sg hr I3.env0 (hb s' [.ref a0, u2, .ref f] I3.kIn rfl) (.cons rfl (.cons ry (.cons rfl .nil))) rfl fun hr' => ?_
    obtain ⟨t', ht', hq'⟩ := hG f c' s' H3 Q (.ref a0) y (fun v H' Q' => tb (σ ++ [some v]) H' Q') hr' (fun e te p1 p2 he' hst' => pe_act1 (i := 2) I3 L hxn hf hfn hfr (fun u => hbind _ _ _ _ _ u) hr' (fun A outer s H hr2 => hbody A outer s H f c' hr2) hNg hva he' hd hcd hst') hco (q2 H3 eN T1)
    exact ⟨t', ht'.nox, hq'⟩
  refine wpAny_call (codeAny_mono rc fun r s2 hq => ?_)
  cases r with
  | error e => exact (show False from hq).elim
  | ok fl =>
    cases fl with
    | ret u => exact I3.after hq
    | next => exact False.elim hq
    | brk => exact False.elim hq
    | cont => exact False.elim hq
end
end LamY


set_option Elab.async false
set_option linter.all false
set_option maxRecDepth 100000
set_option maxHeartbeats 2000000
namespace K1
open PySem PySem.Spec PyProof.Rows L2 RZ
/-- what is never reached -/
theorem pss_any {X : Cx} {b : List Stmt} : PSs X b (fun _ _ _ => False) := ⟨fun _ _ _ _ _ _ h => h.elim⟩
structure Bk (mg : Str → Option Value) : Prop extends Bj mg where
  set : mg "set" = none
  dict : mg "dict" = none
structure Cs (mg : Str → Option Value) : Prop where
  MOST_SIGNS : ∃ t, mg "MOST_SIGNS" = some (.int 6 t)
  LONGEST_SIGN : ∃ t, mg "LONGEST_SIGN" = some (.int 8 t)
abbrev sIsInt : Stmt := st_is_integer
abbrev sIsNum : Stmt := st_is_number
abbrev sIsBody : Stmt := st_is_body
abbrev sIsSign : Stmt := st_is_sign
abbrev sIsSigns : Stmt := st_is_signs
abbrev nV : List Str := ["value"]
abbrev pV : List Str := ["value"]
theorem scIsInt : FnScope nV pV (defScope sIsInt) := ⟨rfl, rfl, rfl, by decide +kernel, rfl, by decide +kernel, by decide +kernel⟩
theorem scIsNum : FnScope nV pV (defScope sIsNum) := ⟨rfl, rfl, rfl, by decide +kernel, rfl, by decide +kernel, by decide +kernel⟩
theorem scIsBody : FnScope nV pV (defScope sIsBody) := ⟨rfl, rfl, rfl, by decide +kernel, rfl, by decide +kernel, by decide +kernel⟩
abbrev nIsSign : List Str := ["value", "letter"]
theorem scIsSign : FnScope nIsSign pV (defScope sIsSign) := ⟨rfl, rfl, rfl, by decide +kernel, rfl, by decide +kernel, by decide +kernel⟩
abbrev nIsSigns : List Str := ["value", "ahead", "sign"]
theorem scIsSigns : FnScope nIsSigns pV (defScope sIsSigns) := ⟨rfl, rfl, rfl, by decide +kernel, rfl, by decide +kernel, by decide +kernel⟩
/-! ### signs -/
def inAZ (c : Nat) : Bool := (!decide ([c] < ("a" : Str).cps.toList)) && !decide (("z" : Str).cps.toList < [c])
def okS (s : Str) : Bool := decide (1 ≤ s.length) && decide (s.length ≤ 8) && s.cps.toList.all inAZ
def goSs : Str → List Str → Bool
  | _, [] => true
  | a, s :: r => okS s && decide (a.cps.toList < s.cps.toList) && goSs s r
def okSs (ss : List Str) : Bool := decide (ss.length ≤ 6) && goSs "" ss
def spInt : Sp := fun vs H Q _ => ∃ n : Int, vs = [.int n] ∧ Q (.bl true) H
def spNum : Sp := fun vs H Q _ => ∃ n : Int, vs = [.int n] ∧ 1 ≤ n ∧ Q (.bl true) H
def spBody : Sp := fun vs H Q _ => ∃ n : Int, vs = [.int n] ∧ 0 ≤ n ∧ Q (.bl true) H
def spSign : Sp := fun vs H Q _ => ∃ s : Str, vs = [.str s] ∧ okS s = true ∧ ∀ H', Same H H' → Q (.bl true) H'
def spSigns : Sp := fun vs H Q _ => ∃ (a : Addr) (ss : List Str), vs = [.ref a] ∧ H a = some (.tup (ss.map V.str)) ∧ okSs ss = true ∧ ∀ H', Same H H' → Q (.bl true) H'
section
variable {P : Program} {w : World} {K : PySem.W.Frag} {mg : Str → Option Value} {base : Heap}
theorem ok_isInt {f : Addr} {fd : FuncData} (T : Bk mg) (F : Fun K "is_integer" "is_integer" sIsInt f fd) : FnOk P w K mg base CX0 1 f fd pV spInt := by
  refine F.ok scIsInt (fun vs H Q E h => ?_) (fun cdv A outer s H vs Q E hr h => ?_)
  · obtain ⟨n, rfl, _⟩ := h
    rfl
  · obtain ⟨n, rfl, q⟩ := h
    refine ⟨_, (pss_one (ps_ret (pe_and (pe_callB (call_isiK1 (K := K) rfl) (by rfl) T.isinstance PyProof.Rows.boot_isinstance (pa_cons (pv 0) (pa_cons (pe_bltn (v := .ty "int") rfl T.int PyProof.Rows.boot_int rfl) pa_nil))) (pe_one (pe_not (pe_callB (call_isiK1 (K := K) rfl) (by rfl) T.isinstance PyProof.Rows.boot_isinstance (pa_cons (pv 0) (pa_cons (pe_bltn (v := .ty "bool") rfl T.bool PyProof.Rows.boot_bool rfl) pa_nil)))))))), ?_⟩
    exact ⟨_, rfl, .int n, .ty "int", .type "int", .type "int", true, rfl, .ty _, .base (.int n), kit_ty (by decide +kernel), _, rfl, itbT rfl ⟨_, rfl, .int n, .ty "bool", .type "int", .type "bool", false, rfl, .ty _, .base (.int n), kit_ty (by decide +kernel), _, rfl, q⟩⟩
theorem ok_isNum {f : Addr} {fd : FuncData} (D_is_integer : Def P w K mg base CX0 1 "is_integer" pV spInt) (F : Fun K "is_number" "is_number" sIsNum f fd) : FnOk P w K mg base CX0 2 f fd pV spNum := by
  refine F.ok scIsNum (fun vs H Q E h => ?_) (fun cdv A outer s H vs Q E hr h => ?_)
  · obtain ⟨n, rfl, _⟩ := h
    rfl
  · obtain ⟨n, rfl, h1, q⟩ := h
    refine ⟨_, (pss_one (ps_ret (pe_and (pe_def D_is_integer (hr.mono (by decide)) rfl pass0 (pa_cons (pv 0) pa_nil)) (pe_one (pe_cmpR op_ge (pv 0) pe_int (nomark _)))))), ?_⟩
    refine ⟨_, rfl, n, rfl, _, rfl, itbT rfl ⟨_, rfl, _, _, rfl, rfl, ?_⟩⟩
    show Q (.bl (decide (1 ≤ n))) H
    rw [decide_eq_true h1]; exact q
theorem ok_isBody {f : Addr} {fd : FuncData} (D_is_integer : Def P w K mg base CX0 1 "is_integer" pV spInt) (F : Fun K "is_body" "is_body" sIsBody f fd) : FnOk P w K mg base CX0 2 f fd pV spBody := by
  refine F.ok scIsBody (fun vs H Q E h => ?_) (fun cdv A outer s H vs Q E hr h => ?_)
  · obtain ⟨n, rfl, _⟩ := h
    rfl
  · obtain ⟨n, rfl, h1, q⟩ := h
    refine ⟨_, (pss_one (ps_ret (pe_and (pe_def D_is_integer (hr.mono (by decide)) rfl pass0 (pa_cons (pv 0) pa_nil)) (pe_one (pe_cmpR op_ge (pv 0) pe_int (nomark _)))))), ?_⟩
    refine ⟨_, rfl, n, rfl, _, rfl, itbT rfl ⟨_, rfl, _, _, rfl, rfl, ?_⟩⟩
    show Q (.bl (decide (0 ≤ n))) H
    rw [decide_eq_true h1]; exact q
theorem ok_isSign {f : Addr} {fd : FuncData} (T : Bk mg) (C : Cs mg) (F : Fun K "is_sign" "is_sign" sIsSign f fd) : FnOk P w K mg base CX0 1 f fd pV spSign := by
  have nd := scIsSign.nd
  refine F.ok scIsSign (fun vs H Q E h => ?_) (fun cdv A outer s H vs Q E hr h => ?_)
  · obtain ⟨z, rfl, _⟩ := h
    rfl
  · obtain ⟨z, rfl, hz, q⟩ := h
    refine ⟨_, (pss_cons (ps_if (PW.pt (pw_or (pt_not (pt_val (pe_callB (call_isiK1 (K := K) rfl) (by rfl) T.isinstance PyProof.Rows.boot_isinstance (pa_cons (pv 0) (pa_cons (pe_bltn (v := .ty "str") rfl T.str PyProof.Rows.boot_str rfl) pa_nil))))) (pw_or1 (pt_not (pt_chain op_le op_le pe_int (pe_callB call_len_str (by rfl) T.len PySem.boot_len (pa_cons (pv 0) pa_nil)) (pe_const C.LONGEST_SIGN rfl))))))
  (pss_one (ps_ret pe_bl))
  pss_nil)
 (pss_one (ps_ret (pe_callB (cr_allK (K := K) rfl rfl) (by rfl) T.all PyProof.Rows.boot_all (pa_cons (pe_lc (own := [("letter", 1)]) (g := gName 1) (tt := tYes) rfl nd (pi_str (pv 0)) (blkOk_by (own := [("letter", 1)]) (N := nIsSign) (sc := defScope sIsSign) (by decide +kernel)) (fun _ _ _ _ _ => pg_name (i := 1) nd rfl (Or.inl rfl)) (fun _ _ _ _ _ => pts_nil) (fun _ _ _ _ _ => (pe_chain op_le_str op_le_str pe_str (pv 1) pe_str))) pa_nil))))), ?_⟩
    unfold okS at hz
    rw [Bool.and_eq_true, Bool.and_eq_true] at hz
    obtain ⟨⟨z1, z2⟩, z3⟩ := hz
    have z1 := of_decide_eq_true z1
    have z2 := of_decide_eq_true z2
    refine ⟨_, rfl, .str z, .ty "str", .type "str", .type "str", true, rfl, .ty _, .base (.str z), kit_ty (by decide +kernel), _, rfl, itbF rfl ?_⟩
    refine ⟨_, rfl, z, rfl, lt1 _ (by omega), _, _, rfl, rfl, _, rfl, itbT (decide_eq_true (show (1 : Int) ≤ z.length by omega)) ⟨_, _, rfl, rfl, _, rfl, itbF (by rw [decide_eq_true (show (z.length : Int) ≤ 8 by omega)]; rfl) ?_⟩⟩
    refine ⟨_, rfl, z, rfl, fun D hD => ?_⟩
    refine lc_it walk_str (fun i H2 => Same H H2 ∧ H2 D = some (.lst ((List.replicate i true).map V.bl))) ⟨same_new hD, upd_same⟩ (fun _ _ _ _ => True.intro) ?_ ?_
    · rintro i x H2 H3 hi ⟨s2, h2⟩ ⟨rfl, c, hc, rfl⟩
      have hcm : c ∈ z.cps.toList := Array.mem_toList_iff.mpr (Array.mem_of_getElem? hc)
      have haz := List.all_eq_true.mp z3 c hcm
      unfold inAZ at haz
      rw [Bool.and_eq_true] at haz
      have hi8 : i < z.length := hi
      have fin : ∃ acc, H3 D = some (.lst acc) ∧ acc.length < sizeLine ∧ (Same H (upd H3 D (.lst (acc ++ [V.bl true]))) ∧ (upd H3 D (.lst (acc ++ [V.bl true]))) D = some (.lst ((List.replicate (i + 1) true).map V.bl))) :=
        ⟨_, h2, lt2 _ (by rw [List.length_map, List.length_replicate]; omega), s2.mut hD, by rw [upd_same, List.replicate_succ', List.map_append]; rfl⟩
      refine ⟨rfl, tyes ⟨_, rfl, _, _, rfl, rfl, _, rfl, ?_⟩⟩
      refine itbT haz.1 ⟨_, _, rfl, rfl, ?_⟩
      rw [haz.2]
      exact fin
    · rintro H2 ⟨s2, h2⟩
      exact ⟨D, _, rfl, sq h2, by show Q (.bl ((List.replicate z.cps.size true).all id)) H2; rw [show (List.replicate z.cps.size true).all id = true by simp]; exact q _ s2⟩
theorem ok_isSigns {f : Addr} {fd : FuncData} (T : Bk mg) (C : Cs mg) (D_is_sign : Def P w K mg base CX0 1 "is_sign" pV spSign) (F : Fun K "is_signs" "is_signs" sIsSigns f fd) : FnOk P w K mg base CX0 2 f fd pV spSigns := by
  have nd := scIsSigns.nd
  refine F.ok scIsSigns (fun vs H Q E h => ?_) (fun cdv A outer s H vs Q E hr h => ?_)
  · obtain ⟨a, ss, rfl, _⟩ := h
    rfl
  · obtain ⟨a, ss, rfl, ha, ho, q⟩ := h
    refine ⟨_, (pss_cons (ps_if (PW.pt (pw_or (pt_not (pt_val (pe_callB (call_isiK1 (K := K) rfl) (by rfl) T.isinstance PyProof.Rows.boot_isinstance (pa_cons (pv 0) (pa_cons (pe_bltn (v := .ty "tuple") rfl T.tuple PyProof.Rows.boot_tuple rfl) pa_nil))))) (pw_or1 (pt_cmpR op_gt (pe_callB (call_lenK (K := K) rfl) (by rfl) T.len PySem.boot_len (pa_cons (pv 0) pa_nil)) (pe_const C.MOST_SIGNS rfl) (nomark _)))))
  (pss_one (ps_ret pe_bl))
  pss_nil)
 (pss_cons (ps_set (i := 1) nd rfl (Or.inl rfl) pe_str)
 (pss_cons (ps_for PassesOwn.never rfl (pi_tupK (K := K) rfl (pv 0)) (pg_name (i := 2) nd rfl (Or.inl rfl))
  (pss_cons (ps_if (PW.pt (pw_or (pt_not (pt_val (pe_def D_is_sign (hr.mono (by decide)) rfl pass0 (pa_cons (pv 2) pa_nil)))) (pw_or1 (pt_cmpR op_le_str (pv 2) (pv 1) (nomark _)))))
  (pss_one (ps_ret pe_bl))
  pss_nil)
 (pss_one (ps_set (i := 1) nd rfl (Or.inl rfl) (pv 2)))))
 (pss_one (ps_ret pe_bl))))), ?_⟩
    unfold okSs at ho
    rw [Bool.and_eq_true] at ho
    have h6 := of_decide_eq_true ho.1
    refine ⟨_, rfl, .ref a, .ty "tuple", .type "tuple", .type "tuple", true, rfl, .ty _, .base (.tup ha), kit_ty (by decide +kernel), _, rfl, itbF rfl ?_⟩
    refine ⟨_, rfl, a, _, rfl, .inr (st ha), _, _, rfl, rfl, _, rfl, itbF (decide_eq_false (by rw [List.length_map]; omega)) ?_⟩
    refine ⟨_, rfl, a, rfl, ⟨_, st ha⟩, for_tup (K := K) (a := a) (xs := ss.map V.str) (fun i σ H1 => ∃ ah v2, σ = [some (.ref a), some (.str ah), v2] ∧ Same H H1 ∧ goSs ah (ss.drop i) = true) ?_ ?_ ?_ ?_⟩
    · exact ⟨"", none, rfl, fun _ _ h => h, ho.2⟩
    · rintro i σ H1 _ ⟨ah, v2, rfl, s1, _⟩
      exact st (s1 _ _ ha)
    · rintro i y σ H1 hy ⟨ah, v2, rfl, s1, hg⟩
      rw [List.getElem?_map] at hy
      cases he : ss[i]? with
      | none => rw [he] at hy; cases hy
      | some z =>
        rw [he] at hy
        obtain rfl := (Option.some.inj hy).symm
        have hi := lt_of_get he
        have e1 : ss.drop i = z :: ss.drop (i + 1) := by
          rw [List.drop_eq_getElem_cons hi]
          congr 1
          rw [List.getElem?_eq_getElem hi] at he
          exact Option.some.inj he
        rw [e1] at hg
        have hg' : (okS z && decide (ah.cps.toList < z.cps.toList) && goSs z (ss.drop (i + 1))) = true := hg
        rw [Bool.and_eq_true, Bool.and_eq_true] at hg'
        refine ⟨_, rfl, z, rfl, hg'.1.1, fun H2 s2 => ⟨_, rfl, itbF rfl ⟨_, rfl, _, rfl, _, _, rfl, rfl, _, rfl, itbF ?_ ⟨_, rfl, z, _, rfl, s1.trans s2, hg'.2⟩⟩⟩⟩
        rw [hg'.1.2]; rfl
    · rintro σ H1 ⟨ah, v2, rfl, s1, _⟩
      exact q _ s1
end
end K1


set_option Elab.async false
set_option linter.all false
set_option maxRecDepth 100000
set_option maxHeartbeats 2000000
namespace K1
open PySem PySem.Spec PyProof.Rows L2 RZ StX
theorem eqv_str (a b : Str) : PyData.eqv (.str a) (.str b) = (a == b) := by simp [PyData.eqv]
def nS (ss : List Str) (s : Str) : List Str := ss.filter fun x => !decide (x = s)
/-! ### signs -/
def ltS (a b : Str) : Prop := a.cps.toList < b.cps.toList
theorem ltS_trans {a b c : Str} (h : ltS a b) (k : ltS b c) : ltS a c := List.lt_trans (α := Nat) h k
theorem ltS_asymm {a b : Str} (h : ltS a b) : ¬ ltS b a := List.lt_asymm (α := Nat) h
theorem str_ext {a b : Str} (h : a.cps.toList = b.cps.toList) : a = b := by
  cases a with | mk x =>
  cases b with | mk y =>
  congr 1
  exact Array.toList_inj.mp h
theorem ltS_total {a b : Str} (h : ¬ ltS a b) (k : ¬ ltS b a) : a = b := str_ext (List.le_antisymm (List.not_lt.mp k) (List.not_lt.mp h))
theorem leS_trans {a b c : Str} (h : ¬ ltS b a) (k : ¬ ltS c b) : ¬ ltS c a := by
  unfold ltS at *
  rw [List.not_lt] at *
  exact List.le_trans h k
instance (a b : Str) : Decidable (ltS a b) := inferInstanceAs (Decidable (a.cps.toList < b.cps.toList))
def Asc (ss : List Str) : Prop := ss.Pairwise ltS
def insS (s : Str) : List Str → List Str
  | [] => [s]
  | x :: r => if ltS s x then s :: x :: r else x :: insS s r
theorem insS_perm (s : Str) : ∀ ss : List Str, (insS s ss).Perm (s :: ss)
  | [] => .refl _
  | x :: r => by
    unfold insS
    split
    · exact .refl _
    · exact ((insS_perm s r).cons x).trans (.swap s x r)
theorem insS_asc {s : Str} : ∀ {ss : List Str}, Asc ss → s ∉ ss → Asc (insS s ss)
  | [], _, _ => List.pairwise_singleton _ _
  | x :: r, h, hn => by
    unfold insS
    have h' := List.pairwise_cons.mp h
    split
    · rename_i c
      refine List.pairwise_cons.mpr ⟨fun y hy => ?_, h⟩
      rcases List.mem_cons.mp hy with rfl | hy
      · exact c
      · exact ltS_trans c (h'.1 y hy)
    · rename_i c
      refine List.pairwise_cons.mpr ⟨fun y hy => ?_, insS_asc h'.2 fun z => hn (List.mem_cons_of_mem _ z)⟩
      rcases List.mem_cons.mp ((insS_perm s r).mem_iff.mp hy) with rfl | hy
      · by_cases k : ltS x y
        · exact k
        · exact absurd (ltS_total k c) fun e => hn (by rw [e]; exact List.mem_cons_self)
      · exact h'.1 y hy
theorem rising_pw : ∀ (r : List Str) (x : Str), risingS x r = true → (x :: r).Pairwise fun a b => ¬ ltS b a
  | [], x, _ => List.pairwise_singleton _ _
  | y :: r, x, h => by
    have h : (!ltCps y.cps.toList x.cps.toList && risingS y r) = true := h
    rw [ltCps_eq, Bool.and_eq_true, Bool.not_eq_true', decide_eq_false_iff_not] at h
    have ih := rising_pw r y h.2
    refine List.pairwise_cons.mpr ⟨fun z hz => ?_, ih⟩
    rcases List.mem_cons.mp hz with rfl | hz
    · exact h.1
    · exact leS_trans h.1 ((List.pairwise_cons.mp ih).1 z hz)
theorem sorted_pw {ys : List Str} (h : sortedS ys = true) : ys.Pairwise fun a b => ¬ ltS b a := by
  cases ys with
  | nil => exact .nil
  | cons x r => exact rising_pw r x h
/-- what sorted tells of signs and a new one -/
theorem sorted_ins {ss ys : List Str} {s : Str} (ha : Asc ss) (hn : s ∉ ss) (hp : ys.Perm (ss ++ [s])) (h : sortedS ys = true) : ys = insS s ss := by
  have p2 : ys.Perm (insS s ss) := (hp.trans List.perm_append_comm).trans (insS_perm s ss).symm
  refine List.Perm.eq_of_pairwise (le := fun a b => decide (¬ ltS b a)) (fun a b _ _ x y => ?_) ?_ ?_ p2
  · exact ltS_total (of_decide_eq_true y) (of_decide_eq_true x)
  · exact (sorted_pw h).imp fun k => decide_eq_true k
  · exact (insS_asc ha hn).imp fun k => decide_eq_true (ltS_asymm k)
/-! what okSs says -/
theorem goSs_mem : ∀ {a : Str} {ss : List Str}, goSs a ss = true → (∀ s ∈ ss, okS s = true ∧ ltS a s) ∧ Asc ss
  | a, [], _ => ⟨fun s hs => (by cases hs), List.Pairwise.nil⟩
  | a, s :: r, h => by
    have h : (okS s && decide (ltS a s) && goSs s r) = true := h
    rw [Bool.and_eq_true, Bool.and_eq_true] at h
    obtain ⟨h1, h2⟩ := goSs_mem h.2
    have lt := of_decide_eq_true h.1.2
    refine ⟨fun x hx => ?_, List.pairwise_cons.mpr ⟨fun x hx => (h1 x hx).2, h2⟩⟩
    rcases List.mem_cons.mp hx with rfl | hx
    · exact ⟨h.1.1, lt⟩
    · exact ⟨(h1 x hx).1, ltS_trans lt (h1 x hx).2⟩
theorem goSs_of : ∀ {a : Str} {ss : List Str}, (∀ s ∈ ss, okS s = true ∧ ltS a s) → Asc ss → goSs a ss = true
  | a, [], _, _ => rfl
  | a, s :: r, h, k => by
    have h0 := h s List.mem_cons_self
    have k' := List.pairwise_cons.mp k
    show (okS s && decide (ltS a s) && goSs s r) = true
    rw [h0.1, decide_eq_true h0.2, goSs_of (fun x hx => ⟨(h x (List.mem_cons_of_mem _ hx)).1, k'.1 x hx⟩) k'.2]
    rfl
theorem okS_pos {s : Str} (h : okS s = true) : ltS "" s := by
  unfold okS at h
  rw [Bool.and_eq_true, Bool.and_eq_true] at h
  have h1 := of_decide_eq_true h.1.1
  show ([] : List Nat) < s.cps.toList
  cases e : s.cps.toList with
  | nil =>
    exfalso
    have : s.length = 0 := by
      show s.cps.size = 0
      rw [← Array.length_toList, e]; rfl
    omega
  | cons c r => exact List.nil_lt_cons c r
structure OkSs (ss : List Str) : Prop where
  len : ss.length ≤ 6
  ok : ∀ s ∈ ss, okS s = true
  asc : Asc ss
theorem okSs_iff {ss : List Str} : okSs ss = true ↔ OkSs ss := by
  unfold okSs
  rw [Bool.and_eq_true]
  constructor
  · rintro ⟨h1, h2⟩
    obtain ⟨a, b⟩ := goSs_mem h2
    exact ⟨of_decide_eq_true h1, fun s hs => (a s hs).1, b⟩
  · rintro ⟨h1, h2, h3⟩
    exact ⟨decide_eq_true h1, goSs_of (fun s hs => ⟨h2 s hs, okS_pos (h2 s hs)⟩) h3⟩
def wG (ss : List Str) (s : Str) : List Str := if s ∈ ss ∨ ss.length = 6 then ss else insS s ss
theorem wG_ok {ss : List Str} {s : Str} (h : OkSs ss) (hs : okS s = true) : OkSs (wG ss s) := by
  unfold wG
  split
  · exact h
  · rename_i c
    have c1 : s ∉ ss := fun z => c (.inl z)
    have c2 : ss.length ≠ 6 := fun z => c (.inr z)
    have p := insS_perm s ss
    refine ⟨by rw [p.length_eq]; have := h.len; simp only [List.length_cons]; omega, fun x hx => ?_, insS_asc h.asc c1⟩
    rcases List.mem_cons.mp (p.mem_iff.mp hx) with rfl | hx
    · exact hs
    · exact h.ok x hx
theorem nS_ok {ss : List Str} {s : Str} (h : OkSs ss) : OkSs (nS ss s) :=
  ⟨Nat.le_trans (List.length_filter_le _ _) h.len, fun x hx => h.ok x (List.mem_filter.mp hx).1, List.Pairwise.filter _ h.asc⟩
theorem strOk_of {s : Str} (h : okS s = true) : PyData.strOk s = true := by
  unfold okS at h
  rw [Bool.and_eq_true] at h
  show s.cps.all (fun c => decide (c < 1114112)) = true
  rw [← Array.all_toList, List.all_eq_true]
  intro c hc
  have := List.all_eq_true.mp h.2 c hc
  unfold inAZ at this
  rw [Bool.and_eq_true, Bool.not_eq_true', Bool.not_eq_true', decide_eq_false_iff_not, decide_eq_false_iff_not] at this
  refine decide_eq_true ?_
  have h2 : ¬ (122 < c) := fun z => this.2 (show ([122] : List Nat) < [c] from List.cons_lt_cons_iff.mpr (.inl z))
  omega
theorem g_lay : ∀ {ss : List Str}, (∀ s ∈ ss, okS s = true) → PyData.canLayAll0 (ss.map PyData.str) = true ∧ PyData.depthAll (ss.map PyData.str) = 0
  | [], _ => ⟨rfl, rfl⟩
  | s :: r, h => by
    obtain ⟨h1, h2⟩ := g_lay fun x hx => h x (List.mem_cons_of_mem _ hx)
    constructor
    · show (PyData.strOk s && PyData.canLayAll0 (r.map PyData.str)) = true
      rw [h1, strOk_of (h s List.mem_cons_self)]; rfl
    · show max 0 (PyData.depthAll (r.map PyData.str)) = 0
      rw [h2]; rfl
theorem g_shape {ss : List Str} (h : ∀ s ∈ ss, okS s = true) : SeqAt.shaped (.tuple (ss.map PyData.str)) = true := by
  obtain ⟨h1, h2⟩ := g_lay h
  unfold SeqAt.shaped
  have e1 : PyData.canLay0 (.tuple (ss.map PyData.str)) = true := h1
  have e2 : PyData.depth (.tuple (ss.map PyData.str)) ≤ 64 := by
    show PyData.depthAll (ss.map PyData.str) + 1 ≤ 64
    rw [h2]; omega
  rw [e1, decide_eq_true e2]; rfl
theorem g_eqv : ∀ xs ys : List Str, PyData.eqv (.tuple (xs.map PyData.str)) (.tuple (ys.map PyData.str)) = decide (xs = ys) := by
  have h : ∀ xs ys : List Str, PyData.eqvAll (xs.map PyData.str) (ys.map PyData.str) = decide (xs = ys) := by
    intro xs
    induction xs with
    | nil => intro ys; cases ys <;> simp [PyData.eqvAll]
    | cons x r ih =>
      intro ys
      cases ys with
      | nil => simp [PyData.eqvAll]
      | cons y t =>
        show (PyData.eqv (.str x) (.str y) && PyData.eqvAll (r.map PyData.str) (t.map PyData.str)) = decide (x :: r = y :: t)
        rw [ih, eqv_str]
        by_cases e : x = y
        · subst e; by_cases e2 : r = t <;> simp [e2]
        · rw [beq_eq_false_iff_ne.mpr e]; simp [e]
  intro xs ys
  exact h xs ys
end K1


set_option Elab.async false
set_option linter.all false
set_option maxRecDepth 100000
set_option maxHeartbeats 2000000
/-! Sets of ints made of a list or a tuple; x in a tuple of data; max with a default. -/
namespace K1
open PySem PySem.Spec PyProof.Rows L2 RZ StX
/-- a set of ints, however it was made -/
def SetI (P : Program) (w : World) (a : Addr) (S : Int → Bool) (n : Nat) : HO := .ext fun h => h.SetOf (intKind P w) a S n
theorem setI_new {P : Program} {w : World} {H : Hp} {h : Heap} {a : Addr} {S : Int → Bool} {n : Nat} (R : h.SetOf (intKind P w) a S n) : ObjOk P w H h a (SetI P w a S n) := by
  have ⟨o, es, ep, t, ho, r⟩ := R
  refine ⟨R, ⟨o, ho⟩, fun h1 h2 p k => ?_⟩
  have ⟨o', es', ep', t', ho', r'⟩ := p
  exact ⟨o', es', ep', t', k o' ho', r'⟩
theorem setI_get {X : Cx} {pins : List (Addr × Obj)} {σ : L2.St} {H : Hp} {s : Shared} {a : Addr} {S : Int → Bool} {n : Nat} (I : Inv X pins σ H s) (ha : H a = some (SetI X.prog X.w a S n)) : s.heap.SetOf (intKind X.prog X.w) a S n := (I.hok a _ ha).1
theorem range_getD (ns : List Int) : (List.range ns.length).map (fun i => ns.getD i 0) = ns := by
  refine List.ext_getElem (by rw [List.length_map, List.length_range]) fun i h1 h2 => ?_
  rw [List.getElem_map, List.getElem_range, List.getD_eq_getElem?_getD, List.getElem?_eq_getElem h2]; rfl
def rSetI (P : Program) (w : World) (neg : Bool) : R2 := fun x y H Q => ∃ k a S n, x = V.int k ∧ y = V.ref a ∧ H a = some (SetI P w a S n) ∧ Q (.bl (if neg then !S k else S k)) H
section
variable {X : Cx} {K : PySem.W.Frag} {P : Program} {w : World}
theorem or_sinI (hP : X.prog = P) (hw : X.w = w) : OpR X (compareOp .In) (rSetI P w false) := by
  subst hP hw
  intro pins s σ H x y v u Q I rx ry h
  obtain ⟨k, a, S, n, rfl, rfl, ha, q⟩ := h
  obtain rfl : u = Value.ref a := ry
  obtain ⟨t, rfl⟩ := rx
  exact wpAny_inSet_of (intKind_is _ _ _ _) rfl (setI_get I ha) ⟨.bl (S k), H, I.tok _, rfl, q⟩
theorem cr_setI (hP : X.prog = P) (hw : X.w = w) (hK : X.K = K) (hc : X.calm = true) : CallR X (.type "set") (fun xs H Q => ∃ (l : Addr) (ns : List Int), xs = [.ref l] ∧ SeqH H l (ns.map V.int) ∧ ns.length ≤ 1000 ∧ ∀ p n, H p = none → Q (.ref p) (upd H p (SetI P w p (fun j => decide (j ∈ ns)) n))) := by
  subst hP hw hK
  intro pins s σ H xs us Q I r h
  obtain ⟨l, ns, rfl, hq, hl, q⟩ := h
  cases r with
  | cons r rr =>
    cases rr
    cases r
    rcases hq with hq | hq
    · obtain ⟨its, rv, pt, hz⟩ := I.list (sq hq)
      have hi : IntsAre its.toArray.toList ns := ints_of_vals rv
      have hsz : its.toArray.size = ns.length := by
        have := IntsAre.length hi
        rw [Array.length_toList] at this
        exact this
      refine call_set_list (I.ok.hd hc) pt.isList hi (by unfold scanBound; omega) fun h' tk R1 k => ?_
      have R2 : h'.SetOf (intKind X.prog X.w) s.heap.objs.size (fun j => decide (j ∈ ns)) (PyProof.Rows.firstMet (fun i => ns.getD i 0) its.toArray.size).length := by
        refine PyProof.Rows.SetOf_congr R1 (fun j => ?_) rfl
        rw [PyProof.Rows.firstMet_any, hsz, range_getD]
        by_cases hj : j ∈ ns
        · rw [decide_eq_true hj]; exact List.any_eq_true.mpr ⟨j, hj, beq_self_eq_true j⟩
        · rw [decide_eq_false hj]; exact List.any_eq_false.mpr fun x hx e => hj (eq_of_beq e ▸ hx)
      exact ⟨.ref _, upd H s.heap.objs.size (SetI X.prog X.w s.heap.objs.size (fun j => decide (j ∈ ns)) _), I.laid (t' := tk) (fun b o e => k b o (Heap.lt_size e) e) (Nat.le_refl _) (setI_new R2), rfl, q _ _ (I.hok.fresh (Nat.le_refl _))⟩
    · obtain ⟨its, rv, pt, hz⟩ := I.tuple (st hq)
      have hi : IntsAre its.toArray.toList ns := ints_of_vals rv
      refine call_set_tupI ns (I.ok.hd hc) (show s.heap.IsTuple l its.toArray from pt) hi (by unfold scanBound; omega) fun h' tk c R1 hcn k => ?_
      exact ⟨.ref _, upd H s.heap.objs.size (SetI X.prog X.w s.heap.objs.size (fun j => decide (j ∈ ns)) c), I.laid (t' := tk) k (Nat.le_refl _) (setI_new R1.setOf), rfl, q _ _ (I.hok.fresh (Nat.le_refl _))⟩
/-- x not in a tuple of data -/
def rNotInT (K : PySem.W.Frag) : R2 := fun x y H Q => ∃ d ds, Dp K H x d ∧ Dp K H y (.tuple ds) ∧ SeqAt.shaped d = true ∧ SeqAt.shaped (.tuple ds) = true ∧ Q (.bl (!ds.any fun z => PyData.eqv z d)) H
theorem op_notInT (hK : X.K = K) (hu : X.A.units + 65 < cLine) : OpR X (compareOp .NotIn) (rNotInT K) := by
  subst hK
  intro pins s σ H x y v u Q I rx ry h
  obtain ⟨d, ds, hd, he, sd, se, q⟩ := h
  obtain ⟨as, r1⟩ := Dp.reads I d x v hd rx
  obtain ⟨bs, r2⟩ := Dp.reads I (.tuple ds) y u he ry
  exact SeqAt.notIn_tuple_reads r2 r1 (SeqAt.canLay_of_shaped se) (SeqAt.canLay_of_shaped sd) (room_in_shaped sd hu) ⟨.bl _, H, I, rfl, q⟩
theorem reads_ints {h : Heap} : ∀ {ns : List Int} {us : List Value}, Vals (ns.map V.int) us → ReadsAll h us (ns.map PyData.int) []
  | [], _, .nil => .nil
  | n :: ns, _, .cons r rs => by
    obtain ⟨t, rfl⟩ := r
    exact .cons (.int n t) (reads_ints rs)
theorem foldl_max : ∀ (ns : List Int) (n : Int), ns.foldl max n ∈ n :: ns ∧ ∀ y ∈ n :: ns, y ≤ ns.foldl max n
  | [], n => ⟨List.mem_cons_self, fun y hy => by rw [List.mem_singleton.mp hy]; exact Int.le_refl _⟩
  | k :: ns, n => by
    obtain ⟨h1, h2⟩ := foldl_max ns (max n k)
    show ns.foldl max (max n k) ∈ _ ∧ ∀ y ∈ _, y ≤ ns.foldl max (max n k)
    have h3 := h2 _ List.mem_cons_self
    refine ⟨?_, fun y hy => ?_⟩
    · rcases List.mem_cons.mp h1 with e | e
      · rw [e]
        rcases (by omega : max n k = n ∨ max n k = k) with z | z
        · rw [z]; exact List.mem_cons_self
        · rw [z]; exact List.mem_cons_of_mem _ List.mem_cons_self
      · exact List.mem_cons_of_mem _ (List.mem_cons_of_mem _ e)
    · rcases List.mem_cons.mp hy with rfl | hy
      · omega
      · rcases List.mem_cons.mp hy with rfl | hy
        · omega
        · exact h2 y (List.mem_cons_of_mem _ hy)
def rMaxD (K : PySem.W.Frag) : List V → List V → Hp → VK → Prop := fun xs zs H Q => ∃ (a : Addr) (ns : List Int) (d : V), xs = [.ref a] ∧ zs = [d] ∧ SqL K H a (ns.map V.int) ∧ (ns = [] → Q d H) ∧ ∀ m, m ∈ ns → (∀ y ∈ ns, y ≤ m) → Q (.int m) H
theorem cr_maxD (hK : X.K = K) (hc : X.calm = true) (hu : X.A.units + 64 < cLine) : CallRK X (.builtin "max") [(Str.ofString "default")] (rMaxD K) := by
  subst hK
  intro pins s σ H xs zs us ws Q I r rz h
  obtain ⟨a, ns, d, rfl, rfl, hs, h0, h1⟩ := h
  obtain ⟨its, rv, hl, _⟩ := I.list hs
  rw [Vals.ref1 r]
  obtain ⟨u, rfl, ru⟩ := vals1 rz
  have hd : PyData.depthAll (ns.map PyData.int) = 0 := depth_ints ns
  have ha : PySem.W.AlikeAll (ns.map PyData.int) := PySem.W.alikeAll_datum (α := Int) ns
  refine PySem.W.max_list_default (xs := ns.map PyData.int) (as := []) (I.ok.hd hc) hl.isList (reads_ints rv) ha (by rw [hd]; omega) (fun e h' tk hk => ?_) fun y ys i v h' tk bs e hi hr hk => ?_
  · exact ⟨d, H, I.kept hk, ru, h0 (List.map_eq_nil_iff.mp e)⟩
  · cases ns with
    | nil => cases e
    | cons n ns =>
      obtain ⟨e1, e2⟩ := List.cons.inj e
      subst e1 e2
      rw [PySem.W.maxD_ints] at hr
      cases hr with
      | int _ t => exact ⟨.int _, H, I.kept hk, ⟨_, rfl⟩, h1 _ (foldl_max ns n).1 (foldl_max ns n).2⟩
end
section
variable {P : Program} {w : World} {K : PySem.W.Frag} {mg : Str → Option Value} {base : Heap}
end
end K1


set_option Elab.async false
set_option linter.all false
set_option maxRecDepth 100000
set_option maxHeartbeats 4000000
/-! The kinds (is_integer, is_number, is_mark, is_sign, is_signs, is_numbers) of any value that is told as data. -/
namespace K1
open PySem PySem.Spec PyProof.Rows L2 RZ StX
/-- a def that tells a bool of one value, and makes nothing -/
def spB1 (f : PyData → Bool) : Sp := fun vs H Q _ => ∃ (x : V) (d : PyData), vs = [x] ∧ Dv H x d ∧ Q (.bl (f d)) H
def isMrk : PyData → Bool | .int n => decide (0 ≤ n) | _ => false
def shortS : PyData → Prop | .str s => s.length ≤ 1000 | _ => True
def sgB : PyData → Bool | .str s => okS s | _ => false
def goSD : Str → List PyData → Bool
  | _, [] => true
  | a, .str s :: r => okS s && decide (a.cps.toList < s.cps.toList) && goSD s r
  | _, _ :: _ => false
def sgsB : PyData → Bool | .tuple ds => decide (ds.length ≤ 6) && goSD "" ds | _ => false
def spSignD : Sp := fun vs H Q _ => ∃ (x : V) (d : PyData), vs = [x] ∧ Dv H x d ∧ shortS d ∧ ∀ H', Same H H' → Q (.bl (sgB d)) H'
def spSignsD : Sp := fun vs H Q _ => ∃ (x : V) (d : PyData), vs = [x] ∧ Dv H x d ∧ (itemsD d).length ≤ 1000 ∧ (∀ e ∈ itemsD d, shortS e) ∧ ∀ H', Same H H' → Q (.bl (sgsB d)) H'
abbrev sIsMrk : Stmt := st_is_mark
theorem scIsMrk : FnScope nV pV (defScope sIsMrk) := ⟨rfl, rfl, rfl, by decide +kernel, rfl, by decide +kernel, by decide +kernel⟩
theorem goSD_strs : ∀ (a : Str) (ss : List Str), goSD a (ss.map PyData.str) = goSs a ss
  | _, [] => rfl
  | a, s :: r => by show (okS s && decide (a.cps.toList < s.cps.toList) && goSD s (r.map PyData.str)) = _; rw [goSD_strs s r]; rfl
theorem sgsB_strs (ss : List Str) : sgsB (.tuple (ss.map PyData.str)) = okSs ss := by
  show (decide ((ss.map PyData.str).length ≤ 6) && goSD "" (ss.map PyData.str)) = _
  rw [goSD_strs, List.length_map]; rfl
section
variable {P : Program} {w : World} {K : PySem.W.Frag} {mg : Str → Option Value} {base : Heap}
theorem ok_isIntD {f : Addr} {fd : FuncData} (T : Bk mg) (F : Fun K "is_integer" "is_integer" sIsInt f fd) : FnOk P w K mg base CX0 1 f fd pV (spB1 isInt) := by
  refine F.ok scIsInt (fun vs H Q E h => ?_) (fun cdv A outer s H vs Q E hr h => ?_)
  · obtain ⟨x, d, rfl, _⟩ := h
    rfl
  · obtain ⟨x, d, rfl, hd, q⟩ := h
    obtain ⟨b1, b2, h1, h2, hb⟩ := kit_int d
    have ty := hd.ty (K := K)
    refine ⟨_, (pss_one (ps_ret (pe_and (pe_callB (call_isiK1 (K := K) rfl) (by rfl) T.isinstance PyProof.Rows.boot_isinstance (pa_cons (pv 0) (pa_cons (pe_bltn (v := .ty "int") rfl T.int PyProof.Rows.boot_int rfl) pa_nil))) (pe_one (pe_not (pe_callB (call_isiK1 (K := K) rfl) (by rfl) T.isinstance PyProof.Rows.boot_isinstance (pa_cons (pv 0) (pa_cons (pe_bltn (v := .ty "bool") rfl T.bool PyProof.Rows.boot_bool rfl) pa_nil)))))))), ?_⟩
    refine ⟨_, rfl, x, .ty "int", .type _, .type "int", b1, rfl, .ty _, ty, kit_ty h1, _, rfl, ?_⟩
    rw [← hb] at q
    cases b1 with
    | true => exact itbT rfl ⟨_, rfl, x, .ty "bool", .type _, .type "bool", b2, rfl, .ty _, ty, kit_ty h2, _, rfl, q⟩
    | false => exact itbF rfl q
theorem ok_isNumD {f : Addr} {fd : FuncData} (D_is_integer : Def P w K mg base CX0 1 "is_integer" pV (spB1 isInt)) (F : Fun K "is_number" "is_number" sIsNum f fd) : FnOk P w K mg base CX0 2 f fd pV (spB1 isNum) := by
  refine F.ok scIsNum (fun vs H Q E h => ?_) (fun cdv A outer s H vs Q E hr h => ?_)
  · obtain ⟨x, d, rfl, _⟩ := h
    rfl
  · obtain ⟨x, d, rfl, hd, q⟩ := h
    refine ⟨_, (pss_one (ps_ret (pe_and (pe_def D_is_integer (hr.mono (by decide)) rfl pass0 (pa_cons (pv 0) pa_nil)) (pe_one (pe_cmpR op_ge (pv 0) pe_int (nomark _)))))), ?_⟩
    refine ⟨_, rfl, x, d, rfl, hd, _, rfl, ?_⟩
    cases hd with
    | int n => exact itbT rfl ⟨_, rfl, _, _, rfl, rfl, q⟩
    | _ => exact itbF rfl q
theorem ok_isMrkD {f : Addr} {fd : FuncData} (D_is_integer : Def P w K mg base CX0 1 "is_integer" pV (spB1 isInt)) (F : Fun K "is_mark" "is_mark" sIsMrk f fd) : FnOk P w K mg base CX0 2 f fd pV (spB1 isMrk) := by
  refine F.ok scIsMrk (fun vs H Q E h => ?_) (fun cdv A outer s H vs Q E hr h => ?_)
  · obtain ⟨x, d, rfl, _⟩ := h
    rfl
  · obtain ⟨x, d, rfl, hd, q⟩ := h
    refine ⟨_, (pss_one (ps_ret (pe_and (pe_def D_is_integer (hr.mono (by decide)) rfl pass0 (pa_cons (pv 0) pa_nil)) (pe_one (pe_cmpR op_ge (pv 0) pe_int (nomark _)))))), ?_⟩
    refine ⟨_, rfl, x, d, rfl, hd, _, rfl, ?_⟩
    cases hd with
    | int n => exact itbT rfl ⟨_, rfl, _, _, rfl, rfl, q⟩
    | _ => exact itbF rfl q
theorem ok_isSignD {f : Addr} {fd : FuncData} (T : Bk mg) (C : Cs mg) (F : Fun K "is_sign" "is_sign" sIsSign f fd) : FnOk P w K mg base CX0 1 f fd pV spSignD := by
  have nd := scIsSign.nd
  refine F.ok scIsSign (fun vs H Q E h => ?_) (fun cdv A outer s H vs Q E hr h => ?_)
  · obtain ⟨x, d, rfl, _⟩ := h
    rfl
  · obtain ⟨x, d, rfl, hd, hsh, q⟩ := h
    refine ⟨_, (pss_cons (ps_if (PW.pt (pw_or (pt_not (pt_val (pe_callB (call_isiK1 (K := K) rfl) (by rfl) T.isinstance PyProof.Rows.boot_isinstance (pa_cons (pv 0) (pa_cons (pe_bltn (v := .ty "str") rfl T.str PyProof.Rows.boot_str rfl) pa_nil))))) (pw_or1 (pt_not (pt_chain op_le op_le pe_int (pe_callB call_len_str (by rfl) T.len PySem.boot_len (pa_cons (pv 0) pa_nil)) (pe_const C.LONGEST_SIGN rfl))))))
  (pss_one (ps_ret pe_bl))
  pss_nil)
 (pss_one (ps_ret (pe_callB (cr_allK (K := K) rfl rfl) (by rfl) T.all PyProof.Rows.boot_all (pa_cons (pe_lc (own := [("letter", 1)]) (g := gName 1) (tt := tYes) rfl nd (pi_str (pv 0)) (blkOk_by (own := [("letter", 1)]) (N := nIsSign) (sc := defScope sIsSign) (by decide +kernel)) (fun _ _ _ _ _ => pg_name (i := 1) nd rfl (Or.inl rfl)) (fun _ _ _ _ _ => pts_nil) (fun _ _ _ _ _ => (pe_chain op_le_str op_le_str pe_str (pv 1) pe_str))) pa_nil))))), ?_⟩
    refine ⟨_, rfl, x, .ty "str", .type _, .type "str", isStr d, rfl, .ty _, hd.ty, kit_ty (kit_str d), _, rfl, ?_⟩
    by_cases hs : isStr d = true
    · refine itbF (by rw [hs]; rfl) ?_
      cases hd with
      | str z =>
        have hz : z.length ≤ 1000 := hsh
        refine ⟨_, rfl, z, rfl, lt1 _ (by omega), _, _, rfl, rfl, _, rfl, ?_⟩
        by_cases c1 : (1 : Int) ≤ z.length
        · refine itbT (decide_eq_true c1) ⟨_, _, rfl, rfl, _, rfl, ?_⟩
          by_cases c2 : (z.length : Int) ≤ 8
          · refine itbF (by rw [decide_eq_true c2]; rfl) ?_
            refine ⟨_, rfl, z, rfl, fun D hD => ?_⟩
            refine lc_it walk_str (fun i H2 => Same H H2 ∧ H2 D = some (.lst (((z.cps.toList.take i).map inAZ).map V.bl))) ⟨same_new hD, upd_same⟩ (fun _ _ _ _ => True.intro) ?_ ?_
            · rintro i x H2 H3 hi ⟨s2, h2⟩ ⟨rfl, c, hc, rfl⟩
              have hcl : z.cps.toList[i]? = some c := by rw [Array.getElem?_toList]; exact hc
              have hi8 : i < z.length := hi
              have fin : ∀ b, b = inAZ c → ∃ acc, H3 D = some (.lst acc) ∧ acc.length < sizeLine ∧ (Same H (upd H3 D (.lst (acc ++ [V.bl b]))) ∧ (upd H3 D (.lst (acc ++ [V.bl b]))) D = some (.lst (((z.cps.toList.take (i + 1)).map inAZ).map V.bl))) := fun b hb =>
                ⟨_, h2, lt2 _ (by rw [List.length_map, List.length_map, List.length_take]; omega), s2.mut hD, by rw [upd_same, take_more hcl, hb]; simp⟩
              refine ⟨rfl, tyes ⟨_, rfl, _, _, rfl, rfl, _, rfl, ?_⟩⟩
              by_cases c3 : (!decide ([c] < ("a" : Str).cps.toList)) = true
              · refine itbT c3 ⟨_, _, rfl, rfl, ?_⟩
                exact fin _ (by unfold inAZ; rw [c3, Bool.true_and])
              · have c3 : (!decide ([c] < ("a" : Str).cps.toList)) = false := by simpa using c3
                refine itbF c3 ?_
                exact fin _ (by unfold inAZ; rw [c3, Bool.false_and])
            · rintro H2 ⟨s2, h2⟩
              rw [show z.cps.size = z.cps.toList.length from (Array.length_toList).symm, List.take_length] at h2
              refine ⟨D, _, rfl, sq h2, ?_⟩
              have e : sgB (.str z) = ((z.cps.toList.map inAZ)).all id := by
                show (decide (1 ≤ z.length) && decide (z.length ≤ 8) && z.cps.toList.all inAZ) = _
                rw [decide_eq_true (show 1 ≤ z.length by omega), decide_eq_true (show z.length ≤ 8 by omega)]; simp
              rw [← e]
              exact q _ s2
          · refine itbT (by rw [decide_eq_false c2]; rfl) ?_
            have e : sgB (.str z) = false := by
              show (decide (1 ≤ z.length) && decide (z.length ≤ 8) && _) = _
              rw [decide_eq_false (show ¬ z.length ≤ 8 by omega)]; simp
            rw [e] at q
            exact q _ fun _ _ h => h
        · refine itbF (decide_eq_false c1) ⟨_, rfl, itbT rfl ?_⟩
          have e : sgB (.str z) = false := by
            show (decide (1 ≤ z.length) && _ && _) = _
            rw [decide_eq_false (show ¬ 1 ≤ z.length by omega)]; rfl
          rw [e] at q
          exact q _ fun _ _ h => h
      | _ => cases hs
    · have hs' : isStr d = false := by simpa using hs
      refine itbT (by rw [hs']; rfl) (itbT rfl ?_)
      have e : sgB d = false := by cases d <;> first | rfl | cases hs'
      rw [e] at q
      exact q _ fun _ _ h => h
theorem ok_isSignsD {f : Addr} {fd : FuncData} (T : Bk mg) (C : Cs mg) (D_is_sign : Def P w K mg base CX0 1 "is_sign" pV spSignD) (F : Fun K "is_signs" "is_signs" sIsSigns f fd) : FnOk P w K mg base CX0 2 f fd pV spSignsD := by
  have nd := scIsSigns.nd
  refine F.ok scIsSigns (fun vs H Q E h => ?_) (fun cdv A outer s H vs Q E hr h => ?_)
  · obtain ⟨x, d, rfl, _⟩ := h
    rfl
  · obtain ⟨x, d, rfl, hd, hl, hsh, q⟩ := h
    refine ⟨_, (pss_cons (ps_if (PW.pt (pw_or (pt_not (pt_val (pe_callB (call_isiK1 (K := K) rfl) (by rfl) T.isinstance PyProof.Rows.boot_isinstance (pa_cons (pv 0) (pa_cons (pe_bltn (v := .ty "tuple") rfl T.tuple PyProof.Rows.boot_tuple rfl) pa_nil))))) (pw_or1 (pt_cmpR op_gt (pe_callB (call_lenK (K := K) rfl) (by rfl) T.len PySem.boot_len (pa_cons (pv 0) pa_nil)) (pe_const C.MOST_SIGNS rfl) (nomark _)))))
  (pss_one (ps_ret pe_bl))
  pss_nil)
 (pss_cons (ps_set (i := 1) nd rfl (Or.inl rfl) pe_str)
 (pss_cons (ps_for PassesOwn.never rfl (pi_tupK (K := K) rfl (pv 0)) (pg_name (i := 2) nd rfl (Or.inl rfl))
  (pss_cons (ps_if (PW.pt (pw_or (pt_not (pt_val (pe_def D_is_sign (hr.mono (by decide)) rfl pass0 (pa_cons (pv 2) pa_nil)))) (pw_or1 (pt_cmpR op_le_str (pv 2) (pv 1) (nomark _)))))
  (pss_one (ps_ret pe_bl))
  pss_nil)
 (pss_one (ps_set (i := 1) nd rfl (Or.inl rfl) (pv 2)))))
 (pss_one (ps_ret pe_bl))))), ?_⟩
    refine ⟨_, rfl, x, .ty "tuple", .type _, .type "tuple", isTup d, rfl, .ty _, hd.ty, kit_ty (kit_tup d), _, rfl, ?_⟩
    by_cases ht : isTup d = true
    · refine itbF (by rw [ht]; rfl) ?_
      obtain ⟨a, xs, rfl, ha, hA, ed⟩ := hd.tupD ht
      have lx := hA.len
      refine ⟨_, rfl, a, _, rfl, .inr (st ha), _, _, rfl, rfl, _, rfl, ?_⟩
      by_cases c6 : (itemsD d).length ≤ 6
      · refine itbF (decide_eq_false (by omega)) ?_
        have e0 : sgsB d = goSD "" (itemsD d) := by
          rw [ed]; show (decide ((itemsD d).length ≤ 6) && _) = _; rw [decide_eq_true c6]; rfl
        rw [e0] at q
        refine ⟨_, rfl, a, rfl, ⟨_, st ha⟩, for_tup (K := K) (a := a) (xs := xs) (fun i σ H1 => ∃ ah v2, σ = [some (.ref a), some (.str ah), v2] ∧ Same H H1 ∧ goSD "" (itemsD d) = goSD ah ((itemsD d).drop i)) ?_ ?_ ?_ ?_⟩
        · exact ⟨"", none, rfl, fun _ _ h => h, rfl⟩
        · rintro i σ H1 _ ⟨ah, v2, rfl, s1, _⟩
          exact st (s1 _ _ ha)
        · rintro i y σ H1 hy ⟨ah, v2, rfl, s1, hg⟩
          obtain ⟨e, he, hde⟩ := hA.get hy
          have hi := lt_of_get he
          have e1 : (itemsD d).drop i = e :: (itemsD d).drop (i + 1) := by
            rw [List.drop_eq_getElem_cons hi]
            congr 1
            rw [List.getElem?_eq_getElem hi] at he
            exact Option.some.inj he
          rw [e1] at hg
          refine ⟨_, rfl, y, e, rfl, hde.same s1, hsh e (List.mem_of_getElem? he), fun H2 s2 => ⟨_, rfl, ?_⟩⟩
          have s12 := s1.trans s2
          have bad : goSD ah (e :: (itemsD d).drop (i + 1)) = false → Q (.bl false) H2 := fun z => by rw [hg, z] at q; exact q _ s12
          cases hde with
          | str z =>
            by_cases cz : okS z = true
            · refine itbF (by show (!okS z) = false; rw [cz]; rfl) ⟨_, rfl, _, rfl, _, _, rfl, rfl, _, rfl, ?_⟩
              by_cases c2 : ah.cps.toList < z.cps.toList
              · refine itbF (by rw [decide_eq_true c2]; rfl) ⟨_, rfl, z, _, rfl, s12, ?_⟩
                rw [hg]
                show (okS z && decide (ah.cps.toList < z.cps.toList) && goSD z _) = _
                rw [cz, decide_eq_true c2]; rfl
              · refine itbT (by rw [decide_eq_false c2]; rfl) ?_
                exact bad (by show (okS z && decide (ah.cps.toList < z.cps.toList) && goSD z _) = _; rw [decide_eq_false c2]; simp)
            · have cz : okS z = false := by simpa using cz
              refine itbT (by show (!okS z) = true; rw [cz]; rfl) (itbT rfl ?_)
              exact bad (by show (okS z && decide (ah.cps.toList < z.cps.toList) && goSD z _) = _; rw [cz]; rfl)
          | _ => exact itbT rfl (itbT rfl (bad rfl))
        · rintro σ H1 ⟨ah, v2, rfl, s1, hg⟩
          rw [lx, List.drop_length] at hg
          rw [hg] at q
          exact q _ s1
      · refine itbT (decide_eq_true (by omega)) ?_
        have e0 : sgsB d = false := by
          rw [ed]; show (decide ((itemsD d).length ≤ 6) && _) = _; rw [decide_eq_false c6]; rfl
        rw [e0] at q
        exact q _ fun _ _ h => h
    · have hs' : isTup d = false := by simpa using ht
      refine itbT (by rw [hs']; rfl) (itbT rfl ?_)
      have e : sgsB d = false := by cases d <;> first | rfl | cases hs'
      rw [e] at q
      exact q _ fun _ _ h => h
end
end K1


set_option Elab.async false
set_option linter.all false
set_option maxRecDepth 100000
set_option maxHeartbeats 8000000
/-! k23: _is_entry, of any data. -/
namespace K1
open PySem PySem.Spec PyProof.Rows L2 RZ StX
abbrev sEn : Stmt := st__is_entry
theorem scEn : FnScope nV pV (defScope sEn) := ⟨rfl, rfl, rfl, by decide +kernel, rfl, by decide +kernel, by decide +kernel⟩
/-- data that are not too large for is_signs -/
def sgW (d : PyData) : Prop := (itemsD d).length ≤ 1000 ∧ ∀ e ∈ itemsD d, shortS e
def enW (d : PyData) : Prop := (itemsD d).length ≤ 1000 ∧ ∀ e ∈ itemsD d, sgW e
def enB : PyData → Bool
  | .tuple [a, b, c] => isNum a && sgsB b && isMrk c
  | _ => false
def spEn : Sp := fun vs H Q _ => ∃ (x : V) (d : PyData), vs = [x] ∧ Dv H x d ∧ enW d ∧ ∀ H', Same H H' → Q (.bl (enB d)) H'
theorem enB_len {ds : List PyData} (h : ds.length ≠ 3) : enB (.tuple ds) = false := by
  unfold enB
  split
  · rename_i a b c e; cases e; exact absurd rfl h
  · rfl
section
variable {P : Program} {w : World} {K : PySem.W.Frag} {mg : Str → Option Value} {base : Heap}
theorem ok_enD {f : Addr} {fd : FuncData} (T : Bk mg) (D_is_number : Def P w K mg base CX0 2 "is_number" pV (spB1 isNum)) (D_is_signs : Def P w K mg base CX0 2 "is_signs" pV spSignsD) (D_is_mark : Def P w K mg base CX0 2 "is_mark" pV (spB1 isMrk))
    (F : Fun K "_is_entry" "_is_entry" sEn f fd) : FnOk P w K mg base CX0 3 f fd pV spEn := by
  have nd := scEn.nd
  refine F.ok scEn (fun vs H Q E h => ?_) (fun cdv A outer s H vs Q E hr h => ?_)
  · obtain ⟨x, d, rfl, _⟩ := h
    rfl
  · obtain ⟨x, d, rfl, hd, hw, q⟩ := h
    refine ⟨_, (pss_cons (ps_if (PW.pt (pw_or (pt_not (pt_val (pe_callB (call_isiK1 (K := K) rfl) (by rfl) T.isinstance PyProof.Rows.boot_isinstance (pa_cons (pv 0) (pa_cons (pe_bltn (v := .ty "tuple") rfl T.tuple PyProof.Rows.boot_tuple rfl) pa_nil))))) (pw_or1 (pt_cmpR op_ne (pe_callB (call_lenK (K := K) rfl) (by rfl) T.len PySem.boot_len (pa_cons (pv 0) pa_nil)) pe_int (nomark _)))))
  (pss_one (ps_ret pe_bl))
  pss_nil)
 (pss_one (ps_ret (pe_and (pe_def D_is_number (hr.mono (by decide)) rfl pass0 (pa_cons (pe_ix (ix_tupK (K := K) rfl) (pv 0) pe_int (fun _ _ => rfl)) pa_nil)) (pe_and (pe_def D_is_signs (hr.mono (by decide)) rfl pass0 (pa_cons (pe_ix (ix_tupK (K := K) rfl) (pv 0) pe_int (fun _ _ => rfl)) pa_nil)) (pe_one (pe_def D_is_mark (hr.mono (by decide)) rfl pass0 (pa_cons (pe_ix (ix_tupK (K := K) rfl) (pv 0) pe_int (fun _ _ => rfl)) pa_nil)))))))), ?_⟩
    refine ⟨_, rfl, x, .ty "tuple", .type _, .type "tuple", isTup d, rfl, .ty _, hd.ty, kit_ty (kit_tup d), _, rfl, ?_⟩
    by_cases ht : isTup d = true
    case neg =>
      refine itbT (by rw [show isTup d = false by simpa using ht]; rfl) (itbT rfl ?_)
      have e : enB d = false := by cases d <;> first | rfl | exact absurd rfl ht
      rw [e] at q
      exact q H fun _ _ h => h
    refine itbF (by rw [ht]; rfl) ?_
    obtain ⟨a, xs, rfl, ha, hA, ed⟩ := hd.tupD ht
    have lx := hA.len
    refine ⟨_, rfl, a, _, rfl, .inr (st ha), rfl, _, rfl, ?_⟩
    by_cases c3 : xs.length = 3
    case neg =>
      refine itbT (by show (!decide (V.int (xs.length : Nat) = V.int 3)) = true; rw [decide_eq_false (fun z => c3 (by injection z with z; omega))]; rfl) ?_
      rw [ed, enB_len (by omega)] at q
      exact q H fun _ _ h => h
    refine itbF (by rw [c3]; rfl) ?_
    unfold enW at hw
    generalize itemsD d = ds at hA lx ed hw
    subst ed
    obtain ⟨x0, x1, x2, rfl⟩ : ∃ x0 x1 x2, xs = [x0, x1, x2] := by
      match xs, c3 with
      | [x0, x1, x2], _ => exact ⟨_, _, _, rfl⟩
    cases hA with | cons h0 hA =>
    cases hA with | cons h1 hA =>
    cases hA with | cons h2 hA =>
    cases hA
    rename_i e0 e1 e2
    have w1 : sgW e1 := hw.2 e1 (by simp)
    refine ⟨_, rfl, a, _, 0, x0, rfl, rfl, st ha, atI_nat (j := 0) rfl, x0, e0, rfl, h0, ?_⟩
    refine ⟨_, rfl, ?_⟩
    have eq : enB (.tuple [e0, e1, e2]) = (isNum e0 && sgsB e1 && isMrk e2) := rfl
    rw [eq] at q
    cases c0 : isNum e0 with
    | false =>
      refine itbF rfl ?_
      rw [c0] at q
      exact q H fun _ _ h => h
    | true =>
      refine itbT rfl ⟨_, rfl, a, _, 1, x1, rfl, rfl, st ha, atI_nat (j := 1) rfl, x1, e1, rfl, h1, w1.1, w1.2, fun H1 s1 => ⟨_, rfl, ?_⟩⟩
      cases c1 : sgsB e1 with
      | false =>
        refine itbF rfl ?_
        rw [c0, c1] at q
        exact q H1 s1
      | true =>
        refine itbT rfl ⟨_, rfl, a, _, 2, x2, rfl, rfl, st (s1 _ _ ha), atI_nat (j := 2) rfl, x2, e2, rfl, h2.same s1, ?_⟩
        rw [c0, c1] at q
        exact q H1 s1
end
end K1


set_option Elab.async false
set_option linter.all false
set_option maxRecDepth 100000
set_option maxHeartbeats 8000000
/-! k23: is_notice, of any data. -/
namespace K1
open PySem PySem.Spec PyProof.Rows L2 RZ StX
abbrev sNo : Stmt := st_is_notice
abbrev nNo : List Str := ["value", "word"]
theorem scNo : FnScope nNo pV (defScope sNo) := ⟨rfl, rfl, rfl, by decide +kernel, rfl, by decide +kernel, by decide +kernel⟩
def no3 : List PyData → Bool
  | [a, b, c] => isNum a && sgsB b && isMrk c
  | _ => false
def no1 : List PyData → Bool
  | [a] => isNum a
  | _ => false
def no2 : List PyData → Bool
  | [a, b] => isMrk a && isNum b
  | _ => false
def noB : PyData → Bool
  | .tuple (.str w :: r) => if w = "come" ∨ w = "letter" then no3 r else if w = "gone" then no1 r else if w = "done" then no2 r else false
  | _ => false
def spNo : Sp := fun vs H Q _ => ∃ (x : V) (d : PyData), vs = [x] ∧ Dv H x d ∧ enW d ∧ ∀ H', Same H H' → Q (.bl (noB d)) H'
theorem no3_len {r : List PyData} (h : r.length ≠ 3) : no3 r = false := by
  unfold no3; split
  · exact absurd rfl h
  · rfl
theorem no2_len {r : List PyData} (h : r.length ≠ 2) : no2 r = false := by
  unfold no2; split
  · exact absurd rfl h
  · rfl
theorem no1_len {r : List PyData} (h : r.length ≠ 1) : no1 r = false := by
  unfold no1; split
  · exact absurd rfl h
  · rfl
theorem in_two' (a b w : Str) : inV (.str w) [.str a, .str b] = (decide (w = a) || decide (w = b)) := by
  have h : ∀ a : Str, eqV (.str a) (.str w) = decide (w = a) := fun a => by
    show (a == w) = _
    by_cases e : a = w
    · subst e; rw [beq_self_eq_true, decide_eq_true rfl]
    · rw [beq_eq_false_iff_ne.mpr e, decide_eq_false fun h => e h.symm]
  show (eqV (.str a) (.str w) || (eqV (.str b) (.str w) || false)) = _
  rw [h, h, Bool.or_false]
section
variable {P : Program} {w : World} {K : PySem.W.Frag} {mg : Str → Option Value} {base : Heap}
theorem ok_noD {f : Addr} {fd : FuncData} (T : Bk mg) (D_is_number : Def P w K mg base CX0 2 "is_number" pV (spB1 isNum)) (D_is_signs : Def P w K mg base CX0 2 "is_signs" pV spSignsD) (D_is_mark : Def P w K mg base CX0 2 "is_mark" pV (spB1 isMrk))
    (F : Fun K "is_notice" "is_notice" sNo f fd) : FnOk P w K mg base CX0 3 f fd pV spNo := by
  have nd := scNo.nd
  refine F.ok scNo (fun vs H Q E h => ?_) (fun cdv A outer s H vs Q E hr h => ?_)
  · obtain ⟨x, d, rfl, _⟩ := h
    rfl
  · obtain ⟨x, d, rfl, hd, hw, q⟩ := h
    refine ⟨_, (pss_cons (ps_if (PW.pt (pw_or (pt_not (pt_val (pe_callB (call_isiK1 (K := K) rfl) (by rfl) T.isinstance PyProof.Rows.boot_isinstance (pa_cons (pv 0) (pa_cons (pe_bltn (v := .ty "tuple") rfl T.tuple PyProof.Rows.boot_tuple rfl) pa_nil))))) (pw_or (pt_not (pt_truth (pv 0) (by intro _; rfl))) (pw_or1 (pt_not (pt_val (pe_callB (call_isiK1 (K := K) rfl) (by rfl) T.isinstance PyProof.Rows.boot_isinstance (pa_cons (pe_ix (ix_tupK (K := K) rfl) (pv 0) pe_int (fun _ _ => rfl)) (pa_cons (pe_bltn (v := .ty "str") rfl T.str PyProof.Rows.boot_str rfl) pa_nil)))))))))
  (pss_one (ps_ret pe_bl))
  pss_nil)
 (pss_cons (ps_set (i := 1) nd rfl (Or.inl rfl) (pe_ix (ix_tupK (K := K) rfl) (pv 0) pe_int (fun _ _ => rfl)))
 (pss_cons (ps_if (pt_cmpR (op_in_seqK (K := K) rfl) (pv 1) (pe_tup (pa_cons pe_str (pa_cons pe_str pa_nil))) (by rfl))
  (pss_one (ps_ret (pe_and (pe_cmpR op_eq (pe_callB (call_lenK (K := K) rfl) (by rfl) T.len PySem.boot_len (pa_cons (pv 0) pa_nil)) pe_int (nomark _)) (pe_and (pe_def D_is_number (hr.mono (by decide)) rfl pass0 (pa_cons (pe_ix (ix_tupK (K := K) rfl) (pv 0) pe_int (fun _ _ => rfl)) pa_nil)) (pe_and (pe_def D_is_signs (hr.mono (by decide)) rfl pass0 (pa_cons (pe_ix (ix_tupK (K := K) rfl) (pv 0) pe_int (fun _ _ => rfl)) pa_nil)) (pe_one (pe_def D_is_mark (hr.mono (by decide)) rfl pass0 (pa_cons (pe_ix (ix_tupK (K := K) rfl) (pv 0) pe_int (fun _ _ => rfl)) pa_nil))))))))
  pss_nil)
 (pss_cons (ps_if (pt_cmpR op_eq (pv 1) pe_str (nomark _))
  (pss_one (ps_ret (pe_and (pe_cmpR op_eq (pe_callB (call_lenK (K := K) rfl) (by rfl) T.len PySem.boot_len (pa_cons (pv 0) pa_nil)) pe_int (nomark _)) (pe_one (pe_def D_is_number (hr.mono (by decide)) rfl pass0 (pa_cons (pe_ix (ix_tupK (K := K) rfl) (pv 0) pe_int (fun _ _ => rfl)) pa_nil))))))
  pss_nil)
 (pss_one (ps_ret (pe_and (pe_cmpR op_eq (pv 1) pe_str (nomark _)) (pe_and (pe_cmpR op_eq (pe_callB (call_lenK (K := K) rfl) (by rfl) T.len PySem.boot_len (pa_cons (pv 0) pa_nil)) pe_int (nomark _)) (pe_and (pe_def D_is_mark (hr.mono (by decide)) rfl pass0 (pa_cons (pe_ix (ix_tupK (K := K) rfl) (pv 0) pe_int (fun _ _ => rfl)) pa_nil)) (pe_one (pe_def D_is_number (hr.mono (by decide)) rfl pass0 (pa_cons (pe_ix (ix_tupK (K := K) rfl) (pv 0) pe_int (fun _ _ => rfl)) pa_nil)))))))))))), ?_⟩
    refine ⟨_, rfl, x, .ty "tuple", .type _, .type "tuple", isTup d, rfl, .ty _, hd.ty, kit_ty (kit_tup d), _, rfl, ?_⟩
    by_cases ht : isTup d = true
    case neg =>
      refine itbT (by rw [show isTup d = false by simpa using ht]; rfl) (itbT rfl ?_)
      have e : noB d = false := by cases d <;> first | rfl | exact absurd rfl ht
      rw [e] at q
      exact q H fun _ _ h => h
    obtain ⟨a, xs, rfl, ha, hA, ed⟩ := hd.tupD ht
    refine itbF (by rw [ht]; rfl) ⟨_, rfl, !xs.isEmpty, .inr (.inl ⟨xs, st ha, rfl⟩), ?_⟩
    unfold enW at hw
    generalize itemsD d = ds at hA ed hw
    subst ed
    cases hA with
    | nil => exact itbT rfl (itbT rfl (q _ (fun _ _ h => h)))
    | @cons x0 xr d0 dr h0 hA =>
      refine itbF rfl ⟨_, rfl, a, _, 0, x0, rfl, rfl, st ha, atI_nat (j := 0) rfl, x0, .ty "str", .type _, .type "str", isStr d0, rfl, .ty _, h0.ty, kit_ty (kit_str d0), _, rfl, ?_⟩
      have hlen := hA.len
      cases h0 with
      | str z =>
        refine itbF rfl ?_
        refine ⟨_, rfl, a, _, 0, _, rfl, rfl, st ha, atI_nat (j := 0) rfl, ?_⟩
        refine ⟨_, rfl, (by show 2 ≤ sizeLine; decide), fun t nt => ?_⟩
        have s1 := same_new (o := .tup [.str "come", .str "letter"]) nt
        refine ⟨t, _, rfl, .inr (st upd_same), rfl, rfl, _, rfl, ?_⟩
        rw [in_two']
        have ha1 := s1 _ _ ha
        have hA1 := hA.same s1
        have len4 : ∀ (k : Nat) (m : Int), m = (k : Int) + 1 → decide (V.int ((V.str z :: xr).length : Nat) = V.int m) = decide (dr.length = k) := fun k m hm => by
          rw [List.length_cons, hlen]
          by_cases e : dr.length = k
          · rw [e, decide_eq_true rfl]; exact decide_eq_true (by rw [hm]; rfl)
          · rw [decide_eq_false e]; exact decide_eq_false fun h => e (by have := V.int.inj h; omega)
        by_cases c1 : (decide (z = "come") || decide (z = "letter")) = true
        · refine itbT c1 ?_
          have e : noB (.tuple (.str z :: dr)) = no3 dr := by
            show (if (z = "come" ∨ z = "letter") then no3 dr else if z = "gone" then no1 dr else if z = "done" then no2 dr else false) = _
            rw [if_pos (by simpa using c1)]
          rw [e] at q
          refine ⟨_, rfl, a, _, rfl, .inr (st ha1), rfl, _, rfl, ?_⟩
          by_cases l3 : dr.length = 3
          case neg =>
            refine itbF ((len4 3 4 rfl).trans (decide_eq_false l3)) ?_
            rw [no3_len l3] at q
            exact q _ s1
          refine itbT ((len4 3 4 rfl).trans (decide_eq_true l3)) ?_
          obtain ⟨e0, e1, e2, rfl⟩ : ∃ e0 e1 e2, dr = [e0, e1, e2] := by
            match dr, l3 with
            | [e0, e1, e2], _ => exact ⟨_, _, _, rfl⟩
          have w1 : sgW e1 := hw.2 e1 (by simp)
          cases hA1 with | cons h0 hA1 =>
          cases hA1 with | cons h1 hA1 =>
          cases hA1 with | cons h2 hA1 =>
          cases hA1
          refine ⟨_, rfl, a, _, 1, _, rfl, rfl, st ha1, atI_nat (j := 1) rfl, _, e0, rfl, h0, ⟨_, rfl, ?_⟩⟩
          have eq : no3 [e0, e1, e2] = (isNum e0 && sgsB e1 && isMrk e2) := rfl
          rw [eq] at q
          cases c0 : isNum e0 with
          | false =>
            refine itbF rfl ?_
            rw [c0] at q
            exact q _ s1
          | true =>
            refine itbT rfl ⟨_, rfl, a, _, 2, _, rfl, rfl, st ha1, atI_nat (j := 2) rfl, _, e1, rfl, h1, w1.1, w1.2, fun H2 s2 => ⟨_, rfl, ?_⟩⟩
            cases c2 : sgsB e1 with
            | false =>
              refine itbF rfl ?_
              rw [c0, c2] at q
              exact q H2 (s1.trans s2)
            | true =>
              refine itbT rfl ⟨_, rfl, a, _, 3, _, rfl, rfl, st (s2 _ _ ha1), atI_nat (j := 3) rfl, _, e2, rfl, h2.same s2, ?_⟩
              rw [c0, c2] at q
              exact q H2 (s1.trans s2)
        have c1 : (decide (z = "come") || decide (z = "letter")) = false := by simpa using c1
        have cn : ¬ (z = "come" ∨ z = "letter") := by
          rw [Bool.or_eq_false_iff] at c1
          exact fun h => h.elim (of_decide_eq_false c1.1) (of_decide_eq_false c1.2)
        refine itbF c1 ?_
        refine ⟨_, rfl, rfl, _, rfl, ?_⟩
        by_cases c2 : z = "gone"
        · subst c2
          refine itbT (decide_eq_true rfl) ?_
          have e : noB (.tuple (.str "gone" :: dr)) = no1 dr := by
            show (if (("gone" : Str) = "come" ∨ ("gone" : Str) = "letter") then no3 dr else if ("gone" : Str) = "gone" then no1 dr else if ("gone" : Str) = "done" then no2 dr else false) = _
            rw [if_neg cn, if_pos rfl]
          rw [e] at q
          refine ⟨_, rfl, a, _, rfl, .inr (st ha1), rfl, _, rfl, ?_⟩
          by_cases l1 : dr.length = 1
          case neg =>
            refine itbF ((len4 1 2 rfl).trans (decide_eq_false l1)) ?_
            rw [no1_len l1] at q
            exact q _ s1
          refine itbT ((len4 1 2 rfl).trans (decide_eq_true l1)) ?_
          obtain ⟨e0, rfl⟩ : ∃ e0, dr = [e0] := by
            match dr, l1 with
            | [e0], _ => exact ⟨_, rfl⟩
          cases hA1 with | cons h0 hA1 =>
          cases hA1
          exact ⟨_, rfl, a, _, 1, _, rfl, rfl, st ha1, atI_nat (j := 1) rfl, _, e0, rfl, h0, q _ s1⟩
        refine itbF (decide_eq_false fun h => c2 (V.str.inj h)) ?_
        refine ⟨_, rfl, rfl, _, rfl, ?_⟩
        by_cases c3 : z = "done"
        case neg =>
          refine itbF (decide_eq_false fun h => c3 (V.str.inj h)) ?_
          have e : noB (.tuple (.str z :: dr)) = false := by
            show (if (z = "come" ∨ z = "letter") then no3 dr else if z = "gone" then no1 dr else if z = "done" then no2 dr else false) = _
            rw [if_neg cn, if_neg c2, if_neg c3]
          rw [e] at q
          exact q _ s1
        subst c3
        refine itbT (decide_eq_true rfl) ?_
        have e : noB (.tuple (.str "done" :: dr)) = no2 dr := by
          show (if (("done" : Str) = "come" ∨ ("done" : Str) = "letter") then no3 dr else if ("done" : Str) = "gone" then no1 dr else if ("done" : Str) = "done" then no2 dr else false) = _
          rw [if_neg cn, if_neg c2, if_pos rfl]
        rw [e] at q
        refine ⟨_, rfl, a, _, rfl, .inr (st ha1), rfl, _, rfl, ?_⟩
        by_cases l2 : dr.length = 2
        case neg =>
          refine itbF ((len4 2 3 rfl).trans (decide_eq_false l2)) ?_
          rw [no2_len l2] at q
          exact q _ s1
        refine itbT ((len4 2 3 rfl).trans (decide_eq_true l2)) ?_
        obtain ⟨e0, e1, rfl⟩ : ∃ e0 e1, dr = [e0, e1] := by
          match dr, l2 with
          | [e0, e1], _ => exact ⟨_, _, rfl⟩
        cases hA1 with | cons h0 hA1 =>
        cases hA1 with | cons h1 hA1 =>
        cases hA1
        refine ⟨_, rfl, a, _, 1, _, rfl, rfl, st ha1, atI_nat (j := 1) rfl, _, e0, rfl, h0, ⟨_, rfl, ?_⟩⟩
        have eq : no2 [e0, e1] = (isMrk e0 && isNum e1) := rfl
        rw [eq] at q
        cases c0 : isMrk e0 with
        | false =>
          refine itbF rfl ?_
          rw [c0] at q
          exact q _ s1
        | true =>
          rw [c0] at q
          exact itbT rfl ⟨_, rfl, a, _, 2, _, rfl, rfl, st ha1, atI_nat (j := 2) rfl, _, e1, rfl, h1, q _ s1⟩
      | _ =>
        refine itbT rfl ?_
        exact q _ (fun _ _ h => h)
end
end K1


set_option Elab.async false
set_option linter.all false
set_option maxRecDepth 100000
set_option maxHeartbeats 2000000
/-! Letters as a tuple of tuples; a comprehension that picks of what is there. -/
namespace K1
open PySem PySem.Spec PyProof.Rows L2 RZ StX
inductive A2 {β : Type} (R : V → β → Prop) : List V → List β → Prop where
  | nil : A2 R [] []
  | cons {x : V} {b : β} {xs : List V} {bs : List β} : R x b → A2 R xs bs → A2 R (x :: xs) (b :: bs)
section
variable {β : Type} {R R' : V → β → Prop}
theorem A2.len : ∀ {xs : List V} {bs : List β}, A2 R xs bs → xs.length = bs.length
  | _, _, .nil => rfl
  | _, _, .cons _ r => congrArg (· + 1) r.len
theorem A2.get : ∀ {xs : List V} {bs : List β}, A2 R xs bs → ∀ {i : Nat} {x : V}, xs[i]? = some x → ∃ b, bs[i]? = some b ∧ R x b
  | _, _, .cons h _, 0, _, e => ⟨_, rfl, by rw [← Option.some.inj e]; exact h⟩
  | _, _, .cons _ r, i + 1, _, e => r.get (i := i) e
  | _, _, .nil, i, _, e => by simp at e
theorem A2.imp (h : ∀ x b, R x b → R' x b) : ∀ {xs : List V} {bs : List β}, A2 R xs bs → A2 R' xs bs
  | _, _, .nil => .nil
  | _, _, .cons a r => .cons (h _ _ a) (r.imp h)
theorem A2.app : ∀ {xs : List V} {bs : List β} {ys : List V} {cs : List β}, A2 R xs bs → A2 R ys cs → A2 R (xs ++ ys) (bs ++ cs)
  | _, _, _, _, .nil, k => k
  | _, _, _, _, .cons a r, k => .cons a (r.app k)
theorem A2.vals {β : Type} {f : β → V} : ∀ {xs : List V} {ns : List β}, A2 (fun x n => x = f n) xs ns → xs = ns.map f
  | _, _, .nil => rfl
  | _, _, .cons rfl r => by rw [r.vals]; rfl
end
theorem take_fm {α β : Type} {ls : List α} {i : Nat} {a : α} (φ : α → Option β) (h : ls[i]? = some a) : (ls.take (i + 1)).filterMap φ = (ls.take i).filterMap φ ++ (φ a).toList := by
  rw [List.take_add_one, h, List.filterMap_append]
  cases e : φ a <;> simp [e]
theorem lc_sel {J : It} {xs : List V} {Gd : Hp → Prop} (wk : Walk J xs.length Gd (YAt xs)) {α β : Type} {R : V → α → Prop} {out : V → β → Prop} {ls : List α} (hA : A2 R xs ls) {H1 : Hp} {D : Addr} (hD : H1 D = none) (hG : ∀ G, Same H1 G → Gd G) (hl : xs.length ≤ 1000) (φ : α → Option β)
    {g : TG} {tt : TT} {te : TE} {vs : List Nat} {σ : L2.St} {Qd : Hp → Prop}
    (hs : ∀ x a G (T : V → Hp → Prop) (S : Hp → Prop), R x a → a ∈ ls → Same H1 G → (∀ y b G', Same G G' → φ a = some b → out y b → T y G') → (∀ G', Same G G' → φ a = none → S G') → g x (wipe σ vs) G fun σ2 H2 => wipe σ2 vs = wipe σ vs ∧ tt σ2 H2 fun b H3 => if b = true then te σ2 H3 T else S H3)
    (hd : ∀ G acc, Same H1 G → G D = some (.lst acc) → A2 out acc (ls.filterMap φ) → Qd G) :
    ∃ W : Nat → Nat → Hp → Prop, (∃ m, W 0 m (upd H1 D (.lst []))) ∧ ∀ i m H, W i m H →
      (J.stop i H ∧ Qd H) ∨ (J.go i H ∧ ∃ Nx : Hp → Prop, (∀ H', Nx H' → ∃ m', m' < m ∧ W (i + 1) m' H') ∧ ∀ x H', J.yld i H x H' → g x (wipe σ vs) H' fun σ2 H2 => wipe σ2 vs = wipe σ vs ∧ tt σ2 H2 fun b H3 =>
        if b = true then te σ2 H3 fun y H4 => ∃ acc, H4 D = some (.lst acc) ∧ acc.length < sizeLine ∧ Nx (upd H4 D (.lst (acc ++ [y]))) else Nx H3) := by
  refine lc_it wk (fun i G => Same H1 G ∧ ∃ acc, G D = some (.lst acc) ∧ acc.length ≤ i ∧ A2 out acc ((ls.take i).filterMap φ)) ⟨same_new hD, [], upd_same, Nat.zero_le _, .nil⟩ (fun i G _ h => hG _ h.1) ?_ ?_
  · rintro i x G G' hi ⟨s1, acc, hacc, hla, ha⟩ ⟨rfl, hx⟩
    obtain ⟨a, hai, hR⟩ := hA.get hx
    refine hs x a G' _ _ hR (List.mem_of_getElem? hai) s1 (fun y b G2 s2 e o => ?_) fun G2 s2 e => ?_
    · refine ⟨acc, s2 _ _ hacc, lt1 _ (by omega), (s1.trans s2).mut hD, _, upd_same, by rw [List.length_append]; show acc.length + 1 ≤ _; omega, ?_⟩
      rw [take_fm φ hai, e]
      exact ha.app (.cons o .nil)
    · refine ⟨s1.trans s2, acc, s2 _ _ hacc, by omega, ?_⟩
      rw [take_fm φ hai, e]
      show A2 out acc (_ ++ [])
      rw [List.append_nil]; exact ha
  · rintro G ⟨s1, acc, hacc, _, ha⟩
    refine hd G acc s1 hacc ?_
    rw [hA.len, List.take_length] at ha
    exact ha
end K1


set_option Elab.async false
set_option linter.all false
set_option maxRecDepth 100000
set_option maxHeartbeats 4000000
/-! k23: lists of a client and notices as data. -/
namespace K1
open PySem PySem.Spec PyProof.Rows L2 RZ StX
structure En where
  n : Int
  s : PyData
  m : Int
inductive Nt where
  | come (e : En)
  | letter (n : Int) (s : PyData) (m : Int)
  | gone (n : Int)
  | done (m n : Int)
noncomputable def enD (e : En) : PyData := .tuple [.int e.n, e.s, .int e.m]
noncomputable def ntD : Nt → PyData
  | .come e => .tuple [.str "come", .int e.n, e.s, .int e.m]
  | .letter n s m => .tuple [.str "letter", .int n, s, .int m]
  | .gone n => .tuple [.str "gone", .int n]
  | .done m n => .tuple [.str "done", .int m, .int n]
def NtOk : Nt → Prop
  | .come e => 1 ≤ e.n ∧ sgsB e.s = true ∧ 0 ≤ e.m
  | .letter n s m => 1 ≤ n ∧ sgsB s = true ∧ 0 ≤ m
  | .gone n => 1 ≤ n
  | .done m n => 0 ≤ m ∧ 1 ≤ n
def EnOk (e : En) : Prop := 1 ≤ e.n ∧ sgsB e.s = true ∧ 0 ≤ e.m
theorem isNum_of {d : PyData} (h : isNum d = true) : ∃ n, d = .int n ∧ 1 ≤ n := by
  cases d with
  | int n => exact ⟨n, rfl, of_decide_eq_true h⟩
  | _ => cases h
theorem isMrk_of {d : PyData} (h : isMrk d = true) : ∃ n, d = .int n ∧ 0 ≤ n := by
  cases d with
  | int n => exact ⟨n, rfl, of_decide_eq_true h⟩
  | _ => cases h
theorem isNum_int {n : Int} (h : 1 ≤ n) : isNum (.int n) = true := decide_eq_true h
theorem isMrk_int {n : Int} (h : 0 ≤ n) : isMrk (.int n) = true := decide_eq_true h
theorem and3 {a b c : Bool} : (a && b && c) = true ↔ a = true ∧ b = true ∧ c = true := by cases a <;> cases b <;> cases c <;> simp
theorem enB_of {d : PyData} (h : enB d = true) : ∃ e : En, d = enD e ∧ EnOk e := by
  unfold enB at h
  split at h
  · obtain ⟨h1, h2, h3⟩ := and3.mp h
    obtain ⟨n, rfl, n1⟩ := isNum_of h1
    obtain ⟨m, rfl, m0⟩ := isMrk_of h3
    exact ⟨⟨n, _, m⟩, rfl, n1, h2, m0⟩
  · cases h
theorem enB_ok {e : En} (h : EnOk e) : enB (enD e) = true := and3.mpr ⟨isNum_int h.1, h.2.1, isMrk_int h.2.2⟩
theorem no3_of {r : List PyData} (h : no3 r = true) : ∃ n s m, r = [.int n, s, .int m] ∧ 1 ≤ n ∧ sgsB s = true ∧ 0 ≤ m := by
  unfold no3 at h
  split at h
  · obtain ⟨h1, h2, h3⟩ := and3.mp h
    obtain ⟨n, rfl, n1⟩ := isNum_of h1
    obtain ⟨m, rfl, m0⟩ := isMrk_of h3
    exact ⟨n, _, m, rfl, n1, h2, m0⟩
  · cases h
theorem noB_of {d : PyData} (h : noB d = true) : ∃ t : Nt, d = ntD t ∧ NtOk t := by
  unfold noB at h
  split at h
  · rename_i w r
    split at h
    · rename_i c
      obtain ⟨n, s, m, rfl, h1, h2, h3⟩ := no3_of h
      rcases c with rfl | rfl
      · exact ⟨.come ⟨n, s, m⟩, rfl, h1, h2, h3⟩
      · exact ⟨.letter n s m, rfl, h1, h2, h3⟩
    · split at h
      · rename_i c
        subst c
        unfold no1 at h
        split at h
        · obtain ⟨n, rfl, n1⟩ := isNum_of h
          exact ⟨.gone n, rfl, n1⟩
        · cases h
      · split at h
        · rename_i c
          subst c
          unfold no2 at h
          split at h
          · obtain ⟨h1, h2⟩ := (Bool.and_eq_true _ _).mp h
            obtain ⟨m, rfl, m0⟩ := isMrk_of h1
            obtain ⟨n, rfl, n1⟩ := isNum_of h2
            exact ⟨.done m n, rfl, m0, n1⟩
          · cases h
        · cases h
  · cases h
theorem noB_str (w : Str) (r : List PyData) : noB (.tuple (.str w :: r)) = if w = "come" ∨ w = "letter" then no3 r else if w = "gone" then no1 r else if w = "done" then no2 r else false := rfl
theorem noB_ok : ∀ {t : Nt}, NtOk t → noB (ntD t) = true
  | .come e, h => by
    unfold ntD
    rw [noB_str, if_pos (.inl rfl)]; exact and3.mpr ⟨isNum_int h.1, h.2.1, isMrk_int h.2.2⟩
  | .letter n s m, h => by
    unfold ntD
    rw [noB_str, if_pos (.inr rfl)]; exact and3.mpr ⟨isNum_int h.1, h.2.1, isMrk_int h.2.2⟩
  | .gone n, h => by
    unfold ntD
    rw [noB_str, if_neg (by decide +kernel), if_pos rfl]; exact isNum_int h
  | .done m n, h => by
    unfold ntD
    rw [noB_str, if_neg (by decide +kernel), if_neg (by decide +kernel), if_pos rfl]; exact (Bool.and_eq_true _ _).mpr ⟨isMrk_int h.1, isNum_int h.2⟩
open Classical in
noncomputable def ntOf (d : PyData) : Option Nt := if h : noB d = true then some (noB_of h).choose else none
theorem ntD_inj : ∀ {s t : Nt}, ntD s = ntD t → s = t := by
  intro s t h
  cases s <;> cases t <;> simp only [ntD, PyData.tuple.injEq, List.cons.injEq, PyData.str.injEq, PyData.int.injEq] at h
  · rename_i e f
    obtain ⟨_, h1, h2, h3, _⟩ := h
    cases e; cases f; cases h1; cases h2; cases h3; rfl
  · exact absurd h.1 (by decide +kernel)
  · exact absurd h.1 (by decide +kernel)
  · exact absurd h.1 (by decide +kernel)
  · exact absurd h.1 (by decide +kernel)
  · obtain ⟨_, rfl, rfl, rfl, _⟩ := h; rfl
  · exact absurd h.1 (by decide +kernel)
  · exact absurd h.1 (by decide +kernel)
  · exact absurd h.1 (by decide +kernel)
  · exact absurd h.1 (by decide +kernel)
  · obtain ⟨_, rfl, _⟩ := h; rfl
  · exact absurd h.1 (by decide +kernel)
  · exact absurd h.1 (by decide +kernel)
  · exact absurd h.1 (by decide +kernel)
  · exact absurd h.1 (by decide +kernel)
  · obtain ⟨_, rfl, rfl, _⟩ := h; rfl
theorem ntOf_ok {t : Nt} (h : NtOk t) : ntOf (ntD t) = some t := by
  unfold ntOf
  rw [dif_pos (noB_ok h)]
  exact congrArg some (ntD_inj (noB_of (noB_ok h)).choose_spec.1.symm)
theorem ntOf_no {d : PyData} (h : noB d = false) : ntOf d = none := by
  unfold ntOf
  rw [dif_neg (by rw [h]; simp)]
theorem ntOf_some {d : PyData} {t : Nt} (h : ntOf d = some t) : d = ntD t ∧ NtOk t := by
  by_cases b : noB d = true
  · obtain ⟨u, rfl, ok⟩ := noB_of b
    rw [ntOf_ok ok] at h
    cases h
    exact ⟨rfl, ok⟩
  · rw [ntOf_no (by simpa using b)] at h; cases h
theorem ntOf_D (t : Nt) : ntOf (ntD t) = none ∨ ntOf (ntD t) = some t := by
  cases h : ntOf (ntD t) with
  | none => exact .inl rfl
  | some u => exact .inr (by rw [ntD_inj (ntOf_some h).1])
/-! ### what fits, and the list behind it -/
def topB (rows : List En) (n : Int) : Bool := match rows.getLast? with | none => true | some e => decide (n > e.n)
def maxM : List En → Int → Int
  | [], f => f
  | e :: r, f => if e.m > maxM r f then e.m else maxM r f
def letB (rows : List En) (n m : Int) : Bool := match rows[(n - 1).toNat]? with | none => false | some e => decide (m > e.m)
def noAt (rows : List En) (n : Int) : Int := match rows[(n - 1).toNat]? with | none => 0 | some e => e.n
theorem letB_none {rows : List En} {n m : Int} (h : rows[(n - 1).toNat]? = none) : letB rows n m = false := by unfold letB; rw [h]
theorem letB_some {rows : List En} {n m : Int} {e : En} (h : rows[(n - 1).toNat]? = some e) : letB rows n m = decide (m > e.m) := by unfold letB; rw [h]
theorem noAt_some {rows : List En} {n : Int} {e : En} (h : rows[(n - 1).toNat]? = some e) : noAt rows n = e.n := by unfold noAt; rw [h]
def fitN (rows : List En) (fl : Int) : Nt → Bool
  | .come e => topB rows e.n
  | .letter n _ m => letB rows n m
  | .gone n => decide (n ≤ rows.length)
  | .done m n => topB rows n && decide (m ≥ maxM rows fl)
noncomputable def fitB (rows : List En) (fl : Int) (d : PyData) : Bool := match ntOf d with | none => false | some t => fitN rows fl t
def behN (rows : List En) : Nt → List En
  | .come e => rows ++ [e]
  | .letter n s m => rows.take (n - 1).toNat ++ [⟨noAt rows n, s, m⟩] ++ rows.drop n.toNat
  | .gone n => rows.take (n - 1).toNat ++ rows.drop n.toNat
  | .done _ _ => rows
def flN (fl : Int) : Nt → Int
  | .done m _ => m
  | _ => fl
theorem maxM_mem : ∀ (rows : List En) (f : Int), maxM rows f ∈ rows.map (·.m) ++ [f]
  | [], f => by simp [maxM]
  | e :: r, f => by
    unfold maxM
    split
    · simp
    · rw [List.map_cons, List.cons_append]; exact List.mem_cons_of_mem _ (maxM_mem r f)
theorem maxM_le : ∀ (rows : List En) (f : Int), ∀ y ∈ rows.map (·.m) ++ [f], y ≤ maxM rows f
  | [], f, y, h => by simp at h; subst h; exact Int.le_refl _
  | e :: r, f, y, h => by
    unfold maxM
    rw [List.map_cons, List.cons_append] at h
    rcases List.mem_cons.mp h with rfl | h
    · split <;> omega
    · have := maxM_le r f y h
      split <;> omega
theorem max_is {rows : List En} {f m : Int} (h1 : m ∈ rows.map (·.m) ++ [f]) (h2 : ∀ y ∈ rows.map (·.m) ++ [f], y ≤ m) : m = maxM rows f :=
  Int.le_antisymm (maxM_le rows f m h1) (h2 _ (maxM_mem rows f))
theorem behN_len {rows : List En} {fl : Int} {t : Nt} (h : fitN rows fl t = true) : (behN rows t).length ≤ rows.length + 1 := by
  cases t with
  | come e => simp [behN]
  | letter n s m =>
    cases he : rows[(n - 1).toNat]? with
    | none =>
      have e0 : fitN rows fl (.letter n s m) = false := letB_none he
      rw [e0] at h; cases h
    | some e =>
      have hl := (List.getElem?_eq_some_iff.mp he).1
      simp only [behN, List.length_append, List.length_take, List.length_drop, List.length_cons, List.length_nil]
      omega
  | gone n =>
    simp only [behN, List.length_append, List.length_take, List.length_drop]
    omega
  | done m n => simp [behN]
/-! ### things that tell these -/
theorem tup4D {H : Hp} {v : V} {w : Str} {n m : Int} {s : PyData} (h : Dv H v (.tuple [.str w, .int n, s, .int m])) : ∃ a y, v = .ref a ∧ H a = some (.tup [.str w, .int n, y, .int m]) ∧ Dv H y s := by
  cases h with
  | tup e r =>
  cases r with
  | cons h1 r =>
  cases r with
  | cons h2 r =>
  cases r with
  | cons h3 r =>
  cases r with
  | cons h4 r =>
  cases r; cases h1; cases h2; cases h4
  exact ⟨_, _, rfl, e, h3⟩
theorem tup3D {H : Hp} {v : V} {w : Str} {n m : Int} (h : Dv H v (.tuple [.str w, .int n, .int m])) : ∃ a, v = .ref a ∧ H a = some (.tup [.str w, .int n, .int m]) := by
  cases h with
  | tup e r =>
  cases r with
  | cons h1 r =>
  cases r with
  | cons h2 r =>
  cases r with
  | cons h3 r =>
  cases r; cases h1; cases h2; cases h3
  exact ⟨_, rfl, e⟩
theorem tup2D {H : Hp} {v : V} {w : Str} {n : Int} (h : Dv H v (.tuple [.str w, .int n])) : ∃ a, v = .ref a ∧ H a = some (.tup [.str w, .int n]) := by
  cases h with
  | tup e r =>
  cases r with
  | cons h1 r =>
  cases r with
  | cons h2 r =>
  cases r; cases h1; cases h2
  exact ⟨_, rfl, e⟩
theorem enDv {H : Hp} {v : V} {e : En} (h : Dv H v (enD e)) : ∃ a y, v = .ref a ∧ H a = some (.tup [.int e.n, y, .int e.m]) ∧ Dv H y e.s := by
  unfold enD at h
  cases h with
  | tup e r =>
  cases r with
  | cons h1 r =>
  cases r with
  | cons h2 r =>
  cases r with
  | cons h3 r =>
  cases r; cases h1; cases h3
  exact ⟨_, _, rfl, e, h2⟩
theorem dvEn {H : Hp} {a : Addr} {y : V} {e : En} (h : H a = some (.tup [.int e.n, y, .int e.m])) (hy : Dv H y e.s) : Dv H (.ref a) (enD e) := .tup h (.cons (.int _) (.cons hy (.cons (.int _) .nil)))
/-- rows, thing by thing -/
def RwA (H : Hp) (xs : List V) (rows : List En) : Prop := A2 (fun x e => Dv H x (enD e)) xs rows
theorem RwA.same {H H' : Hp} {xs : List V} {rows : List En} (h : RwA H xs rows) (s : Same H H') : RwA H' xs rows := h.imp fun _ _ h => h.same s
theorem a2_take {β : Type} {R : V → β → Prop} : ∀ {xs : List V} {bs : List β} (k : Nat), A2 R xs bs → A2 R (xs.take k) (bs.take k)
  | _, _, 0, _ => .nil
  | _, _, _ + 1, .nil => .nil
  | _, _, k + 1, .cons a r => .cons a (a2_take k r)
theorem a2_drop {β : Type} {R : V → β → Prop} : ∀ {xs : List V} {bs : List β} (k : Nat), A2 R xs bs → A2 R (xs.drop k) (bs.drop k)
  | _, _, 0, h => h
  | _, _, _ + 1, .nil => .nil
  | _, _, k + 1, .cons a r => a2_drop k r
theorem a2_get' {β : Type} {R : V → β → Prop} : ∀ {xs : List V} {bs : List β}, A2 R xs bs → ∀ {i : Nat} {b : β}, bs[i]? = some b → ∃ x, xs[i]? = some x ∧ R x b
  | _, _, .cons h _, 0, _, e => ⟨_, rfl, by rw [← Option.some.inj e]; exact h⟩
  | _, _, .cons _ r, i + 1, _, e => a2_get' r (i := i) e
  | _, _, .nil, i, _, e => by simp at e
theorem a2_last {β : Type} {R : V → β → Prop} {xs : List V} {bs : List β} (h : A2 R xs bs) {b : β} (e : bs.getLast? = some b) : ∃ x ys, xs = ys ++ [x] ∧ R x b := by
  obtain ⟨cs, rfl⟩ : ∃ cs, bs = cs ++ [b] := by
    have := List.getLast?_eq_some_iff.mp e
    exact this
  have hl := h.len
  obtain ⟨x, hx, hR⟩ := a2_get' h (i := cs.length) (b := b) (by simp)
  refine ⟨x, xs.take cs.length, ?_, hR⟩
  have h1 := List.take_append_drop cs.length xs
  rw [List.length_append] at hl
  have h2 : xs.drop cs.length = [x] := by
    rw [List.drop_eq_getElem_cons (by simp at hl; omega), List.drop_of_length_le (by simp at hl; omega)]
    congr 1
    rw [List.getElem?_eq_getElem (by simp at hl; omega)] at hx
    exact Option.some.inj hx
  rw [h2] at h1
  exact h1.symm
/-! ### slices -/
theorem slA_go {K : PySem.W.Frag} {a : Addr} {xs : List V} {lo hi : Option Int} {H : Hp} {Q : VK} (h : H a = some (.tup xs)) (q : ∀ b H', Same H H' → H' b = some (.tup (cutV xs lo hi)) → Q (.ref b) H') : rSlA K (.ref a) lo hi H Q := by
  refine ⟨a, xs, rfl, st h, fun z => ?_, fun _ D nD => q D _ (same_new nD) upd_same⟩
  refine q a H (fun _ _ h => h) ?_
  unfold cutV
  rw [z.1, z.2, List.drop_zero, Nat.sub_zero, List.take_length]; exact h
theorem slL_go {K : PySem.W.Frag} {a : Addr} {xs : List V} {lo hi : Option Int} {H : Hp} {Q : VK} (h : H a = some (.lst xs)) (q : ∀ b H', Same H H' → H' b = some (.lst (cutV xs lo hi)) → Q (.ref b) H') : rSlL K (.ref a) lo hi H Q :=
  ⟨a, xs, rfl, sq h, fun D nD => q D _ (same_new nD) upd_same⟩
theorem cut_take (xs : List V) (n : Nat) : cutV xs none (some (n : Int)) = xs.take n := by
  unfold cutV
  have c1 : HT.sIx xs.length 0 none = 0 := rfl
  rw [c1, HT.sIx_nat, List.drop_zero, Nat.sub_zero]
  by_cases h : n ≤ xs.length
  · rw [Nat.min_eq_left h]
  · rw [Nat.min_eq_right (by omega), List.take_length, List.take_of_length_le (by omega)]
theorem cut_drop (xs : List V) (n : Nat) : cutV xs (some (n : Int)) none = xs.drop n := by
  unfold cutV
  have c2 : HT.sIx xs.length xs.length none = xs.length := rfl
  rw [HT.sIx_nat, c2]
  by_cases h : n ≤ xs.length
  · rw [Nat.min_eq_left h, List.take_of_length_le (by rw [List.length_drop]; omega)]
  · rw [Nat.min_eq_right (by omega), List.drop_length, List.drop_of_length_le (by omega)]; simp
theorem cat_go {a b : Addr} {xs ys : List V} {H : Hp} {Q : VK} (ha : H a = some (.lst xs)) (hb : H b = some (.lst ys)) (l : xs.length + ys.length ≤ 100000) (q : ∀ c H', Same H H' → H c = none → H' c = some (.lst (xs ++ ys)) → Q (.ref c) H') : rCat (.ref a) (.ref b) H Q :=
  ⟨a, b, xs, ys, rfl, rfl, ha, hb, lt1 _ l, fun p np => q p _ (same_new np) np upd_same⟩
section
variable {X : Cx} {K : PySem.W.Frag}
theorem sl_tupAK (h : X.K = K) : SlR X (rSlA K) := by subst h; exact sl_tupA
theorem sl_listK (h : X.K = K) : SlR X (rSlL K) := by subst h; exact sl_list
end
end K1


set_option Elab.async false
set_option linter.all false
set_option maxRecDepth 100000
set_option maxHeartbeats 8000000
/-! k23: fits. -/
namespace K1
open PySem PySem.Spec PyProof.Rows L2 RZ StX
abbrev sFi : Stmt := st_fits
abbrev nFi : List Str := ["rows", "floor", "notice", "word", "is_next", "row"]
abbrev pFi : List Str := ["rows", "floor", "notice"]
theorem scFi : FnScope nFi pFi (defScope sFi) := ⟨rfl, rfl, rfl, by decide +kernel, rfl, by decide +kernel, by decide +kernel⟩
def spFi : Sp := fun vs H Q _ => ∃ (a : Addr) (xs : List V) (rows : List En) (fl : Int) (x : V) (d : PyData), vs = [.ref a, .int fl, x] ∧ H a = some (.lst xs) ∧ RwA H xs rows ∧ rows.length ≤ 900 ∧ Dv H x d ∧ enW d ∧ ∀ H', Same H H' → Q (.bl (fitB rows fl d)) H'
theorem fitB_no {rows : List En} {fl : Int} {d : PyData} (h : noB d = false) : fitB rows fl d = false := by unfold fitB; rw [ntOf_no h]
theorem fitB_nt {rows : List En} {fl : Int} {t : Nt} (h : NtOk t) : fitB rows fl (ntD t) = fitN rows fl t := by unfold fitB; rw [ntOf_ok h]
theorem str_ne {a b : Str} (h : a ≠ b) : decide (V.str a = V.str b) = false := decide_eq_false fun z => h (V.str.inj z)
theorem topB_nil {n : Int} : topB [] n = true := rfl
theorem topB_snoc {rows : List En} {e : En} {n : Int} (h : rows.getLast? = some e) : topB rows n = decide (n > e.n) := by unfold topB; rw [h]
section
variable {P : Program} {w : World} {K : PySem.W.Frag} {mg : Str → Option Value} {base : Heap}
/-- `not rows or n > rows[-1][0]` -/
theorem next_go {σ : L2.St} {H : Hp} {a b : Addr} {xs ys : List V} {rows : List En} {n : Int} {j : Nat} {Q : VK} (h0 : σ[0]? = some (some (.ref a))) (h2 : σ[2]? = some (some (.ref b))) (ha : H a = some (.lst xs)) (hR : RwA H xs rows) (hb : H b = some (.tup ys)) (hj : ys[j]? = some (.int n)) (q : Q (.bl (topB rows n)) H) :
    tOrV (tNotT K (tVar 0)) (tOp (rI0 fun i j => .bl (decide (j < i))) (tOp (rIxT K) (tVar 2) (tC (.int (j : Int)))) (tOp (rIxT K) (tOp (rIxL K) (tVar 0) (tUn (rU fun i => .int (-i)) (tC (.int 1)))) (tC (.int 0)))) σ H Q := by
  refine ⟨_, h0, !xs.isEmpty, .inl ⟨xs, sq ha, rfl⟩, _, rfl, ?_⟩
  cases hl : rows.getLast? with
  | none =>
    obtain rfl := List.getLast?_eq_none_iff.mp hl
    cases hR
    exact itbT rfl q
  | some e =>
    obtain ⟨x, zs, rfl, hx⟩ := a2_last hR hl
    obtain ⟨c, y, rfl, hc, hy⟩ := enDv hx
    refine itbF (by simp) ?_
    refine ⟨_, h2, b, ys, _, _, rfl, rfl, st hb, atI_nat hj, ?_⟩
    refine ⟨_, h0, 1, rfl, a, _, _, _, rfl, rfl, sq ha, atI_last _ _, c, _, 0, _, rfl, rfl, st hc, atI_nat (j := 0) rfl, n, e.n, rfl, rfl, ?_⟩
    rw [topB_snoc hl] at q
    exact q
theorem ok_fi {f : Addr} {fd : FuncData} (T : Bk mg) (D_is_notice : Def P w K mg base CX0 3 "is_notice" pV spNo)
    (F : Fun K "fits" "fits" sFi f fd) : FnOk P w K mg base CX0 4 f fd pFi spFi := by
  have nd := scFi.nd
  refine F.ok scFi (fun vs H Q E h => ?_) (fun cdv A outer s H vs Q E hr h => ?_)
  · obtain ⟨a, xs, rows, fl, x, d, rfl, _⟩ := h
    rfl
  · obtain ⟨a, xs, rows, fl, x, d, rfl, ha, hR, hl, hd, hw, q⟩ := h
    refine ⟨_, (pss_cons (ps_if (pt_not (pt_val (pe_def D_is_notice (hr.mono (by decide)) rfl pass0 (pa_cons (pv 2) pa_nil))))
  (pss_one (ps_ret pe_bl))
  pss_nil)
 (pss_cons (ps_set (i := 3) nd rfl (Or.inl rfl) (pe_ix (ix_tupK (K := K) rfl) (pv 2) pe_int (fun _ _ => rfl)))
 (pss_cons (ps_if (pt_cmpR op_eq (pv 3) pe_str (nomark _))
  (pss_one (ps_ret (pe_or (pe_notT (pv 0)) (pe_one (pe_cmpR op_gt (pe_ix (ix_tupK (K := K) rfl) (pv 2) pe_int (fun _ _ => rfl)) (pe_ix (ix_tupK (K := K) rfl) (pe_ix (ix_listK (K := K) rfl) (pv 0) (pe_un un_neg pe_int) (fun _ _ => rfl)) pe_int (fun _ _ => rfl)) (nomark _))))))
  pss_nil)
 (pss_cons (ps_if (pt_cmpR op_eq (pv 3) pe_str (nomark _))
  (pss_one (ps_ret (pe_and (pe_cmpR op_le (pe_ix (ix_tupK (K := K) rfl) (pv 2) pe_int (fun _ _ => rfl)) (pe_callB (call_lenK (K := K) rfl) (by rfl) T.len PySem.boot_len (pa_cons (pv 0) pa_nil)) (nomark _)) (pe_one (pe_cmpR op_gt (pe_ix (ix_tupK (K := K) rfl) (pv 2) pe_int (fun _ _ => rfl)) (pe_ix (ix_tupK (K := K) rfl) (pe_ix (ix_listK (K := K) rfl) (pv 0) (pe_op op_sub (pe_ix (ix_tupK (K := K) rfl) (pv 2) pe_int (fun _ _ => rfl)) pe_int) (fun _ _ => rfl)) pe_int (fun _ _ => rfl)) (nomark _))))))
  pss_nil)
 (pss_cons (ps_if (pt_cmpR op_eq (pv 3) pe_str (nomark _))
  (pss_one (ps_ret (pe_cmpR op_le (pe_ix (ix_tupK (K := K) rfl) (pv 2) pe_int (fun _ _ => rfl)) (pe_callB (call_lenK (K := K) rfl) (by rfl) T.len PySem.boot_len (pa_cons (pv 0) pa_nil)) (nomark _))))
  pss_nil)
 (pss_cons (ps_set (i := 4) nd rfl (Or.inl rfl) (pe_or (pe_notT (pv 0)) (pe_one (pe_cmpR op_gt (pe_ix (ix_tupK (K := K) rfl) (pv 2) pe_int (fun _ _ => rfl)) (pe_ix (ix_tupK (K := K) rfl) (pe_ix (ix_listK (K := K) rfl) (pv 0) (pe_un un_neg pe_int) (fun _ _ => rfl)) pe_int (fun _ _ => rfl)) (nomark _)))))
 (pss_one (ps_ret (pe_and (pv 4) (pe_one (pe_cmpR op_ge (pe_ix (ix_tupK (K := K) rfl) (pv 2) pe_int (fun _ _ => rfl)) (pe_callB (cr_maxK (K := K) rfl rfl) (by rfl) T.max PyProof.Rows.boot_max (pa_cons (pe_op op_cat (pe_lc (own := [("row", 5)]) (g := gName 5) (tt := tYes) rfl nd (pi_listK (K := K) rfl (pv 0)) (blkOk_by (own := [("row", 5)]) (N := nFi) (sc := defScope sFi) (by decide +kernel)) (fun _ _ _ _ _ => pg_name (i := 5) nd rfl (Or.inl rfl)) (fun _ _ _ _ _ => pts_nil) (fun _ _ _ _ _ => (pe_ix (ix_tupK (K := K) rfl) (pv 5) pe_int (fun _ _ => rfl)))) (pe_lst (pa_cons (pv 1) pa_nil))) pa_nil)) (nomark _)))))))))))), ?_⟩
    refine ⟨_, rfl, x, d, rfl, hd, hw, fun H1 s1 => ⟨_, rfl, ?_⟩⟩
    cases hb : noB d with
    | false =>
      rw [fitB_no hb] at q
      exact itbT rfl (q H1 s1)
    | true =>
    refine itbF rfl ?_
    obtain ⟨t, rfl, ok⟩ := noB_of hb
    rw [fitB_nt ok] at q
    have ha1 := s1 _ _ ha
    have hR1 := hR.same s1
    have hd1 := hd.same s1
    have lx := hR.len
    cases t with
    | come e =>
      obtain ⟨b, y, rfl, hb, hy⟩ := tup4D hd1
      refine ⟨_, rfl, b, _, 0, _, rfl, rfl, st hb, atI_nat (j := 0) rfl, ?_⟩
      refine ⟨_, rfl, rfl, _, rfl, itbT (decide_eq_true rfl) ?_⟩
      exact next_go (j := 1) rfl rfl ha1 hR1 hb rfl (q H1 s1)
    | letter n s m =>
      obtain ⟨b, y, rfl, hb, hy⟩ := tup4D hd1
      refine ⟨_, rfl, b, _, 0, _, rfl, rfl, st hb, atI_nat (j := 0) rfl, ?_⟩
      refine ⟨_, rfl, rfl, _, rfl, itbF (str_ne (by decide +kernel)) ?_⟩
      refine ⟨_, rfl, rfl, _, rfl, itbT (decide_eq_true rfl) ?_⟩
      refine ⟨_, rfl, b, _, 1, _, rfl, rfl, st hb, atI_nat (j := 1) rfl, _, rfl, a, _, rfl, .inl (sq ha1), _, _, rfl, rfl, _, rfl, ?_⟩
      have n1 : 1 ≤ n := ok.1
      by_cases c : n ≤ xs.length
      · refine itbT (decide_eq_true c) ?_
        have hlt : (n - 1).toNat < rows.length := by omega
        obtain ⟨z, hz, hez⟩ := a2_get' hR1 (List.getElem?_eq_getElem hlt)
        obtain ⟨ae, ye, rfl, hae, _⟩ := enDv hez
        refine ⟨_, rfl, b, _, 3, _, rfl, rfl, st hb, atI_nat (j := 3) rfl, ?_⟩
        refine ⟨_, rfl, _, rfl, b, _, 1, _, rfl, rfl, st hb, atI_nat (j := 1) rfl, _, _, rfl, rfl, a, _, _, _, rfl, rfl, sq ha1, ?_, ae, _, 2, _, rfl, rfl, st hae, atI_nat (j := 2) rfl, _, _, rfl, rfl, ?_⟩
        · rw [show n - 1 = (((n - 1).toNat : Nat) : Int) by omega]; exact atI_nat hz
        · have e : fitN rows fl (.letter n s m) = decide (m > rows[(n - 1).toNat].m) := letB_some (List.getElem?_eq_getElem hlt)
          rw [e] at q
          exact q H1 s1
      · refine itbF (decide_eq_false c) ?_
        have e : fitN rows fl (.letter n s m) = false := letB_none (List.getElem?_eq_none (by omega))
        rw [e] at q
        exact q H1 s1
    | gone n =>
      obtain ⟨b, rfl, hb⟩ := tup2D hd1
      refine ⟨_, rfl, b, _, 0, _, rfl, rfl, st hb, atI_nat (j := 0) rfl, ?_⟩
      refine ⟨_, rfl, rfl, _, rfl, itbF (str_ne (by decide +kernel)) ?_⟩
      refine ⟨_, rfl, rfl, _, rfl, itbF (str_ne (by decide +kernel)) ?_⟩
      refine ⟨_, rfl, rfl, _, rfl, itbT (decide_eq_true rfl) ?_⟩
      refine ⟨_, rfl, b, _, 1, _, rfl, rfl, st hb, atI_nat (j := 1) rfl, _, rfl, a, _, rfl, .inl (sq ha1), _, _, rfl, rfl, ?_⟩
      rw [lx]
      exact q H1 s1
    | done m n =>
      obtain ⟨b, rfl, hb⟩ := tup3D hd1
      refine ⟨_, rfl, b, _, 0, _, rfl, rfl, st hb, atI_nat (j := 0) rfl, ?_⟩
      refine ⟨_, rfl, rfl, _, rfl, itbF (str_ne (by decide +kernel)) ?_⟩
      refine ⟨_, rfl, rfl, _, rfl, itbF (str_ne (by decide +kernel)) ?_⟩
      refine ⟨_, rfl, rfl, _, rfl, itbF (str_ne (by decide +kernel)) ?_⟩
      refine next_go (j := 2) rfl rfl ha1 hR1 hb rfl ?_
      refine ⟨_, rfl, _, rfl, ?_⟩
      have ef : fitN rows fl (.done m n) = (topB rows n && decide (m ≥ maxM rows fl)) := rfl
      rw [ef] at q
      cases ct : topB rows n with
      | false =>
        rw [ct] at q
        exact itbF rfl (q H1 s1)
      | true =>
        rw [ct] at q
        refine itbT rfl ?_
        refine ⟨_, rfl, b, _, 1, _, rfl, rfl, st hb, atI_nat (j := 1) rfl, ?_⟩
        refine ⟨_, rfl, a, rfl, ⟨_, sq ha1⟩, fun D nD => ?_⟩
        refine lc_sel walk_list (R := fun x e => Dv H1 x (enD e)) (ls := rows) (out := fun y (n : Int) => y = V.int n) hR1 nD (fun G s => sq (s _ _ ha1)) (by omega) (fun e => some e.m) ?_ ?_
        · rintro z e G T' S hx hm s3 hT hS'
          obtain ⟨ta, ye, rfl, hta, _⟩ := enDv hx
          exact ⟨rfl, tyes ⟨_, rfl, ta, _, 2, .int e.m, rfl, rfl, st (s3 _ _ hta), atI_nat (j := 2) rfl, hT _ e.m G (fun _ _ h => h) rfl rfl⟩⟩
        · intro G acc s3 hacc h4
          rw [h4.vals] at hacc
          have efm : rows.filterMap (fun e => some e.m) = rows.map (·.m) := by rw [← List.filterMap_eq_map]; rfl
          rw [efm] at hacc
          refine ⟨_, rfl, lt1 _ (by show 1 ≤ 100000; decide), fun L nL => ?_⟩
          have s4 := same_new nL (o := .lst [V.int fl])
          refine cat_go (s4 _ _ hacc) upd_same (by rw [List.length_map, List.length_map]; show rows.length + 1 ≤ 100000; omega) fun c G2 s5 _ hc => ?_
          refine ⟨c, rows.map (·.m) ++ [fl], rfl, ?_, by simp, fun mx h1 h2 => ⟨_, _, rfl, rfl, ?_⟩⟩
          · rw [List.map_append]; exact sq hc
          · rw [max_is h1 h2]
            exact q G2 (((s1.trans s3).trans s4).trans s5)
end
end K1


set_option Elab.async false
set_option linter.all false
set_option maxRecDepth 100000
set_option maxHeartbeats 8000000
/-! k23: behind. -/
namespace K1
open PySem PySem.Spec PyProof.Rows L2 RZ StX
abbrev sBe : Stmt := st_behind
abbrev nBe : List Str := ["rows", "notice", "word", "at"]
abbrev pBe : List Str := ["rows", "notice"]
theorem scBe : FnScope nBe pBe (defScope sBe) := ⟨rfl, rfl, rfl, by decide +kernel, rfl, by decide +kernel, by decide +kernel⟩
def spBe : Sp := fun vs H Q _ => ∃ (a : Addr) (xs : List V) (rows : List En) (fl : Int) (x : V) (t : Nt), vs = [.ref a, x] ∧ H a = some (.lst xs) ∧ RwA H xs rows ∧ rows.length ≤ 900 ∧ Dv H x (ntD t) ∧ NtOk t ∧ fitN rows fl t = true ∧
  ∀ c ys H', Same H H' → H' c = some (.lst ys) → RwA H' ys (behN rows t) → Q (.ref c) H'
theorem slT_go {K : PySem.W.Frag} {σ : L2.St} {H : Hp} {i : Nat} {a : Addr} {xs : List V} {te : TE} {n : Nat} {Q : VK} (h0 : σ[i]? = some (some (.ref a))) (h : H a = some (.lst xs)) (hn : ∀ R : VK, R (.int (n : Int)) H → te σ H R) (q : ∀ b H', Same H H' → H' b = some (.lst (xs.take n)) → Q (.ref b) H') :
    tSl (rSlL K) (tVar i) tNoPart (tPart te) σ H Q := ⟨_, h0, hn _ ⟨_, rfl, slL_go h fun b H' s hb => q b H' s (by rw [hb, cut_take])⟩⟩
theorem slD_go {K : PySem.W.Frag} {σ : L2.St} {H : Hp} {i : Nat} {a : Addr} {xs : List V} {te : TE} {n : Nat} {Q : VK} (h0 : σ[i]? = some (some (.ref a))) (h : H a = some (.lst xs)) (hn : ∀ R : VK, R (.int (n : Int)) H → te σ H R) (q : ∀ b H', Same H H' → H' b = some (.lst (xs.drop n)) → Q (.ref b) H') :
    tSl (rSlL K) (tVar i) (tPart te) tNoPart σ H Q := ⟨_, h0, hn _ ⟨_, rfl, by dsimp only [tNoPart]; exact slL_go h fun b H' s hb => q b H' s (by rw [hb, cut_drop])⟩⟩
theorem slDA_go {K : PySem.W.Frag} {σ : L2.St} {H : Hp} {i : Nat} {a : Addr} {xs : List V} {te : TE} {n : Nat} {Q : VK} (h0 : σ[i]? = some (some (.ref a))) (h : H a = some (.tup xs)) (hn : ∀ R : VK, R (.int (n : Int)) H → te σ H R) (q : ∀ b H', Same H H' → H' b = some (.tup (xs.drop n)) → Q (.ref b) H') :
    tSl (rSlA K) (tVar i) (tPart te) tNoPart σ H Q := ⟨_, h0, hn _ ⟨_, rfl, by dsimp only [tNoPart]; exact slA_go h fun b H' s hb => q b H' s (by rw [hb, cut_drop])⟩⟩
section
variable {P : Program} {w : World} {K : PySem.W.Frag} {mg : Str → Option Value} {base : Heap}
theorem ok_be {f : Addr} {fd : FuncData}
    (F : Fun K "behind" "behind" sBe f fd) : FnOk P w K mg base CX0 1 f fd pBe spBe := by
  have nd := scBe.nd
  refine F.ok scBe (fun vs H Q E h => ?_) (fun cdv A outer s H vs Q E hr h => ?_)
  · obtain ⟨a, xs, rows, fl, x, t, rfl, _⟩ := h
    rfl
  · obtain ⟨a, xs, rows, fl, x, t, rfl, ha, hR, hl, hd, ok, hf, q⟩ := h
    refine ⟨_, (pss_cons (ps_set (i := 2) nd rfl (Or.inl rfl) (pe_ix (ix_tupK (K := K) rfl) (pv 1) pe_int (fun _ _ => rfl)))
 (pss_cons (ps_if (pt_cmpR op_eq (pv 2) pe_str (nomark _))
  (pss_one (ps_ret (pe_op op_cat (pv 0) (pe_lst (pa_cons (pe_slice (sl_tupAK (K := K) rfl) (pv 1) (po_some pe_int) po_none) pa_nil)))))
  pss_nil)
 (pss_cons (ps_if (pt_cmpR op_eq (pv 2) pe_str (nomark _))
  (pss_one (ps_ret (pv 0)))
  pss_nil)
 (pss_cons (ps_set (i := 3) nd rfl (Or.inl rfl) (pe_op op_sub (pe_ix (ix_tupK (K := K) rfl) (pv 1) pe_int (fun _ _ => rfl)) pe_int))
 (pss_cons (ps_if (pt_cmpR op_eq (pv 2) pe_str (nomark _))
  (pss_one (ps_ret (pe_op op_cat (pe_slice (sl_listK (K := K) rfl) (pv 0) po_none (po_some (pv 3))) (pe_slice (sl_listK (K := K) rfl) (pv 0) (po_some (pe_op op_add (pv 3) pe_int)) po_none))))
  pss_nil)
 (pss_one (ps_ret (pe_op op_cat (pe_op op_cat (pe_slice (sl_listK (K := K) rfl) (pv 0) po_none (po_some (pv 3))) (pe_lst (pa_cons (pe_tup (pa_cons (pe_ix (ix_tupK (K := K) rfl) (pe_ix (ix_listK (K := K) rfl) (pv 0) (pv 3) (fun _ _ => rfl)) pe_int (fun _ _ => rfl)) (pa_cons (pe_ix (ix_tupK (K := K) rfl) (pv 1) pe_int (fun _ _ => rfl)) (pa_cons (pe_ix (ix_tupK (K := K) rfl) (pv 1) pe_int (fun _ _ => rfl)) pa_nil)))) pa_nil))) (pe_slice (sl_listK (K := K) rfl) (pv 0) (po_some (pe_op op_add (pv 3) pe_int)) po_none))))))))), ?_⟩
    have lx := hR.len
    cases t with
    | come e =>
      obtain ⟨b, y, rfl, hb, hy⟩ := tup4D hd
      refine ⟨_, rfl, b, _, 0, _, rfl, rfl, st hb, atI_nat (j := 0) rfl, ?_⟩
      refine ⟨_, rfl, rfl, _, rfl, itbT (decide_eq_true rfl) ?_⟩
      refine ⟨_, rfl, ?_⟩
      refine slDA_go (n := 1) rfl hb (fun R r => r) fun c H1 s1 hc => ?_
      refine ⟨lt1 _ (by show 1 ≤ 100000; decide), fun L nL => ?_⟩
      have s2 := s1.trans (same_new nL (o := .lst [.ref c]))
      refine cat_go (s2 _ _ ha) upd_same (by show xs.length + 1 ≤ 100000; omega) fun D H2 s3 _ hD => ?_
      have s23 := s2.trans s3
      refine q D _ H2 s23 hD ?_
      refine (hR.same s23).app (.cons ?_ .nil)
      exact dvEn (s3 _ _ (same_new nL _ _ hc)) (hy.same s23)
    | done m n =>
      obtain ⟨b, rfl, hb⟩ := tup3D hd
      refine ⟨_, rfl, b, _, 0, _, rfl, rfl, st hb, atI_nat (j := 0) rfl, ?_⟩
      refine ⟨_, rfl, rfl, _, rfl, itbF (str_ne (by decide +kernel)) ?_⟩
      refine ⟨_, rfl, rfl, _, rfl, itbT (decide_eq_true rfl) ?_⟩
      exact ⟨_, rfl, q a xs H (fun _ _ h => h) ha hR⟩
    | gone n =>
      obtain ⟨b, rfl, hb⟩ := tup2D hd
      have n1 : 1 ≤ n := ok
      refine ⟨_, rfl, b, _, 0, _, rfl, rfl, st hb, atI_nat (j := 0) rfl, ?_⟩
      refine ⟨_, rfl, rfl, _, rfl, itbF (str_ne (by decide +kernel)) ?_⟩
      refine ⟨_, rfl, rfl, _, rfl, itbF (str_ne (by decide +kernel)) ?_⟩
      refine ⟨_, rfl, b, _, 1, _, rfl, rfl, st hb, atI_nat (j := 1) rfl, _, _, rfl, rfl, ?_⟩
      refine ⟨_, rfl, rfl, _, rfl, itbT (decide_eq_true rfl) ?_⟩
      refine slT_go (n := (n - 1).toNat) rfl ha (fun R r => ⟨.int (n - 1), rfl, by rw [show (((n - 1).toNat : Nat) : Int) = n - 1 by omega] at r; exact r⟩) fun c H1 s1 hc => ?_
      refine slD_go (n := n.toNat) rfl (s1 _ _ ha) (fun R r => ⟨.int (n - 1), rfl, _, _, rfl, rfl, by rw [show ((n.toNat : Nat) : Int) = n - 1 + 1 by omega] at r; exact r⟩) fun d H2 s2 hd2 => ?_
      have s12 := s1.trans s2
      refine cat_go (s2 _ _ hc) hd2 (by rw [List.length_take, List.length_drop]; omega) fun D H3 s3 _ hD => ?_
      have s23 := s12.trans s3
      exact q D _ H3 s23 hD ((a2_take _ (hR.same s23)).app (a2_drop _ (hR.same s23)))
    | letter n s m =>
      obtain ⟨b, y, rfl, hb, hy⟩ := tup4D hd
      have n1 : 1 ≤ n := ok.1
      cases he : rows[(n - 1).toNat]? with
      | none => rw [show fitN rows fl (.letter n s m) = false from letB_none he] at hf; cases hf
      | some e =>
      obtain ⟨z, hz, hez⟩ := a2_get' hR he
      obtain ⟨ae, ye, rfl, hae, hye⟩ := enDv hez
      refine ⟨_, rfl, b, _, 0, _, rfl, rfl, st hb, atI_nat (j := 0) rfl, ?_⟩
      refine ⟨_, rfl, rfl, _, rfl, itbF (str_ne (by decide +kernel)) ?_⟩
      refine ⟨_, rfl, rfl, _, rfl, itbF (str_ne (by decide +kernel)) ?_⟩
      refine ⟨_, rfl, b, _, 1, _, rfl, rfl, st hb, atI_nat (j := 1) rfl, _, _, rfl, rfl, ?_⟩
      refine ⟨_, rfl, rfl, _, rfl, itbF (str_ne (by decide +kernel)) ?_⟩
      refine slT_go (n := (n - 1).toNat) rfl ha (fun R r => ⟨.int (n - 1), rfl, by rw [show (((n - 1).toNat : Nat) : Int) = n - 1 by omega] at r; exact r⟩) fun c H1 s1 hc => ?_
      have hb1 := s1 _ _ hb
      refine ⟨_, rfl, _, rfl, a, _, _, _, rfl, rfl, sq (s1 _ _ ha), by rw [show n - 1 = (((n - 1).toNat : Nat) : Int) by omega]; exact atI_nat hz, ae, _, 0, _, rfl, rfl, st (s1 _ _ hae), atI_nat (j := 0) rfl, ?_⟩
      refine ⟨_, rfl, b, _, 2, _, rfl, rfl, st hb1, atI_nat (j := 2) rfl, _, rfl, b, _, 3, _, rfl, rfl, st hb1, atI_nat (j := 3) rfl, ?_⟩
      refine ⟨lt1 _ (by show 3 ≤ 100000; decide), fun tn ntn => ⟨lt1 _ (by show 1 ≤ 100000; decide), fun L nL => ?_⟩⟩
      have s2 := same_new ntn (o := .tup [.int e.n, y, .int m])
      have ht : (upd H1 tn (.tup [.int e.n, y, .int m])) tn = some (.tup [.int e.n, y, .int m]) := upd_same
      generalize upd H1 tn (.tup [.int e.n, y, .int m]) = H2 at s2 ht nL
      have s3 := same_new nL (o := .lst [.ref tn])
      have hL : (upd H2 L (.lst [.ref tn])) L = some (.lst [.ref tn]) := upd_same
      generalize upd H2 L (.lst [.ref tn]) = H3 at s3 hL
      have s13 := (s1.trans s2).trans s3
      refine cat_go ((s2.trans s3) _ _ hc) hL (by rw [List.length_take]; show _ + 1 ≤ _; omega) fun D H4 s4 _ hD => ?_
      refine slD_go (n := n.toNat) rfl ((s13.trans s4) _ _ ha) (fun R r => ⟨.int (n - 1), rfl, _, _, rfl, rfl, by rw [show ((n.toNat : Nat) : Int) = n - 1 + 1 by omega] at r; exact r⟩) fun d H5 s5 hd2 => ?_
      refine cat_go (s5 _ _ hD) hd2 (by rw [List.length_append, List.length_take, List.length_drop]; show _ + 1 + _ ≤ _; omega) fun D2 H6 s6 _ hD2 => ?_
      have s06 := ((s13.trans s4).trans s5).trans s6
      refine q D2 _ H6 s06 hD2 ?_
      have e2 : behN rows (.letter n s m) = rows.take (n - 1).toNat ++ [⟨e.n, s, m⟩] ++ rows.drop n.toNat := by rw [← noAt_some he]; rfl
      rw [e2]
      refine (A2.app (a2_take _ (hR.same s06)) (.cons ?_ .nil)).app (a2_drop _ (hR.same s06))
      exact dvEn (e := ⟨e.n, s, m⟩) ((((s3.trans s4).trans s5).trans s6) _ _ ht) (hy.same s06)
end
end K1


set_option Elab.async false
set_option linter.all false
set_option maxRecDepth 100000
set_option maxHeartbeats 8000000
/-! k23: check_entries, applied. -/
namespace K1
open PySem PySem.Spec PyProof.Rows L2 RZ StX
def ErrAt (C : Addr) (fl : Str) (v : V) (H : Hp) (E : XK) : Prop := ∀ (d : Addr) (H' : Hp), Same H H' → H' d = some (.xd [(fl, v)]) → E (.ref C) (some d) H'
theorem ErrAt.same {C : Addr} {fl : Str} {v : V} {H H1 : Hp} {E : XK} (h : ErrAt C fl v H E) (s : Same H H1) : ErrAt C fl v H1 E := fun d H' s' e => h d H' (s.trans s') e
theorem ErrAt.go {C : Addr} {fl : Str} {v : V} {H H1 : Hp} {E : XK} (h : ErrAt C fl v H E) (s : Same H H1) : ∀ d, H1 d = none → E (.ref C) (some d) (upd H1 d (.xd [(fl, v)])) := fun d nd => h d _ (s.new nd) upd_same
def dN : PyData → Int
  | .tuple (.int n :: _) => n
  | _ => 0
def badE (ah : Int) : List PyData → Option Nat
  | [] => none
  | d :: r => if enB d = true ∧ ah < dN d then (badE (dN d) r).map (· + 1) else some 0
theorem dN_en (e : En) : dN (enD e) = e.n := rfl
noncomputable def stA (s : List En × Int) (d : PyData) : Option (List En × Int) := match ntOf d with | none => none | some t => if fitN s.1 s.2 t = true then some (behN s.1 t, flN s.2 t) else none
noncomputable def runA : List En × Int → List PyData → Option (List En × Int)
  | s, [] => some s
  | s, d :: r => (stA s d).bind fun s' => runA s' r
noncomputable def badA : List En × Int → List PyData → Option Nat
  | s, [] => none
  | s, d :: r => match stA s d with | none => some 0 | some s' => (badA s' r).map (· + 1)
theorem badA_none {s s' : List En × Int} {d : PyData} {r : List PyData} (h : stA s d = some s') : badA s (d :: r) = (badA s' r).map (· + 1) := by
  show (match stA s d with | none => some 0 | some s' => (badA s' r).map (· + 1)) = _
  rw [h]
theorem badA_bad {s : List En × Int} {d : PyData} {r : List PyData} (h : stA s d = none) : badA s (d :: r) = some 0 := by
  show (match stA s d with | none => some 0 | some s' => (badA s' r).map (· + 1)) = _
  rw [h]
theorem runA_good {s s' : List En × Int} {d : PyData} {r : List PyData} (h : stA s d = some s') : runA s (d :: r) = runA s' r := by
  show (stA s d).bind _ = _; rw [h]; rfl
theorem badA_run : ∀ {ds : List PyData} {s : List En × Int}, badA s ds = none → ∃ s', runA s ds = some s'
  | [], s, _ => ⟨s, rfl⟩
  | d :: r, s, h => by
    cases e : stA s d with
    | none => rw [badA_bad e] at h; cases h
    | some s' =>
      rw [badA_none e] at h
      rw [runA_good e]
      exact badA_run (by cases z : badA s' r with | none => rfl | some i => rw [z] at h; cases h)
theorem stA_fit {s : List En × Int} {d : PyData} : fitB s.1 s.2 d = (stA s d).isSome := by
  unfold fitB stA
  cases h : ntOf d with
  | none => rfl
  | some t =>
    dsimp only
    cases c : fitN s.1 s.2 t <;> simp
theorem stA_some {s s' : List En × Int} {d : PyData} (h : stA s d = some s') : ∃ t, d = ntD t ∧ NtOk t ∧ fitN s.1 s.2 t = true ∧ s' = (behN s.1 t, flN s.2 t) := by
  unfold stA at h
  cases e : ntOf d with
  | none => rw [e] at h; cases h
  | some t =>
    rw [e] at h
    dsimp only at h
    obtain ⟨h1, h2⟩ := ntOf_some e
    by_cases c : fitN s.1 s.2 t = true
    · rw [if_pos c] at h; exact ⟨t, h1, h2, c, (Option.some.inj h).symm⟩
    · rw [if_neg c] at h; cases h
theorem stA_ok {s : List En × Int} {t : Nt} (ok : NtOk t) (c : fitN s.1 s.2 t = true) : stA s (ntD t) = some (behN s.1 t, flN s.2 t) := by
  unfold stA; rw [ntOf_ok ok]; dsimp only; rw [if_pos c]
abbrev sCe : Stmt := st_check_entries
abbrev nCe : List Str := ["entries", "ahead", "at", "entry"]
abbrev pCe : List Str := ["entries"]
theorem scCe : FnScope nCe pCe (defScope sCe) := ⟨rfl, rfl, rfl, by decide +kernel, rfl, by decide +kernel, by decide +kernel⟩
def rwW (d : PyData) : Prop := (itemsD d).length ≤ 300 ∧ ∀ e ∈ itemsD d, enW e
def spCe (CR : Addr) : Sp := fun vs H Q E => ∃ (x : V) (d : PyData), vs = [x] ∧ Dv H x d ∧ rwW d ∧
  ((isSeq d = false ∧ ErrAt CR "at" (.int (-1)) H E) ∨ (isSeq d = true ∧ ((∃ i : Nat, badE 0 (itemsD d) = some i ∧ ErrAt CR "at" (.int (i : Int)) H E) ∨ (badE 0 (itemsD d) = none ∧ ∀ H', Same H H' → Q .non H'))))
abbrev sAp : Stmt := st_applied
abbrev nAp : List Str := ["entries", "notices", "rows", "floor", "at", "notice"]
abbrev pAp : List Str := ["entries", "notices"]
theorem scAp : FnScope nAp pAp (defScope sAp) := ⟨rfl, rfl, rfl, by decide +kernel, rfl, by decide +kernel, by decide +kernel⟩
def spAp (CR CN : Addr) : Sp := fun vs H Q E => ∃ (x y : V) (d e : PyData), vs = [x, y] ∧ Dv H x d ∧ Dv H y e ∧ rwW d ∧ rwW e ∧
  ((isSeq d = false ∧ ErrAt CR "at" (.int (-1)) H E) ∨ (isSeq d = true ∧ ((∃ i : Nat, badE 0 (itemsD d) = some i ∧ ErrAt CR "at" (.int (i : Int)) H E) ∨ (badE 0 (itemsD d) = none ∧
    ((isSeq e = false ∧ ErrAt CN "at" (.int (-1)) H E) ∨ (isSeq e = true ∧ ∃ rows : List En, itemsD d = rows.map enD ∧
      ((∃ i : Nat, badA (rows, 0) (itemsD e) = some i ∧ ErrAt CN "at" (.int (i : Int)) H E) ∨ (badA (rows, 0) (itemsD e) = none ∧ ∃ rs fl, runA (rows, 0) (itemsD e) = some (rs, fl) ∧ ∀ c ys H', Same H H' → H' c = some (.lst ys) → RwA H' ys rs → Q (.ref c) H'))))))))
section
variable {P : Program} {w : World} {K : PySem.W.Frag} {mg : Str → Option Value} {base : Heap} {CR CN fR fN : Addr}
theorem ok_ce {f : Addr} {fd : FuncData} (T : Bk mg) (TR : PySem.Tide.TideTxt P K mg "BadRow" CR fR "at")
    (D_is_entry : Def P w K mg base CX0 3 "_is_entry" pV spEn) (F : Fun K "check_entries" "check_entries" sCe f fd) : FnOk P w K mg base (L2.CX P w) 4 f fd pCe (spCe CR) := by
  have nd := scCe.nd
  refine F.okX scCe (fun vs H Q E h => ?_) (fun cdv A outer s H vs Q E hr h => ?_)
  · obtain ⟨x, d, rfl, _⟩ := h
    rfl
  · obtain ⟨x, d, rfl, hd, ⟨hl, hw⟩, h⟩ := h
    refine ⟨_, (pss_cons (ps_if (pt_not (pt_val (pe_callB (call_isiTK (K := K) rfl) (by rfl) T.isinstance PyProof.Rows.boot_isinstance (pa_cons (pv 0) (pa_cons (pe_tup (pa_cons (pe_bltn (v := .ty "list") rfl T.list PyProof.Rows.boot_list rfl) (pa_cons (pe_bltn (v := .ty "tuple") rfl T.tuple PyProof.Rows.boot_tuple rfl) pa_nil))) pa_nil)))))
  (pss_one (ps_raiseTide rfl TR hr (takes_of rfl rfl rfl rfl) (pa_cons (pe_un un_neg pe_int) pa_nil)))
  pss_nil)
 (pss_cons (ps_set (i := 1) nd rfl (Or.inl rfl) pe_int)
 (pss_one (ps_for (passes_of rfl) rfl (pi_enumSK (K := K) rfl (by rfl) T.enumerate (pa_cons (pv 0) pa_nil)) (pg_tup rfl (pgs_cons (pg_name (i := 2) nd rfl (Or.inl rfl)) (pgs_cons (pg_name (i := 3) nd rfl (Or.inl rfl)) pgs_nil)))
  (pss_cons (ps_if (PW.pt (pw_or (pt_not (pt_val (pe_def D_is_entry (hr.mono (by decide)) rfl pass0 (pa_cons (pv 3) pa_nil)))) (pw_or1 (pt_cmpR op_le (pe_ix (ix_tupK (K := K) rfl) (pv 3) pe_int (fun _ _ => rfl)) (pv 1) (nomark _)))))
  (pss_one (ps_raiseTide rfl TR hr (takes_of rfl rfl rfl rfl) (pa_cons (pv 2) pa_nil)))
  pss_nil)
 (pss_one (ps_set (i := 1) nd rfl (Or.inl rfl) (pe_ix (ix_tupK (K := K) rfl) (pv 3) pe_int (fun _ _ => rfl))))))))), ?_⟩
    refine ⟨_, rfl, lt1 _ (by show 2 ≤ 100000; decide), fun tp ntp => ?_⟩
    have s2 := same_new ntp (o := .tup [.ty "list", .ty "tuple"])
    have htp : (upd H tp (.tup [.ty "list", .ty "tuple"])) tp = some (.tup [.ty "list", .ty "tuple"]) := upd_same
    generalize upd H tp (.tup [.ty "list", .ty "tuple"]) = H2 at s2 htp
    refine ⟨x, tp, [.ty "list", .ty "tuple"], .type _, [.type "list", .type "tuple"], isSeq d, rfl, htp, .cons (.ty _) (.cons (.ty _) .nil), (hd.same s2).ty, kit_seq d, _, rfl, ?_⟩
    rcases h with ⟨hq, er⟩ | ⟨hq, h⟩
    · rw [hq]
      exact itbT rfl ⟨_, rfl, _, rfl, er.go s2⟩
    rw [hq]
    refine itbF rfl ?_
    obtain ⟨a, xs, rfl, hxs, hA⟩ := (hd.same s2).seq hq
    have lx := hA.len
    generalize itemsD d = ds at hA lx h hl hw
    refine ⟨_, rfl, a, xs, rfl, for_enumS (K := K) (H0 := H2) (a := a) (xs := xs) hxs.len (fun i σ G => ∃ (ah : Int) (v2 v3 : Option V), σ = [some (.ref a), some (.int ah), v2, v3] ∧ Same H2 G ∧ badE 0 ds = (badE ah (ds.drop i)).map (· + i)) ?_ ?_ ?_ ?_⟩
    · exact ⟨0, none, none, rfl, fun _ _ h => h, by rw [List.drop_zero]; cases badE 0 ds <;> rfl⟩
    · rintro i σ G ⟨ah, v2, v3, rfl, s3, _⟩
      exact s3
    · rintro i z σ G T' hx ⟨ah, v2, v3, rfl, s3, hb⟩ nT
      obtain ⟨e', he', hd'⟩ := hA.get hx
      have k4 := same_new nT (o := .tup [.int (i : Nat), z])
      have s4 := s3.trans k4
      have hT : (upd G T' (.tup [.int (i : Nat), z])) T' = some (.tup [.int (i : Nat), z]) := upd_same
      generalize upd G T' (.tup [.int (i : Nat), z]) = G1 at s4 hT
      have hi := lt_of_get he'
      have e1 : ds.drop i = e' :: ds.drop (i + 1) := by
        rw [List.drop_eq_getElem_cons hi]
        congr 1
        rw [List.getElem?_eq_getElem hi] at he'
        exact Option.some.inj he'
      rw [e1] at hb
      refine ⟨T', _, rfl, st hT, rfl, .int (i : Nat), [z], rfl, z, [], rfl, rfl, ?_⟩
      refine ⟨_, rfl, z, e', rfl, hd'.same s4, hw e' (List.mem_of_getElem? he'), fun G2 s5 => ⟨_, rfl, ?_⟩⟩
      have s45 := s4.trans s5
      have bad : badE 0 ds = some i → ErrAt CR "at" (.int (i : Int)) H E := fun hbad => by
        rcases h with ⟨j, hj, er⟩ | ⟨hn, _⟩
        · rw [hbad] at hj; cases hj; exact er
        · rw [hbad] at hn; cases hn
      by_cases hb1 : enB e' = true
      · refine itbF (by rw [hb1]; rfl) ?_
        obtain ⟨en, rfl, ok⟩ := enB_of hb1
        obtain ⟨ta, y, rfl, hta, hy⟩ := enDv (hd'.same s45)
        refine ⟨_, rfl, ta, _, 0, _, rfl, rfl, st hta, atI_nat (j := 0) rfl, _, rfl, _, _, rfl, rfl, _, rfl, ?_⟩
        by_cases c : en.n ≤ ah
        · refine itbT (decide_eq_true c) ⟨_, rfl, _, rfl, ?_⟩
          refine (bad ?_).go (s2.trans s45)
          rw [hb]
          show Option.map _ (if enB (enD en) = true ∧ ah < dN (enD en) then _ else some 0) = _
          rw [if_neg (fun z => by have := z.2; rw [dN_en] at this; omega)]
          show some (0 + i) = _
          rw [Nat.zero_add]
        · refine itbF (decide_eq_false c) ?_
          refine ⟨_, rfl, ta, _, 0, _, rfl, rfl, st hta, atI_nat (j := 0) rfl, en.n, _, _, rfl, s45, ?_⟩
          rw [hb]
          show Option.map _ (if enB (enD en) = true ∧ ah < dN (enD en) then (badE (dN (enD en)) _).map _ else some 0) = _
          rw [if_pos ⟨hb1, by rw [dN_en]; omega⟩, dN_en, Option.map_map]
          congr 1
          funext k
          show k + 1 + i = k + (i + 1)
          omega
      · have hb1' : enB e' = false := by simpa using hb1
        refine itbT (by rw [hb1']; rfl) (itbT rfl ⟨_, rfl, _, rfl, ?_⟩)
        refine (bad ?_).go (s2.trans s45)
        rw [hb]
        show Option.map _ (if enB e' = true ∧ _ then _ else some 0) = _
        rw [if_neg (fun z => hb1 z.1)]
        show some (0 + i) = _
        rw [Nat.zero_add]
    · rintro σ G ⟨ah, v2, v3, rfl, s3, hb⟩
      rw [lx, List.drop_length] at hb
      rcases h with ⟨j, hj, er⟩ | ⟨_, q⟩
      · rw [hj] at hb; cases hb
      · exact q G (s2.trans s3)
end
end K1


set_option Elab.async false
set_option linter.all false
set_option maxRecDepth 100000
set_option maxHeartbeats 8000000
/-! k23: applied. -/
namespace K1
open PySem PySem.Spec PyProof.Rows L2 RZ StX
theorem badE_all : ∀ {ds : List PyData} {ah : Int}, badE ah ds = none → ∃ rows : List En, ds = rows.map enD ∧ (∀ e ∈ rows, EnOk e)
  | [], ah, _ => ⟨[], rfl, fun e h => by cases h⟩
  | d :: r, ah, h => by
    unfold badE at h
    split at h
    · rename_i c
      obtain ⟨rows, e1, e2⟩ := badE_all (ds := r) (ah := dN d) (by cases z : badE (dN d) r with | none => rfl | some i => rw [z] at h; cases h)
      obtain ⟨en, e3, ok⟩ := enB_of c.1
      exact ⟨en :: rows, by rw [e1, e3]; rfl, fun e he => by
        rcases List.mem_cons.mp he with rfl | he
        · exact ok
        · exact e2 e he⟩
    · cases h
theorem rwA_of : ∀ {H : Hp} {xs : List V} {rows : List En}, DvA H xs (rows.map enD) → RwA H xs rows
  | _, _, [], .nil => .nil
  | _, _, _ :: _, .cons h r => .cons h (rwA_of r)
theorem of_rwA : ∀ {H : Hp} {xs : List V} {rows : List En}, RwA H xs rows → DvA H xs (rows.map enD)
  | _, _, [], .nil => .nil
  | _, _, _ :: _, .cons h r => .cons h (of_rwA r)
theorem runA_snoc : ∀ {ds : List PyData} {s s' : List En × Int} {d : PyData}, runA s ds = some s' → runA s (ds ++ [d]) = stA s' d
  | [], s, s', d, h => by
    cases h
    show (stA s d).bind _ = _
    cases stA s d <;> rfl
  | e :: r, s, s', d, h => by
    cases z : stA s e with
    | none => rw [show runA s (e :: r) = (stA s e).bind _ from rfl, z] at h; cases h
    | some t =>
      rw [runA_good z] at h
      rw [List.cons_append, runA_good z]
      exact runA_snoc h
theorem badA_split : ∀ {ds es : List PyData} {s s' : List En × Int}, runA s ds = some s' → badA s (ds ++ es) = (badA s' es).map (· + ds.length)
  | [], es, s, s', h => by
    cases h
    show badA s es = _
    cases badA s es <;> rfl
  | e :: r, es, s, s', h => by
    cases z : stA s e with
    | none => rw [show runA s (e :: r) = (stA s e).bind _ from rfl, z] at h; cases h
    | some t =>
      rw [runA_good z] at h
      rw [List.cons_append, badA_none z, badA_split h, Option.map_map]
      congr 1
theorem runA_len : ∀ {ds : List PyData} {s s' : List En × Int}, runA s ds = some s' → s'.1.length ≤ s.1.length + ds.length
  | [], s, s', h => by cases h; simp
  | e :: r, s, s', h => by
    cases z : stA s e with
    | none => rw [show runA s (e :: r) = (stA s e).bind _ from rfl, z] at h; cases h
    | some t =>
      rw [runA_good z] at h
      have h1 := runA_len h
      obtain ⟨u, _, _, hf, rfl⟩ := stA_some z
      have h2 := behN_len hf
      rw [List.length_cons]
      dsimp only at h1
      omega
section
variable {P : Program} {w : World} {K : PySem.W.Frag} {mg : Str → Option Value} {base : Heap} {CR CN fR fN : Addr}
set_option maxHeartbeats 16000000 in
theorem ok_ap {f : Addr} {fd : FuncData} (T : Bk mg) (TN : PySem.Tide.TideTxt P K mg "BadNotice" CN fN "at")
    (D_check_entries : Def P w K mg base (L2.CX P w) 4 "check_entries" pCe (spCe CR)) (D_fits : Def P w K mg base CX0 4 "fits" pFi spFi) (D_behind : Def P w K mg base CX0 1 "behind" pBe spBe) (F : Fun K "applied" "applied" sAp f fd) : FnOk P w K mg base (L2.CX P w) 5 f fd pAp (spAp CR CN) := by
  have nd := scAp.nd
  refine F.okX scAp (fun vs H Q E h => ?_) (fun cdv A outer s H vs Q E hr h => ?_)
  · obtain ⟨x, y, d, e, rfl, _⟩ := h
    rfl
  · obtain ⟨x, y, d, e, rfl, hd, he, hwd, hwe, h⟩ := h
    refine ⟨_, (pss_cons (ps_expr (pe_def D_check_entries (hr.mono (by decide)) rfl (passes_call (takes_of rfl rfl rfl rfl) (fun _ _ _ _ h => h)) (pa_cons (pv 0) pa_nil)))
 (pss_cons (ps_if (pt_not (pt_val (pe_callB (call_isiTK (K := K) rfl) (by rfl) T.isinstance PyProof.Rows.boot_isinstance (pa_cons (pv 1) (pa_cons (pe_tup (pa_cons (pe_bltn (v := .ty "list") rfl T.list PyProof.Rows.boot_list rfl) (pa_cons (pe_bltn (v := .ty "tuple") rfl T.tuple PyProof.Rows.boot_tuple rfl) pa_nil))) pa_nil)))))
  (pss_one (ps_raiseTide rfl TN hr (takes_of rfl rfl rfl rfl) (pa_cons (pe_un un_neg pe_int) pa_nil)))
  pss_nil)
 (pss_cons (ps_set (i := 2) nd rfl (Or.inl rfl) (pe_callTy (call_list_ofK (K := K) rfl) (by rfl) T.list PyProof.Rows.boot_list (pa_cons (pv 0) pa_nil)))
 (pss_cons (ps_set (i := 3) nd rfl (Or.inl rfl) pe_int)
 (pss_cons (ps_for (passes_of rfl) rfl (pi_enumSK (K := K) rfl (by rfl) T.enumerate (pa_cons (pv 1) pa_nil)) (pg_tup rfl (pgs_cons (pg_name (i := 4) nd rfl (Or.inl rfl)) (pgs_cons (pg_name (i := 5) nd rfl (Or.inl rfl)) pgs_nil)))
  (pss_cons (ps_if (pt_not (pt_val (pe_def D_fits (hr.mono (by decide)) rfl pass0 (pa_cons (pv 2) (pa_cons (pv 3) (pa_cons (pv 5) pa_nil))))))
  (pss_one (ps_raiseTide rfl TN hr (takes_of rfl rfl rfl rfl) (pa_cons (pv 4) pa_nil)))
  pss_nil)
 (pss_cons (ps_if (pt_cmpR op_eq (pe_ix (ix_tupK (K := K) rfl) (pv 5) pe_int (fun _ _ => rfl)) pe_str (nomark _))
  (pss_one (ps_set (i := 3) nd rfl (Or.inl rfl) (pe_ix (ix_tupK (K := K) rfl) (pv 5) pe_int (fun _ _ => rfl))))
  pss_nil)
 (pss_one (ps_set (i := 2) nd rfl (Or.inl rfl) (pe_def D_behind (hr.mono (by decide)) rfl pass0 (pa_cons (pv 2) (pa_cons (pv 5) pa_nil))))))))
 (pss_one (ps_ret (pv 2)))))))), ?_⟩
    refine ⟨_, rfl, x, d, rfl, hd, hwd, ?_⟩
    rcases h with ⟨hq, er⟩ | ⟨hq, h⟩
    · exact .inl ⟨hq, er⟩
    refine .inr ⟨hq, ?_⟩
    rcases h with ⟨i, hi, er⟩ | ⟨hn, h⟩
    · exact .inl ⟨i, hi, er⟩
    refine .inr ⟨hn, fun H1 s1 => ?_⟩
    refine ⟨_, rfl, lt1 _ (by show 2 ≤ 100000; decide), fun tp ntp => ?_⟩
    have s2 := s1.trans (same_new ntp (o := .tup [.ty "list", .ty "tuple"]))
    have htp : (upd H1 tp (.tup [.ty "list", .ty "tuple"])) tp = some (.tup [.ty "list", .ty "tuple"]) := upd_same
    generalize upd H1 tp (.tup [.ty "list", .ty "tuple"]) = H2 at s2 htp
    refine ⟨y, tp, [.ty "list", .ty "tuple"], .type _, [.type "list", .type "tuple"], isSeq e, rfl, htp, .cons (.ty _) (.cons (.ty _) .nil), (he.same s2).ty, kit_seq e, _, rfl, ?_⟩
    rcases h with ⟨hqe, er⟩ | ⟨hqe, rows, erows, h⟩
    · rw [hqe]
      exact itbT rfl ⟨_, rfl, _, rfl, er.go s2⟩
    rw [hqe]
    refine itbF rfl ?_
    obtain ⟨a, xs, rfl, hxs, hA⟩ := (hd.same s2).seq hq
    refine ⟨_, rfl, a, xs, rfl, hxs.len, fun L nL => ?_⟩
    have s3 := s2.trans (same_new nL (o := .lst xs))
    have hL : (upd H2 L (.lst xs)) L = some (.lst xs) := upd_same
    have hA3 := hA.same (same_new nL (o := .lst xs))
    generalize upd H2 L (.lst xs) = H3 at s3 hL hA3
    obtain ⟨b, ys, rfl, hys, hB⟩ := (he.same s3).seq hqe
    have ly := hB.len
    have lr : rows.length ≤ 300 := by have := hwd.1; rw [erows, List.length_map] at this; exact this
    rw [erows] at hA3
    have hR3 := rwA_of hA3
    obtain ⟨hle, hwe⟩ := hwe
    generalize itemsD e = ds at hB ly h hle hwe
    refine ⟨_, rfl, b, ys, rfl, for_enumS (K := K) (H0 := H3) (a := b) (xs := ys) hys.len (fun i σ G => ∃ (c : Addr) (zs : List V) (rs : List En) (fl : Int) (v4 v5 : Option V), σ = [some (.ref a), some (.ref b), some (.ref c), some (.int fl), v4, v5] ∧ Same H3 G ∧ G c = some (.lst zs) ∧ RwA G zs rs ∧ runA (rows, 0) (ds.take i) = some (rs, fl)) ?_ ?_ ?_ ?_⟩
    · exact ⟨L, xs, rows, 0, none, none, rfl, fun _ _ h => h, hL, hR3, rfl⟩
    · rintro i σ G ⟨c, zs, rs, fl, v4, v5, rfl, s4, _⟩
      exact s4
    · rintro i z σ G T' hx ⟨c, zs, rs, fl, v4, v5, rfl, s4, hc, hRc, hrun⟩ nT
      obtain ⟨e', he', hd'⟩ := hB.get hx
      have hi := lt_of_get he'
      have k5 := same_new nT (o := .tup [.int (i : Nat), z])
      have s5 := s4.trans k5
      have hT : (upd G T' (.tup [.int (i : Nat), z])) T' = some (.tup [.int (i : Nat), z]) := upd_same
      have hc5 := k5 _ _ hc
      have hR5 := hRc.same k5
      generalize upd G T' (.tup [.int (i : Nat), z]) = G1 at s5 hT hc5 hR5
      have et : ds.take (i + 1) = ds.take i ++ [e'] := take_more he'
      have lrs : rs.length ≤ 900 := by
        have := runA_len hrun
        rw [List.length_take] at this
        dsimp only at this
        omega
      have esp : ds = ds.take i ++ (e' :: ds.drop (i + 1)) := by
        have e1 : ds.drop i = e' :: ds.drop (i + 1) := by
          rw [List.drop_eq_getElem_cons hi]
          congr 1
          rw [List.getElem?_eq_getElem hi] at he'
          exact Option.some.inj he'
        rw [← e1, List.take_append_drop]
      refine ⟨T', _, rfl, st hT, rfl, .int (i : Nat), [z], rfl, z, [], rfl, rfl, ?_⟩
      refine ⟨_, rfl, _, rfl, _, rfl, c, zs, rs, fl, z, e', rfl, hc5, hR5, lrs, hd'.same s5, hwe e' (List.mem_of_getElem? he'), fun G2 s6 => ⟨_, rfl, ?_⟩⟩
      have s56 := s5.trans s6
      have est := stA_fit (s := (rs, fl)) (d := e')
      dsimp only at est
      cases hst : stA (rs, fl) e' with
      | none =>
        rw [hst] at est
        refine itbT (by rw [est]; rfl) ⟨_, rfl, _, rfl, ?_⟩
        have hbad : badA (rows, 0) ds = some i := by
          rw [esp, badA_split hrun, badA_bad hst, List.length_take, Nat.min_eq_left (by omega)]
          show some (0 + i) = _
          rw [Nat.zero_add]
        rcases h with ⟨j, hj, er⟩ | ⟨hnn, _⟩
        · rw [hbad] at hj; cases hj
          exact er.go (s3.trans s56)
        · rw [hbad] at hnn; cases hnn
      | some s' =>
        rw [hst] at est
        refine itbF (by rw [est]; rfl) ?_
        obtain ⟨t, rfl, okt, hft, rfl⟩ := stA_some hst
        have hrun' : runA (rows, 0) (ds.take (i + 1)) = some (behN rs t, flN fl t) := by rw [et, runA_snoc hrun, hst]
        have hd2 := hd'.same s56
        have hc2 := s6 _ _ hc5
        have hR2 := hR5.same s6
        have fin : ∀ (fl' : Int) (v4 v5 : Option V), fl' = flN fl t → ∀ c2 zs2 G3, Same G2 G3 → G3 c2 = some (.lst zs2) → RwA G3 zs2 (behN rs t) →
            (∃ (c : Addr) (zs : List V) (rs' : List En) (fl : Int) (v4' v5' : Option V), ([some (.ref a), some (.ref b), some (.ref c2), some (.int fl'), v4, v5] : L2.St) = [some (.ref a), some (.ref b), some (.ref c), some (.int fl), v4', v5'] ∧ Same H3 G3 ∧ G3 c = some (.lst zs) ∧ RwA G3 zs rs' ∧ runA (rows, 0) (ds.take (i + 1)) = some (rs', fl)) := by
          rintro fl' v4 v5 rfl c2 zs2 G3 s7 hc3 hR3
          exact ⟨c2, zs2, _, _, v4, v5, rfl, s56.trans s7, hc3, hR3, hrun'⟩
        have hbe : ∀ (fl' : Int) (v4 v5 : Option V), fl' = flN fl t → spBe [.ref c, z] G2 (fun v G3 => ∃ (c : Addr) (zs : List V) (rs' : List En) (fl : Int) (v4' v5' : Option V), ([some (.ref a), some (.ref b), some v, some (.int fl'), v4, v5] : L2.St) = [some (.ref a), some (.ref b), some (.ref c), some (.int fl), v4', v5'] ∧ Same H3 G3 ∧ G3 c = some (.lst zs) ∧ RwA G3 zs rs' ∧ runA (rows, 0) (ds.take (i + 1)) = some (rs', fl)) E0 :=
          fun fl' v4 v5 ef => ⟨c, zs, rs, fl, z, t, rfl, hc2, hR2, lrs, hd2, okt, hft, fun c2 zs2 G3 s7 h3 hR3 => fin fl' v4 v5 ef c2 zs2 G3 s7 h3 hR3⟩
        cases t with
        | come en =>
          obtain ⟨ta, yy, rfl, hta, _⟩ := tup4D hd2
          refine ⟨_, rfl, ta, _, 0, _, rfl, rfl, st hta, atI_nat (j := 0) rfl, rfl, _, rfl, itbF (str_ne (by decide +kernel)) ?_⟩
          exact ⟨_, rfl, _, rfl, hbe fl _ _ rfl⟩
        | letter n s m =>
          obtain ⟨ta, yy, rfl, hta, _⟩ := tup4D hd2
          refine ⟨_, rfl, ta, _, 0, _, rfl, rfl, st hta, atI_nat (j := 0) rfl, rfl, _, rfl, itbF (str_ne (by decide +kernel)) ?_⟩
          exact ⟨_, rfl, _, rfl, hbe fl _ _ rfl⟩
        | gone n =>
          obtain ⟨ta, rfl, hta⟩ := tup2D hd2
          refine ⟨_, rfl, ta, _, 0, _, rfl, rfl, st hta, atI_nat (j := 0) rfl, rfl, _, rfl, itbF (str_ne (by decide +kernel)) ?_⟩
          exact ⟨_, rfl, _, rfl, hbe fl _ _ rfl⟩
        | done m n =>
          obtain ⟨ta, rfl, hta⟩ := tup3D hd2
          refine ⟨_, rfl, ta, _, 0, _, rfl, rfl, st hta, atI_nat (j := 0) rfl, rfl, _, rfl, itbT (decide_eq_true rfl) ?_⟩
          refine ⟨_, rfl, ta, _, 1, _, rfl, rfl, st hta, atI_nat (j := 1) rfl, ?_⟩
          exact ⟨_, rfl, _, rfl, hbe m _ _ rfl⟩
    · rintro σ G ⟨c, zs, rs, fl, v4, v5, rfl, s4, hc, hRc, hrun⟩
      rw [ly, List.take_length] at hrun
      refine ⟨_, rfl, ?_⟩
      rcases h with ⟨j, hj, er⟩ | ⟨_, rs', fl', hr', q⟩
      · have := badA_split (es := []) hrun
        rw [List.append_nil, hj] at this
        cases this
      · rw [hrun] at hr'
        cases hr'
        exact q c zs G (s3.trans s4) hc hRc
end
end K1


set_option Elab.async false
set_option linter.all false
set_option maxRecDepth 100000
set_option maxHeartbeats 4000000
/-! try with several except clauses, each with a name or without one -/
namespace L2
open PySem PySem.Spec PyProof.Rows
def wManyA (K : PySem.W.Frag) (Wout : WX) (D : Ends) : List (Value × Option Nat × (Addr → Value → Option Addr → TS)) → WX
  | [] => Wout
  | (c, none, ts) :: r => fun cls d σ H => ∃ b, PySem.W.exmOne K cls c = some b ∧ (b = true → ∀ a, H a = none → ts a cls d D σ H) ∧ (b = false → wManyA K Wout D r cls d σ H)
  | (c, some i, ts) :: r => fun cls d σ H => ∃ b, PySem.W.exmOne K cls c = some b ∧ (b = true → i < σ.length → ∀ a, H a = none → ts a cls d { nx := fun σ' H' => D.nx (σ'.set i none) H', rt := D.rt, bk := fun σ' H' => D.bk (σ'.set i none) H', ct := fun σ' H' => D.ct (σ'.set i none) H' } (σ.set i (some (.ref a))) H) ∧
      (b = false → wManyA K Wout D r cls d σ H)
inductive HdsA (X : Cx) : List ExceptHandler → List (Value × Option Nat × (Addr → Value → Option Addr → TS)) → Prop
  | nil : HdsA X [] []
  | plain {x : Str} {c : Value} {ts : Addr → Value → Option Addr → TS} {b₀ : Stmt} {suite : List Stmt} {np pos' : Pos} {hds : List ExceptHandler} {l : List (Value × Option Nat × (Addr → Value → Option Addr → TS))} (hc : Names X x c)
      (hsu : ∀ (a : Addr) (oe : Obj) (cls : Value) (d : Option Addr) (pn : List (Addr × Obj)), Zc cls d oe → (∃ vs, oe.data = .fields vs) → PSs (X.suite a ((a, oe) :: pn)) (b₀ :: suite) (ts a cls d)) (r : HdsA X hds l) :
      HdsA X (.ExceptHandler (some (.Name x np)) none (b₀ :: suite) pos' :: hds) ((c, none, ts) :: l)
  | named {x n : Str} {i : Nat} {c : Value} {ts : Addr → Value → Option Addr → TS} {b₀ : Stmt} {suite : List Stmt} {np pos' : Pos} {hds : List ExceptHandler} {l : List (Value × Option Nat × (Addr → Value → Option Addr → TS))} (hi : X.N[i]? = some n) (hln : X.env.kindOf n = some .local) (hc : Names X x c)
      (hsu : ∀ (a : Addr) (oe : Obj) (cls : Value) (d : Option Addr) (pn : List (Addr × Obj)), Zc cls d oe → (∃ vs, oe.data = .fields vs) → PSs (X.suite a ((a, oe) :: pn)) (b₀ :: suite) (ts a cls d)) (r : HdsA X hds l) :
      HdsA X (.ExceptHandler (some (.Name x np)) (some n) (b₀ :: suite) pos' :: hds) ((c, some i, ts) :: l)
section
variable {X : Cx} {body : List Stmt} {h₀ : ExceptHandler} {hds : List ExceptHandler} {l : List (Value × Option Nat × (Addr → Value → Option Addr → TS))} {pos : Pos} {tb : WX → TS} {Wout : WX}
theorem ps_try_manyA (hs : X.stack = X.env :: X.outer) (hf : X.env.frame = some X.env.locals) (hN : X.N.Nodup) (tk : Takes X Wout)
    (hb : ∀ (W : WX) (pn : List (Addr × Obj)) (xe : Value → Shared → Prop), Takes (X.tr pn xe) W → PassesOwn (model X.prog X.w) X.A X.env xe → PSs (X.tr pn xe) body (tb W))
    (hh : HdsA X (h₀ :: hds) l) : PS X (.Try body (h₀ :: hds) [] [] pos) (fun D σ H => tb (wManyA X.K Wout D l) D σ H) := by
  refine ⟨fun pins s σ H D I h => ?_⟩
  have ok := I.ok
  have hfr : X.A.frames = some (X.env :: X.outer) := by rw [ok.frames, hs]
  refine wpAny_Try_except ?_
  refine wpAny_mono ((hb (wManyA X.K Wout D l) (X.pn ++ pins) (fun e s₁ => wpAny (model X.prog X.w) X.A (noteFrame e X.env) (fun _ s₂ => wpAny (model X.prog X.w) X.A (setFlight e none) (fun _ s₃ =>
    wpAny (model X.prog X.w) X.A (handleBy e X.env (h₀ :: hds)) (SP X pins D) X.xe s₃) X.xe s₂) X.xe s₁) (fun u s' xx => ?_) PassesOwn.looking).run [] s σ H D (I.toTry _) h) (fun f s1 hsp => ?_) (fun e s1 he => he)
  · -- the catch
    obtain ⟨a, B, sI, pins', σ', H', cls, d, rfl, J', nb, up, sky, na, os, ag, w⟩ := xx
    have J : Inv X pins σ' H' sI := J'.ofTry ok
    have sky' : Sky B (X.env :: X.outer) a (Zc cls d) X.env.locals s'.heap := by rw [← hs]; exact sky
    show wpAny (model X.prog X.w) X.A (noteFrame (.ref a) X.env) _ _ _
    refine Sky.land Zc.steady hfr hf sky' fun h3 fl3 up3 => ?_
    have J3 : Inv X pins σ' H' { s' with heap := h3 } := J.landed nb fl3.1 (up.trans up3) os ag
    obtain ⟨oe3, vs3, he3, hz3, hd3⟩ := fl3.there
    have notFr : ∀ {h : Heap} {o : Obj} {vs : Array Value}, h.FunFrames B (X.env :: X.outer) → h.get? a = some o → o.data = .fields vs → a ∉ frs (X.env :: X.outer) := fun {h o vs} ff e dd hm => by
      obtain ⟨_, o', e', hnf⟩ := ff.mem hm
      rw [e] at e'; cases e'
      exact hnf _ dd
    have nfr := notFr fl3.2.2.1 he3 hd3
    have nL : a ≠ X.env.locals := fun z => nfr (List.mem_filterMap.mpr ⟨X.env, List.mem_cons_self, by rw [hf, z]⟩)
    have nF : a ∉ X.fs := fun hm => by
      obtain ⟨e, he, q⟩ := List.mem_filterMap.mp hm
      exact nfr (List.mem_filterMap.mpr ⟨e, List.mem_cons_of_mem _ he, q⟩)
    have S3 := J3.suite he3 hd3 na nL nF
    have LT : PySem.W.Looks (model X.prog X.w) h3 (typeOf (.ref a)) cls := fun A Q E s k q => wpAny_typeOf_ref (k _ _ he3) (by rw [hz3.1]; exact q)
    have test : ∀ {x : Str} {np : Pos} {c : Value} (hc : Names X x c) {Q : Value → Shared → Prop} {E : Value → Shared → Prop}, Q c { s' with heap := h3 } → wpAny (model X.prog X.w) (X.A.mark (some (.ref a))) (eval (.Name x np) X.env) Q E { s' with heap := h3 } := fun {x np c} hc {Q E} q => by
      obtain ⟨hg, hdbg, hm | ⟨hm, hv, hnn⟩⟩ := hc
      · exact ld_glob (X := X.suite a ((a, oe3) :: (X.pn ++ pins))) S3 hg hm q hdbg
      · exact ld_blt (X := X.suite a ((a, oe3) :: (X.pn ++ pins))) S3 hg hm hv q hnn hdbg
    have go : ∀ {hds' : List ExceptHandler} {l' : List (Value × Option Nat × (Addr → Value → Option Addr → TS))}, HdsA X hds' l' → wManyA X.K Wout D l' cls d σ' H' →
        wpAny (model X.prog X.w) X.A (handleBy (.ref a) X.env hds') (SP X pins D) X.xe { s' with heap := h3 } := by
      intro hds' l' hk
      induction hk with
      | nil =>
        intro w
        refine wpAny_handleBy_nil ?_
        obtain ⟨k1, k2, k3, oe, vs, T, oT, ts', he, hz, hd, h1, hr⟩ := id fl3
        unfold PySem.passOn
        refine wpAny_bind (wpAny_field he hd h1 ?_)
        rw [if_neg (show ¬ ((Value.ref T == Value.none) = true) from by simp)]
        have fin : wpAny (model X.prog X.w) X.A (setFlight (.ref a) X.env.frame) (fun _ s4 => wpAny (model X.prog X.w) X.A (throw (.ref a) : Sem Flow) (SP X pins D) X.xe s4) X.xe { s' with heap := h3 } := by
          rw [hf]
          refine HandSPX.setFlight_upZ fl3 fun h4 hh4 up4 => wpAny_throw (tk _ _ ?_)
          exact ⟨a, B, sI, pins, σ', H', cls, d, rfl, J, nb, (up.trans up3).trans up4, .inr (.inr (by rw [hs]; exact hh4)), na, os, ag, w⟩
        first
          | exact wpAny_bind (wpAny_pure (wpAny_bind fin))
          | exact wpAny_bind fin
      | @plain x c ts b₀ suite np pos' hds2 l2 hc hsu r ih =>
        intro w
        obtain ⟨b, hb1, hyes, hno⟩ := w
        refine wpAny_handleBy_cons (codeAny_handlers_test ?_) (by intro q; cases q)
        have LM := PySem.W.exm_one (M := model X.prog X.w) (J3.kIn) LT hb1
        refine test hc (LM.here ?_)
        cases b with
        | true =>
          refine codeAny_handlers_suite ?_
          refine HandSPX.lands_againZ fl3 fun h4 fl4 up4 => ?_
          have J4 : Inv X pins σ' H' { s' with heap := h4 } := J.landed nb fl4.1 ((up.trans up3).trans up4) os ag
          obtain ⟨oe4, vs4, he4, hz4, hd4⟩ := fl4.there
          have S4 := J4.suite he4 hd4 na nL nF
          refine wpAny_mono ((hsu a oe4 cls d (X.pn ++ pins) hz4 ⟨_, hd4⟩).run [] _ _ H' _ S4 (hyes rfl a na)) (fun f s6 hsp => ?_) (fun _ _ z => False.elim z)
          cases f with
          | next =>
            obtain ⟨σ6, H6, S6, q6⟩ := hsp
            exact ⟨_, _, S6.unsuite ok, q6⟩
          | brk =>
            obtain ⟨σ6, H6, S6, q6⟩ := hsp
            exact ⟨_, _, S6.unsuite ok, q6⟩
          | cont =>
            obtain ⟨σ6, H6, S6, q6⟩ := hsp
            exact ⟨_, _, S6.unsuite ok, q6⟩
          | ret u =>
            obtain ⟨v6, σ6, H6, S6, r6, q6⟩ := hsp
            exact ⟨_, _, _, S6.unsuite ok, r6, q6⟩
        | false =>
          show wpAny _ X.A (handleBy (.ref a) X.env hds2) _ _ _
          exact ih (hno rfl)
      | @named x n i c ts b₀ suite np pos' hds2 l2 hi hln hc hsu r ih =>
        intro w
        have hloc : Loc X.env.scope n := .inl hln
        obtain ⟨b, hb1, hyes, hno⟩ := w
        refine wpAny_handleBy_cons (codeAny_handlers_test ?_) (by intro q; cases q)
        have LM := PySem.W.exm_one (M := model X.prog X.w) (J3.kIn) LT hb1
        refine test hc (LM.here ?_)
        cases b with
        | true =>
          refine codeAny_handlers_suite_as ?_
          refine HandSPX.lands_againZ fl3 fun h4 fl4 up4 => ?_
          have J4 : Inv X pins σ' H' { s' with heap := h4 } := J.landed nb fl4.1 ((up.trans up3).trans up4) os ag
          obtain ⟨oe4, vs4, he4, hz4, hd4⟩ := fl4.there
          have S4 := J4.suite he4 hd4 na nL nF
          refine store_ok (X := X.suite a ((a, oe4) :: (X.pn ++ pins))) (v := .ref a) S4 hN hi hloc rfl (fun s5 S5 => ?_) (.inr hln)
          refine wpAny_mono ((hsu a oe4 cls d (X.pn ++ pins) hz4 ⟨_, hd4⟩).run [] s5 _ H' _ S5 (hyes rfl (by rw [J.len]; exact (List.getElem?_eq_some_iff.mp hi).1) a na)) (fun f s6 hsp => ?_) (fun _ _ z => False.elim z)
          have end_ : ∀ {σ6 : St} {H6 : Hp} {Q : Shared → Prop}, Inv (X.suite a ((a, oe4) :: (X.pn ++ pins))) [] σ6 H6 s6 → (∀ s7, Inv X pins (σ6.set i none) H6 s7 → Q s7) →
              wpAny (model X.prog X.w) X.A (do bindName X.env n .none; unbindBehindTheSuite X.env n pos') (fun _ s7 => Q s7) X.xe s6 := fun {σ6 H6 Q} S6 hq => gone_ok (S6.unsuite ok) hN hi hln hq
          cases f with
          | next =>
            obtain ⟨σ6, H6, S6, q6⟩ := hsp
            exact end_ S6 fun s7 J7 => ⟨_, _, J7, q6⟩
          | brk =>
            obtain ⟨σ6, H6, S6, q6⟩ := hsp
            exact end_ S6 fun s7 J7 => ⟨_, _, J7, q6⟩
          | cont =>
            obtain ⟨σ6, H6, S6, q6⟩ := hsp
            exact end_ S6 fun s7 J7 => ⟨_, _, J7, q6⟩
          | ret u =>
            obtain ⟨v6, σ6, H6, S6, r6, q6⟩ := hsp
            exact end_ S6 fun s7 J7 => ⟨_, _, _, J7, r6, q6⟩
        | false =>
          show wpAny _ X.A (handleBy (.ref a) X.env hds2) _ _ _
          exact ih (hno rfl)
    exact go hh w
  · cases f with
    | next =>
      obtain ⟨σ', H', J', q⟩ := hsp
      exact wpAny_execs_nil ⟨σ', H', J'.ofTry ok, q⟩
    | brk =>
      obtain ⟨σ', H', J', q⟩ := hsp
      exact ⟨σ', H', J'.ofTry ok, q⟩
    | cont =>
      obtain ⟨σ', H', J', q⟩ := hsp
      exact ⟨σ', H', J'.ofTry ok, q⟩
    | ret u =>
      obtain ⟨v, σ', H', J', r, q⟩ := hsp
      exact ⟨v, σ', H', J'.ofTry ok, r, q⟩
end
end L2


set_option Elab.async false
set_option linter.all false
set_option maxRecDepth 100000
set_option maxHeartbeats 8000000
/-! k23: _law_told. -/
namespace K1
open PySem PySem.Spec PyProof.Rows L2 RZ StX
abbrev sTo : Stmt := st__law_told
abbrev nTo : List Str := ["_law_entries_here", "_law_notices", "e"]
abbrev pTo : List Str := ["_law_entries_here", "_law_notices"]
theorem scTo : FnScope nTo pTo (defScope sTo) := ⟨rfl, rfl, rfl, by decide +kernel, rfl, by decide +kernel, by decide +kernel⟩
noncomputable def enOf : PyData → En
  | .tuple [.int n, s, .int m] => ⟨n, s, m⟩
  | _ => ⟨0, .none, 0⟩
theorem enOf_en (e : En) : enOf (enD e) = e := rfl
theorem map_en (rows : List En) : (rows.map enD).map enOf = rows := by
  rw [List.map_map]
  exact (List.map_congr_left (fun e _ => enOf_en e)).trans (List.map_id rows)
noncomputable def rowE (i : Int) : PyData := .tuple [.str "row", .int i]
noncomputable def notE (i : Int) : PyData := .tuple [.str "notice", .int i]
noncomputable def toldL (rows : List En) (ds : List PyData) : PyData := match badA (rows, 0) ds with
  | some i => notE (i : Int)
  | none => match runA (rows, 0) ds with
    | some s => .list (s.1.map enD)
    | none => .none
noncomputable def toldN (rows : List En) (e : PyData) : PyData := if isSeq e = true then toldL rows (itemsD e) else notE (-1)
noncomputable def toldD (d e : PyData) : PyData := if isSeq d = true then (match badE 0 (itemsD d) with | some i => rowE (i : Int) | none => toldN ((itemsD d).map enOf) e) else rowE (-1)
def spTo : Sp := fun vs H Q _ => ∃ (x y : V) (d e : PyData), vs = [x, y] ∧ Dv H x d ∧ Dv H y e ∧ rwW d ∧ rwW e ∧ ∀ r H', Same H H' → Dv H' r (toldD d e) → Q r H'
theorem told_row {d e : PyData} {i : Nat} (h : isSeq d = true) (k : badE 0 (itemsD d) = some i) : toldD d e = rowE i := by unfold toldD; rw [if_pos h, k]
theorem told_noseq {d e : PyData} (h : isSeq d = false) : toldD d e = rowE (-1) := by unfold toldD; rw [if_neg (by rw [h]; simp)]
theorem told_go {d e : PyData} (h : isSeq d = true) (k : badE 0 (itemsD d) = none) : toldD d e = toldN ((itemsD d).map enOf) e := by unfold toldD; rw [if_pos h, k]
theorem toldN_no {rows : List En} {e : PyData} (h : isSeq e = false) : toldN rows e = notE (-1) := by unfold toldN; rw [if_neg (by rw [h]; simp)]
theorem toldN_go {rows : List En} {e : PyData} (h : isSeq e = true) : toldN rows e = toldL rows (itemsD e) := by unfold toldN; rw [if_pos h]
theorem toldL_bad {rows : List En} {ds : List PyData} {i : Nat} (h : badA (rows, 0) ds = some i) : toldL rows ds = notE i := by unfold toldL; rw [h]
theorem toldL_ok {rows : List En} {ds : List PyData} {s : List En × Int} (h : badA (rows, 0) ds = none) (k : runA (rows, 0) ds = some s) : toldL rows ds = .list (s.1.map enD) := by unfold toldL; rw [h, k]
section
variable {P : Program} {w : World} {K : PySem.W.Frag} {mg : Str → Option Value} {base : Heap} {CR CN CT fR fN : Addr}
theorem pair_dv {H : Hp} {p : Addr} {z : Str} {i : Int} (np : H p = none) : Dv (upd H p (.tup [.str z, .int i])) (.ref p) (.tuple [.str z, .int i]) := .tup upd_same (.cons (.str _) (.cons (.int _) .nil))
set_option maxHeartbeats 16000000 in
theorem ok_to {f : Addr} {fd : FuncData} (TR : PySem.Tide.TideTxt P K mg "BadRow" CR fR "at") (TN : PySem.Tide.TideTxt P K mg "BadNotice" CN fN "at") (gT : mg "TideError" = some (.ref CT)) (hRN : PySem.W.exmOne K (.ref CR) (.ref CN) = some false)
    (D_applied : Def P w K mg base (L2.CX P w) 5 "applied" pAp (spAp CR CN)) (F : Fun K "_law_told" "_law_told" sTo f fd) : FnOk P w K mg base CX0 6 f fd pTo spTo := by
  have nd := scTo.nd
  refine F.ok scTo (fun vs H Q E h => ?_) (fun cdv A outer s H vs Q E hr h => ?_)
  · obtain ⟨x, y, d, e, rfl, _⟩ := h
    rfl
  · obtain ⟨x, y, d, e, rfl, hd, he, hwd, hwe, q⟩ := h
    refine ⟨_, pss_one (ps_try_manyA (tb := fun W D σ H => ∃ Ech : XK, (∀ cls d σ' H', Ech cls d H' → W cls d σ' H') ∧ tRet (tCall (spAp CR CN) [] Ech (tCons (tVar 0) (tCons (tVar 1) tNil))) D σ H) rfl rfl nd LamX.takes0 (fun W pn xe tk _ => ?_)
      (.named (i := 2) (c := .ref CN) rfl rfl ⟨rfl, by decide, .inl TN.gC⟩ (fun a oe cls d pn hz hf => pss_one (ps_ret (pe_tup (pa_cons pe_str (pa_cons (pe_byTide TN hz hf (pv 2) rfl) pa_nil)))))
      (.named (i := 2) (c := .ref CR) rfl rfl ⟨rfl, by decide, .inl TR.gC⟩ (fun a oe cls d pn hz hf => pss_one (ps_ret (pe_tup (pa_cons pe_str (pa_cons (pe_byTide TR hz hf (pv 2) rfl) pa_nil)))))
      (.plain (c := .ref CT) ⟨rfl, by decide, .inl gT⟩ (fun a oe cls d pn _ _ => pss_one (ps_ret pe_non)) .nil)))), ?_⟩
    · refine ⟨fun pins s' σ H' D I h' => ?_⟩
      obtain ⟨Ech, hW', h⟩ := h'
      have ps : Passes (L2.CX P w) _ Ech := passes_call tk (fun cls d σ H h => hW' cls d σ H h)
      exact (pss_one (X := (cxOf CX0 P w K mg base nTo "_law_told" (defScope sTo) f cdv A outer s H E).tr pn xe) (ps_ret (pe_def D_applied (hr.mono (by decide)) rfl ps (pa_cons (pv 0) (pa_cons (pv 1) pa_nil))))).run pins s' σ H' D I h
    · refine ⟨fun cls d' H' => Same H H' ∧ ((cls = .ref CN ∧ ∃ (dd : Addr) (i : Int), d' = some dd ∧ H' dd = some (.xd [("at", .int i)]) ∧ toldD d e = notE i) ∨ (cls = .ref CR ∧ ∃ (dd : Addr) (i : Int), d' = some dd ∧ H' dd = some (.xd [("at", .int i)]) ∧ toldD d e = rowE i)), fun cls d' σ' H' hE => ?_, ?_⟩
      · obtain ⟨s1, ⟨rfl, dd, i, rfl, hdd, et⟩ | ⟨rfl, dd, i, rfl, hdd, et⟩⟩ := hE
        · refine ⟨true, TN.te, fun _ hl a na => ?_, fun z => by cases z⟩
          exact ⟨_, List.getElem?_set_self hl, rfl, rfl, dd, _, rfl, hdd, (by show 2 ≤ sizeLine; decide), fun p np => q _ _ (s1.new np) (by rw [et]; exact pair_dv np)⟩
        · refine ⟨false, hRN, (fun z => by cases z), fun _ => ⟨true, TR.te, fun _ hl a na => ?_, fun z => by cases z⟩⟩
          exact ⟨_, List.getElem?_set_self hl, rfl, rfl, dd, _, rfl, hdd, (by show 2 ≤ sizeLine; decide), fun p np => q _ _ (s1.new np) (by rw [et]; exact pair_dv np)⟩
      · refine ⟨_, rfl, _, rfl, x, y, d, e, rfl, hd, he, hwd, hwe, ?_⟩
        have row : ∀ {i : Int}, toldD d e = rowE i → ErrAt CR "at" (.int i) H (fun cls d' H' => Same H H' ∧ ((cls = .ref CN ∧ ∃ (dd : Addr) (i : Int), d' = some dd ∧ H' dd = some (.xd [("at", .int i)]) ∧ toldD d e = notE i) ∨ (cls = .ref CR ∧ ∃ (dd : Addr) (i : Int), d' = some dd ∧ H' dd = some (.xd [("at", .int i)]) ∧ toldD d e = rowE i))) :=
          fun et dd H' s1 hdd => ⟨s1, .inr ⟨rfl, dd, _, rfl, hdd, et⟩⟩
        have nti : ∀ {i : Int}, toldD d e = notE i → ErrAt CN "at" (.int i) H (fun cls d' H' => Same H H' ∧ ((cls = .ref CN ∧ ∃ (dd : Addr) (i : Int), d' = some dd ∧ H' dd = some (.xd [("at", .int i)]) ∧ toldD d e = notE i) ∨ (cls = .ref CR ∧ ∃ (dd : Addr) (i : Int), d' = some dd ∧ H' dd = some (.xd [("at", .int i)]) ∧ toldD d e = rowE i))) :=
          fun et dd H' s1 hdd => ⟨s1, .inl ⟨rfl, dd, _, rfl, hdd, et⟩⟩
        cases hs : isSeq d with
        | false => exact .inl ⟨rfl, row (told_noseq hs)⟩
        | true =>
          refine .inr ⟨rfl, ?_⟩
          cases hb : badE 0 (itemsD d) with
          | some i => exact .inl ⟨i, rfl, row (told_row hs hb)⟩
          | none =>
            refine .inr ⟨rfl, ?_⟩
            have e1 := told_go (e := e) hs hb
            obtain ⟨rows, er, _⟩ := badE_all hb
            rw [er, map_en] at e1
            cases hse : isSeq e with
            | false => exact .inl ⟨rfl, nti (e1.trans (toldN_no hse))⟩
            | true =>
              refine .inr ⟨rfl, rows, er, ?_⟩
              rw [toldN_go hse] at e1
              cases hba : badA (rows, 0) (itemsD e) with
              | some i => exact .inl ⟨i, rfl, nti (e1.trans (toldL_bad hba))⟩
              | none =>
                obtain ⟨⟨rs, fl⟩, hrun⟩ := badA_run hba
                refine .inr ⟨rfl, rs, fl, hrun, fun c ys H' s1 hc hR => q _ _ s1 ?_⟩
                rw [e1, toldL_ok hba hrun]
                exact .lst hc (of_rwA hR)
end
end K1


set_option Elab.async false
set_option linter.all false
set_option maxRecDepth 100000
set_option maxHeartbeats 4000000
namespace K1
open PySem PySem.Spec PyProof.Rows L2 RZ
/-! ### the draws -/
abbrev sCell : Stmt := st__law_cell_at
abbrev sWell : Stmt := st__law_well
abbrev sDraw : Stmt := st__law_draw
abbrev sOne : Stmt := st__law_one
abbrev nCell : List Str := ["_law_script", "_law_k"]
theorem scCell : FnScope nCell nCell (defScope sCell) := ⟨rfl, rfl, rfl, by decide +kernel, rfl, by decide +kernel, by decide +kernel⟩
abbrev nWell : List Str := ["_law_cell"]
theorem scWell : FnScope nWell nWell (defScope sWell) := ⟨rfl, rfl, rfl, by decide +kernel, rfl, by decide +kernel, by decide +kernel⟩
abbrev nDraw : List Str := ["_law_well_here", "_law_many", "_law_found", "_law_salt", "_law_base", "_law_number"]
abbrev pDraw : List Str := ["_law_well_here", "_law_many"]
theorem scDraw : FnScope nDraw pDraw (defScope sDraw) := ⟨rfl, rfl, rfl, by decide +kernel, rfl, by decide +kernel, by decide +kernel⟩
abbrev nOne : List Str := ["_law_well_here", "_law_some"]
theorem scOne : FnScope nOne nOne (defScope sOne) := ⟨rfl, rfl, rfl, by decide +kernel, rfl, by decide +kernel, by decide +kernel⟩
/-- a well, at most k of whose draws are done by its number -/
def WellT (H : Hp) (p : Addr) (k : Nat) : Prop := ∃ c m t : Int, H p = some (.lst [.int c, .int m, .int t]) ∧ 0 ≤ t ∧ t ≤ k
theorem WellT.at {H : Hp} {p : Addr} {k : Nat} (w : WellT H p k) : WellAt H p := let ⟨c, m, t, e, _⟩ := w; ⟨c, m, t, e⟩
theorem WellT.keep {H H' : Hp} {p : Addr} {k : Nat} (w : WellT H p k) (s : ∀ o, H p = some o → H' p = some o) : WellT H' p k := let ⟨c, m, t, e, h⟩ := w; ⟨c, m, t, s _ e, h⟩
def spCell (K : PySem.W.Frag) : Sp := fun vs H Q _ => ∃ (a : Addr) (ns : List Int) (k : Int), vs = [.ref a, .int k] ∧ SqL K H a (ns.map V.int) ∧ 0 ≤ k ∧ ∀ n : Int, Q (.int n) H
def spWell : Sp := fun vs H Q _ => ∃ (c : Int), vs = [.int c] ∧ ∀ (p : Addr) (H' : Hp), H p = none → Same H H' → WellT H' p 0 → Q (.ref p) H'
def spDraw : Sp := fun vs H Q _ => ∃ (p : Addr) (b : Int) (k : Nat), vs = [.ref p, .int b] ∧ WellT H p k ∧ k ≤ 100000 ∧ 0 < b ∧ b < 1073741824 ∧
  ∀ (d : Int) (H' : Hp), 0 ≤ d → d < b → Ext p H H' → WellT H' p (k + 1) → Q (.int d) H'
def spOne : Sp := fun vs H Q _ => ∃ (p a : Addr) (xs : List V) (k : Nat), vs = [.ref p, .ref a] ∧ WellT H p k ∧ k ≤ 100000 ∧ H a = some (.lst xs) ∧ 0 < xs.length ∧ xs.length < 1073741824 ∧ a ≠ p ∧
  ∀ (i : Nat) (x : V) (H' : Hp), xs[i]? = some x → Ext p H H' → WellT H' p (k + 1) → Q x H'
section
variable {P : Program} {w : World} {K : PySem.W.Frag} {mg : Str → Option Value} {base : Heap}
theorem ok_cell {f : Addr} {fd : FuncData} (T : Bj mg) (F : Fun K "_law_cell_at" "_law_cell_at" sCell f fd) : FnOk P w K mg base CX0 1 f fd nCell (spCell K) := by
  have nd := scCell.nd
  refine F.ok scCell (fun vs H Q E h => ?_) (fun cdv A outer s H vs Q E hr h => ?_)
  · obtain ⟨a, ns, k, rfl, _⟩ := h
    rfl
  · obtain ⟨a, ns, k, rfl, hS, h0, q⟩ := h
    refine ⟨_, (pss_cons (ps_if (pt_cmpR op_lt (pv 1) (pe_callB (call_lenK (K := K) rfl) (by rfl) T.len PySem.boot_len (pa_cons (pv 0) pa_nil)) (nomark _))
  (pss_one (ps_ret (pe_ix (ix_listK (K := K) rfl) (pv 0) (pv 1) (fun _ _ => rfl))))
  pss_nil)
 (pss_one (ps_ret pe_int))), ?_⟩
    refine ⟨_, rfl, _, rfl, a, _, rfl, .inl hS, _, _, rfl, rfl, _, rfl, ite2 (fun c => ?_) (fun c => q 0)⟩
    have c' : k < ns.length := by simpa using c
    have hi : k.toNat < ns.length := by omega
    exact ⟨_, rfl, _, rfl, a, _, k, .int ns[k.toNat], rfl, rfl, hS, at_of (j := k.toNat) (by omega) (by simp [hi]), q _⟩
theorem ok_well {f : Addr} {fd : FuncData} (T : Bj mg) (F : Fun K "_law_well" "_law_well" sWell f fd) : FnOk P w K mg base CX0 1 f fd nWell spWell := by
  have nd := scWell.nd
  refine F.ok scWell (fun vs H Q E h => ?_) (fun cdv A outer s H vs Q E hr h => ?_)
  · obtain ⟨c, rfl, _⟩ := h
    rfl
  · obtain ⟨c, rfl, q⟩ := h
    refine ⟨_, (pss_one (ps_ret (pe_lst (pa_cons (pe_ix (ix_listK (K := K) rfl) (pe_lst (pa_cons pe_int (pa_cons (pv 0) pa_nil))) (pe_callTy call_int1 (by rfl) T.int PyProof.Rows.boot_int (pa_cons (pe_cmpR op_ge (pv 0) (pe_op op_pow pe_int pe_int) (nomark _)) pa_nil)) (fun _ _ => rfl)) (pa_cons (pv 0) (pa_cons pe_int pa_nil)))))), ?_⟩
    refine ⟨_, rfl, (by show 2 ≤ sizeLine; decide), fun l nl => ⟨_, rfl, _, _, rfl, rfl, ⟨by decide, by decide, by decide⟩, _, _, rfl, rfl, .inr ⟨_, rfl, ?_⟩⟩⟩
    have s1 := same_new (o := .lst [.int 0, .int c]) nl
    have fin : ∀ (n : Int), ∀ p, (upd H l (.lst [.int 0, .int c])) p = none → Q (.ref p) (upd (upd H l (.lst [.int 0, .int c])) p (.lst [.int n, .int c, .int 0])) := fun n p np => q p _ (s1.free np) (s1.new np) ⟨n, c, 0, upd_same, by decide, by decide⟩
    by_cases h : c ≥ 10 ^ (18 : Int).toNat
    · rw [decide_eq_true h]
      exact ⟨l, _, 1, .int c, rfl, rfl, sq upd_same, atI_nat (j := 1) rfl, _, rfl, (by show 3 ≤ sizeLine; decide), fin c⟩
    · rw [decide_eq_false h]
      exact ⟨l, _, 0, .int 0, rfl, rfl, sq upd_same, atI_nat (j := 0) rfl, _, rfl, (by show 3 ≤ sizeLine; decide), fin 0⟩
theorem ok_draw {f : Addr} {fd : FuncData} (T : Bj mg) (F : Fun K "_law_draw" "_law_draw" sDraw f fd) : FnOk P w K mg base CX0 1 f fd pDraw spDraw := by
  have nd := scDraw.nd
  refine F.ok scDraw (fun vs H Q E h => ?_) (fun cdv A outer s H vs Q E hr h => ?_)
  · obtain ⟨p, b, k, rfl, _⟩ := h
    rfl
  · obtain ⟨p, b, k, rfl, ⟨c, m, t, hp, t0, tk⟩, hk, hb0, hb1, q'⟩ := h
    have q : ∀ (d c m t : Int), 0 ≤ d → d < b → 0 ≤ t → t ≤ (k + 1 : Nat) → Q (.int d) (upd H p (.lst [.int c, .int m, .int t])) := fun d c m t h1 h2 h3 h4 => q' d _ h1 h2 (Ext.refl H).self ⟨c, m, t, upd_same, h3, h4⟩
    refine ⟨_, (pss_cons (ps_if (pt_cmpR op_gt (pe_ix (ix_listK (K := K) rfl) (pv 0) pe_int (fun _ _ => rfl)) pe_int (nomark _))
  (pss_cons (ps_set (i := 2) nd rfl (Or.inl rfl) (pe_op op_mod (pe_callTy call_int1 (by rfl) T.int PyProof.Rows.boot_int (pa_cons (pe_ix (ix_listK (K := K) rfl) (pv 0) pe_int (fun _ _ => rfl)) pa_nil)) (pv 1)))
 (pss_cons (ps_asg (pe_op op_fdiv (pe_ix (ix_listK (K := K) rfl) (pv 0) pe_int (fun _ _ => rfl)) (pv 1)) (pg_sub (pv 0) pe_int set_list))
 (pss_one (ps_ret (pv 2)))))
  pss_nil)
 (pss_cons (ps_asg (pe_op op_add (pe_ix (ix_listK (K := K) rfl) (pv 0) pe_int (fun _ _ => rfl)) pe_int) (pg_sub (pv 0) pe_int set_list))
 (pss_cons (ps_set (i := 3) nd rfl (Or.inl rfl) (pe_op op_mod (pe_callTy call_int1 (by rfl) T.int PyProof.Rows.boot_int (pa_cons (pe_op op_fdivW (pe_ix (ix_listK (K := K) rfl) (pv 0) pe_int (fun _ _ => rfl)) pe_int) pa_nil)) pe_int))
 (pss_cons (ps_set (i := 4) nd rfl (Or.inl rfl) (pe_op op_add (pe_op op_add (pe_op op_add (pe_op op_mod (pe_callTy call_int1 (by rfl) T.int PyProof.Rows.boot_int (pa_cons (pe_ix (ix_listK (K := K) rfl) (pv 0) pe_int (fun _ _ => rfl)) pa_nil)) pe_int) (pe_op op_mul pe_int (pe_ix (ix_listK (K := K) rfl) (pv 0) pe_int (fun _ _ => rfl)))) (pv 3)) pe_int))
 (pss_cons (ps_set (i := 5) nd rfl (Or.inl rfl) (pe_op op_mod (pe_callTy call_int1 (by rfl) T.int PyProof.Rows.boot_int (pa_cons (pe_op op_pow (pv 4) pe_int) pa_nil)) pe_int))
 (pss_cons (ps_set (i := 5) nd rfl (Or.inl rfl) (pe_op op_mod (pe_callTy call_int1 (by rfl) T.int PyProof.Rows.boot_int (pa_cons (pe_op op_mul (pv 5) (pe_op op_add (pe_op op_add (pe_op op_fdiv (pv 5) pe_int) pe_int) (pe_ix (ix_listK (K := K) rfl) (pv 0) pe_int (fun _ _ => rfl)))) pa_nil)) pe_int))
 (pss_one (ps_ret (pe_op op_mod (pe_callTy call_int1 (by rfl) T.int PyProof.Rows.boot_int (pa_cons (pe_op op_mod (pe_callTy call_int1 (by rfl) T.int PyProof.Rows.boot_int (pa_cons (pe_op op_mul (pv 5) (pe_op op_add (pe_op op_fdiv (pv 5) pe_int) pe_int)) pa_nil)) pe_int) pa_nil)) (pv 1)))))))))), ?_⟩
    have r0 : ∀ x y z : Int, SqL K (upd H p (.lst [.int x, .int y, .int z])) p [.int x, .int y, .int z] := fun x y z => .inl (.inl upd_same)
    have hS : SqL K H p [.int c, .int m, .int t] := .inl (.inl hp)
    have rg : ∀ z : Int, 0 ≤ z % b ∧ z % b < b := fun z => ⟨Int.emod_nonneg _ (by omega), Int.emod_lt_of_pos _ hb0⟩
    refine ⟨.ref p, rfl, p, _, 0, .int c, rfl, rfl, hS, atI_nat (j := 0) rfl, _, _, rfl, rfl, _, rfl, ?_⟩
    refine ite2 (fun _ => ?_) (fun _ => ?_)
    · refine ⟨.ref p, rfl, p, _, 0, .int c, rfl, rfl, hS, atI_nat (j := 0) rfl, .inl ⟨c, rfl, _, rfl, c, b, rfl, rfl, hb0, ?_⟩⟩
      refine ⟨.ref p, rfl, p, _, 0, .int c, rfl, rfl, hS, atI_nat (j := 0) rfl, _, rfl, c, b, rfl, rfl, ⟨hb0, hb1⟩, ?_⟩
      refine ⟨.ref p, rfl, p, _, 0, 0, rfl, rfl, hp, rfl, ?_⟩
      exact ⟨_, rfl, q (c % b) (c / b) m t (rg c).1 (rg c).2 t0 (by omega)⟩
    · refine ⟨.ref p, rfl, p, _, 2, .int t, rfl, rfl, hS, atI_nat (j := 2) rfl, _, _, rfl, rfl, ?_⟩
      refine ⟨.ref p, rfl, p, _, 2, 2, rfl, rfl, hp, rfl, ?_⟩
      refine ⟨.ref p, rfl, p, _, 1, .int m, rfl, rfl, r0 c m (t + 1), atI_nat (j := 1) rfl, _, _, rfl, rfl, wide_div (b := 31) (by decide) (by decide) (by decide) (by decide), .inl ⟨_, rfl, _, _, rfl, rfl, (by show (0 : Int) < _; decide), ?_⟩⟩
      refine ⟨.ref p, rfl, p, _, 1, .int m, rfl, rfl, r0 c m (t + 1), atI_nat (j := 1) rfl, .inl ⟨_, rfl, _, _, rfl, rfl, (by show (0 : Int) < _; decide), ?_⟩⟩
      refine ⟨.ref p, rfl, p, _, 2, .int (t + 1), rfl, rfl, r0 c m (t + 1), atI_nat (j := 2) rfl, _, _, rfl, rfl, .inl ⟨by decide, by decide⟩, _, _, rfl, rfl, _, rfl, _, _, rfl, rfl, _, _, rfl, rfl, ?_⟩
      have b0 : (m % 2147483629 + 7919 * (t + 1) + m / 2147483629 % 65521 + 1).natAbs < 2 ^ 64 := by
        have h1 : 0 ≤ m % 2147483629 ∧ m % 2147483629 < 2147483629 := ⟨Int.emod_nonneg _ (by decide), Int.emod_lt_of_pos _ (by decide)⟩
        have h2 : 0 ≤ m / 2147483629 % 65521 ∧ m / 2147483629 % 65521 < 65521 := ⟨Int.emod_nonneg _ (by decide), Int.emod_lt_of_pos _ (by decide)⟩
        exact Nat.lt_of_lt_of_le (show _ < 10000000000 by omega) (by decide)
      refine ⟨_, rfl, m % 2147483629 + 7919 * (t + 1) + m / 2147483629 % 65521 + 1, 5, rfl, rfl, ⟨by decide, by decide, b0⟩, .inl ⟨_, rfl, _, _, rfl, rfl, (by show (0 : Int) < _; decide), ?_⟩⟩
      generalize he : (m % 2147483629 + 7919 * (t + 1) + m / 2147483629 % 65521 + 1) ^ (5 : Int).toNat % 2147483647 = e
      have e0 : 0 ≤ e ∧ e < 2147483647 := by rw [← he]; exact ⟨Int.emod_nonneg _ (by decide), Int.emod_lt_of_pos _ (by decide)⟩
      refine ⟨_, rfl, _, rfl, _, _, rfl, rfl, ⟨by decide, by decide⟩, _, _, rfl, rfl, .ref p, rfl, p, _, 2, .int (t + 1), rfl, rfl, r0 c m (t + 1), atI_nat (j := 2) rfl, _, _, rfl, rfl, _, _, rfl, rfl, .inl ⟨by omega, by omega⟩, .inl ⟨_, rfl, _, _, rfl, rfl, (by show (0 : Int) < _; decide), ?_⟩⟩
      generalize hg : e * (e / 1009 + 69621 + (t + 1)) % 2147483629 = g
      have g0 : 0 ≤ g ∧ g < 2147483629 := by rw [← hg]; exact ⟨Int.emod_nonneg _ (by decide), Int.emod_lt_of_pos _ (by decide)⟩
      refine ⟨_, rfl, _, rfl, _, _, rfl, rfl, ⟨by decide, by decide⟩, _, _, rfl, rfl, _, _, rfl, rfl, .inl ⟨by omega, by omega⟩, .inl ⟨_, rfl, _, _, rfl, rfl, (by show (0 : Int) < _; decide), .inl ⟨_, rfl, _, rfl, _, _, rfl, rfl, hb0, ?_⟩⟩⟩
      exact q _ c m (t + 1) (rg _).1 (rg _).2 (by omega) (by omega)
theorem ok_one {f : Addr} {fd : FuncData} (T : Bj mg) (D_draw : Def P w K mg base CX0 1 "_law_draw" pDraw spDraw) (F : Fun K "_law_one" "_law_one" sOne f fd) : FnOk P w K mg base CX0 2 f fd nOne spOne := by
  refine F.ok scOne (fun vs H Q E h => ?_) (fun cdv A outer s H vs Q E hr h => ?_)
  · obtain ⟨p, a, xs, k, rfl, _⟩ := h
    rfl
  · obtain ⟨p, a, xs, k, rfl, hw, hk, ha, h0, h1, nap, q⟩ := h
    refine ⟨_, (pss_one (ps_ret (pe_ix (ix_listK (K := K) rfl) (pv 1) (pe_def D_draw (hr.mono (by decide)) rfl pass0 (pa_cons (pv 0) (pa_cons (pe_callB (call_lenK (K := K) rfl) (by rfl) T.len PySem.boot_len (pa_cons (pv 1) pa_nil)) pa_nil))) (fun _ _ => rfl)))), ?_⟩
    refine ⟨_, rfl, _, rfl, _, rfl, a, xs, rfl, .inl (sq ha), ?_⟩
    refine ⟨p, xs.length, k, rfl, hw, hk, by omega, by omega, fun d H' d0 d1 hx hw' => ?_⟩
    have hi : d.toNat < xs.length := by omega
    have hg : xs[d.toNat]? = some xs[d.toNat] := List.getElem?_eq_getElem hi
    exact ⟨a, xs, d, _, rfl, rfl, sq (hx _ _ nap ha), at_of (j := d.toNat) (by omega) hg, q _ _ _ hg hx hw'⟩
end
end K1


set_option Elab.async false
set_option linter.all false
set_option maxRecDepth 100000
set_option maxHeartbeats 8000000
/-! k23: data of tuples, literals, draws; _law_entries. -/
namespace K1
open PySem PySem.Spec PyProof.Rows L2 RZ StX
mutual
def tO : PyData → Bool
  | .list _ => false
  | .tuple xs => tOA xs
  | .dict _ => false
  | _ => true
def tOA : List PyData → Bool
  | [] => true
  | x :: r => tO x && tOA r
end
/-- all tuples stay -/
def TU (H G : Hp) : Prop := ∀ b xs, H b = some (.tup xs) → G b = some (.tup xs)
theorem TU.trans {H G J : Hp} (a : TU H G) (b : TU G J) : TU H J := fun x xs h => b x xs (a x xs h)
theorem TU.same {H G : Hp} (s : Same H G) : TU H G := fun x xs h => s _ _ h
theorem TU.ext {H G : Hp} (s : LamX.ExtN H G) : TU H G := fun x xs h => s _ _ h fun _ z => by cases z
theorem TU.w {p : Addr} {k : Nat} {H G : Hp} (w : WellT H p k) (e : Ext p H G) : TU H G := fun x xs h => e _ _ (fun z => by obtain ⟨c, m, t, e, _⟩ := w; rw [z, e] at h; cases h) h
theorem TU.mut {H : Hp} {D : Addr} {o u : HO} (hD : H D = some o) (ho : ∀ xs, o ≠ .tup xs) : TU H (upd H D u) := fun x xs h => by
  rw [upd_ne (fun z => by rw [z, hD] at h; exact ho xs (Option.some.inj h))]; exact h
mutual
theorem Dv.tu {H H' : Hp} (s : TU H H') : ∀ {v : V} {d : PyData}, Dv H v d → tO d = true → Dv H' v d
  | _, _, .non, _ => .non
  | _, _, .bl b, _ => .bl b
  | _, _, .int i, _ => .int i
  | _, _, .str x, _ => .str x
  | _, _, .lst h r, n => by cases n
  | _, _, .tup h r, n => .tup (s _ _ h) (DvA.tu s r ((by exact n)))
  | _, _, .dic h, n => by cases n
theorem DvA.tu {H H' : Hp} (s : TU H H') : ∀ {vs : List V} {ds : List PyData}, DvA H vs ds → tOA ds = true → DvA H' vs ds
  | _, _, .nil, _ => .nil
  | _, _, .cons h r, n => .cons (Dv.tu s h ((Bool.and_eq_true _ _).mp n).1) (DvA.tu s r ((Bool.and_eq_true _ _).mp n).2)
end
theorem tO_strs : ∀ ss : List Str, tOA (ss.map PyData.str) = true
  | [] => rfl
  | s :: r => by
    show (true && tOA (r.map PyData.str)) = true
    rw [tO_strs r]; rfl
/-- the signs of the law -/
def SG : List (List Str) := [[], ["a"], ["a", "b"], ["x", "y"], ["q"], ["b"]]
noncomputable def ssD (ss : List Str) : PyData := .tuple (ss.map PyData.str)
theorem tO_ss (ss : List Str) : tO (ssD ss) = true := tO_strs ss
theorem sg_ok : ∀ ss ∈ SG, sgsB (ssD ss) = true := fun ss h => (sgsB_strs ss).trans ((by decide +kernel : ∀ ss ∈ SG, okSs ss = true) ss h)
def EnG (e : En) : Prop := 1 ≤ e.n ∧ 0 ≤ e.m ∧ ∃ ss ∈ SG, e.s = ssD ss
theorem EnG.ok {e : En} (h : EnG e) : EnOk e := let ⟨h1, h2, ss, h3, h4⟩ := h; ⟨h1, by rw [h4]; exact sg_ok ss h3, h2⟩
theorem EnG.tO {e : En} (h : EnG e) : tO (enD e) = true := by
  obtain ⟨_, _, ss, _, h4⟩ := h
  show (true && (K1.tO e.s && (true && true))) = true
  rw [h4, tO_ss]; rfl
structure RwG (rows : List En) : Prop where
  ok : ∀ e ∈ rows, EnG e
  up : (rows.map (·.n)).Pairwise (· < ·)
theorem RwA.tu {H H' : Hp} (s : TU H H') : ∀ {xs : List V} {rows : List En}, RwA H xs rows → (∀ e ∈ rows, EnG e) → RwA H' xs rows
  | _, _, .nil, _ => .nil
  | _, _, .cons h r, g => .cons (h.tu s (g _ List.mem_cons_self).tO) (RwA.tu s r fun e he => g e (List.mem_cons_of_mem _ he))
theorem WellT.mono {H : Hp} {p : Addr} {k k' : Nat} (w : WellT H p k) (h : k ≤ k') : WellT H p k' := let ⟨c, m, t, e, h1, h2⟩ := w; ⟨c, m, t, e, h1, by omega⟩
theorem WellT.same {H H' : Hp} {p : Addr} {k : Nat} (w : WellT H p k) (s : Same H H') : WellT H' p k := w.keep fun o h => s _ _ h
theorem WellT.ne {H : Hp} {p q : Addr} {k : Nat} (w : WellT H p k) (n : H q = none) : q ≠ p := fun z => by obtain ⟨c, m, t, e, _⟩ := w; rw [z, e] at n; cases n
/-! ### literals -/
def Gs (te : TE) (σ : L2.St) (d : PyData) : Prop := ∀ (G : Hp) (Q : VK), (∀ v J, Same G J → Dv J v d → Q v J) → te σ G Q
def GsA (ta : TA) (σ : L2.St) (ds : List PyData) : Prop := ∀ (G : Hp) (Q : List V → Hp → Prop), (∀ vs J, Same G J → DvA J vs ds → Q vs J) → ta σ G Q
def GsL (te : TE) (σ : L2.St) (ds : List PyData) : Prop := ∀ (G : Hp) (Q : VK), (∀ L xs J, Same G J → G L = none → J L = some (.lst xs) → DvA J xs ds → Q (.ref L) J) → te σ G Q
section
variable {σ : L2.St} {te : TE} {ta : TA} {d : PyData} {ds : List PyData}
theorem gs_str (z : Str) : Gs (tC (.str z)) σ (.str z) := fun G Q q => q _ G (fun _ _ h => h) (.str z)
theorem gs_int (z : Int) : Gs (tC (.int z)) σ (.int z) := fun G Q q => q _ G (fun _ _ h => h) (.int z)
theorem gs_bl (z : Bool) : Gs (tC (.bl z)) σ (.bool z) := fun G Q q => q _ G (fun _ _ h => h) (.bl z)
theorem gs_non : Gs (tC .non) σ .none := fun G Q q => q _ G (fun _ _ h => h) .non
theorem gs_neg (n : Int) : Gs (tUn (rU fun i => .int (-i)) (tC (.int n))) σ (.int (-n)) := fun G Q q => ⟨n, rfl, q _ G (fun _ _ h => h) (.int _)⟩
theorem gs_var {i : Nat} {n : Int} (h : σ[i]? = some (some (.int n))) : Gs (tVar i) σ (.int n) := fun G Q q => ⟨_, h, q _ G (fun _ _ h => h) (.int _)⟩
theorem gs_add {tf : TE} {a b : Int} (h : Gs te σ (.int a)) (k : Gs tf σ (.int b)) : Gs (tOp (rI0 fun i j => .int (i + j)) te tf) σ (.int (a + b)) := fun G Q q => h G _ fun v J s dv => k J _ fun u J2 s2 du => by
  cases dv; cases du
  exact ⟨a, b, rfl, rfl, q _ J2 (s.trans s2) (.int _)⟩
theorem gs_sub {tf : TE} {a b : Int} (h : Gs te σ (.int a)) (k : Gs tf σ (.int b)) : Gs (tOp (rI0 fun i j => .int (i - j)) te tf) σ (.int (a - b)) := fun G Q q => h G _ fun v J s dv => k J _ fun u J2 s2 du => by
  cases dv; cases du
  exact ⟨a, b, rfl, rfl, q _ J2 (s.trans s2) (.int _)⟩
theorem gs_nil : GsA tNil σ [] := fun G Q q => q [] G (fun _ _ h => h) .nil
theorem gs_cons (h : Gs te σ d) (k : GsA ta σ ds) : GsA (tCons te ta) σ (d :: ds) := fun G Q q => h G _ fun v J s dv => k J _ fun vs J2 s2 da => q (v :: vs) J2 (s.trans s2) (.cons (dv.same s2) da)
theorem gs_tup (h : GsA ta σ ds) (hl : ds.length ≤ 1000 := by exact Nat.le_of_ble_eq_true rfl) : Gs (tTup ta) σ (.tuple ds) := fun G Q q => h G _ fun vs J s da => ⟨Nat.le_trans (by rw [da.len]; exact hl) (by decide), fun b nb => q _ _ (s.new nb) (.tup upd_same (da.same (same_new nb)))⟩
theorem gs_lst (h : GsA ta σ ds) (hl : ds.length ≤ 1000 := by exact Nat.le_of_ble_eq_true rfl) : Gs (tLst ta) σ (.list ds) := fun G Q q => h G _ fun vs J s da => ⟨Nat.le_trans (by rw [da.len]; exact hl) (by decide), fun b nb => q _ _ (s.new nb) (.lst upd_same (da.same (same_new nb)))⟩
theorem gsl (h : GsA ta σ ds) (hl : ds.length ≤ 1000 := by exact Nat.le_of_ble_eq_true rfl) : GsL (tLst ta) σ ds := fun G Q q => h G _ fun vs J s da => ⟨Nat.le_trans (by rw [da.len]; exact hl) (by decide), fun b nb => q b vs _ (s.new nb) (s.free nb) upd_same (da.same (same_new nb))⟩
theorem one_go {H : Hp} {p : Addr} {k : Nat} {E : XK} {Q : VK} {sss : List (List Str)} (h0 : σ[0]? = some (some (.ref p))) (hw : WellT H p k) (hk : k ≤ 90000) (h1 : 0 < sss.length) (h2 : sss.length ≤ 10) (hl : GsL te σ (sss.map ssD))
    (q : ∀ v J ss, ss ∈ sss → Ext p H J → WellT J p (k + 1) → Dv J v (ssD ss) → Q v J) : tCall spOne [] E (tCons (tVar 0) (tCons te tNil)) σ H Q := by
  refine ⟨_, h0, hl H _ fun L xs J s nL hL hA => ?_⟩
  have ll := hA.len
  rw [List.length_map] at ll
  refine ⟨p, L, xs, k, rfl, hw.same s, by omega, hL, by omega, by omega, hw.ne nL, fun i x H' hi e2 w2 => ?_⟩
  obtain ⟨d, hd, hx⟩ := hA.get hi
  rw [List.getElem?_map] at hd
  cases hs : sss[i]? with
  | none => rw [hs] at hd; cases hd
  | some ss =>
    rw [hs] at hd
    cases hd
    exact q x H' ss (List.mem_of_getElem? hs) ((same_ext s).trans e2) w2 (hx.tu (TU.w (hw.same s) e2) (tO_ss ss))
end
theorem gs3a {σ : L2.St} : GsA (tCons (tTup tNil) (tCons (tTup (tCons (tC (.str "a")) tNil)) (tCons (tTup (tCons (tC (.str "a")) (tCons (tC (.str "b")) tNil))) tNil))) σ (([[], ["a"], ["a", "b"]] : List (List Str)).map ssD) :=
  gs_cons (gs_tup gs_nil) (gs_cons (gs_tup (gs_cons (gs_str _) gs_nil)) (gs_cons (gs_tup (gs_cons (gs_str _) (gs_cons (gs_str _) gs_nil))) gs_nil))
abbrev sEs : Stmt := st__law_entries
abbrev nEs : List Str := ["_law_well_here", "_law_found", "_law_number", "_law_k"]
abbrev pEs : List Str := ["_law_well_here"]
theorem scEs : FnScope nEs pEs (defScope sEs) := ⟨rfl, rfl, rfl, by decide +kernel, rfl, by decide +kernel, by decide +kernel⟩
def spEs : Sp := fun vs H Q _ => ∃ (p : Addr) (k : Nat), vs = [.ref p] ∧ WellT H p k ∧ k ≤ 80000 ∧ ∀ L xs rows H', Ext p H H' → WellT H' p (k + 20) → H L = none → H' L = some (.lst xs) → RwA H' xs rows → RwG rows → rows.length ≤ 6 → Q (.ref L) H'
theorem rwG_snoc {rows : List En} {e : En} (g : RwG rows) (he : EnG e) (hu : ∀ x ∈ rows, x.n < e.n) : RwG (rows ++ [e]) := by
  refine ⟨fun x hx => ?_, ?_⟩
  · rcases List.mem_append.mp hx with hx | hx
    · exact g.ok x hx
    · rw [List.mem_singleton.mp hx]; exact he
  · rw [List.map_append]
    refine List.pairwise_append.mpr ⟨g.up, by simp, fun a ha b hb => ?_⟩
    obtain ⟨x, hx, rfl⟩ := List.mem_map.mp ha
    simp at hb
    subst hb
    exact hu x hx
section
variable {P : Program} {w : World} {K : PySem.W.Frag} {mg : Str → Option Value} {base : Heap}
theorem ok_es {f : Addr} {fd : FuncData} (T : Bj mg) (D_draw : Def P w K mg base CX0 1 "_law_draw" pDraw spDraw) (D_one : Def P w K mg base CX0 2 "_law_one" nOne spOne) (F : Fun K "_law_entries" "_law_entries" sEs f fd) : FnOk P w K mg base CX0 3 f fd pEs spEs := by
  have nd := scEs.nd
  refine F.ok scEs (fun vs H Q E h => ?_) (fun cdv A outer s H vs Q E hr h => ?_)
  · obtain ⟨p, k, rfl, _⟩ := h
    rfl
  · obtain ⟨p, k, rfl, hw, hk, q⟩ := h
    refine ⟨_, (pss_cons (ps_par (i := 1) (j := 2) (by rfl) nd rfl rfl (by decide) rfl rfl (pa_cons (pe_lst pa_nil) (pa_cons pe_int pa_nil)) (by rfl))
 (pss_cons (ps_for PassesOwn.never rfl (pi_range1 rfl T.range (pa_cons (pe_def D_draw (hr.mono (by decide)) rfl pass0 (pa_cons (pv 0) (pa_cons pe_int pa_nil))) pa_nil)) (pg_name (i := 3) nd rfl (Or.inl rfl))
  (pss_cons (ps_set (i := 2) nd rfl (Or.inl rfl) (pe_op op_add (pe_op op_add (pv 2) pe_int) (pe_def D_draw (hr.mono (by decide)) rfl pass0 (pa_cons (pv 0) (pa_cons pe_int pa_nil)))))
 (pss_one (ps_expr (pe_bm PySem.F.plainAttrs_list PySem.F.slot_list_append PySem.F.type_list_append mt_append (pv 1) (pa_cons (pe_tup (pa_cons (pv 2) (pa_cons (pe_def D_one (hr.mono (by decide)) rfl pass0 (pa_cons (pv 0) (pa_cons (pe_lst (pa_cons (pe_tup pa_nil) (pa_cons (pe_tup (pa_cons pe_str pa_nil)) (pa_cons (pe_tup (pa_cons pe_str (pa_cons pe_str pa_nil))) pa_nil)))) pa_nil))) (pa_cons (pe_def D_draw (hr.mono (by decide)) rfl pass0 (pa_cons (pv 0) (pa_cons pe_int pa_nil))) pa_nil)))) pa_nil))))))
 (pss_one (ps_ret (pv 1))))), ?_⟩
    refine ⟨Nat.zero_le _, fun L nL => ⟨_, _, rfl, ?_⟩⟩
    have s1 := same_new nL (o := .lst ([] : List V))
    have nLp := hw.ne nL
    have hL : (upd H L (.lst ([] : List V))) L = some (.lst []) := upd_same
    have hw1 := hw.same s1
    generalize upd H L (.lst ([] : List V)) = H1 at s1 hL hw1
    refine ⟨_, rfl, p, 7, k, rfl, hw1, by omega, by decide, by decide, fun m H2 m0 m1 e2 w2 => ?_⟩
    refine ⟨m, rfl, by omega, by omega, for_range (lo := 0) (n := m.toNat) (fun i σ G => ∃ (z : Int) (v3 : Option V) (xs : List V) (rows : List En), σ = [some (.ref p), some (.ref L), some (.int z), v3] ∧ Ext p H G ∧ WellT G p (k + 1 + 3 * i) ∧ G L = some (.lst xs) ∧ RwA G xs rows ∧ RwG rows ∧ rows.length = i ∧ 0 ≤ z ∧ ∀ x ∈ rows, x.n ≤ z) ?_ ?_ ?_⟩
    · exact ⟨0, none, [], [], rfl, (same_ext s1).trans e2, w2, e2 _ _ nLp hL, .nil, ⟨(fun e h => by cases h), .nil⟩, rfl, by decide, (fun x h => by cases h)⟩
    · rintro i σ G hi ⟨z, v3, xs, rows, rfl, eG, wG, hG, hR, gR, lR, z0, hz⟩
      refine ⟨_, rfl, _, _, rfl, rfl, _, rfl, p, 3, _, rfl, wG, by omega, by decide, by decide, fun d1 G1 d10 d11 e1 w1 => ?_⟩
      refine ⟨_, _, rfl, rfl, ?_⟩
      refine ⟨_, rfl, .inl ⟨rfl, _, sq (e1 _ _ nLp hG)⟩, _, rfl, ?_⟩
      refine one_go (sss := [[], ["a"], ["a", "b"]]) rfl w1 (by omega) (by decide) (by decide) (gsl gs3a) fun y G2 ss hss e2 w2 hy => ?_
      refine ⟨_, rfl, p, 9, _, rfl, w2, by omega, by decide, by decide, fun d2 G3 d20 d21 e3 w3 => ⟨by show 3 ≤ sizeLine; decide, fun ta nta => ?_⟩⟩
      have e13 := (e1.trans e2).trans e3
      have hL3 := e13 _ _ nLp hG
      have nta' : ta ≠ L := fun z => by rw [z, hL3] at nta; cases nta
      refine ⟨L, xs, .ref ta, rfl, rfl, by rw [upd_ne nta'.symm]; exact hL3, lt2 _ (by have := hR.len; omega), ?_⟩
      have hty := hy.tu (TU.w w2 e3) (tO_ss ss)
      have t13 := TU.w wG e13
      have s4 := same_new nta (o := .tup [.int (z + 1 + d1), y, .int d2])
      have hL4 := s4 _ _ hL3
      have t5 : TU (upd G3 ta (.tup [.int (z + 1 + d1), y, .int d2])) (upd (upd G3 ta (.tup [.int (z + 1 + d1), y, .int d2])) L (.lst (xs ++ [.ref ta]))) := TU.mut hL4 fun _ z => by cases z
      have t35 := (t13.trans (TU.same s4)).trans t5
      have eg : EnG ⟨z + 1 + d1, ssD ss, d2⟩ := ⟨by show (1 : Int) ≤ z + 1 + d1; omega, d20, ss, (by decide +kernel : ∀ x ∈ ([[], ["a"], ["a", "b"]] : List (List Str)), x ∈ SG) ss hss, rfl⟩
      refine ⟨z + 1 + d1, _, _, rows ++ [⟨z + 1 + d1, ssD ss, d2⟩], rfl, ?_, ?_, upd_same, (hR.tu t35 gR.ok).app (.cons ?_ .nil), rwG_snoc gR eg fun x hx => ?_, by rw [List.length_append, lR]; rfl, by omega, fun x hx => ?_⟩
      · exact (((eG.trans e13).new nta).mut nL)
      · refine WellT.mono (WellT.keep (w3.same s4) fun o ho => ?_) (k := k + 1 + 3 * i + 1 + 1 + 1) (by omega)
        rw [upd_ne nLp.symm]; exact ho
      · refine dvEn (e := ⟨z + 1 + d1, ssD ss, d2⟩) ?_ ((hty.same s4).tu t5 (tO_ss ss))
        rw [upd_ne nta']; exact upd_same
      · have := hz x hx
        show x.n < z + 1 + d1
        omega
      · rcases List.mem_append.mp hx with hx | hx
        · have := hz x hx
          omega
        · rw [List.mem_singleton.mp hx]; exact Int.le_refl _
    · rintro σ G ⟨z, v3, xs, rows, rfl, eG, wG, hG, hR, gR, lR, z0, hz⟩
      exact ⟨_, rfl, q L xs rows G eG (wG.mono (by omega)) nL hG hR gR (by omega)⟩
end
end K1


set_option Elab.async false
set_option linter.all false
set_option maxRecDepth 100000
set_option maxHeartbeats 8000000
/-! k23: _law_notice. -/
namespace K1
open PySem PySem.Spec PyProof.Rows L2 RZ StX
structure LayD (k : Nat) (d : PyData) : Prop where
  lay : PyData.canLay0 d = true
  dep : PyData.depth d ≤ k
  nd : noDic d = true
structure LayA (k : Nat) (ds : List PyData) : Prop where
  lay : PyData.canLayAll0 ds = true
  dep : PyData.depthAll ds ≤ k
  nd : noDicA ds = true
theorem LayA.nil {k : Nat} : LayA k [] := ⟨rfl, Nat.zero_le _, rfl⟩
theorem LayA.cons {k : Nat} {d : PyData} {ds : List PyData} (h : LayD k d) (r : LayA k ds) : LayA k (d :: ds) :=
  ⟨by show (PyData.canLay0 d && PyData.canLayAll0 ds) = true; rw [h.lay, r.lay]; rfl, Nat.max_le.mpr ⟨h.dep, r.dep⟩, by show (noDic d && noDicA ds) = true; rw [h.nd, r.nd]; rfl⟩
theorem LayA.map {α : Type} {k : Nat} {f : α → PyData} : ∀ {xs : List α}, (∀ x ∈ xs, LayD k (f x)) → LayA k (xs.map f)
  | [], _ => .nil
  | x :: r, h => .cons (h x List.mem_cons_self) (LayA.map fun y hy => h y (List.mem_cons_of_mem _ hy))
theorem LayD.int {k : Nat} (i : Int) : LayD k (.int i) := ⟨rfl, Nat.zero_le _, rfl⟩
theorem LayD.non {k : Nat} : LayD k .none := ⟨rfl, Nat.zero_le _, rfl⟩
theorem LayD.bl {k : Nat} (b : Bool) : LayD k (.bool b) := ⟨rfl, Nat.zero_le _, rfl⟩
theorem LayD.str {k : Nat} {s : Str} (h : PyData.strOk s = true) : LayD k (.str s) := ⟨h, Nat.zero_le _, rfl⟩
theorem LayD.tup {k : Nat} {ds : List PyData} (h : LayA k ds) : LayD (k + 1) (.tuple ds) := ⟨h.lay, Nat.succ_le_succ h.dep, h.nd⟩
theorem LayD.lst {k : Nat} {ds : List PyData} (h : LayA k ds) : LayD (k + 1) (.list ds) := ⟨h.lay, Nat.succ_le_succ h.dep, h.nd⟩
theorem LayD.mono {k m : Nat} {d : PyData} (h : LayD k d) (e : k ≤ m) : LayD m d := ⟨h.lay, Nat.le_trans h.dep e, h.nd⟩
theorem LayD.sh {k : Nat} {d : PyData} (h : LayD k d) (e : k ≤ 64 := by decide) : SeqAt.shaped d = true := by
  unfold SeqAt.shaped
  rw [h.lay, decide_eq_true (Nat.le_trans h.dep e)]; rfl
theorem lay_ss {ss : List Str} (h : ∀ s ∈ ss, okS s = true) : LayD 1 (.tuple (ss.map PyData.str)) := .tup (LayA.map (k := 0) fun s hs => .str (strOk_of (h s hs)))
theorem eqv_same' {k : Nat} {d : PyData} (h : LayD k d) (e : k ≤ 64 := by decide) : PyData.eqv d d = true := SeqAt.eqv_refl _ (SeqAt.canLay_of_shaped (h.sh e))
theorem ne_same {K : PySem.W.Frag} {H : Hp} {x y : V} {d : PyData} {k : Nat} {Q : VK} (l : LayD k d) (h1 : Dv H x d) (h2 : Dv H y d) (q : Q (.bl false) H) (e : k ≤ 64 := by decide) : rNeD K x y H Q :=
  ⟨d, d, h1.dp l.nd, h2.dp l.nd, l.sh e, l.sh e, by rw [eqv_same' l e]; exact q⟩
theorem eq_same {K : PySem.W.Frag} {H : Hp} {x y : V} {d : PyData} {k : Nat} {Q : VK} (l : LayD k d) (h1 : Dv H x d) (h2 : Dv H y d) (q : Q (.bl true) H) (e : k ≤ 64 := by decide) : rEqD K x y H Q :=
  ⟨d, d, h1.dp l.nd, h2.dp l.nd, l.sh e, l.sh e, by rw [eqv_same' l e]; exact q⟩
theorem lay_en {e : En} (h : EnG e) : LayD 2 (enD e) := by
  obtain ⟨_, _, ss, hs, he⟩ := h
  have : LayD 1 e.s := by rw [he]; exact lay_ss ((by decide +kernel : ∀ ss ∈ SG, ∀ s ∈ ss, okS s = true) ss hs)
  exact .tup (.cons (.int _) (.cons this (.cons (.int _) .nil)))
theorem lay_rows {rows : List En} (h : RwG rows) : LayD 3 (.list (rows.map enD)) := .lst (LayA.map fun e he => lay_en (h.ok e he))
theorem eqv_nil {rows : List En} : PyData.eqv (.list (rows.map enD)) (.list []) = rows.isEmpty := by
  cases rows with
  | nil => simp [PyData.eqv, PyData.eqvAll]
  | cons e r => simp [PyData.eqv, PyData.eqvAll]
theorem eq_nil {K : PySem.W.Frag} {H : Hp} {L M : Addr} {xs : List V} {rows : List En} {Q : VK} (hL : H L = some (.lst xs)) (hR : RwA H xs rows) (g : RwG rows) (hM : H M = some (.lst [])) (q : Q (.bl rows.isEmpty) H) : rEqD K (.ref L) (.ref M) H Q :=
  ⟨.list (rows.map enD), .list [], (Dv.lst hL (of_rwA hR)).dp (lay_rows g).nd, (Dv.lst hM .nil).dp rfl, (lay_rows g).sh, (LayD.lst (k := 0) .nil).sh, by rw [eqv_nil]; exact q⟩
theorem nen_nil {K : PySem.W.Frag} {H : Hp} {L M : Addr} {xs : List V} {rows : List En} {Q : VK} (hL : H L = some (.lst xs)) (hR : RwA H xs rows) (g : RwG rows) (hM : H M = some (.lst [])) (q : Q (.bl !rows.isEmpty) H) : rNeD K (.ref L) (.ref M) H Q :=
  ⟨.list (rows.map enD), .list [], (Dv.lst hL (of_rwA hR)).dp (lay_rows g).nd, (Dv.lst hM .nil).dp rfl, (lay_rows g).sh, (LayD.lst (k := 0) .nil).sh, by rw [eqv_nil]; exact q⟩
def NtG : Nt → Prop
  | .come e => EnG e
  | .letter n s m => 1 ≤ n ∧ 0 ≤ m ∧ ∃ ss ∈ SG, s = ssD ss
  | .gone n => 1 ≤ n
  | .done m n => 0 ≤ m ∧ 1 ≤ n
theorem NtG.ok : ∀ {t : Nt}, NtG t → NtOk t
  | .come e, h => let ⟨h1, h2, ss, h3, h4⟩ := h; ⟨h1, by rw [h4]; exact sg_ok ss h3, h2⟩
  | .letter n s m, ⟨h1, h2, ss, h3, h4⟩ => ⟨h1, by rw [h4]; exact sg_ok ss h3, h2⟩
  | .gone n, h => h
  | .done m n, h => h
theorem NtG.tO : ∀ {t : Nt}, NtG t → K1.tO (ntD t) = true
  | .come e, h => by
    obtain ⟨h1, h2, ss, h3, h4⟩ := h
    show (true && (true && (K1.tO e.s && (true && true)))) = true
    rw [h4, tO_ss]; rfl
  | .letter n s m, ⟨h1, h2, ss, h3, h4⟩ => by
    show (true && (true && (K1.tO s && (true && true)))) = true
    rw [h4, tO_ss]; rfl
  | .gone n, h => rfl
  | .done m n, h => rfl
theorem pw_get {rows : List En} (g : RwG rows) {i j : Nat} {a b : En} (ha : rows[i]? = some a) (hb : rows[j]? = some b) (h : i < j) : a.n < b.n := by
  have g1 := List.pairwise_iff_getElem.mp g.up
  obtain ⟨hi, rfl⟩ := List.getElem?_eq_some_iff.mp ha
  obtain ⟨hj, rfl⟩ := List.getElem?_eq_some_iff.mp hb
  have := g1 i j (by rw [List.length_map]; exact hi) (by rw [List.length_map]; exact hj) h
  simpa using this
theorem last_top {rows : List En} (g : RwG rows) {e : En} (h : rows.getLast? = some e) : ∀ x ∈ rows, x.n ≤ e.n := fun x hx => by
  obtain ⟨i, hi⟩ := List.mem_iff_getElem?.mp hx
  rw [List.getLast?_eq_getElem?] at h
  have hlt := (List.getElem?_eq_some_iff.mp hi).1
  rcases Nat.lt_or_ge i (rows.length - 1) with c | c
  · exact Int.le_of_lt (pw_get g hi h c)
  · have : i = rows.length - 1 := by omega
    subst this
    rw [hi] at h
    rw [Option.some.inj h]; exact Int.le_refl _
theorem top_all {rows : List En} (g : RwG rows) {n : Int} (h : topB rows n = true) : ∀ x ∈ rows, x.n < n := fun x hx => by
  cases hl : rows.getLast? with
  | none => rw [List.getLast?_eq_none_iff.mp hl] at hx; cases hx
  | some e =>
    rw [topB_snoc hl] at h
    have := last_top g hl x hx
    have := of_decide_eq_true h
    omega
theorem top_of {rows : List En} {n : Int} (h : ∀ x ∈ rows, x.n < n) : topB rows n = true := by
  cases hl : rows.getLast? with
  | none => rw [List.getLast?_eq_none_iff.mp hl]; rfl
  | some e =>
    rw [topB_snoc hl]
    exact decide_eq_true (h e (List.mem_of_getLast? hl))
theorem rwG_beh {rows : List En} (g : RwG rows) {fl : Int} : ∀ {t : Nt}, NtG t → fitN rows fl t = true → RwG (behN rows t)
  | .come e, h, f => rwG_snoc g h (top_all g f)
  | .done m n, h, f => g
  | .gone n, h, f => by
    refine ⟨fun x hx => g.ok x ?_, ?_⟩
    · rcases List.mem_append.mp hx with hx | hx
      · exact List.mem_of_mem_take hx
      · exact List.mem_of_mem_drop hx
    · have hn : n.toNat = (n - 1).toNat + 1 := by have : 1 ≤ n := h; omega
      have hs : List.Sublist (behN rows (.gone n)) rows := by
        show List.Sublist (rows.take (n - 1).toNat ++ rows.drop n.toNat) rows
        have := List.take_append_drop (n - 1).toNat rows
        conv => rhs; rw [← this]
        refine List.Sublist.append (List.Sublist.refl _) ?_
        rw [hn, ← List.drop_drop]
        exact List.drop_sublist _ _
      exact List.Pairwise.sublist (hs.map _) g.up
  | .letter n s m, h, f => by
    cases he : rows[(n - 1).toNat]? with
    | none => rw [show fitN rows fl (.letter n s m) = false from letB_none he] at f; cases f
    | some e =>
      obtain ⟨h1, h2, ss, h3, h4⟩ := h
      have hn : n.toNat = (n - 1).toNat + 1 := by omega
      have hl := (List.getElem?_eq_some_iff.mp he).1
      have e2 : behN rows (.letter n s m) = rows.take (n - 1).toNat ++ [⟨e.n, s, m⟩] ++ rows.drop n.toNat := by rw [← noAt_some he]; rfl
      have ed : rows = rows.take (n - 1).toNat ++ [e] ++ rows.drop n.toNat := by
        have e3 : rows.drop (n - 1).toNat = e :: rows.drop n.toNat := by
          rw [hn, List.drop_eq_getElem_cons hl]
          congr 1
          rw [List.getElem?_eq_getElem hl] at he
          exact Option.some.inj he
        rw [List.append_assoc, List.singleton_append, ← e3, List.take_append_drop]
      rw [e2]
      refine ⟨fun x hx => ?_, ?_⟩
      · rcases List.mem_append.mp hx with hx | hx
        · rcases List.mem_append.mp hx with hx | hx
          · exact g.ok x (List.mem_of_mem_take hx)
          · rw [List.mem_singleton.mp hx]
            exact ⟨(g.ok e (List.mem_of_getElem? he)).1, h2, ss, h3, h4⟩
        · exact g.ok x (List.mem_of_mem_drop hx)
      · have gu := g.up
        rw [ed] at gu
        simpa using gu
end K1


set_option Elab.async false
set_option linter.all false
set_option maxRecDepth 100000
set_option maxHeartbeats 8000000
/-! k23: _law_notice. -/
namespace K1
open PySem PySem.Spec PyProof.Rows L2 RZ StX
abbrev sNt : Stmt := st__law_notice
abbrev nNt : List Str := ["_law_well_here", "_law_entries_here", "_law_low", "_law_way", "_law_top", "_law_mark", "_law_place", "_law_entry"]
abbrev pNt : List Str := ["_law_well_here", "_law_entries_here", "_law_low"]
theorem scNt : FnScope nNt pNt (defScope sNt) := ⟨rfl, rfl, rfl, by decide +kernel, rfl, by decide +kernel, by decide +kernel⟩
def spNt : Sp := fun vs H Q _ => ∃ (p L : Addr) (xs : List V) (rows : List En) (low : Int) (k : Nat), vs = [.ref p, .ref L, .int low] ∧ WellT H p k ∧ k ≤ 80000 ∧ H L = some (.lst xs) ∧ L ≠ p ∧ RwA H xs rows ∧ RwG rows ∧ rows.length ≤ 100 ∧ 0 ≤ low ∧
  ∀ x t H', Ext p H H' → WellT H' p (k + 4) → Dv H' x (ntD t) → NtG t → fitN rows low t = true → Q x H'
theorem gs2x {σ : L2.St} : GsA (tCons (tTup tNil) (tCons (tTup (tCons (tC (.str "x")) (tCons (tC (.str "y")) tNil))) tNil)) σ (([[], ["x", "y"]] : List (List Str)).map ssD) :=
  gs_cons (gs_tup gs_nil) (gs_cons (gs_tup (gs_cons (gs_str _) (gs_cons (gs_str _) gs_nil))) gs_nil)
theorem gs2q {σ : L2.St} : GsA (tCons (tTup tNil) (tCons (tTup (tCons (tC (.str "q")) tNil)) tNil)) σ (([[], ["q"]] : List (List Str)).map ssD) :=
  gs_cons (gs_tup gs_nil) (gs_cons (gs_tup (gs_cons (gs_str _) gs_nil)) gs_nil)
theorem fm_map {α β : Type} (f : α → β) (ls : List α) : ls.filterMap (fun l => some (f l)) = ls.map f := by rw [← List.filterMap_eq_map]; rfl
section
variable {P : Program} {w : World} {K : PySem.W.Frag} {mg : Str → Option Value} {base : Heap}
set_option maxHeartbeats 16000000 in
theorem ok_nt {f : Addr} {fd : FuncData} (T : Bj mg) (D_draw : Def P w K mg base CX0 1 "_law_draw" pDraw spDraw) (D_one : Def P w K mg base CX0 2 "_law_one" nOne spOne) (F : Fun K "_law_notice" "_law_notice" sNt f fd) : FnOk P w K mg base CX0 3 f fd pNt spNt := by
  have nd := scNt.nd
  refine F.ok scNt (fun vs H Q E h => ?_) (fun cdv A outer s H vs Q E hr h => ?_)
  · obtain ⟨p, L, xs, rows, low, k, rfl, _⟩ := h
    rfl
  · obtain ⟨p, L, xs, rows, low, k, rfl, hw, hk, hL, nLp, hR, gR, lR, low0, q⟩ := h
    refine ⟨_, (pss_cons (ps_set (i := 3) nd rfl (Or.inl rfl) (pe_def D_draw (hr.mono (by decide)) rfl pass0 (pa_cons (pv 0) (pa_cons pe_int pa_nil))))
 (pss_cons (ps_set (i := 4) nd rfl (Or.inl rfl) (pe_callB (cr_maxK (K := K) rfl rfl) (by rfl) T.max PyProof.Rows.boot_max (pa_cons (pe_op op_cat (pe_lc (own := [("_law_entry", 7)]) (g := gName 7) (tt := tYes) rfl nd (pi_listK (K := K) rfl (pv 1)) (blkOk_by (own := [("_law_entry", 7)]) (N := nNt) (sc := defScope sNt) (by decide +kernel)) (fun _ _ _ _ _ => pg_name (i := 7) nd rfl (Or.inl rfl)) (fun _ _ _ _ _ => pts_nil) (fun _ _ _ _ _ => (pe_ix (ix_tupK (K := K) rfl) (pv 7) pe_int (fun _ _ => rfl)))) (pe_lst (pa_cons pe_int pa_nil))) pa_nil)))
 (pss_cons (ps_if (PW.pt (pw_or (pt_cmpR op_eq (pv 3) pe_int (nomark _)) (pw_or1 (pt_cmpR (op_eqDK (K := K) rfl hr.units) (pv 1) (pe_lst pa_nil) (nomark _)))))
  (pss_one (ps_ret (pe_tup (pa_cons pe_str (pa_cons (pe_op op_add (pe_op op_add (pv 4) pe_int) (pe_def D_draw (hr.mono (by decide)) rfl pass0 (pa_cons (pv 0) (pa_cons pe_int pa_nil)))) (pa_cons (pe_def D_one (hr.mono (by decide)) rfl pass0 (pa_cons (pv 0) (pa_cons (pe_lst (pa_cons (pe_tup pa_nil) (pa_cons (pe_tup (pa_cons pe_str (pa_cons pe_str pa_nil))) pa_nil))) pa_nil))) (pa_cons (pe_def D_draw (hr.mono (by decide)) rfl pass0 (pa_cons (pv 0) (pa_cons pe_int pa_nil))) pa_nil)))))))
  pss_nil)
 (pss_cons (ps_if (pt_cmpR op_eq (pv 3) pe_int (nomark _))
  (pss_cons (ps_set (i := 5) nd rfl (Or.inl rfl) (pe_op op_add (pe_callB (cr_maxK (K := K) rfl rfl) (by rfl) T.max PyProof.Rows.boot_max (pa_cons (pe_op op_cat (pe_lc (own := [("_law_entry", 7)]) (g := gName 7) (tt := tYes) rfl nd (pi_listK (K := K) rfl (pv 1)) (blkOk_by (own := [("_law_entry", 7)]) (N := nNt) (sc := defScope sNt) (by decide +kernel)) (fun _ _ _ _ _ => pg_name (i := 7) nd rfl (Or.inl rfl)) (fun _ _ _ _ _ => pts_nil) (fun _ _ _ _ _ => (pe_ix (ix_tupK (K := K) rfl) (pv 7) pe_int (fun _ _ => rfl)))) (pe_lst (pa_cons (pv 2) pa_nil))) pa_nil)) (pe_def D_draw (hr.mono (by decide)) rfl pass0 (pa_cons (pv 0) (pa_cons pe_int pa_nil)))))
 (pss_one (ps_ret (pe_tup (pa_cons pe_str (pa_cons (pv 5) (pa_cons (pe_op op_add (pe_op op_add (pv 4) pe_int) (pe_def D_draw (hr.mono (by decide)) rfl pass0 (pa_cons (pv 0) (pa_cons pe_int pa_nil)))) pa_nil)))))))
  pss_nil)
 (pss_cons (ps_set (i := 6) nd rfl (Or.inl rfl) (pe_op op_add pe_int (pe_def D_draw (hr.mono (by decide)) rfl pass0 (pa_cons (pv 0) (pa_cons (pe_callB (call_lenK (K := K) rfl) (by rfl) T.len PySem.boot_len (pa_cons (pv 1) pa_nil)) pa_nil)))))
 (pss_cons (ps_if (pt_cmpR op_eq (pv 3) pe_int (nomark _))
  (pss_one (ps_ret (pe_tup (pa_cons pe_str (pa_cons (pv 6) pa_nil)))))
  pss_nil)
 (pss_one (ps_ret (pe_tup (pa_cons pe_str (pa_cons (pv 6) (pa_cons (pe_def D_one (hr.mono (by decide)) rfl pass0 (pa_cons (pv 0) (pa_cons (pe_lst (pa_cons (pe_tup pa_nil) (pa_cons (pe_tup (pa_cons pe_str pa_nil)) pa_nil))) pa_nil))) (pa_cons (pe_op op_add (pe_op op_add (pe_ix (ix_tupK (K := K) rfl) (pe_ix (ix_listK (K := K) rfl) (pv 1) (pe_op op_sub (pv 6) pe_int) (fun _ _ => rfl)) pe_int (fun _ _ => rfl)) pe_int) (pe_def D_draw (hr.mono (by decide)) rfl pass0 (pa_cons (pv 0) (pa_cons pe_int pa_nil)))) pa_nil))))))))))))), ?_⟩
    refine ⟨_, rfl, p, 4, k, rfl, hw, by omega, by decide, by decide, fun wy H1 w0 w4 e1 w1 => ?_⟩
    have hL1 := e1 _ _ nLp hL
    have hR1 := RwA.tu (TU.w hw e1) hR gR.ok
    refine ⟨_, rfl, L, rfl, ⟨_, sq hL1⟩, fun D nD => ?_⟩
    refine lc_sel walk_list (R := fun x e => Dv H1 x (enD e)) (ls := rows) (out := fun y (n : Int) => y = V.int n) hR1 nD (fun G s => sq (s _ _ hL1)) (by have := hR.len; omega) (fun e => some e.n) ?_ ?_
    · rintro z e G T' S hx hm s3 hT hS'
      obtain ⟨ta, ye, rfl, hta, _⟩ := enDv hx
      exact ⟨rfl, tyes ⟨_, rfl, ta, _, 0, .int e.n, rfl, rfl, st (s3 _ _ hta), atI_nat (j := 0) rfl, hT _ e.n G (fun _ _ h => h) rfl rfl⟩⟩
    intro G acc s3 hacc h4
    rw [h4.vals, fm_map] at hacc
    refine ⟨lt1 _ (by show 1 ≤ 100000; decide), fun L1 nL1 => ?_⟩
    have s4 := same_new nL1 (o := .lst [V.int 0])
    refine cat_go (s4 _ _ hacc) upd_same (by rw [List.length_map, List.length_map]; show rows.length + 1 ≤ 100000; omega) fun c H2 s5 _ hc => ?_
    refine ⟨c, rows.map (·.n) ++ [0], rfl, by rw [List.map_append]; exact sq hc, by simp, fun top ht1 ht2 => ?_⟩
    have s12 := (s3.trans s4).trans s5
    have e02 := e1.trans (same_ext s12)
    have w2 := w1.same s12
    have hL2 := s12 _ _ hL1
    have hR2 := hR1.same s12
    have top0 : 0 ≤ top := ht2 0 (by simp)
    have topx : ∀ x ∈ rows, x.n ≤ top := fun x hx => ht2 _ (List.mem_append_left _ (List.mem_map.mpr ⟨x, hx, rfl⟩))
    clear hacc h4 hc hR1 hL1 s3 s4 s5 s12 e1
    have come : ∀ {G : Hp}, Ext p H G → WellT G p (k + 1) → tRet (tTup (tCons (tC (.str "come")) (tCons (tOp (rI0 fun i j => .int (i + j)) (tOp (rI0 fun i j => .int (i + j)) (tVar 4) (tC (.int 1))) (tCall spDraw [] E0 (tCons (tVar 0) (tCons (tC (.int 9)) tNil)))) (tCons (tCall spOne [] E0 (tCons (tVar 0) (tCons (tLst (tCons (tTup tNil) (tCons (tTup (tCons (tC (.str "x")) (tCons (tC (.str "y")) tNil))) tNil))) tNil))) (tCons (tCall spDraw [] E0 (tCons (tVar 0) (tCons (tC (.int 20)) tNil))) tNil))))) ⟨fun _ H => Q .non H, Q, fun _ _ => False, fun _ _ => False⟩ [some (.ref p), some (.ref L), some (.int low), some (.int wy), some (.int top), none, none, none] G := by
      intro G eG wG
      refine ⟨_, rfl, _, _, rfl, rfl, _, rfl, p, 9, _, rfl, wG, by omega, by decide, by decide, fun d1 G1 d10 d11 e1 w1 => ?_⟩
      refine ⟨_, _, rfl, rfl, ?_⟩
      refine one_go (sss := [[], ["x", "y"]]) rfl w1 (by omega) (by decide) (by decide) (gsl gs2x) fun y G2 ss hss e2 w2 hy => ?_
      refine ⟨_, rfl, p, 20, _, rfl, w2, by omega, by decide, by decide, fun d2 G3 d20 d21 e3 w3 => ⟨by show 4 ≤ sizeLine; decide, fun ta nta => ?_⟩⟩
      have s4 := same_new nta (o := .tup [.str "come", .int (top + 1 + d1), y, .int d2])
      have eg : EnG ⟨top + 1 + d1, ssD ss, d2⟩ := ⟨by show (1 : Int) ≤ top + 1 + d1; omega, d20, ss, (by decide +kernel : ∀ x ∈ ([[], ["x", "y"]] : List (List Str)), x ∈ SG) ss hss, rfl⟩
      refine q _ (.come ⟨top + 1 + d1, ssD ss, d2⟩) _ (((eG.trans e1).trans e2).trans e3 |>.trans (same_ext s4)) ((w3.same s4).mono (by omega)) ?_ eg (top_of fun x hx => ?_)
      · exact .tup upd_same (.cons (.str _) (.cons (.int _) (.cons ((hy.tu (TU.w w2 e3) (tO_ss ss)).same s4) (.cons (.int _) .nil))))
      · have := topx x hx
        show x.n < top + 1 + d1
        omega
    refine ⟨_, rfl, rfl, _, rfl, ?_⟩
    by_cases c0 : wy = 0
    · refine itbT (decide_eq_true (by rw [c0])) (itbT rfl (come e02 w2))
    refine itbF (decide_eq_false fun z => c0 (V.int.inj z)) ?_
    refine ⟨_, rfl, Nat.zero_le _, fun M nM => ?_⟩
    have sM := same_new nM (o := .lst ([] : List V))
    have hM : (upd H2 M (.lst ([] : List V))) M = some (.lst []) := upd_same
    have e03 := e02.trans (same_ext sM)
    have w3 := w2.same sM
    have hL3 := sM _ _ hL2
    have hR3 := hR2.same sM
    generalize upd H2 M (.lst ([] : List V)) = H3 at sM hM e03 w3 hL3 hR3
    refine eq_nil hL3 hR3 gR hM ⟨_, rfl, ?_⟩
    cases hre : rows.isEmpty with
    | true => exact itbT rfl (come e03 w3)
    | false =>
    refine itbF rfl ?_
    have rpos : 0 < rows.length := by
      cases rows with
      | nil => cases hre
      | cons _ _ => simp
    refine ⟨_, rfl, rfl, _, rfl, ?_⟩
    by_cases c1 : wy = 1
    · refine itbT (decide_eq_true (by rw [c1])) ?_
      refine ⟨_, rfl, L, rfl, ⟨_, sq hL3⟩, fun D nD => ?_⟩
      refine lc_sel walk_list (R := fun x e => Dv H3 x (enD e)) (ls := rows) (out := fun y (n : Int) => y = V.int n) hR3 nD (fun G s => sq (s _ _ hL3)) (by have := hR.len; omega) (fun e => some e.m) ?_ ?_
      · rintro z e G T' S hx hm s3 hT hS'
        obtain ⟨ta, ye, rfl, hta, _⟩ := enDv hx
        exact ⟨rfl, tyes ⟨_, rfl, ta, _, 2, .int e.m, rfl, rfl, st (s3 _ _ hta), atI_nat (j := 2) rfl, hT _ e.m G (fun _ _ h => h) rfl rfl⟩⟩
      intro G acc s3 hacc h4
      rw [h4.vals, fm_map] at hacc
      refine ⟨_, rfl, lt1 _ (by show 1 ≤ 100000; decide), fun L1 nL1 => ?_⟩
      have s4 := same_new nL1 (o := .lst [V.int low])
      refine cat_go (s4 _ _ hacc) upd_same (by rw [List.length_map, List.length_map]; show rows.length + 1 ≤ 100000; omega) fun c H4 s5 _ hc => ?_
      refine ⟨c, rows.map (·.m) ++ [low], rfl, by rw [List.map_append]; exact sq hc, by simp, fun mx hm1 hm2 => ?_⟩
      obtain rfl := max_is hm1 hm2
      have s34 := (s3.trans s4).trans s5
      have w4' := w3.same s34
      refine ⟨_, rfl, p, 3, _, rfl, w4', by omega, by decide, by decide, fun d1 G1 d10 d11 e1 w5 => ?_⟩
      refine ⟨_, _, rfl, rfl, ?_⟩
      refine ⟨_, rfl, ⟨_, rfl, _, _, rfl, rfl, _, rfl, p, 3, _, rfl, w5, by omega, by decide, by decide, fun d2 G2 d20 d21 e2 w6 => ?_⟩⟩
      refine ⟨_, _, rfl, rfl, by show 3 ≤ sizeLine; decide, fun ta nta => ?_⟩
      have s6 := same_new nta (o := .tup [.str "done", .int (maxM rows low + d1), .int (top + 1 + d2)])
      have mx0 : 0 ≤ maxM rows low := Int.le_trans low0 (maxM_le rows low low (by simp))
      refine q _ (.done (maxM rows low + d1) (top + 1 + d2)) _ ((((e03.trans (same_ext s34)).trans e1).trans e2).trans (same_ext s6)) ((w6.same s6).mono (by omega)) ?_ ⟨by omega, by omega⟩ ?_
      · exact .tup upd_same (.cons (.str _) (.cons (.int _) (.cons (.int _) .nil)))
      · show (topB rows (top + 1 + d2) && decide (maxM rows low + d1 ≥ maxM rows low)) = true
        rw [top_of fun x hx => (by have := topx x hx; omega), decide_eq_true (by omega)]; rfl
    refine itbF (decide_eq_false fun z => c1 (V.int.inj z)) ?_
    refine ⟨_, rfl, _, rfl, L, _, rfl, .inl (sq hL3), ?_⟩
    have lx := hR.len
    refine ⟨p, xs.length, _, rfl, w3, by omega, by omega, by omega, fun d1 H4 d10 d11 e1 w4' => ?_⟩
    refine ⟨_, _, rfl, rfl, ?_⟩
    refine ⟨_, rfl, rfl, _, rfl, ?_⟩
    have hL4 := e1 _ _ nLp hL3
    have hR4 := RwA.tu (TU.w w3 e1) hR3 gR.ok
    have e04 := e03.trans e1
    by_cases c2 : wy = 2
    · refine itbT (decide_eq_true (by rw [c2])) ?_
      refine ⟨_, rfl, by show 2 ≤ sizeLine; decide, fun ta nta => ?_⟩
      have s6 := same_new nta (o := .tup [.str "gone", .int (1 + d1)])
      refine q _ (.gone (1 + d1)) _ (e04.trans (same_ext s6)) ((w4'.same s6).mono (by omega)) (.tup upd_same (.cons (.str _) (.cons (.int _) .nil))) (by show (1 : Int) ≤ 1 + d1; omega) (decide_eq_true (by omega))
    · refine itbF (decide_eq_false fun z => c2 (V.int.inj z)) ?_
      have hlt : d1.toNat < rows.length := by omega
      have hge : rows[(1 + d1 - 1).toNat]? = some rows[d1.toNat] := by rw [show (1 + d1 - 1).toNat = d1.toNat by omega]; exact List.getElem?_eq_getElem hlt
      refine ⟨_, rfl, ?_⟩
      refine one_go (sss := [[], ["q"]]) rfl w4' (by omega) (by decide) (by decide) (gsl gs2q) fun y G2 ss hss e2 w5 hy => ?_
      have hR5 := RwA.tu (TU.w w4' e2) hR4 gR.ok
      obtain ⟨z, hz, hez⟩ := a2_get' hR5 hge
      obtain ⟨ae, ye, rfl, hae, _⟩ := enDv hez
      refine ⟨_, rfl, _, rfl, _, _, rfl, rfl, L, _, _, _, rfl, rfl, sq (e2 _ _ nLp hL4), (by rw [show (1 + d1 - 1 : Int) = (((1 + d1 - 1).toNat : Nat) : Int) by omega]; exact atI_nat hz), ae, _, 2, _, rfl, rfl, st hae, atI_nat (j := 2) rfl, _, _, rfl, rfl, ?_⟩
      refine ⟨_, rfl, p, 9, _, rfl, w5, by omega, by decide, by decide, fun d2 G3 d20 d21 e3 w6 => ?_⟩
      refine ⟨_, _, rfl, rfl, by show 4 ≤ sizeLine; decide, fun ta nta => ?_⟩
      have s6 := same_new nta (o := .tup [.str "letter", .int (1 + d1), y, .int (rows[d1.toNat].m + 1 + d2)])
      have em0 := (gR.ok _ (List.getElem_mem hlt)).2.1
      refine q _ (.letter (1 + d1) (ssD ss) (rows[d1.toNat].m + 1 + d2)) _ (((e04.trans e2).trans e3).trans (same_ext s6)) ((w6.same s6).mono (by omega)) ?_ ⟨by omega, by omega, ss, (by decide +kernel : ∀ x ∈ ([[], ["q"]] : List (List Str)), x ∈ SG) ss hss, rfl⟩ ?_
      · exact .tup upd_same (.cons (.str _) (.cons (.int _) (.cons ((hy.tu (TU.w w5 e3) (tO_ss ss)).same s6) (.cons (.int _) .nil))))
      · exact (letB_some hge).trans (decide_eq_true (by omega))
end
end K1


set_option Elab.async false
set_option linter.all false
set_option maxRecDepth 100000
set_option maxHeartbeats 8000000
/-! k23: _law_behind. -/
namespace K1
open PySem PySem.Spec PyProof.Rows L2 RZ StX
abbrev sLb : Stmt := st__law_behind
abbrev nLb : List Str := ["_law_entries_here", "_law_notice_here", "_law_at", "_law_new"]
abbrev pLb : List Str := ["_law_entries_here", "_law_notice_here"]
theorem scLb : FnScope nLb pLb (defScope sLb) := ⟨rfl, rfl, rfl, by decide +kernel, rfl, by decide +kernel, by decide +kernel⟩
def spLb : Sp := fun vs H Q _ => ∃ (a : Addr) (xs : List V) (rows : List En) (fl : Int) (x : V) (t : Nt), vs = [.ref a, x] ∧ H a = some (.lst xs) ∧ RwA H xs rows ∧ rows.length ≤ 900 ∧ Dv H x (ntD t) ∧ NtOk t ∧ fitN rows fl t = true ∧
  ∀ c ys H', Same H H' → (c = a ∨ H c = none) → H' c = some (.lst ys) → RwA H' ys (behN rows t) → Q (.ref c) H'
section
variable {P : Program} {w : World} {K : PySem.W.Frag} {mg : Str → Option Value} {base : Heap}
theorem ok_lb {f : Addr} {fd : FuncData}
    (F : Fun K "_law_behind" "_law_behind" sLb f fd) : FnOk P w K mg base CX0 1 f fd pLb spLb := by
  have nd := scLb.nd
  refine F.ok scLb (fun vs H Q E h => ?_) (fun cdv A outer s H vs Q E hr h => ?_)
  · obtain ⟨a, xs, rows, fl, x, t, rfl, _⟩ := h
    rfl
  · obtain ⟨a, xs, rows, fl, x, t, rfl, ha, hR, hl, hd, ok, hf, q⟩ := h
    refine ⟨_, (pss_cons (ps_if (pt_cmpR op_eq (pe_ix (ix_tupK (K := K) rfl) (pv 1) pe_int (fun _ _ => rfl)) pe_str (nomark _))
  (pss_one (ps_ret (pe_op op_cat (pv 0) (pe_lst (pa_cons (pe_slice (sl_tupAK (K := K) rfl) (pv 1) (po_some pe_int) po_none) pa_nil)))))
  pss_nil)
 (pss_cons (ps_if (pt_cmpR op_eq (pe_ix (ix_tupK (K := K) rfl) (pv 1) pe_int (fun _ _ => rfl)) pe_str (nomark _))
  (pss_one (ps_ret (pv 0)))
  pss_nil)
 (pss_cons (ps_set (i := 2) nd rfl (Or.inl rfl) (pe_op op_sub (pe_ix (ix_tupK (K := K) rfl) (pv 1) pe_int (fun _ _ => rfl)) pe_int))
 (pss_cons (ps_if (pt_cmpR op_eq (pe_ix (ix_tupK (K := K) rfl) (pv 1) pe_int (fun _ _ => rfl)) pe_str (nomark _))
  (pss_one (ps_ret (pe_op op_cat (pe_slice (sl_listK (K := K) rfl) (pv 0) po_none (po_some (pv 2))) (pe_slice (sl_listK (K := K) rfl) (pv 0) (po_some (pe_op op_add (pv 2) pe_int)) po_none))))
  pss_nil)
 (pss_cons (ps_set (i := 3) nd rfl (Or.inl rfl) (pe_tup (pa_cons (pe_ix (ix_tupK (K := K) rfl) (pe_ix (ix_listK (K := K) rfl) (pv 0) (pv 2) (fun _ _ => rfl)) pe_int (fun _ _ => rfl)) (pa_cons (pe_ix (ix_tupK (K := K) rfl) (pv 1) pe_int (fun _ _ => rfl)) (pa_cons (pe_ix (ix_tupK (K := K) rfl) (pv 1) pe_int (fun _ _ => rfl)) pa_nil)))))
 (pss_one (ps_ret (pe_op op_cat (pe_op op_cat (pe_slice (sl_listK (K := K) rfl) (pv 0) po_none (po_some (pv 2))) (pe_lst (pa_cons (pv 3) pa_nil))) (pe_slice (sl_listK (K := K) rfl) (pv 0) (po_some (pe_op op_add (pv 2) pe_int)) po_none))))))))), ?_⟩
    have lx := hR.len
    cases t with
    | come e =>
      obtain ⟨b, y, rfl, hb, hy⟩ := tup4D hd
      refine ⟨_, rfl, b, _, 0, _, rfl, rfl, st hb, atI_nat (j := 0) rfl, rfl, _, rfl, itbT (decide_eq_true rfl) ?_⟩
      refine ⟨_, rfl, ?_⟩
      refine slDA_go (n := 1) rfl hb (fun R r => r) fun c H1 s1 hc => ?_
      refine ⟨lt1 _ (by show 1 ≤ 100000; decide), fun L nL => ?_⟩
      have s2 := s1.trans (same_new nL (o := .lst [.ref c]))
      refine cat_go (s2 _ _ ha) upd_same (by show xs.length + 1 ≤ 100000; omega) fun D H2 s3 nD hD => ?_
      have s23 := s2.trans s3
      refine q D _ H2 s23 (.inr (s2.free nD)) hD ?_
      refine (hR.same s23).app (.cons ?_ .nil)
      exact dvEn (s3 _ _ (same_new nL _ _ hc)) (hy.same s23)
    | done m n =>
      obtain ⟨b, rfl, hb⟩ := tup3D hd
      refine ⟨_, rfl, b, _, 0, _, rfl, rfl, st hb, atI_nat (j := 0) rfl, rfl, _, rfl, itbF (str_ne (by decide +kernel)) ?_⟩
      refine ⟨_, rfl, b, _, 0, _, rfl, rfl, st hb, atI_nat (j := 0) rfl, rfl, _, rfl, itbT (decide_eq_true rfl) ?_⟩
      exact ⟨_, rfl, q a xs H (fun _ _ h => h) (.inl rfl) ha hR⟩
    | gone n =>
      obtain ⟨b, rfl, hb⟩ := tup2D hd
      have n1 : 1 ≤ n := ok
      refine ⟨_, rfl, b, _, 0, _, rfl, rfl, st hb, atI_nat (j := 0) rfl, rfl, _, rfl, itbF (str_ne (by decide +kernel)) ?_⟩
      refine ⟨_, rfl, b, _, 0, _, rfl, rfl, st hb, atI_nat (j := 0) rfl, rfl, _, rfl, itbF (str_ne (by decide +kernel)) ?_⟩
      refine ⟨_, rfl, b, _, 1, _, rfl, rfl, st hb, atI_nat (j := 1) rfl, _, _, rfl, rfl, ?_⟩
      refine ⟨_, rfl, b, _, 0, _, rfl, rfl, st hb, atI_nat (j := 0) rfl, rfl, _, rfl, itbT (decide_eq_true rfl) ?_⟩
      refine slT_go (n := (n - 1).toNat) rfl ha (fun R r => ⟨.int (n - 1), rfl, by rw [show (((n - 1).toNat : Nat) : Int) = n - 1 by omega] at r; exact r⟩) fun c H1 s1 hc => ?_
      refine slD_go (n := n.toNat) rfl (s1 _ _ ha) (fun R r => ⟨.int (n - 1), rfl, _, _, rfl, rfl, by rw [show ((n.toNat : Nat) : Int) = n - 1 + 1 by omega] at r; exact r⟩) fun d H2 s2 hd2 => ?_
      have s12 := s1.trans s2
      refine cat_go (s2 _ _ hc) hd2 (by rw [List.length_take, List.length_drop]; omega) fun D H3 s3 nD hD => ?_
      have s23 := s12.trans s3
      exact q D _ H3 s23 (.inr (s12.free nD)) hD ((a2_take _ (hR.same s23)).app (a2_drop _ (hR.same s23)))
    | letter n s m =>
      obtain ⟨b, y, rfl, hb, hy⟩ := tup4D hd
      have n1 : 1 ≤ n := ok.1
      cases he : rows[(n - 1).toNat]? with
      | none => rw [show fitN rows fl (.letter n s m) = false from letB_none he] at hf; cases hf
      | some e =>
      obtain ⟨z, hz, hez⟩ := a2_get' hR he
      obtain ⟨ae, ye, rfl, hae, hye⟩ := enDv hez
      refine ⟨_, rfl, b, _, 0, _, rfl, rfl, st hb, atI_nat (j := 0) rfl, rfl, _, rfl, itbF (str_ne (by decide +kernel)) ?_⟩
      refine ⟨_, rfl, b, _, 0, _, rfl, rfl, st hb, atI_nat (j := 0) rfl, rfl, _, rfl, itbF (str_ne (by decide +kernel)) ?_⟩
      refine ⟨_, rfl, b, _, 1, _, rfl, rfl, st hb, atI_nat (j := 1) rfl, _, _, rfl, rfl, ?_⟩
      refine ⟨_, rfl, b, _, 0, _, rfl, rfl, st hb, atI_nat (j := 0) rfl, rfl, _, rfl, itbF (str_ne (by decide +kernel)) ?_⟩
      refine ⟨_, rfl, _, rfl, a, _, _, _, rfl, rfl, sq ha, by rw [show n - 1 = (((n - 1).toNat : Nat) : Int) by omega]; exact atI_nat hz, ae, _, 0, _, rfl, rfl, st hae, atI_nat (j := 0) rfl, ?_⟩
      refine ⟨_, rfl, b, _, 2, _, rfl, rfl, st hb, atI_nat (j := 2) rfl, _, rfl, b, _, 3, _, rfl, rfl, st hb, atI_nat (j := 3) rfl, ?_⟩
      refine ⟨lt1 _ (by show 3 ≤ 100000; decide), fun tn ntn => ?_⟩
      have s2 := same_new ntn (o := .tup [.int e.n, y, .int m])
      have ht : (upd H tn (.tup [.int e.n, y, .int m])) tn = some (.tup [.int e.n, y, .int m]) := upd_same
      generalize upd H tn (.tup [.int e.n, y, .int m]) = H1 at s2 ht
      refine slT_go (n := (n - 1).toNat) rfl (s2 _ _ ha) (fun R r => ⟨.int (n - 1), rfl, by rw [show (((n - 1).toNat : Nat) : Int) = n - 1 by omega] at r; exact r⟩) fun c H2 s1 hc => ?_
      refine ⟨_, rfl, lt1 _ (by show 1 ≤ 100000; decide), fun L nL => ?_⟩
      have s3 := same_new nL (o := .lst [.ref tn])
      have hL : (upd H2 L (.lst [.ref tn])) L = some (.lst [.ref tn]) := upd_same
      generalize upd H2 L (.lst [.ref tn]) = H3 at s3 hL
      have s13 := (s2.trans s1).trans s3
      refine cat_go (s3 _ _ hc) hL (by rw [List.length_take]; show _ + 1 ≤ _; omega) fun D H4 s4 _ hD => ?_
      refine slD_go (n := n.toNat) rfl ((s13.trans s4) _ _ ha) (fun R r => ⟨.int (n - 1), rfl, _, _, rfl, rfl, by rw [show ((n.toNat : Nat) : Int) = n - 1 + 1 by omega] at r; exact r⟩) fun d H5 s5 hd2 => ?_
      refine cat_go (s5 _ _ hD) hd2 (by rw [List.length_append, List.length_take, List.length_drop]; show _ + 1 + _ ≤ _; omega) fun D2 H6 s6 nD2 hD2 => ?_
      have s06 := ((s13.trans s4).trans s5).trans s6
      refine q D2 _ H6 s06 (.inr ((s13.trans s4).trans s5 |>.free nD2)) hD2 ?_
      have e2 : behN rows (.letter n s m) = rows.take (n - 1).toNat ++ [⟨e.n, s, m⟩] ++ rows.drop n.toNat := by rw [← noAt_some he]; rfl
      rw [e2]
      refine (A2.app (a2_take _ (hR.same s06)) (.cons ?_ .nil)).app (a2_drop _ (hR.same s06))
      exact dvEn (e := ⟨e.n, s, m⟩) (((((s1.trans s3).trans s4).trans s5).trans s6) _ _ ht) (hy.same s06)
end
end K1


set_option Elab.async false
set_option linter.all false
set_option maxRecDepth 100000
set_option maxHeartbeats 8000000
/-! k23: notices that do not fit: the mathematics; data that stand apart from one list. -/
namespace K1
open PySem PySem.Spec PyProof.Rows L2 RZ StX
theorem fitB_bad {rows : List En} {fl : Int} {t : Nt} (h : NtOk t → fitN rows fl t = false) : fitB rows fl (ntD t) = false := by
  by_cases b : noB (ntD t) = true
  · obtain ⟨u, e, ok⟩ := noB_of b
    obtain rfl := ntD_inj e
    rw [fitB_nt ok]; exact h ok
  · exact fitB_no (by simpa using b)
theorem sgW_flat {d : PyData} (h : itemsD d = []) : sgW d := by unfold sgW; rw [h]; exact ⟨Nat.zero_le _, fun e he => by cases he⟩
theorem sgW_strs {ss : List Str} (h : ss.length ≤ 1000 ∧ ∀ s ∈ ss, s.length ≤ 1000) : sgW (.tuple (ss.map .str)) ∧ sgW (.list (ss.map .str)) := by
  have h2 : (ss.map PyData.str).length ≤ 1000 ∧ ∀ e ∈ ss.map PyData.str, shortS e := ⟨by rw [List.length_map]; exact h.1, fun e he => by
    obtain ⟨s, hs, rfl⟩ := List.mem_map.mp he
    exact h.2 s hs⟩
  exact ⟨h2, h2⟩
theorem enW_flat {d : PyData} (h : itemsD d = []) : enW d := by unfold enW; rw [h]; exact ⟨Nat.zero_le _, fun e he => by cases he⟩
theorem enW_tup {ds : List PyData} (h : ds.length ≤ 1000) (k : ∀ e ∈ ds, sgW e) : enW (.tuple ds) := ⟨h, k⟩
theorem enW_lst {ds : List PyData} (h : ds.length ≤ 1000) (k : ∀ e ∈ ds, sgW e) : enW (.list ds) := ⟨h, k⟩
theorem all2 {a b : PyData} (h1 : sgW a) (h2 : sgW b) : ∀ e ∈ [a, b], sgW e := fun e he => by
  simp only [List.mem_cons, List.not_mem_nil, or_false] at he
  rcases he with rfl | rfl
  · exact h1
  · exact h2
theorem all3 {a b c : PyData} (h1 : sgW a) (h2 : sgW b) (h3 : sgW c) : ∀ e ∈ [a, b, c], sgW e := fun e he => by
  simp only [List.mem_cons, List.not_mem_nil, or_false] at he
  rcases he with rfl | rfl | rfl
  · exact h1
  · exact h2
  · exact h3
theorem all4 {a b c d : PyData} (h1 : sgW a) (h2 : sgW b) (h3 : sgW c) (h4 : sgW d) : ∀ e ∈ [a, b, c, d], sgW e := fun e he => by
  simp only [List.mem_cons, List.not_mem_nil, or_false] at he
  rcases he with rfl | rfl | rfl | rfl
  · exact h1
  · exact h2
  · exact h3
  · exact h4
/-- a notice that does not fit -/
def Bdn (rows : List En) (low : Int) (d : PyData) : Prop := fitB rows low d = false ∧ enW d
noncomputable def co (n m : Int) (s : PyData) : PyData := .tuple [.str "come", .int n, s, .int m]
noncomputable def le (n : Int) (s m : PyData) : PyData := .tuple [.str "letter", .int n, s, m]
theorem bd_co {rows : List En} {low n m : Int} {s : PyData} (hs : sgW s) (h : fitB rows low (co n m s) = false) : Bdn rows low (co n m s) := ⟨h, enW_tup (Nat.le_of_ble_eq_true rfl) (all4 (sgW_flat rfl) (sgW_flat rfl) hs (sgW_flat rfl))⟩
theorem bd_le {rows : List En} {low n : Int} {s m : PyData} (hs : sgW s) (hm : sgW m) (h : fitB rows low (le n s m) = false) : Bdn rows low (le n s m) := ⟨h, enW_tup (Nat.le_of_ble_eq_true rfl) (all4 (sgW_flat rfl) (sgW_flat rfl) hs hm)⟩
section
variable {rows : List En} {low top : Int} (g : RwG rows) (h1 : top ∈ rows.map (·.n) ++ [0]) (h2 : ∀ y ∈ rows.map (·.n) ++ [0], y ≤ top)
include h1 h2 in
theorem top_no (h : 1 ≤ top) (g : RwG rows) : topB rows top = false := by
  cases hl : rows.getLast? with
  | none =>
    rw [List.getLast?_eq_none_iff.mp hl] at h1
    simp at h1
    omega
  | some e =>
    rw [topB_snoc hl]
    have hm : e ∈ rows := List.mem_of_getLast? hl
    refine decide_eq_false fun z => ?_
    rcases List.mem_append.mp h1 with hx | hx
    · obtain ⟨x, hx, ex⟩ := List.mem_map.mp hx
      have := last_top g hl x hx
      omega
    · simp at hx
      omega
include h1 h2 in
theorem bd1 (g : RwG rows) : Bdn rows low (co top 5 (.tuple [])) := bd_co (sgW_flat rfl) (fitB_bad (t := .come ⟨top, .tuple [], 5⟩) fun ok => top_no h1 h2 ok.1 g)
include h1 h2 in
theorem bd_dt (g : RwG rows) (m : Int) : Bdn rows low (ntD (.done m top)) := ⟨fitB_bad fun ok => by show (topB rows top && _) = false; rw [top_no h1 h2 ok.2 g]; rfl, enW_tup (Nat.le_of_ble_eq_true rfl) (all3 (sgW_flat rfl) (sgW_flat rfl) (sgW_flat rfl))⟩
end
theorem bd_non {rows : List En} {low : Int} : Bdn rows low .none := ⟨fitB_no rfl, enW_flat rfl⟩
theorem bd_emp {rows : List En} {low : Int} : Bdn rows low (.tuple []) := ⟨fitB_no rfl, enW_flat rfl⟩
theorem bd_c0 {rows : List En} {low : Int} : Bdn rows low (co 0 5 (.tuple [])) := bd_co (sgW_flat rfl) (fitB_bad (t := .come ⟨0, .tuple [], 5⟩) fun ok => absurd (show (1 : Int) ≤ 0 from ok.1) (by decide))
theorem bd_wt {rows : List En} {low : Int} : Bdn rows low (.tuple [.str "went", .int 1]) := ⟨fitB_no (by rw [noB_str, if_neg (by decide +kernel), if_neg (by decide +kernel), if_neg (by decide +kernel)]), enW_tup (Nat.le_of_ble_eq_true rfl) (all2 (sgW_flat rfl) (sgW_flat rfl))⟩
theorem bd_gl {rows : List En} {low : Int} : Bdn rows low (.list [.str "gone", .int 1]) := ⟨fitB_no rfl, enW_lst (Nat.le_of_ble_eq_true rfl) (all2 (sgW_flat rfl) (sgW_flat rfl))⟩
theorem bd_g0 {rows : List En} {low : Int} : Bdn rows low (.tuple [.str "gone", .int 0]) := ⟨fitB_bad (t := .gone 0) fun ok => absurd (show (1 : Int) ≤ 0 from ok) (by decide), enW_tup (Nat.le_of_ble_eq_true rfl) (all2 (sgW_flat rfl) (sgW_flat rfl))⟩
theorem bd_gt {rows : List En} {low : Int} : Bdn rows low (.tuple [.str "gone", .bool true]) := ⟨fitB_no (by rw [noB_str, if_neg (by decide +kernel), if_pos rfl]; rfl), enW_tup (Nat.le_of_ble_eq_true rfl) (all2 (sgW_flat rfl) (sgW_flat rfl))⟩
theorem bd_gs {rows : List En} {low : Int} : Bdn rows low (.str "gone") := ⟨fitB_no rfl, enW_flat rfl⟩
theorem bd_gn {rows : List En} {low n : Int} (h : n = rows.length + 1) : Bdn rows low (ntD (.gone n)) := ⟨fitB_bad fun _ => decide_eq_false (by omega), enW_tup (Nat.le_of_ble_eq_true rfl) (all2 (sgW_flat rfl) (sgW_flat rfl))⟩
theorem bd_dh {rows : List En} {low : Int} (n : Int) : Bdn rows low (ntD (.done (maxM rows low - 1) n)) := ⟨fitB_bad fun _ => by show (_ && decide (maxM rows low - 1 ≥ maxM rows low)) = false; rw [decide_eq_false (by omega)]; simp, enW_tup (Nat.le_of_ble_eq_true rfl) (all3 (sgW_flat rfl) (sgW_flat rfl) (sgW_flat rfl))⟩
theorem bd_d1 {rows : List En} {low : Int} (n : Int) : Bdn rows low (.tuple [.str "done", .int n]) := ⟨fitB_no (by rw [noB_str, if_neg (by decide +kernel), if_neg (by decide +kernel), if_pos rfl]; rfl), enW_tup (Nat.le_of_ble_eq_true rfl) (all2 (sgW_flat rfl) (sgW_flat rfl))⟩
theorem bd_ln {rows : List En} {low n : Int} (h : n = rows.length + 1) : Bdn rows low (le n (.tuple []) (.int 99)) := bd_le (sgW_flat rfl) (sgW_flat rfl) (fitB_bad (t := .letter n (.tuple []) 99) fun _ => letB_none (List.getElem?_eq_none (by omega)))
theorem bd_lk {rows : List En} {low n : Int} {e : En} (h : rows[(n - 1).toNat]? = some e) : Bdn rows low (le n (.tuple []) (.int e.m)) := bd_le (sgW_flat rfl) (sgW_flat rfl) (fitB_bad (t := .letter n (.tuple []) e.m) fun _ => (letB_some h).trans (decide_eq_false (by omega)))
theorem no_le {n : Int} {s m : PyData} (h : (sgsB s && isMrk m) = false) : noB (le n s m) = false := by
  unfold le
  rw [noB_str, if_pos (.inr rfl)]
  show (isNum (.int n) && sgsB s && isMrk m) = false
  rw [Bool.and_assoc, h, Bool.and_false]
theorem no_co {n m : Int} {s : PyData} (h : (sgsB s && isMrk (.int m)) = false) : noB (co n m s) = false := by
  unfold co
  rw [noB_str, if_pos (.inl rfl)]
  show (isNum (.int n) && sgsB s && isMrk (.int m)) = false
  rw [Bool.and_assoc, h, Bool.and_false]
theorem bd_lt {rows : List En} {low n : Int} : Bdn rows low (le n (.tuple []) (.bool true)) := bd_le (sgW_flat rfl) (sgW_flat rfl) (fitB_no (no_le (by show (_ && false) = false; rw [Bool.and_false])))
theorem bd_la {rows : List En} {low n : Int} : Bdn rows low (le n (.str "a") (.int 99)) := bd_le (sgW_flat rfl) (sgW_flat rfl) (fitB_no (no_le rfl))
/-- the four pairs of mark and signs -/
noncomputable def fourD : List (Int × PyData) := [(5, .tuple ((["b", "a"] : List Str).map .str)), (-1, .tuple []), (5, .list ((["a"] : List Str).map .str)), (5, .tuple ((["toolongsign"] : List Str).map .str))]
theorem four_bad {rows : List En} {low n m : Int} {s : PyData} (h : (m, s) ∈ fourD) : Bdn rows low (co n m s) := by
  simp only [fourD, List.mem_cons, List.not_mem_nil, or_false, Prod.mk.injEq] at h
  rcases h with ⟨rfl, rfl⟩ | ⟨rfl, rfl⟩ | ⟨rfl, rfl⟩ | ⟨rfl, rfl⟩
  · exact bd_co (sgW_strs (by decide +kernel)).1 (fitB_no (no_co (by rw [sgsB_strs]; decide +kernel)))
  · exact bd_co (sgW_flat rfl) (fitB_no (no_co (by show (_ && false) = false; rw [Bool.and_false])))
  · exact bd_co (sgW_strs (by decide +kernel)).2 (fitB_no (no_co rfl))
  · exact bd_co (sgW_strs (by decide +kernel)).1 (fitB_no (no_co (by rw [sgsB_strs]; decide +kernel)))
/-! ### data that stand apart from one list -/
def hid (D : Addr) (H : Hp) : Hp := fun b => if b = D then none else H b
theorem hid_at {D b : Addr} {H : Hp} (h : b ≠ D) : hid D H b = H b := if_neg h
theorem hid_sub (D : Addr) (H : Hp) : Same (hid D H) H := fun b o h => by
  by_cases e : b = D
  · rw [show hid D H b = none from if_pos e] at h; cases h
  · rw [hid_at e] at h; exact h
theorem hid_same {D : Addr} {H G : Hp} (s : Same H G) : Same (hid D H) (hid D G) := fun b o h => by
  by_cases e : b = D
  · rw [show hid D H b = none from if_pos e] at h; cases h
  · rw [hid_at e] at h ⊢; exact s _ _ h
theorem hid_upd {D : Addr} {H : Hp} {o : HO} : hid D (upd H D o) = hid D H := by
  funext b
  by_cases e : b = D
  · rw [show hid D (upd H D o) b = none from if_pos e, show hid D H b = none from if_pos e]
  · rw [hid_at e, hid_at e, upd_ne e]
theorem hid_new {D : Addr} {H G : Hp} (n : H D = none) (s : Same H G) : Same H (hid D G) := fun b o h => by
  rw [hid_at (fun e => by rw [e, n] at h; cases h)]; exact s _ _ h
/-- things that are all bad, apart from D -/
def OdA (Bd : PyData → Prop) (D : Addr) (H : Hp) (ys : List V) : Prop := ∀ y ∈ ys, ∃ d, Dv (hid D H) y d ∧ Bd d
section
variable {Bd : PyData → Prop} {D : Addr} {H G : Hp} {ys zs : List V}
theorem OdA.same (h : OdA Bd D H ys) (s : Same H G) : OdA Bd D G ys := fun y hy => let ⟨d, a, b⟩ := h y hy; ⟨d, a.same (hid_same s), b⟩
theorem OdA.mut {o : HO} (h : OdA Bd D H ys) : OdA Bd D (upd H D o) ys := by unfold OdA; rw [hid_upd]; exact h
theorem OdA.app (h : OdA Bd D H ys) (k : OdA Bd D H zs) : OdA Bd D H (ys ++ zs) := fun y hy => (List.mem_append.mp hy).elim (h y) (k y)
theorem OdA.one {y : V} {d : PyData} (h : Dv (hid D H) y d) (b : Bd d) : OdA Bd D H [y] := fun z hz => by rw [List.mem_singleton.mp hz]; exact ⟨d, h, b⟩
theorem OdA.move {c : Addr} (h : OdA Bd D H ys) (n : H c = none) (s : Same H G) : OdA Bd c G ys := fun y hy => let ⟨d, a, b⟩ := h y hy; ⟨d, (a.same (hid_sub D H)).same (hid_new n s), b⟩
theorem OdA.ofH {ds : List PyData} (h : DvA (hid D H) ys ds) (hb : ∀ d ∈ ds, Bd d) : OdA Bd D H ys := fun y hy => by
  obtain ⟨i, hi⟩ := List.mem_iff_getElem?.mp hy
  obtain ⟨d, hd, hv⟩ := h.get hi
  exact ⟨d, hv, hb d (List.mem_of_getElem? hd)⟩
theorem OdA.of {c : Addr} {ds : List PyData} {J : Hp} (h : DvA J ys ds) (hb : ∀ d ∈ ds, Bd d) (n : J c = none) (s : Same J G) : OdA Bd c G ys := fun y hy => by
  obtain ⟨i, hi⟩ := List.mem_iff_getElem?.mp hy
  obtain ⟨d, hd, hv⟩ := h.get hi
  exact ⟨d, hv.same (hid_new n s), hb d (List.mem_of_getElem? hd)⟩
end
end K1


set_option Elab.async false
set_option linter.all false
set_option maxRecDepth 100000
set_option maxHeartbeats 8000000
/-! k23: _law_odd_notices. -/
namespace K1
open PySem PySem.Spec PyProof.Rows L2 RZ StX
theorem nm_go {i : Nat} {v : V} {σ : L2.St} {H : Hp} {Q : L2.St → Hp → Prop} (h : Q (σ.set i (some v)) H) : gName i v σ H Q := h
theorem nx_mk {a b : L2.St → Hp → Prop} {r : VK} {c : L2.St → Hp → Prop} {σ : L2.St} {H : Hp} (h : a σ H) : (Ends.mk a r b c).nx σ H := h
theorem asg_go {te : TE} {g : TG} {tb : TS} {D : Ends} {σ : L2.St} {H : Hp} (h : te σ H fun x H1 => g x σ H1 (tb D)) : tSeq (tAsg te g) tb D σ H := h
theorem for_go {wi : TI} {g : TG} {tb rest : TS} {D : Ends} {σ : L2.St} {H : Hp} (h : tFor wi g tb { D with nx := rest D } σ H) : tSeq (tFor wi g tb) rest D σ H := h
abbrev sOd : Stmt := st__law_odd_notices
abbrev nOd : List Str := ["_law_entries_here", "_law_low", "_law_top", "_law_high", "_law_found", "_law_mark", "_law_signs", "_law_k", "_law_entry"]
abbrev pOd : List Str := ["_law_entries_here", "_law_low"]
theorem scOd : FnScope nOd pOd (defScope sOd) := ⟨rfl, rfl, rfl, by decide +kernel, rfl, by decide +kernel, by decide +kernel⟩
def spOd : Sp := fun vs H Q _ => ∃ (L : Addr) (xs : List V) (rows : List En) (low : Int), vs = [.ref L, .int low] ∧ H L = some (.lst xs) ∧ RwA H xs rows ∧ RwG rows ∧ rows.length ≤ 100 ∧ 0 ≤ low ∧
  ∀ c ys H', Same H H' → H c = none → H' c = some (.lst ys) → OdA (Bdn rows low) c H' ys → ys.length ≤ 1000 → Q (.ref c) H'
theorem gsOd1 {σ : L2.St} {top : Int} (h : σ[2]? = some (some (.int top))) : GsA (tCons (tC .non) (tCons (tTup tNil) (tCons (tTup (tCons (tC (.str "come")) (tCons (tVar 2) (tCons (tTup tNil) (tCons (tC (.int 5)) tNil))))) (tCons (tTup (tCons (tC (.str "come")) (tCons (tC (.int 0)) (tCons (tTup tNil) (tCons (tC (.int 5)) tNil))))) (tCons (tTup (tCons (tC (.str "went")) (tCons (tC (.int 1)) tNil))) (tCons (tLst (tCons (tC (.str "gone")) (tCons (tC (.int 1)) tNil))) (tCons (tTup (tCons (tC (.str "gone")) (tCons (tC (.int 0)) tNil))) tNil))))))) σ
    [.none, .tuple [], co top 5 (.tuple []), co 0 5 (.tuple []), .tuple [.str "went", .int 1], .list [.str "gone", .int 1], .tuple [.str "gone", .int 0]] :=
  gs_cons gs_non (gs_cons (gs_tup gs_nil) (gs_cons (gs_tup (gs_cons (gs_str _) (gs_cons (gs_var h) (gs_cons (gs_tup gs_nil) (gs_cons (gs_int _) gs_nil))))) (gs_cons (gs_tup (gs_cons (gs_str _) (gs_cons (gs_int _) (gs_cons (gs_tup gs_nil) (gs_cons (gs_int _) gs_nil))))) (gs_cons (gs_tup (gs_cons (gs_str _) (gs_cons (gs_int _) gs_nil))) (gs_cons (gs_lst (gs_cons (gs_str _) (gs_cons (gs_int _) gs_nil))) (gs_cons (gs_tup (gs_cons (gs_str _) (gs_cons (gs_int _) gs_nil))) gs_nil))))))
noncomputable def pairD (x : Int × PyData) : PyData := .tuple [.int x.1, x.2]
open Classical in
/-- what is new since G -/
noncomputable def nw (G J : Hp) : Hp := fun b => if G b = none then J b else none
theorem nw_at {G J : Hp} {b : Addr} (h : G b = none) : nw G J b = J b := if_pos h
theorem nw_some {G J : Hp} {b : Addr} {o : HO} (h : nw G J b = some o) : G b = none ∧ J b = some o := by
  by_cases e : G b = none
  · rw [nw_at e] at h; exact ⟨e, h⟩
  · rw [show nw G J b = none from if_neg e] at h; cases h
theorem nw_same {G J J2 : Hp} (s : Same J J2) : Same (nw G J) (nw G J2) := fun b o h => by
  obtain ⟨e, h⟩ := nw_some h
  rw [nw_at e]; exact s _ _ h
theorem nw_mono {G G2 J : Hp} (s : Same G G2) : Same (nw G2 J) (nw G J) := fun b o h => by
  obtain ⟨e, h⟩ := nw_some h
  rw [nw_at (s.free e)]; exact h
theorem nw_hid {G J : Hp} {D : Addr} (h : G D ≠ none) : Same (nw G J) (hid D J) := fun b o k => by
  obtain ⟨e, k⟩ := nw_some k
  rw [hid_at (fun z => h (by rw [← z]; exact e))]; exact k
def Gn (te : TE) (σ : L2.St) (d : PyData) : Prop := ∀ (G : Hp) (Q : VK), (∀ v J, Same G J → Dv (nw G J) v d → Q v J) → te σ G Q
def GnA (ta : TA) (σ : L2.St) (ds : List PyData) : Prop := ∀ (G : Hp) (Q : List V → Hp → Prop), (∀ vs J, Same G J → DvA (nw G J) vs ds → Q vs J) → ta σ G Q
section
variable {σ : L2.St} {te : TE} {ta : TA} {d : PyData} {ds : List PyData}
theorem gn_str (z : Str) : Gn (tC (.str z)) σ (.str z) := fun G Q q => q _ G (fun _ _ h => h) (.str z)
theorem gn_int (z : Int) : Gn (tC (.int z)) σ (.int z) := fun G Q q => q _ G (fun _ _ h => h) (.int z)
theorem gn_neg (n : Int) : Gn (tUn (rU fun i => .int (-i)) (tC (.int n))) σ (.int (-n)) := fun G Q q => ⟨n, rfl, q _ G (fun _ _ h => h) (.int _)⟩
theorem gn_nil : GnA tNil σ [] := fun G Q q => q [] G (fun _ _ h => h) .nil
theorem gn_cons (h : Gn te σ d) (k : GnA ta σ ds) : GnA (tCons te ta) σ (d :: ds) := fun G Q q => h G _ fun v J s dv => k J _ fun vs J2 s2 da => q (v :: vs) J2 (s.trans s2) (.cons (dv.same (nw_same s2)) (da.same (nw_mono s)))
theorem gn_tup (h : GnA ta σ ds) (hl : ds.length ≤ 1000 := by exact Nat.le_of_ble_eq_true rfl) : Gn (tTup ta) σ (.tuple ds) := fun G Q q => h G _ fun vs J s da => ⟨Nat.le_trans (by rw [da.len]; exact hl) (by decide), fun b nb => q _ _ (s.new nb) (.tup (by rw [nw_at (s.free nb)]; exact upd_same) (da.same (nw_same (same_new nb))))⟩
theorem gn_lst (h : GnA ta σ ds) (hl : ds.length ≤ 1000 := by exact Nat.le_of_ble_eq_true rfl) : Gn (tLst ta) σ (.list ds) := fun G Q q => h G _ fun vs J s da => ⟨Nat.le_trans (by rw [da.len]; exact hl) (by decide), fun b nb => q _ _ (s.new nb) (.lst (by rw [nw_at (s.free nb)]; exact upd_same) (da.same (nw_same (same_new nb))))⟩
theorem gslH (h : GsA ta σ ds) (hl : ds.length ≤ 1000 := by exact Nat.le_of_ble_eq_true rfl) (G : Hp) (Q : VK) (q : ∀ L xs J, Same G J → G L = none → J L = some (.lst xs) → DvA (hid L J) xs ds → Q (.ref L) J) : tLst ta σ G Q :=
  h G _ fun vs J s da => ⟨Nat.le_trans (by rw [da.len]; exact hl) (by decide), fun b nb => q b vs _ (s.new nb) (s.free nb) upd_same (da.same (hid_new nb (same_new nb)))⟩
theorem gnlH (h : GnA ta σ ds) (hl : ds.length ≤ 1000 := by exact Nat.le_of_ble_eq_true rfl) (G : Hp) (Q : VK) (q : ∀ L xs J, Same G J → G L = none → J L = some (.lst xs) → DvA (nw G J) xs ds → Q (.ref L) J) : tLst ta σ G Q :=
  h G _ fun vs J s da => ⟨Nat.le_trans (by rw [da.len]; exact hl) (by decide), fun b nb => q b vs _ (s.new nb) (s.free nb) upd_same (da.same (nw_same (same_new nb)))⟩
theorem gsl_head {G : Hp} (h : ∀ Q : VK, (∀ v J, Same G J → Dv J v d → Q v J) → te σ G Q) (k : GsA ta σ ds) (hl : ds.length ≤ 900 := by exact Nat.le_of_ble_eq_true rfl) (Q : VK) (q : ∀ L xs J, Same G J → G L = none → J L = some (.lst xs) → DvA J xs (d :: ds) → Q (.ref L) J) : tLst (tCons te ta) σ G Q :=
  h _ fun v J s dv => k J _ fun vs J2 s2 da => ⟨Nat.le_trans (by rw [List.length_cons, da.len]; exact Nat.succ_le_succ hl) (by decide), fun b nb => q b (v :: vs) _ ((s.trans s2).new nb) ((s.trans s2).free nb) upd_same (.cons ((dv.same s2).same (same_new nb)) (da.same (same_new nb)))⟩
end
theorem gnOd2 {σ : L2.St} : GnA (tCons (tTup (tCons (tC (.int 5)) (tCons (tTup (tCons (tC (.str "b")) (tCons (tC (.str "a")) tNil))) tNil))) (tCons (tTup (tCons (tUn (rU fun i => .int (-i)) (tC (.int 1))) (tCons (tTup tNil) tNil))) (tCons (tTup (tCons (tC (.int 5)) (tCons (tLst (tCons (tC (.str "a")) tNil)) tNil))) (tCons (tTup (tCons (tC (.int 5)) (tCons (tTup (tCons (tC (.str "toolongsign")) tNil)) tNil))) tNil)))) σ (fourD.map pairD) :=
  gn_cons (gn_tup (gn_cons (gn_int _) (gn_cons (gn_tup (gn_cons (gn_str _) (gn_cons (gn_str _) gn_nil))) gn_nil))) (gn_cons (gn_tup (gn_cons (gn_neg _) (gn_cons (gn_tup gn_nil) gn_nil))) (gn_cons (gn_tup (gn_cons (gn_int _) (gn_cons (gn_lst (gn_cons (gn_str _) gn_nil)) gn_nil))) (gn_cons (gn_tup (gn_cons (gn_int _) (gn_cons (gn_tup (gn_cons (gn_str _) gn_nil)) gn_nil))) gn_nil)))
theorem gsOd3 {σ : L2.St} : GsA (tCons (tTup (tCons (tC (.str "gone")) (tCons (tC (.bl true)) tNil))) (tCons (tC (.str "gone")) tNil)) σ [.tuple [.str "gone", .bool true], .str "gone"] :=
  gs_cons (gs_tup (gs_cons (gs_str _) (gs_cons (gs_bl _) gs_nil))) (gs_cons (gs_str _) gs_nil)
theorem dv_hid {D : Addr} {H : Hp} {v : V} {d : PyData} (h : Dv (hid D H) v d) : Dv H v d := h.same (hid_sub D H)
theorem pairDv {H : Hp} {v : V} {m : Int} {s : PyData} (h : Dv H v (pairD (m, s))) : ∃ a y, v = .ref a ∧ H a = some (.tup [.int m, y]) ∧ Dv H y s := by
  unfold pairD at h
  cases h with
  | tup e r =>
  cases r with
  | cons h1 r =>
  cases r with
  | cons h2 r =>
  cases r; cases h1
  exact ⟨_, _, rfl, e, h2⟩
/-- the list of what does not fit -/
structure Fnd (Bd : PyData → Prop) (H G : Hp) (D : Addr) (ys : List V) (n : Nat) : Prop where
  s : Same H G
  f : H D = none
  h : G D = some (.lst ys)
  o : OdA Bd D G ys
  l : ys.length = n
section
variable {Bd : PyData → Prop} {H G J : Hp} {D : Addr} {ys : List V} {n : Nat}
theorem Fnd.same (f : Fnd Bd H G D ys n) (s : Same G J) : Fnd Bd H J D ys n := ⟨f.s.trans s, f.f, s _ _ f.h, f.o.same s, f.l⟩
theorem Fnd.push {v : V} {d : PyData} (f : Fnd Bd H G D ys n) (h : Dv (hid D G) v d) (b : Bd d) : Fnd Bd H (upd G D (.lst (ys ++ [v]))) D (ys ++ [v]) (n + 1) :=
  ⟨f.s.mut f.f, f.f, upd_same, (f.o.app (OdA.one h b)).mut, by rw [List.length_append, f.l]; rfl⟩
/-- a new tuple told apart from D -/
theorem hid_tup {t : Addr} {xs : List V} {ds : List PyData} (hD : G D ≠ none) (nt : G t = none) (h : DvA (hid D G) xs ds) : Dv (hid D (upd G t (.tup xs))) (.ref t) (.tuple ds) := by
  have ne : t ≠ D := fun e => hD (by rw [← e]; exact nt)
  refine .tup ?_ (h.same (hid_same (same_new nt)))
  rw [hid_at ne]; exact upd_same
/-- found + [..] -/
theorem Fnd.cat {σ : L2.St} {ta : TA} {ds : List PyData} {Q : VK} (f : Fnd Bd H G D ys n) (hn : n ≤ 900) (h4 : σ[4]? = some (some (.ref D))) (hl : ∀ Q : VK, (∀ L xs J, Same G J → G L = none → J L = some (.lst xs) → DvA J xs ds → Q (.ref L) J) → tLst ta σ G Q) (hb : ∀ d ∈ ds, Bd d) (hk : ds.length ≤ 10)
    (q : ∀ c zs J, Fnd Bd H J c zs (n + ds.length) → Same G J → Q (.ref c) J) : tOp rCat (tVar 4) (tLst ta) σ G Q := by
  refine ⟨_, h4, hl _ fun L zs J s nL hL hA => ?_⟩
  refine cat_go (s _ _ f.h) hL (by rw [f.l, hA.len]; omega) fun c J2 s2 nc hc => ?_
  have s02 := s.trans s2
  refine q c _ J2 ⟨f.s.trans s02, (f.s.trans s).free nc, hc, ?_, by rw [List.length_append, f.l, hA.len]⟩ s02
  exact OdA.app ((f.o.same s).move nc s2) (OdA.of hA hb nc s2)
end
end K1


set_option Elab.async false
set_option linter.all false
set_option maxRecDepth 100000
set_option maxHeartbeats 8000000
/-! k23: _law_odd_notices, whole. -/
namespace K1
open PySem PySem.Spec PyProof.Rows L2 RZ StX
section
variable {P : Program} {w : World} {K : PySem.W.Frag} {mg : Str → Option Value} {base : Heap}
set_option maxHeartbeats 32000000 in
theorem ok_od {f : Addr} {fd : FuncData} (T : Bj mg) (F : Fun K "_law_odd_notices" "_law_odd_notices" sOd f fd) : FnOk P w K mg base CX0 1 f fd pOd spOd := by
  have nd := scOd.nd
  refine F.ok scOd (fun vs H Q E h => ?_) (fun cdv A outer s H vs Q E hr h => ?_)
  · obtain ⟨L, xs, rows, low, rfl, _⟩ := h
    rfl
  · obtain ⟨L, xs, rows, low, rfl, hL, hR, gR, lR, low0, q⟩ := h
    refine ⟨_, (pss_cons (ps_set (i := 2) nd rfl (Or.inl rfl) (pe_callB (cr_maxK (K := K) rfl rfl) (by rfl) T.max PyProof.Rows.boot_max (pa_cons (pe_op op_cat (pe_lc (own := [("_law_entry", 8)]) (g := gName 8) (tt := tYes) rfl nd (pi_listK (K := K) rfl (pv 0)) (blkOk_by (own := [("_law_entry", 8)]) (N := nOd) (sc := defScope sOd) (by decide +kernel)) (fun _ _ _ _ _ => pg_name (i := 8) nd rfl (Or.inl rfl)) (fun _ _ _ _ _ => pts_nil) (fun _ _ _ _ _ => (pe_ix (ix_tupK (K := K) rfl) (pv 8) pe_int (fun _ _ => rfl)))) (pe_lst (pa_cons pe_int pa_nil))) pa_nil)))
 (pss_cons (ps_set (i := 3) nd rfl (Or.inl rfl) (pe_callB (cr_maxK (K := K) rfl rfl) (by rfl) T.max PyProof.Rows.boot_max (pa_cons (pe_op op_cat (pe_lc (own := [("_law_entry", 8)]) (g := gName 8) (tt := tYes) rfl nd (pi_listK (K := K) rfl (pv 0)) (blkOk_by (own := [("_law_entry", 8)]) (N := nOd) (sc := defScope sOd) (by decide +kernel)) (fun _ _ _ _ _ => pg_name (i := 8) nd rfl (Or.inl rfl)) (fun _ _ _ _ _ => pts_nil) (fun _ _ _ _ _ => (pe_ix (ix_tupK (K := K) rfl) (pv 8) pe_int (fun _ _ => rfl)))) (pe_lst (pa_cons (pv 1) pa_nil))) pa_nil)))
 (pss_cons (ps_set (i := 4) nd rfl (Or.inl rfl) (pe_lst (pa_cons pe_non (pa_cons (pe_tup pa_nil) (pa_cons (pe_tup (pa_cons pe_str (pa_cons (pv 2) (pa_cons (pe_tup pa_nil) (pa_cons pe_int pa_nil))))) (pa_cons (pe_tup (pa_cons pe_str (pa_cons pe_int (pa_cons (pe_tup pa_nil) (pa_cons pe_int pa_nil))))) (pa_cons (pe_tup (pa_cons pe_str (pa_cons pe_int pa_nil))) (pa_cons (pe_lst (pa_cons pe_str (pa_cons pe_int pa_nil))) (pa_cons (pe_tup (pa_cons pe_str (pa_cons pe_int pa_nil))) pa_nil)))))))))
 (pss_cons (ps_for PassesOwn.never rfl (pi_listK (K := K) rfl (pe_lst (pa_cons (pe_tup (pa_cons pe_int (pa_cons (pe_tup (pa_cons pe_str (pa_cons pe_str pa_nil))) pa_nil))) (pa_cons (pe_tup (pa_cons (pe_un un_neg pe_int) (pa_cons (pe_tup pa_nil) pa_nil))) (pa_cons (pe_tup (pa_cons pe_int (pa_cons (pe_lst (pa_cons pe_str pa_nil)) pa_nil))) (pa_cons (pe_tup (pa_cons pe_int (pa_cons (pe_tup (pa_cons pe_str pa_nil)) pa_nil))) pa_nil)))))) (pg_tup rfl (pgs_cons (pg_name (i := 5) nd rfl (Or.inl rfl)) (pgs_cons (pg_name (i := 6) nd rfl (Or.inl rfl)) pgs_nil)))
  (pss_one (ps_expr (pe_bm PySem.F.plainAttrs_list PySem.F.slot_list_append PySem.F.type_list_append mt_append (pv 4) (pa_cons (pe_tup (pa_cons pe_str (pa_cons (pe_op op_add (pv 2) pe_int) (pa_cons (pv 6) (pa_cons (pv 5) pa_nil))))) pa_nil)))))
 (pss_cons (ps_set (i := 4) nd rfl (Or.inl rfl) (pe_op op_cat (pv 4) (pe_lst (pa_cons (pe_tup (pa_cons pe_str (pa_cons pe_bl pa_nil))) (pa_cons pe_str pa_nil)))))
 (pss_cons (ps_set (i := 4) nd rfl (Or.inl rfl) (pe_op op_cat (pv 4) (pe_lst (pa_cons (pe_tup (pa_cons pe_str (pa_cons (pe_op op_add (pe_callB (call_lenK (K := K) rfl) (by rfl) T.len PySem.boot_len (pa_cons (pv 0) pa_nil)) pe_int) pa_nil))) (pa_cons (pe_tup (pa_cons pe_str (pa_cons (pe_op op_sub (pv 3) pe_int) (pa_cons (pe_op op_add (pv 2) pe_int) pa_nil)))) (pa_cons (pe_tup (pa_cons pe_str (pa_cons (pv 3) (pa_cons (pv 2) pa_nil)))) (pa_cons (pe_tup (pa_cons pe_str (pa_cons (pv 3) pa_nil))) pa_nil)))))))
 (pss_cons (ps_expr (pe_bm PySem.F.plainAttrs_list PySem.F.slot_list_append PySem.F.type_list_append mt_append (pv 4) (pa_cons (pe_tup (pa_cons pe_str (pa_cons (pe_op op_add (pe_callB (call_lenK (K := K) rfl) (by rfl) T.len PySem.boot_len (pa_cons (pv 0) pa_nil)) pe_int) (pa_cons (pe_tup pa_nil) (pa_cons pe_int pa_nil))))) pa_nil)))
 (pss_cons (ps_for PassesOwn.never rfl (pi_range1 rfl T.range (pa_cons (pe_callB (call_lenK (K := K) rfl) (by rfl) T.len PySem.boot_len (pa_cons (pv 0) pa_nil)) pa_nil)) (pg_name (i := 7) nd rfl (Or.inl rfl))
  (pss_cons (ps_expr (pe_bm PySem.F.plainAttrs_list PySem.F.slot_list_append PySem.F.type_list_append mt_append (pv 4) (pa_cons (pe_tup (pa_cons pe_str (pa_cons (pe_op op_add (pv 7) pe_int) (pa_cons (pe_tup pa_nil) (pa_cons (pe_ix (ix_tupK (K := K) rfl) (pe_ix (ix_listK (K := K) rfl) (pv 0) (pv 7) (fun _ _ => rfl)) pe_int (fun _ _ => rfl)) pa_nil))))) pa_nil)))
 (pss_one (ps_set (i := 4) nd rfl (Or.inl rfl) (pe_op op_cat (pv 4) (pe_lst (pa_cons (pe_tup (pa_cons pe_str (pa_cons (pe_op op_add (pv 7) pe_int) (pa_cons (pe_tup pa_nil) (pa_cons pe_bl pa_nil))))) (pa_cons (pe_tup (pa_cons pe_str (pa_cons (pe_op op_add (pv 7) pe_int) (pa_cons pe_str (pa_cons pe_int pa_nil))))) pa_nil))))))))
 (pss_one (ps_ret (pv 4))))))))))), ?_⟩
    have lx := hR.len
    -- the greatest number
    refine ⟨_, rfl, L, rfl, ⟨_, sq hL⟩, fun D nD => ?_⟩
    refine lc_sel walk_list (R := fun x e => Dv H x (enD e)) (ls := rows) (out := fun y (n : Int) => y = V.int n) hR nD (fun G s => sq (s _ _ hL)) (by omega) (fun e => some e.n) ?_ ?_
    · rintro z e G T' S hx hm s3 hT hS'
      obtain ⟨ta, ye, rfl, hta, _⟩ := enDv hx
      exact ⟨rfl, tyes ⟨_, rfl, ta, _, 0, .int e.n, rfl, rfl, st (s3 _ _ hta), atI_nat (j := 0) rfl, hT _ e.n G (fun _ _ h => h) rfl rfl⟩⟩
    intro G acc s3 hacc h4
    rw [h4.vals, fm_map] at hacc
    refine ⟨lt1 _ (by show 1 ≤ 100000; decide), fun L1 nL1 => ?_⟩
    have s4 := same_new nL1 (o := .lst [V.int 0])
    refine cat_go (s4 _ _ hacc) upd_same (by rw [List.length_map, List.length_map]; show rows.length + 1 ≤ 100000; omega) fun c H1 s5 _ hc => ?_
    refine ⟨c, rows.map (·.n) ++ [0], rfl, by rw [List.map_append]; exact sq hc, by simp, fun top ht1 ht2 => ?_⟩
    have s1 := (s3.trans s4).trans s5
    clear hacc h4 hc s3 s4 s5
    have hL1 := s1 _ _ hL
    have hR1 := hR.same s1
    -- the greatest mark
    refine ⟨_, rfl, L, rfl, ⟨_, sq hL1⟩, fun D nD => ?_⟩
    refine lc_sel walk_list (R := fun x e => Dv H1 x (enD e)) (ls := rows) (out := fun y (n : Int) => y = V.int n) hR1 nD (fun G s => sq (s _ _ hL1)) (by omega) (fun e => some e.m) ?_ ?_
    · rintro z e G T' S hx hm s3 hT hS'
      obtain ⟨ta, ye, rfl, hta, _⟩ := enDv hx
      exact ⟨rfl, tyes ⟨_, rfl, ta, _, 2, .int e.m, rfl, rfl, st (s3 _ _ hta), atI_nat (j := 2) rfl, hT _ e.m G (fun _ _ h => h) rfl rfl⟩⟩
    intro G acc s3 hacc h4
    rw [h4.vals, fm_map] at hacc
    refine ⟨_, rfl, lt1 _ (by show 1 ≤ 100000; decide), fun L1 nL1 => ?_⟩
    have s4 := same_new nL1 (o := .lst [V.int low])
    refine cat_go (s4 _ _ hacc) upd_same (by rw [List.length_map, List.length_map]; show rows.length + 1 ≤ 100000; omega) fun c H2 s5 _ hc => ?_
    refine ⟨c, rows.map (·.m) ++ [low], rfl, by rw [List.map_append]; exact sq hc, by simp, fun mx hm1 hm2 => ?_⟩
    obtain rfl := max_is hm1 hm2
    have s2 := s1.trans ((s3.trans s4).trans s5)
    clear hacc h4 hc s3 s4 s5
    -- the first seven
    refine nm_go (nx_mk (asg_go ?_))
    refine gslH (gsOd1 (top := top) rfl) (by exact Nat.le_of_ble_eq_true rfl) H2 _ fun D0 ys0 H3 s3 nD0 hD0 hA0 => ?_
    have b7 : ∀ d ∈ ([.none, .tuple [], co top 5 (.tuple []), co 0 5 (.tuple []), .tuple [.str "went", .int 1], .list [.str "gone", .int 1], .tuple [.str "gone", .int 0]] : List PyData), Bdn rows low d := fun d hd => by
      simp only [List.mem_cons, List.not_mem_nil, or_false] at hd
      rcases hd with rfl | rfl | rfl | rfl | rfl | rfl | rfl
      · exact bd_non
      · exact bd_emp
      · exact bd1 ht1 ht2 gR
      · exact bd_c0
      · exact bd_wt
      · exact bd_gl
      · exact bd_g0
    have f0 : Fnd (Bdn rows low) H H3 D0 ys0 7 := ⟨s2.trans s3, s2.free nD0, hD0, OdA.ofH hA0 b7, by rw [hA0.len]; rfl⟩
    clear hA0 b7
    -- the four
    refine nm_go (for_go ?_)
    unfold tFor
    refine gnlH gnOd2 (by exact Nat.le_of_ble_eq_true rfl) H3 _ fun M ms H4 s4 nM hM hAM => ?_
    have hD3 : H3 D0 ≠ none := by rw [hD0]; exact fun z => by cases z
    have f1 := f0.same s4
    have hMA := hAM.same (nw_hid hD3 (J := H4))
    have nMD : M ≠ D0 := fun z => hD3 (by rw [← z]; exact nM)
    clear hAM f0 hD0 s2 s3
    refine ⟨M, rfl, ⟨_, sq hM⟩, for_list (K := K) (a := M) (xs := ms) (fun i σ G => ∃ (ys : List V) (v5 v6 : Option V), σ = [some (.ref L), some (.int low), some (.int top), some (.int (maxM rows low)), some (.ref D0), v5, v6, none, none] ∧ Fnd (Bdn rows low) H G D0 ys (7 + i) ∧ Same (hid D0 H4) (hid D0 G)) ?_ ?_ ?_ ?_⟩
    · exact ⟨ys0, none, none, rfl, f1, fun _ _ h => h⟩
    · rintro i σ G _ ⟨ys, v5, v6, rfl, fG, sG⟩
      exact sq (hid_sub D0 G _ _ (sG _ _ (by rw [hid_at nMD]; exact hM)))
    · rintro i x σ G hx ⟨ys, v5, v6, rfl, fG, sG⟩
      obtain ⟨d, hd, hv⟩ := hMA.get hx
      rw [List.getElem?_map] at hd
      cases h4 : fourD[i]? with
      | none => rw [h4] at hd; cases hd
      | some ms' =>
      rw [h4] at hd
      cases hd
      obtain ⟨m, sg⟩ := ms'
      obtain ⟨a, y, rfl, ha, hy⟩ := pairDv (hv.same sG)
      refine ⟨a, _, rfl, st (hid_sub D0 G _ _ ha), rfl, .int m, [y], rfl, y, [], rfl, rfl, ?_⟩
      refine ⟨_, rfl, .inl ⟨rfl, _, sq fG.h⟩, _, rfl, _, _, rfl, rfl, _, rfl, _, rfl, by show 4 ≤ sizeLine; decide, fun t nt => ?_⟩
      have hGD : G D0 ≠ none := by rw [fG.h]; exact fun z => by cases z
      have hT := hid_tup hGD nt (.cons (.str "come") (.cons (.int (top + 1)) (.cons hy (.cons (.int m) .nil))))
      have fG2 := fG.same (same_new nt (o := .tup [.str "come", .int (top + 1), y, .int m]))
      have sG2 := sG.trans (hid_same (D := D0) (same_new nt (o := .tup [.str "come", .int (top + 1), y, .int m])))
      refine ⟨D0, ys, _, rfl, rfl, fG2.h, lt2 _ (by rw [fG2.l]; have := (List.getElem?_eq_some_iff.mp h4).1; have e4 : fourD.length = 4 := rfl; omega), ?_⟩
      refine ⟨_, _, _, rfl, fG2.push hT (four_bad (List.mem_of_getElem? h4)), ?_⟩
      rw [hid_upd]; exact sG2
    rintro σ G ⟨ys, v5, v6, rfl, fG, _⟩
    have lM := hMA.len
    rw [List.length_map] at lM
    have e4 : fourD.length = 4 := rfl
    have fG : Fnd (Bdn rows low) H G D0 ys 11 := by rw [show 11 = 7 + ms.length by omega]; exact fG
    clear hMA hM f1 s4 nM nMD
    -- two more
    refine fG.cat (by decide) rfl (fun Q q => gsl gsOd3 (by exact Nat.le_of_ble_eq_true rfl) G Q q) (fun d hd => ?_) (by exact Nat.le_of_ble_eq_true rfl) fun D1 ys1 G1 f1 s1' => ?_
    · simp only [List.mem_cons, List.not_mem_nil, or_false] at hd
      rcases hd with rfl | rfl
      · exact bd_gt
      · exact bd_gs
    have hLG1 := f1.s _ _ hL
    refine f1.cat (by decide) rfl (ds := [ntD (.gone ((xs.length : Nat) + 1 : Int)), ntD (.done (maxM rows low - 1) (top + 1)), ntD (.done (maxM rows low) top), .tuple [.str "done", .int (maxM rows low)]]) (gsl_head (fun Q q => ?_) (gs_cons (gs_tup (gs_cons (gs_str _) (gs_cons (gs_sub (gs_var rfl) (gs_int _)) (gs_cons (gs_add (gs_var rfl) (gs_int _)) gs_nil)))) (gs_cons (gs_tup (gs_cons (gs_str _) (gs_cons (gs_var rfl) (gs_cons (gs_var rfl) gs_nil)))) (gs_cons (gs_tup (gs_cons (gs_str _) (gs_cons (gs_var rfl) gs_nil))) gs_nil))) (by exact Nat.le_of_ble_eq_true rfl)) (fun d hd => ?_) (by exact Nat.le_of_ble_eq_true rfl) fun D2 ys2 G2 f2 s2' => ?_
    · refine ⟨_, rfl, L, xs, rfl, .inl (sq hLG1), _, _, rfl, rfl, ?_⟩
      exact ⟨by show 2 ≤ sizeLine; decide, fun t nt => q _ _ (same_new nt) (.tup upd_same (.cons (.str _) (.cons (.int _) .nil)))⟩
    · simp only [List.mem_cons, List.not_mem_nil, or_false] at hd
      rcases hd with rfl | rfl | rfl | rfl
      · exact bd_gn (by rw [lx])
      · exact bd_dh _
      · exact bd_dt ht1 ht2 gR _
      · exact bd_d1 _
    -- a letter behind the last
    have hLG2 := f2.s _ _ hL
    have hGD2 : G2 D2 ≠ none := by rw [f2.h]; exact fun z => by cases z
    refine ⟨_, rfl, .inl ⟨rfl, _, sq f2.h⟩, _, rfl, L, xs, rfl, .inl (sq hLG2), _, _, rfl, rfl, ?_⟩
    refine ⟨Nat.zero_le _, fun t0 nt0 => ⟨by show 4 ≤ sizeLine; decide, fun t nt => ?_⟩⟩
    have hT0 := hid_tup hGD2 nt0 (xs := []) (ds := []) .nil
    have f3 := f2.same (same_new nt0 (o := .tup []))
    have hT := hid_tup (D := D2) (by rw [f3.h]; exact fun z => by cases z) nt (.cons (.str "letter") (.cons (.int ((xs.length : Nat) + 1 : Int)) (.cons hT0 (.cons (.int 99) .nil))))
    have f4 := f3.same (same_new nt (o := .tup [.str "letter", .int ((xs.length : Nat) + 1 : Int), .ref t0, .int 99]))
    refine ⟨D2, ys2, _, rfl, rfl, f4.h, lt2 _ (by rw [f4.l]; exact Nat.le_of_ble_eq_true rfl), ?_⟩
    have f5 := f4.push hT (bd_ln (by rw [lx]))
    have f5 : Fnd (Bdn rows low) H _ D2 (ys2 ++ [.ref t]) 18 := f5
    generalize upd (upd (upd G2 t0 (.tup [])) t (.tup [.str "letter", .int ((xs.length : Nat) + 1 : Int), .ref t0, .int 99])) D2 (.lst (ys2 ++ [.ref t])) = G5 at f5
    generalize ys2 ++ [.ref t] = ys5 at f5
    clear f4 f3 hT hT0 f2 f1 fG
    -- letter by letter
    have hLG5 := f5.s _ _ hL
    refine ⟨_, rfl, L, xs, rfl, .inl (sq hLG5), xs.length, rfl, by omega, by omega, for_range (lo := 0) (n := xs.length) (fun i σ G => ∃ (D : Addr) (ys : List V) (v5 v6 v7 : Option V), σ = [some (.ref L), some (.int low), some (.int top), some (.int (maxM rows low)), some (.ref D), v5, v6, v7, none] ∧ Fnd (Bdn rows low) H G D ys (18 + 3 * i)) ?_ ?_ ?_⟩
    · exact ⟨D2, ys5, v5, v6, none, rfl, f5⟩
    · rintro i σ G hi ⟨D, ys, v5, v6, v7, rfl, fG⟩
      have hLG := fG.s _ _ hL
      have hRG := hR.same fG.s
      have hlt : i < rows.length := by omega
      obtain ⟨z, hz, hez⟩ := a2_get' hRG (List.getElem?_eq_getElem hlt)
      obtain ⟨ae, ye, rfl, hae, _⟩ := enDv hez
      have hGD : G D ≠ none := by rw [fG.h]; exact fun z => by cases z
      refine ⟨_, rfl, .inl ⟨rfl, _, sq fG.h⟩, _, rfl, _, _, rfl, rfl, Nat.zero_le _, fun t0 nt0 => ?_⟩
      have s0 := same_new nt0 (o := .tup [])
      refine ⟨_, rfl, _, rfl, L, xs, _, _, rfl, rfl, sq (s0 _ _ hLG), by rw [Int.zero_add]; exact atI_nat hz, ae, _, 2, _, rfl, rfl, st (s0 _ _ hae), atI_nat (j := 2) rfl, ?_⟩
      refine ⟨by show 4 ≤ sizeLine; decide, fun t nt => ?_⟩
      have hT0 := hid_tup hGD nt0 (xs := []) (ds := []) .nil
      have f3 := fG.same s0
      have hT := hid_tup (D := D) (by rw [f3.h]; exact fun z => by cases z) nt (.cons (.str "letter") (.cons (.int (0 + (i : Int) + 1)) (.cons hT0 (.cons (.int rows[i].m) .nil))))
      have f4 := f3.same (same_new nt (o := .tup [.str "letter", .int (0 + (i : Int) + 1), .ref t0, .int rows[i].m]))
      refine ⟨D, ys, _, rfl, rfl, f4.h, lt2 _ (by rw [f4.l]; omega), ?_⟩
      have f5 := f4.push hT (bd_lk (n := 0 + (i : Int) + 1) (e := rows[i]) (by rw [show (0 + (i : Int) + 1 - 1).toNat = i by omega]; exact List.getElem?_eq_getElem hlt))
      refine f5.cat (by omega) rfl (ds := [le (0 + (i : Int) + 1) (.tuple []) (.bool true), le (0 + (i : Int) + 1) (.str "a") (.int 99)]) (fun Q q => gsl (gs_cons (gs_tup (gs_cons (gs_str _) (gs_cons (gs_add (gs_var rfl) (gs_int _)) (gs_cons (gs_tup gs_nil) (gs_cons (gs_bl _) gs_nil))))) (gs_cons (gs_tup (gs_cons (gs_str _) (gs_cons (gs_add (gs_var rfl) (gs_int _)) (gs_cons (gs_str _) (gs_cons (gs_int _) gs_nil))))) gs_nil)) (by exact Nat.le_of_ble_eq_true rfl) _ Q q) (fun d hd => ?_) (by exact Nat.le_of_ble_eq_true rfl) fun D3 ys3 G3 f6 _ => ?_
      · simp only [List.mem_cons, List.not_mem_nil, or_false] at hd
        rcases hd with rfl | rfl
        · exact bd_lt
        · exact bd_la
      · exact ⟨D3, ys3, v5, v6, _, rfl, by rw [show 18 + 3 * (i + 1) = 18 + 3 * i + 1 + 2 by omega]; exact f6⟩
    · rintro σ G ⟨D, ys, v5, v6, v7, rfl, fG⟩
      exact ⟨_, rfl, q D ys G fG.s fG.f fG.h fG.o (by rw [fG.l]; omega)⟩
end
end K1


set_option Elab.async false
set_option linter.all false
set_option maxRecDepth 100000
set_option maxHeartbeats 8000000
/-! k23: what is told of good lists; the list of two hundred. -/
namespace K1
open PySem PySem.Spec PyProof.Rows L2 RZ StX
theorem badE_good : ∀ {rows : List En} {ah : Int}, (∀ e ∈ rows, EnG e) → (rows.map (·.n)).Pairwise (· < ·) → (∀ x ∈ rows, ah < x.n) → badE ah (rows.map enD) = none
  | [], ah, _, _, _ => rfl
  | e :: r, ah, h, u, a => by
    show (if enB (enD e) = true ∧ ah < dN (enD e) then (badE (dN (enD e)) (r.map enD)).map (· + 1) else some 0) = none
    rw [if_pos ⟨enB_ok (h e List.mem_cons_self).ok, a e List.mem_cons_self⟩, dN_en, badE_good (fun x hx => h x (List.mem_cons_of_mem _ hx)) (List.pairwise_cons.mp u).2 fun x hx => (List.pairwise_cons.mp u).1 x.n (List.mem_map.mpr ⟨x, hx, rfl⟩)]
    rfl
theorem RwG.chk {rows : List En} (g : RwG rows) : badE 0 (rows.map enD) = none := badE_good g.ok g.up fun x hx => by have := (g.ok x hx).1; omega
theorem told_rows {rows : List En} (g : RwG rows) {d e : PyData} (hd : itemsD d = rows.map enD) (hs : isSeq d = true) (es : isSeq e = true) : toldD d e = toldL rows (itemsD e) := by
  rw [told_go hs (by rw [hd]; exact g.chk), hd, map_en, toldN_go es]
theorem enW_ss {ss : List Str} (h : ss ∈ SG) : sgW (ssD ss) := (sgW_strs ((by decide +kernel : ∀ ss ∈ SG, ss.length ≤ 1000 ∧ ∀ s ∈ ss, s.length ≤ 1000) ss h)).1
theorem EnG.w {e : En} (h : EnG e) : enW (enD e) := by
  obtain ⟨_, _, ss, hs, he⟩ := h
  exact enW_tup (Nat.le_of_ble_eq_true rfl) (all3 (sgW_flat rfl) (by rw [he]; exact enW_ss hs) (sgW_flat rfl))
theorem NtG.w : ∀ {t : Nt}, NtG t → enW (ntD t)
  | .come e, ⟨_, _, ss, hs, he⟩ => enW_tup (Nat.le_of_ble_eq_true rfl) (all4 (sgW_flat rfl) (sgW_flat rfl) (by rw [he]; exact enW_ss hs) (sgW_flat rfl))
  | .letter n s m, ⟨_, _, ss, hs, he⟩ => enW_tup (Nat.le_of_ble_eq_true rfl) (all4 (sgW_flat rfl) (sgW_flat rfl) (by rw [he]; exact enW_ss hs) (sgW_flat rfl))
  | .gone n, _ => enW_tup (Nat.le_of_ble_eq_true rfl) (all2 (sgW_flat rfl) (sgW_flat rfl))
  | .done m n, _ => enW_tup (Nat.le_of_ble_eq_true rfl) (all3 (sgW_flat rfl) (sgW_flat rfl) (sgW_flat rfl))
theorem rwW_of {ds : List PyData} (h : ds.length ≤ 300) (k : ∀ d ∈ ds, enW d) : rwW (.list ds) ∧ rwW (.tuple ds) := ⟨⟨h, k⟩, ⟨h, k⟩⟩
theorem RwG.w {rows : List En} (g : RwG rows) : ∀ d ∈ rows.map enD, enW d := fun d hd => by
  obtain ⟨e, he, rfl⟩ := List.mem_map.mp hd
  exact (g.ok e he).w
theorem nts_w {ns : List Nt} (g : ∀ t ∈ ns, NtG t) : ∀ d ∈ ns.map ntD, enW d := fun d hd => by
  obtain ⟨e, he, rfl⟩ := List.mem_map.mp hd
  exact (g e he).w
/-! the list of two hundred -/
noncomputable def en200 (k : Nat) : En := ⟨2 * (k : Int) + 1, ssD ["a"], k⟩
noncomputable def rw200 : List En := (List.range 200).map en200
theorem rw200_len : rw200.length = 200 := by rw [rw200, List.length_map, List.length_range]
theorem rw200_mem {x : En} (h : x ∈ rw200) : ∃ k : Nat, k < 200 ∧ x = en200 k := by
  obtain ⟨k, hk, rfl⟩ := List.mem_map.mp h
  exact ⟨k, List.mem_range.mp hk, rfl⟩
theorem rw200_g : RwG rw200 := by
  refine ⟨fun e he => ?_, ?_⟩
  · obtain ⟨k, _, rfl⟩ := rw200_mem he
    exact ⟨by show (1 : Int) ≤ 2 * (k : Int) + 1; omega, by show (0 : Int) ≤ (k : Int); omega, ["a"], by decide +kernel, rfl⟩
  · rw [rw200, List.map_map]
    refine List.pairwise_map.mpr (List.Pairwise.imp ?_ List.pairwise_lt_range)
    intro a b h
    show 2 * (a : Int) + 1 < 2 * (b : Int) + 1
    omega
theorem gone_mem {rows : List En} {n : Int} {x : En} (h : x ∈ behN rows (.gone n)) : x ∈ rows := (List.mem_append.mp h).elim List.mem_of_mem_take List.mem_of_mem_drop
theorem gone_len {rows : List En} {n : Int} (h : 1 ≤ n) (k : n ≤ rows.length) : (behN rows (.gone n)).length = rows.length - 1 := by
  show (rows.take (n - 1).toNat ++ rows.drop n.toNat).length = _
  rw [List.length_append, List.length_take, List.length_drop]; omega
theorem let_mem {rows : List En} {n m : Int} {s : PyData} {x : En} (h : x ∈ behN rows (.letter n s m)) : x ∈ rows ∨ x = ⟨noAt rows n, s, m⟩ := by
  rcases List.mem_append.mp h with h | h
  · rcases List.mem_append.mp h with h | h
    · exact .inl (List.mem_of_mem_take h)
    · exact .inr (List.mem_singleton.mp h)
  · exact .inl (List.mem_of_mem_drop h)
theorem let_len {rows : List En} {n m : Int} {s : PyData} (h : 1 ≤ n) (k : n ≤ rows.length) : (behN rows (.letter n s m)).length = rows.length := by
  show (rows.take (n - 1).toNat ++ [_] ++ rows.drop n.toNat).length = _
  rw [List.length_append, List.length_append, List.length_take, List.length_drop]
  show _ + 1 + _ = _
  omega
noncomputable def ns5 (p : Int) : List Nt := [.gone p, .letter 199 (ssD []) 300, .gone 1, .come ⟨400, ssD ["b"], 1⟩, .done 300 401]
noncomputable def r5 (p : Int) : Nat → List En
  | 0 => rw200
  | 1 => behN rw200 (.gone p)
  | 2 => behN (behN rw200 (.gone p)) (.letter 199 (ssD []) 300)
  | 3 => behN (behN (behN rw200 (.gone p)) (.letter 199 (ssD []) 300)) (.gone 1)
  | _ => behN (behN (behN (behN rw200 (.gone p)) (.letter 199 (ssD []) 300)) (.gone 1)) (.come ⟨400, ssD ["b"], 1⟩)
theorem ns5_g {p : Int} (h : 1 ≤ p) : ∀ t ∈ ns5 p, NtG t := fun t ht => by
  simp only [ns5, List.mem_cons, List.not_mem_nil, or_false] at ht
  rcases ht with rfl | rfl | rfl | rfl | rfl
  · exact h
  · exact ⟨by decide, by decide, [], by decide +kernel, rfl⟩
  · show (1 : Int) ≤ 1; decide
  · exact ⟨by show (1 : Int) ≤ 400; decide, by show (0 : Int) ≤ 1; decide, ["b"], by decide +kernel, rfl⟩
  · exact ⟨by decide, by decide⟩
structure R5 (p : Int) : Prop where
  l1 : (r5 p 1).length = 199
  l2 : (r5 p 2).length = 199
  l3 : (r5 p 3).length = 198
  l4 : (r5 p 4).length = 199
  f0 : fitN rw200 0 (.gone p) = true
  f1 : fitN (r5 p 1) 0 (.letter 199 (ssD []) 300) = true
  f2 : fitN (r5 p 2) 0 (.gone 1) = true
  f3 : fitN (r5 p 3) 0 (.come ⟨400, ssD ["b"], 1⟩) = true
  f4 : fitN (r5 p 4) 0 (.done 300 401) = true
  g : ∀ i, RwG (r5 p i)
theorem r5_ok {p : Int} (h1 : 1 ≤ p) (h2 : p ≤ 200) : R5 p := by
  have a0 : ∀ x ∈ rw200, x.n ≤ 399 ∧ x.m ≤ 199 := fun x hx => by
    obtain ⟨k, hk, rfl⟩ := rw200_mem hx
    exact ⟨by show 2 * (k : Int) + 1 ≤ 399; omega, by show (k : Int) ≤ 199; omega⟩
  have f0 : fitN rw200 0 (.gone p) = true := decide_eq_true (by rw [rw200_len]; omega)
  have l1 : (r5 p 1).length = 199 := by show (behN rw200 (.gone p)).length = _; rw [gone_len h1 (by rw [rw200_len]; omega), rw200_len]
  have a1 : ∀ x ∈ r5 p 1, x.n ≤ 399 ∧ x.m ≤ 199 := fun x hx => a0 x (gone_mem hx)
  have g1 : RwG (r5 p 1) := rwG_beh rw200_g (t := .gone p) h1 f0
  have e1 : (r5 p 1)[(199 - 1 : Int).toNat]? = some (r5 p 1)[198] := List.getElem?_eq_getElem (by rw [l1]; decide)
  have b1 := a1 _ (List.getElem_mem (l := r5 p 1) (n := 198) (by rw [l1]; decide))
  have f1 : fitN (r5 p 1) 0 (.letter 199 (ssD []) 300) = true := (letB_some e1).trans (decide_eq_true (by omega))
  have l2 : (r5 p 2).length = 199 := by show (behN (r5 p 1) (.letter 199 (ssD []) 300)).length = _; rw [let_len (by decide) (by rw [l1]; decide), l1]
  have a2 : ∀ x ∈ r5 p 2, x.n ≤ 399 ∧ x.m ≤ 300 := fun x hx => by
    rcases let_mem (rows := r5 p 1) hx with hx | rfl
    · have := a1 x hx; omega
    · rw [noAt_some e1]; exact ⟨b1.1, by show (300 : Int) ≤ 300; decide⟩
  have g2 : RwG (r5 p 2) := rwG_beh g1 (t := .letter 199 (ssD []) 300) ⟨by decide, by decide, [], by decide +kernel, rfl⟩ f1
  have f2 : fitN (r5 p 2) 0 (.gone 1) = true := decide_eq_true (by rw [l2]; decide)
  have l3 : (r5 p 3).length = 198 := by show (behN (r5 p 2) (.gone 1)).length = _; rw [gone_len (by decide) (by rw [l2]; decide), l2]
  have a3 : ∀ x ∈ r5 p 3, x.n ≤ 399 ∧ x.m ≤ 300 := fun x hx => a2 x (gone_mem (rows := r5 p 2) hx)
  have g3 : RwG (r5 p 3) := rwG_beh g2 (t := .gone 1) (by show (1 : Int) ≤ 1; decide) f2
  have f3 : fitN (r5 p 3) 0 (.come ⟨400, ssD ["b"], 1⟩) = true := top_of fun x hx => by have := (a3 x hx).1; show x.n < 400; omega
  have l4 : (r5 p 4).length = 199 := by show (r5 p 3 ++ [_]).length = _; rw [List.length_append, l3]; rfl
  have a4 : ∀ x ∈ r5 p 4, x.n ≤ 400 ∧ x.m ≤ 300 := fun x hx => by
    rcases List.mem_append.mp (show x ∈ r5 p 3 ++ [_] from hx) with hx | hx
    · have := a3 x hx; omega
    · rw [List.mem_singleton.mp hx]; exact ⟨by show (400 : Int) ≤ 400; decide, by show (1 : Int) ≤ 300; decide⟩
  have g4 : RwG (r5 p 4) := rwG_beh g3 (t := .come ⟨400, ssD ["b"], 1⟩) (ns5_g h1 _ (by simp [ns5])) f3
  have f4 : fitN (r5 p 4) 0 (.done 300 401) = true := by
    show (topB (r5 p 4) 401 && decide (300 ≥ maxM (r5 p 4) 0)) = true
    rw [top_of fun x hx => (by have := (a4 x hx).1; omega), decide_eq_true]; rfl
    rcases List.mem_append.mp (maxM_mem (r5 p 4) 0) with hm | hm
    · obtain ⟨x, hx, ex⟩ := List.mem_map.mp hm
      have := (a4 x hx).2
      omega
    · rw [List.mem_singleton.mp hm]; decide
  refine ⟨l1, l2, l3, l4, f0, f1, f2, f3, f4, fun i => ?_⟩
  match i with
  | 0 => exact rw200_g
  | 1 => exact g1
  | 2 => exact g2
  | 3 => exact g3
  | n + 4 => exact g4
theorem run5 {p : Int} (h1 : 1 ≤ p) (h2 : p ≤ 200) : runA (rw200, 0) ((ns5 p).map ntD) = some (r5 p 4, 300) := by
  have r := r5_ok h1 h2
  have g := ns5_g h1
  show runA (rw200, 0) [ntD (.gone p), ntD (.letter 199 (ssD []) 300), ntD (.gone 1), ntD (.come ⟨400, ssD ["b"], 1⟩), ntD (.done 300 401)] = _
  refine (runA_good (stA_ok (s := (rw200, 0)) (g (.gone p) (by simp [ns5])).ok r.f0)).trans ?_
  refine (runA_good (stA_ok (s := (r5 p 1, 0)) (g (.letter 199 (ssD []) 300) (by simp [ns5])).ok r.f1)).trans ?_
  refine (runA_good (stA_ok (s := (r5 p 2, 0)) (g (.gone 1) (by simp [ns5])).ok r.f2)).trans ?_
  refine (runA_good (stA_ok (s := (r5 p 3, 0)) (g (.come ⟨400, ssD ["b"], 1⟩) (by simp [ns5])).ok r.f3)).trans ?_
  refine (runA_good (stA_ok (s := (r5 p 4, 0)) (g (.done 300 401) (by simp [ns5])).ok r.f4)).trans ?_
  rfl
theorem bad_of_run {s s' : List En × Int} {ds : List PyData} (h : runA s ds = some s') : badA s ds = none := by
  have := badA_split (es := []) h
  rw [List.append_nil] at this
  exact this
theorem told5 {p : Int} (h1 : 1 ≤ p) (h2 : p ≤ 200) : toldD (.list (rw200.map enD)) (.list ((ns5 p).map ntD)) = .list ((r5 p 4).map enD) := by
  rw [told_rows rw200_g rfl rfl rfl]
  exact toldL_ok (bad_of_run (run5 h1 h2)) (run5 h1 h2)
theorem told6 {p : Int} (h1 : 1 ≤ p) (h2 : p ≤ 200) : toldD (.list (rw200.map enD)) (.list ((ns5 p).map ntD ++ [ntD (.gone 200)])) = notE 5 := by
  rw [told_rows rw200_g rfl rfl rfl]
  have r := r5_ok h1 h2
  have hs : stA (r5 p 4, 300) (ntD (.gone 200)) = none := by
    have := stA_fit (s := (r5 p 4, 300)) (d := ntD (.gone 200))
    rw [fitB_bad (t := .gone 200) fun _ => decide_eq_false (by rw [r.l4]; decide)] at this
    cases h : stA (r5 p 4, 300) (ntD (.gone 200)) with
    | none => rfl
    | some x => rw [h] at this; cases this
  exact toldL_bad (by show badA _ ((ns5 p).map ntD ++ [ntD (.gone 200)]) = _; rw [badA_split (run5 h1 h2), badA_bad hs]; rfl)
end K1


set_option Elab.async false
set_option linter.all false
set_option maxRecDepth 100000
set_option maxHeartbeats 8000000
/-! k23: _law_long_right. -/
namespace K1
open PySem PySem.Spec PyProof.Rows L2 RZ StX
theorem r5_step {p : Int} (h1 : 1 ≤ p) (h2 : p ≤ 200) {i : Nat} {t : Nt} (h : (ns5 p)[i]? = some t) : fitN (r5 p i) 0 t = true ∧ behN (r5 p i) t = r5 p (i + 1) ∧ (r5 p i).length ≤ 200 ∧ NtG t := by
  have r := r5_ok h1 h2
  have g := ns5_g h1
  match i, h with
  | 0, h => cases h; exact ⟨r.f0, rfl, by show rw200.length ≤ _; rw [rw200_len]; decide, g _ (by simp [ns5])⟩
  | 1, h => cases h; exact ⟨r.f1, rfl, by rw [r.l1]; decide, g _ (by simp [ns5])⟩
  | 2, h => cases h; exact ⟨r.f2, rfl, by rw [r.l2]; decide, g _ (by simp [ns5])⟩
  | 3, h => cases h; exact ⟨r.f3, rfl, by rw [r.l3]; decide, g _ (by simp [ns5])⟩
  | 4, h => cases h; exact ⟨r.f4, rfl, by rw [r.l4]; decide, g _ (by simp [ns5])⟩
  | i + 5, h => cases h
theorem gs5 {σ : L2.St} {p : Int} (h : σ[4]? = some (some (.int p))) : GsA (tCons (tTup (tCons (tC (.str "gone")) (tCons (tVar 4) tNil))) (tCons (tTup (tCons (tC (.str "letter")) (tCons (tC (.int 199)) (tCons (tTup tNil) (tCons (tC (.int 300)) tNil))))) (tCons (tTup (tCons (tC (.str "gone")) (tCons (tC (.int 1)) tNil))) (tCons (tTup (tCons (tC (.str "come")) (tCons (tC (.int 400)) (tCons (tTup (tCons (tC (.str "b")) tNil)) (tCons (tC (.int 1)) tNil))))) (tCons (tTup (tCons (tC (.str "done")) (tCons (tC (.int 300)) (tCons (tC (.int 401)) tNil)))) tNil))))) σ ((ns5 p).map ntD) :=
  gs_cons (gs_tup (gs_cons (gs_str _) (gs_cons (gs_var h) gs_nil))) (gs_cons (gs_tup (gs_cons (gs_str _) (gs_cons (gs_int _) (gs_cons (gs_tup gs_nil) (gs_cons (gs_int _) gs_nil))))) (gs_cons (gs_tup (gs_cons (gs_str _) (gs_cons (gs_int _) gs_nil))) (gs_cons (gs_tup (gs_cons (gs_str _) (gs_cons (gs_int _) (gs_cons (gs_tup (gs_cons (gs_str _) gs_nil)) (gs_cons (gs_int _) gs_nil))))) (gs_cons (gs_tup (gs_cons (gs_str _) (gs_cons (gs_int _) (gs_cons (gs_int _) gs_nil)))) gs_nil))))
theorem nts_tO : ∀ {ns : List Nt}, (∀ t ∈ ns, NtG t) → tOA (ns.map ntD) = true
  | [], _ => rfl
  | t :: r, h => by
    show (tO (ntD t) && tOA (r.map ntD)) = true
    rw [(h t List.mem_cons_self).tO, nts_tO fun x hx => h x (List.mem_cons_of_mem _ hx)]; rfl
theorem lay_note (i : Int) : LayD 1 (notE i) := .tup (.cons (.str (by decide +kernel)) (.cons (.int _) .nil))
theorem lay_rowe (i : Int) : LayD 1 (rowE i) := .tup (.cons (.str (by decide +kernel)) (.cons (.int _) .nil))
abbrev sLr : Stmt := st__law_long_right
abbrev nLr : List Str := ["_law_well_here", "_law_entries_here", "_law_notices", "_law_found", "_law_place", "_law_row", "_law_notice_here", "_law_k"]
abbrev pLr : List Str := ["_law_well_here"]
theorem scLr : FnScope nLr pLr (defScope sLr) := ⟨rfl, rfl, rfl, by decide +kernel, rfl, by decide +kernel, by decide +kernel⟩
def spLr : Sp := fun vs H Q _ => ∃ (p : Addr) (k : Nat), vs = [.ref p] ∧ WellT H p k ∧ k ≤ 80000 ∧ ∀ H', Ext p H H' → WellT H' p (k + 1) → Q (.bl true) H'
theorem tu_lst {N : Addr} {H G : Hp} {xs : List V} (h : H N = some (.lst xs)) (e : Ext N H G) : TU H G := fun x ys k => e _ _ (fun z => by rw [z, h] at k; cases k) k
section
variable {P : Program} {w : World} {K : PySem.W.Frag} {mg : Str → Option Value} {base : Heap}
set_option maxHeartbeats 32000000 in
theorem ok_lr {f : Addr} {fd : FuncData} (T : Bj mg) (D_draw : Def P w K mg base CX0 1 "_law_draw" pDraw spDraw) (D_behind : Def P w K mg base CX0 1 "_law_behind" pLb spLb) (D_told : Def P w K mg base CX0 6 "_law_told" pTo spTo) (F : Fun K "_law_long_right" "_law_long_right" sLr f fd) : FnOk P w K mg base CX0 7 f fd pLr spLr := by
  have nd := scLr.nd
  refine F.ok scLr (fun vs H Q E h => ?_) (fun cdv A outer s H vs Q E hr h => ?_)
  · obtain ⟨p, k, rfl, _⟩ := h
    rfl
  · obtain ⟨p, k, rfl, hw, hk, q⟩ := h
    refine ⟨_, (pss_cons (ps_par (i := 1) (j := 2) (by rfl) nd rfl rfl (by decide) rfl rfl (pa_cons (pe_lc (own := [("_law_k", 7)]) (g := gName 7) (tt := tYes) rfl nd (pi_range1 rfl T.range (pa_cons pe_int pa_nil)) (blkOk_by (own := [("_law_k", 7)]) (N := nLr) (sc := defScope sLr) (by decide +kernel)) (fun _ _ _ _ _ => pg_name (i := 7) nd rfl (Or.inl rfl)) (fun _ _ _ _ _ => pts_nil) (fun _ _ _ _ _ => (pe_tup (pa_cons (pe_op op_add (pe_op op_mul pe_int (pv 7)) pe_int) (pa_cons (pe_tup (pa_cons pe_str pa_nil)) (pa_cons (pv 7) pa_nil)))))) (pa_cons (pe_lst pa_nil) pa_nil)) (by rfl))
 (pss_cons (ps_par (i := 3) (j := 4) (by rfl) nd rfl rfl (by decide) rfl rfl (pa_cons (pe_callTy (call_list_ofK (K := K) rfl) (by rfl) T.list PyProof.Rows.boot_list (pa_cons (pv 1) pa_nil)) (pa_cons (pe_op op_add pe_int (pe_def D_draw (hr.mono (by decide)) rfl pass0 (pa_cons (pv 0) (pa_cons pe_int pa_nil)))) pa_nil)) (by rfl))
 (pss_cons (ps_set (i := 5) nd rfl (Or.inl rfl) (pe_lst (pa_cons (pe_tup (pa_cons pe_str (pa_cons (pv 4) pa_nil))) (pa_cons (pe_tup (pa_cons pe_str (pa_cons pe_int (pa_cons (pe_tup pa_nil) (pa_cons pe_int pa_nil))))) (pa_cons (pe_tup (pa_cons pe_str (pa_cons pe_int pa_nil))) (pa_cons (pe_tup (pa_cons pe_str (pa_cons pe_int (pa_cons (pe_tup (pa_cons pe_str pa_nil)) (pa_cons pe_int pa_nil))))) (pa_cons (pe_tup (pa_cons pe_str (pa_cons pe_int (pa_cons pe_int pa_nil)))) pa_nil)))))))
 (pss_cons (ps_for PassesOwn.never rfl (pi_listK (K := K) rfl (pv 5)) (pg_name (i := 6) nd rfl (Or.inl rfl))
  (pss_cons (ps_expr (pe_bm PySem.F.plainAttrs_list PySem.F.slot_list_append PySem.F.type_list_append mt_append (pv 2) (pa_cons (pv 6) pa_nil)))
 (pss_one (ps_set (i := 3) nd rfl (Or.inl rfl) (pe_def D_behind (hr.mono (by decide)) rfl pass0 (pa_cons (pv 3) (pa_cons (pv 6) pa_nil)))))))
 (pss_cons (ps_if (pt_cmpR (op_neDK (K := K) rfl hr.units) (pe_def D_told (hr.mono (by decide)) rfl pass0 (pa_cons (pv 1) (pa_cons (pv 2) pa_nil))) (pv 3) (nomark _))
  (pss_one (ps_ret pe_bl))
  pss_nil)
 (pss_one (ps_ret (pe_cmpR (op_eqDK (K := K) rfl hr.units) (pe_def D_told (hr.mono (by decide)) rfl pass0 (pa_cons (pv 1) (pa_cons (pe_op op_cat (pv 2) (pe_lst (pa_cons (pe_tup (pa_cons pe_str (pa_cons pe_int pa_nil))) pa_nil))) pa_nil))) (pe_tup (pa_cons pe_str (pa_cons pe_int pa_nil))) (nomark _))))))))), ?_⟩
    refine ⟨200, rfl, by decide, by decide, fun E0 nE => ?_⟩
    refine lc_it walk_range (fun i G => Same H G ∧ ∃ acc, G E0 = some (.lst acc) ∧ acc.length = i ∧ RwA G acc ((List.range i).map en200)) ⟨same_new nE, [], upd_same, rfl, .nil⟩ (fun _ _ _ _ => trivial) ?_ ?_
    · rintro i x G' G hi ⟨s1, acc, hacc, la, hR⟩ ⟨rfl, rfl⟩
      refine ⟨rfl, tyes ⟨_, rfl, _, _, rfl, rfl, .inl ⟨by decide, by decide⟩, _, _, rfl, rfl, by show 1 ≤ sizeLine; decide, fun t0 nt0 => ⟨_, rfl, by show 3 ≤ sizeLine; decide, fun t nt => ?_⟩⟩⟩
      have s2 := same_new nt0 (o := .tup [.str "a"])
      have s3 := s2.trans (same_new nt (o := .tup [.int (2 * (0 + (i : Int)) + 1), .ref t0, .int (0 + (i : Int))]))
      refine ⟨acc, s3 _ _ hacc, lt2 _ (by rw [la]; omega), (s1.trans s3).mut nE, _, upd_same, by rw [List.length_append, la]; rfl, ?_⟩
      have h3 := s3 _ _ hacc
      have neE : ∀ {b : Addr} {ys : List V}, (upd (upd G t0 (.tup [.str "a"])) t (.tup [.int (2 * (0 + (i : Int)) + 1), .ref t0, .int (0 + (i : Int))])) b = some (.tup ys) → b ≠ E0 := fun h z => by rw [z, h3] at h; cases h
      have tm : TU (upd (upd G t0 (.tup [.str "a"])) t (.tup [.int (2 * (0 + (i : Int)) + 1), .ref t0, .int (0 + (i : Int))])) (upd (upd (upd G t0 (.tup [.str "a"])) t (.tup [.int (2 * (0 + (i : Int)) + 1), .ref t0, .int (0 + (i : Int))])) E0 (.lst (acc ++ [.ref t]))) := TU.mut h3 fun _ z => by cases z
      rw [List.range_succ, List.map_append]
      refine A2.app ?_ (.cons ?_ .nil)
      · refine RwA.tu ((TU.same s3).trans tm) hR fun e he => ?_
        obtain ⟨k, hk, rfl⟩ := List.mem_map.mp he
        exact rw200_g.ok _ (List.mem_map.mpr ⟨k, List.mem_range.mpr (by have := List.mem_range.mp hk; omega), rfl⟩)
      · have ht0 : (upd (upd G t0 (.tup [.str "a"])) t (.tup [.int (2 * (0 + (i : Int)) + 1), .ref t0, .int (0 + (i : Int))])) t0 = some (.tup [.str "a"]) := same_new nt _ _ upd_same
        have hd : Dv (upd (upd G t0 (.tup [.str "a"])) t (.tup [.int (2 * (0 + (i : Int)) + 1), .ref t0, .int (0 + (i : Int))])) (.ref t) (enD (en200 i)) := by
          have ez : (0 : Int) + (i : Int) = i := by omega
          exact dvEn (e := en200 i) (y := .ref t0) (by rw [upd_same, ez]; rfl) (.tup ht0 (.cons (.str _) .nil))
        exact hd.tu tm (EnG.tO (rw200_g.ok _ (List.mem_map.mpr ⟨i, List.mem_range.mpr hi, rfl⟩)))
    rintro G ⟨sG, acc, hE, la, hRE⟩
    refine ⟨Nat.zero_le _, fun N nN => ⟨_, _, rfl, ?_⟩⟩
    have sN := same_new nN (o := .lst ([] : List V))
    have hN1 : (upd G N (.lst ([] : List V))) N = some (.lst []) := upd_same
    have hE1 := sN _ _ hE
    have hR1 : RwA (upd G N (.lst ([] : List V))) acc rw200 := RwA.same hRE sN
    have s1 := sG.trans sN
    have nNH := sG.free nN
    have nEN : E0 ≠ N := fun z => by rw [z, nN] at hE; cases hE
    clear hRE
    generalize upd G N (.lst ([] : List V)) = H1 at sN hN1 hE1 hR1 s1
    refine ⟨_, rfl, E0, acc, rfl, .inl (sq hE1), fun F0 nF => ?_⟩
    have sF := same_new nF (o := .lst acc)
    have hF2 : (upd H1 F0 (.lst acc)) F0 = some (.lst acc) := upd_same
    have hE2 := sF _ _ hE1
    have hN2 := sF _ _ hN1
    have hR2 := hR1.same sF
    have s2 := s1.trans sF
    have nFH := s1.free nF
    have nFN : F0 ≠ N := fun z => by rw [z, hN1] at nF; cases nF
    generalize upd H1 F0 (.lst acc) = H2 at sF hF2 hE2 hN2 hR2 s2
    have w2 := hw.same s2
    refine ⟨_, rfl, p, 200, k, rfl, w2, by omega, by decide, by decide, fun d H3 d0 d1 e3 w3 => ⟨_, _, rfl, rfl, _, _, rfl, ?_⟩⟩
    have pN : N ≠ p := hw.ne nNH
    have pE : E0 ≠ p := hw.ne nE
    have pF : F0 ≠ p := hw.ne nFH
    have hE3 := e3 _ _ pE hE2
    have hN3 := e3 _ _ pN hN2
    have hF3 := e3 _ _ pF hF2
    have hR3 := RwA.tu (TU.w w2 e3) hR2 rw200_g.ok
    have e03 := (same_ext s2).trans e3
    clear hR2 hR1 hE2 hE1 hN2 hN1 hF2 w2 e3 s2
    obtain ⟨pl, hpl⟩ : ∃ pl : Int, pl = 1 + d := ⟨_, rfl⟩
    have h1 : (1 : Int) ≤ pl := by omega
    have h2 : pl ≤ 200 := by omega
    refine nx_mk (asg_go ?_)
    refine gsl (gs5 (p := pl) (by rw [hpl]; rfl)) (by exact Nat.le_of_ble_eq_true rfl) H3 _ fun R rs H4 s4 nR hR4 hA4 => ?_
    refine nm_go (for_go ?_)
    have e04 := e03.trans (same_ext s4)
    have w4 := w3.same s4
    have hE4 := s4 _ _ hE3
    have hN4 := s4 _ _ hN3
    have hF4 := s4 _ _ hF3
    have hRw4 := hR3.same s4
    have nRN : R ≠ N := fun z => by rw [z, hN3] at nR; cases nR
    have lr := hA4.len
    rw [List.length_map] at lr
    refine ⟨_, rfl, R, rfl, ⟨_, sq hR4⟩, for_list (K := K) (a := R) (xs := rs) (fun i σ G => ∃ (F1 : Addr) (fs ns : List V) (v6 : Option V), σ = [some (.ref p), some (.ref E0), some (.ref N), some (.ref F1), some (.int pl), some (.ref R), v6, none] ∧ Ext N H4 G ∧ G N = some (.lst ns) ∧ DvA G ns (((ns5 pl).take i).map ntD) ∧ G F1 = some (.lst fs) ∧ F1 ≠ N ∧ RwA G fs (r5 pl i)) ?_ ?_ ?_ ?_⟩
    · exact ⟨F0, acc, [], none, by rw [hpl]; rfl, Ext.refl _, hN4, .nil, hF4, nFN, hRw4⟩
    · rintro i σ G _ ⟨F1, fs, ns, v6, rfl, eG, _⟩
      exact sq (eG _ _ nRN hR4)
    · rintro i x σ G hx ⟨F1, fs, ns, v6, rfl, eG, hNG, hnA, hFG, nF1, hRG⟩
      obtain ⟨t, ht, hv⟩ : ∃ t, (ns5 pl)[i]? = some t ∧ Dv H4 x (ntD t) := by
        obtain ⟨d', hd', hv⟩ := hA4.get hx
        rw [List.getElem?_map] at hd'
        cases hq : (ns5 pl)[i]? with
        | none => rw [hq] at hd'; cases hd'
        | some t => rw [hq] at hd'; cases hd'; exact ⟨t, rfl, hv⟩
      obtain ⟨hfit, hbe, hlen, hg⟩ := r5_step h1 h2 ht
      have tG := tu_lst hN4 eG
      have hvG := hv.tu tG hg.tO
      have gns : ∀ t ∈ (ns5 pl).take i, NtG t := fun t ht => ns5_g h1 t (List.mem_of_mem_take ht)
      refine ⟨_, rfl, .inl ⟨rfl, _, sq hNG⟩, _, rfl, N, ns, x, rfl, rfl, hNG, lt2 _ (by have := hnA.len; rw [List.length_map, List.length_take] at this; have e5 : (ns5 pl).length = 5 := rfl; omega), ?_⟩
      have tm : TU G (upd G N (.lst (ns ++ [x]))) := TU.mut hNG fun _ z => by cases z
      have hN5 : (upd G N (.lst (ns ++ [x]))) N = some (.lst (ns ++ [x])) := upd_same
      have e5 := eG.self (o := .lst (ns ++ [x]))
      have hF5 : (upd G N (.lst (ns ++ [x]))) F1 = some (.lst fs) := by rw [upd_ne nF1]; exact hFG
      have hA5 : DvA (upd G N (.lst (ns ++ [x]))) (ns ++ [x]) (((ns5 pl).take (i + 1)).map ntD) := by
        rw [take_more ht, List.map_append]
        exact (hnA.tu tm (nts_tO gns)).app (.cons (hvG.tu tm hg.tO) .nil)
      have hR5 := RwA.tu tm hRG ((r5_ok h1 h2).g i).ok
      generalize upd G N (.lst (ns ++ [x])) = G5 at tm hN5 e5 hF5 hA5 hR5
      refine ⟨_, rfl, _, rfl, F1, fs, r5 pl i, 0, x, t, rfl, hF5, hR5, by omega, hvG.tu tm hg.tO, hg.ok, hfit, fun c ys G6 s6 hc6 hy6 hR6 => ?_⟩
      rw [hbe] at hR6
      refine ⟨c, ys, _, _, rfl, e5.trans (same_ext s6), s6 _ _ hN5, hA5.same s6, hy6, ?_, hR6⟩
      rcases hc6 with rfl | hc6
      · exact nF1
      · exact fun z => by rw [z, hN5] at hc6; cases hc6
    · rintro σ G ⟨F1, fs, ns, v6, rfl, eG, hNG, hnA, hFG, nF1, hRG⟩
      have e5 : (ns5 pl).length = 5 := rfl
      have el : rs.length = 5 := by omega
      rw [el, show (ns5 pl).take 5 = ns5 pl from rfl] at hnA
      have hRG : RwA G fs (r5 pl 4) := by rw [el] at hRG; exact hRG
      have r := r5_ok h1 h2
      have tG := tu_lst hN4 eG
      have hEG := eG _ _ nEN hE4
      have hRE := RwA.tu tG hRw4 rw200_g.ok
      have w200 : rwW (.list (rw200.map enD)) := (rwW_of (by rw [List.length_map, rw200_len]; decide) rw200_g.w).1
      have lxs := hRE.len
      have hDE : Dv G (.ref E0) (.list (rw200.map enD)) := .lst hEG (of_rwA hRE)
      have hDN : Dv G (.ref N) (.list ((ns5 pl).map ntD)) := .lst hNG hnA
      have wG := w4.keep fun o ho => eG _ _ pN.symm ho
      have eHG : Ext p H G := fun b o nb hb => eG b o (fun z => by rw [z, nNH] at hb; cases hb) (e04 b o nb hb)
      refine ⟨_, rfl, _, rfl, .ref E0, .ref N, _, _, rfl, hDE, hDN, w200, (rwW_of (by rw [List.length_map, e5]; decide) (nts_w (ns5_g h1))).1, fun x G2 s7 hx => ⟨_, rfl, ?_⟩⟩
      rw [told5 h1 h2] at hx
      refine ne_same (lay_rows (r.g 4)) hx ((Dv.lst hFG (of_rwA hRG)).same s7) ⟨_, rfl, itbF rfl ?_⟩
      have hN7 := s7 _ _ hNG
      refine ⟨_, rfl, _, rfl, by show 2 ≤ sizeLine; decide, fun t nt => ⟨by show 1 ≤ sizeLine; decide, fun L nL => ?_⟩⟩
      have s8 := same_new nt (o := .tup [.str "gone", .int 200])
      have ht8 : (upd G2 t (.tup [.str "gone", .int 200])) t = some (.tup [.str "gone", .int 200]) := upd_same
      generalize upd G2 t (.tup [.str "gone", .int 200]) = G8 at s8 ht8 nL
      have s9 := same_new nL (o := .lst [.ref t])
      have hL9 : (upd G8 L (.lst [.ref t])) L = some (.lst [.ref t]) := upd_same
      generalize upd G8 L (.lst [.ref t]) = G9 at s9 hL9
      have s79 := (s7.trans s8).trans s9
      have ln := hnA.len
      rw [List.length_map, e5] at ln
      refine cat_go ((s8.trans s9) _ _ hN7) hL9 (by rw [ln]; exact Nat.le_of_ble_eq_true rfl) fun M G10 s10 _ hM => ?_
      have s710 := s79.trans s10
      have hDM : Dv G10 (.ref M) (.list ((ns5 pl).map ntD ++ [ntD (.gone 200)])) := .lst hM ((hnA.same s710).app (.cons (.tup ((s9.trans s10) _ _ ht8) (.cons (.str _) (.cons (.int _) .nil))) .nil))
      refine ⟨.ref E0, .ref M, _, _, rfl, hDE.same s710, hDM, w200, (rwW_of (by rw [List.length_append, List.length_map, e5]; decide) fun d' hd' => ?_).1, fun y G11 s11 hy => ⟨by show 2 ≤ sizeLine; decide, fun u nu => ?_⟩⟩
      · rcases List.mem_append.mp hd' with hd' | hd'
        · exact nts_w (ns5_g h1) d' hd'
        · rw [List.mem_singleton.mp hd']
          exact NtG.w (t := .gone 200) (by show (1 : Int) ≤ 200; decide)
      rw [told6 h1 h2] at hy
      have s12 := same_new nu (o := .tup [.str "notice", .int 5])
      refine eq_same (lay_note 5) (hy.same s12) (pair_dv nu) ?_
      have sA := (s710.trans s11).trans s12
      exact q _ (eHG.trans (same_ext sA)) (wG.same sA)
end
end K1


set_option Elab.async false
set_option linter.all false
set_option maxRecDepth 100000
set_option maxHeartbeats 2000000
namespace K1
open PySem PySem.Spec PyProof.Rows L2 RZ StX
/-! ### methods -/
structure MDef (P : Program) (w : World) (K : PySem.W.Frag) (mg : Str → Option Value) (base : Heap) (CX : CXT) (k : Nat) (C : Addr) (m : Str) (ps : List Str) (sp : Sp) : Prop where
  ex : ∃ (f : Addr) (fd : FuncData), Meth K C m f ∧ Binds K fd ps [] ∧ FnOk P w K mg base CX k f fd ps sp
section
variable {X : Cx} {CX : CXT} {k : Nat} {ps : List Str} {sp : Sp} {E : XK} {m : Str} {pos apos : Pos} {o e : Expr} {es : List Expr} {ta : TE} {t : TA} {C : Addr}
theorem pe_mdef {pl : Sem Bool} (D : MDef X.prog X.w X.K X.mg X.base CX k C m ps sp) (c : Cls X.K C) (hr : Room k X.A) (hx : Passes CX X E) (he : PE X o ta) (ha : PA X (e :: es) t)
    (hst : starEach (e :: es) X.env = (false, eval e X.env) :: starEach es X.env := by rfl) (hpl : (backTo pos (starEach es X.env)).any (·.1) = false := by rfl)
    (ht : eval (.Call (.Attribute o m apos) (e :: es) [] pos) X.env = (do
      let ov ← eval o X.env
      standAt apos.atName
      let (f, first) ← holding [ov] (getMethod ov m pl)
      callWith pos f first (backTo pos (starEach (e :: es) X.env)) (backToKw pos (keywordEach [] X.env))) := by rfl) :
    PE X (.Call (.Attribute o m apos) (e :: es) [] pos) (tMeth C m sp [] E ta t) := by
  obtain ⟨f, fd, hm, hb, F⟩ := D.ex
  exact pe_meth he c hm F hr hb .nil hx ha hst hpl ht
theorem pe_mdef0 {pl : Sem Bool} (D : MDef X.prog X.w X.K X.mg X.base CX k C m ps sp) (c : Cls X.K C) (hr : Room k X.A) (hx : Passes CX X E) (he : PE X o ta)
    (ht : eval (.Call (.Attribute o m apos) [] [] pos) X.env = (do
      let ov ← eval o X.env
      standAt apos.atName
      let (f, first) ← holding [ov] (getMethod ov m pl)
      callWith pos f first (backTo pos (starEach [] X.env)) (backToKw pos (keywordEach [] X.env))) := by rfl) :
    PE X (.Call (.Attribute o m apos) [] [] pos) (tMeth C m sp [] E ta tNil) := by
  obtain ⟨f, fd, hm, hb, F⟩ := D.ex
  exact pe_meth0 he c hm F hr hb .nil hx ht
end
/-! ### folders -/
def flds (a l n m g c : V) : List (Str × V) := [("_age", a), ("_letters", l), ("_next_number", n), ("_mark", m), ("_gone", g), ("_cut", c)]
section
variable {a l n m g c y : V}
theorem fl_age : (flds a l n m g c).lookup ("_age" : Str) = some a := by rfl
theorem fl_let : (flds a l n m g c).lookup ("_letters" : Str) = some l := by rfl
theorem fl_nx : (flds a l n m g c).lookup ("_next_number" : Str) = some n := by rfl
theorem fl_mk : (flds a l n m g c).lookup ("_mark" : Str) = some m := by rfl
theorem fl_gone : (flds a l n m g c).lookup ("_gone" : Str) = some g := by rfl
theorem fl_cut : (flds a l n m g c).lookup ("_cut" : Str) = some c := by rfl
theorem fl_no {x : Str} (h : (["_age", "_letters", "_next_number", "_mark", "_gone", "_cut"] : List Str).all (fun z => !(x == z)) = true) : (flds a l n m g c).lookup x = none := by
  simp only [List.all_cons, List.all_nil, Bool.and_eq_true, Bool.not_eq_true'] at h
  obtain ⟨h1, h2, h3, h4, h5, h6, _⟩ := h
  unfold flds
  simp only [List.lookup, h1, h2, h3, h4, h5, h6]
theorem pu_let : putF "_letters" y (flds a l n m g c) = flds a y n m g c := by rfl
theorem pu_nx : putF "_next_number" y (flds a l n m g c) = flds a l y m g c := by rfl
theorem pu_mk : putF "_mark" y (flds a l n m g c) = flds a l n y g c := by rfl
theorem pu_gone : putF "_gone" y (flds a l n m g c) = flds a l n m y c := by rfl
theorem pu_cut : putF "_cut" y (flds a l n m g c) = flds a l n m g y := by rfl
theorem pu_all : putF "_cut" c (putF "_gone" g (putF "_mark" m (putF "_next_number" n (putF "_letters" l (putF "_age" a []))))) = flds a l n m g c := by rfl
end
structure Lt where
  n : Int
  b : Int
  s : List Str
  m : Int
structure Fo where
  age : Int
  ls : List Lt
  nx : Int
  mr : Int
  go : List (Int × Int)
  ct : Int
def ltD (l : Lt) : PyData := .tuple [.int l.n, .int l.b, .tuple (l.s.map PyData.str), .int l.m]
def goD (g : Int × Int) : PyData := .tuple [.int g.1, .int g.2]
def lsD (ls : List Lt) : PyData := .tuple (ls.map ltD)
def gsD (go : List (Int × Int)) : PyData := .tuple (go.map goD)
def FoAt (C : Addr) (H : Hp) (p : Addr) (F : Fo) : Prop := ∃ dx tl tg, H p = some (.ins C dx (flds (.int F.age) (.ref tl) (.int F.nx) (.int F.mr) (.ref tg) (.int F.ct))) ∧ Dv H (.ref tl) (lsD F.ls) ∧ Dv H (.ref tg) (gsD F.go)
theorem FoAt.same {C p : Addr} {H H' : Hp} {F : Fo} (h : FoAt C H p F) (s : Same H H') : FoAt C H' p F := let ⟨dx, tl, tg, a, b, c⟩ := h; ⟨dx, tl, tg, s _ _ a, b.same s, c.same s⟩
/-- what the class must have -/
structure ClT (K : PySem.W.Frag) (mg : Str → Option Value) (C : Addr) : Prop where
  cl : Cls K C
  gC : mg "Folder" = some (.ref C)
  nA : NoAttr K C "_age"
  nL : NoAttr K C "_letters"
  nN : NoAttr K C "_next_number"
  nM : NoAttr K C "_mark"
  nG : NoAttr K C "_gone"
  nC : NoAttr K C "_cut"
def mS (i : Nat) : Stmt := inClass st_Folder i
abbrev sInit : Stmt := mS 0
abbrev sLetters : Stmt := mS 3
abbrev sNext : Stmt := mS 4
abbrev sMark : Stmt := mS 5
abbrev sGone : Stmt := mS 6
abbrev sApp : Stmt := mS 8
abbrev sCopied : Stmt := mS 14
abbrev nInit : List Str := ["self", "age"]
theorem scInit : FnScope nInit nInit (defScope sInit) := ⟨rfl, rfl, rfl, by decide +kernel, rfl, by decide +kernel, by decide +kernel⟩
abbrev nSelf : List Str := ["self"]
theorem scLetters : FnScope nSelf nSelf (defScope sLetters) := ⟨rfl, rfl, rfl, by decide +kernel, rfl, by decide +kernel, by decide +kernel⟩
theorem scNext : FnScope nSelf nSelf (defScope sNext) := ⟨rfl, rfl, rfl, by decide +kernel, rfl, by decide +kernel, by decide +kernel⟩
theorem scMark : FnScope nSelf nSelf (defScope sMark) := ⟨rfl, rfl, rfl, by decide +kernel, rfl, by decide +kernel, by decide +kernel⟩
theorem scGone : FnScope nSelf nSelf (defScope sGone) := ⟨rfl, rfl, rfl, by decide +kernel, rfl, by decide +kernel, by decide +kernel⟩
abbrev nApp : List Str := ["self", "body", "signs", "folder"]
abbrev pApp : List Str := ["self", "body", "signs"]
theorem scApp : FnScope nApp pApp (defScope sApp) := ⟨rfl, rfl, rfl, by decide +kernel, rfl, by decide +kernel, by decide +kernel⟩
abbrev nCopied : List Str := ["self", "folder"]
theorem scCopied : FnScope nCopied nSelf (defScope sCopied) := ⟨rfl, rfl, rfl, by decide +kernel, rfl, by decide +kernel, by decide +kernel⟩
def fNew (a : Int) : Fo := ⟨a, [], 1, 0, [], 0⟩
def spInit (C : Addr) : Sp := fun vs H Q _ => ∃ (p dx : Addr) (a : Int), vs = [.ref p, .int a] ∧ H p = some (.ins C dx []) ∧ 1 ≤ a ∧
  ∀ H' tl tg, (∀ b o, b ≠ p → H b = some o → H' b = some o) → H' p = some (.ins C dx (flds (.int a) (.ref tl) (.int 1) (.int 0) (.ref tg) (.int 0))) → H' tl = some (.tup []) → H' tg = some (.tup []) → Q .non H'
def spLetters (C : Addr) : Sp := fun vs H Q _ => ∃ (p : Addr) (F : Fo), vs = [.ref p] ∧ FoAt C H p F ∧ ∀ l H', Same H H' → H l = none → Dv H' (.ref l) (.list (F.ls.map ltD)) → Q (.ref l) H'
def spGone (C : Addr) : Sp := fun vs H Q _ => ∃ (p : Addr) (F : Fo), vs = [.ref p] ∧ FoAt C H p F ∧ ∀ l H', Same H H' → H l = none → Dv H' (.ref l) (.list (F.go.map goD)) → Q (.ref l) H'
def spNext (C : Addr) : Sp := fun vs H Q _ => ∃ (p : Addr) (F : Fo), vs = [.ref p] ∧ FoAt C H p F ∧ Q (.int F.nx) H
def spMark (C : Addr) : Sp := fun vs H Q _ => ∃ (p : Addr) (F : Fo), vs = [.ref p] ∧ FoAt C H p F ∧ Q (.int F.mr) H
def spCopied (C : Addr) : Sp := fun vs H Q _ => ∃ (p dx tl tg : Addr) (a n m c : Int), vs = [.ref p] ∧ H p = some (.ins C dx (flds (.int a) (.ref tl) (.int n) (.int m) (.ref tg) (.int c))) ∧ 1 ≤ a ∧
  ∀ q dq H', Same H H' → H q = none → H' q = some (.ins C dq (flds (.int a) (.ref tl) (.int n) (.int m) (.ref tg) (.int c))) → Q (.ref q) H'
def fApp (F : Fo) (b : Int) (s : List Str) : Fo := { F with ls := F.ls ++ [⟨F.nx, b, s, F.mr + 1⟩], nx := F.nx + 1, mr := F.mr + 1 }
def spApp (C : Addr) : Sp := fun vs H Q _ => ∃ (p sg : Addr) (F : Fo) (b : Int) (ss : List Str), vs = [.ref p, .int b, .ref sg] ∧ FoAt C H p F ∧ 1 ≤ F.age ∧ 0 ≤ b ∧ H sg = some (.tup (ss.map V.str)) ∧ OkSs ss ∧ F.ls.length ≤ 1000 ∧
  ∀ q H', Same H H' → H q = none → FoAt C H' q (fApp F b ss) → Q (.ref q) H'
theorem dv_strs {H : Hp} : ∀ ss : List Str, DvA H (ss.map V.str) (ss.map PyData.str)
  | [] => .nil
  | s :: r => .cons (.str s) (dv_strs r)
section
variable {P : Program} {w : World} {K : PySem.W.Frag} {mg : Str → Option Value} {base : Heap} {C : Addr}
theorem ok_init {f : Addr} {fd : FuncData} (t : ClT K mg C) (D_is_number : Def P w K mg base CX0 2 "is_number" pV spNum) (F : Fun K "__init__" "Folder.__init__" sInit f fd) : FnOk P w K mg base CX0 3 f fd nInit (spInit C) := by
  refine F.ok scInit (fun vs H Q E h => ?_) (fun cdv A outer s H vs Q E hr h => ?_)
  · obtain ⟨p, dx, a, rfl, _⟩ := h
    rfl
  · obtain ⟨p, dx, a, rfl, hp, ha, q⟩ := h
    refine ⟨_, pss_cons (ps_if (pt_not (pt_val (pe_def D_is_number (hr.mono (by decide)) rfl pass0 (pa_cons (pv 1) pa_nil)))) pss_any pss_nil)
 (pss_cons (ps_fld (pv 0) (pv 1) rfl)
 (pss_cons (ps_fld (pv 0) (pe_tup pa_nil) rfl)
 (pss_cons (ps_fld (pv 0) pe_int rfl)
 (pss_cons (ps_fld (pv 0) pe_int rfl)
 (pss_cons (ps_fld (pv 0) (pe_tup pa_nil) rfl)
 (pss_one (ps_fld (pv 0) pe_int rfl))))))), ?_⟩
    refine ⟨_, rfl, a, rfl, ha, _, rfl, itbF rfl ?_⟩
    refine ⟨_, rfl, _, rfl, p, C, dx, [], rfl, hp, t.cl, t.nA, by show 0 < 1000; decide, ?_⟩
    refine ⟨Nat.zero_le _, fun tl ntl => ?_⟩
    have n1 : p ≠ tl := ne_of_none (show (upd H p (.ins C dx (putF "_age" (.int a) []))) p = some _ from upd_same) ntl
    refine ⟨_, rfl, p, C, dx, _, rfl, (by rw [upd_ne n1]; exact upd_same), t.cl, t.nL, by show 1 < 1000; decide, ?_⟩
    refine ⟨_, rfl, p, C, dx, _, rfl, upd_same, t.cl, t.nN, by show 2 < 1000; decide, ?_⟩
    refine ⟨_, rfl, p, C, dx, _, rfl, upd_same, t.cl, t.nM, by show 3 < 1000; decide, ?_⟩
    refine ⟨Nat.zero_le _, fun tg ntg => ?_⟩
    have n2 : p ≠ tg := ne_of_none (by exact upd_same) ntg
    have n3 : tl ≠ tg := fun z => by
      subst z
      rw [upd_ne n1.symm, upd_ne n1.symm, upd_ne n1.symm, upd_same] at ntg
      cases ntg
    refine ⟨_, rfl, p, C, dx, _, rfl, (by rw [upd_ne n2]; exact upd_same), t.cl, t.nG, by show 4 < 1000; decide, ?_⟩
    refine ⟨_, rfl, p, C, dx, _, rfl, upd_same, t.cl, t.nC, by show 5 < 1000; decide, ?_⟩
    refine q _ tl tg (fun b o nb hb => ?_) upd_same ?_ ?_
    · have hb0 : (upd H p (.ins C dx (putF "_age" (.int a) []))) b = some o := by rw [upd_ne nb]; exact hb
      rw [upd_ne nb, upd_ne nb, upd_ne (fun z => by
        subst z
        rw [upd_ne nb, upd_ne nb, upd_ne nb, upd_ne (ne_of_none hb0 ntl), upd_ne nb] at ntg
        rw [hb] at ntg; cases ntg), upd_ne nb, upd_ne nb, upd_ne nb, upd_ne (ne_of_none hb0 ntl)]
      exact hb0
    · rw [upd_ne n1.symm, upd_ne n1.symm, upd_ne n3, upd_ne n1.symm, upd_ne n1.symm, upd_ne n1.symm, upd_same]
    · rw [upd_ne n2.symm, upd_ne n2.symm, upd_same]
theorem ok_letters {f : Addr} {fd : FuncData} (T : Bk mg) (t : ClT K mg C) (F : Fun K "letters" "Folder.letters" sLetters f fd) : FnOk P w K mg base CX0 1 f fd nSelf (spLetters C) := by
  refine F.ok scLetters (fun vs H Q E h => ?_) (fun cdv A outer s H vs Q E hr h => ?_)
  · obtain ⟨p, F, rfl, _⟩ := h
    rfl
  · obtain ⟨p, F, rfl, ⟨dx, tl, tg, hp, h1, h2⟩, q⟩ := h
    refine ⟨_, pss_one (ps_ret (pe_callTy (call_list_ofK (K := K) rfl) (by rfl) T.list PyProof.Rows.boot_list (pa_cons (pe_fld (pv 0) rfl) pa_nil))), ?_⟩
    cases h1 with
    | tup e r => exact ⟨_, rfl, p, C, dx, _, _, rfl, hp, t.cl, t.nL, fl_let, tl, _, rfl, .inr (st e), fun l nl => q l _ (same_new nl) nl (.lst upd_same (r.same (same_new nl)))⟩
theorem ok_gone {f : Addr} {fd : FuncData} (T : Bk mg) (t : ClT K mg C) (F : Fun K "gone" "Folder.gone" sGone f fd) : FnOk P w K mg base CX0 1 f fd nSelf (spGone C) := by
  refine F.ok scGone (fun vs H Q E h => ?_) (fun cdv A outer s H vs Q E hr h => ?_)
  · obtain ⟨p, F, rfl, _⟩ := h
    rfl
  · obtain ⟨p, F, rfl, ⟨dx, tl, tg, hp, h1, h2⟩, q⟩ := h
    refine ⟨_, pss_one (ps_ret (pe_callTy (call_list_ofK (K := K) rfl) (by rfl) T.list PyProof.Rows.boot_list (pa_cons (pe_fld (pv 0) rfl) pa_nil))), ?_⟩
    cases h2 with
    | tup e r => exact ⟨_, rfl, p, C, dx, _, _, rfl, hp, t.cl, t.nG, fl_gone, tg, _, rfl, .inr (st e), fun l nl => q l _ (same_new nl) nl (.lst upd_same (r.same (same_new nl)))⟩
theorem ok_next {f : Addr} {fd : FuncData} (t : ClT K mg C) (F : Fun K "next_number" "Folder.next_number" sNext f fd) : FnOk P w K mg base CX0 1 f fd nSelf (spNext C) := by
  refine F.ok scNext (fun vs H Q E h => ?_) (fun cdv A outer s H vs Q E hr h => ?_)
  · obtain ⟨p, F, rfl, _⟩ := h
    rfl
  · obtain ⟨p, F, rfl, ⟨dx, tl, tg, hp, h1, h2⟩, q⟩ := h
    exact ⟨_, pss_one (ps_ret (pe_fld (pv 0) rfl)), ⟨_, rfl, p, C, dx, _, _, rfl, hp, t.cl, t.nN, fl_nx, q⟩⟩
theorem ok_mark {f : Addr} {fd : FuncData} (t : ClT K mg C) (F : Fun K "mark" "Folder.mark" sMark f fd) : FnOk P w K mg base CX0 1 f fd nSelf (spMark C) := by
  refine F.ok scMark (fun vs H Q E h => ?_) (fun cdv A outer s H vs Q E hr h => ?_)
  · obtain ⟨p, F, rfl, _⟩ := h
    rfl
  · obtain ⟨p, F, rfl, ⟨dx, tl, tg, hp, h1, h2⟩, q⟩ := h
    exact ⟨_, pss_one (ps_ret (pe_fld (pv 0) rfl)), ⟨_, rfl, p, C, dx, _, _, rfl, hp, t.cl, t.nM, fl_mk, q⟩⟩
end
end K1


set_option Elab.async false
set_option linter.all false
set_option maxRecDepth 100000
set_option maxHeartbeats 2000000
namespace K1
open PySem PySem.Spec PyProof.Rows L2 RZ StX
/-- the making of a folder -/
structure MkD (P : Program) (w : World) (K : PySem.W.Frag) (mg : Str → Option Value) (base : Heap) (C : Addr) : Prop where
  ex : ∃ (f : Addr) (fd : FuncData), Mk K C f ∧ Binds K fd nInit [] ∧ FnOk P w K mg base CX0 3 f fd nInit (spInit C)
theorem pe_new {X : Cx} {C : Addr} {e : Expr} {t : TA} {p pos : Pos} (D : MkD X.prog X.w X.K X.mg X.base C) (gC : X.mg "Folder" = some (.ref C)) (hr : Room 4 X.A) (hg : Gl X "Folder") (ha : PA X [e] t)
    (he : starEach [e] X.env = (false, eval e X.env) :: starEach [] X.env := by rfl) : PE X (.Call (.Name "Folder" p) [e] [] pos) (tMake C (spInit C) [] E0 t) := by
  obtain ⟨f, fd, hm, hb, F⟩ := D.ex
  exact pe_make hm F hr hg gC hb .nil pass0 ha (he := he)
theorem Dv.tups {H : Hp} {a : Addr} {ds : List PyData} (h : Dv H (.ref a) (.tuple ds)) : ∃ xs, H a = some (.tup xs) ∧ DvA H xs ds := by
  cases h with
  | tup e r => exact ⟨_, e, r⟩
/-- a heap behind which one new object may be changed -/
theorem same_but {H H' : Hp} {q : Addr} {o : HO} (s : Same H H') (n : H q = none) : Same H (upd H' q o) := s.mut n
section
variable {P : Program} {w : World} {K : PySem.W.Frag} {mg : Str → Option Value} {base : Heap} {C : Addr}
theorem ok_copied {f : Addr} {fd : FuncData} (t : ClT K mg C) (D_new : MkD P w K mg base C) (F : Fun K "_copied" "Folder._copied" sCopied f fd) : FnOk P w K mg base CX0 5 f fd nSelf (spCopied C) := by
  have nd := scCopied.nd
  refine F.ok scCopied (fun vs H Q E h => ?_) (fun cdv A outer s H vs Q E hr h => ?_)
  · obtain ⟨p, dx, tl, tg, a, n, m, c, rfl, _⟩ := h
    rfl
  · obtain ⟨p, dx, tl, tg, a, n, m, c, rfl, hp, ha, q⟩ := h
    refine ⟨_, pss_cons (ps_set (i := 1) nd rfl (Or.inl rfl) (pe_new D_new t.gC (hr.mono (by decide)) rfl (pa_cons (pe_fld (pv 0) rfl) pa_nil)))
 (pss_cons (ps_fld (pv 1) (pe_fld (pv 0) rfl) rfl)
 (pss_cons (ps_fld (pv 1) (pe_fld (pv 0) rfl) rfl)
 (pss_cons (ps_fld (pv 1) (pe_fld (pv 0) rfl) rfl)
 (pss_cons (ps_fld (pv 1) (pe_fld (pv 0) rfl) rfl)
 (pss_cons (ps_fld (pv 1) (pe_fld (pv 0) rfl) rfl)
 (pss_one (ps_ret (pv 1)))))))), ?_⟩
    refine ⟨_, rfl, p, C, dx, _, _, rfl, hp, t.cl, t.nA, fl_age, fun x dq nx ndq hne => ⟨x, dq, a, rfl, upd_same, ha, fun H' tl' tg' keep hx _ _ => ⟨rfl, ?_⟩⟩⟩
    have s1 : Same H H' := fun b o hb => keep b o (ne_of_none hb nx) (by rw [upd_ne (ne_of_none hb nx), upd_ne (ne_of_none hb ndq)]; exact hb)
    have npx : p ≠ x := ne_of_none hp nx
    have hp1 := s1 _ _ hp
    have step : ∀ (H1 : Hp), H1 p = some (.ins C dx (flds (.int a) (.ref tl) (.int n) (.int m) (.ref tg) (.int c))) → ∀ o, (upd H1 x o) p = some (.ins C dx (flds (.int a) (.ref tl) (.int n) (.int m) (.ref tg) (.int c))) := fun H1 h o => by rw [upd_ne npx]; exact h
    refine ⟨_, rfl, p, C, dx, _, _, rfl, hp1, t.cl, t.nL, fl_let, _, rfl, x, C, dq, _, rfl, hx, t.cl, t.nL, by show 6 < 1000; decide, ?_⟩
    rw [pu_let]
    refine ⟨_, rfl, p, C, dx, _, _, rfl, step _ hp1 _, t.cl, t.nN, fl_nx, _, rfl, x, C, dq, _, rfl, upd_same, t.cl, t.nN, by show 6 < 1000; decide, ?_⟩
    rw [pu_nx]
    refine ⟨_, rfl, p, C, dx, _, _, rfl, step _ (step _ hp1 _) _, t.cl, t.nM, fl_mk, _, rfl, x, C, dq, _, rfl, upd_same, t.cl, t.nM, by show 6 < 1000; decide, ?_⟩
    rw [pu_mk]
    refine ⟨_, rfl, p, C, dx, _, _, rfl, step _ (step _ (step _ hp1 _) _) _, t.cl, t.nG, fl_gone, _, rfl, x, C, dq, _, rfl, upd_same, t.cl, t.nG, by show 6 < 1000; decide, ?_⟩
    rw [pu_gone]
    refine ⟨_, rfl, p, C, dx, _, _, rfl, step _ (step _ (step _ (step _ hp1 _) _) _) _, t.cl, t.nC, fl_cut, _, rfl, x, C, dq, _, rfl, upd_same, t.cl, t.nC, by show 6 < 1000; decide, ?_⟩
    rw [pu_cut]
    exact ⟨_, rfl, q x dq _ (((((s1.mut nx).mut nx).mut nx).mut nx).mut nx) nx upd_same⟩
theorem ok_app {f : Addr} {fd : FuncData} (t : ClT K mg C) (D_is_body : Def P w K mg base CX0 2 "is_body" pV spBody) (D_is_signs : Def P w K mg base CX0 2 "is_signs" pV spSigns) (M_copied : MDef P w K mg base CX0 5 C "_copied" nSelf (spCopied C))
    (F : Fun K "appended" "Folder.appended" sApp f fd) : FnOk P w K mg base CX0 6 f fd pApp (spApp C) := by
  have nd := scApp.nd
  refine F.ok scApp (fun vs H Q E h => ?_) (fun cdv A outer s H vs Q E hr h => ?_)
  · obtain ⟨p, sg, F, b, ss, rfl, _⟩ := h
    rfl
  · obtain ⟨p, sg, F, b, ss, rfl, ⟨dx, tl, tg, hp, h1, h2⟩, ha, hb, hs, hu, hl, q⟩ := h
    refine ⟨_, pss_cons (ps_if (pt_not (pt_val (pe_def D_is_body (hr.mono (by decide)) rfl pass0 (pa_cons (pv 1) pa_nil)))) pss_any pss_nil)
 (pss_cons (ps_if (pt_not (pt_val (pe_def D_is_signs (hr.mono (by decide)) rfl pass0 (pa_cons (pv 2) pa_nil)))) pss_any pss_nil)
 (pss_cons (ps_set (i := 3) nd rfl (Or.inl rfl) (pe_mdef0 M_copied t.cl (hr.mono (by decide)) pass0 (pv 0)))
 (pss_cons (ps_fldaug (pv 3) pe_int in_add)
 (pss_cons (ps_fld (pv 3) (pe_tup (pa_star (pe_fld (pv 0) rfl) (pa_cons (pe_tup (pa_cons (pe_fld (pv 0) rfl) (pa_cons (pv 1) (pa_cons (pv 2) (pa_cons (pe_fld (pv 3) rfl) pa_nil))))) pa_nil))) rfl)
 (pss_cons (ps_fldaug (pv 3) pe_int in_add)
 (pss_one (ps_ret (pv 3)))))))), ?_⟩
    refine ⟨_, rfl, b, rfl, hb, _, rfl, itbF rfl ?_⟩
    refine ⟨_, rfl, sg, ss, rfl, hs, okSs_iff.mpr hu, fun H1 s1 => ⟨_, rfl, itbF rfl ?_⟩⟩
    refine ⟨_, rfl, p, dx, _, rfl, s1 _ _ hp, fl_no (by decide +kernel), p, dx, tl, tg, F.age, F.nx, F.mr, F.ct, rfl, s1 _ _ hp, ha, fun x dq H2 s2 nx hx => ?_⟩
    have s12 := s1.trans s2
    have nxH : H x = none := s1.free nx
    have npx : p ≠ x := ne_of_none (s1 _ _ hp) nx
    refine ⟨_, rfl, x, C, dq, _, _, rfl, hx, t.cl, t.nM, fl_mk, _, _, rfl, rfl, dq, _, hx, by show 6 < 1000; decide, ?_⟩
    rw [pu_mk]
    have sA : Same H (upd H2 x (.ins C dq (flds (.int F.age) (.ref tl) (.int F.nx) (.int (F.mr + 1)) (.ref tg) (.int F.ct)))) := s12.mut nxH
    have hxA : (upd H2 x (.ins C dq (flds (.int F.age) (.ref tl) (.int F.nx) (.int (F.mr + 1)) (.ref tg) (.int F.ct)))) x = _ := upd_same
    generalize upd H2 x (.ins C dq (flds (.int F.age) (.ref tl) (.int F.nx) (.int (F.mr + 1)) (.ref tg) (.int F.ct))) = HA at sA hxA
    obtain ⟨xs, e0, r0⟩ := Dv.tups h1
    refine ⟨_, rfl, p, C, dx, _, _, rfl, sA _ _ hp, t.cl, t.nL, fl_let, tl, xs, rfl, .inl (st (sA _ _ e0)), ?_⟩
    refine ⟨_, rfl, p, C, dx, _, _, rfl, sA _ _ hp, t.cl, t.nN, fl_nx, _, rfl, _, rfl, _, rfl, x, C, dq, _, _, rfl, hxA, t.cl, t.nM, fl_mk, by show 4 ≤ sizeLine; decide, fun lt nlt => ⟨?_, fun tn ntn => ?_⟩⟩
    · have hlen := r0.len
      rw [List.length_map] at hlen
      exact lt1 _ (by rw [List.length_append, hlen]; show F.ls.length + 1 ≤ 100000; omega)
    · have sB := (sA.new nlt (o := .tup [.int F.nx, .int b, .ref sg, .int (F.mr + 1)])).new ntn (o := .tup (xs ++ [.ref lt]))
      have nxl : x ≠ lt := ne_of_none hxA nlt
      have nxt : x ≠ tn := ne_of_none (by rw [upd_ne nxl]; exact hxA) ntn
      have hlt : (upd (upd HA lt (.tup [.int F.nx, .int b, .ref sg, .int (F.mr + 1)])) tn (.tup (xs ++ [.ref lt]))) lt = some (.tup [.int F.nx, .int b, .ref sg, .int (F.mr + 1)]) := same_new ntn _ _ upd_same
      refine ⟨_, rfl, x, C, dq, _, rfl, (by rw [upd_ne nxt, upd_ne nxl]; exact hxA), t.cl, t.nL, by show 6 < 1000; decide, ?_⟩
      rw [pu_let]
      refine ⟨_, rfl, x, C, dq, _, _, rfl, upd_same, t.cl, t.nN, fl_nx, _, _, rfl, rfl, dq, _, upd_same, by show 6 < 1000; decide, ?_⟩
      rw [pu_nx]
      have sC := (sB.mut nxH (o := .ins C dq (flds (.int F.age) (.ref tn) (.int F.nx) (.int (F.mr + 1)) (.ref tg) (.int F.ct)))).mut nxH (o := .ins C dq (flds (.int F.age) (.ref tn) (.int (F.nx + 1)) (.int (F.mr + 1)) (.ref tg) (.int F.ct)))
      refine ⟨_, rfl, q x _ sC nxH ⟨dq, tn, tg, upd_same, ?_, h2.same sC⟩⟩
      have rl := r0.same sC
      refine .tup (xs := xs ++ [.ref lt]) (by rw [upd_ne nxt.symm, upd_ne nxt.symm, upd_same]) ?_
      have em : (fApp F b ss).ls.map ltD = F.ls.map ltD ++ [ltD ⟨F.nx, b, ss, F.mr + 1⟩] := by unfold fApp; rw [List.map_append]; rfl
      rw [em]
      refine rl.app (.cons (.tup (by rw [upd_ne nxl.symm, upd_ne nxl.symm]; exact hlt) (.cons (.int _) (.cons (.int _) (.cons (.tup (sC _ _ hs) (dv_strs ss)) (.cons (.int _) .nil))))) .nil)
end
end K1


set_option Elab.async false
set_option linter.all false
set_option maxRecDepth 100000
set_option maxHeartbeats 8000000
/-! k23: sessions. -/
namespace K1
open PySem PySem.Spec PyProof.Rows L2 RZ StX
def erD (l : Lt) : PyData := .tuple [.int l.n, .tuple (l.s.map PyData.str), .int l.m]
theorem erD_tO (l : Lt) : tO (erD l) = true := by
  show (true && (tOA (l.s.map PyData.str) && (true && true))) = true
  rw [tO_strs]; rfl
theorem dv_lt {H : Hp} {v : V} {l : Lt} (h : Dv H v (ltD l)) : ∃ a y, v = .ref a ∧ H a = some (.tup [.int l.n, .int l.b, y, .int l.m]) ∧ Dv H y (.tuple (l.s.map PyData.str)) := by
  unfold ltD at h
  cases h with
  | tup e r =>
  cases r with
  | cons h1 r =>
  cases r with
  | cons h2 r =>
  cases r with
  | cons h3 r =>
  cases r with
  | cons h4 r =>
  cases r; cases h1; cases h2; cases h4
  exact ⟨_, _, rfl, e, h3⟩
theorem lstD {H : Hp} {v : V} {ds : List PyData} (h : Dv H v (.list ds)) : ∃ a xs, v = .ref a ∧ H a = some (.lst xs) ∧ DvA H xs ds := by
  cases h with
  | lst e r => exact ⟨_, _, rfl, e, r⟩
theorem ers_tO : ∀ ls : List Lt, tOA (ls.map erD) = true
  | [] => rfl
  | l :: r => by
    show (tO (erD l) && tOA (r.map erD)) = true
    rw [erD_tO, ers_tO r]; rfl
theorem dv_er {H : Hp} {v : V} {l : Lt} (h : Dv H v (erD l)) : ∃ a y, v = .ref a ∧ H a = some (.tup [.int l.n, y, .int l.m]) := by
  unfold erD at h
  cases h with
  | tup e r =>
  cases r with
  | cons h1 r =>
  cases r with
  | cons h2 r =>
  cases r with
  | cons h3 r =>
  cases r; cases h1; cases h3
  exact ⟨_, _, rfl, e⟩
theorem a2_map {H : Hp} {α : Type} {f : α → PyData} : ∀ {xs : List V} {ls : List α}, DvA H xs (ls.map f) → A2 (fun x l => Dv H x (f l)) xs ls
  | _, [], .nil => .nil
  | _, _ :: _, .cons h r => .cons h (a2_map r)
abbrev sEo : Stmt := st_entries_of
abbrev nEo : List Str := ["folder", "number", "_", "signs", "mark"]
abbrev pEo : List Str := ["folder"]
theorem scEo : FnScope nEo pEo (defScope sEo) := ⟨rfl, rfl, rfl, by decide +kernel, rfl, by decide +kernel, by decide +kernel⟩
def spEo (C : Addr) : Sp := fun vs H Q _ => ∃ (p : Addr) (F : Fo), vs = [.ref p] ∧ FoAt C H p F ∧ F.ls.length ≤ 10 ∧ ∀ l xs H', Same H H' → H l = none → H' l = some (.lst xs) → DvA H' xs (F.ls.map erD) → Q (.ref l) H'
abbrev sOp : Stmt := st_opened
abbrev nOp : List Str := ["folder", "rows", "row"]
abbrev pOp : List Str := ["folder"]
theorem scOp : FnScope nOp pOp (defScope sOp) := ⟨rfl, rfl, rfl, by decide +kernel, rfl, by decide +kernel, by decide +kernel⟩
def spOp (C : Addr) : Sp := fun vs H Q _ => ∃ (p : Addr) (F : Fo), vs = [.ref p] ∧ FoAt C H p F ∧ F.ls.length ≤ 10 ∧ ∀ t l xs top H', Same H H' → H' t = some (.tup [.ref l, top, .int 0]) → H' l = some (.lst xs) → DvA H' xs (F.ls.map erD) → Q (.ref t) H'
abbrev sAge : Stmt := mS 2
theorem scAge : FnScope nSelf nSelf (defScope sAge) := ⟨rfl, rfl, rfl, by decide +kernel, rfl, by decide +kernel, by decide +kernel⟩
def spAge (C : Addr) : Sp := fun vs H Q _ => ∃ (p : Addr) (F : Fo), vs = [.ref p] ∧ FoAt C H p F ∧ Q (.int F.age) H
section
variable {P : Program} {w : World} {K : PySem.W.Frag} {mg : Str → Option Value} {base : Heap} {C : Addr}
theorem ok_age {f : Addr} {fd : FuncData} (t : ClT K mg C) (F : Fun K "age" "Folder.age" sAge f fd) : FnOk P w K mg base CX0 1 f fd nSelf (spAge C) := by
  refine F.ok scAge (fun vs H Q E h => ?_) (fun cdv A outer s H vs Q E hr h => ?_)
  · obtain ⟨p, F, rfl, _⟩ := h
    rfl
  · obtain ⟨p, F, rfl, ⟨dx, tl, tg, hp, h1, h2⟩, q⟩ := h
    exact ⟨_, pss_one (ps_ret (pe_fld (pv 0) rfl)), ⟨_, rfl, p, C, dx, _, _, rfl, hp, t.cl, t.nA, fl_age, q⟩⟩
theorem ok_eo {f : Addr} {fd : FuncData} (t : ClT K mg C) (M_letters : MDef P w K mg base CX0 1 C "letters" nSelf (spLetters C)) (F : Fun K "entries_of" "entries_of" sEo f fd) : FnOk P w K mg base CX0 2 f fd pEo (spEo C) := by
  have nd := scEo.nd
  refine F.ok scEo (fun vs H Q E h => ?_) (fun cdv A outer s H vs Q E hr h => ?_)
  · obtain ⟨p, F, rfl, _⟩ := h
    rfl
  · obtain ⟨p, F, rfl, hF, l10, q⟩ := h
    refine ⟨_, (pss_one (ps_ret (pe_lc (own := [("number", 1), ("_", 2), ("signs", 3), ("mark", 4)]) (g := gTup K 4 (gCons (gName 1) (gCons (gName 2) (gCons (gName 3) (gCons (gName 4) gNil))))) (tt := tYes) rfl nd (pi_listK (K := K) rfl (pe_mdef0 M_letters t.cl (hr.mono (by decide)) pass0 (pv 0))) (blkOk_by (own := [("number", 1), ("_", 2), ("signs", 3), ("mark", 4)]) (N := nEo) (sc := defScope sEo) (by decide +kernel)) (fun _ _ _ _ _ => pg_tup rfl (pgs_cons (pg_name (i := 1) nd rfl (Or.inl rfl)) (pgs_cons (pg_name (i := 2) nd rfl (Or.inl rfl)) (pgs_cons (pg_name (i := 3) nd rfl (Or.inl rfl)) (pgs_cons (pg_name (i := 4) nd rfl (Or.inl rfl)) pgs_nil))))) (fun _ _ _ _ _ => pts_nil) (fun _ _ _ _ _ => (pe_tup (pa_cons (pv 1) (pa_cons (pv 3) (pa_cons (pv 4) pa_nil)))))))), ?_⟩
    obtain ⟨dx, tl, tg, hp, h1, h2⟩ := id hF
    refine ⟨_, rfl, p, dx, _, rfl, hp, fl_no (by decide +kernel), p, F, rfl, hF, fun l H1 s1 nl hl => ?_⟩
    obtain ⟨a, xs, e, ha, hA⟩ := lstD hl
    cases e
    have lx := hA.len
    rw [List.length_map] at lx
    refine ⟨l, rfl, ⟨_, sq ha⟩, fun D nD => lc_it walk_list (fun i G => Same H1 G ∧ ∃ acc, G D = some (.lst acc) ∧ acc.length = i ∧ DvA G acc ((F.ls.take i).map erD)) ⟨same_new nD, [], upd_same, rfl, .nil⟩ (fun i G _ h => sq (h.1 _ _ ha)) ?_ ?_⟩
    · rintro i x G G' hi ⟨s2, acc, hacc, la, hd⟩ ⟨rfl, hx⟩
      obtain ⟨d, hdi, hv⟩ := hA.get hx
      rw [List.getElem?_map] at hdi
      cases hli : F.ls[i]? with
      | none => rw [hli] at hdi; cases hdi
      | some lt =>
      rw [hli] at hdi
      cases hdi
      obtain ⟨tx, y, rfl, htx, hy⟩ := dv_lt (hv.same s2)
      refine ⟨tx, _, rfl, st htx, rfl, _, _, rfl, _, _, rfl, _, _, rfl, _, _, rfl, rfl, rfl, tyes ⟨_, rfl, _, rfl, _, rfl, by show 3 ≤ sizeLine; decide, fun tn ntn => ?_⟩⟩
      have s3 := same_new ntn (o := .tup [.int lt.n, y, .int lt.m])
      have hacc3 := s3 _ _ hacc
      have tm : TU (upd G' tn (.tup [.int lt.n, y, .int lt.m])) (upd (upd G' tn (.tup [.int lt.n, y, .int lt.m])) D (.lst (acc ++ [.ref tn]))) := TU.mut hacc3 fun _ z => by cases z
      refine ⟨acc, hacc3, lt2 _ (by omega), (s2.trans s3).mut nD, _, upd_same, by rw [List.length_append, la]; rfl, ?_⟩
      rw [take_more hli, List.map_append]
      refine ((hd.same s3).tu tm (ers_tO _)).app (.cons (Dv.tu tm (.tup upd_same (.cons (.int _) (.cons (hy.same s3) (.cons (.int _) .nil)))) (erD_tO lt)) .nil)
    · rintro G ⟨s2, acc, hacc, la, hd⟩
      rw [lx, List.take_length] at hd
      exact q D acc G (s1.trans s2) (s1.free nD) hacc hd
theorem ok_op {f : Addr} {fd : FuncData} (T : Bj mg) (D_entries_of : Def P w K mg base CX0 2 "entries_of" pEo (spEo C)) (F : Fun K "opened" "opened" sOp f fd) : FnOk P w K mg base CX0 3 f fd pOp (spOp C) := by
  have nd := scOp.nd
  refine F.ok scOp (fun vs H Q E h => ?_) (fun cdv A outer s H vs Q E hr h => ?_)
  · obtain ⟨p, F, rfl, _⟩ := h
    rfl
  · obtain ⟨p, F, rfl, hF, l10, q⟩ := h
    refine ⟨_, (pss_cons (ps_set (i := 1) nd rfl (Or.inl rfl) (pe_def D_entries_of (hr.mono (by decide)) rfl pass0 (pa_cons (pv 0) pa_nil)))
 (pss_one (ps_ret (pe_tup (pa_cons (pv 1) (pa_cons (pe_callBK (cr_maxD (K := K) rfl rfl hr.units) (by rfl) T.max PyProof.Rows.boot_max (pa_cons (pe_lc (own := [("row", 2)]) (g := gName 2) (tt := tYes) rfl nd (pi_listK (K := K) rfl (pv 1)) (blkOk_by (own := [("row", 2)]) (N := nOp) (sc := defScope sOp) (by decide +kernel)) (fun _ _ _ _ _ => pg_name (i := 2) nd rfl (Or.inl rfl)) (fun _ _ _ _ _ => pts_nil) (fun _ _ _ _ _ => (pe_ix (ix_tupK (K := K) rfl) (pv 2) pe_int (fun _ _ => rfl)))) pa_nil) (pk_cons pe_int pk_nil)) (pa_cons pe_int pa_nil))))))), ?_⟩
    refine ⟨_, rfl, p, F, rfl, hF, l10, fun l xs H1 s1 nl hl hd => ?_⟩
    have lx := hd.len
    rw [List.length_map] at lx
    refine ⟨_, rfl, _, rfl, l, rfl, ⟨_, sq hl⟩, fun D nD => ?_⟩
    refine lc_sel walk_list (R := fun x e => Dv H1 x (erD e)) (ls := F.ls) (out := fun y (n : Int) => y = V.int n) (a2_map hd) nD (fun G s => sq (s _ _ hl)) (by omega) (fun e => some e.n) ?_ ?_
    · rintro z e G T' S hx hm s3 hT hS'
      obtain ⟨ta, y1, rfl, hta⟩ := dv_er hx
      exact ⟨rfl, tyes ⟨_, rfl, ta, _, 0, .int e.n, rfl, rfl, st (s3 _ _ hta), atI_nat (j := 0) rfl, hT _ e.n G (fun _ _ h => h) rfl rfl⟩⟩
    intro G acc s3 hacc h4
    rw [h4.vals, fm_map] at hacc
    have fin : ∀ top : V, tCons (tC (.int 0)) tNil [some (.ref p), some (.ref l), none] G fun xs0 H2 => (fun vs H3 => vs.length ≤ sizeLine ∧ ∀ t, H3 t = none → Q (.ref t) (upd H3 t (.tup vs))) (.ref l :: top :: xs0) H2 := fun top =>
      ⟨by show 3 ≤ sizeLine; decide, fun t nt => q t l xs top _ ((s1.trans s3).new nt) upd_same (same_new nt _ _ (s3 _ _ hl)) ((hd.same s3).same (same_new nt))⟩
    exact ⟨D, F.ls.map (·.n), .int 0, rfl, rfl, sq hacc, fun _ => fin _, fun m _ _ => fin _⟩
end
end K1


set_option Elab.async false
set_option linter.all false
set_option maxRecDepth 100000
set_option maxHeartbeats 8000000
/-! k23: the class Session. -/
namespace K1
open PySem PySem.Spec PyProof.Rows L2 RZ StX
def seF (fo tt : Addr) : List (Str × V) := [("_folder", .ref fo), ("_told", .ref tt)]
theorem se_fo {fo tt : Addr} : (seF fo tt).lookup ("_folder" : Str) = some (.ref fo) := by rfl
theorem se_tt {fo tt : Addr} : (seF fo tt).lookup ("_told" : Str) = some (.ref tt) := by rfl
theorem se_no {x : Str} {fo tt : Addr} (h : (["_folder", "_told"] : List Str).all (fun z => !(x == z)) = true) : (seF fo tt).lookup x = none := by
  simp only [List.all_cons, List.all_nil, Bool.and_eq_true, Bool.not_eq_true'] at h
  obtain ⟨h1, h2, _⟩ := h
  unfold seF
  simp only [List.lookup, h1, h2]
/-- what the class must have -/
structure ClS (K : PySem.W.Frag) (mg : Str → Option Value) (SC : Addr) : Prop where
  cl : Cls K SC
  gS : mg "Session" = some (.ref SC)
  nF : NoAttr K SC "_folder"
  nT : NoAttr K SC "_told"
/-- what is no folder -/
structure IsF (K : PySem.W.Frag) (C : Addr) : Prop where
  ins : C8.InsC K C
  no : ∀ n ∈ (["NoneType", "int", "str", "dict"] : List String), PySem.W.kitOne K (.type n) (.ref C) = some false
def OddD (d : PyData) : Prop := tyN d ∈ (["NoneType", "int", "str", "dict"] : List String)
theorem FoAt.mut {C p SC dx fo : Addr} {fs : List (Str × V)} {o : HO} {H : Hp} {F : Fo} (h : FoAt C H fo F) (hp : H p = some (.ins SC dx fs)) (ne : fo ≠ p) : FoAt C (upd H p o) fo F := by
  obtain ⟨dx, tl, tg, h1, h2, h3⟩ := h
  have tm : TU H (upd H p o) := TU.mut hp fun _ z => by cases z
  refine ⟨dx, tl, tg, by rw [upd_ne ne]; exact h1, h2.tu tm ?_, h3.tu tm ?_⟩
  · show tOA (F.ls.map ltD) = true
    have : ∀ ls : List Lt, tOA (ls.map ltD) = true := fun ls => by
      induction ls with
      | nil => rfl
      | cons l r ih =>
        show ((true && (true && (tOA (l.s.map PyData.str) && (true && true)))) && tOA (r.map ltD)) = true
        rw [tO_strs, ih]; rfl
    exact this _
  · show tOA (F.go.map goD) = true
    have : ∀ ls : List (Int × Int), tOA (ls.map goD) = true := fun ls => by
      induction ls with
      | nil => rfl
      | cons l r ih =>
        show ((true && (true && true)) && tOA (r.map goD)) = true
        rw [ih]; rfl
    exact this _
def sS (i : Nat) : Stmt := inClass st_Session i
abbrev sSi : Stmt := sS 0
abbrev sSee : Stmt := sS 1
abbrev sTd : Stmt := sS 2
abbrev sTl : Stmt := sS 3
abbrev nSi : List Str := ["self", "folder"]
theorem scSi : FnScope nSi nSi (defScope sSi) := ⟨rfl, rfl, rfl, by decide +kernel, rfl, by decide +kernel, by decide +kernel⟩
theorem scSee : FnScope nSi nSi (defScope sSee) := ⟨rfl, rfl, rfl, by decide +kernel, rfl, by decide +kernel, by decide +kernel⟩
abbrev nTd : List Str := ["self", "number", "_", "mark"]
theorem scTd : FnScope nTd nSelf (defScope sTd) := ⟨rfl, rfl, rfl, by decide +kernel, rfl, by decide +kernel, by decide +kernel⟩
abbrev nTl : List Str := ["self", "notices", "is_ask", "told", "at", "notice"]
abbrev pTl : List Str := ["self", "notices", "is_ask"]
theorem scTl : FnScope nTl pTl (defScope sTl) := ⟨rfl, rfl, rfl, by decide +kernel, rfl, by decide +kernel, by decide +kernel⟩
def spSi (C SC : Addr) : Sp := fun vs H Q _ => ∃ (p dx fo : Addr) (F : Fo), vs = [.ref p, .ref fo] ∧ H p = some (.ins SC dx []) ∧ FoAt C H fo F ∧ F.ls.length ≤ 10 ∧
  ∀ H' t l xs top, (∀ b o, b ≠ p → H b = some o → H' b = some o) → H' p = some (.ins SC dx (seF fo t)) → H' t = some (.tup [.ref l, top, .int 0]) → H' l = some (.lst xs) → DvA H' xs (F.ls.map erD) → Q .non H'
def spSiB (CF SC : Addr) : Sp := fun vs H Q E => ∃ (p : Addr) (x : V) (d : PyData), vs = [.ref p, x] ∧ Dv H x d ∧ OddD d ∧ ErrAt CF "value" x H E
def spSee (C CF SC : Addr) : Sp := fun vs H Q E => ∃ (p dx fo tt : Addr) (F : Fo) (x : V), vs = [.ref p, x] ∧ H p = some (.ins SC dx (seF fo tt)) ∧ FoAt C H fo F ∧
  ((∃ d, Dv H x d ∧ OddD d) ∨ ∃ q G, x = .ref q ∧ FoAt C H q G ∧ G.age ≠ F.age) ∧ ErrAt CF "value" x H E
def twD (l : Lt) : PyData := .tuple [.int l.n, .int l.m]
def spTd (SC : Addr) : Sp := fun vs H Q _ => ∃ (p dx fo tt l : Addr) (top z : V) (xs : List V) (ls : List Lt), vs = [.ref p] ∧ H p = some (.ins SC dx (seF fo tt)) ∧ H tt = some (.tup [.ref l, top, z]) ∧ H l = some (.lst xs) ∧ DvA H xs (ls.map erD) ∧ ls.length ≤ 10 ∧
  ∀ r ys H', Same H H' → H' r = some (.lst ys) → DvA H' ys (ls.map twD) → Q (.ref r) H'
def isB : PyData → Bool | .bool _ => true | _ => false
def spTlB (CN CV : Addr) : Sp := fun vs H Q E => ∃ (s x y : V), vs = [s, x, y] ∧ ((∃ d, Dv H x d ∧ isSeq d = false ∧ ErrAt CN "at" (.int (-1)) H E) ∨ (∃ d n, Dv H x d ∧ isSeq d = true ∧ y = .int n ∧ ErrAt CV "why" (.str "is_ask") H E))
def spTl (SC : Addr) : Sp := fun vs H Q _ => ∃ (p dx fo tt a : Addr) (b : Bool), vs = [.ref p, .ref a, .bl b] ∧ H p = some (.ins SC dx (seF fo tt)) ∧ H a = some (.tup []) ∧ ∀ H', (∀ b o, b ≠ p → H b = some o → H' b = some o) → Q .non H'
section
variable {P : Program} {w : World} {K : PySem.W.Frag} {mg : Str → Option Value} {base : Heap} {C SC CF CN CV fF fN fV : Addr}
theorem isF_ty {H : Hp} {a dx : Addr} {fs : List (Str × V)} (i : IsF K C) (h : H a = some (.ins C dx fs)) : TyX K H (.ref a) (.ref C) := .base (.ins h i.ins.cl i.ins.ha i.ins.hn i.ins.htk i.ins.hm)
theorem ok_si {f : Addr} {fd : FuncData} (T : Bj mg) (t : ClT K mg C) (ts : ClS K mg SC) (i : IsF K C) (D_opened : Def P w K mg base CX0 3 "opened" pOp (spOp C)) (F : Fun K "__init__" "Session.__init__" sSi f fd) : FnOk P w K mg base CX0 4 f fd nSi (spSi C SC) := by
  refine F.ok scSi (fun vs H Q E h => ?_) (fun cdv A outer s H vs Q E hr h => ?_)
  · obtain ⟨p, dx, fo, F, rfl, _⟩ := h
    rfl
  · obtain ⟨p, dx, fo, F, rfl, hp, hF, l10, q⟩ := h
    refine ⟨_, pss_cons (ps_if (pt_not (pt_val (pe_callB (call_isiK1 (K := K) rfl) (by rfl) T.isinstance PyProof.Rows.boot_isinstance (pa_cons (pv 1) (pa_cons (pe_glob (v := .ref C) rfl t.gC rfl) pa_nil))))) pss_any pss_nil)
 (pss_cons (ps_fld (pv 0) (pv 1) rfl)
 (pss_one (ps_fld (pv 0) (pe_def D_opened (hr.mono (by decide)) rfl pass0 (pa_cons (pv 1) pa_nil)) rfl))), ?_⟩
    obtain ⟨dF, tl, tg, h1, _, _⟩ := id hF
    have ne : fo ≠ p := fun z => by rw [z, hp] at h1; cases h1
    refine ⟨_, rfl, .ref fo, .ref C, .ref C, .ref C, true, rfl, .own C, isF_ty i h1, i.ins.me, _, rfl, itbF rfl ?_⟩
    refine ⟨_, rfl, _, rfl, p, SC, dx, [], rfl, hp, ts.cl, ts.nF, by show 0 < 1000; decide, ?_⟩
    have hp1 : (upd H p (.ins SC dx (putF "_folder" (.ref fo) []))) p = some (.ins SC dx [("_folder", .ref fo)]) := upd_same
    have hF1 := hF.mut (o := .ins SC dx (putF "_folder" (.ref fo) [])) hp ne
    have k1 : ∀ b o, b ≠ p → H b = some o → (upd H p (.ins SC dx (putF "_folder" (.ref fo) []))) b = some o := fun b o nb hb => by rw [upd_ne nb]; exact hb
    generalize upd H p (.ins SC dx (putF "_folder" (.ref fo) [])) = H1 at hp1 hF1 k1
    refine ⟨_, rfl, fo, F, rfl, hF1, l10, fun tt l xs top H2 s2 htt hl hd => ?_⟩
    have hp2 := s2 _ _ hp1
    refine ⟨_, rfl, p, SC, dx, _, rfl, hp2, ts.cl, ts.nT, by show 1 < 1000; decide, ?_⟩
    have n1 : tt ≠ p := fun z => by rw [z, hp2] at htt; cases htt
    have n2 : l ≠ p := fun z => by rw [z, hp2] at hl; cases hl
    refine q _ tt l xs top (fun b o nb hb => ?_) upd_same (by rw [upd_ne n1]; exact htt) (by rw [upd_ne n2]; exact hl) (hd.tu (TU.mut hp2 fun _ z => by cases z) (ers_tO _))
    rw [upd_ne nb]; exact s2 _ _ (k1 b o nb hb)
theorem ok_siB {f : Addr} {fd : FuncData} (T : Bj mg) (t : ClT K mg C) (i : IsF K C) (TF : PySem.Tide.TideTxt P K mg "BadFolder" CF fF "value") (F : Fun K "__init__" "Session.__init__" sSi f fd) : FnOk P w K mg base (L2.CX P w) 4 f fd nSi (spSiB CF SC) := by
  refine F.okX scSi (fun vs H Q E h => ?_) (fun cdv A outer s H vs Q E hr h => ?_)
  · obtain ⟨p, x, d, rfl, _⟩ := h
    rfl
  · obtain ⟨p, x, d, rfl, hd, od, er⟩ := h
    refine ⟨_, pss_cons (ps_if (pt_not (pt_val (pe_callB (call_isiK1 (K := K) rfl) (by rfl) T.isinstance PyProof.Rows.boot_isinstance (pa_cons (pv 1) (pa_cons (pe_glob (v := .ref C) rfl t.gC rfl) pa_nil))))) (pss_one (ps_raiseTide rfl TF hr (takes_of rfl rfl rfl rfl) (pa_cons (pv 1) pa_nil))) pss_nil) pss_any, ?_⟩
    exact ⟨_, rfl, x, .ref C, .type (tyN d), .ref C, false, rfl, .own C, hd.ty, i.no _ od, _, rfl, itbT rfl ⟨_, rfl, _, rfl, er.go fun _ _ h => h⟩⟩
theorem ok_see {f : Addr} {fd : FuncData} (T : Bj mg) (t : ClT K mg C) (ts : ClS K mg SC) (i : IsF K C) (TF : PySem.Tide.TideTxt P K mg "BadFolder" CF fF "value") (M_age : MDef P w K mg base CX0 1 C "age" nSelf (spAge C)) (F : Fun K "see" "Session.see" sSee f fd) : FnOk P w K mg base (L2.CX P w) 4 f fd nSi (spSee C CF SC) := by
  refine F.okX scSee (fun vs H Q E h => ?_) (fun cdv A outer s H vs Q E hr h => ?_)
  · obtain ⟨p, dx, fo, tt, F, x, rfl, _⟩ := h
    rfl
  · obtain ⟨p, dx, fo, tt, F, x, rfl, hp, hF, h, er⟩ := h
    refine ⟨_, pss_cons (ps_if (PW.pt (pw_or (pt_not (pt_val (pe_callB (call_isiK1 (K := K) rfl) (by rfl) T.isinstance PyProof.Rows.boot_isinstance (pa_cons (pv 1) (pa_cons (pe_glob (v := .ref C) rfl t.gC rfl) pa_nil))))) (pw_or1 (pt_cmpR op_ne (pe_mdef0 M_age t.cl (hr.mono (by decide)) pass0 (pv 1)) (pe_mdef0 M_age t.cl (hr.mono (by decide)) pass0 (pe_fld (pv 0) rfl)) (nomark _))))) (pss_one (ps_raiseTide rfl TF hr (takes_of rfl rfl rfl rfl) (pa_cons (pv 1) pa_nil))) pss_nil) pss_any, ?_⟩
    rcases h with ⟨d, hd, od⟩ | ⟨q, G, rfl, hG, ne⟩
    · exact ⟨_, rfl, x, .ref C, .type (tyN d), .ref C, false, rfl, .own C, hd.ty, i.no _ od, _, rfl, itbT rfl (itbT rfl ⟨_, rfl, _, rfl, er.go fun _ _ h => h⟩)⟩
    · obtain ⟨dq, tl, tg, hq, _, _⟩ := id hG
      obtain ⟨df, tl2, tg2, hf, _, _⟩ := id hF
      refine ⟨_, rfl, .ref q, .ref C, .ref C, .ref C, true, rfl, .own C, isF_ty i hq, i.ins.me, _, rfl, itbF rfl ?_⟩
      refine ⟨_, rfl, q, dq, _, rfl, hq, fl_no (by decide +kernel), q, G, rfl, hG, ?_⟩
      refine ⟨_, rfl, p, SC, dx, _, _, rfl, hp, ts.cl, ts.nF, se_fo, fo, df, _, rfl, hf, fl_no (by decide +kernel), fo, F, rfl, hF, ?_⟩
      refine ⟨rfl, _, rfl, itbT (by show (!decide (V.int G.age = V.int F.age)) = true; rw [decide_eq_false fun z => ne (V.int.inj z)]; rfl) ?_⟩
      exact ⟨_, rfl, _, rfl, er.go fun _ _ h => h⟩
theorem ok_td {f : Addr} {fd : FuncData} (ts : ClS K mg SC) (F : Fun K "told" "Session.told" sTd f fd) : FnOk P w K mg base CX0 1 f fd nSelf (spTd SC) := by
  have nd := scTd.nd
  refine F.ok scTd (fun vs H Q E h => ?_) (fun cdv A outer s H vs Q E hr h => ?_)
  · obtain ⟨p, dx, fo, tt, l, top, z, xs, ls, rfl, _⟩ := h
    rfl
  · obtain ⟨p, dx, fo, tt, l, top, z, xs, ls, rfl, hp, htt, hl, hA, l10, q⟩ := h
    refine ⟨_, (pss_one (ps_ret (pe_lc (own := [("number", 1), ("_", 2), ("mark", 3)]) (g := gTup K 3 (gCons (gName 1) (gCons (gName 2) (gCons (gName 3) gNil)))) (tt := tYes) rfl nd (pi_listK (K := K) rfl (pe_ix (ix_tupK (K := K) rfl) (pe_fld (pv 0) rfl) pe_int (fun _ _ => rfl))) (blkOk_by (own := [("number", 1), ("_", 2), ("mark", 3)]) (N := nTd) (sc := defScope sTd) (by decide +kernel)) (fun _ _ _ _ _ => pg_tup rfl (pgs_cons (pg_name (i := 1) nd rfl (Or.inl rfl)) (pgs_cons (pg_name (i := 2) nd rfl (Or.inl rfl)) (pgs_cons (pg_name (i := 3) nd rfl (Or.inl rfl)) pgs_nil)))) (fun _ _ _ _ _ => pts_nil) (fun _ _ _ _ _ => (pe_tup (pa_cons (pv 1) (pa_cons (pv 3) pa_nil))))))), ?_⟩
    have lx := hA.len
    rw [List.length_map] at lx
    refine ⟨_, rfl, p, SC, dx, _, _, rfl, hp, ts.cl, ts.nT, se_tt, tt, _, 0, _, rfl, rfl, st htt, atI_nat (j := 0) rfl, l, rfl, ⟨_, sq hl⟩, fun D nD => lc_it walk_list (fun i G => Same H G ∧ ∃ acc, G D = some (.lst acc) ∧ acc.length = i ∧ DvA G acc ((ls.take i).map twD)) ⟨same_new nD, [], upd_same, rfl, .nil⟩ (fun i G _ h => sq (h.1 _ _ hl)) ?_ ?_⟩
    · rintro i x G G' hi ⟨s2, acc, hacc, la, hd⟩ ⟨rfl, hx⟩
      obtain ⟨d, hdi, hv⟩ := hA.get hx
      rw [List.getElem?_map] at hdi
      cases hli : ls[i]? with
      | none => rw [hli] at hdi; cases hdi
      | some lt =>
      rw [hli] at hdi
      cases hdi
      obtain ⟨tx, y, rfl, htx⟩ := dv_er (hv.same s2)
      refine ⟨tx, _, rfl, st htx, rfl, _, _, rfl, _, _, rfl, _, _, rfl, rfl, rfl, tyes ⟨_, rfl, _, rfl, by show 2 ≤ sizeLine; decide, fun tn ntn => ?_⟩⟩
      have s3 := same_new ntn (o := .tup [.int lt.n, .int lt.m])
      have hacc3 := s3 _ _ hacc
      have tm : TU (upd G' tn (.tup [.int lt.n, .int lt.m])) (upd (upd G' tn (.tup [.int lt.n, .int lt.m])) D (.lst (acc ++ [.ref tn]))) := TU.mut hacc3 fun _ z => by cases z
      have tws : ∀ ks : List Lt, tOA (ks.map twD) = true := fun ks => by
        induction ks with
        | nil => rfl
        | cons k r ih => show ((true && (true && true)) && tOA (r.map twD)) = true; rw [ih]; rfl
      refine ⟨acc, hacc3, lt2 _ (by omega), (s2.trans s3).mut nD, _, upd_same, by rw [List.length_append, la]; rfl, ?_⟩
      rw [take_more hli, List.map_append]
      exact ((hd.same s3).tu tm (tws _)).app (.cons (Dv.tu tm (.tup upd_same (.cons (.int _) (.cons (.int _) .nil))) rfl) .nil)
    · rintro G ⟨s2, acc, hacc, la, hd⟩
      rw [lx, List.take_length] at hd
      exact q D acc G s2 hacc hd
theorem ok_tlB {f : Addr} {fd : FuncData} (T : Bj mg) (TN : PySem.Tide.TideTxt P K mg "BadNotice" CN fN "at") (TV : PySem.Tide.TideTxt P K mg "BadValue" CV fV "why") (F : Fun K "tell" "Session.tell" sTl f fd) : FnOk P w K mg base (L2.CX P w) 4 f fd pTl (spTlB CN CV) := by
  have nd := scTl.nd
  refine F.okX scTl (fun vs H Q E h => ?_) (fun cdv A outer s H vs Q E hr h => ?_)
  · obtain ⟨s, x, y, rfl, _⟩ := h
    rfl
  · obtain ⟨s, x, y, rfl, h⟩ := h
    refine ⟨_, (pss_cons (ps_if (pt_not (pt_val (pe_callB (call_isiTK (K := K) rfl) (by rfl) T.isinstance PyProof.Rows.boot_isinstance (pa_cons (pv 1) (pa_cons (pe_tup (pa_cons (pe_bltn (v := .ty "list") rfl T.list PyProof.Rows.boot_list rfl) (pa_cons (pe_bltn (v := .ty "tuple") rfl T.tuple PyProof.Rows.boot_tuple rfl) pa_nil))) pa_nil)))))
  (pss_one (ps_raiseTide rfl TN hr (takes_of rfl rfl rfl rfl) (pa_cons (pe_un un_neg pe_int) pa_nil)))
  pss_nil)
 (pss_cons (ps_if (pt_not (pt_val (pe_callB (call_isiK1 (K := K) rfl) (by rfl) T.isinstance PyProof.Rows.boot_isinstance (pa_cons (pv 2) (pa_cons (pe_bltn (v := .ty "bool") rfl T.bool PyProof.Rows.boot_bool rfl) pa_nil)))))
  (pss_one (ps_raiseTide rfl TV hr (takes_of rfl rfl rfl rfl) (pa_cons pe_str pa_nil)))
  pss_nil)
 pss_any)), ?_⟩
    refine ⟨_, rfl, lt1 _ (by show 2 ≤ 100000; decide), fun tp ntp => ?_⟩
    have s2 := same_new ntp (o := .tup [.ty "list", .ty "tuple"])
    have htp : (upd H tp (.tup [.ty "list", .ty "tuple"])) tp = some (.tup [.ty "list", .ty "tuple"]) := upd_same
    generalize upd H tp (.tup [.ty "list", .ty "tuple"]) = H2 at s2 htp
    rcases h with ⟨d, hd, hq, er⟩ | ⟨d, n, hd, hq, rfl, er⟩
    · refine ⟨x, tp, [.ty "list", .ty "tuple"], .type _, [.type "list", .type "tuple"], isSeq d, rfl, htp, .cons (.ty _) (.cons (.ty _) .nil), (hd.same s2).ty, kit_seq d, _, rfl, ?_⟩
      rw [hq]
      exact itbT rfl ⟨_, rfl, _, rfl, er.go s2⟩
    · refine ⟨x, tp, [.ty "list", .ty "tuple"], .type _, [.type "list", .type "tuple"], isSeq d, rfl, htp, .cons (.ty _) (.cons (.ty _) .nil), (hd.same s2).ty, kit_seq d, _, rfl, ?_⟩
      rw [hq]
      refine itbF rfl ?_
      refine ⟨_, rfl, .int n, .ty "bool", .type "int", .type "bool", false, rfl, .ty _, .base (.int n), kit_ty (by decide +kernel), _, rfl, itbT rfl ?_⟩
      exact ⟨_, rfl, er.go s2⟩
theorem ok_tl {f : Addr} {fd : FuncData} (T : Bj mg) (ts : ClS K mg SC) (F : Fun K "tell" "Session.tell" sTl f fd) : FnOk P w K mg base CX0 4 f fd pTl (spTl SC) := by
  have nd := scTl.nd
  refine F.ok scTl (fun vs H Q E h => ?_) (fun cdv A outer s H vs Q E hr h => ?_)
  · obtain ⟨p, dx, fo, tt, a, b, rfl, _⟩ := h
    rfl
  · obtain ⟨p, dx, fo, tt, a, b, rfl, hp, ha, q⟩ := h
    refine ⟨_, (pss_cons (ps_if (pt_not (pt_val (pe_callB (call_isiTK (K := K) rfl) (by rfl) T.isinstance PyProof.Rows.boot_isinstance (pa_cons (pv 1) (pa_cons (pe_tup (pa_cons (pe_bltn (v := .ty "list") rfl T.list PyProof.Rows.boot_list rfl) (pa_cons (pe_bltn (v := .ty "tuple") rfl T.tuple PyProof.Rows.boot_tuple rfl) pa_nil))) pa_nil)))))
  pss_any
  pss_nil)
 (pss_cons (ps_if (pt_not (pt_val (pe_callB (call_isiK1 (K := K) rfl) (by rfl) T.isinstance PyProof.Rows.boot_isinstance (pa_cons (pv 2) (pa_cons (pe_bltn (v := .ty "bool") rfl T.bool PyProof.Rows.boot_bool rfl) pa_nil)))))
  pss_any
  pss_nil)
 (pss_cons (ps_set (i := 3) nd rfl (Or.inl rfl) (pe_fld (pv 0) rfl))
 (pss_cons (ps_for PassesOwn.never rfl (pi_enumSK (K := K) rfl (by rfl) T.enumerate (pa_cons (pv 1) pa_nil)) (pg_tup rfl (pgs_cons (pg_name (i := 4) nd rfl (Or.inl rfl)) (pgs_cons (pg_name (i := 5) nd rfl (Or.inl rfl)) pgs_nil)))
  pss_any)
 (pss_cons (ps_fld (pv 0) (pv 3) rfl)
 (pss_one (ps_ret pe_non))))))), ?_⟩
    refine ⟨_, rfl, lt1 _ (by show 2 ≤ 100000; decide), fun tp ntp => ?_⟩
    have s2 := same_new ntp (o := .tup [.ty "list", .ty "tuple"])
    have htp : (upd H tp (.tup [.ty "list", .ty "tuple"])) tp = some (.tup [.ty "list", .ty "tuple"]) := upd_same
    generalize upd H tp (.tup [.ty "list", .ty "tuple"]) = H2 at s2 htp
    have hp2 := s2 _ _ hp
    have ha2 := s2 _ _ ha
    refine ⟨.ref a, tp, [.ty "list", .ty "tuple"], .type "tuple", [.type "list", .type "tuple"], true, rfl, htp, .cons (.ty _) (.cons (.ty _) .nil), .base (.tup ha2), kit_seq (.tuple []), _, rfl, itbF rfl ?_⟩
    refine ⟨_, rfl, .bl b, .ty "bool", .type "bool", .type "bool", true, rfl, .ty _, .base (.bl b), kit_ty (by decide +kernel), _, rfl, itbF rfl ?_⟩
    refine ⟨_, rfl, p, SC, dx, _, _, rfl, hp2, ts.cl, ts.nT, se_tt, ?_⟩
    refine ⟨_, rfl, a, [], rfl, for_enumS (K := K) (H0 := H2) (a := a) (xs := []) (tb := fun _ _ _ => False) (.inr (st ha2)) (fun i σ G => σ = [some (.ref p), some (.ref a), some (.bl b), some (.ref tt), none, none] ∧ Same H2 G) ?_ ?_ ?_ ?_⟩
    · exact ⟨rfl, fun _ _ h => h⟩
    · rintro i σ G ⟨rfl, s3⟩
      exact s3
    · rintro i x σ G T' hx
      cases hx
    · rintro σ G ⟨rfl, s3⟩
      have hp3 := s3 _ _ hp2
      refine ⟨_, rfl, _, rfl, p, SC, dx, _, rfl, hp3, ts.cl, ts.nT, by show 2 < 1000; decide, ?_⟩
      refine q _ fun b o nb hb => ?_
      rw [upd_ne nb]; exact s3 _ _ (s2 _ _ hb)
end
end K1


set_option Elab.async false
set_option linter.all false
set_option maxRecDepth 100000
set_option maxHeartbeats 4000000
/-! Lambdas with one default: how they are made. -/
namespace LamD
open PySem PySem.Spec PySem.Calls PyProof.Rows PySem.W
/-- a lambda's function object, its defaults at dV -/
abbrev fnD (dV : Value) (name qual : Str) (params : Arguments) (body : Expr) (scope : Scope) (cl : List (Str × Addr)) (pm cdv ct : Value) : FuncData := { kla_fn name qual params body scope cl pm cdv ct with defaults := dV }
abbrev objD (dV : Value) (name qual : Str) (params : Arguments) (body : Expr) (scope : Scope) (cl : List (Str × Addr)) (pm : Value) (cdv ct : Value) : Obj := { cls := .type "function", data := .func (fnD dV name qual params body scope cl pm cdv ct) }
section
variable {M : Model} {A : Around} {E : Value → Shared → Prop} {s : Shared} {name qual : Str} {params : Arguments} {body : Expr} {scope : Scope} {env : Env} {c P : Addr} {ps : Array Value} {pos : Pos} {firstLine : Nat} {mg : Str → Option Value}
  {clos : List (Str × Addr)} {Q : Value → Shared → Prop} {dV : Value}
theorem tail_new (hcl : closureFor scope env = pure clos) (hge0 : env.globals = mainGlobals) (hg : s.heap.Ns mainGlobals mg) (hcode : env.code = .ref c) (C : CodeHd s.heap c P) (hP : s.heap.get? P = some (tabObj ps)) (ht : TriplesOk ps.toList)
    (hnf : codeAmong pos ps.toList = none) (hgP : mainGlobals ≠ P) (hb : s.heap.BuiltinsAt mg P)
    (h : ∀ c' ctv h' tk, Heap.ExtBut P s.heap h' → s.heap.objs.size ≤ c' → c' < h'.objs.size → h'.CodeRec (.ref c') qual → h'.get? P = some (tabObj (ps ++ #[rawInt pos.line, rawInt pos.col, .ref c'])) →
      Q (.ref h'.objs.size) { s with heap := h'.push (objD dV name qual params body scope clos ((mg "__name__").getD .none) (.ref c') ctv), toks := tk }) :
    wpAny M A (makeTail name qual params (.expr body) scope env dV .none none pos firstLine) Q E s := by
  obtain ⟨bm, ob, hbm, hne0, _, hneP, hbo, hcls, hdict, hdata⟩ := hb
  unfold makeTail
  rw [hcl, hge0]
  refine wpAny_bind (wpAny_pure ?_)
  by_cases e : clos.isEmpty = true
  · rw [if_pos e]
    obtain rfl : clos = [] := List.isEmpty_iff.mp e
    refine wpAny_bind (wpAny_pure (wpAny_bind (wpAny_functionCodeX hcode (C.code hP ht) (C.tab hP) hnf fun c' h' tk hx hge hlt _ hrec htb _ => ?_)))
    have hg' := hg.extBut hx hgP
    exact wpAny_bind (wpAny_builtinsFor hg' hbm hne0 (hx _ _ hneP hbo) hcls hdict hdata (wpAny_bind (wpAny_nsGet hg' (wpAny_bind (wpAny_pure (wpAny_newObj_type (h c' .none h' tk hx hge hlt hrec htb.2) (by size_fits)))))))
  · rw [if_neg e]
    refine wpAny_bind (wpAny_newTextTuple ?_)
    have k : ∀ b o, s.heap.get? b = some o → (s.heap.push { cls := .type "tuple", data := .seq (clos.map fun (_, a) => Value.ref a).toArray }).get? b = some o := fun b o e => Heap.get?_push_of_some _ e
    refine wpAny_bind (wpAny_functionCodeX hcode ((C.keeps fun b o e => Heap.get?_push_of_some _ e).code (Heap.get?_push_of_some _ hP) ht) ((C.keeps fun b o e => Heap.get?_push_of_some _ e).tab (Heap.get?_push_of_some _ hP)) hnf fun c' h' tk hx hge hlt _ hrec htb _ => ?_)
    have hg' := (hg.push _).extBut hx hgP
    have hx' : Heap.ExtBut P s.heap h' := fun b o hb' e => hx b o hb' (Heap.get?_push_of_some _ e)
    have hge' : s.heap.objs.size ≤ c' := Nat.le_trans (by rw [Heap.size_push]; omega) hge
    exact wpAny_bind (wpAny_builtinsFor hg' hbm hne0 (hx' _ _ hneP hbo) hcls hdict hdata (wpAny_bind (wpAny_nsGet hg' (wpAny_bind (wpAny_pure (wpAny_newObj_type (h c' _ h' tk hx' hge' hlt hrec htb.2) (by size_fits)))))))
theorem tail_hit {cv : Value} (hcl : closureFor scope env = pure clos) (hge0 : env.globals = mainGlobals) (hg : s.heap.Ns mainGlobals mg) (hcode : env.code = .ref c) (C : CodeHd s.heap c P) (hP : s.heap.get? P = some (tabObj ps)) (ht : TriplesOk ps.toList)
    (hf : codeAmong pos ps.toList = some cv) (hb : s.heap.BuiltinsAt mg P)
    (h : ∀ (ctv : Value) (h' : Heap) (tk : Tok), (∀ b o, s.heap.get? b = some o → h'.get? b = some o) → s.heap.objs.size ≤ h'.objs.size →
      Q (.ref h'.objs.size) { s with heap := h'.push (objD dV name qual params body scope clos ((mg "__name__").getD .none) cv ctv), toks := tk }) :
    wpAny M A (makeTail name qual params (.expr body) scope env dV .none none pos firstLine) Q E s := by
  obtain ⟨bm, ob, hbm, hne0, _, hneP, hbo, hcls, hdict, hdata⟩ := hb
  unfold makeTail
  rw [hcl, hge0]
  refine wpAny_bind (wpAny_pure ?_)
  by_cases e : clos.isEmpty = true
  · rw [if_pos e]
    obtain rfl : clos = [] := List.isEmpty_iff.mp e
    exact wpAny_bind (wpAny_pure (wpAny_bind (wpAny_functionCode_hit hcode (C.code hP ht) hf (wpAny_bind (wpAny_builtinsFor hg hbm hne0 hbo hcls hdict hdata (wpAny_bind (wpAny_nsGet hg (wpAny_bind (wpAny_pure (wpAny_newObj_type (h .none s.heap s.toks (fun _ _ e => e) (Nat.le_refl _)) (by size_fits)))))))))))
  · rw [if_neg e]
    refine wpAny_bind (wpAny_newTextTuple ?_)
    refine wpAny_bind (wpAny_functionCode_hit hcode ((C.keeps fun b o e => Heap.get?_push_of_some _ e).code (Heap.get?_push_of_some _ hP) ht) hf ?_)
    have hsz : ∀ oT : Obj, s.heap.objs.size ≤ (s.heap.push oT).objs.size := fun oT => by rw [Heap.size_push]; omega
    exact wpAny_bind (wpAny_builtinsFor (hg.push _) hbm hne0 (Heap.get?_push_of_some _ hbo) hcls hdict hdata (wpAny_bind (wpAny_nsGet (hg.push _) (wpAny_bind (wpAny_pure (wpAny_newObj_type (h _ _ s.toks (fun b o e => Heap.get?_push_of_some _ e) (hsz _)) (by size_fits)))))))
end
end LamD


set_option Elab.async false
set_option linter.all false
set_option maxRecDepth 100000
set_option maxHeartbeats 4000000
/-! Lambdas that are kept as things, and called from within a comprehension later. -/
namespace LamE
open PySem PySem.Spec PyProof.Rows L2 LamX LamY LamD
/-- a function object, all but the names of its module told -/
def FunH (mk : Value → Value → Obj) (f : Addr) : HO := .ext fun h => ∃ pm ctv, h.get? f = some (mk pm ctv)
def TupH (v : V) (a : Addr) : HO := .ext fun h => ∃ u, RelV v u ∧ h.get? a = some { cls := .type "tuple", data := .seq #[u] }
theorem funH_ok {P : Program} {w : World} {H : Hp} {h : Heap} {mk : Value → Value → Obj} {f : Addr} {pm ctv : Value} (e : h.get? f = some (mk pm ctv)) : ObjOk P w H h f (FunH mk f) :=
  ⟨⟨pm, ctv, e⟩, ⟨_, e⟩, fun _ _ ⟨pm, ctv, a⟩ st => ⟨pm, ctv, st _ a⟩⟩
theorem tupH_ok {P : Program} {w : World} {H : Hp} {h : Heap} {v : V} {u : Value} {f : Addr} (r : RelV v u) (e : h.get? f = some { cls := .type "tuple", data := .seq #[u] }) : ObjOk P w H h f (TupH v f) :=
  ⟨⟨u, r, e⟩, ⟨_, e⟩, fun _ _ ⟨u, r, a⟩ st => ⟨u, r, st _ a⟩⟩
theorem funH_ne {mk : Value → Value → Obj} {f : Addr} (ps : Array Value) : FunH mk f ≠ .tbl ps := fun z => by unfold FunH at z; cases z
theorem tupH_ne {v : V} {f : Addr} (ps : Array Value) : TupH v f ≠ .tbl ps := fun z => by unfold TupH at z; cases z
/-- the objects: without a default, with one that stands at dt -/
def mk0 (env : Env) (params : Arguments) (body : Expr) (scope : Scope) (c' : Addr) : Value → Value → Obj := fun pm ctv => PySem.W.kla_obj "<lambda>" (env.qual ++ "<lambda>") params body scope (cloFrom env.cells scope.names []) pm c' ctv
def mk1 (env : Env) (params : Arguments) (body : Expr) (scope : Scope) (c' dt : Addr) : Value → Value → Obj := fun pm ctv => objD (.ref dt) "<lambda>" (env.qual ++ "<lambda>") params body scope (cloFrom env.cells scope.names []) pm (.ref c') ctv
/-- the readings -/
def tFun (T : List (Addr × Str)) (env : Env) (params : Arguments) (body : Expr) (scope : Scope) : TE := fun σ H Q => Tabs T H ∧ ∀ f c' H1, ExtN H H1 → Tabs T H1 → H1 f = some (FunH (mk0 env params body scope c') f) → H1 c' = some (CodeO c' (env.qual ++ "<lambda>")) → Q (.ref f) H1
def tFun1 (T : List (Addr × Str)) (env : Env) (params : Arguments) (body : Expr) (scope : Scope) (v : V) : TE := fun σ H Q => Tabs T H ∧ ∀ f c' dt H1, ExtN H H1 → Tabs T H1 → H1 f = some (FunH (mk1 env params body scope c' dt) f) → H1 dt = some (TupH v dt) → H1 c' = some (CodeO c' (env.qual ++ "<lambda>")) → Q (.ref f) H1
section
variable {X : Cx} {pins : List (Addr × Obj)} {σ : L2.St} {H : Hp} {s : Shared}
/-- the table at P has got a code object of this name at c': what is told of tables stays -/
theorem tabs_more {T : List (Addr × Str)} {P c' : Addr} {q : Str} {ps : Array Value} {pos : Pos} (hu : ∀ p ∈ T, p.1 = P → p.2 = q) (hT : Tabs T H) (hP : H P = some (.tbl ps)) (ht : TriplesOk ps.toList) (ha : ∀ (p' : Pos) (cv : Value), codeAmong p' ps.toList = some cv → ∃ c, cv = .ref c ∧ H c = some (CodeO c q)) (nC : H c' = none) :
    ExtN H (upd (upd H P (.tbl (ps ++ #[rawInt pos.line, rawInt pos.col, .ref c']))) c' (CodeO c' q)) ∧ Tabs T (upd (upd H P (.tbl (ps ++ #[rawInt pos.line, rawInt pos.col, .ref c']))) c' (CodeO c' q)) := by
  have eL : (ps ++ #[rawInt pos.line, rawInt pos.col, .ref c']).toList = ps.toList ++ [rawInt pos.line, rawInt pos.col, .ref c'] := by simp
  have hE : ExtN H (upd (upd H P (.tbl (ps ++ #[rawInt pos.line, rawInt pos.col, .ref c']))) c' (CodeO c' q)) := fun b o e n => by
    rw [upd_ne (ne_of_none e nC), upd_ne (fun z => by rw [z, hP] at e; exact n ps (Option.some.inj e).symm)]
    exact e
  refine ⟨hE, fun p hp => ?_⟩
  by_cases hb : p.1 = P
  · refine ⟨_, by rw [hb, upd_ne (ne_of_none hP nC), upd_same], by rw [eL]; exact PySem.TriplesOk_snoc _ _ _ _ ht, fun p' cv hcv => ?_⟩
    rw [eL] at hcv
    rw [hu p hp hb]
    exact (among_app _ ht hcv).elim (fun z => let ⟨c0, e1, e2⟩ := ha p' cv z; ⟨c0, e1, hE _ _ e2 codeO_ne⟩) fun z => ⟨c', z, upd_same⟩
  · obtain ⟨ps', a1, a2, a3⟩ := hT p hp
    exact ⟨ps', by rw [upd_ne (ne_of_none a1 nC), upd_ne hb]; exact a1, a2, fun p' cv hcv => let ⟨c0, e1, e2⟩ := a3 p' cv hcv; ⟨c0, e1, hE _ _ e2 codeO_ne⟩⟩
/-- without a default -/
theorem pe_fun {T : List (Addr × Str)} {c P : Addr} {params : Arguments} {body : Expr} {scope : Scope} {pos : Pos} (TB : TabB X.base X.mg c P) (hcode : X.env.code = .ref c) (hm : (P, X.env.qual ++ "<lambda>") ∈ T) (hu : ∀ p ∈ T, p.1 = P → p.2 = X.env.qual ++ "<lambda>")
    (L : LamS X.env.scope scope) (hdef : defaultsOf params X.env = ([], [])) : PE X (.Lambda params body scope pos) (tFun T X.env params body scope) := by
  refine ⟨fun pins s σ H Q I h => ?_⟩
  obtain ⟨hT, h⟩ := h
  obtain ⟨ps, hP, ht, ha⟩ := hT _ hm
  refine PySem.W.kla_eval hdef ?_
  have bP : s.heap.BuiltinsAt X.mg P := TB.bm.keeps I.bk
  have hP' : s.heap.get? P = some { cls := .none, data := .fields ps } := I.hok P _ hP
  cases hc : codeAmong pos ps.toList with
  | none =>
    refine PySem.W.kla_makeFunction (mg := X.mg) (c := c) (P := P) (ps := ps) (closure_ok (L.has I.ok)) I.ok.glob (I.mod.glob.keeps I.bk) hcode (TB.code.keeps I.bk) hP' ht hc TB.gP bP fun c' ctv h' tk hx hge hlt hrec htb => ?_
    obtain ⟨c2, oc, vs, t, e2, hoc, hd, hv⟩ := hrec
    cases e2
    have nC : H c' = none := I.hok.fresh hge
    obtain ⟨hE, hT1⟩ := tabs_more (pos := pos) hu hT hP ht ha nC
    have I1 := inv_table (t' := tk) (more := #[rawInt pos.line, rawInt pos.col, .ref c']) (h' := h') I hP hx htb hge ⟨oc, vs, t, hoc, hd, hv⟩
    have I2 := I1.laid (t' := tk) (h' := h'.push (PySem.W.kla_obj "<lambda>" (X.env.qual ++ "<lambda>") params body scope (cloFrom X.env.cells scope.names []) ((X.mg "__name__").getD .none) c' ctv)) (a := h'.objs.size) (o := FunH (mk0 X.env params body scope c') h'.objs.size)
      (fun b o e => Heap.get?_push_of_some _ e) (Nat.le_refl _) (funH_ok (mk := mk0 X.env params body scope c') (pm := (X.mg "__name__").getD .none) (ctv := ctv) (Heap.get?_push_size _ rfl))
    have nf := I1.hok.fresh (a := h'.objs.size) (Nat.le_refl _)
    have s2 := K1.same_new nf (o := FunH (mk0 X.env params body scope c') h'.objs.size)
    exact ⟨.ref h'.objs.size, _, I2, rfl, h _ c' _ (hE.trans (ExtN.of s2)) (hT1.ext s2) upd_same (s2 _ _ upd_same)⟩
  | some cv =>
    obtain ⟨c', e, hco⟩ := ha pos cv hc
    subst e
    refine PySem.W.kla_makeFunctionHit (mg := X.mg) (c := c) (P := P) (ps := ps) (closure_ok (L.has I.ok)) I.ok.glob (I.mod.glob.keeps I.bk) hcode (TB.code.keeps I.bk) hP' ht hc bP fun ctv h' tk hx hsz => ?_
    have I2 := I.laid (t' := tk) (h' := h'.push (PySem.W.kla_obj "<lambda>" (X.env.qual ++ "<lambda>") params body scope (cloFrom X.env.cells scope.names []) ((X.mg "__name__").getD .none) c' ctv)) (a := h'.objs.size) (o := FunH (mk0 X.env params body scope c') h'.objs.size)
      (fun b o e => Heap.get?_push_of_some _ (hx b o e)) hsz (funH_ok (mk := mk0 X.env params body scope c') (pm := (X.mg "__name__").getD .none) (ctv := ctv) (Heap.get?_push_size _ rfl))
    have nf := I.hok.fresh hsz
    have s2 := K1.same_new nf (o := FunH (mk0 X.env params body scope c') h'.objs.size)
    exact ⟨.ref h'.objs.size, _, I2, rfl, h _ c' _ (ExtN.of s2) (hT.ext s2) upd_same (s2 _ _ hco)⟩
/-- with one default -/
theorem pe_fun1 {T : List (Addr × Str)} {c P : Addr} {params : Arguments} {body dE : Expr} {v : V} {scope : Scope} {pos : Pos} (TB : TabB X.base X.mg c P) (hcode : X.env.code = .ref c) (hm : (P, X.env.qual ++ "<lambda>") ∈ T) (hu : ∀ p ∈ T, p.1 = P → p.2 = X.env.qual ++ "<lambda>")
    {xp : Str} (L : LamS1 X.env.scope scope xp) (hdef : defaultsOf params X.env = ([eval dE X.env], [])) (hdv : PE X dE (tC v)) : PE X (.Lambda params body scope pos) (tFun1 T X.env params body scope v) := by
  refine ⟨fun pins s σ H Q I h => ?_⟩
  obtain ⟨hT, h⟩ := h
  rw [arm_eval_Lambda, hdef]
  show wpAny _ _ (do let dv ← evalAll [eval dE X.env]; let kdv ← holding dv (evalAllOpt []); makeFunction "<lambda>" (X.env.qual ++ "<lambda>") params (.expr body) scope X.env dv kdv [] pos pos.line) _ _ _
  refine wpAny_bind ?_
  show wpAny _ _ (do let u ← eval dE X.env; let us ← holding [u] (evalAll []); pure (u :: us)) _ _ _
  refine wpAny_bind (thn (hdv.run pins s σ H (fun x H1 => x = v ∧ H1 = H) I ⟨rfl, rfl⟩) fun u s1 ⟨x, H1, I1, ru, ex, eH⟩ => ?_)
  subst ex eH
  refine wpAny_bind (wpAny_holding (wpAny_pure (wpAny_pure (wpAny_bind (wpAny_holding (wpAny_pure ?_))))))
  rw [makeFunction_eq]
  simp only [List.zip_nil_right, List.filterMap_nil, List.isEmpty_nil, List.isEmpty_cons, if_true, Bool.false_eq_true, if_false, pure_bind]
  refine wpAny_bind (wpAny_newTextTuple ?_)
  have nd : H1 s1.heap.objs.size = none := I1.hok.fresh (Nat.le_refl _)
  have I2 := I1.laid (t' := s1.toks) (h' := s1.heap.push { cls := .type "tuple", data := .seq #[u] }) (a := s1.heap.objs.size) (o := TupH x s1.heap.objs.size) (fun b o e => Heap.get?_push_of_some _ e) (Nat.le_refl _) (tupH_ok ru (Heap.get?_push_size _ rfl))
  have sD := K1.same_new nd (o := TupH x s1.heap.objs.size)
  have hD : (upd H1 s1.heap.objs.size (TupH x s1.heap.objs.size)) s1.heap.objs.size = some (TupH x s1.heap.objs.size) := upd_same
  have hT2 := hT.ext sD
  generalize hs2 : ({ s1 with heap := s1.heap.push { cls := .type "tuple", data := .seq #[u] }, toks := s1.toks } : Shared) = s2 at I2 ⊢
  generalize s1.heap.objs.size = dt at I2 sD hD hT2 nd
  generalize upd H1 dt (TupH x dt) = H2 at I2 sD hD hT2
  obtain ⟨ps, hP, ht, ha⟩ := hT2 _ hm
  have bP : s2.heap.BuiltinsAt X.mg P := TB.bm.keeps I2.bk
  have hP' : s2.heap.get? P = some { cls := .none, data := .fields ps } := I2.hok P _ hP
  cases hc : codeAmong pos ps.toList with
  | none =>
    refine tail_new (mg := X.mg) (c := c) (P := P) (ps := ps) (closure_ok (L.has I.ok)) I2.ok.glob (I2.mod.glob.keeps I2.bk) hcode (TB.code.keeps I2.bk) hP' ht hc TB.gP bP fun c' ctv h' tk hx hge hlt hrec htb => ?_
    obtain ⟨c2, oc, vs, t, e2, hoc, hd, hv⟩ := hrec
    cases e2
    have nC : H2 c' = none := I2.hok.fresh hge
    obtain ⟨hE, hT3⟩ := tabs_more (pos := pos) hu hT2 hP ht ha nC
    have I3 := inv_table (t' := tk) (more := #[rawInt pos.line, rawInt pos.col, .ref c']) (h' := h') I2 hP hx htb hge ⟨oc, vs, t, hoc, hd, hv⟩
    have I4 := I3.laid (t' := tk) (h' := h'.push (objD (.ref dt) "<lambda>" (X.env.qual ++ "<lambda>") params body scope (cloFrom X.env.cells scope.names []) ((X.mg "__name__").getD .none) (.ref c') ctv)) (a := h'.objs.size) (o := FunH (mk1 X.env params body scope c' dt) h'.objs.size)
      (fun b o e => Heap.get?_push_of_some _ e) (Nat.le_refl _) (funH_ok (mk := mk1 X.env params body scope c' dt) (pm := (X.mg "__name__").getD .none) (ctv := ctv) (Heap.get?_push_size _ rfl))
    have nf := I3.hok.fresh (a := h'.objs.size) (Nat.le_refl _)
    have s4 := K1.same_new nf (o := FunH (mk1 X.env params body scope c' dt) h'.objs.size)
    have e24 := hE.trans (ExtN.of s4)
    exact ⟨.ref h'.objs.size, _, I4, rfl, h _ c' dt _ ((ExtN.of sD).trans e24) (hT3.ext s4) upd_same (e24 _ _ hD tupH_ne) (s4 _ _ upd_same)⟩
  | some cv =>
    obtain ⟨c', e, hco⟩ := ha pos cv hc
    subst e
    refine tail_hit (mg := X.mg) (c := c) (P := P) (ps := ps) (closure_ok (L.has I.ok)) I2.ok.glob (I2.mod.glob.keeps I2.bk) hcode (TB.code.keeps I2.bk) hP' ht hc bP fun ctv h' tk hx hsz => ?_
    have I4 := I2.laid (t' := tk) (h' := h'.push (objD (.ref dt) "<lambda>" (X.env.qual ++ "<lambda>") params body scope (cloFrom X.env.cells scope.names []) ((X.mg "__name__").getD .none) (.ref c') ctv)) (a := h'.objs.size) (o := FunH (mk1 X.env params body scope c' dt) h'.objs.size)
      (fun b o e => Heap.get?_push_of_some _ (hx b o e)) hsz (funH_ok (mk := mk1 X.env params body scope c' dt) (pm := (X.mg "__name__").getD .none) (ctv := ctv) (Heap.get?_push_size _ rfl))
    have nf := I2.hok.fresh hsz
    have s4 := K1.same_new nf (o := FunH (mk1 X.env params body scope c' dt) h'.objs.size)
    exact ⟨.ref h'.objs.size, _, I4, rfl, h _ c' dt _ (ExtN.of (fun b o e => s4 b o (sD b o e))) (hT2.ext s4) upd_same (s4 _ _ hD) (s4 _ _ hco)⟩
end
end LamE


set_option Elab.async false
set_option linter.all false
set_option maxRecDepth 100000
set_option maxHeartbeats 4000000
namespace LamE
open PySem PySem.Spec PyProof.Rows L2 LamX LamY LamD
section
variable {X : Cx} {pins : List (Addr × Obj)} {σ : L2.St} {HZ : Hp} {sZ : Shared} {CXg : CXT} {Eg : XK} {Ng : List Str} {qg : Str} {sg : Scope} {g f c' dt : Addr} {cdg : Value} {params : Arguments} {body : Expr} {scope : Scope} {xp a : Str} {v : V} {k i : Nat} {pn : List (Addr × Obj)} {xe : Value → Shared → Prop} {W : WX} {E : XK} {tb : TE} {p1 p2 : Pos}
/-- x() in a def that was entered at (sZ, HZ), where X's facts hold -/
theorem pe_actV (IX : Inv X pins σ HZ sZ) (L : LamS X.env.scope scope) (hbind : ∀ pm ctv, bindArgs (PySem.W.kla_fn "<lambda>" (X.env.qual ++ "<lambda>") params body scope (cloFrom X.env.cells scope.names []) pm (.ref c') ctv) ⟨[], []⟩ = pure [])
    (tk : Takes ((cxOf CXg X.prog X.w X.K X.mg X.base Ng qg sg g cdg X.A X.stack sZ HZ Eg).tr pn xe) W) (hW : ∀ cls d σ' H', E cls d H' → W cls d σ' H') (hr : Room (k + 1) (X.A.deeper (envOfC qg sg sZ.heap.objs.size g cdg)))
    (hbody : ∀ (A : Around) (outer : List Env) (s : Shared) (H : Hp), Room k (A.deeper (lamEnv X scope s.heap.objs.size f c')) → PE (lamCx X A outer s H E scope f c') body tb)
    (hN : Ng[i]? = some a) (hv : Vis sg a) (hd : (a == ("__debug__" : Str)) = false := by decide) (hcd : (a == ("__classdict__" : Str)) = false := by decide) :
    PE ((cxOf CXg X.prog X.w X.K X.mg X.base Ng qg sg g cdg X.A X.stack sZ HZ Eg).tr pn xe) (.Call (.Name a p1) [] [] p2)
      (fun σg Hg Q => σg[i]? = some (some (.ref f)) ∧ Hg c' = some (CodeO c' (X.env.qual ++ "<lambda>")) ∧ Hg f = some (FunH (mk0 X.env params body scope c') f) ∧ tb σ Hg Q) := by
  refine ⟨fun pg sg' σg Hg Q IG ⟨hs, hc, hf, ht⟩ => ?_⟩
  refine wpAny_Call_Name_kw (thn ((pe_var (pos := p1) (i := i) hN hv hd hcd).run pg sg' σg Hg (fun v H1 => v = .ref f ∧ H1 = Hg) IG ⟨.ref f, hs, rfl, rfl⟩) fun uf s1 ⟨v1, H1, I1, r1, ev, eH⟩ => ?_)
  subst ev eH
  obtain rfl : uf = Value.ref f := r1
  obtain ⟨⟨pm, ctv, of1⟩, _, _⟩ := I1.hok f _ hf
  obtain ⟨⟨oc, vs, t, hoc, hdc, hvc⟩, _, _⟩ := I1.hok c' _ hc
  refine PySem.W.callWith_F0 ⟨_, _, _, _, of1⟩ ?_
  have un : Un (frs X.stack) [] HZ H1 sZ.heap s1.heap := I1.base
  have rc : codeAny (model X.prog X.w) (X.A.deeper (envOfC qg sg sZ.heap.objs.size g cdg)) (.call (.ref f) ⟨[], []⟩) (CR (L2.CX X.prog X.w) (envOfC qg sg sZ.heap.objs.size g cdg :: X.stack) X.prog X.w H1 s1 Q E) s1 := by
    refine PySem.W.kla_callFunE hr.depth of1 rfl L.co L.gen rfl ⟨c', oc, vs, t, rfl, hoc, hdc, hvc⟩ ?_
    rw [hbind]
    refine wpAny_pure (wpAny_newFunctionEnv (fun y hy => (L.own y hy).2) (fun y hy => by cases hy) (fun h₁ hns hsb => ⟨I1.nolimit.fresh _ hsb, ?_⟩) L.kind)
    have kp : ∀ b o, s1.heap.get? b = some o → h₁.get? b = some o := fun b o e => hsb.extBut b o (Nat.ne_of_lt (Heap.lt_size e)) (Heap.get?_push_of_some _ e)
    have J := lam_start2 (E := E) (f := f) (c' := c') (h₁ := h₁) (tk := s1.toks + ([] : List (Str × Value)).length) IX L I1.env0 hr.hd un hns kp
    exact PySem.W.kla_codeExpr (wpAny_mono ((hbody _ _ s1 H1 (hr.deeper _)).run [] _ _ H1 Q J ht) (fun v s' ⟨w', H', J', rv, q⟩ => ⟨w', H', J'.os, J'.bare, J'.base, J'.hok, rv, q⟩) fun e s' hq => hq)
  refine wpAny_call (codeAny_mono rc fun r s' hq => ?_)
  cases r with
  | error e => exact passes_call tk hW pg σg H1 s1 e s' I1 hq
  | ok fl => cases fl <;> first | exact I1.after hq | exact False.elim hq
end
end LamE


set_option Elab.async false
set_option linter.all false
set_option maxRecDepth 100000
set_option maxHeartbeats 4000000
/-! For the end: own errors, defs whose lambdas stand in a table (taken from k31's F11 and F15). -/
namespace K1
open PySem PySem.Spec PyProof.Rows L2
def AtC (K : PySem.W.Frag) (mg : Str → Option Value) (x : Str) (st : Stmt) (c : Addr) : Prop := ∃ (f : Addr) (oc : Value) (od : Option Addr) (kV doc pm : Value) (an : Option Addr) (ct : Value) (osl : Array (Option Value)),
  mg x = some (.ref f) ∧ PySem.W.keepIn K (.ref f) = true ∧ K.lookup f = some ⟨oc, od, .func (PySem.W.fnOf x x (defArgs st) (defBody st) (defScope st) .none kV doc pm an (.ref c) ct), osl⟩ ∧ PySem.W.codeIn K (.ref c) x = true
section
variable {K : PySem.W.Frag} {h : Heap} {mg : Str → Option Value}
theorem atC_mk {x : Str} {st : Stmt} {f co : Addr} {oc : Value} {od an : Option Addr} {osl : Array (Option Value)} {kV doc pm ct : Value} (X : K.In h) (G : h.Ns mainGlobals mg) (a : PySem.W.nsIn K mainGlobals x = some (some (.ref f)))
    (l : K.lookup f = some ⟨oc, od, .func (PySem.W.fnOf x x (defArgs st) (defBody st) (defScope st) .none kV doc pm an (.ref co) ct), osl⟩) (c : PySem.W.codeIn K (.ref co) x = true) (k : PySem.W.keepIn K (.ref f) = true) : AtC K mg x st co :=
  ⟨f, oc, od, kV, doc, pm, an, ct, osl, PySem.W.mg_of X G a, k, l, c⟩
theorem exm_own {S : Addr} (h1 : PySem.W.subIn K (.ref S) (.type "BaseException") = some true) (h2 : PySem.W.isClsIn K S = true) (h3 : PySem.W.typeIn K (.ref S) = some (.type "type")) (h4 : PySem.W.subIn K (.ref S) (.ref S) = some true) :
    PySem.W.exmOne K (.ref S) (.ref S) = some true := by
  unfold PySem.W.exmOne
  unfold PySem.W.kitCls
  unfold PySem.W.isClsIn at h2
  simp only [h1, h2, h3, h4]
  simp
theorem exm_other {R S : Addr} (h1 : PySem.W.subIn K (.ref S) (.type "BaseException") = some true) (h2 : PySem.W.isClsIn K S = true) (h3 : PySem.W.typeIn K (.ref S) = some (.type "type")) (h4 : PySem.W.subIn K (.ref R) (.ref S) = some false) :
    PySem.W.exmOne K (.ref R) (.ref S) = some false := by
  unfold PySem.W.exmOne
  unfold PySem.W.kitCls
  unfold PySem.W.isClsIn at h2
  simp only [h1, h2, h3, h4]
  simp
theorem tide_mk {prog : Program} {x fl qual tx : Str} {C fI cda cc : Addr} {nm q : Str} {N : Addr} {bs BM : List Value} {sn : List Str} {sub : List Value} {ab : Bool} {col : Option Bool} {dd : Option Addr} {m0 m1 m2 m3 m5 : Option Value}
    {oc doc pm ct ccl cl : Value} {od an cdd cld : Option Addr} {osl ccs csl : Array (Option Value)} {j : Nat} {p1 p2 q1 q2 q3 q4 q5 q6 q7 q8 q9 q10 : Pos} {vs : Array Value} {file : Str} {tf : Tok} (X : K.In h) (G : h.Ns mainGlobals mg) (ok : PySem.Tide.FlOk fl)
    (ci : PySem.Tide.CallIs tx j q1 q2 q3 q4 q5) (htop : (prog.main.scope.names.lookup ("super" : Str)).isSome = false)
    (aC : PySem.W.nsIn K mainGlobals x = some (some (.ref C))) (xL : K.lookup C = some (PySem.excClassObj nm q C N bs BM true sn sub ab col dd m0 m1 m2 m3 m5 "ValueError.__new__")) (bm : PySem.HandSPX.refsVE BM = true)
    (sa : PySem.W.findIn K (.ref C) "__setattr__" = some (some (.builtin "object.__setattr__"))) (ga : PySem.W.findIn K (.ref C) "__getattribute__" = some (some (.builtin "BaseException.__getattribute__"))) (gg : PySem.W.findIn K (.ref C) "__getattr__" = some none) (nb : PySem.W.findIn K (.ref C) fl = some none)
    (a1 : PySem.W.findIn K (.ref C) "__init__" = some (some (.ref fI))) (t1 : PySem.W.typeIn K (.ref fI) = some (.type "function"))
    (l1 : K.lookup fI = some ⟨oc, od, .func (PySem.W.ksFn "__init__" qual (PySem.Tide.iA fl p1 p2) (PySem.Tide.iB fl tx j q1 q2 q3 q4 q5 q6 q7 q8 q9 q10) (PySem.Tide.iS fl) .none .none doc pm an (.ref cda) ct cc), osl⟩) (c1 : PySem.W.codeIn K (.ref cda) qual = true)
    (n1 : K.lookup cda = some ⟨ccl, cdd, .fields vs, ccs⟩) (n2 : vs[2]? = some (.str file tf)) (n3 : ((prog.main.file : Str) == file) = true) (n4 : K.lookup cc = some ⟨cl, cld, .cell (some (.ref C)), csl⟩)
    (kC : PySem.W.keepIn K (.ref C) = true) (eC : PySem.W.subIn K (.ref C) (.type "BaseException") = some true) (tC : PySem.W.typeIn K (.ref C) = some (.type "type")) (hC : PySem.W.hasDictIn K C = true) (iC : PySem.W.isClsIn K C = true) (sC : PySem.W.subIn K (.ref C) (.ref C) = some true)
    (su : PySem.W.ks_superIn K C C "__init__" = some (some (.builtin "ValueError.__init__"))) (vC : PySem.W.subIn K (.ref C) (.type "ValueError") = some true) (mC : PySem.W.mroIn K C (.ref C) = some true) (tpa : PySem.W.nsIn K PySem.cStatics "thirdparty.any" = some none)
    (ns : PySem.W.nsIn K mainGlobals "super" = some none) : PySem.Tide.TideTxt prog K mg x C fI fl :=
  { gC := PySem.W.mg_of X G aC, ok := ok, cls := ⟨nm, q, N, bs, BM, sn, sub, ab, col, dd, m0, m1, m2, m3, m5, xL, bm⟩, sa := sa, ga := ga, gg := gg, noN := nb, iC := a1, tC := t1, kC := kC, exC := eC, tyC := tC, hdC := hC, te := exm_own eC iC tC sC, sup := su, isV := vC, self_ := mC, tpa := tpa,
    nsu := PySem.W.mg_none_of X G ns, htop := htop,
    fn := ⟨oc, od, doc, pm, ct, an, osl, qual, tx, j, p1, p2, q1, q2, q3, q4, q5, q6, q7, q8, q9, q10, cda, cc, l1, c1, ci, ⟨ccl, cdd, vs, ccs, file, tf, n1, n2, n3⟩, ⟨cl, cld, csl, n4⟩⟩ }
end
end K1


set_option Elab.async false
set_option linter.all false
set_option maxRecDepth 100000
set_option maxHeartbeats 8000000
/-! k23: _law_refused, asked of lambdas that are kept in a list. -/
namespace K1
open PySem PySem.Spec PyProof.Rows L2 RZ StX LamE
abbrev sRf : Stmt := st__law_refused
abbrev nRf : List Str := ["_law_deed", "e"]
abbrev pRf : List Str := ["_law_deed"]
theorem scRf : FnScope nRf pRf (defScope sRf) := ⟨rfl, rfl, rfl, by decide +kernel, rfl, by decide +kernel, by decide +kernel⟩
def TRf (CF CN CV : Addr) : (XK → Hp → VK → Prop) → Hp → VK → Prop := fun tl H Q =>
  tl (fun cls d H' => (cls = .ref CF ∧ ∃ (dd : Addr) (v : V), d = some dd ∧ H' dd = some (.xd [("value", v)]) ∧ ∀ p, H' p = none → Q (.ref p) (upd H' p (.tup [.str "folder", v]))) ∨
    (cls = .ref CN ∧ ∃ (dd : Addr) (v : V), d = some dd ∧ H' dd = some (.xd [("at", v)]) ∧ ∀ p, H' p = none → Q (.ref p) (upd H' p (.tup [.str "notice", v]))) ∨
    (cls = .ref CV ∧ ∃ (dd : Addr) (v : V), d = some dd ∧ H' dd = some (.xd [("why", v)]) ∧ ∀ p, H' p = none → Q (.ref p) (upd H' p (.tup [.str "value", v])))) H (fun _ H' => Q .non H')
structure RfK (P : Program) (K : PySem.W.Frag) (mg : Str → Option Value) (CF CN CV : Addr) : Prop where
  at_ : At K mg "_law_refused" sRf
  TF : ∃ f, PySem.Tide.TideTxt P K mg "BadFolder" CF f "value"
  TN : ∃ f, PySem.Tide.TideTxt P K mg "BadNotice" CN f "at"
  TV : ∃ f, PySem.Tide.TideTxt P K mg "BadValue" CV f "why"
  nf : PySem.W.exmOne K (.ref CN) (.ref CF) = some false
  vf : PySem.W.exmOne K (.ref CV) (.ref CF) = some false
  vn : PySem.W.exmOne K (.ref CV) (.ref CN) = some false
theorem rf_gives {X : Cx} {q : Str} {g CF CN CV fF fN fV : Addr} {cdg : Value} (TF : PySem.Tide.TideTxt X.prog X.K X.mg "BadFolder" CF fF "value") (TN : PySem.Tide.TideTxt X.prog X.K X.mg "BadNotice" CN fN "at") (TV : PySem.Tide.TideTxt X.prog X.K X.mg "BadValue" CV fV "why")
    (e1 : PySem.W.exmOne X.K (.ref CN) (.ref CF) = some false) (e2 : PySem.W.exmOne X.K (.ref CV) (.ref CF) = some false) (e3 : PySem.W.exmOne X.K (.ref CV) (.ref CN) = some false) : LamX.GivesTo X nRf "_law_refused" (defScope sRf) g cdg (defBody sRf) "_law_deed" q (TRf CF CN CV) := by
  intro f c' s H Q tl act hc h
  refine ⟨_, pss_cons (ps_try_manyA (X := (cxOf C8.CX0 X.prog X.w X.K X.mg X.base nRf "_law_refused" (defScope sRf) g cdg X.A X.stack s H C8.E0).nox)
      (tb := fun W D σ H => ∃ Ech : XK, (∀ cls d σ' H', Ech cls d H' → W cls d σ' H') ∧ σ[0]? = some (some (.ref f)) ∧ H c' = some (LamX.CodeO c' q) ∧ tl Ech H (fun _ H' => D.nx σ H'))
      rfl rfl scRf.nd LamX.takes0 (fun W pn xe tk _ => ?_)
      (.named (i := 1) (c := .ref CF) rfl rfl ⟨rfl, by decide, .inl TF.gC⟩ (fun a oe cls d pn hz hf => pss_one (ps_ret (pe_tup (pa_cons pe_str (pa_cons (pe_byTide TF hz hf (pv 1) rfl) pa_nil)))))
      (.named (i := 1) (c := .ref CN) rfl rfl ⟨rfl, by decide, .inl TN.gC⟩ (fun a oe cls d pn hz hf => pss_one (ps_ret (pe_tup (pa_cons pe_str (pa_cons (pe_byTide TN hz hf (pv 1) rfl) pa_nil)))))
      (.named (i := 1) (c := .ref CV) rfl rfl ⟨rfl, by decide, .inl TV.gC⟩ (fun a oe cls d pn hz hf => pss_one (ps_ret (pe_tup (pa_cons pe_str (pa_cons (pe_byTide TV hz hf (pv 1) rfl) pa_nil))))) .nil)))) (pss_one (ps_ret pe_non)), ?_⟩
  · refine ⟨fun pins s' σ H' D I h' => ?_⟩
    obtain ⟨Ech, hW, h1, h2, h3⟩ := h'
    exact (pss_one (ps_expr (act W pn xe Ech _ _ tk hW))).run pins s' σ H' D I ⟨h1, h2, h3⟩
  · refine ⟨_, fun cls d σ' H' hE => ?_, rfl, hc, h⟩
    rcases hE with ⟨rfl, dd, v, rfl, hd, hq⟩ | ⟨rfl, dd, v, rfl, hd, hq⟩ | ⟨rfl, dd, v, rfl, hd, hq⟩
    · refine ⟨true, TF.te, fun _ hl a na => ?_, fun z => by cases z⟩
      exact ⟨_, List.getElem?_set_self hl, rfl, rfl, dd, v, rfl, hd, (by show 2 ≤ sizeLine; decide), fun p np => hq p np⟩
    · refine ⟨false, e1, (fun z => by cases z), fun _ => ⟨true, TN.te, fun _ hl a na => ?_, fun z => by cases z⟩⟩
      exact ⟨_, List.getElem?_set_self hl, rfl, rfl, dd, v, rfl, hd, (by show 2 ≤ sizeLine; decide), fun p np => hq p np⟩
    · refine ⟨false, e2, (fun z => by cases z), fun _ => ⟨false, e3, (fun z => by cases z), fun _ => ⟨true, TV.te, fun _ hl a na => ?_, fun z => by cases z⟩⟩⟩
      exact ⟨_, List.getElem?_set_self hl, rfl, rfl, dd, v, rfl, hd, (by show 2 ≤ sizeLine; decide), fun p np => hq p np⟩
/-- _law_refused(y), y one of n lambdas that were made here -/
def tRfV (i n : Nat) (env : Env) (lp : Nat → Arguments) (lb : Nat → Expr) (ls : Nat → Scope) (CF CN CV : Addr) (tb : Nat → XK → TE) : TE := fun σ H Q => ∃ (j : Nat) (f c' : Addr), j < n ∧ σ[i]? = some (some (.ref f)) ∧ H c' = some (LamX.CodeO c' (env.qual ++ "<lambda>")) ∧ H f = some (FunH (mk0 env (lp j) (lb j) (ls j) c') f) ∧
  TRf CF CN CV (fun E H' Q' => H' f = some (FunH (mk0 env (lp j) (lb j) (ls j) c') f) ∧ tb j E σ H' Q') H Q
theorem pe_rfV {X : Cx} {CF CN CV : Addr} {k i n : Nat} {y : Str} {p py pos : Pos} {lp : Nat → Arguments} {lb : Nat → Expr} {ls : Nat → Scope} {tb : Nat → XK → TE} (D : RfK X.prog X.K X.mg CF CN CV)
    (hg : Gl X "_law_refused") (hN : X.N[i]? = some y) (hv : Vis X.env.scope y) (hr : Room (k + 2) X.A)
    (hL : ∀ j < n, LamX.LamS X.env.scope (ls j)) (hbind : ∀ j < n, ∀ (q : Str) (cl : List (Str × Addr)) (pm cv ctv : Value), bindArgs (PySem.W.kla_fn "<lambda>" q (lp j) (lb j) (ls j) cl pm cv ctv) ⟨[], []⟩ = pure [])
    (hbody : ∀ j < n, ∀ (E : XK) (f c' : Addr) (A : Around) (outer : List Env) (s : Shared) (H : Hp), Room k (A.deeper (LamX.lamEnv X (ls j) s.heap.objs.size f c')) → PE (LamX.lamCx X A outer s H E (ls j) f c') (lb j) (tb j E))
    (hd : (y == ("__debug__" : Str)) = false := by decide) (hcd : (y == ("__classdict__" : Str)) = false := by decide) :
    PE X (.Call (.Name "_law_refused" p) [.Name y py] [] pos) (tRfV i n X.env lp lb ls CF CN CV tb) := by
  obtain ⟨⟨g, fd, hm, F⟩, ⟨fF, TF⟩, ⟨fN, TN⟩, ⟨fV, TV⟩, e1, e2, e3⟩ := D
  obtain ⟨oc, od, kV, doc, pm, an, cdv, ct, osl, rfl, lk, hcd'⟩ := F.ex
  have hb := F.binds (ps := ["_law_deed"]) fun _ _ _ _ _ _ us hl => match us, hl with | [_], _ => rfl
  refine ⟨fun pz sZ σZ HZ Q IZ ⟨j, f, c', hj, hs, hc, hf, hq⟩ => ?_⟩
  refine wpAny_Call_Name_kw (ld_glob IZ hg hm ?_ (by decide))
  refine PySem.W.callWith_K (h₀ := X.base) IZ.ok.mod.kin F.kp ?_ (by rfl) (by rfl)
  refine Calls.spliced_cons (thn ((pe_var (X := X) (pos := py) (i := i) hN hv hd hcd).run pz sZ σZ HZ (fun v H1 => v = .ref f ∧ H1 = HZ) IZ ⟨.ref f, hs, rfl, rfl⟩) fun uf s1 ⟨v1, H1, I1, r1, ev, eH⟩ => ?_)
  subst ev eH
  obtain rfl : uf = Value.ref f := r1
  refine Calls.spliced_nil ⟨I1.kIn, ?_⟩
  have rc : codeAny (model X.prog X.w) X.A (.call (.ref g) ⟨[.ref f], []⟩) (L2.CR C8.CX0 X.stack X.prog X.w H1 s1 Q C8.E0) s1 := by
    refine LamX.run_ofS (N := nRf) (ps := ["_law_deed"]) (us := [.ref f]) (vs := [.ref f]) lk hcd' scRf hr I1.env0 (hb s1 [.ref f] I1.kIn rfl) (.cons rfl .nil) rfl fun hr' => ?_
    obtain ⟨t', ht', hq'⟩ := rf_gives (X := X) (q := X.env.qual ++ "<lambda>") (g := g) (cdg := cdv) TF TN TV e1 e2 e3 f c' s1 H1 Q (fun E H' Q' => H' f = some (FunH (mk0 X.env (lp j) (lb j) (ls j) c') f) ∧ tb j E σZ H' Q')
      (fun W pn xe E p1 p2 tk hW => by
        have h0 := pe_actV (CXg := C8.CX0) (Eg := C8.E0) (Ng := nRf) (qg := "_law_refused") (sg := defScope sRf) (g := g) (f := f) (c' := c') (cdg := cdv) (params := lp j) (body := lb j) (scope := ls j) (k := k) (i := 0) (a := "_law_deed") (pn := pn) (xe := xe) (W := W) (E := E) (tb := fun σ0 => tb j E σ0) (p1 := p1) (p2 := p2) I1 (hL j hj) (fun pm ctv => hbind j hj _ _ _ _ _) tk hW hr' (fun A outer s H hr2 => hbody j hj E f c' A outer s H hr2) rfl (.inl rfl) (by decide) (by decide)
        exact ⟨fun pg sg' σg Hg Q' IG ⟨q1, q2, q3, q4⟩ => h0.run pg sg' σg Hg Q' IG ⟨q1, q2, q3, q4⟩⟩) hc hq
    exact ⟨t', ht'.nox, hq'⟩
  refine wpAny_call (codeAny_mono rc fun r s2 hq => ?_)
  cases r with
  | error e => exact (show False from hq).elim
  | ok fl => cases fl <;> first | exact I1.after hq | exact False.elim hq
end K1


set_option Elab.async false
set_option linter.all false
set_option maxRecDepth 100000
/-! != of two lists whose items are equal by an own == : False. -/
namespace K1
open PySem PySem.SeqAt PySem.Spec PyProof.Rows L2
open AutoSeq1 (wpAny_loadPart')
open MeetsSeq MeetsSeq2 MeetsSeq3 SeqRoads2
section
variable {prog : Program} {w : World} {A : Around} {R : Result → Shared → Prop}
theorem neLoop {l b : Addr} {N : Nat} {J : Nat → Shared → Prop} (tn : GQ.ListI prog w A (fun e z => R (.error e) z) l b N J) (fin : ∀ z, J N z → R (.ok (.ret (.bool false))) z) : ∀ (left i : Nat), N - i = left → i ≤ N → ∀ z, J i z →
    wpAny (model prog w) A.in1 (Builtin.«list.__eq__.loop» ⟨[.ref l, .ref b, rawInt i, rawInt 3], []⟩) (GQ.FinOf prog w A R) (fun e y => R (.error e) y) z
  | 0, i, hk, hi, z, q => by
    obtain ⟨xs, ys, n, m, gl, gb, zx, zy, _⟩ := tn _ _ q
    have e : i = N := by omega
    have fR := fin z (e ▸ q)
    obtain ⟨z1, z2, z3, z4, z5⟩ := z
    wp_walk using wpAny_loadPart' gl, wpAny_loadPart' gb
    have nx : xs[((i : Nat) : Int).toNat]? = none := by simp; omega
    have ny : ys[((i : Nat) : Int).toNat]? = none := by simp; omega
    rw [nx, ny]
    wp_walk using wpAny_loadPart' gl, wpAny_loadPart' gb
    show R (.ok (.ret (.bool (xs.size != ys.size)))) _
    rw [zx, zy]
    simpa using fR
  | left + 1, i, hk, hi, z, q => by
    obtain ⟨xs, ys, n, m, gl, gb, zx, zy, one⟩ := tn _ _ q
    have lx : i < xs.size := by omega
    have ly : i < ys.size := by omega
    have step := one lx ly
    obtain ⟨z1, z2, z3, z4, z5⟩ := z
    wp_walk using wpAny_loadPart' gl, wpAny_loadPart' gb
    have nx : xs[((i : Nat) : Int).toNat]? = some xs[i] := by simp [lx]
    have ny : ys[((i : Nat) : Int).toNat]? = some ys[i] := by simp [ly]
    have c1 : ((i : Int) + 1) = ((i + 1 : Nat) : Int) := by omega
    rw [nx, ny]
    refine wpAny_bind (wpAny_mono step (fun r y q2 => ?_) fun _ _ x => x)
    obtain ⟨rfl, q2⟩ := q2
    have again := neLoop tn fin left (i + 1) (by omega) (by omega) y q2
    obtain ⟨y1, y2, y3, y4, y5⟩ := y
    wp_walk
    rw [c1]
    refine ⟨plainId_quiet plain_eq_loop _, codeAny_builtin entry_eq_loop ?_⟩
    rw [Around.under_plainId plain_eq_loop _]
    exact again
theorem neList {l b : Addr} {N : Nat} {J : Nat → Shared → Prop} (tn : GQ.ListI prog w A (fun e z => R (.error e) z) l b N J) (fin : ∀ z, J N z → R (.ok (.ret (.bool false))) z) {z : Shared} (q : J 0 z) :
    wpAny (model prog w) A.in1 (Builtin.«list.__ne__» ⟨[.ref l, .ref b], []⟩) (GQ.FinOf prog w A R) (fun e y => R (.error e) y) z := by
  obtain ⟨xs, ys, n, m, gl, gb, zx, zy, _⟩ := tn _ _ q
  have again := neLoop tn fin _ 0 rfl (Nat.zero_le _) z q
  obtain ⟨z1, z2, z3, z4, z5⟩ := z
  have f3 := AutoSeq1.sub_list_list
  have same : ¬ (xs.size != ys.size) = true := by simp [zx, zy]
  wp_walk using wpAny_loadPart' gl, wpAny_loadPart' gb
  refine ⟨plainId_quiet plain_eq_loop _, codeAny_builtin entry_eq_loop ?_⟩
  rw [Around.under_plainId plain_eq_loop _]
  exact again
end
theorem rcNe {prog : Program} {w : World} {A : Around} {E : Value → Shared → Prop} {z : Shared} {l b : Addr} {N : Nat} {Q : Value → Shared → Prop} (hu : A.units < cLine) (J : Nat → Shared → Prop) (tn : GQ.ListI prog w A E l b N J) (fin : ∀ z, J N z → Q (.bool false) z) (q : J 0 z) :
    wpAny (model prog w) A (richCompare .NotEq (.ref l) (.ref b)) Q E z := by
  obtain ⟨xs, ys, n, m, gl, gb, _, _, _⟩ := tn _ _ q
  refine wpAny_richCompare_same_room (op := .NotEq) ⟨_, gl, rfl⟩ ⟨_, gb, rfl⟩ F.slot_list_ne (GQ.call_here F.slot_list_ne ⟨_, gl, rfl⟩ F.entry_list_ne (F.args_list_ne_2 _ _) ?_) hu
  exact neList (R := wants (fun v y => v ≠ .notImplemented ∧ Q v y) E) tn (fun y h => ⟨(fun x => nomatch x), fin y h⟩) q
/-- x != y, as lists of equal items: False -/
def rNeG (D : Eqv) : R2 := fun x y H Q => DList D x y H ∧ ∀ H', L2.Ext H H' → Q (.bl false) H'
theorem op_neG {X : Cx} {n : Nat} {D : Eqv} (hD : Mon D) (h : EqG X n D) (hr : Room (n + 1) X.A) : OpR X (compareOp .NotEq) (rNeG D) := by
  intro pins s σ H x y v u Q I rx ry hq
  obtain ⟨⟨a, b, xs, ys, rfl, rfl, ha, hb, p⟩, q⟩ := hq
  cases rx
  cases ry
  show wpAny (model X.prog X.w) X.A (richCompare .NotEq (.ref a) (.ref b)) (EP X pins σ Q) X.xe s
  have sb : Sub X (n + 1) X.A := ⟨hr, rfl⟩
  refine rcNe (N := xs.length) sb.room.units0 (fun _ z => LoopI X pins σ H z) (fun i z k => ?_) (fun z k => ?_) ⟨H, I, L2.Ext.rfl'⟩
  · obtain ⟨H1, I1, e1⟩ := id k
    obtain ⟨z1, us, k1, r1, g1⟩ := I1.hok a _ (e1 _ _ ha)
    obtain ⟨z2, ws, k2, r2, g2⟩ := I1.hok b _ (e1 _ _ hb)
    exact ⟨us.toArray, ws.toArray, k1, k2, g1, g2, by rw [List.size_toArray, ← r1.length], by rw [List.size_toArray, ← r2.length, ← p.1], fun h1 h2 => turnG hD h sb p r1 r2 i h1 h2 z k⟩
  · obtain ⟨H1, I1, e1⟩ := k
    exact ⟨.bl false, H1, I1, rfl, q H1 e1⟩
end K1


set_option Elab.async false
set_option linter.all false
set_option maxRecDepth 100000
/-! != of two tuples whose items are equal, be it by an own == : False. -/
namespace K1
open PySem PySem.SeqAt PySem.Spec PyProof.Rows L2
open AutoSeq1 (wpAny_loadPart')
open MeetsSeq MeetsSeq2 MeetsSeq3 SeqRoads2
section
variable {prog : Program} {w : World} {A : Around} {R : Result → Shared → Prop}
theorem tuple_neG (l b : Addr) (items items2 : Array Value) (n n2 : Nat) (dd dd2 : Option Addr) (sl sl2 : Array (Option Value)) (hsz : items.size = items2.size) (I : Nat → Shared → Prop)
    (turn : ∀ i (h1 : i < items.size) (h2 : i < items2.size) s, I i s → wpAny (model prog w) A.in1 (eqBool items[i] items2[i]) (fun r s' => r = true ∧ I (i + 1) s') (fun e s' => R (.error e) s') s)
    (fin : ∀ s, I items.size s → R (.ok (.ret (.bool false))) s) {s : Shared} (hl1 : s.heap.get? l = some { cls := .type "tuple", dict := dd, data := .seq items n, slots := sl }) (hb1 : s.heap.get? b = some { cls := .type "tuple", dict := dd2, data := .seq items2 n2, slots := sl2 }) (h : I 0 s) :
    wpAny (model prog w) A.in1 (Builtin.«tuple.__ne__» ⟨[.ref l, .ref b], []⟩) (GQ.FinOf prog w A R) (fun e s' => R (.error e) s') s := by
  have f2 := AutoSeq1.sub_tuple_tuple
  have hZ : (items.toList.zip items2.toList).length = items.size := by simp [hsz]
  have h0 := h
  obtain ⟨hp, g, d, tk, os⟩ := s
  wp_walk using wpAny_loadPart' hl1, wpAny_loadPart' hb1, wpAny_forIn_list _ (fun rest b s' => b.1 = none ∧ ∃ i, rest = (items.toList.zip items2.toList).drop i ∧ i ≤ items.size ∧ I i s') _
  case turn =>
    rintro ⟨y, x⟩ rest b s' ⟨hb', i, hz, hi, hI⟩
    have hlt : i < (items.toList.zip items2.toList).length := by
      rcases Nat.lt_or_ge i (items.toList.zip items2.toList).length with h' | h'
      · exact h'
      · rw [List.drop_of_length_le h'] at hz; cases hz
    have h1 : i < items.size := hZ ▸ hlt
    have h2 : i < items2.size := hsz ▸ h1
    rw [List.drop_eq_getElem_cons hlt] at hz
    injection hz with hyx hrest
    have hy : y = items[i] := by have := congrArg Prod.fst hyx; simpa using this
    have hx : x = items2[i] := by have := congrArg Prod.snd hyx; simpa using this
    subst hy hx
    refine wpAny_bind (wpAny_mono (turn i h1 h2 s' hI) (fun r s2 q2 => ?_) fun _ _ x => x)
    obtain ⟨hr, q2⟩ := q2
    subst hr
    wp_walk
    exact ⟨rfl, i + 1, hrest, h1, q2⟩
  case fin =>
    rintro ⟨b1, b2⟩ s' ⟨hb', i, hz, hi, hI⟩
    simp only at hb'
    subst hb'
    have hge : items.size ≤ i := by
      rcases Nat.lt_or_ge i (items.toList.zip items2.toList).length with h' | h'
      · rw [List.drop_eq_getElem_cons h'] at hz; cases hz
      · exact hZ ▸ h'
    have hi' : i = items.size := by omega
    have hR : R (.ok (.ret (.bool false))) s' := fin s' (hi' ▸ hI)
    wp_walk
    simpa [Builtin.Tuple.tupleCompareSizes, hsz] using hR
  case h =>
    exact ⟨rfl, 0, rfl, Nat.zero_le _, h0⟩
end
section
variable {prog : Program} {w : World} {A : Around} {E : Value → Shared → Prop} {s : Shared}
theorem rc_tupNe {l b : Addr} {items items2 : Array Value} {Q : Value → Shared → Prop} (hsz : items.size = items2.size) (hu : A.units < cLine) (I : Nat → Shared → Prop)
    (hl : s.heap.IsTuple l items) (hb : s.heap.IsTuple b items2)
    (turn : ∀ i (h1 : i < items.size) (h2 : i < items2.size) s, I i s → wpAny (model prog w) A.in1 (eqBool items[i] items2[i]) (fun r s' => r = true ∧ I (i + 1) s') E s)
    (fin : ∀ s, I items.size s → Q (.bool false) s) (h : I 0 s) : wpAny (model prog w) A (richCompare .NotEq (.ref l) (.ref b)) Q E s := by
  obtain ⟨⟨cls, dd, data, sl⟩, ho, hc, n, hd⟩ := id hl
  obtain ⟨⟨cls2, dd2, data2, sl2⟩, ho2, hc2, n2, hd2⟩ := id hb
  simp only at hc hd hc2 hd2
  subst hc hd hc2 hd2
  refine wpAny_richCompare_same_room (op := .NotEq) ⟨_, ho, rfl⟩ ⟨_, ho2, rfl⟩ F.slot_tuple_ne (GQ.call_here F.slot_tuple_ne ⟨_, ho, rfl⟩ F.entry_tuple_ne (F.args_tuple_ne_2 _ _) ?_) hu
  exact tuple_neG (R := wants (fun v s' => v ≠ .notImplemented ∧ Q v s') E) l b items items2 n n2 dd dd2 sl sl2 hsz I turn (fun s' q => ⟨(fun x => nomatch x), fin s' q⟩) ho ho2 h
end
/-- x != y of tuples of equal items: False -/
def rNeT (K : PySem.W.Frag) (D : Eqv) : R2 := fun x y H Q => DTup K D x y H ∧ ∀ H', L2.Ext H H' → Q (.bl false) H'
theorem op_neT {X : Cx} {n : Nat} {D : Eqv} (hD : Mon D) (h : EqG X n D) (hr : Room (n + 1) X.A) : OpR X (compareOp .NotEq) (rNeT X.K D) := by
  intro pins s σ H x y v u Q I rx ry hq
  obtain ⟨⟨a, b, xs, ys, rfl, rfl, ha, hb, p⟩, q⟩ := hq
  cases rx
  cases ry
  show wpAny (model X.prog X.w) X.A (richCompare .NotEq (.ref a) (.ref b)) (EP X pins σ Q) X.xe s
  have sb : Sub X (n + 1) X.A := ⟨hr, rfl⟩
  obtain ⟨its, r, e, z⟩ := I.tuple ha
  obtain ⟨its2, r2, e2, z2⟩ := I.tuple hb
  have hsz : its.toArray.size = its2.toArray.size := by rw [List.size_toArray, List.size_toArray, ← r.length, ← r2.length]; exact p.1
  refine rc_tupNe hsz sb.room.units0 (fun _ s' => LoopI X pins σ H s') e e2 (fun i h1 h2 s' q => turnG hD h sb p r r2 i h1 h2 s' q) (fun s' q' => ?_) ⟨H, I, L2.Ext.rfl'⟩
  obtain ⟨H1, I1, e1⟩ := q'
  exact ⟨.bl false, H1, I1, rfl, q H1 e1⟩
end K1


set_option Elab.async false
set_option linter.all false
set_option maxRecDepth 100000
set_option maxHeartbeats 8000000
/-! k23: == of one thing with itself; _law_sessions_right: the lambdas. -/
namespace K1
open PySem PySem.Spec PyProof.Rows L2 RZ StX LamE
def DSame : Eqv := fun x y _ => ∃ a, x = .ref a ∧ y = .ref a
theorem mon_same : Mon DSame := fun _ _ _ _ _ d => d
theorem eqG_same {X : Cx} : EqG X 0 DSame := by
  intro A pins s σ H x y u v sb I rx ry d
  obtain ⟨a, rfl, rfl⟩ := d
  cases rx
  cases ry
  unfold eqBool
  refine wpAny_holding ?_
  refine wpAny_ite_split (fun _ => ?_) (fun h => absurd (beq_self_eq_true _) h)
  repeat (first | exact wpAny_pure ⟨rfl, H, I, L2.Ext.rfl'⟩ | wp_step)
def DFS : Eqv := fun x y H => DFlat x y H ∨ DSame x y H
theorem mon_fs : Mon DFS := Mon.or mon_flat mon_same
theorem eqG_fs {X : Cx} : EqG X 0 DFS := EqG.or eqG_flat eqG_same
abbrev sSr : Stmt := st__law_sessions_right
abbrev nSr : List Str := ["_law_odd", "_law_session", "_law_other", "_law_cases", "_law_deed", "_law_due"]
abbrev pSr : List Str := ["_law_odd"]
theorem scSr : FnScope nSr pSr (defScope sSr) := ⟨rfl, rfl, rfl, by decide +kernel, rfl, by decide +kernel, by decide +kernel⟩
def nmX : Expr := .Name "" ⟨0, 0, 0, 0⟩
def lamX (j : Nat) : Expr := match j with
  | 0 => match ((defBody sSr).getD 1 (.Pass ⟨0, 0, 0, 0⟩) : Stmt) with
    | .Assign _ (.List [.Tuple (e :: _) _ _] _) _ => e
    | _ => nmX
  | j + 1 => match ((defBody sSr).getD (j + 2) (.Pass ⟨0, 0, 0, 0⟩) : Stmt) with
    | .Expr (.Call _ [.Tuple (e :: _) _ _] _ _) _ => e
    | _ => nmX
def lpR (j : Nat) : Arguments := match lamX j with | .Lambda p _ _ _ => p | _ => defArgs sSr
def lbR (j : Nat) : Expr := match lamX j with | .Lambda _ b _ _ => b | _ => nmX
def lsR (j : Nat) : Scope := match lamX j with | .Lambda _ _ s _ => s | _ => defScope sSr
theorem lams_are : ∀ j < 6, (match lamX j with | .Lambda _ _ _ _ => true | _ => false) = true := by decide +kernel
end K1


set_option Elab.async false
set_option linter.all false
set_option maxRecDepth 100000
set_option maxHeartbeats 8000000
/-! k23: _law_sessions_right. -/
namespace K1
open PySem PySem.Spec PyProof.Rows L2 RZ StX LamE
theorem ntb {xs : List V} : ∀ ps, HO.tup xs ≠ .tbl ps := fun _ z => by cases z
theorem nlb {xs : List V} : ∀ ps, HO.lst xs ≠ .tbl ps := fun _ z => by cases z
theorem nib {C dx : Addr} {fs : List (Str × V)} : ∀ ps, HO.ins C dx fs ≠ .tbl ps := fun _ z => by cases z
abbrev lamQ : Str := "_law_sessions_right" ++ ".<locals>." ++ "<lambda>"
def T1 (PS : Addr) : List (Addr × Str) := [(PS, lamQ)]
theorem t1_u {PS : Addr} : ∀ p ∈ T1 PS, p.1 = PS → p.2 = lamQ := fun p hp _ => by rw [List.mem_singleton.mp hp]
theorem mem_t1 {PS : Addr} : (PS, lamQ) ∈ T1 PS := List.mem_singleton.mpr rfl
/-- the making of a session -/
structure MkS (P : Program) (w : World) (K : PySem.W.Frag) (mg : Str → Option Value) (base : Heap) (C SC CF : Addr) : Prop where
  ex : ∃ (f : Addr) (fd : FuncData), Mk K SC f ∧ Binds K fd nSi [] ∧ FnOk P w K mg base CX0 4 f fd nSi (spSi C SC) ∧ FnOk P w K mg base (L2.CX P w) 4 f fd nSi (spSiB CF SC)
theorem pe_ses {X : Cx} {C SC CF : Addr} {e : Expr} {t : TA} {p pos : Pos} (D : MkS X.prog X.w X.K X.mg X.base C SC CF) (gS : X.mg "Session" = some (.ref SC)) (hr : Room 5 X.A) (hg : Gl X "Session") (ha : PA X [e] t)
    (he : starEach [e] X.env = (false, eval e X.env) :: starEach [] X.env := by rfl) : PE X (.Call (.Name "Session" p) [e] [] pos) (tMake SC (spSi C SC) [] E0 t) := by
  obtain ⟨f, fd, hm, hb, F, _⟩ := D.ex
  exact pe_make hm F hr hg gS hb .nil pass0 ha (he := he)
theorem pe_sesB {X : Cx} {C SC CF : Addr} {e : Expr} {t : TA} {E : XK} {p pos : Pos} (D : MkS X.prog X.w X.K X.mg X.base C SC CF) (gS : X.mg "Session" = some (.ref SC)) (hr : Room 5 X.A) (hg : Gl X "Session") (hx : Passes (L2.CX X.prog X.w) X E) (ha : PA X [e] t)
    (he : starEach [e] X.env = (false, eval e X.env) :: starEach [] X.env := by rfl) : PE X (.Call (.Name "Session" p) [e] [] pos) (tMake SC (spSiB CF SC) [] E t) := by
  obtain ⟨f, fd, hm, hb, _, F⟩ := D.ex
  exact pe_make hm F hr hg gS hb .nil hx ha (he := he)
/-- what the lambdas do -/
def tbR (C SC CF CN CV : Addr) : Nat → XK → TE
  | 0, E => tMake SC (spSiB CF SC) [] E (tCons (tVar 0) tNil)
  | 1, E => tMeth SC "see" (spSee C CF SC) [] E (tVar 1) (tCons (tVar 0) tNil)
  | 2, E => tMeth SC "see" (spSee C CF SC) [] E (tVar 1) (tCons (tVar 2) tNil)
  | 3, E => tMeth SC "tell" (spTlB CN CV) [] E (tVar 1) (tCons (tC (.str "gone")) (tCons (tC (.bl true)) tNil))
  | 4, E => tMeth SC "tell" (spTlB CN CV) [] E (tVar 1) (tCons (tLst tNil) (tCons (tC (.int 1)) tNil))
  | _, E => tMeth SC "tell" (spTlB CN CV) [] E (tVar 1) (tCons (tC .non) (tCons (tC .non) tNil))
/-- what is due -/
def dueW : Nat → Str
  | 0 => "folder" | 1 => "folder" | 2 => "folder" | 3 => "notice" | 4 => "value" | _ => "notice"
def dueV (x : V) (o : Addr) : Nat → V
  | 0 => x | 1 => x | 2 => .ref o | 3 => .int (-1) | 4 => .str "is_ask" | _ => .int (-1)
structure CaseAt (env : Env) (x : V) (o : Addr) (j : Nat) (y : V) (H : Hp) : Prop where
  ex : ∃ t f c d, y = .ref t ∧ H t = some (.tup [.ref f, .ref d]) ∧ H f = some (FunH (mk0 env (lpR j) (lbR j) (lsR j) c) f) ∧ H c = some (LamX.CodeO c (env.qual ++ "<lambda>")) ∧ H d = some (.tup [.str (dueW j), dueV x o j])
theorem funH_tup {mk : Value → Value → Obj} {f : Addr} {xs : List V} : FunH mk f ≠ .lst xs := fun z => by unfold FunH at z; cases z
theorem code_lst {c : Addr} {q : Str} {xs : List V} : LamX.CodeO c q ≠ .lst xs := fun z => by unfold LamX.CodeO at z; cases z
theorem CaseAt.enl {env : Env} {x : V} {o : Addr} {j : Nat} {y : V} {H G : Hp} {L : Addr} {xs : List V} (h : CaseAt env x o j y H) (hL : H L = some (.lst xs)) (e : ∀ b u, b ≠ L → (∀ ps, u ≠ .tbl ps) → H b = some u → G b = some u) : CaseAt env x o j y G := by
  obtain ⟨t, f, c, d, rfl, h1, h2, h3, h4⟩ := h.ex
  have ne : ∀ {b : Addr} {u : HO}, H b = some u → u ≠ .lst xs → b ≠ L := fun hb hu z => hu (by rw [z, hL] at hb; exact (Option.some.inj hb).symm)
  exact ⟨t, f, c, d, rfl, e _ _ (ne h1 fun z => by cases z) (fun _ z => by cases z) h1, e _ _ (ne h2 funH_tup) funH_ne h2, e _ _ (ne h3 code_lst) LamX.codeO_ne h3, e _ _ (ne h4 fun z => by cases z) (fun _ z => by cases z) h4⟩
theorem CaseAt.ext {env : Env} {x : V} {o : Addr} {j : Nat} {y : V} {H G : Hp} (h : CaseAt env x o j y H) (e : LamX.ExtN H G) : CaseAt env x o j y G := by
  obtain ⟨t, f, c, d, rfl, h1, h2, h3, h4⟩ := h.ex
  exact ⟨t, f, c, d, rfl, e _ _ h1 ntb, e _ _ h2 funH_ne, e _ _ h3 LamX.codeO_ne, e _ _ h4 ntb⟩
def spSr (PS : Addr) : Sp := fun vs H Q _ => ∃ (x : V) (d : PyData), vs = [x] ∧ Dv H x d ∧ OddD d ∧ LamX.Tabs (T1 PS) H ∧ ∀ H', LamX.ExtN H H' → LamX.Tabs (T1 PS) H' → Q (.bl true) H'
/-- a session that has told of one letter, and a folder of another age -/
structure SeK (C SC : Addr) (H : Hp) (p o : Addr) : Prop where
  ex : ∃ dx fo tt l top xs F, H p = some (.ins SC dx (seF fo tt)) ∧ FoAt C H fo F ∧ F.age = 3 ∧ H tt = some (.tup [.ref l, top, .int 0]) ∧ H l = some (.lst xs) ∧ DvA H xs ([⟨1, 1, [], 1⟩].map erD)
  o : ∃ G, FoAt C H o G ∧ G.age = 4
theorem FoAt.ext {C p : Addr} {H H' : Hp} {F : Fo} (h : FoAt C H p F) (s : LamX.ExtN H H') : FoAt C H' p F := let ⟨dx, tl, tg, a, b, c⟩ := h; ⟨dx, tl, tg, s _ _ a nib, b.ext s, c.ext s⟩
theorem SeK.ext {C SC : Addr} {H H' : Hp} {p o : Addr} (h : SeK C SC H p o) (s : LamX.ExtN H H') : SeK C SC H' p o := by
  obtain ⟨⟨dx, fo, tt, l, top, xs, F, h1, h2, h3, h4, h5, h6⟩, G, h7, h8⟩ := h
  exact ⟨⟨dx, fo, tt, l, top, xs, F, s _ _ h1 nib, h2.ext s, h3, s _ _ h4 ntb, s _ _ h5 nlb, h6.ext s⟩, G, h7.ext s, h8⟩
section
variable {P : Program} {w : World} {K : PySem.W.Frag} {mg : Str → Option Value} {base : Heap} {C SC CF CN CV PS c fF fN fV : Addr}
theorem lay_11 : LayD 2 (.list [.tuple [.int 1, .int 1]]) := .lst (.cons (.tup (.cons (.int _) (.cons (.int _) .nil))) .nil)
/-- what a lambda's call comes to -/
theorem act_go {σ : L2.St} {H : Hp} {x : V} {d : PyData} {p o : Addr} {j : Nat} {Q : VK} (hj : j < 6) (h0 : σ[0]? = some (some x)) (h1 : σ[1]? = some (some (.ref p))) (h2 : σ[2]? = some (some (.ref o))) (hx : Dv H x d) (od : OddD d) (hs : SeK C SC H p o)
    (q : ∀ r H', Same H H' → H' r = some (.tup [.str (dueW j), dueV x o j]) → Q (.ref r) H') {f : Addr} {FH : HO} (hf : H f = some FH) :
    TRf CF CN CV (fun E H' Q' => H' f = some FH ∧ tbR C SC CF CN CV j E σ H' Q') H Q := by
  obtain ⟨⟨dx, fo, tt, l, top, xs, F, e1, e2, e3, e4, e5, e6⟩, G, e7, e8⟩ := hs
  unfold TRf
  refine ⟨hf, ?_⟩
  have eF : ∀ {v : V} {H2 : Hp}, Same H H2 → dueW j = "folder" → dueV x o j = v → ErrAt CF "value" v H2 (fun cls d H' => (cls = .ref CF ∧ ∃ (dd : Addr) (v : V), d = some dd ∧ H' dd = some (.xd [("value", v)]) ∧ ∀ p, H' p = none → Q (.ref p) (upd H' p (.tup [.str "folder", v]))) ∨
    (cls = .ref CN ∧ ∃ (dd : Addr) (v : V), d = some dd ∧ H' dd = some (.xd [("at", v)]) ∧ ∀ p, H' p = none → Q (.ref p) (upd H' p (.tup [.str "notice", v]))) ∨
    (cls = .ref CV ∧ ∃ (dd : Addr) (v : V), d = some dd ∧ H' dd = some (.xd [("why", v)]) ∧ ∀ p, H' p = none → Q (.ref p) (upd H' p (.tup [.str "value", v])))) :=
    fun s ew ev dd H' s' hdd => .inl ⟨rfl, dd, _, rfl, hdd, fun r nr => q r _ ((s.trans s').new nr) (by rw [ew, ev]; exact upd_same)⟩
  have eN : ∀ {H2 : Hp}, Same H H2 → dueW j = "notice" → dueV x o j = .int (-1) → ErrAt CN "at" (.int (-1)) H2 (fun cls d H' => (cls = .ref CF ∧ ∃ (dd : Addr) (v : V), d = some dd ∧ H' dd = some (.xd [("value", v)]) ∧ ∀ p, H' p = none → Q (.ref p) (upd H' p (.tup [.str "folder", v]))) ∨
    (cls = .ref CN ∧ ∃ (dd : Addr) (v : V), d = some dd ∧ H' dd = some (.xd [("at", v)]) ∧ ∀ p, H' p = none → Q (.ref p) (upd H' p (.tup [.str "notice", v]))) ∨
    (cls = .ref CV ∧ ∃ (dd : Addr) (v : V), d = some dd ∧ H' dd = some (.xd [("why", v)]) ∧ ∀ p, H' p = none → Q (.ref p) (upd H' p (.tup [.str "value", v])))) :=
    fun s ew ev dd H' s' hdd => .inr (.inl ⟨rfl, dd, _, rfl, hdd, fun r nr => q r _ ((s.trans s').new nr) (by rw [ew, ev]; exact upd_same)⟩)
  have eV : ∀ {H2 : Hp}, Same H H2 → dueW j = "value" → dueV x o j = .str "is_ask" → ErrAt CV "why" (.str "is_ask") H2 (fun cls d H' => (cls = .ref CF ∧ ∃ (dd : Addr) (v : V), d = some dd ∧ H' dd = some (.xd [("value", v)]) ∧ ∀ p, H' p = none → Q (.ref p) (upd H' p (.tup [.str "folder", v]))) ∨
    (cls = .ref CN ∧ ∃ (dd : Addr) (v : V), d = some dd ∧ H' dd = some (.xd [("at", v)]) ∧ ∀ p, H' p = none → Q (.ref p) (upd H' p (.tup [.str "notice", v]))) ∨
    (cls = .ref CV ∧ ∃ (dd : Addr) (v : V), d = some dd ∧ H' dd = some (.xd [("why", v)]) ∧ ∀ p, H' p = none → Q (.ref p) (upd H' p (.tup [.str "value", v])))) :=
    fun s ew ev dd H' s' hdd => .inr (.inr ⟨rfl, dd, _, rfl, hdd, fun r nr => q r _ ((s.trans s').new nr) (by rw [ew, ev]; exact upd_same)⟩)
  match j, hj with
  | 0, _ =>
    refine ⟨_, h0, fun y dy ny ndy ne => ?_⟩
    have s0 : Same H (upd (upd H dy (.own y)) y (.ins SC dy [])) := fun b u hb => by rw [upd_ne (ne_of_none hb ny), upd_ne (ne_of_none hb ndy)]; exact hb
    exact ⟨y, x, d, rfl, hx.same s0, od, eF s0 rfl rfl⟩
  | 1, _ => exact ⟨_, h1, p, dx, _, rfl, e1, se_no (by decide +kernel), _, h0, p, dx, fo, tt, F, x, rfl, e1, e2, .inl ⟨d, hx, od⟩, eF (fun _ _ h => h) rfl rfl⟩
  | 2, _ => exact ⟨_, h1, p, dx, _, rfl, e1, se_no (by decide +kernel), _, h2, p, dx, fo, tt, F, .ref o, rfl, e1, e2, .inr ⟨o, G, rfl, e7, by rw [e8, e3]; decide⟩, eF (fun _ _ h => h) rfl rfl⟩
  | 3, _ => exact ⟨_, h1, p, dx, _, rfl, e1, se_no (by decide +kernel), _, _, _, rfl, .inl ⟨.str "gone", .str _, rfl, eN (fun _ _ h => h) rfl rfl⟩⟩
  | 4, _ =>
    refine ⟨_, h1, p, dx, _, rfl, e1, se_no (by decide +kernel), Nat.zero_le _, fun L nL => ?_⟩
    exact ⟨_, _, _, rfl, .inr ⟨.list [], 1, .lst upd_same .nil, rfl, rfl, eV (same_new nL) rfl rfl⟩⟩
  | 5, _ => exact ⟨_, h1, p, dx, _, rfl, e1, se_no (by decide +kernel), _, _, _, rfl, .inl ⟨.none, .non, rfl, eN (fun _ _ h => h) rfl rfl⟩⟩
  | n + 6, hj => exact absurd hj (by omega)
end
end K1


set_option Elab.async false
set_option linter.all false
set_option maxRecDepth 100000
set_option maxHeartbeats 8000000
/-! k23: _law_sessions_right, whole. -/
namespace K1
open PySem PySem.Spec PyProof.Rows L2 RZ StX LamE
theorem okss_nil : OkSs [] := okSs_iff.mp rfl
section
variable {P : Program} {w : World} {K : PySem.W.Frag} {mg : Str → Option Value} {base : Heap} {C SC CF CN CV PS c fF fN fV : Addr}
theorem new_go {X : Cx} {H : Hp} {Q : VK} {σ : L2.St} {a : Int} (ha : 1 ≤ a) (q : ∀ x H', Same H H' → H x = none → FoAt C H' x (fNew a) → Q (.ref x) H') : tMake C (spInit C) [] E0 (tCons (tC (.int a)) tNil) σ H Q :=
  fun x dx nx ndx hne => ⟨x, dx, a, rfl, upd_same, ha, fun H' tl tg keep hx h1 h2 => ⟨rfl, q x H' (fun b o hb => keep b o (ne_of_none hb nx) (by rw [upd_ne (ne_of_none hb nx), upd_ne (ne_of_none hb ndx)]; exact hb)) nx ⟨dx, tl, tg, hx, .tup h1 .nil, .tup h2 .nil⟩⟩⟩
theorem code_ins {c : Addr} {q : Str} {D dx : Addr} {fs : List (Str × V)} : LamX.CodeO c q ≠ .ins D dx fs := fun z => by unfold LamX.CodeO at z; cases z
/-- tables stay where all but one thing of another kind stays -/
theorem tabs_but {T : List (Addr × Str)} {G H : Hp} {L : Addr} {u : HO} (hT : LamX.Tabs T G) (hL : G L = some u) (n1 : ∀ ps, u ≠ .tbl ps) (n2 : ∀ c q, LamX.CodeO c q ≠ u) (k : ∀ b o, b ≠ L → G b = some o → H b = some o) : LamX.Tabs T H := fun p hp => by
  obtain ⟨ps, a1, a2, a3⟩ := hT p hp
  refine ⟨ps, k _ _ (fun z => by rw [z, hL] at a1; exact n1 ps (Option.some.inj a1)) a1, a2, fun pos cv hcv => ?_⟩
  obtain ⟨c0, e1, e2⟩ := a3 pos cv hcv
  exact ⟨c0, e1, k _ _ (fun z => by rw [z, hL] at e2; exact n2 _ _ (Option.some.inj e2).symm) e2⟩
theorem dfs_dv {H G : Hp} {x : V} {d : PyData} (h : Dv H x d) : DFS x x G := by
  cases h with
  | non => exact .inl ⟨rfl, rfl, rfl⟩
  | bl b => exact .inl ⟨rfl, rfl, by cases b <;> rfl⟩
  | int n => exact .inl ⟨rfl, rfl, by show (_ == _) = true; exact beq_self_eq_true _⟩
  | str z => exact .inl ⟨rfl, rfl, by show (_ == _) = true; exact beq_self_eq_true _⟩
  | lst => exact .inr ⟨_, rfl, rfl⟩
  | tup => exact .inr ⟨_, rfl, rfl⟩
  | dic => exact .inr ⟨_, rfl, rfl⟩
theorem dfs_due {H G : Hp} {x : V} {d : PyData} {o : Addr} (h : Dv H x d) : ∀ {i : Nat}, i < 6 → DFS (dueV x o i) (dueV x o i) G
  | 0, _ => dfs_dv h
  | 1, _ => dfs_dv h
  | 2, _ => .inr ⟨o, rfl, rfl⟩
  | 3, _ => .inl ⟨rfl, rfl, rfl⟩
  | 4, _ => .inl ⟨rfl, rfl, by show (("is_ask" : Str) == "is_ask") = true; decide +kernel⟩
  | 5, _ => .inl ⟨rfl, rfl, rfl⟩
  | n + 6, h => absurd h (by omega)
/-- one more case -/
theorem case_go {env : Env} {σ : L2.St} {H : Hp} {x : V} {o L : Addr} {j : Nat} {ys : List V} {te : TE} {D : Ends} {rest : TS} (hL : H L = some (.lst ys)) (h3 : σ[3]? = some (some (.ref L))) (hl : ys.length ≤ 10) (hT : LamX.Tabs (T1 PS) H)
    (hte : ∀ G (R : VK), (∀ v G', Same G G' → v = dueV x o j → R v G') → te σ G R)
    (q : ∀ y H', (∀ b u, b ≠ L → (∀ ps, u ≠ .tbl ps) → H b = some u → H' b = some u) → LamX.Tabs (T1 PS) H' → H' L = some (.lst (ys ++ [y])) → CaseAt env x o j y H' → rest D σ H') :
    tSeq (tDrop (tBM K "list" rAppend (tVar 3) (tCons (tTup (tCons (tFun (T1 PS) env (lpR j) (lbR j) (lsR j)) (tCons (tTup (tCons (tC (.str (dueW j))) (tCons te tNil))) tNil))) tNil))) rest D σ H := by
  refine ⟨_, h3, .inl ⟨rfl, _, sq hL⟩, hT, fun f c H1 e1 t1 hf hc => ?_⟩
  refine hte H1 _ fun v H2 s2 ev => ?_
  subst ev
  refine ⟨by show 2 ≤ sizeLine; decide, fun d nd => ⟨by show 2 ≤ sizeLine; decide, fun t nt => ?_⟩⟩
  have s3 := s2.trans (same_new nd (o := .tup [.str (dueW j), dueV x o j]))
  have s4 := s3.trans (same_new nt (o := .tup [.ref f, .ref d]))
  have hd : (upd (upd H2 d (.tup [.str (dueW j), dueV x o j])) t (.tup [.ref f, .ref d])) d = some (.tup [.str (dueW j), dueV x o j]) := same_new nt _ _ upd_same
  have ht : (upd (upd H2 d (.tup [.str (dueW j), dueV x o j])) t (.tup [.ref f, .ref d])) t = some (.tup [.ref f, .ref d]) := upd_same
  have t4 := t1.ext s4
  have e4 := e1.trans (LamX.ExtN.of s4)
  have hf4 := s4 _ _ hf
  have hc4 := s4 _ _ hc
  generalize upd (upd H2 d (.tup [.str (dueW j), dueV x o j])) t (.tup [.ref f, .ref d]) = H4 at hd ht t4 e4 hf4 hc4
  have hL4 := e4 _ _ hL nlb
  have ca : CaseAt env x o j (.ref t) H4 := ⟨t, f, c, d, rfl, ht, hf4, hc4, hd⟩
  refine ⟨L, ys, _, rfl, rfl, hL4, lt2 _ (by omega), ?_⟩
  exact q (.ref t) _ (fun b u nb nt hb => by rw [upd_ne nb]; exact e4 _ _ hb nt) (tabs_but t4 hL4 nlb (fun _ _ => code_lst) fun b u nb hb => by rw [upd_ne nb]; exact hb) upd_same (ca.enl hL4 fun b u nb nt hb => by rw [upd_ne nb]; exact hb)
set_option maxHeartbeats 64000000 in
theorem ok_sr {f : Addr} {oc : Value} {od : Option Addr} {kV doc pm : Value} {an : Option Addr} {ct : Value} {osl : Array (Option Value)} (T : Bj mg) (t : ClT K mg C) (ts : ClS K mg SC) (TB : LamX.TabB base mg c PS) (DR : RfK P K mg CF CN CV)
    (D_ses : MkS P w K mg base C SC CF) (D_new : MkD P w K mg base C) (M_app : MDef P w K mg base CX0 6 C "appended" pApp (spApp C)) (M_see : MDef P w K mg base (L2.CX P w) 4 SC "see" nSi (spSee C CF SC)) (M_tlB : MDef P w K mg base (L2.CX P w) 4 SC "tell" pTl (spTlB CN CV))
    (M_tl : MDef P w K mg base CX0 4 SC "tell" pTl (spTl SC)) (M_td : MDef P w K mg base CX0 1 SC "told" nSelf (spTd SC))
    (lk : K.lookup f = some ⟨oc, od, .func (PySem.W.fnOf "_law_sessions_right" "_law_sessions_right" (defArgs sSr) (defBody sSr) (defScope sSr) .none kV doc pm an (.ref c) ct), osl⟩) (hcd : PySem.W.codeIn K (.ref c) "_law_sessions_right" = true) :
    FnOk P w K mg base CX0 9 f (PySem.W.fnOf "_law_sessions_right" "_law_sessions_right" (defArgs sSr) (defBody sSr) (defScope sSr) .none kV doc pm an (.ref c) ct) pSr (spSr PS) := by
  have nd := scSr.nd
  refine fn_of lk hcd scSr (fun vs H Q E h => ?_) (fun A outer s H vs Q E hr h => ?_)
  · obtain ⟨x, d, rfl, _⟩ := h
    rfl
  · obtain ⟨x, d, rfl, hx, oD, hT, q⟩ := h
    have lam : ∀ j < 6, LamX.LamS (defScope sSr) (lsR j) := by
      intro j hj
      match j, hj with
      | 0, _ => exact LamX.lamS_by (by rfl)
      | 1, _ => exact LamX.lamS_by (by rfl)
      | 2, _ => exact LamX.lamS_by (by rfl)
      | 3, _ => exact LamX.lamS_by (by rfl)
      | 4, _ => exact LamX.lamS_by (by rfl)
      | 5, _ => exact LamX.lamS_by (by rfl)
      | n + 6, hj => exact absurd hj (by omega)
    refine' ⟨_, PSs.nox (pss_cons (ps_asg (pe_tup (pa_cons (pe_ses D_ses ts.gS (hr.mono (by decide)) rfl (pa_cons (pe_mdef M_app t.cl (hr.mono (by decide)) pass0 (pe_new D_new t.gC (hr.mono (by decide)) rfl (pa_cons pe_int pa_nil)) (pa_cons pe_int (pa_cons (pe_tup pa_nil) pa_nil))) pa_nil)) (pa_cons (pe_new D_new t.gC (hr.mono (by decide)) rfl (pa_cons pe_int pa_nil)) pa_nil))) (pg_tup rfl (pgs_cons (pg_name (i := 1) nd rfl (Or.inr rfl)) (pgs_cons (pg_name (i := 2) nd rfl (Or.inr rfl)) pgs_nil))))
 (pss_cons (ps_set (i := 3) nd rfl (Or.inl rfl) (pe_lst (pa_cons (pe_tup (pa_cons (pe_fun (T := T1 PS) (params := lpR 0) (body := lbR 0) (scope := lsR 0) TB rfl mem_t1 t1_u (lam 0 (by decide)) rfl) (pa_cons (pe_tup (pa_cons pe_str (pa_cons (pv 0) pa_nil))) pa_nil))) pa_nil)))
 (pss_cons (ps_expr (pe_bm PySem.F.plainAttrs_list PySem.F.slot_list_append PySem.F.type_list_append mt_append (pv 3) (pa_cons (pe_tup (pa_cons (pe_fun (T := T1 PS) (params := lpR 1) (body := lbR 1) (scope := lsR 1) TB rfl mem_t1 t1_u (lam 1 (by decide)) rfl) (pa_cons (pe_tup (pa_cons pe_str (pa_cons (pv 0) pa_nil))) pa_nil))) pa_nil)))
 (pss_cons (ps_expr (pe_bm PySem.F.plainAttrs_list PySem.F.slot_list_append PySem.F.type_list_append mt_append (pv 3) (pa_cons (pe_tup (pa_cons (pe_fun (T := T1 PS) (params := lpR 2) (body := lbR 2) (scope := lsR 2) TB rfl mem_t1 t1_u (lam 2 (by decide)) rfl) (pa_cons (pe_tup (pa_cons pe_str (pa_cons (pv 2) pa_nil))) pa_nil))) pa_nil)))
 (pss_cons (ps_expr (pe_bm PySem.F.plainAttrs_list PySem.F.slot_list_append PySem.F.type_list_append mt_append (pv 3) (pa_cons (pe_tup (pa_cons (pe_fun (T := T1 PS) (params := lpR 3) (body := lbR 3) (scope := lsR 3) TB rfl mem_t1 t1_u (lam 3 (by decide)) rfl) (pa_cons (pe_tup (pa_cons pe_str (pa_cons (pe_un un_neg pe_int) pa_nil))) pa_nil))) pa_nil)))
 (pss_cons (ps_expr (pe_bm PySem.F.plainAttrs_list PySem.F.slot_list_append PySem.F.type_list_append mt_append (pv 3) (pa_cons (pe_tup (pa_cons (pe_fun (T := T1 PS) (params := lpR 4) (body := lbR 4) (scope := lsR 4) TB rfl mem_t1 t1_u (lam 4 (by decide)) rfl) (pa_cons (pe_tup (pa_cons pe_str (pa_cons pe_str pa_nil))) pa_nil))) pa_nil)))
 (pss_cons (ps_expr (pe_bm PySem.F.plainAttrs_list PySem.F.slot_list_append PySem.F.type_list_append mt_append (pv 3) (pa_cons (pe_tup (pa_cons (pe_fun (T := T1 PS) (params := lpR 5) (body := lbR 5) (scope := lsR 5) TB rfl mem_t1 t1_u (lam 5 (by decide)) rfl) (pa_cons (pe_tup (pa_cons pe_str (pa_cons (pe_un un_neg pe_int) pa_nil))) pa_nil))) pa_nil)))
 (pss_cons (ps_for PassesOwn.never rfl (pi_listK (K := K) rfl (pv 3)) (pg_tup rfl (pgs_cons (pg_name (i := 4) nd rfl (Or.inl rfl)) (pgs_cons (pg_name (i := 5) nd rfl (Or.inl rfl)) pgs_nil)))
  (pss_one (ps_if (PW.pt (pw_or (pt_cmpR (op_neT mon_fs eqG_fs (hr.mono (by decide))) (pe_rfV (k := 5) (i := 4) (n := 6) (lp := lpR) (lb := lbR) (ls := lsR) (tb := tbR C SC CF CN CV) DR rfl rfl (Or.inl rfl) (hr.mono (by decide)) lam ?hB ?hBody) (pv 5) (nomark _)) (pw_or1 (pt_cmpR (op_neDK (K := K) rfl hr.units) (pe_mdef0 M_td ts.cl (hr.mono (by decide)) pass0 (pv 1)) (pe_lst (pa_cons (pe_tup (pa_cons pe_int (pa_cons pe_int pa_nil))) pa_nil)) (nomark _)))))
  (pss_one (ps_ret pe_bl))
  pss_nil)))
 (pss_one (ps_ret (pe_cmpR op_isN (pe_mdef M_tl ts.cl (hr.mono (by decide)) pass0 (pv 1) (pa_cons (pe_tup pa_nil) (pa_cons pe_bl pa_nil))) pe_non (nomark _)))))))))))), ?hM⟩
    case hB =>
      intro j hj
      match j, hj with
      | 0, _ => exact fun _ _ _ _ _ => rfl
      | 1, _ => exact fun _ _ _ _ _ => rfl
      | 2, _ => exact fun _ _ _ _ _ => rfl
      | 3, _ => exact fun _ _ _ _ _ => rfl
      | 4, _ => exact fun _ _ _ _ _ => rfl
      | 5, _ => exact fun _ _ _ _ _ => rfl
      | n + 6, hj => exact absurd hj (by omega)
    case hBody =>
      intro j hj
      match j, hj with
      | 0, _ => exact fun E f c' A outer s H hr2 => pe_sesB D_ses ts.gS (hr2.mono (by decide)) rfl (passes_call (takes_of rfl rfl rfl rfl) (fun _ _ _ _ h => h)) (pa_cons (pv 0) pa_nil)
      | 1, _ => exact fun E f c' A outer s H hr2 => pe_mdef M_see ts.cl (hr2.mono (by decide)) (passes_call (takes_of rfl rfl rfl rfl) (fun _ _ _ _ h => h)) (pv 1) (pa_cons (pv 0) pa_nil)
      | 2, _ => exact fun E f c' A outer s H hr2 => pe_mdef M_see ts.cl (hr2.mono (by decide)) (passes_call (takes_of rfl rfl rfl rfl) (fun _ _ _ _ h => h)) (pv 1) (pa_cons (pv 2) pa_nil)
      | 3, _ => exact fun E f c' A outer s H hr2 => pe_mdef M_tlB ts.cl (hr2.mono (by decide)) (passes_call (takes_of rfl rfl rfl rfl) (fun _ _ _ _ h => h)) (pv 1) (pa_cons pe_str (pa_cons pe_bl pa_nil))
      | 4, _ => exact fun E f c' A outer s H hr2 => pe_mdef M_tlB ts.cl (hr2.mono (by decide)) (passes_call (takes_of rfl rfl rfl rfl) (fun _ _ _ _ h => h)) (pv 1) (pa_cons (pe_lst pa_nil) (pa_cons pe_int pa_nil))
      | 5, _ => exact fun E f c' A outer s H hr2 => pe_mdef M_tlB ts.cl (hr2.mono (by decide)) (passes_call (takes_of rfl rfl rfl rfl) (fun _ _ _ _ h => h)) (pv 1) (pa_cons pe_non (pa_cons pe_non pa_nil))
      | n + 6, hj => exact absurd hj (by omega)
    case hM =>
      refine asg_go ?_
      refine fun x1 d1 nx1 nd1 ne1 => ⟨x1, d1, 3, rfl, upd_same, by decide, fun H1 tl1 tg1 keep1 hx1 hl1 hg1 => ⟨rfl, ?_⟩⟩
      have s1 : Same H H1 := fun b o hb => keep1 b o (ne_of_none hb nx1) (by rw [upd_ne (ne_of_none hb nx1), upd_ne (ne_of_none hb nd1)]; exact hb)
      have hF1 : FoAt C H1 x1 (fNew 3) := ⟨d1, tl1, tg1, hx1, .tup hl1 .nil, .tup hg1 .nil⟩
      refine ⟨x1, d1, _, rfl, hx1, fl_no (by decide +kernel), Nat.zero_le _, fun sg nsg => ?_⟩
      have s2 := s1.trans (same_new nsg (o := .tup ([] : List V)))
      refine ⟨x1, sg, fNew 3, 1, [], rfl, hF1.same (same_new nsg), by decide, by decide, upd_same, okss_nil, by decide, fun fo H3 s3 nfo hFo => ?_⟩
      have s03 := s2.trans s3
      clear s1 hF1 hx1 hl1 hg1 keep1 s2 s3 nfo
      refine fun p dp np ndp nep => ⟨p, dp, fo, fApp (fNew 3) 1 [], rfl, upd_same, ?_, by decide, fun H4 tt l xs top keep4 hp4 htt hl hd => ⟨rfl, ?_⟩⟩
      · exact hFo.same fun b u hb => by rw [upd_ne (ne_of_none hb np), upd_ne (ne_of_none hb ndp)]; exact hb
      have s4 : Same H3 H4 := fun b o hb => keep4 b o (ne_of_none hb np) (by rw [upd_ne (ne_of_none hb np), upd_ne (ne_of_none hb ndp)]; exact hb)
      have s04 := s03.trans s4
      have npH := s03.free np
      have hFo4 := hFo.same s4
      clear keep4 s4 hFo s03
      refine fun o d5 no nd5 ne5 => ⟨o, d5, 4, rfl, upd_same, by decide, fun H5 tl5 tg5 keep5 hx5 hl5 hg5 => ⟨rfl, ?_⟩⟩
      have s5 : Same H4 H5 := fun b u hb => keep5 b u (ne_of_none hb no) (by rw [upd_ne (ne_of_none hb no), upd_ne (ne_of_none hb nd5)]; exact hb)
      have hF5 : FoAt C H5 o (fNew 4) := ⟨d5, tl5, tg5, hx5, .tup hl5 .nil, .tup hg5 .nil⟩
      refine ⟨by show 2 ≤ sizeLine; decide, fun tp ntp => ?_⟩
      have s6 := same_new ntp (o := .tup [.ref p, .ref o])
      have s06 := (s04.trans s5).trans s6
      have hs : SeK C SC (upd H5 tp (.tup [.ref p, .ref o])) p o := ⟨⟨dp, fo, tt, l, top, xs, _, (s5.trans s6) _ _ hp4, hFo4.same (s5.trans s6), rfl, (s5.trans s6) _ _ htt, (s5.trans s6) _ _ hl, hd.same (s5.trans s6)⟩, _, hF5.same s6, rfl⟩
      refine ⟨tp, _, rfl, st upd_same, rfl, _, _, rfl, _, _, rfl, rfl, ?_⟩
      have t6 := hT.ext s06
      clear s04 s5 s6 hF5 hx5 hl5 hg5 keep5 hp4 hFo4 htt hl hd
      generalize upd H5 tp (.tup [.ref p, .ref o]) = H6 at s06 hs t6
      refine asg_go ?_
      refine ⟨t6, fun f0 c0 H7 e7 t7 hf0 hc0 => ⟨_, rfl, by show 2 ≤ sizeLine; decide, fun d0 nd => ⟨by show 2 ≤ sizeLine; decide, fun t0 nt => ⟨by show 1 ≤ sizeLine; decide, fun L nL => ?_⟩⟩⟩⟩
      have s8 := ((same_new nd (o := .tup [.str "folder", x])).trans (same_new nt (o := .tup [.ref f0, .ref d0]))).trans (same_new nL (o := .lst [.ref t0]))
      have hd8 : (upd (upd (upd H7 d0 (.tup [.str "folder", x])) t0 (.tup [.ref f0, .ref d0])) L (.lst [.ref t0])) d0 = some (.tup [.str "folder", x]) := same_new nL _ _ (same_new nt _ _ upd_same)
      have ht8 : (upd (upd (upd H7 d0 (.tup [.str "folder", x])) t0 (.tup [.ref f0, .ref d0])) L (.lst [.ref t0])) t0 = some (.tup [.ref f0, .ref d0]) := same_new nL _ _ upd_same
      have hL8 : (upd (upd (upd H7 d0 (.tup [.str "folder", x])) t0 (.tup [.ref f0, .ref d0])) L (.lst [.ref t0])) L = some (.lst [.ref t0]) := upd_same
      have e08 : LamX.ExtN H (upd (upd (upd H7 d0 (.tup [.str "folder", x])) t0 (.tup [.ref f0, .ref d0])) L (.lst [.ref t0])) := ((LamX.ExtN.of s06).trans e7).trans (LamX.ExtN.of s8)
      have hs8 := hs.ext (e7.trans (LamX.ExtN.of s8))
      have t8 := t7.ext s8
      have c8 : CaseAt (cxOf CX0 P w K mg base nSr "_law_sessions_right" (defScope sSr) f (.ref c) A outer s H E).env x o 0 (.ref t0) (upd (upd (upd H7 d0 (.tup [.str "folder", x])) t0 (.tup [.ref f0, .ref d0])) L (.lst [.ref t0])) := ⟨t0, f0, c0, d0, rfl, ht8, s8 _ _ hf0, s8 _ _ hc0, hd8⟩
      have neL : ∀ {b : Addr} {u : HO}, (∀ ps, u ≠ .tbl ps) → H6 b = some u → b ≠ L := fun hu hb z => by
        rw [← z, ((same_new nd (o := .tup [.str "folder", x])).trans (same_new nt (o := .tup [.ref f0, .ref d0]))) _ _ (e7 _ _ hb hu)] at nL; cases nL
      have e68 : LamX.ExtN H6 (upd (upd (upd H7 d0 (.tup [.str "folder", x])) t0 (.tup [.ref f0, .ref d0])) L (.lst [.ref t0])) := e7.trans (LamX.ExtN.of s8)
      clear hd8 ht8 s8 e08 hs8 hf0 hc0 nL nt nd t7 e7
      generalize upd (upd (upd H7 d0 (.tup [.str "folder", x])) t0 (.tup [.ref f0, .ref d0])) L (.lst [.ref t0]) = H8 at hL8 t8 c8 e68
      have eN : ∀ {G : Hp}, (∀ b u, b ≠ L → (∀ ps, u ≠ .tbl ps) → H8 b = some u → G b = some u) → LamX.ExtN H6 G := fun k b u hb hn => k b u (neL hn hb) hn (e68 b u hb hn)
      have kt : ∀ {G1 G2 G3 : Hp}, (∀ b u, b ≠ L → (∀ ps, u ≠ .tbl ps) → G1 b = some u → G2 b = some u) → (∀ b u, b ≠ L → (∀ ps, u ≠ .tbl ps) → G2 b = some u → G3 b = some u) → ∀ b u, b ≠ L → (∀ ps, u ≠ .tbl ps) → G1 b = some u → G3 b = some u := fun k1 k2 b u nb hn hb => k2 b u nb hn (k1 b u nb hn hb)
      refine case_go (x := x) (o := o) (j := 1) hL8 rfl (Nat.le_of_ble_eq_true rfl) t8 (fun G R r => ⟨_, rfl, r _ G (fun _ _ h => h) rfl⟩) fun y1 H9 k9 t9 hL9 c9 => ?_
      have c09 := c8.enl hL8 k9
      refine case_go (x := x) (o := o) (j := 2) hL9 rfl (Nat.le_of_ble_eq_true rfl) t9 (fun G R r => ⟨_, rfl, r _ G (fun _ _ h => h) rfl⟩) fun y2 H10 k10 t10 hL10 c10 => ?_
      have c010 := c09.enl hL9 k10
      have c110 := c9.enl hL9 k10
      have k810 := kt k9 k10
      clear c09 c9 c8 k9 k10 t9
      refine case_go (x := x) (o := o) (j := 3) hL10 rfl (Nat.le_of_ble_eq_true rfl) t10 (fun G R r => ⟨_, rfl, r _ G (fun _ _ h => h) rfl⟩) fun y3 H11 k11 t11 hL11 c11 => ?_
      have c011 := c010.enl hL10 k11
      have c111 := c110.enl hL10 k11
      have c211 := c10.enl hL10 k11
      have k811 := kt k810 k11
      clear c010 c110 c10 k11 k810 t10
      refine case_go (x := x) (o := o) (j := 4) hL11 rfl (Nat.le_of_ble_eq_true rfl) t11 (fun G R r => r _ G (fun _ _ h => h) rfl) fun y4 H12 k12 t12 hL12 c12 => ?_
      have c012 := c011.enl hL11 k12
      have c112 := c111.enl hL11 k12
      have c212 := c211.enl hL11 k12
      have c312 := c11.enl hL11 k12
      have k812 := kt k811 k12
      clear c011 c111 c211 c11 k12 k811 t11
      refine case_go (x := x) (o := o) (j := 5) hL12 rfl (Nat.le_of_ble_eq_true rfl) t12 (fun G R r => ⟨_, rfl, r _ G (fun _ _ h => h) rfl⟩) fun y5 H13 k13 t13 hL13 c13 => ?_
      have c013 := c012.enl hL12 k13
      have c113 := c112.enl hL12 k13
      have c213 := c212.enl hL12 k13
      have c313 := c312.enl hL12 k13
      have c413 := c12.enl hL12 k13
      have k813 := kt k812 k13
      have e613 := eN k813
      have hs13 := hs.ext e613
      have hx13 := hx.ext ((LamX.ExtN.of s06).trans e613)
      clear c012 c112 c212 c312 c12 k13 k812 t12 hs
      have hall : ∀ (i : Nat) y, ([.ref t0] ++ [y1] ++ [y2] ++ [y3] ++ [y4] ++ [y5] : List V)[i]? = some y → i < 6 ∧ CaseAt (cxOf CX0 P w K mg base nSr "_law_sessions_right" (defScope sSr) f (.ref c) A outer s H E).env x o i y H13 := fun i y h => by
        match i, h with
        | 0, h => cases h; exact ⟨by decide, c013⟩
        | 1, h => cases h; exact ⟨by decide, c113⟩
        | 2, h => cases h; exact ⟨by decide, c213⟩
        | 3, h => cases h; exact ⟨by decide, c313⟩
        | 4, h => cases h; exact ⟨by decide, c413⟩
        | 5, h => cases h; exact ⟨by decide, c13⟩
        | n + 6, h => cases h
      clear c013 c113 c213 c313 c413 c13
      refine for_go ?_
      refine ⟨_, rfl, L, rfl, ⟨_, sq hL13⟩, for_list (K := K) (a := L) (xs := [.ref t0] ++ [y1] ++ [y2] ++ [y3] ++ [y4] ++ [y5]) (fun i σ G => ∃ v4 v5 : Option V, σ = [some x, some (.ref p), some (.ref o), some (.ref L), v4, v5] ∧ Same H13 G) ?_ ?_ ?_ ?_⟩
      · exact ⟨_, _, rfl, fun _ _ h => h⟩
      · rintro i σ G _ ⟨v4, v5, rfl, sG⟩
        exact sq (sG _ _ hL13)
      · rintro i y σ G hy ⟨v4, v5, rfl, sG⟩
        obtain ⟨hi, ca⟩ := hall i y hy
        obtain ⟨t, f1, c1, d1, rfl, ht, hf, hc, hd⟩ := (ca.ext (LamX.ExtN.of sG)).ex
        have hsG := hs13.ext (LamX.ExtN.of sG)
        refine ⟨t, _, rfl, st ht, rfl, _, _, rfl, _, _, rfl, rfl, ?_⟩
        refine ⟨i, f1, c1, hi, rfl, hc, hf, act_go hi rfl rfl rfl (hx13.same sG) oD hsG (fun r H2 s2 hr2 => ?_) hf⟩
        refine ⟨_, rfl, ⟨r, d1, _, _, rfl, rfl, st hr2, st (s2 _ _ hd), Prs.cons (.inl ⟨rfl, rfl, by show (_ == _) = true; exact beq_self_eq_true _⟩) (Prs.cons ?_ Prs.nil)⟩, fun H3 e3 => ⟨_, rfl, itbF rfl ?_⟩⟩
        · exact dfs_due hx hi
        have s23 : Same G H3 := s2.trans fun b u hb => e3 b u hb
        have hs3 := hsG.ext (LamX.ExtN.of s23)
        obtain ⟨⟨dx, fo, tt, l, top, xs, F, g1, g2, g3, g4, g5, g6⟩, _⟩ := hs3
        refine ⟨_, rfl, p, dx, _, rfl, g1, se_no (by decide +kernel), p, dx, fo, tt, l, top, _, xs, _, rfl, g1, g4, g5, g6, by decide, fun r2 ys H4 s4 hr4 hA4 => ?_⟩
        refine ⟨by show 2 ≤ sizeLine; decide, fun u1 nu1 => ⟨by show 1 ≤ sizeLine; decide, fun u2 nu2 => ?_⟩⟩
        have s5 := same_new nu1 (o := .tup [.int 1, .int 1])
        have s56 := s5.trans (same_new nu2 (o := .lst [.ref u1]))
        refine ne_same lay_11 (Dv.lst (s56 _ _ hr4) (hA4.same s56)) (.lst upd_same (.cons (.tup (same_new nu2 _ _ upd_same) (.cons (.int _) (.cons (.int _) .nil))) .nil)) ⟨_, rfl, itbF rfl ?_⟩
        exact ⟨_, _, rfl, ((sG.trans s23).trans s4).trans s56⟩
      · rintro σ G ⟨v4, v5, rfl, sG⟩
        have hsG := hs13.ext (LamX.ExtN.of sG)
        obtain ⟨⟨dx, fo, tt, l, top, xs, F, g1, g2, g3, g4, g5, g6⟩, _⟩ := hsG
        refine ⟨_, rfl, p, dx, _, rfl, g1, se_no (by decide +kernel), Nat.zero_le _, fun e ne => ?_⟩
        have se := same_new ne (o := .tup ([] : List V))
        refine ⟨p, dx, fo, tt, e, false, rfl, se _ _ g1, upd_same, fun H' keep => ⟨rfl, ?_⟩⟩
        rw [decide_eq_true rfl]
        have eG : LamX.ExtN H (upd G e (.tup [])) := ((LamX.ExtN.of s06).trans e613).trans (LamX.ExtN.of (sG.trans se))
        refine q H' (fun b u hb hn => keep b u (ne_of_none hb npH) (eG b u hb hn)) (tabs_but ((t13.ext sG).ext se) (se _ _ g1) nib (fun _ _ => code_ins) keep)
end
end K1


set_option Elab.async false
set_option linter.all false
set_option maxRecDepth 100000
set_option maxHeartbeats 8000000
/-! k23: what the law asks: mathematics. -/
namespace K1
open PySem PySem.Spec PyProof.Rows L2 RZ StX
theorem badE_snoc {d : PyData} : ∀ {rows : List En} {ah : Int}, (∀ e ∈ rows, EnG e) → (rows.map (·.n)).Pairwise (· < ·) → (∀ x ∈ rows, ah < x.n) → (enB d = false ∨ dN d ≤ ah) → badE ah (rows.map enD ++ [d]) = some rows.length
  | [], ah, _, _, _, hd => by
    show (if enB d = true ∧ ah < dN d then _ else some 0) = some 0
    rw [if_neg]
    rintro ⟨h1, h2⟩
    rcases hd with hd | hd
    · rw [hd] at h1; cases h1
    · omega
  | e :: r, ah, h, u, a, hd => by
    show (if enB (enD e) = true ∧ ah < dN (enD e) then (badE (dN (enD e)) (r.map enD ++ [d])).map (· + 1) else some 0) = some (r.length + 1)
    have ae : ah < e.n := a e List.mem_cons_self
    rw [if_pos ⟨enB_ok (h e List.mem_cons_self).ok, ae⟩, dN_en, badE_snoc (fun x hx => h x (List.mem_cons_of_mem _ hx)) (List.pairwise_cons.mp u).2 (fun x hx => (List.pairwise_cons.mp u).1 x.n (List.mem_map.mpr ⟨x, hx, rfl⟩)) (hd.imp_right fun z => Int.le_of_lt (Int.lt_of_le_of_lt z ae))]
    rfl
theorem told_bad {rows : List En} {d e : PyData} (g : RwG rows) (hd : enB d = false) : toldD (.list (rows.map enD ++ [d])) e = rowE rows.length :=
  told_row rfl (badE_snoc g.ok g.up (fun x hx => by have := (g.ok x hx).1; omega) (.inl hd))
theorem told_dup {r : List En} {e0 : En} {e : PyData} (g : RwG (e0 :: r)) : toldD (.list ((e0 :: r).map enD ++ [enD e0])) e = rowE ((e0 :: r).length : Nat) := by
  refine told_row rfl ?_
  show (if enB (enD e0) = true ∧ 0 < dN (enD e0) then (badE (dN (enD e0)) (r.map enD ++ [enD e0])).map (· + 1) else some 0) = some (r.length + 1)
  have h0 := g.ok e0 List.mem_cons_self
  rw [if_pos ⟨enB_ok h0.ok, by rw [dN_en]; have := h0.1; omega⟩, dN_en, badE_snoc (fun x hx => g.ok x (List.mem_cons_of_mem _ hx)) (List.pairwise_cons.mp g.up).2 (fun x hx => (List.pairwise_cons.mp g.up).1 x.n (List.mem_map.mpr ⟨x, hx, rfl⟩)) (.inr (by rw [dN_en]; exact Int.le_refl _))]
  rfl
theorem told_odd {rows0 rows : List En} {low : Int} {nts : List Nt} {d : PyData} (g : RwG rows0) (hr : runA (rows0, 0) (nts.map ntD) = some (rows, low)) (hd : fitB rows low d = false) : toldD (.list (rows0.map enD)) (.list (nts.map ntD ++ [d] ++ [.none])) = notE nts.length := by
  rw [told_rows g rfl rfl rfl]
  refine toldL_bad ?_
  show badA _ (nts.map ntD ++ [d] ++ [.none]) = _
  have hs : stA (rows, low) d = none := by
    have := stA_fit (s := (rows, low)) (d := d)
    dsimp only at this
    rw [hd] at this
    cases h : stA (rows, low) d with
    | none => rfl
    | some x => rw [h] at this; cases this
  rw [List.append_assoc, badA_split hr, List.singleton_append, badA_bad hs, List.length_map]
  show some (0 + nts.length) = _
  rw [Nat.zero_add]
theorem told_fit {rows0 rows : List En} {low : Int} {nts : List Nt} (g : RwG rows0) (hr : runA (rows0, 0) (nts.map ntD) = some (rows, low)) : toldD (.tuple (rows0.map enD)) (.tuple (nts.map ntD)) = .list (rows.map enD) := by
  rw [told_rows g rfl rfl rfl]
  exact toldL_ok (bad_of_run hr) hr
theorem told_noE {d : PyData} (h : isSeq d = false) : toldD (.list []) d = notE (-1) := by
  rw [told_go rfl rfl]; exact toldN_no h
/-- entries that are none -/
noncomputable def oddE : List PyData := [.none, .tuple [.int 1, .tuple []], .tuple [.int 0, .tuple [], .int 1], .tuple [.int 1, .tuple ((["a", "a"] : List Str).map .str), .int 1], .tuple [.int 1, .tuple [], .int (-1)], .list [.int 1, .tuple [], .int 1], .tuple [.bool true, .tuple [], .int 1],
  .tuple [.int 1, .tuple [], .none], .tuple [.int 1, .tuple [], .int 1, .int 1], .tuple []]
theorem gsE7 {σ : L2.St} : GsA (tCons (tC .non) (tCons (tTup (tCons (tC (.int 1)) (tCons (tTup tNil) tNil))) (tCons (tTup (tCons (tC (.int 0)) (tCons (tTup tNil) (tCons (tC (.int 1)) tNil)))) (tCons (tTup (tCons (tC (.int 1)) (tCons (tTup (tCons (tC (.str "a")) (tCons (tC (.str "a")) tNil))) (tCons (tC (.int 1)) tNil)))) (tCons (tTup (tCons (tC (.int 1)) (tCons (tTup tNil) (tCons (tUn (rU fun i => .int (-i)) (tC (.int 1))) tNil)))) (tCons (tLst (tCons (tC (.int 1)) (tCons (tTup tNil) (tCons (tC (.int 1)) tNil)))) (tCons (tTup (tCons (tC (.bl true)) (tCons (tTup tNil) (tCons (tC (.int 1)) tNil)))) tNil))))))) σ (oddE.take 7) :=
  gs_cons gs_non (gs_cons (gs_tup (gs_cons (gs_int _) (gs_cons (gs_tup gs_nil) gs_nil))) (gs_cons (gs_tup (gs_cons (gs_int _) (gs_cons (gs_tup gs_nil) (gs_cons (gs_int _) gs_nil)))) (gs_cons (gs_tup (gs_cons (gs_int _) (gs_cons (gs_tup (gs_cons (gs_str _) (gs_cons (gs_str _) gs_nil))) (gs_cons (gs_int _) gs_nil)))) (gs_cons (gs_tup (gs_cons (gs_int _) (gs_cons (gs_tup gs_nil) (gs_cons (gs_neg _) gs_nil)))) (gs_cons (gs_lst (gs_cons (gs_int _) (gs_cons (gs_tup gs_nil) (gs_cons (gs_int _) gs_nil)))) (gs_cons (gs_tup (gs_cons (gs_bl _) (gs_cons (gs_tup gs_nil) (gs_cons (gs_int _) gs_nil)))) gs_nil))))))
theorem gsE3 {σ : L2.St} : GsA (tCons (tTup (tCons (tC (.int 1)) (tCons (tTup tNil) (tCons (tC .non) tNil)))) (tCons (tTup (tCons (tC (.int 1)) (tCons (tTup tNil) (tCons (tC (.int 1)) (tCons (tC (.int 1)) tNil))))) (tCons (tTup tNil) tNil))) σ (oddE.drop 7) :=
  gs_cons (gs_tup (gs_cons (gs_int _) (gs_cons (gs_tup gs_nil) (gs_cons gs_non gs_nil)))) (gs_cons (gs_tup (gs_cons (gs_int _) (gs_cons (gs_tup gs_nil) (gs_cons (gs_int _) (gs_cons (gs_int _) gs_nil))))) (gs_cons (gs_tup gs_nil) gs_nil))
noncomputable def four8 : List PyData := [.none, .int 5, .str "ab", .dict []]
theorem gs_dic {σ : L2.St} : Gs tDNewK σ (.dict []) := fun G Q q => fun p np => q _ _ (same_new np) (.dic upd_same)
theorem gsE4 {σ : L2.St} : GsA (tCons (tC .non) (tCons (tC (.int 5)) (tCons (tC (.str "ab")) (tCons tDNewK tNil)))) σ four8 := gs_cons gs_non (gs_cons (gs_int _) (gs_cons (gs_str _) (gs_cons gs_dic gs_nil)))
theorem four8_ok : ∀ d ∈ four8, itemsD d = [] ∧ isSeq d = false ∧ OddD d := fun d hd => by
  simp only [four8, List.mem_cons, List.not_mem_nil, or_false] at hd
  rcases hd with rfl | rfl | rfl | rfl
  · exact ⟨rfl, rfl, by show "NoneType" ∈ _; decide +kernel⟩
  · exact ⟨rfl, rfl, by show "int" ∈ _; decide +kernel⟩
  · exact ⟨rfl, rfl, by show "str" ∈ _; decide +kernel⟩
  · exact ⟨rfl, rfl, by show "dict" ∈ _; decide +kernel⟩
theorem oddE_bad : ∀ d ∈ oddE, enB d = false ∧ enW d := fun d hd => by
  simp only [oddE, List.mem_cons, List.not_mem_nil, or_false] at hd
  have aa : sgW (.tuple ((["a", "a"] : List Str).map .str)) := (sgW_strs (ss := ["a", "a"]) (by decide +kernel)).1
  have fl : ∀ {d : PyData}, itemsD d = [] → sgW d := fun h => sgW_flat h
  rcases hd with rfl | rfl | rfl | rfl | rfl | rfl | rfl | rfl | rfl | rfl
  · exact ⟨rfl, enW_flat rfl⟩
  · exact ⟨rfl, enW_tup (Nat.le_of_ble_eq_true rfl) (all2 (fl rfl) (fl rfl))⟩
  · exact ⟨rfl, enW_tup (Nat.le_of_ble_eq_true rfl) (all3 (fl rfl) (fl rfl) (fl rfl))⟩
  · refine ⟨?_, enW_tup (Nat.le_of_ble_eq_true rfl) (all3 (fl rfl) aa (fl rfl))⟩
    show (isNum (.int 1) && sgsB (.tuple ((["a", "a"] : List Str).map .str)) && isMrk (.int 1)) = false
    rw [sgsB_strs]; decide +kernel
  · refine ⟨?_, enW_tup (Nat.le_of_ble_eq_true rfl) (all3 (fl rfl) (fl rfl) (fl rfl))⟩
    show (isNum (.int 1) && sgsB (.tuple []) && isMrk (.int (-1))) = false
    rw [show isMrk (.int (-1)) = false from rfl, Bool.and_false]
  · exact ⟨rfl, enW_lst (Nat.le_of_ble_eq_true rfl) (all3 (fl rfl) (fl rfl) (fl rfl))⟩
  · exact ⟨rfl, enW_tup (Nat.le_of_ble_eq_true rfl) (all3 (fl rfl) (fl rfl) (fl rfl))⟩
  · refine ⟨?_, enW_tup (Nat.le_of_ble_eq_true rfl) (all3 (fl rfl) (fl rfl) (fl rfl))⟩
    show (isNum (.int 1) && sgsB (.tuple []) && isMrk .none) = false
    rw [show isMrk .none = false from rfl, Bool.and_false]
  · exact ⟨rfl, enW_tup (Nat.le_of_ble_eq_true rfl) (all4 (fl rfl) (fl rfl) (fl rfl) (fl rfl))⟩
  · exact ⟨rfl, enW_flat rfl⟩
end K1


set_option Elab.async false
set_option linter.all false
set_option maxRecDepth 100000
set_option maxHeartbeats 8000000
/-! k23: the law. -/
namespace K1
open PySem PySem.Spec PyProof.Rows L2 RZ StX
abbrev sLw : Stmt := st_law
abbrev nLw : List Str := ["_law_script", "_law_cell", "_law_well_here", "_law_entries_here", "_law_found", "_law_notices", "_law_low", "_law_k", "_law_odd", "_law_notice_here", "_law_odds"]
abbrev pLw : List Str := ["_law_script"]
theorem scLw : FnScope nLw pLw (defScope sLw) := ⟨rfl, rfl, rfl, by decide +kernel, rfl, by decide +kernel, by decide +kernel⟩
def spLaw (K : PySem.W.Frag) (PS : Addr) : Sp := fun vs H Q _ => ∃ (a : Addr) (xs : List Int), vs = [.ref a] ∧ SqL K H a (xs.map V.int) ∧ xs.length ≤ 63 ∧ LamX.Tabs (T1 PS) H ∧ ∀ H', Q (.bl true) H'
/-- what stands in one turn of the law: G0 its beginning, p the well, L0 the list -/
structure Lt0 (PS : Addr) (G0 G : Hp) (p L0 : Addr) (xs0 : List V) (rows0 : List En) (k : Nat) : Prop where
  e : LamX.ExtN G0 G
  t : LamX.Tabs (T1 PS) G
  w : WellT G p k
  l : G L0 = some (.lst xs0)
  r : RwA G xs0 rows0
  np : G0 p = none
  n : L0 ≠ p
section
variable {PS : Addr} {G0 G J : Hp} {p L0 : Addr} {xs0 : List V} {rows0 : List En} {k k' : Nat}
theorem Lt0.same (h : Lt0 PS G0 G p L0 xs0 rows0 k) (s : Same G J) : Lt0 PS G0 J p L0 xs0 rows0 k := ⟨h.e.trans (LamX.ExtN.of s), h.t.ext s, h.w.same s, s _ _ h.l, h.r.same s, h.np, h.n⟩
theorem Lt0.ext (h : Lt0 PS G0 G p L0 xs0 rows0 k) (g : RwG rows0) (e : Ext p G J) (w : WellT J p k') : Lt0 PS G0 J p L0 xs0 rows0 k' :=
  ⟨fun b o hb hn => e b o (ne_of_none hb h.np) (h.e b o hb hn), by
    obtain ⟨c, m, t, hp, _⟩ := h.w
    exact tabs_but h.t hp nlb (fun _ _ => code_lst) e, w, e _ _ h.n h.l, RwA.tu (TU.w h.w e) h.r g.ok, h.np, h.n⟩
theorem Lt0.mut (h : Lt0 PS G0 G p L0 xs0 rows0 k) (g : RwG rows0) {N : Addr} {ns : List V} {o : HO} (hN : G N = some (.lst ns)) (n0 : G0 N = none) (n1 : N ≠ p) (n2 : L0 ≠ N) : Lt0 PS G0 (upd G N o) p L0 xs0 rows0 k :=
  ⟨fun b u hb hn => by rw [upd_ne (ne_of_none hb n0)]; exact h.e b u hb hn, tabs_but h.t hN nlb (fun _ _ => code_lst) fun b u nb hb => by rw [upd_ne nb]; exact hb,
    h.w.keep fun u hu => by rw [upd_ne n1.symm]; exact hu, by rw [upd_ne n2]; exact h.l, RwA.tu (TU.mut hN fun _ z => by cases z) h.r g.ok, h.np, h.n⟩
end
theorem nextE {D : Ends} {σ : L2.St} {H : Hp} (h : D.nx σ H) : tNext D σ H := h
theorem rwW_list {rows : List En} {ds : List PyData} (g : RwG rows) (h : ∀ d ∈ ds, enW d) (l : rows.length + ds.length ≤ 300) : rwW (.list (rows.map enD ++ ds)) := (rwW_of (by rw [List.length_append, List.length_map]; exact l) fun d hd => (List.mem_append.mp hd).elim (g.w d) (h d)).1
theorem one_mem {α : Type} {P : α → Prop} {a : α} (h : P a) : ∀ x ∈ [a], P x := fun x hx => by rw [List.mem_singleton.mp hx]; exact h
theorem enW_non : enW .none := enW_flat rfl
section
variable {P : Program} {w : World} {K : PySem.W.Frag} {mg : Str → Option Value} {base : Heap} {PS : Addr}
set_option maxHeartbeats 64000000 in
theorem ok_law {f : Addr} {fd : FuncData} (T : Bj mg) (D_cell : Def P w K mg base CX0 1 "_law_cell_at" nCell (spCell K)) (D_well : Def P w K mg base CX0 1 "_law_well" nWell spWell) (D_draw : Def P w K mg base CX0 1 "_law_draw" pDraw spDraw) (D_entries : Def P w K mg base CX0 3 "_law_entries" pEs spEs)
    (D_notice : Def P w K mg base CX0 3 "_law_notice" pNt spNt) (D_behind : Def P w K mg base CX0 1 "_law_behind" pLb spLb) (D_odd_notices : Def P w K mg base CX0 1 "_law_odd_notices" pOd spOd) (D_told : Def P w K mg base CX0 6 "_law_told" pTo spTo)
    (D_long_right : Def P w K mg base CX0 7 "_law_long_right" pLr spLr) (D_sessions_right : Def P w K mg base CX0 9 "_law_sessions_right" pSr (spSr PS)) (F : Fun K "law" "law" sLw f fd) : FnOk P w K mg base CX0 10 f fd pLw (spLaw K PS) := by
  have nd := scLw.nd
  refine F.ok scLw (fun vs H Q E h => ?_) (fun cdv A outer s H vs Q E hr h => ?_)
  · obtain ⟨a, ns, rfl, _⟩ := h
    rfl
  · obtain ⟨a, ns, rfl, hS, hl, hT, q⟩ := h
    refine ⟨_, (C8.pss_cut (ps_for PassesOwn.never rfl (pi_listK (K := K) rfl (pe_op op_cat (pe_lst (pa_cons (pe_def D_cell (hr.mono (by decide)) rfl pass0 (pa_cons (pv 0) (pa_cons pe_int pa_nil))) pa_nil)) (pe_slice (sl_listK (K := K) rfl) (pv 0) (po_some pe_int) (po_some pe_int)))) (pg_name (i := 1) nd rfl (Or.inl rfl))
  (pss_cons (ps_set (i := 2) nd rfl (Or.inl rfl) (pe_def D_well (hr.mono (by decide)) rfl pass0 (pa_cons (pv 1) pa_nil)))
 (pss_cons (ps_set (i := 3) nd rfl (Or.inl rfl) (pe_def D_entries (hr.mono (by decide)) rfl pass0 (pa_cons (pv 2) pa_nil)))
 (pss_cons (ps_par3 (i := 4) (j := 5) (l := 6) (by rfl) nd rfl rfl rfl (by decide) (by decide) (by decide) rfl rfl rfl (pa_cons (pe_callTy (call_list_ofK (K := K) rfl) (by rfl) T.list PyProof.Rows.boot_list (pa_cons (pv 3) pa_nil)) (pa_cons (pe_lst pa_nil) (pa_cons pe_int pa_nil))) (by rfl))
 (C8.pss_cut (ps_for PassesOwn.never rfl (pi_range1 rfl T.range (pa_cons (pe_def D_draw (hr.mono (by decide)) rfl pass0 (pa_cons (pv 2) (pa_cons pe_int pa_nil))) pa_nil)) (pg_name (i := 7) nd rfl (Or.inl rfl))
  (C8.pss_cut (ps_for PassesOwn.never rfl (pi_listK (K := K) rfl (pe_def D_odd_notices (hr.mono (by decide)) rfl pass0 (pa_cons (pv 4) (pa_cons (pv 6) pa_nil)))) (pg_name (i := 8) nd rfl (Or.inl rfl))
  (pss_one (ps_if (pt_cmpR (op_neDK (K := K) rfl hr.units) (pe_def D_told (hr.mono (by decide)) rfl pass0 (pa_cons (pv 3) (pa_cons (pe_op op_cat (pe_op op_cat (pv 5) (pe_lst (pa_cons (pv 8) pa_nil))) (pe_lst (pa_cons pe_non pa_nil))) pa_nil))) (pe_tup (pa_cons pe_str (pa_cons (pv 7) pa_nil))) (nomark _))
  (pss_one (ps_ret pe_bl))
  pss_nil)))
 (pss_cons (ps_set (i := 9) nd rfl (Or.inl rfl) (pe_def D_notice (hr.mono (by decide)) rfl pass0 (pa_cons (pv 2) (pa_cons (pv 4) (pa_cons (pv 6) pa_nil)))))
 (C8.pss_cut (ps_set (i := 6) nd rfl (Or.inl rfl) (pe_ifExp (pt_cmpR op_eq (pe_ix (ix_tupK (K := K) rfl) (pv 9) pe_int (fun _ _ => rfl)) pe_str (nomark _)) (pe_ix (ix_tupK (K := K) rfl) (pv 9) pe_int (fun _ _ => rfl)) (pv 6)))
 (pss_cons (ps_expr (pe_bm PySem.F.plainAttrs_list PySem.F.slot_list_append PySem.F.type_list_append mt_append (pv 5) (pa_cons (pv 9) pa_nil)))
 (pss_cons (ps_set (i := 4) nd rfl (Or.inl rfl) (pe_def D_behind (hr.mono (by decide)) rfl pass0 (pa_cons (pv 4) (pa_cons (pv 9) pa_nil))))
 (pss_one (ps_if (pt_cmpR (op_neDK (K := K) rfl hr.units) (pe_def D_told (hr.mono (by decide)) rfl pass0 (pa_cons (pe_callTy (call_tuple_ofK (K := K) rfl) (by rfl) T.tuple PyProof.Rows.boot_tuple (pa_cons (pv 3) pa_nil)) (pa_cons (pe_callTy (call_tuple_ofK (K := K) rfl) (by rfl) T.tuple PyProof.Rows.boot_tuple (pa_cons (pv 5) pa_nil)) pa_nil))) (pv 4) (nomark _))
  (pss_one (ps_ret pe_bl))
  pss_nil))))))))
 (pss_cons (ps_set (i := 10) nd rfl (Or.inl rfl) (pe_lst (pa_cons pe_non (pa_cons (pe_tup (pa_cons pe_int (pa_cons (pe_tup pa_nil) pa_nil))) (pa_cons (pe_tup (pa_cons pe_int (pa_cons (pe_tup pa_nil) (pa_cons pe_int pa_nil)))) (pa_cons (pe_tup (pa_cons pe_int (pa_cons (pe_tup (pa_cons pe_str (pa_cons pe_str pa_nil))) (pa_cons pe_int pa_nil)))) (pa_cons (pe_tup (pa_cons pe_int (pa_cons (pe_tup pa_nil) (pa_cons (pe_un un_neg pe_int) pa_nil)))) (pa_cons (pe_lst (pa_cons pe_int (pa_cons (pe_tup pa_nil) (pa_cons pe_int pa_nil)))) (pa_cons (pe_tup (pa_cons pe_bl (pa_cons (pe_tup pa_nil) (pa_cons pe_int pa_nil)))) pa_nil)))))))))
 (C8.pss_cut (ps_for PassesOwn.never rfl (pi_listK (K := K) rfl (pe_op op_cat (pv 10) (pe_lst (pa_cons (pe_tup (pa_cons pe_int (pa_cons (pe_tup pa_nil) (pa_cons pe_non pa_nil)))) (pa_cons (pe_tup (pa_cons pe_int (pa_cons (pe_tup pa_nil) (pa_cons pe_int (pa_cons pe_int pa_nil))))) (pa_cons (pe_tup pa_nil) pa_nil)))))) (pg_name (i := 8) nd rfl (Or.inl rfl))
  (pss_one (ps_if (pt_cmpR (op_neDK (K := K) rfl hr.units) (pe_def D_told (hr.mono (by decide)) rfl pass0 (pa_cons (pe_op op_cat (pv 3) (pe_lst (pa_cons (pv 8) pa_nil))) (pa_cons (pe_lst (pa_cons pe_non pa_nil)) pa_nil))) (pe_tup (pa_cons pe_str (pa_cons (pe_callB (call_lenK (K := K) rfl) (by rfl) T.len PySem.boot_len (pa_cons (pv 3) pa_nil)) pa_nil))) (nomark _))
  (pss_one (ps_ret pe_bl))
  pss_nil)))
 (C8.pss_cut (ps_if (PW.pt (pw_and (pt_cmpR (op_neDK (K := K) rfl hr.units) (pv 3) (pe_lst pa_nil) (nomark _)) (pw_and1 (pt_cmpR (op_neDK (K := K) rfl hr.units) (pe_def D_told (hr.mono (by decide)) rfl pass0 (pa_cons (pe_op op_cat (pv 3) (pe_lst (pa_cons (pe_ix (ix_listK (K := K) rfl) (pv 3) pe_int (fun _ _ => rfl)) pa_nil))) (pa_cons (pe_lst pa_nil) pa_nil))) (pe_tup (pa_cons pe_str (pa_cons (pe_callB (call_lenK (K := K) rfl) (by rfl) T.len PySem.boot_len (pa_cons (pv 3) pa_nil)) pa_nil))) (nomark _)))))
  (pss_one (ps_ret pe_bl))
  pss_nil)
 (pss_cons (ps_if (pt_not (pt_val (pe_def D_long_right (hr.mono (by decide)) rfl pass0 (pa_cons (pv 2) pa_nil))))
  (pss_one (ps_ret pe_bl))
  pss_nil)
 (pss_one (ps_for PassesOwn.never rfl (pi_listK (K := K) rfl (pe_lst (pa_cons pe_non (pa_cons pe_int (pa_cons pe_str (pa_cons pe_dnewK pa_nil)))))) (pg_name (i := 8) nd rfl (Or.inl rfl))
  (pss_cons (ps_if (PW.pt (pw_or (pt_cmpR (op_neDK (K := K) rfl hr.units) (pe_def D_told (hr.mono (by decide)) rfl pass0 (pa_cons (pv 8) (pa_cons pe_non pa_nil))) (pe_tup (pa_cons pe_str (pa_cons (pe_un un_neg pe_int) pa_nil))) (nomark _)) (pw_or1 (pt_cmpR (op_neDK (K := K) rfl hr.units) (pe_def D_told (hr.mono (by decide)) rfl pass0 (pa_cons (pe_lst pa_nil) (pa_cons (pv 8) pa_nil))) (pe_tup (pa_cons pe_str (pa_cons (pe_un un_neg pe_int) pa_nil))) (nomark _)))))
  (pss_one (ps_ret pe_bl))
  pss_nil)
 (pss_one (ps_if (pt_not (pt_val (pe_def D_sessions_right (hr.mono (by decide)) rfl pass0 (pa_cons (pv 8) pa_nil))))
  (pss_one (ps_ret pe_bl))
  pss_nil))))))))))))))
 (pss_one (ps_ret pe_bl))), ?_⟩
    have sqS : ∀ {H1 H2 : Hp} {b : Addr} {xs : List V}, SqL K H1 b xs → Same H1 H2 → SqL K H2 b xs := fun {H1 H2 b xs} h s => by
      rcases h with (h | ⟨o, h⟩) | h
      · exact .inl (.inl (s _ _ h))
      · exact .inl (.inr ⟨o, s _ _ h⟩)
      · exact .inr h
    refine ⟨fun _ _ => True, ?_, fun σ H1 _ => q H1⟩
    refine ⟨_, rfl, a, ns, 0, rfl, hS, by decide, fun c0 => ⟨lt1 _ (by show 1 ≤ 100000; decide), fun l1 nl1 => ?_⟩⟩
    have s1 := same_new (o := .lst [.int c0]) nl1
    have hl1 : (upd H l1 (.lst [.int c0])) l1 = some (.lst [.int c0]) := upd_same
    generalize upd H l1 (.lst [.int c0]) = H1 at s1 hl1
    refine ⟨_, rfl, 1, rfl, 3, rfl, a, _, rfl, sqS hS s1, fun l2 nl2 => ?_⟩
    have s2 := same_new nl2 (o := .lst (cutV (ns.map V.int) (some 1) (some 3)))
    have hl2 : (upd H1 l2 (.lst (cutV (ns.map V.int) (some 1) (some 3)))) l2 = some (.lst (cutV (ns.map V.int) (some 1) (some 3))) := upd_same
    generalize upd H1 l2 (.lst (cutV (ns.map V.int) (some 1) (some 3))) = H2 at s2 hl2
    have hints : ∀ x ∈ cutV (ns.map V.int) (some 1) (some 3), ∃ n, x = .int n := fun x hx => by
      unfold cutV at hx
      obtain ⟨n, _, rfl⟩ := List.mem_map.mp (List.mem_of_mem_drop (List.mem_of_mem_take hx))
      exact ⟨n, rfl⟩
    have hlen : (cutV (ns.map V.int) (some 1) (some 3)).length ≤ 63 := Nat.le_trans (cutV_length _ _ _) (by rw [List.length_map]; exact hl)
    generalize cutV (ns.map V.int) (some 1) (some 3) = cs at hl2 hints hlen
    refine cat_go (s2 _ _ hl1) hl2 (by show 1 + cs.length ≤ 100000; omega) fun M H3 s3 _ hM => ?_
    have hT3 := hT.ext ((s1.trans s2).trans s3)
    refine ⟨M, rfl, ⟨_, sq hM⟩, for_list (K := K) (a := M) (xs := [.int c0] ++ cs) (fun i σ G => (∃ v1 v2 v3 v4 v5 v6 v7 v8 v9 v10 : Option V, σ = [some (.ref a), v1, v2, v3, v4, v5, v6, v7, v8, v9, v10]) ∧ G M = some (.lst ([.int c0] ++ cs)) ∧ LamX.Tabs (T1 PS) G) ?_ ?_ ?_ ?_⟩
    · exact ⟨⟨_, _, _, _, _, _, _, _, _, _, rfl⟩, hM, hT3⟩
    · rintro i σ G _ ⟨_, h, _⟩
      exact sq h
    · rintro i y σ G0 hy ⟨⟨v1, v2, v3, v4, v5, v6, v7, v8, v9, v10, rfl⟩, hM0, hT0⟩
      obtain ⟨cc, rfl⟩ : ∃ n, y = V.int n := by
        rcases List.mem_append.mp (List.mem_of_getElem? hy) with h | h
        · exact ⟨_, List.mem_singleton.mp h⟩
        · exact hints y h
      refine ⟨_, rfl, cc, rfl, fun p G1 np sG1 w1 => ?_⟩
      refine ⟨_, rfl, p, 0, rfl, w1, by decide, fun L0 xs0 rows0 G2 e2 w2 nL0 hL0 hR0 g0 l6 => ?_⟩
      have nL0p := w1.ne nL0
      have h2 : Lt0 PS G0 G2 p L0 xs0 rows0 20 := ⟨fun b o hb hn => e2 b o (ne_of_none hb np) (sG1 _ _ hb), by
        obtain ⟨c, m, t, hp, _⟩ := w1
        exact tabs_but (hT0.ext sG1) hp nlb (fun _ _ => code_lst) e2, w2, hL0, hR0, np, nL0p⟩
      have nM : ∀ {G : Hp}, Lt0 PS G0 G p L0 xs0 rows0 60 → G M = some (.lst ([.int c0] ++ cs)) := fun h => h.e _ _ hM0 nlb
      refine ⟨_, rfl, L0, xs0, rfl, .inl (sq hL0), fun F0 nF => ⟨Nat.zero_le _, fun N nN => ⟨_, _, _, rfl, ?_⟩⟩⟩
      have sF := same_new nF (o := .lst xs0)
      have hF0 : (upd G2 F0 (.lst xs0)) F0 = some (.lst xs0) := upd_same
      have h3 := h2.same sF
      have nF0p := h2.w.ne nF
      generalize upd G2 F0 (.lst xs0) = G3 at sF hF0 h3 nN
      have sN := same_new nN (o := .lst ([] : List V))
      have hN4 : (upd G3 N (.lst ([] : List V))) N = some (.lst []) := upd_same
      have h4 := h3.same sN
      have nNp := h3.w.ne nN
      have nFN : F0 ≠ N := fun z => by rw [z, nN] at hF0; cases hF0
      have nLN : L0 ≠ N := fun z => by have := h3.l; rw [z, nN] at this; cases this
      have hF4 := sN _ _ hF0
      generalize upd G3 N (.lst ([] : List V)) = G4 at sN hN4 h4 hF4
      have nNG : G0 N = none := by
        cases hq : G0 N with
        | none => rfl
        | some u =>
          have := sG1 _ _ hq
          rw [sF _ _ (e2 _ _ nNp this)] at nN
          cases nN
      clear h2 h3 hR0 hL0 w2 e2 sF sN nN nF hF0 w1
      refine ⟨fun σ G => (∃ v4 v5 v6 v7 v8 v9 v10 : Option V, σ = [some (.ref a), some (.int cc), some (.ref p), some (.ref L0), v4, v5, v6, v7, v8, v9, v10]) ∧ Lt0 PS G0 G p L0 xs0 rows0 60, ?_, ?_⟩
      · refine ⟨_, rfl, p, 9, 20, rfl, h4.w, by decide, by decide, by decide, fun m G5 m0 m1 e5 w5 => ?_⟩
        have h5 : Lt0 PS G0 G5 p L0 xs0 rows0 21 := h4.ext g0 e5 w5
        have hF5 := e5 _ _ nF0p hF4
        have hN5 := e5 _ _ nNp hN4
        refine ⟨m, rfl, by omega, by omega, for_range (lo := 0) (n := m.toNat) (fun i σ G => ∃ (F : Addr) (fs ns : List V) (rows : List En) (nts : List Nt) (low : Int) (v7 v8 v9 v10 : Option V), σ = [some (.ref a), some (.int cc), some (.ref p), some (.ref L0), some (.ref F), some (.ref N), some (.int low), v7, v8, v9, v10] ∧
          Lt0 PS G0 G p L0 xs0 rows0 (21 + 4 * i) ∧ G F = some (.lst fs) ∧ F ≠ p ∧ F ≠ N ∧ RwA G fs rows ∧ RwG rows ∧ rows.length ≤ 6 + i ∧ G N = some (.lst ns) ∧ DvA G ns (nts.map ntD) ∧ nts.length = i ∧ (∀ t ∈ nts, NtG t) ∧ runA (rows0, 0) (nts.map ntD) = some (rows, low) ∧ 0 ≤ low) ?_ ?_ ?_⟩
        · exact ⟨F0, xs0, [], rows0, [], 0, _, _, _, _, rfl, h5, hF5, nF0p, nFN, h5.r, g0, by omega, hN5, .nil, rfl, (fun t ht => by cases ht), rfl, by decide⟩
        · rintro i σ G hi ⟨F, fs, ns, rows, nts, low, v7, v8, v9, v10, rfl, hG, hF, nFp, nFN, hRF, gF, lF, hN, hA, ln, gn, hrun, low0⟩
          have i8 : i ≤ 8 := by omega
          have lns := hA.len
          rw [List.length_map] at lns
          refine nm_go ?_
          refine ⟨fun σ' G' => (∃ v8 : Option V, σ' = [some (.ref a), some (.int cc), some (.ref p), some (.ref L0), some (.ref F), some (.ref N), some (.int low), some (.int (0 + (i : Int))), v8, v9, v10]) ∧ Same G G', ?_, ?_⟩
          · refine ⟨_, rfl, _, rfl, F, fs, rows, low, rfl, hF, hRF, gF, by omega, low0, fun c ys G6 s6 nc hc hod hly => ⟨c, rfl, ⟨_, sq hc⟩, for_list (K := K) (a := c) (xs := ys) (fun j σ G7 => (∃ v8 : Option V, σ = [some (.ref a), some (.int cc), some (.ref p), some (.ref L0), some (.ref F), some (.ref N), some (.int low), some (.int (0 + (i : Int))), v8, v9, v10]) ∧ Same G6 G7) ?_ ?_ ?_ ?_⟩⟩
            · exact ⟨⟨_, rfl⟩, fun _ _ h => h⟩
            · rintro j σ G7 _ ⟨_, s7⟩
              exact sq (s7 _ _ hc)
            · rintro j y σ G7 hy ⟨⟨v8, rfl⟩, s7⟩
              obtain ⟨d, hd, hbd, hwd⟩ := hod y (List.mem_of_getElem? hy)
              have hd7 := (dv_hid hd).same s7
              have s67 := s6.trans s7
              refine ⟨_, rfl, _, rfl, _, rfl, lt1 _ (by show 1 ≤ 100000; decide), fun L1 nL1 => ?_⟩
              have s8 := same_new nL1 (o := .lst [y])
              have hL1 : (upd G7 L1 (.lst [y])) L1 = some (.lst [y]) := upd_same
              generalize upd G7 L1 (.lst [y]) = G8 at s8 hL1
              refine cat_go ((s67.trans s8) _ _ hN) hL1 (by show ns.length + 1 ≤ 100000; omega) fun M1 G9 s9 _ hM1 => ?_
              refine ⟨lt1 _ (by show 1 ≤ 100000; decide), fun L2 nL2 => ?_⟩
              have s10 := same_new nL2 (o := .lst [V.non])
              have hL2 : (upd G9 L2 (.lst [V.non])) L2 = some (.lst [V.non]) := upd_same
              generalize upd G9 L2 (.lst [V.non]) = G10 at s10 hL2
              refine cat_go (s10 _ _ hM1) hL2 (by rw [List.length_append]; show ns.length + 1 + 1 ≤ 100000; omega) fun M2 G11 s11 _ hM2 => ?_
              have s711 := ((s8.trans s9).trans s10).trans s11
              have s011 := s67.trans s711
              have h11 := hG.same s011
              refine ⟨.ref L0, .ref M2, .list (rows0.map enD), .list (nts.map ntD ++ [d] ++ [.none]), rfl, .lst h11.l (of_rwA h11.r), .lst hM2 (((hA.same s011).app (.cons (hd7.same s711) .nil)).app (.cons .non .nil)), ?_, ?_, fun r G12 s12 hr12 => ?_⟩
              · exact (rwW_of (by rw [List.length_map]; omega) g0.w).1
              · refine (rwW_of (by rw [List.length_append, List.length_append, List.length_map]; show nts.length + 1 + 1 ≤ 300; omega) fun z hz => ?_).1
                rcases List.mem_append.mp hz with hz | hz
                · rcases List.mem_append.mp hz with hz | hz
                  · exact nts_w gn z hz
                  · rw [List.mem_singleton.mp hz]; exact hwd
                · rw [List.mem_singleton.mp hz]; exact enW_non
              · rw [told_odd g0 hrun hbd, ln] at hr12
                refine ⟨_, rfl, by show 2 ≤ sizeLine; decide, fun u nu => ?_⟩
                have s13 := same_new nu (o := .tup [.str "notice", .int (0 + (i : Int))])
                have hu : Dv (upd G12 u (.tup [.str "notice", .int (0 + (i : Int))])) (.ref u) (notE i) := by rw [Int.zero_add]; exact pair_dv nu
                refine ne_same (lay_note i) (hr12.same s13) hu ⟨_, rfl, itbF rfl ?_⟩
                exact ⟨⟨_, rfl⟩, (s7.trans s711).trans (s12.trans s13)⟩
            · rintro σ G7 ⟨⟨v8, rfl⟩, s7⟩
              exact ⟨⟨v8, rfl⟩, s6.trans s7⟩
          rintro σ' G' ⟨⟨v8, rfl⟩, sG'⟩
          have hG' := hG.same sG'
          have hF' := sG' _ _ hF
          have hRF' := hRF.same sG'
          have hN' := sG' _ _ hN
          have hA' := hA.same sG'
          refine ⟨_, rfl, _, rfl, _, rfl, p, F, fs, rows, low, _, rfl, hG'.w, by omega, hF', nFp, hRF', gF, by omega, low0, fun x t G7 e7 w7 hx gt hfit => ?_⟩
          have h7 := hG'.ext g0 e7 w7
          have hF7 := e7 _ _ nFp hF'
          have hN7 := e7 _ _ nNp hN'
          have t7 := TU.w hG'.w e7
          have hRF7 := RwA.tu t7 hRF' gF.ok
          have hA7 := hA'.tu t7 (nts_tO gn)
          clear hG hF hRF hN hA hG' hF' hRF' hN' hA'
          have hf0 : 0 ≤ flN low t := by
            cases t with
            | done m n => exact gt.1
            | _ => exact low0
          refine ⟨fun σ' G8 => G8 = G7 ∧ σ' = [some (.ref a), some (.int cc), some (.ref p), some (.ref L0), some (.ref F), some (.ref N), some (.int (flN low t)), some (.int (0 + (i : Int))), v8, some x, v10], ?_, ?_⟩
          · cases t with
            | come en =>
              obtain ⟨ta, yy, rfl, hta, _⟩ := tup4D hx
              exact ⟨_, rfl, ta, _, 0, _, rfl, rfl, st hta, atI_nat (j := 0) rfl, rfl, _, rfl, itbF (str_ne (by decide +kernel)) ⟨_, rfl, rfl, rfl⟩⟩
            | letter n sg m =>
              obtain ⟨ta, yy, rfl, hta, _⟩ := tup4D hx
              exact ⟨_, rfl, ta, _, 0, _, rfl, rfl, st hta, atI_nat (j := 0) rfl, rfl, _, rfl, itbF (str_ne (by decide +kernel)) ⟨_, rfl, rfl, rfl⟩⟩
            | gone n =>
              obtain ⟨ta, rfl, hta⟩ := tup2D hx
              exact ⟨_, rfl, ta, _, 0, _, rfl, rfl, st hta, atI_nat (j := 0) rfl, rfl, _, rfl, itbF (str_ne (by decide +kernel)) ⟨_, rfl, rfl, rfl⟩⟩
            | done m n =>
              obtain ⟨ta, rfl, hta⟩ := tup3D hx
              exact ⟨_, rfl, ta, _, 0, _, rfl, rfl, st hta, atI_nat (j := 0) rfl, rfl, _, rfl, itbT (decide_eq_true rfl) ⟨_, rfl, ta, _, 1, _, rfl, rfl, st hta, atI_nat (j := 1) rfl, rfl, rfl⟩⟩
          rintro σ' G8 ⟨rfl, rfl⟩
          refine ⟨_, rfl, .inl ⟨rfl, _, sq hN7⟩, _, rfl, N, ns, x, rfl, rfl, hN7, lt2 _ (by omega), ?_⟩
          have tm : TU G8 (upd G8 N (.lst (ns ++ [x]))) := TU.mut hN7 fun _ z => by cases z
          have h9 := h7.mut g0 hN7 nNG nNp nLN (o := .lst (ns ++ [x]))
          have hN9 : (upd G8 N (.lst (ns ++ [x]))) N = some (.lst (ns ++ [x])) := upd_same
          have hF9 : (upd G8 N (.lst (ns ++ [x]))) F = some (.lst fs) := by rw [upd_ne nFN]; exact hF7
          have hRF9 := RwA.tu tm hRF7 gF.ok
          have hx9 := hx.tu tm gt.tO
          have hA9 : DvA (upd G8 N (.lst (ns ++ [x]))) (ns ++ [x]) ((nts ++ [t]).map ntD) := by
            rw [List.map_append]
            exact (hA7.tu tm (nts_tO gn)).app (.cons hx9 .nil)
          clear hx hA7 hRF7 hF7 hN7 h7
          generalize upd G8 N (.lst (ns ++ [x])) = G9 at tm h9 hN9 hF9 hRF9 hx9 hA9
          refine ⟨_, rfl, _, rfl, F, fs, rows, low, x, t, rfl, hF9, hRF9, by omega, hx9, gt.ok, hfit, fun c ys G10 s10 hc10 hy10 hR10 => ?_⟩
          have gb := rwG_beh gF gt hfit
          have lb := behN_len hfit
          have h10 := h9.same s10
          have hN10 := s10 _ _ hN9
          have hA10 := hA9.same s10
          have gn' : ∀ u ∈ nts ++ [t], NtG u := fun u hu => (List.mem_append.mp hu).elim (gn u) fun z => by rw [List.mem_singleton.mp z]; exact gt
          have hrun' : runA (rows0, 0) ((nts ++ [t]).map ntD) = some (behN rows t, flN low t) := by
            rw [List.map_append, List.map_cons, List.map_nil, runA_snoc hrun]
            exact stA_ok (s := (rows, low)) gt.ok hfit
          have cp : c ≠ p := by
            rcases hc10 with rfl | hc10
            · exact nFp
            · exact h9.w.ne hc10
          have cN : c ≠ N := by
            rcases hc10 with rfl | hc10
            · exact nFN
            · exact fun z => by rw [z, hN9] at hc10; cases hc10
          refine ⟨_, rfl, L0, xs0, rfl, .inl ⟨sq h10.l, fun t1 nt1 => ?_⟩⟩
          have s11 := same_new nt1 (o := .tup xs0)
          have ht1 : (upd G10 t1 (.tup xs0)) t1 = some (.tup xs0) := upd_same
          generalize upd G10 t1 (.tup xs0) = G11 at s11 ht1
          refine ⟨_, rfl, N, ns ++ [x], rfl, .inl ⟨sq (s11 _ _ hN10), fun t2 nt2 => ?_⟩⟩
          have s12 := same_new nt2 (o := .tup (ns ++ [x]))
          have ht2 : (upd G11 t2 (.tup (ns ++ [x]))) t2 = some (.tup (ns ++ [x])) := upd_same
          generalize upd G11 t2 (.tup (ns ++ [x])) = G12 at s12 ht2
          have s1012 := s11.trans s12
          have h12 := h10.same s1012
          refine ⟨.ref t1, .ref t2, .tuple (rows0.map enD), .tuple ((nts ++ [t]).map ntD), rfl, .tup (s12 _ _ ht1) (of_rwA h12.r), .tup ht2 (hA10.same s1012), (rwW_of (by rw [List.length_map]; omega) g0.w).2, (rwW_of (by rw [List.length_map, List.length_append]; show nts.length + 1 ≤ 300; omega) (nts_w gn')).2, fun r G13 s13 hr13 => ⟨_, rfl, ?_⟩⟩
          rw [told_fit g0 hrun'] at hr13
          have s1013 := s1012.trans s13
          refine ne_same (lay_rows gb) hr13 (.lst (s1013 _ _ hy10) (of_rwA (hR10.same s1013))) ⟨_, rfl, itbF rfl ?_⟩
          have h13 := h10.same s1013
          refine ⟨c, ys, ns ++ [x], behN rows t, nts ++ [t], flN low t, _, _, _, _, rfl, ⟨h13.e, h13.t, h13.w.mono (by omega), h13.l, h13.r, h13.np, h13.n⟩, s1013 _ _ hy10, cp, cN, hR10.same s1013, gb, by omega, s1013 _ _ hN10, hA10.same s1013, by rw [List.length_append, ln]; rfl, gn', hrun', hf0⟩
        · rintro σ G ⟨F, fs, ns, rows, nts, low, v7, v8, v9, v10, rfl, hG, _⟩
          exact ⟨⟨_, _, _, _, _, _, _, rfl⟩, ⟨hG.e, hG.t, hG.w.mono (by omega), hG.l, hG.r, hG.np, hG.n⟩⟩
      rintro σ' G5 ⟨⟨v4, v5, v6, v7, v8, v9, v10, rfl⟩, hG⟩
      clear hF4 hN4 h4 nF0p nFN
      have lx0 := hG.r.len
      -- what is no entry
      refine asg_go ?_
      refine gsl gsE7 (by exact Nat.le_of_ble_eq_true rfl) G5 _ fun O os G6 s6 nO hO hA6 => ?_
      have h6 := hG.same s6
      refine nm_go ?_
      refine ⟨fun σ G => (∃ v8' v10' : Option V, σ = [some (.ref a), some (.int cc), some (.ref p), some (.ref L0), v4, v5, v6, v7, v8', v9, v10']) ∧ Lt0 PS G0 G p L0 xs0 rows0 60, ?_, ?_⟩
      · refine ⟨_, rfl, ?_⟩
        refine gsl gsE3 (by exact Nat.le_of_ble_eq_true rfl) G6 _ fun O2 os2 G7 s7 nO2 hO2 hA7 => ?_
        refine cat_go (s7 _ _ hO) hO2 (by rw [hA6.len, hA7.len]; exact Nat.le_of_ble_eq_true rfl) fun c G8 s8 _ hc => ⟨c, rfl, ⟨_, sq hc⟩, for_list (K := K) (a := c) (xs := os ++ os2) (fun j σ G => (∃ v8' : Option V, σ = [some (.ref a), some (.int cc), some (.ref p), some (.ref L0), v4, v5, v6, v7, v8', v9, some (.ref O)]) ∧ Same G8 G) ?_ ?_ ?_ ?_⟩
        · exact ⟨⟨_, rfl⟩, fun _ _ h => h⟩
        · rintro j σ G _ ⟨_, sG⟩
          exact sq (sG _ _ hc)
        · rintro j y σ G hy ⟨⟨v8', rfl⟩, sG⟩
          have hA8 : DvA G8 (os ++ os2) oddE := by
            have := (hA6.same (s7.trans s8)).app (hA7.same s8)
            rw [List.take_append_drop] at this
            exact this
          obtain ⟨d, hdm, hd⟩ := hA8.get hy
          obtain ⟨hb, hwd⟩ := oddE_bad d (List.mem_of_getElem? hdm)
          have hd := hd.same sG
          have hh := h6.same ((s7.trans s8).trans sG)
          refine ⟨_, rfl, _, rfl, lt1 _ (by show 1 ≤ 100000; decide), fun L1 nL1 => ?_⟩
          have t1 := same_new nL1 (o := .lst [y])
          have hL1 : (upd G L1 (.lst [y])) L1 = some (.lst [y]) := upd_same
          generalize upd G L1 (.lst [y]) = J1 at t1 hL1
          refine cat_go (t1 _ _ hh.l) hL1 (by show xs0.length + 1 ≤ 100000; omega) fun M1 J2 t2 _ hM1 => ?_
          refine ⟨lt1 _ (by show 1 ≤ 100000; decide), fun L2 nL2 => ?_⟩
          have t3 := same_new nL2 (o := .lst [V.non])
          have hL2 : (upd J2 L2 (.lst [V.non])) L2 = some (.lst [V.non]) := upd_same
          generalize upd J2 L2 (.lst [V.non]) = J3 at t3 hL2
          have t13 := (t1.trans t2).trans t3
          have h3 := hh.same t13
          refine ⟨.ref M1, .ref L2, .list (rows0.map enD ++ [d]), .list [.none], rfl, .lst (t3 _ _ hM1) ((of_rwA h3.r).app (.cons (hd.same t13) .nil)), .lst hL2 (.cons .non .nil), rwW_list g0 (one_mem hwd) (by show rows0.length + 1 ≤ 300; omega), (rwW_of (by show 1 ≤ 300; decide) (one_mem enW_non)).1, fun r J4 t4 hr4 => ?_⟩
          rw [told_bad g0 hb] at hr4
          have h4 := h3.same t4
          refine ⟨_, rfl, L0, xs0, rfl, .inl (sq h4.l), by show 2 ≤ sizeLine; decide, fun u nu => ?_⟩
          have t5 := same_new nu (o := .tup [.str "row", .int (xs0.length : Nat)])
          have hu : Dv (upd J4 u (.tup [.str "row", .int (xs0.length : Nat)])) (.ref u) (rowE (rows0.length : Nat)) := by rw [← lx0]; exact pair_dv nu
          refine ne_same (lay_rowe _) (hr4.same t5) hu ⟨_, rfl, itbF rfl ?_⟩
          exact ⟨⟨_, rfl⟩, sG.trans (t13.trans (t4.trans t5))⟩
        · rintro σ G ⟨⟨v8', rfl⟩, sG⟩
          exact ⟨⟨_, _, rfl⟩, h6.same ((s7.trans s8).trans sG)⟩
      rintro σ' G9 ⟨⟨v8', v10', rfl⟩, h9⟩
      clear h6 hA6 hO s6 hG
      -- one entry twice
      refine ⟨fun σ G => (σ = [some (.ref a), some (.int cc), some (.ref p), some (.ref L0), v4, v5, v6, v7, v8', v9, v10']) ∧ Lt0 PS G0 G p L0 xs0 rows0 60, ?_, ?_⟩
      · refine ⟨_, rfl, Nat.zero_le _, fun Z nZ => ?_⟩
        have tZ := same_new nZ (o := .lst ([] : List V))
        have hZ : (upd G9 Z (.lst ([] : List V))) Z = some (.lst []) := upd_same
        generalize upd G9 Z (.lst ([] : List V)) = J0 at tZ hZ
        have h0 := h9.same tZ
        refine nen_nil h0.l h0.r g0 hZ ⟨_, rfl, ?_⟩
        cases hrr : rows0 with
        | nil => exact itbF rfl (itbF rfl ⟨rfl, by rw [← hrr]; exact h0⟩)
        | cons e0 r0 =>
          refine itbT rfl ?_
          obtain ⟨x0, hx0, hd0⟩ := a2_get' h0.r (i := 0) (b := e0) (by rw [hrr]; rfl)
          refine ⟨_, rfl, _, rfl, L0, xs0, 0, x0, rfl, rfl, sq h0.l, atI_nat (j := 0) hx0, lt1 _ (by show 1 ≤ 100000; decide), fun L1 nL1 => ?_⟩
          have t1 := same_new nL1 (o := .lst [x0])
          have hL1 : (upd J0 L1 (.lst [x0])) L1 = some (.lst [x0]) := upd_same
          generalize upd J0 L1 (.lst [x0]) = J1 at t1 hL1
          refine cat_go (t1 _ _ h0.l) hL1 (by show xs0.length + 1 ≤ 100000; omega) fun M1 J2 t2 _ hM1 => ?_
          refine ⟨Nat.zero_le _, fun L2 nL2 => ?_⟩
          have t3 := same_new nL2 (o := .lst ([] : List V))
          have hL2 : (upd J2 L2 (.lst ([] : List V))) L2 = some (.lst []) := upd_same
          generalize upd J2 L2 (.lst ([] : List V)) = J3 at t3 hL2
          have t13 := (t1.trans t2).trans t3
          have h3 := h0.same t13
          have we : enW (enD e0) := (g0.ok e0 (by rw [hrr]; exact List.mem_cons_self)).w
          refine ⟨.ref M1, .ref L2, .list (rows0.map enD ++ [enD e0]), .list [], rfl, .lst (t3 _ _ hM1) ((of_rwA h3.r).app (.cons (hd0.same t13) .nil)), .lst hL2 .nil, rwW_list g0 (one_mem we) (by show rows0.length + 1 ≤ 300; omega), (rwW_of (Nat.zero_le _) (fun d hd => by cases hd)).1, fun r J4 t4 hr4 => ?_⟩
          rw [show toldD (.list (rows0.map enD ++ [enD e0])) (.list []) = rowE (rows0.length : Nat) by rw [hrr]; exact told_dup (by rw [← hrr]; exact g0)] at hr4
          have h4 := h3.same t4
          refine ⟨_, rfl, L0, xs0, rfl, .inl (sq h4.l), by show 2 ≤ sizeLine; decide, fun u nu => ?_⟩
          have t5 := same_new nu (o := .tup [.str "row", .int (xs0.length : Nat)])
          have hu : Dv (upd J4 u (.tup [.str "row", .int (xs0.length : Nat)])) (.ref u) (rowE (rows0.length : Nat)) := by rw [← lx0]; exact pair_dv nu
          refine ne_same (lay_rowe _) (hr4.same t5) hu ⟨_, rfl, itbF rfl ?_⟩
          exact ⟨rfl, by rw [← hrr]; exact h4.same t5⟩
      rintro σ' G10 ⟨rfl, h10⟩
      -- the long list
      refine ⟨_, rfl, p, 60, rfl, h10.w, by decide, fun G11 e11 w11 => ⟨_, rfl, itbF rfl ?_⟩⟩
      have h11 := h10.ext g0 e11 w11
      clear h9 h10
      -- what is no list at all
      refine nextE (nx_mk ?_)
      unfold tFor
      refine gsl gsE4 (by exact Nat.le_of_ble_eq_true rfl) G11 _ fun O os G12 s12 nO hO hA => ?_
      have h12 := h11.same s12
      refine ⟨O, rfl, ⟨_, sq hO⟩, for_list (K := K) (a := O) (xs := os) (fun j σ G => (∃ v8' : Option V, σ = [some (.ref a), some (.int cc), some (.ref p), some (.ref L0), v4, v5, v6, v7, v8', v9, v10']) ∧ LamX.ExtN G12 G ∧ LamX.Tabs (T1 PS) G) ?_ ?_ ?_ ?_⟩
      · exact ⟨⟨_, rfl⟩, .refl _, h12.t⟩
      · rintro j σ G _ ⟨_, eG, _⟩
        exact sq (eG _ _ hO nlb)
      · rintro j y σ G hy ⟨⟨v8', rfl⟩, eG, tG⟩
        obtain ⟨d, hdm, hd⟩ := hA.get hy
        obtain ⟨hi, hq, hod⟩ := four8_ok d (List.mem_of_getElem? hdm)
        have hd := hd.ext eG
        have wd : rwW d := by unfold rwW; rw [hi]; exact ⟨Nat.zero_le _, fun e he => by cases he⟩
        have wn : rwW .none := ⟨Nat.zero_le _, fun e he => by cases he⟩
        refine ⟨_, rfl, y, .non, d, .none, rfl, hd, .non, wd, wn, fun r J1 t1 hr1 => ?_⟩
        rw [told_noseq hq] at hr1
        refine ⟨_, rfl, by show 2 ≤ sizeLine; decide, fun u nu => ?_⟩
        have t2 := same_new nu (o := .tup [.str "row", .int (-1)])
        refine ne_same (lay_rowe _) (hr1.same t2) (pair_dv nu) ⟨_, rfl, itbF rfl ?_⟩
        have t12 := t1.trans t2
        generalize upd J1 u (.tup [.str "row", .int (-1)]) = J2 at t12
        refine ⟨Nat.zero_le _, fun L1 nL1 => ?_⟩
        have t3 := same_new nL1 (o := .lst ([] : List V))
        have hL1 : (upd J2 L1 (.lst ([] : List V))) L1 = some (.lst []) := upd_same
        generalize upd J2 L1 (.lst ([] : List V)) = J3 at t3 hL1
        have t13 := t12.trans t3
        refine ⟨_, rfl, .ref L1, y, .list [], d, rfl, .lst hL1 .nil, hd.same t13, (rwW_of (Nat.zero_le _) (fun d hd => by cases hd)).1, wd, fun r2 J4 t4 hr4 => ?_⟩
        rw [told_noE hq] at hr4
        refine ⟨_, rfl, by show 2 ≤ sizeLine; decide, fun u2 nu2 => ?_⟩
        have t5 := same_new nu2 (o := .tup [.str "notice", .int (-1)])
        refine ne_same (lay_note _) (hr4.same t5) (pair_dv nu2) ⟨_, rfl, itbF rfl ?_⟩
        have t15 := t13.trans (t4.trans t5)
        generalize upd J4 u2 (.tup [.str "notice", .int (-1)]) = J5 at t15
        refine ⟨_, rfl, y, d, rfl, hd.same t15, hod, tG.ext t15, fun J6 e6 t6 => ⟨_, rfl, itbF rfl ?_⟩⟩
        exact ⟨⟨_, rfl⟩, eG.trans ((LamX.ExtN.of t15).trans e6), t6⟩
      · rintro σ G ⟨⟨v8', rfl⟩, eG, tG⟩
        exact ⟨⟨_, _, _, _, _, _, _, _, _, _, rfl⟩, (h12.e.trans eG) _ _ hM0 nlb, tG⟩
    · rintro σ G _
      trivial
end
end K1


set_option Elab.async false
set_option linter.all false
set_option maxRecDepth 100000
set_option maxHeartbeats 4000000
namespace K1
open PySem PySem.Spec PyProof.Rows L2 RZ StX
theorem len1 {α : Type _} {us : List α} (h : us.length = 1) : ∃ x0, us = [x0] := match us, h with | [x0], _ => ⟨_, rfl⟩
theorem len2 {α : Type _} {us : List α} (h : us.length = 2) : ∃ x0 x1, us = [x0, x1] := match us, h with | [x0, x1], _ => ⟨_, _, rfl⟩
theorem len3 {α : Type _} {us : List α} (h : us.length = 3) : ∃ x0 x1 x2, us = [x0, x1, x2] := match us, h with | [x0, x1, x2], _ => ⟨_, _, _, rfl⟩
theorem len4 {α : Type _} {us : List α} (h : us.length = 4) : ∃ x0 x1 x2 x3, us = [x0, x1, x2, x3] := match us, h with | [x0, x1, x2, x3], _ => ⟨_, _, _, _, rfl⟩
theorem len5 {α : Type _} {us : List α} (h : us.length = 5) : ∃ x0 x1 x2 x3 x4, us = [x0, x1, x2, x3, x4] := match us, h with | [x0, x1, x2, x3, x4], _ => ⟨_, _, _, _, _, rfl⟩
theorem len6 {α : Type _} {us : List α} (h : us.length = 6) : ∃ x0 x1 x2 x3 x4 x5, us = [x0, x1, x2, x3, x4, x5] := match us, h with | [x0, x1, x2, x3, x4, x5], _ => ⟨_, _, _, _, _, _, rfl⟩
/-! ### the end -/
def AtM (K : PySem.W.Frag) (C : Addr) (m q : Str) (st : Stmt) : Prop := ∃ (f : Addr) (fd : FuncData), Meth K C m f ∧ Fun K m q st f fd
def AtMC (K : PySem.W.Frag) (C : Addr) (m q : Str) (st : Stmt) (c : Addr) : Prop := ∃ (f : Addr) (oc : Value) (od : Option Addr) (kV doc pm : Value) (an : Option Addr) (ct : Value) (osl : Array (Option Value)),
  Meth K C m f ∧ K.lookup f = some ⟨oc, od, .func (PySem.W.fnOf m q (defArgs st) (defBody st) (defScope st) .none kV doc pm an (.ref c) ct), osl⟩ ∧ PySem.W.codeIn K (.ref c) q = true
section
variable {K : PySem.W.Frag} {h : Heap} {mg : Str → Option Value}
theorem cs_mk {x : Str} {n : Int} {t : Tok} {v : Value} (X : K.In h) (G : h.Ns mainGlobals mg) (a : PySem.W.nsIn K mainGlobals x = some (some v)) (e : v = .int n t) : ∃ t, mg x = some (.int n t) := ⟨t, by rw [PySem.W.mg_of X G a, e]⟩
theorem at_mk {x : Str} {st : Stmt} {f : Addr} {oc : Value} {od an : Option Addr} {osl : Array (Option Value)} {kV doc pm cdv ct : Value} (X : K.In h) (G : h.Ns mainGlobals mg) (a : PySem.W.nsIn K mainGlobals x = some (some (.ref f)))
    (l : K.lookup f = some ⟨oc, od, .func (PySem.W.fnOf x x (defArgs st) (defBody st) (defScope st) .none kV doc pm an cdv ct), osl⟩) (c : PySem.W.codeIn K cdv x = true) (k : PySem.W.keepIn K (.ref f) = true) : At K mg x st :=
  ⟨f, _, PySem.W.mg_of X G a, fun_mk l c k⟩
theorem atM_mk {C : Addr} {m q : Str} {st : Stmt} {f : Addr} {oc : Value} {od an : Option Addr} {osl : Array (Option Value)} {kV doc pm cdv ct : Value} (a : PySem.W.findIn K (.ref C) m = some (some (.ref f))) (n : PySem.W.isFn K (.ref f) = true)
    (l : K.lookup f = some ⟨oc, od, .func (PySem.W.fnOf m q (defArgs st) (defBody st) (defScope st) .none kV doc pm an cdv ct), osl⟩) (c : PySem.W.codeIn K cdv q = true) (k : PySem.W.keepIn K (.ref f) = true) : AtM K C m q st :=
  ⟨f, _, ⟨a, n, k⟩, fun_mk l c k⟩
theorem atMC_mk {C : Addr} {m q : Str} {st : Stmt} {f co : Addr} {oc : Value} {od an : Option Addr} {osl : Array (Option Value)} {kV doc pm ct : Value} (a : PySem.W.findIn K (.ref C) m = some (some (.ref f))) (n : PySem.W.isFn K (.ref f) = true)
    (l : K.lookup f = some ⟨oc, od, .func (PySem.W.fnOf m q (defArgs st) (defBody st) (defScope st) .none kV doc pm an (.ref co) ct), osl⟩) (c : PySem.W.codeIn K (.ref co) q = true) (k : PySem.W.keepIn K (.ref f) = true) : AtMC K C m q st co :=
  ⟨f, oc, od, kV, doc, pm, an, ct, osl, ⟨a, n, k⟩, l, c⟩
theorem AtM.mdef {P : Program} {w : World} {base : Heap} {CX : CXT} {k : Nat} {C : Addr} {m q : Str} {ps : List Str} {sp : Sp} {st : Stmt} (a : AtM K C m q st)
    (hb : ∀ (kV doc pm : Value) (an : Option Addr) (cdv ct : Value) (us : List Value), us.length = ps.length → bindArgs (PySem.W.fnOf m q (defArgs st) (defBody st) (defScope st) .none kV doc pm an cdv ct) ⟨us, []⟩ = pure (ps.zip us))
    (ok : ∀ (f : Addr) (fd : FuncData), Fun K m q st f fd → FnOk P w K mg base CX k f fd ps sp) : MDef P w K mg base CX k C m ps sp := by
  obtain ⟨f, fd, hm, F⟩ := a
  refine ⟨f, fd, hm, ?_, ok f fd F⟩
  obtain ⟨oc, od, kV, doc, pm, an, cdv, ct, osl, rfl, lk, hcd⟩ := F.ex
  exact F.binds hb
theorem AtMC.mdef {P : Program} {w : World} {base : Heap} {CX : CXT} {k : Nat} {C c : Addr} {m q : Str} {ps : List Str} {sp : Sp} {st : Stmt} (a : AtMC K C m q st c)
    (hb : ∀ (kV doc pm : Value) (an : Option Addr) (cdv ct : Value) (us : List Value), us.length = ps.length → bindArgs (PySem.W.fnOf m q (defArgs st) (defBody st) (defScope st) .none kV doc pm an cdv ct) ⟨us, []⟩ = pure (ps.zip us))
    (ok : ∀ {f : Addr} {oc : Value} {od : Option Addr} {kV doc pm : Value} {an : Option Addr} {ct : Value} {osl : Array (Option Value)}, K.lookup f = some ⟨oc, od, .func (PySem.W.fnOf m q (defArgs st) (defBody st) (defScope st) .none kV doc pm an (.ref c) ct), osl⟩ → PySem.W.codeIn K (.ref c) q = true → FnOk P w K mg base CX k f (PySem.W.fnOf m q (defArgs st) (defBody st) (defScope st) .none kV doc pm an (.ref c) ct) ps sp) : MDef P w K mg base CX k C m ps sp := by
  obtain ⟨f, oc, od, kV, doc, pm, an, ct, osl, hm, lk, hcd⟩ := a
  have F : Fun K m q st f _ := ⟨⟨oc, od, kV, doc, pm, an, .ref c, ct, osl, rfl, lk, hcd⟩, hm.kp⟩
  exact ⟨f, _, hm, F.binds hb, ok lk hcd⟩
end
def AtQ (K : PySem.W.Frag) (mg : Str → Option Value) (x q : Str) (st : Stmt) : Prop := ∃ (f : Addr) (fd : FuncData), mg x = some (.ref f) ∧ Fun K q q st f fd
theorem AtQ.def {P : Program} {w : World} {K : PySem.W.Frag} {mg : Str → Option Value} {base : Heap} {CX : CXT} {k : Nat} {x q : Str} {ps : List Str} {sp : Sp} {st : Stmt} (a : AtQ K mg x q st)
    (hb : ∀ (kV doc pm : Value) (an : Option Addr) (cdv ct : Value) (us : List Value), us.length = ps.length → bindArgs (PySem.W.fnOf q q (defArgs st) (defBody st) (defScope st) .none kV doc pm an cdv ct) ⟨us, []⟩ = pure (ps.zip us))
    (h : ∀ f fd, Fun K q q st f fd → FnOk P w K mg base CX k f fd ps sp) : Def P w K mg base CX k x ps sp := by
  obtain ⟨f, fd, hm, F⟩ := a
  exact ⟨f, fd, hm, F.kp, F.binds hb, h f fd F⟩
theorem atQ_mk {K : PySem.W.Frag} {h : Heap} {mg : Str → Option Value} {x q : Str} {st : Stmt} {f : Addr} {oc : Value} {od an : Option Addr} {osl : Array (Option Value)} {kV doc pm cdv ct : Value} (X : K.In h) (G : h.Ns mainGlobals mg) (a : PySem.W.nsIn K mainGlobals x = some (some (.ref f)))
    (l : K.lookup f = some ⟨oc, od, .func (PySem.W.fnOf q q (defArgs st) (defBody st) (defScope st) .none kV doc pm an cdv ct), osl⟩) (c : PySem.W.codeIn K cdv q = true) (k : PySem.W.keepIn K (.ref f) = true) : AtQ K mg x q st :=
  ⟨f, _, PySem.W.mg_of X G a, fun_mk l c k⟩
abbrev sLaw : Stmt := st_law
def SiF (K : PySem.W.Frag) (SC : Addr) : Prop := ∃ (f : Addr) (fd : FuncData), L2.Mk K SC f ∧ Fun K "__init__" "Session.__init__" sSi f fd
theorem si_mk {K : PySem.W.Frag} {f SC : Addr} {oc : Value} {od an : Option Addr} {osl : Array (Option Value)} {kV doc pm cdv ct : Value} (mk : L2.Mk K SC f)
    (l : K.lookup f = some ⟨oc, od, .func (PySem.W.fnOf "__init__" "Session.__init__" (defArgs sSi) (defBody sSi) (defScope sSi) .none kV doc pm an cdv ct), osl⟩) (c : PySem.W.codeIn K cdv "Session.__init__" = true) (k : PySem.W.keepIn K (.ref f) = true) : SiF K SC := ⟨f, _, mk, fun_mk l c k⟩
theorem all_mk {l : PySem.W.OpenLaw} {w : World} {K : PySem.W.Frag} {h : Heap} {mg : Str → Option Value} {fa f SC CT CF CN CR CV fF fN fR fV C fI c0 P0 : Addr} {oc kV dc pm cdv ct oI kI dI pI cI tI : Value} {od an oD aI : Option Addr} {sl sI : Array (Option Value)} (X : K.In h) (G : h.Ns mainGlobals mg) (hfa : mg "law" = some (.ref fa))
    (T : Bk mg) (Co : Cs mg) (t : ClT K mg C) (iC : C8.InsC K C) (mk : L2.Mk K C fI)
    (ts : ClS K mg SC) (si : SiF K SC)
    (o0 : PySem.W.kitOne K (.type "NoneType") (.ref C) = some false) (o1 : PySem.W.kitOne K (.type "int") (.ref C) = some false) (o2 : PySem.W.kitOne K (.type "str") (.ref C) = some false) (o3 : PySem.W.kitOne K (.type "dict") (.ref C) = some false)
    (TF : PySem.Tide.TideTxt l.prog K mg "BadFolder" CF fF "value") (TN : PySem.Tide.TideTxt l.prog K mg "BadNotice" CN fN "at") (TR : PySem.Tide.TideTxt l.prog K mg "BadRow" CR fR "at") (TV : PySem.Tide.TideTxt l.prog K mg "BadValue" CV fV "why") (gT : mg "TideError" = some (.ref CT))
    (exA : PySem.W.exmOne K (.ref CR) (.ref CN) = some false) (exB : PySem.W.exmOne K (.ref CN) (.ref CF) = some false) (exC : PySem.W.exmOne K (.ref CV) (.ref CF) = some false) (exD : PySem.W.exmOne K (.ref CV) (.ref CN) = some false)
    (q0 : AtM K SC "see" "Session.see" sSee) (q1 : AtM K SC "told" "Session.told" sTd) (q2 : AtM K SC "tell" "Session.tell" sTl)
    (lI : K.lookup fI = some ⟨oI, oD, .func (PySem.W.fnOf "__init__" "Folder.__init__" (defArgs sInit) (defBody sInit) (defScope sInit) .none kI dI pI aI cI tI), sI⟩) (gI : PySem.W.codeIn K cI "Folder.__init__" = true) (hI : PySem.W.keepIn K (.ref fI) = true)
    (a0 : At K mg "is_integer" sIsInt)
    (a1 : At K mg "is_number" sIsNum)
    (a2 : At K mg "is_body" sIsBody)
    (a3 : At K mg "is_mark" sIsMrk)
    (a4 : At K mg "is_sign" sIsSign)
    (a5 : At K mg "is_signs" sIsSigns)
    (a6 : At K mg "applied" sAp)
    (a7 : At K mg "check_entries" sCe)
    (a8 : At K mg "fits" sFi)
    (a9 : At K mg "behind" sBe)
    (a10 : At K mg "is_notice" sNo)
    (a11 : At K mg "opened" sOp)
    (a12 : At K mg "entries_of" sEo)
    (a13 : At K mg "_is_entry" sEn)
    (a14 : At K mg "_law_cell_at" sCell)
    (a15 : At K mg "_law_well" sWell)
    (a16 : At K mg "_law_draw" sDraw)
    (a17 : At K mg "_law_one" sOne)
    (a18 : At K mg "_law_entries" sEs)
    (a19 : At K mg "_law_notice" sNt)
    (a20 : At K mg "_law_behind" sLb)
    (a21 : At K mg "_law_odd_notices" sOd)
    (a22 : At K mg "_law_told" sTo)
    (a23 : At K mg "_law_refused" sRf)
    (a24 : At K mg "_law_long_right" sLr)
    (m0 : AtM K C "letters" "Folder.letters" sLetters)
    (m1 : AtM K C "age" "Folder.age" sAge)
    (m2 : AtM K C "_copied" "Folder._copied" sCopied)
    (m3 : AtM K C "appended" "Folder.appended" sApp)
    (g0 : AtC K mg "_law_sessions_right" sSr c0)
    (aL : PySem.W.nsIn K mainGlobals "law" = some (some (.ref f))) (lL : K.lookup f = some ⟨oc, od, .func (PySem.W.fnOf "law" "law" (defArgs sLaw) (defBody sLaw) (defScope sLaw) .none kV dc pm an cdv ct), sl⟩) (cL' : PySem.W.codeIn K cdv "law" = true) (kL : PySem.W.keepIn K (.ref f) = true)
    (hP : ∀ p ∈ ([(c0, P0)] : List (Addr × Addr)), h.get? p.2 = some { cls := .none, data := .fields #[] }) (nP : ∀ p ∈ ([(c0, P0)] : List (Addr × Addr)), K.lookup p.2 = none) (hC : ∀ p ∈ ([(c0, P0)] : List (Addr × Addr)), PySem.W.CodeHd h p.1 p.2) :
    LamX.LawAtS l w K CX0 10 63 "_law_script" mg fa h := by
  have e := hfa.symm.trans (PySem.W.mg_of X G aL)
  cases e
  refine ⟨PySem.W.fnOf "law" "law" (defArgs sLaw) (defBody sLaw) (defScope sLaw) .none kV dc pm an cdv ct, [(c0, P0)], spLaw K P0, hP, nP, hC, fun s u => .of_eq rfl,
    fun H a ns hl _ hH hS => ⟨a, ns, rfl, hS, hl, fun p hp => ?_, fun _ => rfl⟩, fun base hb _ hTB => ?_⟩
  · simp only [T1, List.mem_cons, List.not_mem_nil, or_false] at hp
    subst hp
    exact LamX.TabS.nil (hH (c0, P0) (by simp))
  have TS0 := hTB (c0, P0) (by simp)
  have n_is_integer : Def l.prog w K mg base CX0 1 "is_integer" pV spInt := a0.def (fun _ _ _ _ _ _ us hl => by obtain ⟨x0, rfl⟩ := len1 hl; rfl) fun f fd F => ok_isInt T F
  have n_is_number : Def l.prog w K mg base CX0 2 "is_number" pV spNum := a1.def (fun _ _ _ _ _ _ us hl => by obtain ⟨x0, rfl⟩ := len1 hl; rfl) fun f fd F => ok_isNum n_is_integer F
  have n_is_body : Def l.prog w K mg base CX0 2 "is_body" pV spBody := a2.def (fun _ _ _ _ _ _ us hl => by obtain ⟨x0, rfl⟩ := len1 hl; rfl) fun f fd F => ok_isBody n_is_integer F
  have n_is_sign : Def l.prog w K mg base CX0 1 "is_sign" pV spSign := a4.def (fun _ _ _ _ _ _ us hl => by obtain ⟨x0, rfl⟩ := len1 hl; rfl) fun f fd F => ok_isSign T Co F
  have n_is_signs : Def l.prog w K mg base CX0 2 "is_signs" pV spSigns := a5.def (fun _ _ _ _ _ _ us hl => by obtain ⟨x0, rfl⟩ := len1 hl; rfl) fun f fd F => ok_isSigns T Co n_is_sign F
  have e_is_integer : Def l.prog w K mg base CX0 1 "is_integer" pV (spB1 isInt) := a0.def (fun _ _ _ _ _ _ us hl => by obtain ⟨x0, rfl⟩ := len1 hl; rfl) fun f fd F => ok_isIntD T F
  have e_is_number : Def l.prog w K mg base CX0 2 "is_number" pV (spB1 isNum) := a1.def (fun _ _ _ _ _ _ us hl => by obtain ⟨x0, rfl⟩ := len1 hl; rfl) fun f fd F => ok_isNumD e_is_integer F
  have e_is_mark : Def l.prog w K mg base CX0 2 "is_mark" pV (spB1 isMrk) := a3.def (fun _ _ _ _ _ _ us hl => by obtain ⟨x0, rfl⟩ := len1 hl; rfl) fun f fd F => ok_isMrkD e_is_integer F
  have e_is_sign : Def l.prog w K mg base CX0 1 "is_sign" pV spSignD := a4.def (fun _ _ _ _ _ _ us hl => by obtain ⟨x0, rfl⟩ := len1 hl; rfl) fun f fd F => ok_isSignD T Co F
  have e_is_signs : Def l.prog w K mg base CX0 2 "is_signs" pV spSignsD := a5.def (fun _ _ _ _ _ _ us hl => by obtain ⟨x0, rfl⟩ := len1 hl; rfl) fun f fd F => ok_isSignsD T Co e_is_sign F
  have dNew : MkD l.prog w K mg base C := by
    have F : Fun K "__init__" "Folder.__init__" sInit fI _ := fun_mk lI gI hI
    exact ⟨fI, _, mk, F.binds (fun _ _ _ _ _ _ us hl => by obtain ⟨x0, x1, rfl⟩ := len2 hl; rfl), ok_init t n_is_number F⟩
  have m_letters : MDef l.prog w K mg base CX0 1 C "letters" nSelf (spLetters C) := m0.mdef (fun _ _ _ _ _ _ us hl => by obtain ⟨x0, rfl⟩ := len1 hl; rfl) fun f fd F => ok_letters T t F
  have m_age : MDef l.prog w K mg base CX0 1 C "age" nSelf (spAge C) := m1.mdef (fun _ _ _ _ _ _ us hl => by obtain ⟨x0, rfl⟩ := len1 hl; rfl) fun f fd F => ok_age t F
  have m_copied : MDef l.prog w K mg base CX0 5 C "_copied" nSelf (spCopied C) := m2.mdef (fun _ _ _ _ _ _ us hl => by obtain ⟨x0, rfl⟩ := len1 hl; rfl) fun f fd F => ok_copied t dNew F
  have m_appended : MDef l.prog w K mg base CX0 6 C "appended" pApp (spApp C) := m3.mdef (fun _ _ _ _ _ _ us hl => by obtain ⟨x0, x1, x2, rfl⟩ := len3 hl; rfl) fun f fd F => ok_app t n_is_body n_is_signs m_copied F
  have e_is_entry : Def l.prog w K mg base CX0 3 "_is_entry" pV spEn := a13.def (fun _ _ _ _ _ _ us hl => by obtain ⟨x0, rfl⟩ := len1 hl; rfl) fun f fd F => ok_enD T e_is_number e_is_signs e_is_mark F
  have e_is_notice : Def l.prog w K mg base CX0 3 "is_notice" pV spNo := a10.def (fun _ _ _ _ _ _ us hl => by obtain ⟨x0, rfl⟩ := len1 hl; rfl) fun f fd F => ok_noD T e_is_number e_is_signs e_is_mark F
  have e_fits : Def l.prog w K mg base CX0 4 "fits" pFi spFi := a8.def (fun _ _ _ _ _ _ us hl => by obtain ⟨x0, x1, x2, rfl⟩ := len3 hl; rfl) fun f fd F => ok_fi T e_is_notice F
  have e_behind : Def l.prog w K mg base CX0 1 "behind" pBe spBe := a9.def (fun _ _ _ _ _ _ us hl => by obtain ⟨x0, x1, rfl⟩ := len2 hl; rfl) fun f fd F => ok_be F
  have e_check_entries : Def l.prog w K mg base (L2.CX l.prog w) 4 "check_entries" pCe (spCe CR) := a7.def (fun _ _ _ _ _ _ us hl => by obtain ⟨x0, rfl⟩ := len1 hl; rfl) fun f fd F => ok_ce T TR e_is_entry F
  have e_applied : Def l.prog w K mg base (L2.CX l.prog w) 5 "applied" pAp (spAp CR CN) := a6.def (fun _ _ _ _ _ _ us hl => by obtain ⟨x0, x1, rfl⟩ := len2 hl; rfl) fun f fd F => ok_ap T TN e_check_entries e_fits e_behind F
  have e_entries_of : Def l.prog w K mg base CX0 2 "entries_of" pEo (spEo C) := a12.def (fun _ _ _ _ _ _ us hl => by obtain ⟨x0, rfl⟩ := len1 hl; rfl) fun f fd F => ok_eo t m_letters F
  have e_opened : Def l.prog w K mg base CX0 3 "opened" pOp (spOp C) := a11.def (fun _ _ _ _ _ _ us hl => by obtain ⟨x0, rfl⟩ := len1 hl; rfl) fun f fd F => ok_op T.toBj e_entries_of F
  have iF : IsF K C := ⟨iC, fun n hn => by
    simp only [List.mem_cons, List.not_mem_nil, or_false] at hn
    rcases hn with rfl | rfl | rfl | rfl
    · exact o0
    · exact o1
    · exact o2
    · exact o3⟩
  have mS : MkS l.prog w K mg base C SC CF := by
    obtain ⟨f, fd, hm, F⟩ := si
    exact ⟨f, fd, hm, F.binds (fun _ _ _ _ _ _ us hl => by obtain ⟨x0, x1, rfl⟩ := len2 hl; rfl), ok_si T.toBj t ts iF e_opened F, ok_siB T.toBj t iF TF F⟩
  have qSee : MDef l.prog w K mg base (L2.CX l.prog w) 4 SC "see" nSi (spSee C CF SC) := q0.mdef (fun _ _ _ _ _ _ us hl => by obtain ⟨x0, x1, rfl⟩ := len2 hl; rfl) fun f fd F => ok_see T.toBj t ts iF TF m_age F
  have qTd : MDef l.prog w K mg base CX0 1 SC "told" nSelf (spTd SC) := q1.mdef (fun _ _ _ _ _ _ us hl => by obtain ⟨x0, rfl⟩ := len1 hl; rfl) fun f fd F => ok_td ts F
  have qTlB : MDef l.prog w K mg base (L2.CX l.prog w) 4 SC "tell" pTl (spTlB CN CV) := q2.mdef (fun _ _ _ _ _ _ us hl => by obtain ⟨x0, x1, x2, rfl⟩ := len3 hl; rfl) fun f fd F => ok_tlB T.toBj TN TV F
  have qTl : MDef l.prog w K mg base CX0 4 SC "tell" pTl (spTl SC) := q2.mdef (fun _ _ _ _ _ _ us hl => by obtain ⟨x0, x1, x2, rfl⟩ := len3 hl; rfl) fun f fd F => ok_tl T.toBj ts F
  have l_cell : Def l.prog w K mg base CX0 1 "_law_cell_at" nCell (spCell K) := a14.def (fun _ _ _ _ _ _ us hl => by obtain ⟨x0, x1, rfl⟩ := len2 hl; rfl) fun f fd F => ok_cell T.toBj F
  have l_well : Def l.prog w K mg base CX0 1 "_law_well" nWell spWell := a15.def (fun _ _ _ _ _ _ us hl => by obtain ⟨x0, rfl⟩ := len1 hl; rfl) fun f fd F => ok_well T.toBj F
  have l_draw : Def l.prog w K mg base CX0 1 "_law_draw" pDraw spDraw := a16.def (fun _ _ _ _ _ _ us hl => by obtain ⟨x0, x1, rfl⟩ := len2 hl; rfl) fun f fd F => ok_draw T.toBj F
  have l_one : Def l.prog w K mg base CX0 2 "_law_one" nOne spOne := a17.def (fun _ _ _ _ _ _ us hl => by obtain ⟨x0, x1, rfl⟩ := len2 hl; rfl) fun f fd F => ok_one T.toBj l_draw F
  have l_entries : Def l.prog w K mg base CX0 3 "_law_entries" pEs spEs := a18.def (fun _ _ _ _ _ _ us hl => by obtain ⟨x0, rfl⟩ := len1 hl; rfl) fun f fd F => ok_es T.toBj l_draw l_one F
  have l_notice : Def l.prog w K mg base CX0 3 "_law_notice" pNt spNt := a19.def (fun _ _ _ _ _ _ us hl => by obtain ⟨x0, x1, x2, rfl⟩ := len3 hl; rfl) fun f fd F => ok_nt T.toBj l_draw l_one F
  have l_behind : Def l.prog w K mg base CX0 1 "_law_behind" pLb spLb := a20.def (fun _ _ _ _ _ _ us hl => by obtain ⟨x0, x1, rfl⟩ := len2 hl; rfl) fun f fd F => ok_lb F
  have l_odd : Def l.prog w K mg base CX0 1 "_law_odd_notices" pOd spOd := a21.def (fun _ _ _ _ _ _ us hl => by obtain ⟨x0, x1, rfl⟩ := len2 hl; rfl) fun f fd F => ok_od T.toBj F
  have l_told : Def l.prog w K mg base CX0 6 "_law_told" pTo spTo := a22.def (fun _ _ _ _ _ _ us hl => by obtain ⟨x0, x1, rfl⟩ := len2 hl; rfl) fun f fd F => ok_to TR TN gT exA e_applied F
  have l_long : Def l.prog w K mg base CX0 7 "_law_long_right" pLr spLr := a24.def (fun _ _ _ _ _ _ us hl => by obtain ⟨x0, rfl⟩ := len1 hl; rfl) fun f fd F => ok_lr T.toBj l_draw l_behind l_told F
  have DR : RfK l.prog K mg CF CN CV := ⟨a23, ⟨_, TF⟩, ⟨_, TN⟩, ⟨_, TV⟩, exB, exC, exD⟩
  have d_law_sessions_right : Def l.prog w K mg base CX0 9 "_law_sessions_right" pSr (spSr P0) := by
    obtain ⟨f, oc, od, kV, doc, pm, an, ct, osl, hm, hk, lk, hcd⟩ := g0
    have F : Fun K "_law_sessions_right" "_law_sessions_right" sSr f _ := ⟨⟨oc, od, kV, doc, pm, an, .ref c0, ct, osl, rfl, lk, hcd⟩, hk⟩
    exact ⟨f, _, hm, hk, F.binds (fun _ _ _ _ _ _ us hl => by obtain ⟨x0, rfl⟩ := len1 hl; rfl), ok_sr T.toBj t ts TS0 DR mS dNew m_appended qSee qTlB qTl qTd lk hcd⟩
  exact ok_law T.toBj l_cell l_well l_draw l_entries l_notice l_behind l_odd l_told l_long d_law_sessions_right (fun_mk lL cL' kL)

theorem walk_tops {l : PySem.W.OpenLaw} {n k : Nat} {q : Program} {loose : List Str} {XP : (Str → Option Value) → Heap → Prop} {YP : World → Heap → Prop} {d : DefRec} {K : Params → PySem.W.Frag} {x : Str}
    (hn : l.most = some n) (hn2 : n ≤ sizeLine) (hdf : d.params.defaults = []) (hr : Room k callerA) (hY : ∀ (w : World) (h : Heap), YP w h → (K w.params).In h)
    (F : ∀ (w : World) (s : Shared) (mg mb : Str → Option Value) (fa : Addr) (h : Heap), (K w.params).In h → YP w h → PyProof.Rows.Top q (PySem.W.looseW q loose) (ExcName.means s.heap) mg mb h → mg d.name = some (.ref fa) → LamX.LawAtS l w (K w.params) CX0 k n x mg fa h) :
    PySem.W.WalkO q loose XP YP l.row.toRowW d [] (fun f vs => PySem.call f vs) := by
  refine Att.attach_callB hn hdf fun w s0 s1 mg mb fa o pm cd doc a vs ns G Y ho hd hcd hmg hobj hints hlen hbits hg => ?_
  have KX := hY w _ Y
  obtain ⟨fd, cs, sp, hT, nT, C, hb, hsp, hF⟩ := F w s0 mg mb fa _ KX Y G.T hmg
  exact LamX.law_callTs KX G.T.g G.T.b G.T.builtins G.T.nolimit hg hT nT C G.T.bmain hobj hints (Nat.le_trans hlen hn2) hr hF hb (fun H hH hS => hsp H a ns hlen hbits hH hS) fun _ _ _ z => z
end K1


open PySem PySem.W PyProof.Rows
set_option Elab.async false
set_option linter.all false
set_option maxRecDepth 100000 in
set_option maxHeartbeats 0 in
theorem PySem.Challenge.cw_mailtide_k23_what_lists_and_sessions_ref_holds : PySem.Challenge.rw_mailtide_k23_what_lists_and_sessions_ref.Holds := by
  w_on; o_law; k_head; (case hw => w_witness2)
  k_fill
  refine K1.walk_tops (l := PySem.Challenge.rw_mailtide_k23_what_lists_and_sessions_ref) (n := 63) (k := 10) (x := "_law_script") rfl (by decide) rfl ⟨rfl, by decide, by decide⟩ (fun w h Y => PySem.W.km_in_of Y) ?F
  intro w s mg mb fa h KX Y G hmg
  have hL0 := PySem.W.tab_of (x := PySem.Str.ofString "_law_sessions_right") (c := 507) (P := 503) G KX rfl (by kernel_rfl)
  refine' K1.all_mk (c0 := 507) (P0 := 503) KX G.g hmg ?T ?Co ?t ?iC ?mk ?ts ?si ?o0 ?o1 ?o2 ?o3 ?TF ?TN ?TR ?TV ?gT ?exA ?exB ?exC ?exD ?q0 ?q1 ?q2 ?lI ?gI ?hI ?a0 ?a1 ?a2 ?a3 ?a4 ?a5 ?a6 ?a7 ?a8 ?a9 ?a10 ?a11 ?a12 ?a13 ?a14 ?a15 ?a16 ?a17 ?a18 ?a19 ?a20 ?a21 ?a22 ?a23 ?a24 ?m0 ?m1 ?m2 ?m3 ?lmb0 ?aL ?lL ?cL ?kL (List.forall_mem_cons.mpr ⟨hL0.2, fun _ z => nomatch z⟩) (List.forall_mem_cons.mpr ⟨?n0N, fun _ z => nomatch z⟩) (List.forall_mem_cons.mpr ⟨hL0.1, fun _ z => nomatch z⟩)
  case T =>
    refine' ⟨⟨⟨PySem.W.mg_none_of KX G.g ?z0, PySem.W.mg_none_of KX G.g ?z1, PySem.W.mg_none_of KX G.g ?z2, PySem.W.mg_none_of KX G.g ?z3, PySem.W.mg_none_of KX G.g ?z4, PySem.W.mg_none_of KX G.g ?z5, PySem.W.mg_none_of KX G.g ?z6, PySem.W.mg_none_of KX G.g ?z7, PySem.W.mg_none_of KX G.g ?z8, PySem.W.mg_none_of KX G.g ?z9, PySem.W.mg_none_of KX G.g ?z10, PySem.W.mg_none_of KX G.g ?z11⟩, PySem.W.mg_none_of KX G.g ?z12, PySem.W.mg_none_of KX G.g ?z13⟩, PySem.W.mg_none_of KX G.g ?z14, PySem.W.mg_none_of KX G.g ?z15⟩
    (case z0 => k_is); (case z1 => k_is); (case z2 => k_is); (case z3 => k_is); (case z4 => k_is); (case z5 => k_is); (case z6 => k_is); (case z7 => k_is); (case z8 => k_is); (case z9 => k_is); (case z10 => k_is); (case z11 => k_is); (case z12 => k_is); (case z13 => k_is); (case z14 => k_is); (case z15 => k_is)
  case Co =>
    refine' ⟨K1.cs_mk KX G.g ?v0 ?w0, K1.cs_mk KX G.g ?v1 ?w1⟩
    (case v0 => k_is); (case w0 => rfl); (case v1 => k_is); (case w1 => rfl)
  case t =>
    refine' ⟨⟨?c0, ?c1, ?c2, ?c3⟩, PySem.W.mg_of KX G.g ?c4, ?n0, ?n1, ?n2, ?n3, ?n4, ?n5⟩
    (case c4 => k_is); (case c0 => k_is); (case c1 => k_is); (case c2 => k_is); (case c3 => k_is)
    (case n0 => show PySem.W.findIn _ _ _ = some none; k_is); (case n1 => show PySem.W.findIn _ _ _ = some none; k_is); (case n2 => show PySem.W.findIn _ _ _ = some none; k_is); (case n3 => show PySem.W.findIn _ _ _ = some none; k_is); (case n4 => show PySem.W.findIn _ _ _ = some none; k_is); (case n5 => show PySem.W.findIn _ _ _ = some none; k_is)
  case iC =>
    refine' ⟨⟨?c0, ?c1, ?c2, ?c3⟩, ?d0, ?d1, ?d2, ?d3, ?d4⟩
    (case c0 => k_is); (case c1 => k_is); (case c2 => k_is); (case c3 => k_is)
    (case d0 => k_is); (case d1 => k_is); (case d2 => k_is); (case d3 => k_is); (case d4 => first | k_is | rfl | kernel_rfl)
  case mk =>
    refine' ⟨?e0, ?e1, ?e2, ?e3⟩
    (case e0 => k_is); (case e1 => k_is); (case e2 => k_is); (case e3 => k_is)
  (case lI => k_is); (case gI => k_is); (case hI => k_is)
  case ts =>
    refine' ⟨⟨?c0, ?c1, ?c2, ?c3⟩, PySem.W.mg_of KX G.g ?c4, ?n0, ?n1⟩
    (case c4 => k_is); (case c0 => k_is); (case c1 => k_is); (case c2 => k_is); (case c3 => k_is)
    (case n0 => show PySem.W.findIn _ _ _ = some none; k_is); (case n1 => show PySem.W.findIn _ _ _ = some none; k_is)
  case si =>
    refine' K1.si_mk ⟨?e0, ?e1, ?e2, ?e3⟩ ?l ?c ?k
    (case e0 => k_is); (case e1 => k_is); (case e2 => k_is); (case e3 => k_is)
    (case l => k_is); (case c => k_is); (case k => k_is)
  (case o0 => first | k_is | rfl | kernel_rfl)
  (case o1 => first | k_is | rfl | kernel_rfl)
  (case o2 => first | k_is | rfl | kernel_rfl)
  (case o3 => first | k_is | rfl | kernel_rfl)
  case gT =>
    refine' PySem.W.mg_of KX G.g ?gt0
    (case gt0 => k_is)
  case TF =>
    refine' K1.tide_mk (tx := "no folder that can stand here") (j := 0) (p1 := ⟨9, 17, 9, 21⟩) (p2 := ⟨9, 23, 9, 28⟩) (q1 := ⟨10, 8, 10, 13⟩) (q2 := ⟨10, 8, 10, 15⟩) (q3 := ⟨10, 8, 10, 24⟩) (q4 := ⟨10, 25, 10, 56⟩) (q5 := ⟨10, 8, 10, 57⟩) (q6 := ⟨10, 8, 10, 57⟩) (q7 := ⟨11, 8, 11, 12⟩) (q8 := ⟨11, 8, 11, 18⟩) (q9 := ⟨11, 21, 11, 26⟩) (q10 := ⟨11, 8, 11, 26⟩) KX G.g PySem.Tide.ok_value ⟨_, fun env => by rfl⟩ (by decide +kernel) ?tfaC ?tfxL ?tfbm ?tfsa ?tfga ?tfgg ?tfnb ?tfa1 ?tft1 ?tfl1 ?tfc1 ?tfn1 ?tfn2 ?tfn3 ?tfn4 ?tfkC ?tfeC ?tftC ?tfhC ?tfiC ?tfsC ?tfsu ?tfvC ?tfmC ?tftpa ?tfns
    (case tfaC => k_is)
    (case tfxL => k_is)
    (case tfbm => decide +kernel)
    (case tfsa => k_is)
    (case tfga => k_is)
    (case tfgg => k_is)
    (case tfnb => k_is)
    (case tfa1 => k_is)
    (case tft1 => k_is)
    (case tfl1 => k_is)
    (case tfc1 => k_is)
    (case tfn1 => k_is)
    (case tfn2 => rfl)
    (case tfn3 => decide +kernel)
    (case tfn4 => k_is)
    (case tfkC => k_is)
    (case tfeC => k_is)
    (case tftC => k_is)
    (case tfhC => k_is)
    (case tfiC => k_is)
    (case tfsC => k_is)
    (case tfsu => ks_is)
    (case tfvC => k_is)
    (case tfmC => k_is)
    (case tftpa => k_is)
    (case tfns => k_is)
  case TN =>
    refine' K1.tide_mk (tx := "no notice that fits") (j := 0) (p1 := ⟨24, 17, 24, 21⟩) (p2 := ⟨24, 23, 24, 25⟩) (q1 := ⟨25, 8, 25, 13⟩) (q2 := ⟨25, 8, 25, 15⟩) (q3 := ⟨25, 8, 25, 24⟩) (q4 := ⟨25, 25, 25, 46⟩) (q5 := ⟨25, 8, 25, 47⟩) (q6 := ⟨25, 8, 25, 47⟩) (q7 := ⟨26, 8, 26, 12⟩) (q8 := ⟨26, 8, 26, 15⟩) (q9 := ⟨26, 18, 26, 20⟩) (q10 := ⟨26, 8, 26, 20⟩) KX G.g PySem.Tide.ok_at ⟨_, fun env => by rfl⟩ (by decide +kernel) ?tnaC ?tnxL ?tnbm ?tnsa ?tnga ?tngg ?tnnb ?tna1 ?tnt1 ?tnl1 ?tnc1 ?tnn1 ?tnn2 ?tnn3 ?tnn4 ?tnkC ?tneC ?tntC ?tnhC ?tniC ?tnsC ?tnsu ?tnvC ?tnmC ?tntpa ?tnns
    (case tnaC => k_is)
    (case tnxL => k_is)
    (case tnbm => decide +kernel)
    (case tnsa => k_is)
    (case tnga => k_is)
    (case tngg => k_is)
    (case tnnb => k_is)
    (case tna1 => k_is)
    (case tnt1 => k_is)
    (case tnl1 => k_is)
    (case tnc1 => k_is)
    (case tnn1 => k_is)
    (case tnn2 => rfl)
    (case tnn3 => decide +kernel)
    (case tnn4 => k_is)
    (case tnkC => k_is)
    (case tneC => k_is)
    (case tntC => k_is)
    (case tnhC => k_is)
    (case tniC => k_is)
    (case tnsC => k_is)
    (case tnsu => ks_is)
    (case tnvC => k_is)
    (case tnmC => k_is)
    (case tntpa => k_is)
    (case tnns => k_is)
  case TR =>
    refine' K1.tide_mk (tx := "a row with a wrong item, or no row") (j := 0) (p1 := ⟨29, 17, 29, 21⟩) (p2 := ⟨29, 23, 29, 25⟩) (q1 := ⟨30, 8, 30, 13⟩) (q2 := ⟨30, 8, 30, 15⟩) (q3 := ⟨30, 8, 30, 24⟩) (q4 := ⟨30, 25, 30, 61⟩) (q5 := ⟨30, 8, 30, 62⟩) (q6 := ⟨30, 8, 30, 62⟩) (q7 := ⟨31, 8, 31, 12⟩) (q8 := ⟨31, 8, 31, 15⟩) (q9 := ⟨31, 18, 31, 20⟩) (q10 := ⟨31, 8, 31, 20⟩) KX G.g PySem.Tide.ok_at ⟨_, fun env => by rfl⟩ (by decide +kernel) ?traC ?trxL ?trbm ?trsa ?trga ?trgg ?trnb ?tra1 ?trt1 ?trl1 ?trc1 ?trn1 ?trn2 ?trn3 ?trn4 ?trkC ?treC ?trtC ?trhC ?triC ?trsC ?trsu ?trvC ?trmC ?trtpa ?trns
    (case traC => k_is)
    (case trxL => k_is)
    (case trbm => decide +kernel)
    (case trsa => k_is)
    (case trga => k_is)
    (case trgg => k_is)
    (case trnb => k_is)
    (case tra1 => k_is)
    (case trt1 => k_is)
    (case trl1 => k_is)
    (case trc1 => k_is)
    (case trn1 => k_is)
    (case trn2 => rfl)
    (case trn3 => decide +kernel)
    (case trn4 => k_is)
    (case trkC => k_is)
    (case treC => k_is)
    (case trtC => k_is)
    (case trhC => k_is)
    (case triC => k_is)
    (case trsC => k_is)
    (case trsu => ks_is)
    (case trvC => k_is)
    (case trmC => k_is)
    (case trtpa => k_is)
    (case trns => k_is)
  case TV =>
    refine' K1.tide_mk (tx := "a wrong value") (j := 0) (p1 := ⟨34, 17, 34, 21⟩) (p2 := ⟨34, 23, 34, 26⟩) (q1 := ⟨35, 8, 35, 13⟩) (q2 := ⟨35, 8, 35, 15⟩) (q3 := ⟨35, 8, 35, 24⟩) (q4 := ⟨35, 25, 35, 40⟩) (q5 := ⟨35, 8, 35, 41⟩) (q6 := ⟨35, 8, 35, 41⟩) (q7 := ⟨36, 8, 36, 12⟩) (q8 := ⟨36, 8, 36, 16⟩) (q9 := ⟨36, 19, 36, 22⟩) (q10 := ⟨36, 8, 36, 22⟩) KX G.g PySem.Tide.ok_why ⟨_, fun env => by rfl⟩ (by decide +kernel) ?tvaC ?tvxL ?tvbm ?tvsa ?tvga ?tvgg ?tvnb ?tva1 ?tvt1 ?tvl1 ?tvc1 ?tvn1 ?tvn2 ?tvn3 ?tvn4 ?tvkC ?tveC ?tvtC ?tvhC ?tviC ?tvsC ?tvsu ?tvvC ?tvmC ?tvtpa ?tvns
    (case tvaC => k_is)
    (case tvxL => k_is)
    (case tvbm => decide +kernel)
    (case tvsa => k_is)
    (case tvga => k_is)
    (case tvgg => k_is)
    (case tvnb => k_is)
    (case tva1 => k_is)
    (case tvt1 => k_is)
    (case tvl1 => k_is)
    (case tvc1 => k_is)
    (case tvn1 => k_is)
    (case tvn2 => rfl)
    (case tvn3 => decide +kernel)
    (case tvn4 => k_is)
    (case tvkC => k_is)
    (case tveC => k_is)
    (case tvtC => k_is)
    (case tvhC => k_is)
    (case tviC => k_is)
    (case tvsC => k_is)
    (case tvsu => ks_is)
    (case tvvC => k_is)
    (case tvmC => k_is)
    (case tvtpa => k_is)
    (case tvns => k_is)
  case exA =>
    refine' K1.exm_other ?exAx1 ?exAx2 ?exAx3 ?exAx4
    (case exAx1 => k_is); (case exAx2 => k_is); (case exAx3 => k_is); (case exAx4 => k_is)
  case exB =>
    refine' K1.exm_other ?exBx1 ?exBx2 ?exBx3 ?exBx4
    (case exBx1 => k_is); (case exBx2 => k_is); (case exBx3 => k_is); (case exBx4 => k_is)
  case exC =>
    refine' K1.exm_other ?exCx1 ?exCx2 ?exCx3 ?exCx4
    (case exCx1 => k_is); (case exCx2 => k_is); (case exCx3 => k_is); (case exCx4 => k_is)
  case exD =>
    refine' K1.exm_other ?exDx1 ?exDx2 ?exDx3 ?exDx4
    (case exDx1 => k_is); (case exDx2 => k_is); (case exDx3 => k_is); (case exDx4 => k_is)
  case q0 =>
    refine' K1.atM_mk ?b ?n ?l ?c ?k
    (case b => k_is); (case n => k_is); (case l => k_is); (case c => k_is); (case k => k_is)
  case q1 =>
    refine' K1.atM_mk ?b ?n ?l ?c ?k
    (case b => k_is); (case n => k_is); (case l => k_is); (case c => k_is); (case k => k_is)
  case q2 =>
    refine' K1.atM_mk ?b ?n ?l ?c ?k
    (case b => k_is); (case n => k_is); (case l => k_is); (case c => k_is); (case k => k_is)
  case a0 =>
    refine' K1.at_mk KX G.g ?b ?l ?c ?k
    (case b => k_is); (case l => k_is); (case c => k_is); (case k => k_is)
  case a1 =>
    refine' K1.at_mk KX G.g ?b ?l ?c ?k
    (case b => k_is); (case l => k_is); (case c => k_is); (case k => k_is)
  case a2 =>
    refine' K1.at_mk KX G.g ?b ?l ?c ?k
    (case b => k_is); (case l => k_is); (case c => k_is); (case k => k_is)
  case a3 =>
    refine' K1.at_mk KX G.g ?b ?l ?c ?k
    (case b => k_is); (case l => k_is); (case c => k_is); (case k => k_is)
  case a4 =>
    refine' K1.at_mk KX G.g ?b ?l ?c ?k
    (case b => k_is); (case l => k_is); (case c => k_is); (case k => k_is)
  case a5 =>
    refine' K1.at_mk KX G.g ?b ?l ?c ?k
    (case b => k_is); (case l => k_is); (case c => k_is); (case k => k_is)
  case a6 =>
    refine' K1.at_mk KX G.g ?b ?l ?c ?k
    (case b => k_is); (case l => k_is); (case c => k_is); (case k => k_is)
  case a7 =>
    refine' K1.at_mk KX G.g ?b ?l ?c ?k
    (case b => k_is); (case l => k_is); (case c => k_is); (case k => k_is)
  case a8 =>
    refine' K1.at_mk KX G.g ?b ?l ?c ?k
    (case b => k_is); (case l => k_is); (case c => k_is); (case k => k_is)
  case a9 =>
    refine' K1.at_mk KX G.g ?b ?l ?c ?k
    (case b => k_is); (case l => k_is); (case c => k_is); (case k => k_is)
  case a10 =>
    refine' K1.at_mk KX G.g ?b ?l ?c ?k
    (case b => k_is); (case l => k_is); (case c => k_is); (case k => k_is)
  case a11 =>
    refine' K1.at_mk KX G.g ?b ?l ?c ?k
    (case b => k_is); (case l => k_is); (case c => k_is); (case k => k_is)
  case a12 =>
    refine' K1.at_mk KX G.g ?b ?l ?c ?k
    (case b => k_is); (case l => k_is); (case c => k_is); (case k => k_is)
  case a13 =>
    refine' K1.at_mk KX G.g ?b ?l ?c ?k
    (case b => k_is); (case l => k_is); (case c => k_is); (case k => k_is)
  case a14 =>
    refine' K1.at_mk KX G.g ?b ?l ?c ?k
    (case b => k_is); (case l => k_is); (case c => k_is); (case k => k_is)
  case a15 =>
    refine' K1.at_mk KX G.g ?b ?l ?c ?k
    (case b => k_is); (case l => k_is); (case c => k_is); (case k => k_is)
  case a16 =>
    refine' K1.at_mk KX G.g ?b ?l ?c ?k
    (case b => k_is); (case l => k_is); (case c => k_is); (case k => k_is)
  case a17 =>
    refine' K1.at_mk KX G.g ?b ?l ?c ?k
    (case b => k_is); (case l => k_is); (case c => k_is); (case k => k_is)
  case a18 =>
    refine' K1.at_mk KX G.g ?b ?l ?c ?k
    (case b => k_is); (case l => k_is); (case c => k_is); (case k => k_is)
  case a19 =>
    refine' K1.at_mk KX G.g ?b ?l ?c ?k
    (case b => k_is); (case l => k_is); (case c => k_is); (case k => k_is)
  case a20 =>
    refine' K1.at_mk KX G.g ?b ?l ?c ?k
    (case b => k_is); (case l => k_is); (case c => k_is); (case k => k_is)
  case a21 =>
    refine' K1.at_mk KX G.g ?b ?l ?c ?k
    (case b => k_is); (case l => k_is); (case c => k_is); (case k => k_is)
  case a22 =>
    refine' K1.at_mk KX G.g ?b ?l ?c ?k
    (case b => k_is); (case l => k_is); (case c => k_is); (case k => k_is)
  case a23 =>
    refine' K1.at_mk KX G.g ?b ?l ?c ?k
    (case b => k_is); (case l => k_is); (case c => k_is); (case k => k_is)
  case a24 =>
    refine' K1.at_mk KX G.g ?b ?l ?c ?k
    (case b => k_is); (case l => k_is); (case c => k_is); (case k => k_is)
  case m0 =>
    refine' K1.atM_mk ?b ?n ?l ?c ?k
    (case b => k_is); (case n => k_is); (case l => k_is); (case c => k_is); (case k => k_is)
  case m1 =>
    refine' K1.atM_mk ?b ?n ?l ?c ?k
    (case b => k_is); (case n => k_is); (case l => k_is); (case c => k_is); (case k => k_is)
  case m2 =>
    refine' K1.atM_mk ?b ?n ?l ?c ?k
    (case b => k_is); (case n => k_is); (case l => k_is); (case c => k_is); (case k => k_is)
  case m3 =>
    refine' K1.atM_mk ?b ?n ?l ?c ?k
    (case b => k_is); (case n => k_is); (case l => k_is); (case c => k_is); (case k => k_is)
  case lmb0 =>
    refine' K1.atC_mk KX G.g ?b ?l ?c ?k
    (case b => k_is); (case l => k_is); (case c => k_is); (case k => k_is)
  (case aL => k_is); (case lL => k_is); (case cL => k_is); (case kL => k_is)
  (case n0N => first | kernel_rfl | rfl)

