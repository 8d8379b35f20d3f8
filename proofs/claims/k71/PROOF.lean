import PyProof.Rows.All
import Wide.All
import OpenK.AllK
import Wide.FinOn
import PySem.Challenge.RW_mailtide_k71_whole_worlds_by_steps
import HandS.ForMost
import HandS.Exc
import HandS.TryOnly
import HandS.TryMany
import HandS.Lambda
import HandS.EndTab
import HandS.IsInst
import HandS.SortRule
import HandS.SortInts
import HandS.StrMore
import HandS.Conv
import HandS.Wide
import HandS.Flow
import HandS.Walk
import HandS.TupAny
import HandS.ListEq
import HandS.DeepEq
import KE.KExcSuper
import KE.GoesMore
import PyProof.Draws
import HandS.ForExc
import HandS.Zip
import HandS.Strs
import HandS.SetFor
import HandS.Star
import HandS.SortKw
import HandS.Deep
import KE.DataMinMax
import KE.DatumOrd
import PyProof.P3In
import PyProof.Rows.SetFrom
import HandS.Codes
import HandS.OwnEq
import PyProof.NeKinds
import HandS.Defaults
import HandS.DictComp
import HandS.Small
import HandS.Style
import HandS.Dict
import HandS.ForDict
import PyProof.SetRoads
import KE.GoesEnumKw
set_option Elab.async false
set_option linter.all false
set_option maxRecDepth 100000
namespace K1
open PySem PySem.Spec PyProof.Rows L2
noncomputable def topS (i : Nat) : Stmt := PySem.Challenge.pw_mailtide_k71_whole_worlds_by_steps.main.body.getD i (.Pass ⟨0, 0, 0, 0⟩)
noncomputable abbrev st_is_integer : Stmt := topS 12
noncomputable abbrev st_is_number : Stmt := topS 13
noncomputable abbrev st_is_body : Stmt := topS 14
noncomputable abbrev st_is_mark : Stmt := topS 15
noncomputable abbrev st_is_sign : Stmt := topS 16
noncomputable abbrev st_is_signs : Stmt := topS 17
noncomputable abbrev st_is_numbers : Stmt := topS 18
noncomputable abbrev st_is_ascending : Stmt := topS 19
noncomputable abbrev st_Folder : Stmt := topS 21
noncomputable abbrev st__check_numbers : Stmt := topS 22
noncomputable abbrev st__with_sign : Stmt := topS 23
noncomputable abbrev st__without_sign : Stmt := topS 24
noncomputable abbrev st_played : Stmt := topS 26
noncomputable abbrev st_is_deed : Stmt := topS 27
noncomputable abbrev st_can_be_done : Stmt := topS 28
noncomputable abbrev st_done : Stmt := topS 29
noncomputable abbrev st_Copy : Stmt := topS 31
noncomputable abbrev st_copy_of : Stmt := topS 32
noncomputable abbrev st_stepped : Stmt := topS 33
noncomputable abbrev st__check_copy : Stmt := topS 34
noncomputable abbrev st__check_folder : Stmt := topS 35
noncomputable abbrev st__sent : Stmt := topS 36
noncomputable abbrev st__are_letters : Stmt := topS 37
noncomputable abbrev st__are_made : Stmt := topS 38
noncomputable abbrev st_World : Stmt := topS 42
noncomputable abbrev st__told : Stmt := topS 43
noncomputable abbrev st__are_names : Stmt := topS 44
noncomputable abbrev st__law_well : Stmt := topS 46
noncomputable abbrev st__law_draw : Stmt := topS 47
noncomputable abbrev st__law_one : Stmt := topS 48
noncomputable abbrev st__law_signs : Stmt := topS 49
noncomputable abbrev st__law_deed : Stmt := topS 50
noncomputable abbrev st__law_call : Stmt := topS 51
noncomputable abbrev st__law_on_copy : Stmt := topS 52
noncomputable abbrev st__law_done : Stmt := topS 53
noncomputable abbrev st__law_hearing : Stmt := topS 54
noncomputable abbrev st__law_on_server : Stmt := topS 55
noncomputable abbrev st__law_due : Stmt := topS 56
noncomputable abbrev st__law_right : Stmt := topS 57
noncomputable abbrev st_law : Stmt := topS 58
end K1
set_option Elab.async false
set_option linter.all false
set_option maxRecDepth 100000
set_option maxHeartbeats 4000000
namespace K1
open PySem PySem.Spec PyProof.Rows L2
/-! ### a def by its name -/
structure Def (P : Program) (w : World) (K : PySem.W.Frag) (mg : Str → Option Value) (base : Heap) (CX : CXT) (k : Nat) (x : Str) (ps : List Str) (sp : Sp) : Prop where
  ex : ∃ (f : Addr) (fd : FuncData), mg x = some (.ref f) ∧ PySem.W.keepIn K (.ref f) = true ∧ Binds K fd ps [] ∧ FnOk P w K mg base CX k f fd ps sp
section
variable {X : Cx} {CX : CXT} {k : Nat} {ps : List Str} {sp : Sp} {E : XK} {x : Str} {p pos : Pos} {e : Expr} {es : List Expr} {t : TA}
theorem pe_def (D : Def X.prog X.w X.K X.mg X.base CX k x ps sp) (hr : Room k X.A) (hg : Gl X x) (hx : Passes CX X E)
    (ha : PA X (e :: es) t) (hdb : (x == ("__debug__" : Str)) = false := by decide) (he : starEach (e :: es) X.env = (false, eval e X.env) :: starEach es X.env := by rfl) (hpl : (backTo pos (starEach es X.env)).any (·.1) = false := by rfl) :
    PE X (.Call (.Name x p) (e :: es) [] pos) (tCall sp [] E t) := by
  obtain ⟨f, fd, hm, hk, hb, F⟩ := D.ex
  exact pe_call F hr hg hm hk hb .nil hx ha hdb he hpl
end
/-! ### heaps: all that is tracked but p stays -/
noncomputable def Ext (p : Addr) (H H' : Hp) : Prop := ∀ b o, b ≠ p → H b = some o → H' b = some o
theorem Ext.refl {p : Addr} (H : Hp) : Ext p H H := fun _ _ _ h => h
theorem Ext.trans {p : Addr} {H H1 H2 : Hp} (a : Ext p H H1) (b : Ext p H1 H2) : Ext p H H2 := fun c o n h => b c o n (a c o n h)
theorem Ext.self {p : Addr} {H H' : Hp} {o : HO} (a : Ext p H H') : Ext p H (upd H' p o) := fun c u n h => by rw [upd_ne n]; exact a c u n h
theorem Ext.new {p q : Addr} {H H' : Hp} {o : HO} (a : Ext p H H') (h : H' q = none) : Ext p H (upd H' q o) := fun c u n e => by
  have e' := a c u n e
  rw [upd_ne (ne_of_none e' h)]; exact e'
theorem Ext.mut {p q : Addr} {H H' : Hp} {o : HO} (a : Ext p H H') (h : H q = none) : Ext p H (upd H' q o) := fun c u n e => by
  rw [upd_ne (ne_of_none e h)]; exact a c u n e
theorem Ext.free {p q : Addr} {H H' : Hp} (a : Ext p H H') (h : H' q = none) (n : q ≠ p) : H q = none := by
  cases e : H q with
  | none => rfl
  | some o => rw [a q o n e] at h; cases h
theorem same_ext {p : Addr} {H H' : Hp} (a : Same H H') : Ext p H H' := fun b o _ h => a b o h
theorem same_new {q : Addr} {H : Hp} {o : HO} (h : H q = none) : Same H (upd H q o) := fun c u e => by
  rw [upd_ne (ne_of_none e h)]; exact e
theorem _root_.L2.Same.new {q : Addr} {H H' : Hp} {o : HO} (a : Same H H') (h : H' q = none) : Same H (upd H' q o) := a.trans (same_new h)
theorem _root_.L2.Same.mut {q : Addr} {H H' : Hp} {o : HO} (a : Same H H') (h : H q = none) : Same H (upd H' q o) := fun c u e => by
  rw [upd_ne (ne_of_none e h)]; exact a c u e
theorem lt1 (n : Nat) (h : n ≤ 100000) : n ≤ sizeLine := Nat.le_trans h (by decide)
theorem lt2 (n : Nat) (h : n ≤ 100000) : n < sizeLine := Nat.lt_of_le_of_lt h (by decide)
/-- a well: three ints -/
noncomputable def WellAt (H : Hp) (p : Addr) : Prop := ∃ c m t : Int, H p = some (.lst [.int c, .int m, .int t])
theorem WellAt.new {H : Hp} {p q : Addr} {o : HO} (w : WellAt H p) (h : H q = none) : WellAt (upd H q o) p := by
  obtain ⟨c, m, t, e⟩ := w
  exact ⟨c, m, t, by rw [upd_ne (ne_of_none e h)]; exact e⟩
theorem WellAt.ne {H : Hp} {p q : Addr} (w : WellAt H p) (h : H q = none) : q ≠ p := by
  obtain ⟨c, m, t, e⟩ := w
  exact (ne_of_none e h).symm
theorem WellAt.upd {H : Hp} {p q : Addr} {o : HO} (w : WellAt H p) (h : q ≠ p) : WellAt (upd H q o) p := by
  obtain ⟨c, m, t, e⟩ := w
  exact ⟨c, m, t, by rw [upd_ne h.symm]; exact e⟩
theorem sq {K : PySem.W.Frag} {H : Hp} {a : Addr} {xs : List V} (h : H a = some (.lst xs)) : SqL K H a xs := .inl (.inl h)
theorem st {K : PySem.W.Frag} {H : Hp} {a : Addr} {xs : List V} (h : H a = some (.tup xs)) : SqT K H a xs := .inl (.inl h)
/-- names that the top leaves to the built-ins -/
structure Bi (mg : Str → Option Value) : Prop where
  int : mg "int" = none
  len : mg "len" = none
  str : mg "str" = none
  range : mg "range" = none
  max : mg "max" = none
  min : mg "min" = none
  sorted : mg "sorted" = none
  tuple : mg "tuple" = none
  list : mg "list" = none
  enumerate : mg "enumerate" = none
  isinstance : mg "isinstance" = none
  bool : mg "bool" = none
end K1
namespace K1
open PySem PySem.Spec PyProof.Rows L2
/-- a def of the text stands at its name -/
noncomputable def At (K : PySem.W.Frag) (mg : Str → Option Value) (x : Str) (st : Stmt) : Prop := ∃ (f : Addr) (fd : FuncData), mg x = some (.ref f) ∧ Fun K x x st f fd
theorem At.def {P : Program} {w : World} {K : PySem.W.Frag} {mg : Str → Option Value} {base : Heap} {CX : CXT} {k : Nat} {x : Str} {ps : List Str} {sp : Sp} {st : Stmt} (a : At K mg x st)
    (hb : ∀ (kV doc pm : Value) (an : Option Addr) (cdv ct : Value) (us : List Value), us.length = ps.length → bindArgs (PySem.W.fnOf x x (defArgs st) (defBody st) (defScope st) .none kV doc pm an cdv ct) ⟨us, []⟩ = pure (ps.zip us))
    (h : ∀ f fd, Fun K x x st f fd → FnOk P w K mg base CX k f fd ps sp) : Def P w K mg base CX k x ps sp := by
  obtain ⟨f, fd, hm, F⟩ := a
  exact ⟨f, fd, hm, F.kp, F.binds hb, h f fd F⟩
end K1
namespace K1
open PySem PySem.Spec PyProof.Rows L2
noncomputable def G : Int := 999999999999999999999999999999
theorem getD_map {ns : List Int} {i : Nat} {y : V} (h : (ns.map V.int)[i]? = some y) : ∃ z, ns[i]? = some z ∧ y = .int z := by
  rw [List.getElem?_map] at h
  cases e : ns[i]? with
  | none => rw [e] at h; cases h
  | some z => rw [e] at h; exact ⟨z, rfl, (Option.some.inj h).symm⟩
theorem take_more {α : Type} {l : List α} {i : Nat} {x : α} (h : l[i]? = some x) : l.take (i + 1) = l.take i ++ [x] := by
  rw [List.take_add_one, h]; rfl
theorem lt_of_get {α : Type} {l : List α} {i : Nat} {x : α} (h : l[i]? = some x) : i < l.length := (List.getElem?_eq_some_iff.mp h).1
end K1
namespace K1
open PySem PySem.Spec PyProof.Rows L2
/-- a comprehension without a test -/
theorem tyes {σ : L2.St} {H : Hp} {A B : Hp → Prop} (h : A H) : tYes σ H (fun b H3 => if b = true then A H3 else B H3) := by
  show (if true = true then A H else B H)
  rw [if_pos rfl]
  exact h
/-- a test whose answer is known -/
theorem itbT {c : Bool} {A B : Prop} (hc : c = true) (h : A) : if c = true then A else B := by
  rw [if_pos hc]
  exact h
theorem itbF {c : Bool} {A B : Prop} (hc : c = false) (h : B) : if c = true then A else B := by
  rw [hc, if_neg Bool.false_ne_true]
  exact h
end K1
namespace K1
open PySem PySem.Spec PyProof.Rows L2
/-! ### rules with the written part by its name (for blocks) -/
section
variable {X : Cx} {K : PySem.W.Frag}
theorem call_lenK (h : X.K = K) : CallR X (.builtin "len") (fun xs H Q => ∃ p ys, xs = [.ref p] ∧ (SqL K H p ys ∨ SqT K H p ys) ∧ Q (.int ys.length) H) := by
  subst h; exact call_len_seq
theorem ix_listK (h : X.K = K) : IxR X (rIxL K) := by subst h; exact ix_list
theorem ix_tupK (h : X.K = K) : IxR X (rIxT K) := by subst h; exact ix_tup
theorem op_in_seqK (h : X.K = K) : OpR X (compareOp .In) (rIn K false) := by subst h; exact op_in_seq
theorem op_notIn_seqK (h : X.K = K) : OpR X (compareOp .NotIn) (rIn K true) := by subst h; exact op_notIn_seq
theorem op_eqDK (h : X.K = K) (hu : X.A.units + 64 < cLine) : OpR X (compareOp .Eq) (rEqD K) := by subst h; exact op_eqD hu
theorem op_neDK (h : X.K = K) (hu : X.A.units + 64 < cLine) : OpR X (compareOp .NotEq) (rNeD K) := by subst h; exact op_neD hu
theorem pi_listK {tg l : Expr} {tl : TE} (h : X.K = K) (hl : PE X l tl) : PI X tg l (iList K tl) := by subst h; exact pi_list hl
theorem pi_tupK {tg l : Expr} {tl : TE} (h : X.K = K) (hl : PE X l tl) : PI X tg l (iTup K tl) := by subst h; exact pi_tup hl
theorem call_list_ofK (h : X.K = K) : CallR X (.type "list") (fun xs H Q => ∃ p ys, xs = [.ref p] ∧ (SqL K H p ys ∨ SqT K H p ys) ∧ ∀ l, H l = none → Q (.ref l) (upd H l (.lst ys))) := by
  subst h; exact call_list_of
theorem call_tuple_ofK (h : X.K = K) : CallR X (.type "tuple") (fun xs H Q => ∃ p ys, xs = [.ref p] ∧ ((SqL K H p ys ∧ ∀ l, H l = none → Q (.ref l) (upd H l (.tup ys))) ∨ (SqT K H p ys ∧ Q (.ref p) H))) := by
  subst h; exact call_tuple_of
end
end K1
namespace K1
open PySem PySem.Spec PyProof.Rows L2
/-! ### data that are compared -/
theorem inV_ints (n : Int) : ∀ ns : List Int, inV (.int n) (ns.map V.int) = decide (n ∈ ns)
  | [] => by simp [inV]
  | m :: r => by
    have ih := inV_ints n r
    unfold inV at ih ⊢
    rw [List.map_cons, List.any_cons, ih]
    by_cases e : m = n
    · subst e; simp [eqV]
    · have e' : ¬ n = m := fun h => e h.symm
      simp [eqV, e, e']
theorem flat_ints : ∀ ns : List Int, (ns.map V.int).all flatV = true
  | [] => rfl
  | m :: r => by rw [List.map_cons, List.all_cons, flat_ints r]; rfl
/-- the rest of a row of statements, told by what it is good for alone: the text of a reading does not grow with it -/
theorem seq_opq {t u : TS} {D : Ends} {σ : L2.St} {H : Hp} (h : ∀ N : L2.St → Hp → Prop, (∀ σ H, u D σ H → N σ H) → t { D with nx := N } σ H) : tSeq t u D σ H := h _ fun _ _ x => x
end K1
set_option Elab.async false
set_option linter.all false
set_option maxRecDepth 100000
set_option maxHeartbeats 4000000
/-! Own errors below an own error below ValueError, whose __init__ says super().__init__(a text) and then stores its one argument. -/
namespace PySem
namespace Tide
open PySem.W PySem.Calls PyProof.Rows PySem.HandSPX
noncomputable def iA (fl : Str) (p1 p2 : Pos) : Arguments := { posonlyargs := [], args := [{ arg := "self", annotation := none, pos := p1 }, { arg := fl, annotation := none, pos := p2 }], vararg := none, kwonlyargs := [], kw_defaults := [], kwarg := none, defaults := [] }
noncomputable def iB (fl tx : Str) (j : Nat) (q1 q2 q3 q4 q5 q6 q7 q8 q9 q10 : Pos) : List Stmt :=
  [.Expr (.Call (.Attribute (.Call (.Name "super" q1) [] [] q2) "__init__" q3) [.Constant (.str tx) j q4] [] q5) q6, .Assign [.Attribute (.Name "self" q7) fl q8] (.Name fl q9) q10]
noncomputable def iS (fl : Str) : Scope := { kind := .function, names := [(PySem.Str.ofString "self", .local), (fl, .local), (PySem.Str.ofString "__class__", .free), (PySem.Str.ofString "super", .globalImplicit)], isGenerator := false, isCoroutine := false, more := [] }
/-- how the call of super().__init__ is run (shown at the text's own places) -/
noncomputable def CallIs (tx : Str) (j : Nat) (q1 q2 q3 q4 q5 : Pos) : Prop := ∃ pl : Sem Bool, ∀ env : Env, eval (.Call (.Attribute (.Call (.Name "super" q1) [] [] q2) "__init__" q3) [.Constant (.str tx) j q4] [] q5) env = (do
      let ov ← attributeBase (.Call (.Name "super" q1) [] [] q2) "__init__" env (eval (.Call (.Name "super" q1) [] [] q2) env)
      standAt q3.atName
      let (f, first) ← holding [ov] (getMethod ov "__init__" pl)
      callWith q5 f first (backTo q5 (starEach [.Constant (.str tx) j q4] env)) [])
/-- the fields' names -/
noncomputable def FlOk (fl : Str) : Prop := ¬ fl = ("self" : Str) ∧ ¬ fl = ("__class__" : Str) ∧ ¬ fl = ("super" : Str) ∧ (fl == ("__debug__" : Str)) = false ∧
  ∀ (qual : Str) (body : List Stmt) (p1 p2 : Pos) (doc pm ct cd : Value) (an : Option Addr) (cc : Addr) (a b : Value), bindArgs (ksFn "__init__" qual (iA fl p1 p2) body (iS fl) .none .none doc pm an cd ct cc) ⟨[a, b], []⟩ = pure [(("self" : Str), a), (fl, b)]
theorem ok_value : FlOk "value" := ⟨by decide +kernel, by decide +kernel, by decide +kernel, by decide +kernel, fun _ _ _ _ _ _ _ _ _ _ _ _ => rfl⟩
theorem ok_at : FlOk "at" := ⟨by decide +kernel, by decide +kernel, by decide +kernel, by decide +kernel, fun _ _ _ _ _ _ _ _ _ _ _ _ => rfl⟩
theorem ok_why : FlOk "why" := ⟨by decide +kernel, by decide +kernel, by decide +kernel, by decide +kernel, fun _ _ _ _ _ _ _ _ _ _ _ _ => rfl⟩
/-- what the written part says of the class at C, of its __init__ at fI -/
structure TideTxt (prog : Program) (K : Frag) (mg : Str → Option Value) (x : Str) (C fI : Addr) (fl : Str) : Prop where
  gC : mg x = some (.ref C)
  ok : FlOk fl
  cls : ∃ nm q N bs bm sn sub ab col dd k0 k1 k2 k3 k5, K.lookup C = some (excClassObj nm q C N bs bm true sn sub ab col dd k0 k1 k2 k3 k5 "ValueError.__new__") ∧ refsVE bm = true
  sa : findIn K (.ref C) "__setattr__" = some (some (.builtin "object.__setattr__"))
  ga : findIn K (.ref C) "__getattribute__" = some (some (.builtin "BaseException.__getattribute__"))
  gg : findIn K (.ref C) "__getattr__" = some none
  noN : findIn K (.ref C) fl = some none
  iC : findIn K (.ref C) "__init__" = some (some (.ref fI))
  tC : typeIn K (.ref fI) = some (.type "function")
  kC : keepIn K (.ref C) = true
  exC : subIn K (.ref C) (.type "BaseException") = some true
  tyC : typeIn K (.ref C) = some (.type "type")
  hdC : hasDictIn K C = true
  te : exmOne K (.ref C) (.ref C) = some true
  sup : ks_superIn K C C "__init__" = some (some (.builtin "ValueError.__init__"))
  isV : subIn K (.ref C) (.type "ValueError") = some true
  self_ : mroIn K C (.ref C) = some true
  tpa : nsIn K cStatics "thirdparty.any" = some none
  nsu : mg "super" = none
  htop : (prog.main.scope.names.lookup ("super" : Str)).isSome = false
  fn : ∃ (oc : Value) (od : Option Addr) (doc pm ct : Value) (an : Option Addr) (osl : Array (Option Value)) (qual tx : Str) (j : Nat) (p1 p2 q1 q2 q3 q4 q5 q6 q7 q8 q9 q10 : Pos) (cda cc : Addr),
    K.lookup fI = some ⟨oc, od, .func (ksFn "__init__" qual (iA fl p1 p2) (iB fl tx j q1 q2 q3 q4 q5 q6 q7 q8 q9 q10) (iS fl) .none .none doc pm an (.ref cda) ct cc), osl⟩ ∧ codeIn K (.ref cda) qual = true ∧ CallIs tx j q1 q2 q3 q4 q5 ∧
    (∃ ccl cdd vs ccs file tf, K.lookup cda = some ⟨ccl, cdd, .fields vs, ccs⟩ ∧ vs[2]? = some (.str file tf) ∧ ((prog.main.file : Str) == file) = true) ∧ ∃ cl cld csl, K.lookup cc = some ⟨cl, cld, .cell (some (.ref C)), csl⟩
section
variable {fl : Str}
theorem lkT {β : Type} {a b : Str} {v : β} {l : List (Str × β)} (h : (a == b) = true) : List.lookup a ((b, v) :: l) = some v := by
  rw [List.lookup_cons, h]
theorem lkF {β : Type} {a b : Str} {v : β} {l : List (Str × β)} (h : (a == b) = false) : List.lookup a ((b, v) :: l) = List.lookup a l := by
  rw [List.lookup_cons, h]
theorem neB {a b : Str} (h : ¬ a = b) : (a == b) = false := beq_eq_false_iff_ne.mpr h
theorem lk_self : (iS fl).names.lookup ("self" : Str) = some .local := lkT (by decide +kernel)
theorem lk_fl (ok : FlOk fl) : (iS fl).names.lookup fl = some .local := (lkF (neB ok.1)).trans (lkT (beq_self_eq_true _))
theorem lk_cls (ok : FlOk fl) : (iS fl).names.lookup ("__class__" : Str) = some .free := (lkF (by decide +kernel)).trans ((lkF (neB fun h => ok.2.1 h.symm)).trans (lkT (by decide +kernel)))
theorem lk_super (ok : FlOk fl) : (iS fl).names.lookup ("super" : Str) = some .globalImplicit :=
  (lkF (by decide +kernel)).trans ((lkF (neB fun h => ok.2.2.1 h.symm)).trans ((lkF (by decide +kernel)).trans (lkT (by decide +kernel))))
end
theorem one_size (v : Value) : [v].length ≤ sizeLine := by
  rw [sizeLine_eq]
  exact (by decide : 1 ≤ 16777216)
/-- what __init__ leaves of a fresh exception at x -/
structure InitEnd (fl : Str) (h h' : Heap) (x C dx t1 : Addr) (v : Value) : Prop where
  keep : ∀ b o, b ≠ x → h.get? b = some o → h'.get? b = some o
  obj : h'.get? x = some { cls := .ref C, dict := some dx, data := .fields #[.ref t1, .none, .none, .none, .bool false, .none] }
  dbig : h.objs.size ≤ dx
  dne : dx ≠ x
  ns : h'.Ns1 dx (fun y => if y = fl then some v else none)
/-- a made one -/
structure OwnMade (fl : Str) (h h' : Heap) (e C d : Addr) (v : Value) : Prop where
  keep : ∀ b o, h.get? b = some o → h'.get? b = some o
  new : h.objs.size ≤ e
  obj : ∃ oe vs, h'.get? e = some oe ∧ oe.cls = .ref C ∧ oe.dict = some d ∧ oe.data = .fields vs ∧ vs[1]? = some .none
  dbig : h.objs.size ≤ d
  dne : d ≠ e
  ns : h'.Ns1 d (fun y => if y = fl then some v else none)
section
variable {prog : Program} {w : World} {A : Around} {E : Value → Shared → Prop} {R : Result → Shared → Prop} {s : Shared} {K : Frag} {mg mb : Str → Option Value} {C fI : Addr} {fl xn : Str}
theorem ldC {M : Model} {s : Shared} {env : Env} {m : Str → Option Value} {x : Str} {pos : Pos} {v : Value} {Q : Value → Shared → Prop} {A : Around} {E : Value → Shared → Prop} (hn : s.heap.Ns env.locals m) (hv : m x = some v) (h : Q v s)
    (hk : env.scope.kind = .function) (hl : env.kindOf x = some .local) (hd : (x == ("__debug__" : Str)) = false) :
    wpAny M A (eval (.Name x pos) env) Q E s := wpAny_Name (wpAny_loadName_local hk hl hn hv h) hd
/-- the built-in __init__ bound to the object, called -/
theorem call_mw {u e t0 : Addr} {rest : List Value} {Q : Value → Shared → Prop} {nm q : Str} {N : Addr} {bs bm : List Value} {hdct : Bool} {sn : List Str} {sub : List Value} {ab : Bool} {col : Option Bool} {dd : Option Addr} {k0 k1 k2 k3 k5 : Option Value}
    (hC : s.heap.get? C = some (excClassObj nm q C N bs bm hdct sn sub ab col dd k0 k1 k2 k3 k5 "ValueError.__new__")) (he : s.heap.get? e = some (excO C t0)) (hu : s.heap.get? u = some (kxs_mw "ValueError.__init__" e)) (hrest : rest.length ≤ sizeLine)
    (hq : ∀ h', (∀ b o, b ≠ e → s.heap.get? b = some o → h'.get? b = some o) → h'.get? e = some (excO C s.heap.objs.size) → Q .none { s with heap := h' }) :
    wpAny (model prog w) A (call (.ref u) rest) Q E s := by
  have FB := F.excBase_ValueError
  obtain ⟨hh, g, d, tk, os⟩ := s
  refine wpAny_call (codeAny_of_tree ?_)
  show wpAny _ A.in1 (callAny (.ref u) ⟨rest, []⟩) _ _ _
  simp only [callAny]
  refine wpAny_bind (wpAny_load hu ?_)
  simp only [kxs_mw, show (Value.type "method-wrapper" == Value.type "method" || Value.type "method-wrapper" == Value.type "builtin_function_or_method" || Value.type "method-wrapper" == Value.type "method-wrapper") = true by decide, if_true]
  refine KFB.if_so (by decide) ?_
  refine wpAny_bind (check_bound_init FB.toExcCallFacts hC he rfl ?_)
  refine wpAny_bind (wpAny_pure (wpAny_pure ?_))
  refine ⟨plainId_quiet FB.init.plain _, codeAny_builtin FB.initEntry ?_⟩
  exact exc_init_tree (cls := .ref C) (t0 := t0) (dv := none) (c2 := .none) (c3 := .none) (b4 := .bool false) he hrest fun h' k e' _ => hq h' k e'
theorem tide_init (T : TideTxt prog K mg xn C fI fl) {x t0 : Addr} {v : Value} (X : K.In s.heap) (hG : s.heap.Ns mainGlobals mg) (hB : s.heap.Ns builtinsNs mb) (hmb : mb "super" = some (.type "super")) (hlim : s.heap.NoLimit) (hx : s.heap.get? x = some (excO C t0)) (hnx : K.lookup x = none) (hroom : A.depth < recursionLimit)
    (hq : ∀ h' tk dx t1, InitEnd fl s.heap h' x C dx t1 v → R (.ok (.ret .none)) { s with heap := h', toks := tk }) :
    codeAny (model prog w) A (.call (.ref fI) ⟨[.ref x, v], []⟩) R s := by
  obtain ⟨oc, od, doc, pm, ct, an, osl, qual, tx, j, p1, p2, q1, q2, q3, q4, q5, q6, q7, q8, q9, q10, cda, cc, ho, hcd, ⟨pl, hpl⟩, ⟨ccl, cdd, vs, ccs, file, tf, hcda, hvs, hfile⟩, cl, cld, csl, hcell⟩ := T.fn
  obtain ⟨nm, q, N, bs, bm, sn, sub, ab, col, dd, k0, k1, k2, k3, k5, hC, hbm⟩ := T.cls
  obtain ⟨n1, n2, n3, n4, n5⟩ := T.ok
  have hcl : clsIn K C = some { name := nm, bases := bs, mro := .ref C :: bm, ns := N, qualname := q, hasDict := true, slotNames := sn, subclasses := sub, abstract := ab, collection := col, hasDel := false } := by unfold clsIn; rw [hC] <;> rfl
  have e1 : (("self" : Str) == fl) = false := by rw [beq_eq_false_iff_ne]; exact fun h => n1 h.symm
  have e1' : (fl == ("self" : Str)) = false := by rw [beq_eq_false_iff_ne]; exact n1
  have X₀ := X
  refine ks_codeAny_call_defAt (fd := ksFn "__init__" qual (iA fl p1 p2) (iB fl tx j q1 q2 q3 q4 q5 q6 q7 q8 q9 q10) (iS fl) .none .none doc pm an (.ref cda) ct cc) (body := iB fl tx j q1 q2 q3 q4 q5 q6 q7 q8 q9 q10) (binds := [("self", .ref x), (fl, v)]) hroom (X _ _ ho) rfl hlim (codeRec_of X hcd) rfl (BindsTo.of_eq ?_) ?_ ?_ (fun h₁ hns k => ?_) rfl rfl rfl
  · exact n5 _ _ _ _ _ _ _ _ _ _ _ _
  · intro y hy
    have hy : y ∈ [(PySem.Str.ofString "self", NameKind.local), (fl, .local), (PySem.Str.ofString "__class__", .free), (PySem.Str.ofString "super", .globalImplicit)] := hy
    simp only [List.mem_cons, List.not_mem_nil, or_false] at hy
    rcases hy with rfl | rfl | rfl | rfl <;> exact fun h => nomatch h
  · intro y hy
    simp only [List.mem_cons, List.not_mem_nil, or_false] at hy
    rcases hy with rfl | rfl
    · exact lk_self
    · exact lk_fl T.ok
  · have hxL : s.heap.objs.size ≠ x := Nat.ne_of_gt (Heap.lt_size hx)
    have X₁ : K.In h₁ := X.keeps k
    have hx₁ := k _ _ hx
    have I : InstAt h₁ x (excO C t0) C none := ⟨hx₁, rfl, rfl, trivial⟩
    refine ks_wpAt_execs_cons (ks_wpAt_Expr_any (ks_wpAt_MethodCall (ks_wpAt_super_base (f := fI) (cc := cda) (lk_super T.ok) (lk_cls T.ok) (by decide) rfl (X₁ _ _ ho) rfl rfl rfl (X₁ _ _ hcda) rfl hvs hfile T.htop ?_) (hpl _)))
    refine ks_loadName_global rfl (lk_super T.ok) (loadGlobal_builtin (hG.keeps k) T.nsu (hB.keeps k) hmb ⟨rfl, ?_⟩)
    refine wpAny_loadName_free rfl (lk_cls T.ok) rfl ⟨_, X₁ _ _ hcell, rfl⟩ ?_
    refine wpAny_loadName_local (v := .ref x) rfl lk_self hns ?_ ?_
    · exact (lkF (neB fun h => T.ok.1 h.symm)).trans (lkT (by decide +kernel))
    refine ks_wpAny_isType_cls (X₁ _ _ hC) rfl ⟨rfl, ?_⟩
    refine ks_wpAny_call_super (X₁ _ _ hC) rfl I.at_ I.cls (fun c e => by cases e) (looks_mroIn X₁ T.self_) (fun h₂ e₂ k₂ => ?_)
    have X₂ : K.In h₂ := X₁.keeps k₂
    have I₂ : InstAt h₂ x (excO C t0) C none := ⟨k₂ _ _ hx₁, rfl, rfl, trivial⟩
    have hsup : alongIn K "__init__" (((.ref C :: bm).dropWhile (· != .ref C)).drop 1) = some (some (.builtin "ValueError.__init__")) := by
      have h := T.sup
      unfold ks_superIn at h
      rw [hcl] at h
      exact h
    have hxC : x ≠ C := ks_ne X₂ I₂ hcl
    have hI : Looks (model prog w) h₂ (isInstance (.ref x) (.type "ValueError")) true := I₂.type.andThen (looks_subIn X₂ T.isV)
    refine kxs_getMethod kxs_ValueError e₂ (looks_opaque X₂ T.tpa) (l₀ := .ref C :: bm) (fun A Q E s k q => wpAny_bind ((looks_clsIn X₂ hcl) A _ E s k (wpAny_pure q))) rfl X₂ hsup hI hxC (by decide) ?_
    refine kxs_callWith (i := "ValueError.__init__") (x := x) rfl (evalArgs_plain ?_)
    show wpAny _ _ (spliced ((false, eval (.Constant (.str tx) j q4) _) :: backTo q5 (starEach [] _))) _ _ _
    refine Calls.spliced_cons ?_
    refine Calls.Constant_str (Calls.spliced_nil ⟨?_, ?_⟩)
    · exact Heap.get?_push_at rfl rfl
    refine call_mw (C := C) (t0 := t0) (Heap.get?_push_of_some _ (X₂ _ _ hC)) (Heap.get?_push_of_some _ I₂.at_) (Heap.get?_push_at rfl rfl) (one_size _) (fun h₃ k₃ e₃ => ?_)
    -- self.fl = fl
    have keep : ∀ b o, b ≠ x → s.heap.get? b = some o → h₃.get? b = some o := fun b o hb e => k₃ b o hb (Heap.get?_push_of_some _ (k₂ _ _ (k _ _ e)))
    have keep1 : ∀ b o, b ≠ x → h₁.get? b = some o → h₃.get? b = some o := fun b o hb e => k₃ b o hb (Heap.get?_push_of_some _ (k₂ _ _ e))
    have X₃ : K.In h₃ := fun a o e => keep a o (fun z => by rw [z, hnx] at e; cases e) (X a o e)
    have hns₃ : h₃.Ns s.heap.objs.size (fun y => [(("self" : Str), Value.ref x), (fl, v)].reverse.lookup y) := by
      obtain ⟨oL, es, ep, hL, r⟩ := hns
      exact ⟨oL, es, ep, keep1 _ _ hxL hL, r⟩
    show wpAt _ _ _ (execs _ _) _ _ _
    refine wpAt_of_wpAny (wpAny_execs_cons (plainObj_wpAny_Assign_Attribute ?_))
    refine ldC (v := v) hns₃ ?_ (ldC (v := .ref x) hns₃ ?_ ?_ rfl lk_self (by decide)) rfl (lk_fl T.ok) T.ok.2.2.2.1
    · exact lkT (beq_self_eq_true _)
    · exact (lkF (neB fun h => T.ok.1 h.symm)).trans (lkT (by decide +kernel))
    refine set_plain X₃ (ox := excO C _) (od := none) ⟨e₃, rfl, rfl, trivial⟩ T.sa ?_
    refine exc_osa X₃ e₃ hcl (show refsVE (.ref C :: bm) = true from hbm) rfl T.noN (fun h₄ tk₄ dx k₄ dn dne hx₄ hn₄ => ?_)
    show wpAny _ _ (execs _ _) _ _ _
    have z : s.heap.objs.size ≤ h₃.objs.size := by
      exact Nat.le_of_lt hns₃.lt
    refine wpAny_execs_nil (hq h₄ tk₄ dx _ ⟨fun b o hb e => k₄ b o hb (keep b o hb e), hx₄, Nat.le_trans z dn, dne, hn₄⟩)
theorem tide_made (T : TideTxt prog K mg xn C fI fl) {v : Value} (X : K.In s.heap) (hG : s.heap.Ns mainGlobals mg) (hB : s.heap.Ns builtinsNs mb) (hmb : mb "super" = some (.type "super")) (hlim : s.heap.NoLimit) (hroom : A.depth + 1 < recursionLimit)
    (hq : ∀ h' tk e d, OwnMade fl s.heap h' e C d v → R (.ok (.ret (.ref e))) { s with heap := h', toks := tk }) :
    codeAny (model prog w) A (.call (.ref C) ⟨[v], []⟩) R s := by
  obtain ⟨nm, q, N, bs, bm, sn, sub, ab, col, dd, k0, k1, k2, k3, k5, hC, hbm⟩ := T.cls
  obtain ⟨hp, g, dr, tk, os⟩ := s
  have k : ∀ b o, hp.get? b = some o → ((hp.push (kdv_tup [v])).push (excO C hp.objs.size)).get? b = some o := fun b o e => Heap.get?_push_of_some _ (Heap.get?_push_of_some _ e)
  have hget : ((hp.push (kdv_tup [v])).push (excO C hp.objs.size)).get? (hp.objs.size + 1) = some (excO C hp.objs.size) := by heap_get
  have hnx : K.lookup (hp.objs.size + 1) = none := by
    cases e : K.lookup (hp.objs.size + 1) with
    | none => rfl
    | some o =>
      have z : hp.get? (hp.objs.size + 1) = some o := X _ _ e
      exact absurd (Nat.lt_of_succ_lt (Heap.lt_size z)) (Nat.lt_irrefl _)
  refine call_own F.excBase_ValueError (fun X => refsVE_contains X bm hbm) (X _ _ hC) (looks_findIn X T.iC) (fun self => bind_fn X self T.tC) (one_size v) ?_
  refine tide_init (s := ⟨(hp.push (kdv_tup [v])).push (excO C hp.objs.size), g, dr, tk, os⟩) T (X.keeps k) (hG.keeps k) (hB.keeps k) hmb (hlim.keeps k) hget hnx ?_ fun h' tk' dx t1 ⟨k', hx, dn, dne, hns⟩ => ?_
  · show A.depth + 1 < recursionLimit
    exact hroom
  · have old : ∀ b o, hp.get? b = some o → h'.get? b = some o := fun b o e => k' b o (Nat.ne_of_lt (Nat.lt_succ_of_lt (Heap.lt_size e))) (k b o e)
    have z : hp.objs.size + 1 + 1 ≤ dx := by
      first
        | (simpa only [Heap.size_push] using dn)
        | exact dn
        | (have q := dn; rw [Heap.size_push, Heap.size_push] at q; exact q)
    exact ⟨rfl, hq h' tk' (hp.objs.size + 1) dx ⟨old, Nat.le_succ _, ⟨_, _, hx, rfl, rfl, rfl, rfl⟩, Nat.le_trans (Nat.le_trans (Nat.le_succ _) (Nat.le_succ _)) z, dne, hns⟩⟩
end
end Tide
end PySem
namespace L2
open PySem PySem.Spec PyProof.Rows
theorem relO_tide {fl : Str} {v : V} {v' : Value} (r : RelV v v') (f : Str) : RelO (List.lookup f [(fl, v)]) (if f = fl then some v' else none) := by
  by_cases hw : f = fl
  · subst hw
    rw [if_pos rfl]
    have q : List.lookup f [(f, v)] = some v := by simp [List.lookup]
    rw [q]
    exact r
  · rw [if_neg hw]
    have qw : (f == fl) = false := by simpa using hw
    have q2 : List.lookup f [(fl, v)] = none := by simp [List.lookup, qw]
    rw [q2]
    trivial
section
variable {X : Cx} {C fI : Addr} {fl xn : Str}
/-- E(e) -/
noncomputable def tMkTide (C : Addr) (fl : Str) (ta : TA) : St → Hp → XK → Prop := fun σ H Q => ta σ H fun vs H1 => ∃ v, vs = [v] ∧ ∀ d, H1 d = none → Q (.ref C) (some d) (upd H1 d (.xd [(fl, v)]))
theorem pmk_tide {a : Expr} {ta : TA} {p pos : Pos} {k : Nat} (T : PySem.Tide.TideTxt X.prog X.K X.mg xn C fI fl) (hr : Room k X.A) (ha : PA X [a] ta) (hg : Gl X xn := by rfl) (hdb : (xn == ("__debug__" : Str)) = false := by decide)
    (he : starEach (a :: []) X.env = (false, eval a X.env) :: starEach [] X.env := by rfl) (hpl : (backTo pos (starEach [] X.env)).any (·.1) = false := by rfl) :
    PMk X (.Call (.Name xn p) [a] [] pos) (tMkTide C fl ta) := by
  intro pins s σ H Q I h
  refine wpAny_Call_Name_kw (ld_glob I hg T.gC ?_ hdb)
  refine PySem.W.callWith_K (h₀ := X.base) I.ok.mod.kin T.kC (thn (ha.run pos pins s σ H _ I h) fun us s1 hh => ?_) he hpl
  obtain ⟨vs, H1, I1, r1, v, ev, q1⟩ := hh
  subst ev
  refine ⟨I1.kIn, ?_⟩
  cases r1 with
  | cons rv rn =>
    rename_i v' us'
    cases rn
    show wpAny _ _ (call (.ref C) [v']) _ _ _
    have hlim := I1.nolimit
    have hG := I1.mod.glob.keeps I1.bk
    obtain ⟨mb, hB0, hmb0⟩ := I1.mod.blt
    have hB := hB0.keeps I1.bk
    have hmb : mb "super" = some (.type "super") := (hmb0 _ (by decide +kernel)).trans (by decide +kernel)
    obtain ⟨hp, g, dr, tk, os⟩ := s1
    refine wpAny_call (PySem.Tide.tide_made T I1.kIn hG hB hmb hlim (by have := hr.dp; omega) fun h' tk' e d M => ?_)
    show MkP X pins σ Q (.ref e) ⟨h', g, dr, tk', os⟩
    obtain ⟨oe, fv, hoe, hc, hd, hdat, h1⟩ := M.obj
    have hns := M.ns
    obtain ⟨G', g1, g2⟩ := restrict h' fun b => decide (b ≠ e)
    have gk : ∀ b, b ≠ e → G'.get? b = h'.get? b := fun b hb => g1 b (decide_eq_true hb)
    have ge : G'.get? e = none := g2 e (by simp)
    have old : ∀ b o, hp.get? b = some o → G'.get? b = some o := fun b o q => (gk b (Nat.ne_of_lt (Nat.lt_of_lt_of_le (Heap.lt_size q) M.new))).trans (M.keep b o q)
    have ob : ObjOk X.prog X.w (upd H1 d (.xd [(fl, v)])) G' d (.xd [(fl, v)]) :=
      ⟨_, hns.at (fun o q => (gk d M.dne).trans q), fun f => relO_tide rv f⟩
    have J : Inv X pins σ (upd H1 d (.xd [(fl, v)])) ⟨G', g, dr, tk', os⟩ := I1.laid (t' := tk') old M.dbig ob
    refine ⟨e, oe, fv, ⟨G', g, dr, tk', os⟩, _, .ref C, some d, rfl, J, fun b o q => ?_, ge, hoe, ⟨hc, hd⟩, hdat, h1, ?_, rfl, I1.bare, raises_own T.exC T.tyC, q1 d (I1.hok.fresh M.dbig)⟩
    · by_cases hb : b = e
      · have q' : G'.get? b = some o := q
        rw [hb, ge] at q'; cases q'
      · exact (gk b hb).symm.trans q
    · rw [upd_ne (Ne.symm M.dne)]
      exact I1.hok.fresh M.new
/-- raise E(e) -/
noncomputable def tRaiseTide (C : Addr) (fl : Str) (W : WX) (ta : TA) : TS := fun _ σ H => tMkTide C fl ta σ H fun cls d H' => W cls d σ H'
theorem ps_raiseTide {a : Expr} {ta : TA} {W : WX} {p pos pos2 : Pos} {k : Nat} (hc : X.calm = true) (T : PySem.Tide.TideTxt X.prog X.K X.mg xn C fI fl) (hr : Room k X.A) (tk : Takes X W) (ha : PA X [a] ta) (hg : Gl X xn := by rfl) (hdb : (xn == ("__debug__" : Str)) = false := by decide)
    (he : starEach (a :: []) X.env = (false, eval a X.env) :: starEach [] X.env := by rfl) (hpl : (backTo pos (starEach [] X.env)).any (·.1) = false := by rfl) :
    PS X (.Raise (some (.Call (.Name xn p) [a] [] pos)) none pos2) (tRaiseTide C fl W ta) := ps_raise hc tk (pmk_tide T hr ha hg hdb he hpl)
end
end L2
set_option Elab.async false
set_option linter.all false
set_option maxRecDepth 100000
set_option maxHeartbeats 4000000
/-! enumerate over a list or a tuple -/
namespace PySem
open Sem (wp)
open AutoSeq1 (wpAny_loadPart')
theorem my_enumerate_newT (l : Addr) (items : Array Value) (n : Nat) (dct : Option Addr) (sl : Array (Option Value)) :
    Meets (Builtin.«enumerate.__new__» ⟨[.type "enumerate", .ref l], []⟩) (fun _ R s => s.heap.get? l = some { cls := .type "tuple", dict := dct, data := .seq items n, slots := sl } ∧
      R (.ok (.ret (.ref (s.heap.push { cls := .type "tuple_iterator", data := .fields #[.ref l, .int 0 0] }).objs.size)))
        { s with heap := (s.heap.push { cls := .type "tuple_iterator", data := .fields #[.ref l, .int 0 0] }).push { cls := .type "enumerate", data := .fields #[.none, .bool false, .ref s.heap.objs.size, rawInt 0, .none, .none] } }) :=
  .of_wp fun prog w A R s h => by
    obtain ⟨hp, g, d, tk, os⟩ := s; obtain ⟨hl, h⟩ := h
    have hsub := sub_enumerate
    have hL : Heap.IsTuple (Shared.heap ⟨hp, g, d, tk, os⟩) l items := ⟨_, hl, rfl, n, rfl⟩
    wp_walk using wpAny_loadPart' hl
    refine wpAny_stack_any fun st => wpAny_pure ?_
    split
    · rename_i c _ _ _ _ _
      cases (c == Value.type "enumerate")
      · wp_walk using wpAny_loadPart' hl, wpAny_pyIter_tuple hL
        exact ⟨_, rfl, h⟩
      · wp_walk using wpAny_loadPart' hl, wpAny_pyIter_tuple hL
        exact ⟨_, rfl, h⟩
    · wp_walk using wpAny_loadPart' hl, wpAny_pyIter_tuple hL
      exact ⟨_, rfl, h⟩
section
variable {prog : Program} {w : World} {A : Around} {E : Value → Shared → Prop} {s : Shared}
theorem my_enumerate_tuple {l : Addr} {items : Array Value} {Q : Value → Shared → Prop} (hL : s.heap.IsTuple l items)
    (h : ∀ h', IsEnum h' (s.heap.objs.size + 1) s.heap.objs.size 0 .none → h'.IsTupleIter s.heap.objs.size l 0 → h'.objs.size = s.heap.objs.size + 2 →
      (∀ b o, s.heap.get? b = some o → h'.get? b = some o) → Q (.ref (s.heap.objs.size + 1)) { s with heap := h' }) :
    wpAny (model prog w) A (call (.type "enumerate") [.ref l]) Q E s := by
  obtain ⟨⟨c, dct, dt, sl⟩, hl, hc, n, hd⟩ := hL
  replace hc : c = .type "tuple" := hc
  replace hd : dt = .seq items n := hd
  subst hc hd
  refine callType_new F.called_enumerate (by decide) (F.typeCall_enumerate_1 _) (F.newCall_enumerate_1 _) (fun obj => F.args_object_init_2 obj _) F.entry_enumerate_new
    (my_enumerate_newT l items n dct sl) ⟨hl, ?_⟩
  have hz : (s.heap.push { cls := .type "tuple_iterator", data := .fields #[.ref l, .int 0 0] }).objs.size = s.heap.objs.size + 1 := Heap.size_push ..
  show _ ∧ _
  rw [hz]
  have he : IsEnum ((s.heap.push { cls := .type "tuple_iterator", data := .fields #[.ref l, .int 0 0] }).push
      { cls := .type "enumerate", data := .fields #[.none, .bool false, .ref s.heap.objs.size, rawInt 0, .none, .none] }) (s.heap.objs.size + 1) s.heap.objs.size 0 .none := by
    have := Heap.get?_push_size (s.heap.push { cls := .type "tuple_iterator", data := .fields #[.ref l, .int 0 0] })
      (o := { cls := .type "enumerate", data := .fields #[.none, .bool false, .ref s.heap.objs.size, rawInt 0, .none, .none] }) rfl
    rw [hz] at this; exact this
  refine ⟨⟨_, he, rfl⟩, h _ he ⟨_, Heap.get?_push_of_some _ (Heap.get?_push_size _ rfl), rfl, rfl⟩ (by rw [Heap.size_push, hz]) fun b o x => Heap.get?_push_of_some _ (Heap.get?_push_of_some _ x)⟩
end
end PySem
namespace L2
open PySem PySem.Spec PyProof.Rows
noncomputable def IteT (K : PySem.W.Frag) (a : Addr) : It :=
  ⟨fun i H => ∃ (xs : List V) (x : V), SqT K H a xs ∧ xs[i]? = some x, fun i H v H' => ∃ T x, v = .ref T ∧ H T = none ∧ H' = upd H T (.tup [.int (i : Nat), x]) ∧ ∀ xs, SqT K H a xs → xs[i]? = some x, fun i H => ∃ xs : List V, SqT K H a xs ∧ i = xs.length⟩
theorem turn_enumT {P : Program} {w : World} {K : PySem.W.Frag} {elts : List Expr} {kk : Nat} {tpos : Pos} (a e it : Addr) :
    Turn P w K (.Tuple elts kk tpos) (IteT K a) [e, it] e (fun i h => (∃ old, IsEnum h e it ((i : Nat) : Int) old) ∧ h.IsTupleIter it a i ∧ e ≠ it ∧ e ≠ a ∧ it ≠ a) where
  mem := by simp
  obj := fun i h st b hb => by
    obtain ⟨⟨old, he⟩, ⟨o, ho, hc, hd⟩, _⟩ := st
    have e' : b = e ∨ b = it := by simpa using hb
    rcases e' with z | z
    · rw [z]; exact ⟨_, he, fun v q => nomatch q⟩
    · rw [z]; exact ⟨o, ho, fun v q => by rw [hd] at q; cases q⟩
  keep := fun i h h' st k => let ⟨⟨old, he⟩, hi, hne⟩ := st; ⟨⟨old, k e (by simp) _ he⟩, hi.at fun o q => k it (by simp) o q, hne⟩
  item := by
    intro X hP hw hK hc i pins s σ H E I hf st hg
    subst hP hw hK
    obtain ⟨⟨old, he⟩, hit, hne, hea, hia⟩ := st
    obtain ⟨xs, x, hq, hx⟩ := hg
    obtain ⟨its, rv, p, hz⟩ := I.tuple hq
    have p' : s.heap.IsTuple a its.toArray := p
    obtain ⟨u, hu, ru⟩ := rv.get hx
    have hel : e < s.heap.objs.size := Heap.lt_size he
    have hil : it < s.heap.objs.size := by obtain ⟨_, q, _⟩ := hit; exact Heap.lt_size q
    have D := Draws.tuple (prog := X.prog) (w := X.w) (A := X.A.in1) (I.ok.hd hc) it a hia.symm its.toArray
    refine wpAny_pyNext_enum_itemD D he ⟨hit, p'⟩ (by have := (List.getElem?_eq_some_iff.mp hu).1; simpa using this) hne (by simp [hne, hea]) fun x' h' tk hx' ho hit' hT hsz hk => ?_
    have hxu : x' = u := by
      have e1 : its[i]? = some x' := by simpa using hx'
      rw [hu] at e1
      exact (Option.some.inj e1).symm
    subst hxu
    obtain ⟨hit', _⟩ := hit'
    refine ⟨_, rfl, wpAny_letOwnedTupleGo_enum (s := { s with heap := h', toks := tk + 1 }) ho fun h'' he' sb => ?_⟩
    have hT2 : h''.get? s.heap.objs.size = some { cls := .type "tuple", data := .seq #[.int i tk, x'] } := (sb.2 _ (Nat.ne_of_gt hel)).trans hT
    have new : ObjOk X.prog X.w (upd H s.heap.objs.size (.tup [.int (i : Nat), x])) h'' s.heap.objs.size (.tup [.int (i : Nat), x]) :=
      ⟨by show 2 ≤ sizeLine; decide, [.int i tk, x'], .cons ⟨_, rfl⟩ (.cons ru .nil), ⟨_, hT2, rfl, _, rfl⟩⟩
    have I1 : Inv X pins σ (upd H s.heap.objs.size (.tup [.int (i : Nat), x])) { s with heap := h'', toks := tk + 1 } :=
      I.turnedNew (ch := [e, it]) (fun b ob hb q => (sb.2 b (fun z => hb (by simp [z]))).trans (hk b ob (fun z => hb (by simp [z])) (fun z => hb (by simp [z])) q)) hf (Nat.le_refl _) new
    refine ⟨.ref s.heap.objs.size, _, I1, rfl, ⟨_, x, rfl, I.hok.fresh (Nat.le_refl _), rfl, fun ys hy => by rw [I.tuple_inj hy hq]; exact hx⟩, ⟨⟨x', ?_⟩, hit'.at fun o q => (sb.2 it (Ne.symm hne)).trans q, hne, hea, hia⟩, fun b hb => ?_⟩
    · have e1 : ((i + 1 : Nat) : Int) = (i : Int) + 1 := by omega
      rw [e1]; exact he'
    · have hb' : b < s.heap.objs.size := by
        have e' : b = e ∨ b = it := by simpa using hb
        rcases e' with z | z
        · rw [z]; exact hel
        · rw [z]; exact hil
      rw [upd_ne (Nat.ne_of_lt hb')]
      exact (hf b hb).1
  done := by
    intro X hP hw hK hc i pins s σ H E I hf st hg
    subst hP hw hK
    obtain ⟨⟨old, he⟩, hit, hne, hea, hia⟩ := st
    obtain ⟨xs, hq, hx⟩ := hg
    obtain ⟨its, rv, p, hz⟩ := I.tuple hq
    have p' : s.heap.IsTuple a its.toArray := p
    obtain ⟨f0, f1, f2, f3, f4, f5⟩ := hf it (by simp)
    have hl := rv.length
    have D := Draws.tuple (prog := X.prog) (w := X.w) (A := X.A.in1) (I.ok.hd hc) it a hia.symm its.toArray
    have hn : i = its.toArray.size := by rw [hx, hl]; simp
    refine wpAny_pyNext_enum_endD D he ⟨hn ▸ hit, p'⟩ fun h' eb => ⟨rfl, I.turned (t' := s.toks) (fun b o hb q => eb b o hb q) f0 f1 f3 f4 f5⟩
  self := fun A i s Q E st h => let ⟨⟨_, he⟩, _⟩ := st; wpAny_pyIter_enum he h
/-- enumerate(list | tuple) -/
noncomputable def iEnumS (K : PySem.W.Frag) (ta : TA) : TI := fun σ H R => ta σ H fun vs H1 => ∃ a xs, vs = [.ref a] ∧ ((SqL K H1 a xs ∧ R (Ite K a) H1) ∨ (SqT K H1 a xs ∧ R (IteT K a) H1))
theorem pi_enumS {X : Cx} {e : Expr} {ta : TA} {p pos tpos : Pos} {elts : List Expr} {kk : Nat} (hg : Gl X "enumerate") (hm : X.mg "enumerate" = none) (ha : PA X [e] ta) (hs : starEach [e] X.env = [(false, eval e X.env)] := by rfl) :
    PI X (.Tuple elts kk tpos) (.Call (.Name "enumerate" p) [e] [] pos) (iEnumS X.K ta) := by
  refine ⟨fun pins s σ H R I h => ?_⟩
  refine Call_ (ld_blt I hg hm boot_enumerate (PyProof.Rows.callWith_type1 (thn (ha.run pos pins s σ H _ I h) fun us s1 ⟨vs, H1, I1, r1, q1⟩ => ?_) hs rfl))
  obtain ⟨a, xs, ex, q1⟩ := q1
  subst ex
  cases r1 with
  | cons r rr =>
    cases rr
    cases r
    have fpk : ∀ b ∈ [s1.heap.objs.size + 1, s1.heap.objs.size], FpOk X pins H1 b := fun b hb => by
      have e' : b = s1.heap.objs.size + 1 ∨ b = s1.heap.objs.size := by simpa using hb
      have hle : s1.heap.objs.size ≤ b := by
        rcases e' with z | z
        · rw [z]; exact Nat.le_add_right _ _
        · rw [z]; exact Nat.le_refl _
      exact I1.fpOk hle (I1.hok.fresh hle)
    rcases q1 with ⟨hq, q⟩ | ⟨hq, q⟩
    · obtain ⟨its, rv, p', hz⟩ := I1.list hq
      refine call_enumerate_list p'.isList fun h' he hit hsz hk => wpAny_pyIter_enum he ?_
      have I2 : Inv X pins σ H1 { s1 with heap := h' } := I1.kept (t' := s1.toks) hk
      exact ⟨s1.heap.objs.size + 1, [s1.heap.objs.size + 1, s1.heap.objs.size], _, _, H1, rfl, I2, turn_enum a (s1.heap.objs.size + 1) s1.heap.objs.size, ⟨⟨.none, he⟩, hit, Nat.succ_ne_self _⟩, fpk, q⟩
    · obtain ⟨its, rv, p', hz⟩ := I1.tuple hq
      have hla : a < s1.heap.objs.size := by obtain ⟨o, ho, _⟩ := p'; exact Heap.lt_size ho
      refine my_enumerate_tuple (show s1.heap.IsTuple a its.toArray from p') fun h' he hit hsz hk => wpAny_pyIter_enum he ?_
      have I2 : Inv X pins σ H1 { s1 with heap := h' } := I1.kept (t' := s1.toks) hk
      exact ⟨s1.heap.objs.size + 1, [s1.heap.objs.size + 1, s1.heap.objs.size], _, _, H1, rfl, I2, turn_enumT a (s1.heap.objs.size + 1) s1.heap.objs.size, ⟨⟨.none, he⟩, hit, Nat.succ_ne_self _, Nat.ne_of_gt (Nat.lt_succ_of_lt hla), Nat.ne_of_gt hla⟩, fpk, q⟩
theorem pi_enumSK {X : Cx} {K : PySem.W.Frag} {e : Expr} {ta : TA} {p pos tpos : Pos} {elts : List Expr} {kk : Nat} (h : X.K = K) (hg : Gl X "enumerate") (hm : X.mg "enumerate" = none) (ha : PA X [e] ta) (hs : starEach [e] X.env = [(false, eval e X.env)] := by rfl) :
    PI X (.Tuple elts kk tpos) (.Call (.Name "enumerate" p) [e] [] pos) (iEnumS K ta) := by subst h; exact pi_enumS hg hm ha hs
/-- a for over it: the pair's own tuple is new; Pv by the turn -/
theorem for_enumS {K : PySem.W.Frag} {a : Addr} {xs : List V} {g : TG} {tb : TS} {D : Ends} {σ : St} {H0 H : Hp} (hq : SqL K H0 a xs ∨ SqT K H0 a xs) (Pv : Nat → St → Hp → Prop) (h0 : Pv 0 σ H) (hm : ∀ i σ' H', Pv i σ' H' → ∀ b o, H0 b = some o → H' b = some o)
    (hs : ∀ i x σ H T, xs[i]? = some x → Pv i σ H → H T = none → g (.ref T) σ (upd H T (.tup [.int (i : Nat), x])) fun σ2 H2 => tb { D with nx := Pv (i + 1), ct := Pv (i + 1), bk := D.nx } σ2 H2) (hd : ∀ σ H, Pv xs.length σ H → D.nx σ H) :
    ((SqL K H a xs ∧ ∃ W : Nat → Nat → St → Hp → Prop, (∃ m, W 0 m σ H) ∧ ∀ i m σ H, W i m σ H →
      ((Ite K a).stop i H ∧ D.nx σ H) ∨ ((Ite K a).go i H ∧ ∃ N : St → Hp → Prop, (∀ σ' H', N σ' H' → ∃ m', m' < m ∧ W (i + 1) m' σ' H') ∧ ∀ x H', (Ite K a).yld i H x H' → g x σ H' fun σ2 H2 => tb { D with nx := N, ct := N, bk := D.nx } σ2 H2)) ∨
     (SqT K H a xs ∧ ∃ W : Nat → Nat → St → Hp → Prop, (∃ m, W 0 m σ H) ∧ ∀ i m σ H, W i m σ H →
      ((IteT K a).stop i H ∧ D.nx σ H) ∨ ((IteT K a).go i H ∧ ∃ N : St → Hp → Prop, (∀ σ' H', N σ' H' → ∃ m', m' < m ∧ W (i + 1) m' σ' H') ∧ ∀ x H', (IteT K a).yld i H x H' → g x σ H' fun σ2 H2 => tb { D with nx := N, ct := N, bk := D.nx } σ2 H2))) := by
  have mL : ∀ {i σ' H'}, SqL K H0 a xs → Pv i σ' H' → SqL K H' a xs := fun {i σ' H'} h p => by
    have k := hm i σ' H' p
    rcases h with (h | ⟨o, h⟩) | h
    · exact .inl (.inl (k _ _ h))
    · exact .inl (.inr ⟨o, k _ _ h⟩)
    · exact .inr h
  have mT : ∀ {i σ' H'}, SqT K H0 a xs → Pv i σ' H' → SqT K H' a xs := fun {i σ' H'} h p => by
    have k := hm i σ' H' p
    rcases h with (h | ⟨o, h⟩) | h
    · exact .inl (.inl (k _ _ h))
    · exact .inl (.inr ⟨o, k _ _ h⟩)
    · exact .inr h
  rcases hq with h | h
  · refine .inl ⟨mL h h0, fun i m σ H => m = xs.length - i ∧ i ≤ xs.length ∧ Pv i σ H, ⟨xs.length, by simp, Nat.zero_le _, h0⟩, ?_⟩
    rintro i m σ H ⟨rfl, hi, p⟩
    have q := mL h p
    by_cases hlt : i < xs.length
    · refine .inr ⟨⟨xs, xs[i], q, by simp [hlt]⟩, Pv (i + 1), fun σ' H' p' => ⟨xs.length - (i + 1), by omega, rfl, hlt, p'⟩, fun x H' y => ?_⟩
      obtain ⟨T, z, rfl, nT, rfl, hz⟩ := y
      exact hs i z σ H T (hz xs q) p nT
    · have e : i = xs.length := by omega
      subst e
      exact .inl ⟨⟨xs, q, Nat.le_refl _⟩, hd σ H p⟩
  · refine .inr ⟨mT h h0, fun i m σ H => m = xs.length - i ∧ i ≤ xs.length ∧ Pv i σ H, ⟨xs.length, by simp, Nat.zero_le _, h0⟩, ?_⟩
    rintro i m σ H ⟨rfl, hi, p⟩
    have q := mT h p
    by_cases hlt : i < xs.length
    · refine .inr ⟨⟨xs, xs[i], q, by simp [hlt]⟩, Pv (i + 1), fun σ' H' p' => ⟨xs.length - (i + 1), by omega, rfl, hlt, p'⟩, fun x H' y => ?_⟩
      obtain ⟨T, z, rfl, nT, rfl, hz⟩ := y
      exact hs i z σ H T (hz xs q) p nT
    · have e : i = xs.length := by omega
      subst e
      exact .inl ⟨⟨xs, q, rfl⟩, hd σ H p⟩
end L2
set_option Elab.async false
set_option linter.all false
set_option maxRecDepth 100000
set_option maxHeartbeats 4000000
namespace K1
open PySem PySem.Spec PyProof.Rows L2 RZ
/-! ### values as data: what stands at a place, found in the call's own objects -/
mutual
inductive Dv (H : Hp) : V → PyData → Prop
  | non : Dv H .non .none
  | bl (b : Bool) : Dv H (.bl b) (.bool b)
  | int (i : Int) : Dv H (.int i) (.int i)
  | str (x : Str) : Dv H (.str x) (.str x)
  | lst {a : Addr} {xs : List V} {ds : List PyData} : H a = some (.lst xs) → DvA H xs ds → Dv H (.ref a) (.list ds)
  | tup {a : Addr} {xs : List V} {ds : List PyData} : H a = some (.tup xs) → DvA H xs ds → Dv H (.ref a) (.tuple ds)
  | dic {a : Addr} : H a = some (.dK []) → Dv H (.ref a) (.dict [])
inductive DvA (H : Hp) : List V → List PyData → Prop
  | nil : DvA H [] []
  | cons {v : V} {vs : List V} {d : PyData} {ds : List PyData} : Dv H v d → DvA H vs ds → DvA H (v :: vs) (d :: ds)
end
mutual
theorem Dv.ext {H H' : Hp} (e : LamX.ExtN H H') : ∀ {v : V} {d : PyData}, Dv H v d → Dv H' v d
  | _, _, .non => .non
  | _, _, .bl b => .bl b
  | _, _, .int i => .int i
  | _, _, .str x => .str x
  | _, _, .lst h a => .lst (e _ _ h fun _ z => by cases z) (DvA.ext e a)
  | _, _, .tup h a => .tup (e _ _ h fun _ z => by cases z) (DvA.ext e a)
  | _, _, .dic h => .dic (e _ _ h fun _ z => by cases z)
theorem DvA.ext {H H' : Hp} (e : LamX.ExtN H H') : ∀ {vs : List V} {ds : List PyData}, DvA H vs ds → DvA H' vs ds
  | _, _, .nil => .nil
  | _, _, .cons h r => .cons (Dv.ext e h) (DvA.ext e r)
end
theorem Dv.same {H H' : Hp} {v : V} {d : PyData} (h : Dv H v d) (s : Same H H') : Dv H' v d := h.ext (LamX.ExtN.of s)
theorem DvA.same {H H' : Hp} {v : List V} {d : List PyData} (h : DvA H v d) (s : Same H H') : DvA H' v d := h.ext (LamX.ExtN.of s)
mutual
noncomputable def noDic : PyData → Bool
  | .list xs => noDicA xs
  | .tuple xs => noDicA xs
  | .dict _ => false
  | _ => true
noncomputable def noDicA : List PyData → Bool
  | [] => true
  | x :: r => noDic x && noDicA r
end
mutual
theorem Dv.dp {K : PySem.W.Frag} {H : Hp} : ∀ {v : V} {d : PyData}, Dv H v d → noDic d = true → Dp K H v d
  | _, _, .non, _ => .non
  | _, _, .bl b, _ => .bl b
  | _, _, .int i, _ => .int i
  | _, _, .str x, _ => .str x
  | _, _, .lst h a, n => .lst (sq h) (DvA.dp a n)
  | _, _, .tup h a, n => .tup (st h) (DvA.dp a n)
  | _, _, .dic h, n => by cases n
theorem DvA.dp {K : PySem.W.Frag} {H : Hp} : ∀ {vs : List V} {ds : List PyData}, DvA H vs ds → noDicA ds = true → DpAll K H vs ds
  | _, _, .nil, _ => .nil
  | _, _, .cons h r, n => .cons (Dv.dp h ((Bool.and_eq_true _ _).mp n).1) (DvA.dp r ((Bool.and_eq_true _ _).mp n).2)
end
theorem DvA.len {H : Hp} : ∀ {vs : List V} {ds : List PyData}, DvA H vs ds → vs.length = ds.length
  | _, _, .nil => rfl
  | _, _, .cons _ r => congrArg (· + 1) (DvA.len r)
theorem DvA.get {H : Hp} : ∀ {vs : List V} {ds : List PyData}, DvA H vs ds → ∀ {i : Nat} {v : V}, vs[i]? = some v → ∃ d, ds[i]? = some d ∧ Dv H v d
  | _, _, .nil, i, v, h => by simp at h
  | _, _, .cons hd r, 0, v, h => ⟨_, rfl, by simp at h; exact h ▸ hd⟩
  | _, _, .cons hd r, i + 1, v, h => by simpa using DvA.get r (i := i) (v := v) (by simpa using h)
theorem DvA.app {H : Hp} : ∀ {vs : List V} {ds : List PyData} {us : List V} {es : List PyData}, DvA H vs ds → DvA H us es → DvA H (vs ++ us) (ds ++ es)
  | _, _, _, _, .nil, h => h
  | _, _, _, _, .cons hd r, h => .cons hd (DvA.app r h)
noncomputable def tyN : PyData → String
  | .none => "NoneType"
  | .bool _ => "bool"
  | .int _ => "int"
  | .str _ => "str"
  | .list _ => "list"
  | .tuple _ => "tuple"
  | .dict _ => "dict"
theorem Dv.ty {K : PySem.W.Frag} {H : Hp} {v : V} {d : PyData} (h : Dv H v d) : TyX K H v (.type (tyN d)) := by
  cases h with
  | non => exact .base .non
  | bl b => exact .base (.bl b)
  | int i => exact .base (.int i)
  | str x => exact .base (.str x)
  | lst e _ => exact .base (.lst e)
  | tup e _ => exact .base (.tup e)
  | dic e => exact .base (.dK e)
/-! ### what the checks say of data -/
noncomputable def isSeq : PyData → Bool | .tuple _ => true | .list _ => true | _ => false
noncomputable def itemsD : PyData → List PyData | .list xs => xs | .tuple xs => xs | _ => []
noncomputable def dI : PyData → Int | .int n => n | _ => 0
noncomputable def ascB (ns : List Int) : Bool := ((ns.zip (ns.drop 1)).map fun p => decide (p.1 < p.2)).all id
theorem kit_seq {K : PySem.W.Frag} (d : PyData) : PySem.W.kitAny K (.type (tyN d)) [.type "list", .type "tuple"] = some (isSeq d) := by
  have kt : ∀ {t : String} {b1 b2 : Bool}, kitB t "list" = some b1 → kitB t "tuple" = some b2 → PySem.W.kitAny K (.type t) [.type "list", .type "tuple"] = some (b1 || b2) := fun {t b1 b2} h1 h2 =>
    kitAny_cons (b := b1) (kit_ty h1) (fun e => by subst e; exact kitAny_cons (b := b2) (kit_ty h2) (fun e => by subst e; exact kitAny_nil) fun e => by subst e; rfl) fun e => by subst e; rfl
  cases d with
  | none => exact kt (t := "NoneType") (b1 := false) (b2 := false) (by decide +kernel) (by decide +kernel)
  | bool b => exact kt (t := "bool") (b1 := false) (b2 := false) (by decide +kernel) (by decide +kernel)
  | int b => exact kt (t := "int") (b1 := false) (b2 := false) (by decide +kernel) (by decide +kernel)
  | str b => exact kt (t := "str") (b1 := false) (b2 := false) (by decide +kernel) (by decide +kernel)
  | list b => exact kt (t := "list") (b1 := true) (b2 := false) (by decide +kernel) (by decide +kernel)
  | tuple b => exact kt (t := "tuple") (b1 := false) (b2 := true) (by decide +kernel) (by decide +kernel)
  | dict b => exact kt (t := "dict") (b1 := false) (b2 := false) (by decide +kernel) (by decide +kernel)
/-- a list or a tuple of the call's own -/
noncomputable def SeqH (H : Hp) (a : Addr) (xs : List V) : Prop := H a = some (.lst xs) ∨ H a = some (.tup xs)
theorem SeqH.same {H H' : Hp} {a : Addr} {xs : List V} (h : SeqH H a xs) (s : Same H H') : SeqH H' a xs := h.imp (s _ _) (s _ _)
theorem SeqH.len {K : PySem.W.Frag} {H : Hp} {a : Addr} {xs : List V} (h : SeqH H a xs) : SqL K H a xs ∨ SqT K H a xs := h.imp sq st
theorem Dv.seq {H : Hp} {v : V} {d : PyData} (h : Dv H v d) (hs : isSeq d = true) : ∃ a xs, v = .ref a ∧ SeqH H a xs ∧ DvA H xs (itemsD d) := by
  cases h with
  | lst e r => exact ⟨_, _, rfl, .inl e, r⟩
  | tup e r => exact ⟨_, _, rfl, .inr e, r⟩
  | _ => cases hs
/-- what a walk over a list or a tuple asks -/
noncomputable def SeqR (K : PySem.W.Frag) (a : Addr) (H : Hp) (R : It → Hp → Prop) : Prop := ((∃ xs, SqL K H a xs) ∧ R (Itl K a) H) ∨ ((∃ xs, SqT K H a xs) ∧ R (Itt K a) H)
noncomputable def ZipR (K : PySem.W.Frag) (a b : Addr) (xs ys : List V) (H : Hp) (R : It → Hp → Prop) : Prop := (SqL K H a xs ∧ SqL K H b ys ∧ R (Itz K a b) H) ∨ (SqT K H a xs ∧ SqT K H b ys ∧ R (ItzT K a b) H)
/-- a walk of a list or a tuple of the call's own -/
theorem seq_walk {K : PySem.W.Frag} {H : Hp} {a : Addr} {xs : List V} {R : It → Hp → Prop} (h : SeqH H a xs)
    (k : ∀ (J : It) (Gd : Hp → Prop), Walk J xs.length Gd (YAt xs) → (∀ H', Same H H' → Gd H') → R J H) : SeqR K a H R := by
  rcases h with h | h
  · exact .inl ⟨⟨xs, sq h⟩, k _ _ walk_list fun H' s => sq (s _ _ h)⟩
  · exact .inr ⟨⟨xs, st h⟩, k _ _ walk_tup fun H' s => st (s _ _ h)⟩
theorem walk_zipT {K : PySem.W.Frag} {a b : Addr} {xs ys : List V} {n : Nat} (hn : n = min xs.length ys.length) : Walk (ItzT K a b) n (fun H => SqT K H a xs ∧ SqT K H b ys) (YPair (fun i => xs[i]?) (fun i => ys[i]?)) := by
  subst hn
  refine ⟨fun i _ hi q => ?_, fun _ q => ⟨xs, ys, q.1, q.2, by omega⟩, fun i H v H' _ q y => ?_⟩
  · have h1 : i < xs.length := by omega
    have h2 : i < ys.length := by omega
    exact ⟨xs, ys, xs[i], ys[i], q.1, q.2, by simp [h1], by simp [h2]⟩
  · obtain ⟨T, x, z, h1, h2, h3, h4, h5⟩ := y
    exact ⟨T, x, z, h1, h2, h3, h4 xs q.1, h5 ys q.2⟩
theorem zip_walkL {K : PySem.W.Frag} {H : Hp} {a b : Addr} {xs ys : List V} {R : It → Hp → Prop} (h1 : H a = some (.lst xs)) (h2 : H b = some (.lst ys))
    (k : ∀ (J : It) (Gd : Hp → Prop), Walk J (min xs.length ys.length) Gd (YPair (fun i => xs[i]?) (fun i => ys[i]?)) → (∀ H', Same H H' → Gd H') → R J H) : ZipR K a b xs ys H R :=
  .inl ⟨sq h1, sq h2, k _ _ (walk_zip rfl) fun H' s => ⟨sq (s _ _ h1), sq (s _ _ h2)⟩⟩
theorem zip_walkT {K : PySem.W.Frag} {H : Hp} {a b : Addr} {xs ys : List V} {R : It → Hp → Prop} (h1 : H a = some (.tup xs)) (h2 : H b = some (.tup ys))
    (k : ∀ (J : It) (Gd : Hp → Prop), Walk J (min xs.length ys.length) Gd (YPair (fun i => xs[i]?) (fun i => ys[i]?)) → (∀ H', Same H H' → Gd H') → R J H) : ZipR K a b xs ys H R :=
  .inr ⟨st h1, st h2, k _ _ (walk_zipT rfl) fun H' s => ⟨st (s _ _ h1), st (s _ _ h2)⟩⟩
structure Bj (mg : Str → Option Value) : Prop extends Bi mg where
  all : mg "all" = none
  zip : mg "zip" = none
section
variable {X : Cx} {K : PySem.W.Frag}
theorem sl_seqK (h : X.K = K) : SlR X (fun x lo hi H Q => rSlL K x lo hi H Q ∨ rSlA K x lo hi H Q) := by subst h; exact SlR.or sl_list sl_tupA
theorem call_isiK1 (h : X.K = K) : CallR X (.builtin "isinstance") (rIsi K) := by subst h; exact call_isi
theorem call_isiTK (h : X.K = K) : CallR X (.builtin "isinstance") (rIsiT K) := by subst h; exact call_isiT
theorem cr_allK (h : X.K = K) (hc : X.calm = true) : CallR X (.builtin "all") (rAll K) := by subst h; exact cr_all hc
theorem ix_seqK (h : X.K = K) : IxR X (rIx K) := by subst h; exact ix_seq
theorem pe_const {x : Str} {pos : Pos} {n : Int} (hm : ∃ t, X.mg x = some (.int n t)) (hg : Gl X x) (hd : (x == ("__debug__" : Str)) = false := by decide) : PE X (.Name x pos) (tC (.int n)) := by
  obtain ⟨t, hm⟩ := hm
  exact pe_glob hg hm ⟨t, rfl⟩ hd
/-- a walk over a list or a tuple -/
noncomputable def iSeq (K : PySem.W.Frag) (tl : TE) : TI := fun σ H R => tl σ H fun x H1 => ∃ a, x = .ref a ∧ SeqR K a H1 R
theorem pi_seqK {tg l : Expr} {tl : TE} (h : X.K = K) (hl : PE X l tl) : PI X tg l (iSeq K tl) := by
  subst h
  refine ⟨fun pins s σ H R I h => ?_⟩
  refine thn (hl.run pins s σ H _ I h) fun v s1 ⟨x, H1, I1, r1, q1⟩ => ?_
  obtain ⟨a, e, q1⟩ := q1
  subst e
  cases r1
  have fr : ∀ b ∈ [s1.heap.objs.size], FpOk X pins H1 b := fun b hb => by
    have e : b = s1.heap.objs.size := by simpa using hb
    subst e
    exact I1.fpOk (Nat.le_refl _) (I1.hok.fresh (Nat.le_refl _))
  rcases q1 with ⟨⟨xs, hq⟩, q⟩ | ⟨⟨xs, hq⟩, q⟩
  · obtain ⟨its, rv, p, hz⟩ := I1.list hq
    refine wpAny_pyIter_list p.isList ?_
    exact ⟨s1.heap.objs.size, [s1.heap.objs.size], _, _, H1, rfl, I1.kept (t' := s1.toks) fun b o e => Heap.get?_push_of_some _ e, turn_list a _, ⟨_, Heap.get?_push_size _ rfl, rfl, rfl⟩, fr, q⟩
  · obtain ⟨its, rv, p, hz⟩ := I1.tuple hq
    refine wpAny_pyIter_tuple (show s1.heap.IsTuple a its.toArray from p) ?_
    exact ⟨s1.heap.objs.size, [s1.heap.objs.size], _, _, H1, rfl, I1.kept (t' := s1.toks) fun b o e => Heap.get?_push_of_some _ e, turn_tuple a _, ⟨_, Heap.get?_push_size _ rfl, rfl, rfl⟩, fr, q⟩
noncomputable def iZipS (K : PySem.W.Frag) (ta : TA) : TI := fun σ H R => ta σ H fun vs H1 => ∃ a b xs ys, vs = [.ref a, .ref b] ∧ ZipR K a b xs ys H1 R
theorem pi_zipSK {e e2 : Expr} {ta : TA} {p pos tpos : Pos} {elts : List Expr} {kk : Nat} (h : X.K = K) (hg : Gl X "zip") (hm : X.mg "zip" = none) (ha : PA X [e, e2] ta)
    (hs : starEach [e, e2] X.env = (false, eval e X.env) :: starEach [e2] X.env := by rfl) (hpl : (backTo pos (starEach [e2] X.env)).any (·.1) = false := by rfl) :
    PI X (.Tuple elts kk tpos) (.Call (.Name "zip" p) [e, e2] [] pos) (iZipS K ta) := by subst h; exact pi_zipA hg hm ha hs hpl
end
end K1
set_option Elab.async false
set_option linter.all false
set_option maxRecDepth 100000
set_option maxHeartbeats 400000
/-! a lambda with one parameter handed to a def or a method that calls it -/
namespace LamY
open PySem PySem.Spec PyProof.Rows L2 LamX
/-- one parameter xp, no other name of its own: captured ones and globals -/
structure LamS1 (sc scope : Scope) (xp : Str) : Prop where
  kind : scope.kind = .function
  co : scope.isCoroutine = false
  gen : scope.isGenerator = false
  own : ∀ y ∈ scope.names, y.2 ≠ .cell ∧ (y.2 = .local → y.1 = xp)
  par : scope.names.lookup xp = some .local
  free : ∀ y ∈ scope.names, y.2 = .free → sc.names.lookup y.1 = some .cell ∨ sc.names.lookup y.1 = some .free
noncomputable def lamSB1 (sc scope : Scope) (xp : Str) : Bool :=
  decide (scope.kind = .function) && !scope.isCoroutine && !scope.isGenerator && decide (scope.names.lookup xp = some .local) && scope.names.all fun y => !decide (y.2 = .cell) && (!decide (y.2 = .local) || decide (y.1 = xp)) && (!decide (y.2 = .free) || decide (sc.names.lookup y.1 = some .cell) || decide (sc.names.lookup y.1 = some .free))
theorem lamS1_by {sc scope : Scope} {xp : Str} (h : lamSB1 sc scope xp = true) : LamS1 sc scope xp := by
  unfold lamSB1 at h
  simp only [Bool.and_eq_true, Bool.or_eq_true, Bool.not_eq_true', decide_eq_true_eq, decide_eq_false_iff_not, List.all_eq_true] at h
  obtain ⟨⟨⟨⟨h1, h2⟩, h3⟩, h5⟩, h4⟩ := h
  refine ⟨h1, h2, h3, fun y hy => ⟨(h4 y hy).1.1, fun e => (h4 y hy).1.2.elim (fun z => absurd e z) id⟩, h5, fun y hy e => ?_⟩
  rcases (h4 y hy).2 with (z | z) | z
  · exact absurd e z
  · exact .inl z
  · exact .inr z
theorem LamS1.has {X : Cx} {scope : Scope} {xp : Str} (L : LamS1 X.env.scope scope xp) (ok : X.Ok) : ∀ y ∈ scope.names, y.2 = .free → ∃ c, X.env.cells.lookup y.1 = some c := fun y hy e => by
  rcases L.free y hy e with k | k
  · exact ok.has _ (.inl k)
  · exact ok.has _ (.inr k)
/-- the context of the lambda's body, entered at s from the frames outer; its parameter is the last slot -/
noncomputable def lamCx1 (X : Cx) (A : Around) (outer : List Env) (s : Shared) (H : Hp) (E : XK) (scope : Scope) (xp : Str) (f c' : Addr) : Cx := { lamCx X A outer s H E scope f c' with N := X.N ++ [xp] }
section
variable {X : Cx} {pins : List (Addr × Obj)} {σ : L2.St} {H HZ : Hp} {s s1 : Shared}
theorem lam_start1 {A : Around} {outer : List Env} {E : XK} {scope : Scope} {xp : Str} {f c' : Addr} {h₁ : Heap} {tk : Nat} {v : V} {u : Value} (I : Inv X pins σ H s) (L : LamS1 X.env.scope scope xp) (hxn : xp ∉ X.N) (rv : RelV v u) (e0 : Env0 X.prog X.w X.K X.mg X.base A outer s1 HZ) (hd : A.handled = none)
    (un : Un (frs X.stack) [] H HZ s.heap s1.heap) (hns : h₁.Ns s1.heap.objs.size fun y => ([(xp, u)] : List (Str × Value)).reverse.lookup y) (kp : ∀ b o, s1.heap.get? b = some o → h₁.get? b = some o) :
    Inv (lamCx1 X A outer s1 HZ E scope xp f c') [] (σ ++ [some v]) HZ { s1 with heap := h₁, toks := tk } := by
  have hfree := L.has I.ok
  have cm : ∀ {y c}, (cloFrom X.env.cells scope.names []).lookup y = some c → X.env.cells.lookup y = some c := fun {y c} e => by
    rcases cloFrom_mem (PySem.mem_of_lookup e) with hm | ⟨h1, h2⟩
    · cases hm
    · obtain ⟨c1, hc⟩ := hfree _ h1 rfl
      have hc : X.env.cells.lookup y = some c1 := hc
      have e2 : c = c1 := by
        rw [h2, hc] <;> rfl
      rw [e2]
      exact hc
  have look : ∀ {y}, scope.names.lookup y = some .free → ∃ c, (cloFrom X.env.cells scope.names []).lookup y = some c := fun {y} hl => by
    have hy : (y, NameKind.free) ∈ scope.names := PySem.mem_of_lookup hl
    exact mem_lookup (cloFrom_has (cells := X.env.cells) (acc := []) hy)
  have cellK : ∀ {c : Addr} {v : Option Value}, H c = none → s.heap.IsCell c v → h₁.IsCell c v := fun {c v} n ⟨o, ho, hd⟩ => by
    obtain ⟨sl, q⟩ := un.any ho n (by simp)
    exact ⟨_, kp _ _ q, hd⟩
  have noA : ∀ b : Addr, b ∉ (lamCx1 X A outer s1 HZ E scope xp f c').ex := fun b z => absurd (show b ∈ ([] : List Addr) from z) (by simp)
  refine ⟨⟨e0.mod, L.kind, rfl, rfl, Nat.le_refl _, fun y z c e1 e2 => I.ok.inj y z c (cm e1) (cm e2), fun y hy => ?_, fun y c z _ => ?_, fun _ => hd, Around.frames_deeper e0.frames, .inr ⟨rfl, rfl⟩, fun b z => absurd z (noA b), e0.bs, e0.bsz, fun b _ _ => noA b,
      fun b z => absurd z (noA b), e0.funs, e0.frf⟩,
    rfl, e0.bare, Un.kept kp, ⟨_, hns, fun i y v' e1 e2 e3 => ?_⟩, fun y c e => ?_, e0.hok.fresh (Nat.le_refl _), fun y c e => ?_, fun q hq => absurd (show q ∈ ([] : List (Addr × Obj)) ++ [] from hq) (by simp), e0.hok.kept kp, ?_⟩
  · have hy : scope.names.lookup y = some .cell ∨ scope.names.lookup y = some .free := hy
    rcases hy with hy | hy
    · exact absurd rfl (L.own _ (PySem.mem_of_lookup hy)).1
    · exact look hy
  · have z : false = true := z
    cases z
  · have e3 : Vis scope y := e3
    have e1 : (X.N ++ [xp])[i]? = some y := e1
    have hlen := I.len
    by_cases hi : i < X.N.length
    · have e1' : X.N[i]? = some y := by rw [List.getElem?_append_left hi] at e1; exact e1
      have e2' : σ[i]? = some (some v') := by rw [List.getElem?_append_left (by omega)] at e2; exact e2
      have hyN : y ∈ X.N := List.mem_of_getElem? e1'
      rcases e3 with k | k | k
      · exact absurd ((L.own _ (PySem.mem_of_lookup k)).2 rfl ▸ hyN) hxn
      · exact absurd rfl (L.own _ (PySem.mem_of_lookup k)).1
      · obtain ⟨m, hn, hl⟩ := I.loc
        have hvis : Vis X.env.scope y := (L.free _ (PySem.mem_of_lookup k) rfl).elim (fun k => .inr (.inl k)) (fun k => .inr (.inr k))
        obtain ⟨w', r, q⟩ := hl i y v' e1' e2' hvis
        obtain ⟨c2, h2⟩ := look k
        refine ⟨w', r, .inr ⟨.inr k, c2, h2, ?_⟩⟩
        have c1 := cm h2
        rcases q with ⟨k', _⟩ | ⟨_, c3, e', z⟩
        · have k' : X.env.scope.names.lookup y = some .local := k'
          rcases L.free _ (PySem.mem_of_lookup k) rfl with k2 | k2 <;> rw [show X.env.scope.names.lookup y = _ from k2] at k' <;> cases k'
        · rw [c1] at e'
          cases e'
          exact cellK (I.freeC y _ c1) z
    · have ei : i = X.N.length := by
        have := (List.getElem?_eq_some_iff.mp e1).1
        rw [List.length_append] at this
        have h1 : i < X.N.length + 1 := this
        omega
      subst ei
      have ey : xp = y := by
        rw [List.getElem?_append_right (Nat.le_refl _), Nat.sub_self] at e1
        exact Option.some.inj e1
      have ev : v = v' := by
        rw [List.getElem?_append_right (by omega), hlen, Nat.sub_self] at e2
        exact Option.some.inj (Option.some.inj e2)
      subst ey ev
      refine ⟨u, rv, .inl ⟨L.par, ?_⟩⟩
      show ([(xp, u)] : List (Str × Value)).reverse.lookup xp = some u
      simp [List.lookup]
  · obtain ⟨w', z⟩ := I.cell y c (cm e)
    exact ⟨w', cellK (I.freeC y c (cm e)) z⟩
  · obtain ⟨v, o, ho, hd⟩ := I.cell y c (cm e)
    exact un.free c o ho (I.freeC y c (cm e)) (by simp)
  · show (σ ++ [some v]).length = (X.N ++ [xp]).length
    rw [List.length_append, List.length_append, I.len]; rfl
/-- x(e), in the def that got the lambda, entered at s -/
theorem pe_act1 {Ng : List Str} {qg : Str} {sg : Scope} {g f c' : Addr} {cdg pm ctv : Value} {params : Arguments} {body : Expr} {scope : Scope} {xp : Str} {k i : Nat} {a : Str} {tb te : TE} {p1 p2 : Pos} {e : Expr}
    (I : Inv X pins σ H s) (L : LamS1 X.env.scope scope xp) (hxn : xp ∉ X.N) (hf : s.heap.get? f = some (PySem.W.kla_obj "<lambda>" (X.env.qual ++ "<lambda>") params body scope (cloFrom X.env.cells scope.names []) pm c' ctv)) (hfn : H f = none) (hfr : f ∉ frs X.stack)
    (hbind : ∀ u, bindArgs (PySem.W.kla_fn "<lambda>" (X.env.qual ++ "<lambda>") params body scope (cloFrom X.env.cells scope.names []) pm (.ref c') ctv) ⟨[u], []⟩ = pure [(xp, u)])
    (hr : Room (k + 1) (X.A.deeper (envOfC qg sg s.heap.objs.size g cdg)))
    (hbody : ∀ (A : Around) (outer : List Env) (s : Shared) (H : Hp), Room k (A.deeper (lamEnv X scope s.heap.objs.size f c')) → PE (lamCx1 X A outer s H C8.E0 scope xp f c') body tb)
    (hN : Ng[i]? = some a) (hv : Vis sg a) (he : PE (cxOf C8.CX0 X.prog X.w X.K X.mg X.base Ng qg sg g cdg X.A X.stack s H C8.E0).nox e te)
    (hd : (a == ("__debug__" : Str)) = false := by decide) (hcd : (a == ("__classdict__" : Str)) = false := by decide)
    (hst : starEach [e] (envOfC qg sg s.heap.objs.size g cdg) = [(false, eval e (envOfC qg sg s.heap.objs.size g cdg))] := by rfl) :
    PE (cxOf C8.CX0 X.prog X.w X.K X.mg X.base Ng qg sg g cdg X.A X.stack s H C8.E0).nox (.Call (.Name a p1) [e] [] p2)
      (fun σZ HZ Q => σZ[i]? = some (some (.ref f)) ∧ te σZ HZ fun v H2 => H2 c' = some (CodeO c' (X.env.qual ++ "<lambda>")) ∧ tb (σ ++ [some v]) H2 Q) := by
  refine ⟨fun pinsZ sZ σZ HZ Q IZ h => ?_⟩
  obtain ⟨hs, ht⟩ := h
  refine wpAny_Call_Name_kw (thn ((pe_var (pos := p1) (i := i) hN hv hd hcd).run pinsZ sZ σZ HZ (fun v H1 => v = .ref f ∧ H1 = HZ) IZ ⟨.ref f, hs, rfl, rfl⟩) fun u s1 ⟨v, H1, I1, r1, q1⟩ => ?_)
  obtain ⟨ev, eH⟩ := q1
  subst ev
  rw [eH] at I1
  obtain rfl : u = Value.ref f := r1
  have there : ∀ {H2 : Hp} {s2 : Shared}, Inv (cxOf C8.CX0 X.prog X.w X.K X.mg X.base Ng qg sg g cdg X.A X.stack s H C8.E0).nox pinsZ σZ H2 s2 → s2.heap.get? f = some (PySem.W.kla_obj "<lambda>" (X.env.qual ++ "<lambda>") params body scope (cloFrom X.env.cells scope.names []) pm c' ctv) := fun I2 => I2.base.keep f _ hf hfn hfr (fun z => nomatch (show f ∈ ([] : List Addr) from z))
  have ht' : tCons te tNil σZ HZ (fun vs H2 => match vs with | [v] => H2 c' = some (CodeO c' (X.env.qual ++ "<lambda>")) ∧ tb (σ ++ [some v]) H2 Q | _ => False) := ht
  refine PySem.W.callWith_F (e := e) (rest := []) ⟨_, _, _, _, there I1⟩ (thn ((pa_cons he pa_nil (hs := hst)).run p2 pinsZ s1 σZ HZ _ I1 ht') fun us s2 ⟨vs, H2, I2, r2, q2⟩ => ⟨⟨_, _, _, _, there I2⟩, ?_⟩) hst (by rfl)
  cases r2 with
  | nil => exact False.elim q2
  | cons rv rn =>
  cases rn with
  | cons _ _ => exact False.elim q2
  | nil =>
    rename_i v u2 hAP
    obtain ⟨hc, ht2⟩ := q2
    have of1 := there I2
    have un : Un (frs X.stack) [] H H2 s.heap s2.heap := I2.base
    obtain ⟨⟨oc, vs', t, hoc, hdc, hvc⟩, _, _⟩ := I2.hok c' _ hc
    have rc : codeAny (model X.prog X.w) (X.A.deeper (envOfC qg sg s.heap.objs.size g cdg)) (.call (.ref f) ⟨[u2], []⟩) (CR (L2.CX X.prog X.w) (envOfC qg sg s.heap.objs.size g cdg :: X.stack) X.prog X.w H2 s2 Q C8.E0) s2 := by
      refine PySem.W.kla_callFunE hr.depth of1 rfl L.co L.gen rfl ⟨c', oc, vs', t, rfl, hoc, hdc, hvc⟩ ?_
      rw [hbind]
      refine wpAny_pure (wpAny_newFunctionEnv (fun y hy => (L.own y hy).1) (fun y hy => ?_) (fun h₁ hns hsb => ⟨I2.nolimit.fresh _ hsb, ?_⟩) L.kind)
      · rw [List.mem_singleton.mp hy]; exact L.par
      show codeAny _ _ (.expr body (lamEnv X scope s2.heap.objs.size f c')) _ _
      have kp : ∀ b o, s2.heap.get? b = some o → h₁.get? b = some o := fun b o e => hsb.extBut b o (Nat.ne_of_lt (Heap.lt_size e)) (Heap.get?_push_of_some _ e)
      have J : L2.Inv (lamCx1 X (X.A.deeper (envOfC qg sg s.heap.objs.size g cdg)) (envOfC qg sg s.heap.objs.size g cdg :: X.stack) s2 H2 C8.E0 scope xp f c') [] (σ ++ [some v]) H2 { s2 with heap := h₁, toks := s2.toks + ([(xp, u2)] : List (Str × Value)).length } :=
        lam_start1 I L hxn rv I2.env0 hr.hd un hns kp
      refine PySem.W.kla_codeExpr (wpAny_mono ((hbody _ _ s2 H2 (hr.deeper _)).run [] _ _ H2 Q J ht2) (fun v s' hq => ?_) fun e s' hq => hq)
      obtain ⟨w', H', J', rv, q⟩ := hq
      exact ⟨w', H', J'.os, J'.bare, J'.base, J'.hok, rv, q⟩
    refine wpAny_call (codeAny_mono rc fun r s' hq => ?_)
    cases r with
    | error e =>
      obtain ⟨_, _, _, _, _, _, _, _, _, _, _, _, z⟩ := hq
      exact z.elim
    | ok fl =>
      cases fl with
      | ret u => exact I2.after hq
      | next => exact False.elim hq
      | brk => exact False.elim hq
      | cont => exact False.elim hq
end
/-- the method that calls what it got as its last argument: TT, what it makes of the lambda's reading -/
noncomputable def GivesM (kk : Nat) (X : Cx) (Ng : List Str) (qg : Str) (sg : Scope) (g : Addr) (cdg : Value) (bg : List Stmt) (i : Nat) (a : Str) (q : Str) (TT : V → V → (V → Hp → VK → Prop) → Hp → VK → Prop) : Prop :=
  ∀ (f c' : Addr) (s : Shared) (H : Hp) (Q : VK) (x y : V) (tl : V → Hp → VK → Prop), Room kk (X.A.deeper (envOfC qg sg s.heap.objs.size g cdg)) →
    (∀ (e : Expr) (te : TE) (p1 p2 : Pos), PE (cxOf C8.CX0 X.prog X.w X.K X.mg X.base Ng qg sg g cdg X.A X.stack s H C8.E0).nox e te → starEach [e] (envOfC qg sg s.heap.objs.size g cdg) = [(false, eval e (envOfC qg sg s.heap.objs.size g cdg))] →
      PE (cxOf C8.CX0 X.prog X.w X.K X.mg X.base Ng qg sg g cdg X.A X.stack s H C8.E0).nox (.Call (.Name a p1) [e] [] p2) (fun σZ HZ Q => σZ[i]? = some (some (.ref f)) ∧ te σZ HZ fun v H2 => H2 c' = some (CodeO c' q) ∧ tl v H2 Q)) →
    H c' = some (CodeO c' q) → TT x y tl H Q →
    ∃ t, PSs (cxOf C8.CX0 X.prog X.w X.K X.mg X.base Ng qg sg g cdg X.A X.stack s H C8.E0).nox bg t ∧ t { nx := fun _ H' => Q .non H', rt := Q } (L2.start Ng [x, y, .ref f]) H
noncomputable def tMethLam (T : List (Addr × Str)) (C : Addr) (m : Str) (TT : V → V → (V → Hp → VK → Prop) → Hp → VK → Prop) (ta te tb : TE) : TE := fun σ H Q => ta σ H fun x H1 => ∃ a dx fs, x = .ref a ∧ H1 a = some (.ins C dx fs) ∧ fs.lookup m = none ∧
  te σ H1 fun y H2 => Tabs T H2 ∧ ∀ H3, ExtN H2 H3 → Tabs T H3 → TT x y (fun v H' Q' => tb (σ ++ [some v]) H' Q') H3 Q
section
variable {X : Cx}
/-- o.m(e, lambda xp: body) -/
theorem pe_methlam {T : List (Addr × Str)} {TT : V → V → (V → Hp → VK → Prop) → Hp → VK → Prop} {C g c P : Addr} {m xp a1 a2 a : Str} {k : Nat} {qg : Str} {pg : Arguments} {bg : List Stmt} {sg : Scope} {dV kV doc pm cdv ct oc : Value} {an od : Option Addr} {osl : Array (Option Value)} {Ng : List Str}
    {o e : Expr} {params : Arguments} {body : Expr} {scope : Scope} {ta te tb : TE} {apos lpos pos : Pos} {pl : Sem Bool} (ho : PE X o ta) (cC : Cls X.K C) (hm : Meth X.K C m g) (he : PE X e te)
    (lk : X.K.lookup g = some ⟨oc, od, .func (PySem.W.fnOf m qg pg bg sg dV kV doc pm an cdv ct), osl⟩) (hcg : PySem.W.codeIn X.K cdv qg = true) (hb : L2.Binds X.K (PySem.W.fnOf m qg pg bg sg dV kV doc pm an cdv ct) [a1, a2, a] []) (Sg : FnScope Ng [a1, a2, a] sg) (hNg : Ng[2]? = some a) (hva : Vis sg a)
    (hG : GivesM (k + 1) X Ng qg sg g cdv bg 2 a (X.env.qual ++ "<lambda>") TT)
    (TB : TabB X.base X.mg c P) (hcode : X.env.code = .ref c) (hmT : (P, X.env.qual ++ "<lambda>") ∈ T) (hu : ∀ p ∈ T, p.1 = P → p.2 = X.env.qual ++ "<lambda>") (hr : Room (k + 2) X.A) (L : LamS1 X.env.scope scope xp) (hxn : xp ∉ X.N) (hdef : defaultsOf params X.env = ([], []))
    (hbind : ∀ (q : Str) (cl : List (Str × Addr)) (pm cv ctv u : Value), bindArgs (PySem.W.kla_fn "<lambda>" q params body scope cl pm cv ctv) ⟨[u], []⟩ = pure [(xp, u)])
    (hbody : ∀ (A : Around) (outer : List Env) (s : Shared) (H : Hp) (f c' : Addr), Room k (A.deeper (lamEnv X scope s.heap.objs.size f c')) → PE (lamCx1 X A outer s H C8.E0 scope xp f c') body tb)
    (hd : (a == ("__debug__" : Str)) = false := by decide) (hcd : (a == ("__classdict__" : Str)) = false := by decide)
    (hst : starEach [e, .Lambda params body scope lpos] X.env = (false, eval e X.env) :: starEach [.Lambda params body scope lpos] X.env := by rfl) (hpl : (backTo pos (starEach [.Lambda params body scope lpos] X.env)).any (·.1) = false := by rfl)
    (ht : eval (.Call (.Attribute o m apos) [e, .Lambda params body scope lpos] [] pos) X.env = (do
      let ov ← eval o X.env
      standAt apos.atName
      let (f, first) ← holding [ov] (getMethod ov m pl)
      callWith pos f first (backTo pos (starEach [e, .Lambda params body scope lpos] X.env)) (backToKw pos (keywordEach [] X.env))) := by rfl) :
    PE X (.Call (.Attribute o m apos) [e, .Lambda params body scope lpos] [] pos) (tMethLam T C m TT ta te tb) := by
  refine ⟨fun pins s σ H Q I h => ?_⟩
  refine PySem.W.methodCall_KW (pl := pl) (thn (ho.run pins s σ H _ I h) fun u s1 ⟨x, H1, I1, rx, a0, dx, fs, ex, ea, l, q⟩ => ?_) ht
  subst ex
  obtain rfl : u = Value.ref a0 := rx
  refine getmeth_ok I1 ea cC hm l ?_
  refine PySem.W.callWith_K (first := [.ref a0]) (h₀ := X.base) I.ok.mod.kin hm.kp ?_ hst hpl
  rw [hst]
  refine Calls.spliced_cons (thn (he.run pins s1 σ H1 _ I1 q) fun u2 s2 ⟨y, H2, I2, ry, hT, q2⟩ => ?_)
  show wpAny _ _ (spliced ((false, eval (.Lambda params body scope lpos) X.env) :: backTo pos (starEach [] X.env))) _ _ s2
  refine Calls.spliced_cons (lam_make2 I2 TB hcode hmT hu hT hdef (L.has I.ok) fun f c' pm' ctv H3 s' I3 eN T1 hf hfn hfr hco => ?_)
  refine Calls.spliced_nil ⟨I3.kIn, ?_⟩
  have rc : codeAny (model X.prog X.w) X.A (.call (.ref g) ⟨[.ref a0, u2, .ref f], []⟩) (CR C8.CX0 X.stack X.prog X.w H3 s' Q C8.E0) s' := by
    refine run_ofS (N := Ng) (ps := [a1, a2, a]) (us := [.ref a0, u2, .ref f]) (vs := [.ref a0, y, .ref f]) lk hcg Sg hr I3.env0 (hb s' [.ref a0, u2, .ref f] I3.kIn rfl) (.cons rfl (.cons ry (.cons rfl .nil))) rfl fun hr' => ?_
    obtain ⟨t', ht', hq'⟩ := hG f c' s' H3 Q (.ref a0) y (fun v H' Q' => tb (σ ++ [some v]) H' Q') hr' (fun e te p1 p2 he' hst' => pe_act1 (i := 2) I3 L hxn hf hfn hfr (fun u => hbind _ _ _ _ _ u) hr' (fun A outer s H hr2 => hbody A outer s H f c' hr2) hNg hva he' hd hcd hst') hco (q2 H3 eN T1)
    exact ⟨t', ht'.nox, hq'⟩
  refine wpAny_call (codeAny_mono rc fun r s2 hq => ?_)
  cases r with
  | error e => exact (show False from hq).elim
  | ok fl =>
    cases fl with
    | ret u => exact I3.after hq
    | next => exact False.elim hq
    | brk => exact False.elim hq
    | cont => exact False.elim hq
end
end LamY
set_option Elab.async false
set_option linter.all false
set_option maxRecDepth 100000
set_option maxHeartbeats 2000000
namespace K1
open PySem PySem.Spec PyProof.Rows L2 RZ
/-- what is never reached -/
theorem pss_any {X : Cx} {b : List Stmt} : PSs X b (fun _ _ _ => False) := ⟨fun _ _ _ _ _ _ h => h.elim⟩
structure Bk (mg : Str → Option Value) : Prop extends Bj mg where
  set : mg "set" = none
  dict : mg "dict" = none
structure Cs (mg : Str → Option Value) : Prop where
  MOST_SIGNS : ∃ t, mg "MOST_SIGNS" = some (.int 6 t)
  LONGEST_SIGN : ∃ t, mg "LONGEST_SIGN" = some (.int 8 t)
noncomputable abbrev sIsInt : Stmt := st_is_integer
noncomputable abbrev sIsNum : Stmt := st_is_number
noncomputable abbrev sIsBody : Stmt := st_is_body
noncomputable abbrev sIsSign : Stmt := st_is_sign
noncomputable abbrev sIsSigns : Stmt := st_is_signs
noncomputable abbrev sIsNums : Stmt := st_is_numbers
noncomputable abbrev nV : List Str := ["value"]
noncomputable abbrev pV : List Str := ["value"]
theorem scIsInt : FnScope nV pV (defScope sIsInt) := ⟨rfl, rfl, rfl, by decide +kernel, rfl, by decide +kernel, by decide +kernel⟩
theorem scIsNum : FnScope nV pV (defScope sIsNum) := ⟨rfl, rfl, rfl, by decide +kernel, rfl, by decide +kernel, by decide +kernel⟩
theorem scIsBody : FnScope nV pV (defScope sIsBody) := ⟨rfl, rfl, rfl, by decide +kernel, rfl, by decide +kernel, by decide +kernel⟩
noncomputable abbrev nIsSign : List Str := ["value", "letter"]
theorem scIsSign : FnScope nIsSign pV (defScope sIsSign) := ⟨rfl, rfl, rfl, by decide +kernel, rfl, by decide +kernel, by decide +kernel⟩
noncomputable abbrev nIsSigns : List Str := ["value", "ahead", "sign"]
theorem scIsSigns : FnScope nIsSigns pV (defScope sIsSigns) := ⟨rfl, rfl, rfl, by decide +kernel, rfl, by decide +kernel, by decide +kernel⟩
noncomputable abbrev nIsNums : List Str := ["value", "number"]
theorem scIsNums : FnScope nIsNums pV (defScope sIsNums) := ⟨rfl, rfl, rfl, by decide +kernel, rfl, by decide +kernel, by decide +kernel⟩
/-! ### signs -/
noncomputable def inAZ (c : Nat) : Bool := (!decide ([c] < ("a" : Str).cps.toList)) && !decide (("z" : Str).cps.toList < [c])
noncomputable def okS (s : Str) : Bool := decide (1 ≤ s.length) && decide (s.length ≤ 8) && s.cps.toList.all inAZ
noncomputable def goSs : Str → List Str → Bool
  | _, [] => true
  | a, s :: r => okS s && decide (a.cps.toList < s.cps.toList) && goSs s r
noncomputable def okSs (ss : List Str) : Bool := decide (ss.length ≤ 6) && goSs "" ss
noncomputable def spInt : Sp := fun vs H Q _ => ∃ n : Int, vs = [.int n] ∧ Q (.bl true) H
noncomputable def spNum : Sp := fun vs H Q _ => ∃ n : Int, vs = [.int n] ∧ 1 ≤ n ∧ Q (.bl true) H
noncomputable def spBody : Sp := fun vs H Q _ => ∃ n : Int, vs = [.int n] ∧ 0 ≤ n ∧ Q (.bl true) H
noncomputable def spSign : Sp := fun vs H Q _ => ∃ s : Str, vs = [.str s] ∧ okS s = true ∧ ∀ H', Same H H' → Q (.bl true) H'
noncomputable def spSigns : Sp := fun vs H Q _ => ∃ (a : Addr) (ss : List Str), vs = [.ref a] ∧ H a = some (.tup (ss.map V.str)) ∧ okSs ss = true ∧ ∀ H', Same H H' → Q (.bl true) H'
noncomputable def spNums : Sp := fun vs H Q _ => ∃ (a : Addr) (ns : List Int), vs = [.ref a] ∧ SeqH H a (ns.map V.int) ∧ (∀ n ∈ ns, 1 ≤ n) ∧ ns.length ≤ 1000 ∧ ∀ H', Same H H' → Q (.bl true) H'
section
variable {P : Program} {w : World} {K : PySem.W.Frag} {mg : Str → Option Value} {base : Heap}
theorem ok_isInt {f : Addr} {fd : FuncData} (T : Bk mg) (F : Fun K "is_integer" "is_integer" sIsInt f fd) : FnOk P w K mg base CX0 1 f fd pV spInt := by
  refine F.ok scIsInt (fun vs H Q E h => ?_) (fun cdv A outer s H vs Q E hr h => ?_)
  · obtain ⟨n, rfl, _⟩ := h
    rfl
  · obtain ⟨n, rfl, q⟩ := h
    refine ⟨_, (pss_one (ps_ret (pe_and (pe_callB (call_isiK1 (K := K) rfl) (by rfl) T.isinstance PyProof.Rows.boot_isinstance (pa_cons (pv 0) (pa_cons (pe_bltn (v := .ty "int") rfl T.int PyProof.Rows.boot_int rfl) pa_nil))) (pe_one (pe_not (pe_callB (call_isiK1 (K := K) rfl) (by rfl) T.isinstance PyProof.Rows.boot_isinstance (pa_cons (pv 0) (pa_cons (pe_bltn (v := .ty "bool") rfl T.bool PyProof.Rows.boot_bool rfl) pa_nil)))))))), ?_⟩
    exact ⟨_, rfl, .int n, .ty "int", .type "int", .type "int", true, rfl, .ty _, .base (.int n), kit_ty (by decide +kernel), _, rfl, itbT rfl ⟨_, rfl, .int n, .ty "bool", .type "int", .type "bool", false, rfl, .ty _, .base (.int n), kit_ty (by decide +kernel), _, rfl, q⟩⟩
theorem ok_isNum {f : Addr} {fd : FuncData} (D_is_integer : Def P w K mg base CX0 1 "is_integer" pV spInt) (F : Fun K "is_number" "is_number" sIsNum f fd) : FnOk P w K mg base CX0 2 f fd pV spNum := by
  refine F.ok scIsNum (fun vs H Q E h => ?_) (fun cdv A outer s H vs Q E hr h => ?_)
  · obtain ⟨n, rfl, _⟩ := h
    rfl
  · obtain ⟨n, rfl, h1, q⟩ := h
    refine ⟨_, (pss_one (ps_ret (pe_and (pe_def D_is_integer (hr.mono (by decide)) rfl pass0 (pa_cons (pv 0) pa_nil)) (pe_one (pe_cmpR op_ge (pv 0) pe_int (nomark _)))))), ?_⟩
    refine ⟨_, rfl, n, rfl, _, rfl, itbT rfl ⟨_, rfl, _, _, rfl, rfl, ?_⟩⟩
    show Q (.bl (decide (1 ≤ n))) H
    rw [decide_eq_true h1]; exact q
theorem ok_isBody {f : Addr} {fd : FuncData} (D_is_integer : Def P w K mg base CX0 1 "is_integer" pV spInt) (F : Fun K "is_body" "is_body" sIsBody f fd) : FnOk P w K mg base CX0 2 f fd pV spBody := by
  refine F.ok scIsBody (fun vs H Q E h => ?_) (fun cdv A outer s H vs Q E hr h => ?_)
  · obtain ⟨n, rfl, _⟩ := h
    rfl
  · obtain ⟨n, rfl, h1, q⟩ := h
    refine ⟨_, (pss_one (ps_ret (pe_and (pe_def D_is_integer (hr.mono (by decide)) rfl pass0 (pa_cons (pv 0) pa_nil)) (pe_one (pe_cmpR op_ge (pv 0) pe_int (nomark _)))))), ?_⟩
    refine ⟨_, rfl, n, rfl, _, rfl, itbT rfl ⟨_, rfl, _, _, rfl, rfl, ?_⟩⟩
    show Q (.bl (decide (0 ≤ n))) H
    rw [decide_eq_true h1]; exact q
theorem ok_isSign {f : Addr} {fd : FuncData} (T : Bk mg) (C : Cs mg) (F : Fun K "is_sign" "is_sign" sIsSign f fd) : FnOk P w K mg base CX0 1 f fd pV spSign := by
  have nd := scIsSign.nd
  refine F.ok scIsSign (fun vs H Q E h => ?_) (fun cdv A outer s H vs Q E hr h => ?_)
  · obtain ⟨z, rfl, _⟩ := h
    rfl
  · obtain ⟨z, rfl, hz, q⟩ := h
    refine ⟨_, (pss_cons (ps_if (PW.pt (pw_or (pt_not (pt_val (pe_callB (call_isiK1 (K := K) rfl) (by rfl) T.isinstance PyProof.Rows.boot_isinstance (pa_cons (pv 0) (pa_cons (pe_bltn (v := .ty "str") rfl T.str PyProof.Rows.boot_str rfl) pa_nil))))) (pw_or1 (pt_not (pt_chain op_le op_le pe_int (pe_callB call_len_str (by rfl) T.len PySem.boot_len (pa_cons (pv 0) pa_nil)) (pe_const C.LONGEST_SIGN rfl))))))
  (pss_one (ps_ret pe_bl))
  pss_nil)
 (pss_one (ps_ret (pe_callB (cr_allK (K := K) rfl rfl) (by rfl) T.all PyProof.Rows.boot_all (pa_cons (pe_lc (own := [("letter", 1)]) (g := gName 1) (tt := tYes) rfl nd (pi_str (pv 0)) (blkOk_by (own := [("letter", 1)]) (N := nIsSign) (sc := defScope sIsSign) (by decide +kernel)) (fun _ _ _ _ _ => pg_name (i := 1) nd rfl (Or.inl rfl)) (fun _ _ _ _ _ => pts_nil) (fun _ _ _ _ _ => (pe_chain op_le_str op_le_str pe_str (pv 1) pe_str))) pa_nil))))), ?_⟩
    unfold okS at hz
    rw [Bool.and_eq_true, Bool.and_eq_true] at hz
    obtain ⟨⟨z1, z2⟩, z3⟩ := hz
    have z1 := of_decide_eq_true z1
    have z2 := of_decide_eq_true z2
    refine ⟨_, rfl, .str z, .ty "str", .type "str", .type "str", true, rfl, .ty _, .base (.str z), kit_ty (by decide +kernel), _, rfl, itbF rfl ?_⟩
    refine ⟨_, rfl, z, rfl, lt1 _ (by omega), _, _, rfl, rfl, _, rfl, itbT (decide_eq_true (show (1 : Int) ≤ z.length by omega)) ⟨_, _, rfl, rfl, _, rfl, itbF (by rw [decide_eq_true (show (z.length : Int) ≤ 8 by omega)]; rfl) ?_⟩⟩
    refine ⟨_, rfl, z, rfl, fun D hD => ?_⟩
    refine lc_it walk_str (fun i H2 => Same H H2 ∧ H2 D = some (.lst ((List.replicate i true).map V.bl))) ⟨same_new hD, upd_same⟩ (fun _ _ _ _ => True.intro) ?_ ?_
    · rintro i x H2 H3 hi ⟨s2, h2⟩ ⟨rfl, c, hc, rfl⟩
      have hcm : c ∈ z.cps.toList := Array.mem_toList_iff.mpr (Array.mem_of_getElem? hc)
      have haz := List.all_eq_true.mp z3 c hcm
      unfold inAZ at haz
      rw [Bool.and_eq_true] at haz
      have hi8 : i < z.length := hi
      have fin : ∃ acc, H3 D = some (.lst acc) ∧ acc.length < sizeLine ∧ (Same H (upd H3 D (.lst (acc ++ [V.bl true]))) ∧ (upd H3 D (.lst (acc ++ [V.bl true]))) D = some (.lst ((List.replicate (i + 1) true).map V.bl))) :=
        ⟨_, h2, lt2 _ (by rw [List.length_map, List.length_replicate]; omega), s2.mut hD, by rw [upd_same, List.replicate_succ', List.map_append]; rfl⟩
      refine ⟨rfl, tyes ⟨_, rfl, _, _, rfl, rfl, _, rfl, ?_⟩⟩
      refine itbT haz.1 ⟨_, _, rfl, rfl, ?_⟩
      rw [haz.2]
      exact fin
    · rintro H2 ⟨s2, h2⟩
      exact ⟨D, _, rfl, sq h2, by show Q (.bl ((List.replicate z.cps.size true).all id)) H2; rw [show (List.replicate z.cps.size true).all id = true by simp]; exact q _ s2⟩
theorem ok_isSigns {f : Addr} {fd : FuncData} (T : Bk mg) (C : Cs mg) (D_is_sign : Def P w K mg base CX0 1 "is_sign" pV spSign) (F : Fun K "is_signs" "is_signs" sIsSigns f fd) : FnOk P w K mg base CX0 2 f fd pV spSigns := by
  have nd := scIsSigns.nd
  refine F.ok scIsSigns (fun vs H Q E h => ?_) (fun cdv A outer s H vs Q E hr h => ?_)
  · obtain ⟨a, ss, rfl, _⟩ := h
    rfl
  · obtain ⟨a, ss, rfl, ha, ho, q⟩ := h
    refine ⟨_, (pss_cons (ps_if (PW.pt (pw_or (pt_not (pt_val (pe_callB (call_isiK1 (K := K) rfl) (by rfl) T.isinstance PyProof.Rows.boot_isinstance (pa_cons (pv 0) (pa_cons (pe_bltn (v := .ty "tuple") rfl T.tuple PyProof.Rows.boot_tuple rfl) pa_nil))))) (pw_or1 (pt_cmpR op_gt (pe_callB (call_lenK (K := K) rfl) (by rfl) T.len PySem.boot_len (pa_cons (pv 0) pa_nil)) (pe_const C.MOST_SIGNS rfl) (nomark _)))))
  (pss_one (ps_ret pe_bl))
  pss_nil)
 (pss_cons (ps_set (i := 1) nd rfl (Or.inl rfl) pe_str)
 (pss_cons (ps_for PassesOwn.never rfl (pi_tupK (K := K) rfl (pv 0)) (pg_name (i := 2) nd rfl (Or.inl rfl))
  (pss_cons (ps_if (PW.pt (pw_or (pt_not (pt_val (pe_def D_is_sign (hr.mono (by decide)) rfl pass0 (pa_cons (pv 2) pa_nil)))) (pw_or1 (pt_cmpR op_le_str (pv 2) (pv 1) (nomark _)))))
  (pss_one (ps_ret pe_bl))
  pss_nil)
 (pss_one (ps_set (i := 1) nd rfl (Or.inl rfl) (pv 2)))))
 (pss_one (ps_ret pe_bl))))), ?_⟩
    unfold okSs at ho
    rw [Bool.and_eq_true] at ho
    have h6 := of_decide_eq_true ho.1
    refine ⟨_, rfl, .ref a, .ty "tuple", .type "tuple", .type "tuple", true, rfl, .ty _, .base (.tup ha), kit_ty (by decide +kernel), _, rfl, itbF rfl ?_⟩
    refine ⟨_, rfl, a, _, rfl, .inr (st ha), _, _, rfl, rfl, _, rfl, itbF (decide_eq_false (by rw [List.length_map]; omega)) ?_⟩
    refine ⟨_, rfl, a, rfl, ⟨_, st ha⟩, for_tup (K := K) (a := a) (xs := ss.map V.str) (fun i σ H1 => ∃ ah v2, σ = [some (.ref a), some (.str ah), v2] ∧ Same H H1 ∧ goSs ah (ss.drop i) = true) ?_ ?_ ?_ ?_⟩
    · exact ⟨"", none, rfl, fun _ _ h => h, ho.2⟩
    · rintro i σ H1 _ ⟨ah, v2, rfl, s1, _⟩
      exact st (s1 _ _ ha)
    · rintro i y σ H1 hy ⟨ah, v2, rfl, s1, hg⟩
      rw [List.getElem?_map] at hy
      cases he : ss[i]? with
      | none => rw [he] at hy; cases hy
      | some z =>
        rw [he] at hy
        obtain rfl := (Option.some.inj hy).symm
        have hi := lt_of_get he
        have e1 : ss.drop i = z :: ss.drop (i + 1) := by
          rw [List.drop_eq_getElem_cons hi]
          congr 1
          rw [List.getElem?_eq_getElem hi] at he
          exact Option.some.inj he
        rw [e1] at hg
        have hg' : (okS z && decide (ah.cps.toList < z.cps.toList) && goSs z (ss.drop (i + 1))) = true := hg
        rw [Bool.and_eq_true, Bool.and_eq_true] at hg'
        refine ⟨_, rfl, z, rfl, hg'.1.1, fun H2 s2 => ⟨_, rfl, itbF rfl ⟨_, rfl, _, rfl, _, _, rfl, rfl, _, rfl, itbF ?_ ⟨_, rfl, z, _, rfl, s1.trans s2, hg'.2⟩⟩⟩⟩
        rw [hg'.1.2]; rfl
    · rintro σ H1 ⟨ah, v2, rfl, s1, _⟩
      exact q _ s1
theorem ok_isNums {f : Addr} {fd : FuncData} (T : Bk mg) (D_is_number : Def P w K mg base CX0 2 "is_number" pV spNum) (F : Fun K "is_numbers" "is_numbers" sIsNums f fd) : FnOk P w K mg base CX0 3 f fd pV spNums := by
  have nd := scIsNums.nd
  refine F.ok scIsNums (fun vs H Q E h => ?_) (fun cdv A outer s H vs Q E hr h => ?_)
  · obtain ⟨a, ns, rfl, _⟩ := h
    rfl
  · obtain ⟨a, ns, rfl, ha, h1, hl, q⟩ := h
    refine ⟨_, (pss_one (ps_ret (pe_and (pe_callB (call_isiTK (K := K) rfl) (by rfl) T.isinstance PyProof.Rows.boot_isinstance (pa_cons (pv 0) (pa_cons (pe_tup (pa_cons (pe_bltn (v := .ty "list") rfl T.list PyProof.Rows.boot_list rfl) (pa_cons (pe_bltn (v := .ty "tuple") rfl T.tuple PyProof.Rows.boot_tuple rfl) pa_nil))) pa_nil))) (pe_one (pe_callB (cr_allK (K := K) rfl rfl) (by rfl) T.all PyProof.Rows.boot_all (pa_cons (pe_lc (own := [("number", 1)]) (g := gName 1) (tt := tYes) rfl nd (pi_seqK (K := K) rfl (pv 0)) (blkOk_by (own := [("number", 1)]) (N := nIsNums) (sc := defScope sIsNums) (by decide +kernel)) (fun _ _ _ _ _ => pg_name (i := 1) nd rfl (Or.inl rfl)) (fun _ _ _ _ _ => pts_nil) (fun _ _ _ _ _ => (pe_def D_is_number (hr.mono (by decide)) rfl pass0 (pa_cons (pv 1) pa_nil)))) pa_nil)))))), ?_⟩
    refine ⟨_, rfl, (by show 2 ≤ sizeLine; decide), fun tp ntp => ?_⟩
    have s1 := same_new (o := .tup [.ty "list", .ty "tuple"]) ntp
    obtain ⟨tn, ty, kt⟩ : ∃ tn : String, TyX K (upd H tp (.tup [.ty "list", .ty "tuple"])) (.ref a) (.type tn) ∧ PySem.W.kitAny K (.type tn) [.type "list", .type "tuple"] = some true := by
      rcases ha.same s1 with h | h
      · exact ⟨"list", .base (.lst h), kit_seq (.list [])⟩
      · exact ⟨"tuple", .base (.tup h), kit_seq (.tuple [])⟩
    refine ⟨.ref a, tp, [.ty "list", .ty "tuple"], .type tn, [.type "list", .type "tuple"], true, rfl, upd_same, .cons (.ty _) (.cons (.ty _) .nil), ty, kt, _, rfl, itbT rfl ?_⟩
    refine ⟨_, rfl, a, rfl, seq_walk (ha.same s1) fun J Gd wk hG D hD => ?_⟩
    generalize upd H tp (.tup [.ty "list", .ty "tuple"]) = H1 at s1 hD hG
    refine lc_it wk (fun i H2 => Same H1 H2 ∧ H2 D = some (.lst ((List.replicate i true).map V.bl)) ∧ i ≤ ns.length) ⟨same_new hD, upd_same, Nat.zero_le _⟩ (fun i H2 _ h => hG _ h.1) ?_ ?_
    · rintro i y H2 H3 hi ⟨s2, h2, hi2⟩ ⟨rfl, hy⟩
      obtain ⟨n, hn, rfl⟩ := getD_map hy
      exact ⟨rfl, tyes ⟨_, rfl, n, rfl, h1 n (List.mem_of_getElem? hn), _, h2, lt2 _ (by rw [List.length_map, List.length_replicate]; omega), s2.mut hD, by rw [upd_same, List.replicate_succ', List.map_append]; rfl, lt_of_get hn⟩⟩
    · rintro H2 ⟨s2, h2, _⟩
      exact ⟨D, _, rfl, sq h2, by show Q (.bl ((List.replicate (ns.map V.int).length true).all id)) H2; rw [show (List.replicate (ns.map V.int).length true).all id = true by simp]; exact q _ (s1.trans s2)⟩
end
end K1
set_option Elab.async false
set_option linter.all false
set_option maxRecDepth 100000
set_option maxHeartbeats 2000000
namespace K1
open PySem PySem.Spec PyProof.Rows L2 RZ StX
theorem eqv_str (a b : Str) : PyData.eqv (.str a) (.str b) = (a == b) := by simp [PyData.eqv]
noncomputable def nS (ss : List Str) (s : Str) : List Str := ss.filter fun x => !decide (x = s)
/-! ### signs -/
noncomputable def ltS (a b : Str) : Prop := a.cps.toList < b.cps.toList
theorem ltS_trans {a b c : Str} (h : ltS a b) (k : ltS b c) : ltS a c := List.lt_trans (α := Nat) h k
theorem ltS_asymm {a b : Str} (h : ltS a b) : ¬ ltS b a := List.lt_asymm (α := Nat) h
theorem str_ext {a b : Str} (h : a.cps.toList = b.cps.toList) : a = b := by
  cases a with | mk x =>
  cases b with | mk y =>
  congr 1
  exact Array.toList_inj.mp h
theorem ltS_total {a b : Str} (h : ¬ ltS a b) (k : ¬ ltS b a) : a = b := str_ext (List.le_antisymm (List.not_lt.mp k) (List.not_lt.mp h))
theorem leS_trans {a b c : Str} (h : ¬ ltS b a) (k : ¬ ltS c b) : ¬ ltS c a := by
  unfold ltS at *
  rw [List.not_lt] at *
  exact List.le_trans h k
noncomputable instance (a b : Str) : Decidable (ltS a b) := inferInstanceAs (Decidable (a.cps.toList < b.cps.toList))
noncomputable def Asc (ss : List Str) : Prop := ss.Pairwise ltS
noncomputable def insS (s : Str) : List Str → List Str
  | [] => [s]
  | x :: r => if ltS s x then s :: x :: r else x :: insS s r
theorem insS_perm (s : Str) : ∀ ss : List Str, (insS s ss).Perm (s :: ss)
  | [] => .refl _
  | x :: r => by
    unfold insS
    split
    · exact .refl _
    · exact ((insS_perm s r).cons x).trans (.swap s x r)
theorem insS_asc {s : Str} : ∀ {ss : List Str}, Asc ss → s ∉ ss → Asc (insS s ss)
  | [], _, _ => List.pairwise_singleton _ _
  | x :: r, h, hn => by
    unfold insS
    have h' := List.pairwise_cons.mp h
    split
    · rename_i c
      refine List.pairwise_cons.mpr ⟨fun y hy => ?_, h⟩
      rcases List.mem_cons.mp hy with rfl | hy
      · exact c
      · exact ltS_trans c (h'.1 y hy)
    · rename_i c
      refine List.pairwise_cons.mpr ⟨fun y hy => ?_, insS_asc h'.2 fun z => hn (List.mem_cons_of_mem _ z)⟩
      rcases List.mem_cons.mp ((insS_perm s r).mem_iff.mp hy) with rfl | hy
      · by_cases k : ltS x y
        · exact k
        · exact absurd (ltS_total k c) fun e => hn (by rw [e]; exact List.mem_cons_self)
      · exact h'.1 y hy
theorem rising_pw : ∀ (r : List Str) (x : Str), risingS x r = true → (x :: r).Pairwise fun a b => ¬ ltS b a
  | [], x, _ => List.pairwise_singleton _ _
  | y :: r, x, h => by
    have h : (!ltCps y.cps.toList x.cps.toList && risingS y r) = true := h
    rw [ltCps_eq, Bool.and_eq_true, Bool.not_eq_true', decide_eq_false_iff_not] at h
    have ih := rising_pw r y h.2
    refine List.pairwise_cons.mpr ⟨fun z hz => ?_, ih⟩
    rcases List.mem_cons.mp hz with rfl | hz
    · exact h.1
    · exact leS_trans h.1 ((List.pairwise_cons.mp ih).1 z hz)
theorem sorted_pw {ys : List Str} (h : sortedS ys = true) : ys.Pairwise fun a b => ¬ ltS b a := by
  cases ys with
  | nil => exact .nil
  | cons x r => exact rising_pw r x h
/-- what sorted tells of signs and a new one -/
theorem sorted_ins {ss ys : List Str} {s : Str} (ha : Asc ss) (hn : s ∉ ss) (hp : ys.Perm (ss ++ [s])) (h : sortedS ys = true) : ys = insS s ss := by
  have p2 : ys.Perm (insS s ss) := (hp.trans List.perm_append_comm).trans (insS_perm s ss).symm
  refine List.Perm.eq_of_pairwise (le := fun a b => decide (¬ ltS b a)) (fun a b _ _ x y => ?_) ?_ ?_ p2
  · exact ltS_total (of_decide_eq_true y) (of_decide_eq_true x)
  · exact (sorted_pw h).imp fun k => decide_eq_true k
  · exact (insS_asc ha hn).imp fun k => decide_eq_true (ltS_asymm k)
/-! what okSs says -/
theorem goSs_mem : ∀ {a : Str} {ss : List Str}, goSs a ss = true → (∀ s ∈ ss, okS s = true ∧ ltS a s) ∧ Asc ss
  | a, [], _ => ⟨fun s hs => (by cases hs), List.Pairwise.nil⟩
  | a, s :: r, h => by
    have h : (okS s && decide (ltS a s) && goSs s r) = true := h
    rw [Bool.and_eq_true, Bool.and_eq_true] at h
    obtain ⟨h1, h2⟩ := goSs_mem h.2
    have lt := of_decide_eq_true h.1.2
    refine ⟨fun x hx => ?_, List.pairwise_cons.mpr ⟨fun x hx => (h1 x hx).2, h2⟩⟩
    rcases List.mem_cons.mp hx with rfl | hx
    · exact ⟨h.1.1, lt⟩
    · exact ⟨(h1 x hx).1, ltS_trans lt (h1 x hx).2⟩
theorem goSs_of : ∀ {a : Str} {ss : List Str}, (∀ s ∈ ss, okS s = true ∧ ltS a s) → Asc ss → goSs a ss = true
  | a, [], _, _ => rfl
  | a, s :: r, h, k => by
    have h0 := h s List.mem_cons_self
    have k' := List.pairwise_cons.mp k
    show (okS s && decide (ltS a s) && goSs s r) = true
    rw [h0.1, decide_eq_true h0.2, goSs_of (fun x hx => ⟨(h x (List.mem_cons_of_mem _ hx)).1, k'.1 x hx⟩) k'.2]
    rfl
theorem okS_pos {s : Str} (h : okS s = true) : ltS "" s := by
  unfold okS at h
  rw [Bool.and_eq_true, Bool.and_eq_true] at h
  have h1 := of_decide_eq_true h.1.1
  show ([] : List Nat) < s.cps.toList
  cases e : s.cps.toList with
  | nil =>
    exfalso
    have : s.length = 0 := by
      show s.cps.size = 0
      rw [← Array.length_toList, e]; rfl
    omega
  | cons c r => exact List.nil_lt_cons c r
structure OkSs (ss : List Str) : Prop where
  len : ss.length ≤ 6
  ok : ∀ s ∈ ss, okS s = true
  asc : Asc ss
theorem okSs_iff {ss : List Str} : okSs ss = true ↔ OkSs ss := by
  unfold okSs
  rw [Bool.and_eq_true]
  constructor
  · rintro ⟨h1, h2⟩
    obtain ⟨a, b⟩ := goSs_mem h2
    exact ⟨of_decide_eq_true h1, fun s hs => (a s hs).1, b⟩
  · rintro ⟨h1, h2, h3⟩
    exact ⟨decide_eq_true h1, goSs_of (fun s hs => ⟨h2 s hs, okS_pos (h2 s hs)⟩) h3⟩
noncomputable def wG (ss : List Str) (s : Str) : List Str := if s ∈ ss ∨ ss.length = 6 then ss else insS s ss
theorem wG_ok {ss : List Str} {s : Str} (h : OkSs ss) (hs : okS s = true) : OkSs (wG ss s) := by
  unfold wG
  split
  · exact h
  · rename_i c
    have c1 : s ∉ ss := fun z => c (.inl z)
    have c2 : ss.length ≠ 6 := fun z => c (.inr z)
    have p := insS_perm s ss
    refine ⟨by rw [p.length_eq]; have := h.len; simp only [List.length_cons]; omega, fun x hx => ?_, insS_asc h.asc c1⟩
    rcases List.mem_cons.mp (p.mem_iff.mp hx) with rfl | hx
    · exact hs
    · exact h.ok x hx
theorem nS_ok {ss : List Str} {s : Str} (h : OkSs ss) : OkSs (nS ss s) :=
  ⟨Nat.le_trans (List.length_filter_le _ _) h.len, fun x hx => h.ok x (List.mem_filter.mp hx).1, List.Pairwise.filter _ h.asc⟩
theorem strOk_of {s : Str} (h : okS s = true) : PyData.strOk s = true := by
  unfold okS at h
  rw [Bool.and_eq_true] at h
  show s.cps.all (fun c => decide (c < 1114112)) = true
  rw [← Array.all_toList, List.all_eq_true]
  intro c hc
  have := List.all_eq_true.mp h.2 c hc
  unfold inAZ at this
  rw [Bool.and_eq_true, Bool.not_eq_true', Bool.not_eq_true', decide_eq_false_iff_not, decide_eq_false_iff_not] at this
  refine decide_eq_true ?_
  have h2 : ¬ (122 < c) := fun z => this.2 (show ([122] : List Nat) < [c] from List.cons_lt_cons_iff.mpr (.inl z))
  omega
theorem g_lay : ∀ {ss : List Str}, (∀ s ∈ ss, okS s = true) → PyData.canLayAll0 (ss.map PyData.str) = true ∧ PyData.depthAll (ss.map PyData.str) = 0
  | [], _ => ⟨rfl, rfl⟩
  | s :: r, h => by
    obtain ⟨h1, h2⟩ := g_lay fun x hx => h x (List.mem_cons_of_mem _ hx)
    constructor
    · show (PyData.strOk s && PyData.canLayAll0 (r.map PyData.str)) = true
      rw [h1, strOk_of (h s List.mem_cons_self)]; rfl
    · show max 0 (PyData.depthAll (r.map PyData.str)) = 0
      rw [h2]; rfl
theorem g_shape {ss : List Str} (h : ∀ s ∈ ss, okS s = true) : SeqAt.shaped (.tuple (ss.map PyData.str)) = true := by
  obtain ⟨h1, h2⟩ := g_lay h
  unfold SeqAt.shaped
  have e1 : PyData.canLay0 (.tuple (ss.map PyData.str)) = true := h1
  have e2 : PyData.depth (.tuple (ss.map PyData.str)) ≤ 64 := by
    show PyData.depthAll (ss.map PyData.str) + 1 ≤ 64
    rw [h2]; omega
  rw [e1, decide_eq_true e2]; rfl
theorem g_eqv : ∀ xs ys : List Str, PyData.eqv (.tuple (xs.map PyData.str)) (.tuple (ys.map PyData.str)) = decide (xs = ys) := by
  have h : ∀ xs ys : List Str, PyData.eqvAll (xs.map PyData.str) (ys.map PyData.str) = decide (xs = ys) := by
    intro xs
    induction xs with
    | nil => intro ys; cases ys <;> simp [PyData.eqvAll]
    | cons x r ih =>
      intro ys
      cases ys with
      | nil => simp [PyData.eqvAll]
      | cons y t =>
        show (PyData.eqv (.str x) (.str y) && PyData.eqvAll (r.map PyData.str) (t.map PyData.str)) = decide (x :: r = y :: t)
        rw [ih, eqv_str]
        by_cases e : x = y
        · subst e; by_cases e2 : r = t <;> simp [e2]
        · rw [beq_eq_false_iff_ne.mpr e]; simp [e]
  intro xs ys
  exact h xs ys
end K1
set_option Elab.async false
set_option linter.all false
set_option maxRecDepth 100000
set_option maxHeartbeats 2000000
/-! Sets of ints made of a list or a tuple; x in a tuple of data; max with a default. -/
namespace K1
open PySem PySem.Spec PyProof.Rows L2 RZ StX
noncomputable abbrev sCkNums : Stmt := st__check_numbers
noncomputable abbrev nCkNums : List Str := ["numbers"]
theorem scCkNums : FnScope nCkNums nCkNums (defScope sCkNums) := ⟨rfl, rfl, rfl, by decide +kernel, rfl, by decide +kernel, by decide +kernel⟩
/-- a set of ints, however it was made -/
noncomputable def SetI (P : Program) (w : World) (a : Addr) (S : Int → Bool) (n : Nat) : HO := .ext fun h => h.SetOf (intKind P w) a S n
theorem setI_new {P : Program} {w : World} {H : Hp} {h : Heap} {a : Addr} {S : Int → Bool} {n : Nat} (R : h.SetOf (intKind P w) a S n) : ObjOk P w H h a (SetI P w a S n) := by
  have ⟨o, es, ep, t, ho, r⟩ := R
  refine ⟨R, ⟨o, ho⟩, fun h1 h2 p k => ?_⟩
  have ⟨o', es', ep', t', ho', r'⟩ := p
  exact ⟨o', es', ep', t', k o' ho', r'⟩
theorem setI_get {X : Cx} {pins : List (Addr × Obj)} {σ : L2.St} {H : Hp} {s : Shared} {a : Addr} {S : Int → Bool} {n : Nat} (I : Inv X pins σ H s) (ha : H a = some (SetI X.prog X.w a S n)) : s.heap.SetOf (intKind X.prog X.w) a S n := (I.hok a _ ha).1
theorem range_getD (ns : List Int) : (List.range ns.length).map (fun i => ns.getD i 0) = ns := by
  refine List.ext_getElem (by rw [List.length_map, List.length_range]) fun i h1 h2 => ?_
  rw [List.getElem_map, List.getElem_range, List.getD_eq_getElem?_getD, List.getElem?_eq_getElem h2]; rfl
noncomputable def rSetI (P : Program) (w : World) (neg : Bool) : R2 := fun x y H Q => ∃ k a S n, x = V.int k ∧ y = V.ref a ∧ H a = some (SetI P w a S n) ∧ Q (.bl (if neg then !S k else S k)) H
section
variable {X : Cx} {K : PySem.W.Frag} {P : Program} {w : World}
theorem or_sinI (hP : X.prog = P) (hw : X.w = w) : OpR X (compareOp .In) (rSetI P w false) := by
  subst hP hw
  intro pins s σ H x y v u Q I rx ry h
  obtain ⟨k, a, S, n, rfl, rfl, ha, q⟩ := h
  obtain rfl : u = Value.ref a := ry
  obtain ⟨t, rfl⟩ := rx
  exact wpAny_inSet_of (intKind_is _ _ _ _) rfl (setI_get I ha) ⟨.bl (S k), H, I.tok _, rfl, q⟩
theorem cr_setI (hP : X.prog = P) (hw : X.w = w) (hK : X.K = K) (hc : X.calm = true) : CallR X (.type "set") (fun xs H Q => ∃ (l : Addr) (ns : List Int), xs = [.ref l] ∧ SeqH H l (ns.map V.int) ∧ ns.length ≤ 1000 ∧ ∀ p n, H p = none → Q (.ref p) (upd H p (SetI P w p (fun j => decide (j ∈ ns)) n))) := by
  subst hP hw hK
  intro pins s σ H xs us Q I r h
  obtain ⟨l, ns, rfl, hq, hl, q⟩ := h
  cases r with
  | cons r rr =>
    cases rr
    cases r
    rcases hq with hq | hq
    · obtain ⟨its, rv, pt, hz⟩ := I.list (sq hq)
      have hi : IntsAre its.toArray.toList ns := ints_of_vals rv
      have hsz : its.toArray.size = ns.length := by
        have := IntsAre.length hi
        rw [Array.length_toList] at this
        exact this
      refine call_set_list (I.ok.hd hc) pt.isList hi (by unfold scanBound; omega) fun h' tk R1 k => ?_
      have R2 : h'.SetOf (intKind X.prog X.w) s.heap.objs.size (fun j => decide (j ∈ ns)) (PyProof.Rows.firstMet (fun i => ns.getD i 0) its.toArray.size).length := by
        refine PyProof.Rows.SetOf_congr R1 (fun j => ?_) rfl
        rw [PyProof.Rows.firstMet_any, hsz, range_getD]
        by_cases hj : j ∈ ns
        · rw [decide_eq_true hj]; exact List.any_eq_true.mpr ⟨j, hj, beq_self_eq_true j⟩
        · rw [decide_eq_false hj]; exact List.any_eq_false.mpr fun x hx e => hj (eq_of_beq e ▸ hx)
      exact ⟨.ref _, upd H s.heap.objs.size (SetI X.prog X.w s.heap.objs.size (fun j => decide (j ∈ ns)) _), I.laid (t' := tk) (fun b o e => k b o (Heap.lt_size e) e) (Nat.le_refl _) (setI_new R2), rfl, q _ _ (I.hok.fresh (Nat.le_refl _))⟩
    · obtain ⟨its, rv, pt, hz⟩ := I.tuple (st hq)
      have hi : IntsAre its.toArray.toList ns := ints_of_vals rv
      refine call_set_tupI ns (I.ok.hd hc) (show s.heap.IsTuple l its.toArray from pt) hi (by unfold scanBound; omega) fun h' tk c R1 hcn k => ?_
      exact ⟨.ref _, upd H s.heap.objs.size (SetI X.prog X.w s.heap.objs.size (fun j => decide (j ∈ ns)) c), I.laid (t' := tk) k (Nat.le_refl _) (setI_new R1.setOf), rfl, q _ _ (I.hok.fresh (Nat.le_refl _))⟩
end
noncomputable def spCkNums : Sp := fun vs H Q _ => ∃ (a : Addr) (ns : List Int), vs = [.ref a] ∧ SeqH H a (ns.map V.int) ∧ (∀ n ∈ ns, 1 ≤ n) ∧ ns.length ≤ 1000 ∧ ∀ H', Same H H' → Q .non H'
section
variable {P : Program} {w : World} {K : PySem.W.Frag} {mg : Str → Option Value} {base : Heap}
theorem ok_ckNums {f : Addr} {fd : FuncData} (D_is_numbers : Def P w K mg base CX0 3 "is_numbers" pV spNums) (F : Fun K "_check_numbers" "_check_numbers" sCkNums f fd) : FnOk P w K mg base CX0 4 f fd nCkNums spCkNums := by
  refine F.ok scCkNums (fun vs H Q E h => ?_) (fun cdv A outer s H vs Q E hr h => ?_)
  · obtain ⟨a, ns, rfl, _⟩ := h
    rfl
  · obtain ⟨a, ns, rfl, ha, h1, hl, q⟩ := h
    refine ⟨_, (pss_one (ps_if (pt_not (pt_val (pe_def D_is_numbers (hr.mono (by decide)) rfl pass0 (pa_cons (pv 0) pa_nil)))) pss_any pss_nil)), ?_⟩
    exact ⟨_, rfl, a, ns, rfl, ha, h1, hl, fun H' s' => ⟨_, rfl, itbF rfl (q H' s')⟩⟩
end
end K1
set_option Elab.async false
set_option linter.all false
set_option maxRecDepth 100000
set_option maxHeartbeats 4000000
/-! Sets of strings that can be walked: made of lists and tuples; sorted of them. -/
namespace K1
open PySem PySem.Spec PyProof.Rows L2
noncomputable def strOf (e : Int × Value) : Str := match e.2 with | .str k _ => k | _ => Str.empty
noncomputable def StrE (P : Program) (w : World) (e : Int × Value) : Prop := ∃ k tk, e.2 = Value.str k tk ∧ e.1 = (PySem.strKind P w).hash k
/-- what the table of a set is, apart from its members -/
structure Tbl (w : World) (es : Array (Int × Value)) (t : SetTable) : Prop where
  few : es.size < scanBound
  fits : t.fits es.size = true
  ris : Ris t.place.toList
  led : w.params.followText "set-order" = true ∨ t.led = true
/-- its members: strings, none twice -/
structure Mem (P : Program) (w : World) (es : Array (Int × Value)) (S : Str → Prop) : Prop where
  good : ∀ e ∈ es.toList, StrE P w e
  nd : (es.toList.map strOf).Nodup
  mem : ∀ k, S k ↔ k ∈ es.toList.map strOf
noncomputable def StrSet (P : Program) (w : World) (h : Heap) (a : Addr) (S : Str → Prop) (n : Nat) : Prop :=
  ∃ o es ep t, h.get? a = some o ∧ o.ExactSet ∧ o.data = .set es ep t ∧ Mem P w es S ∧ Tbl w es t ∧ es.size = n
section
variable {P : Program} {w : World} {h h' : Heap} {a : Addr} {S : Str → Prop} {n : Nat}
theorem StrSet.at (R : StrSet P w h a S n) (k : ∀ o, h.get? a = some o → h'.get? a = some o) : StrSet P w h' a S n := let ⟨o, es, ep, t, ho, r⟩ := R; ⟨o, es, ep, t, k o ho, r⟩
theorem StrSet.congr {S' : Str → Prop} (R : StrSet P w h a S n) (e : ∀ k, S' k ↔ S k) : StrSet P w h a S' n :=
  let ⟨o, es, ep, t, ho, hx, hd, m, r⟩ := R; ⟨o, es, ep, t, ho, hx, hd, ⟨m.good, m.nd, fun k => (e k).trans (m.mem k)⟩, r⟩
theorem strE_elems {l : List (Int × Value)} (g : ∀ e ∈ l, StrE P w e) : ElemsOf (PySem.strKind P w) l := fun e he => by
  obtain ⟨k, tk, h1, h2⟩ := g e he
  exact ⟨⟨k, by rw [h1]; exact strKind_is P w k tk, h2⟩, by rw [h1]; rfl⟩
theorem strE_is {e : Int × Value} (g : StrE P w e) (k : Str) : (PySem.strKind P w).is k e.2 = true ↔ strOf e = k := by
  obtain ⟨k0, tk, h1, _⟩ := g
  unfold strOf
  rw [h1]
  simp [PySem.strKind, Value.isStrOf]
theorem strE_mem {l : List (Int × Value)} (g : ∀ e ∈ l, StrE P w e) (k : Str) : k ∈ l.map strOf ↔ ∃ e ∈ l, (PySem.strKind P w).is k e.2 = true := by
  rw [List.mem_map]
  exact ⟨fun ⟨e, he, q⟩ => ⟨e, he, (strE_is (g e he) k).2 q⟩, fun ⟨e, he, q⟩ => ⟨e, he, (strE_is (g e he) k).1 q⟩⟩
end
section
variable {P : Program} {w : World} {A : Around} {E : Value → Shared → Prop} {s : Shared} {a : Addr} {S : Str → Prop} {n : Nat}
/-- the table is stored, and laid anew if it is too full -/
theorem str_store {g : Bool → Sem Unit} (hg : ∀ (b : Bool) (s₁ : Shared) (Q' : Unit → Shared → Prop), Q' () s₁ → wpAny (model P w) A (g b) Q' E s₁)
    {o : Obj} {es : Array (Int × Value)} {ep : Nat} {t : SetTable} (ho : s.heap.get? a = some o) (hex : o.ExactSet) (hd : o.data = .set es ep t)
    {es1 : Array (Int × Value)} {t2 : SetTable} {S' : Str → Prop} (m1 : Mem P w es1 S') (b1 : Tbl w es1 t2) {wasDummy : Bool} {R : Option Bool → Shared → Prop}
    (hR : ∀ h', Heap.SameBut a s.heap h' → StrSet P w h' a S' es1.size → R (some true) { s with heap := h' }) :
    wpAny (model P w) A (do
        storeSet a es1 t2
        if (!wasDummy && t2.tooFull) = true then do
            g (relayAll t2 es1 (SetTable.grown es1.size)).2.2
            storeSet a (relayAll t2 es1 (SetTable.grown es1.size)).1 (relayAll t2 es1 (SetTable.grown es1.size)).2.1
            pure (some true)
          else pure (some true)) R E s := by
  refine wpAny_bind (wpAny_storeSet_of ho hd ?_ (fits_of_scanBound b1.few))
  have ho1 := store_at (es' := es1) (t' := t2) ho hd
  have sb1 := Heap.SameBut.update s.heap a (Obj.putSet es1 t2)
  split
  · have pm := relayAll_perm t2 es1 (SetTable.grown es1.size)
    have hf3 := relayAll_fits t2 es1 (SetTable.grown es1.size)
    have hr3 := relayAll_ris t2 es1 (SetTable.grown es1.size)
    have hl3 := relayAll_led t2 es1 (SetTable.grown es1.size)
    generalize relayAll t2 es1 (SetTable.grown es1.size) = Z at pm hf3 hr3 hl3 ⊢
    obtain ⟨es2, t3, gave⟩ := Z
    dsimp only at pm hf3 hr3 hl3 ⊢
    have hsz : es2.size = es1.size := by rw [← Array.length_toList, pm.length_eq, Array.length_toList]
    have hb2 : es2.size < scanBound := by rw [hsz]; exact b1.few
    refine wpAny_bind (hg _ _ _ ?_)
    refine wpAny_bind (wpAny_storeSet_of ho1 rfl ?_ (fits_of_scanBound hb2))
    have ho2 := store_at (es' := es2) (t' := t3) ho1 rfl
    refine wpAny_pure (hR _ (sb1.trans (Heap.SameBut.update _ a _)) ⟨_, es2, _, t3, ho2, hex, rfl, ⟨fun e he => m1.good e (pm.mem_iff.mp he), (pm.map strOf).nodup_iff.mpr m1.nd, fun k => (m1.mem k).trans (pm.map strOf).mem_iff.symm⟩, ⟨hb2, hf3, hr3, b1.led.imp id fun z => by rw [hl3]; exact z⟩, hsz⟩)
  · exact wpAny_pure (hR _ sb1 ⟨_, es1, _, t2, ho1, hex, rfl, m1, b1, rfl⟩)
theorem str_add {k : Str} {tk : Tok} {Q : Bool → Shared → Prop} (R : StrSet P w s.heap a S n) (room : n + 1 < scanBound)
    (hQ : ∀ (b : Bool) h' c, c ≤ n + 1 → Heap.SameBut a s.heap h' → StrSet P w h' a (fun j => S j ∨ j = k) c → Q b { s with heap := h' }) :
    wpAny (model P w) A (setAddHashed a (.str k tk) ((PySem.strKind P w).hash k)) Q E s := by
  obtain ⟨o, es, ep, t, ho, hex, hd, m, b, hn⟩ := R
  have hkey : (PySem.strKind P w).is k (.str k tk) = true := strKind_is P w k tk
  have hsc : (Value.str k tk).scannable = true := rfl
  have hel : ElemsOf (PySem.strKind P w) es.toList := strE_elems m.good
  unfold setAddHashed setAddHashedIn
  refine wpAny_holding (wpAny_bind (wpAny_setState_of ho hd b.fits ?_))
  dsimp only
  rw [byScan_of hsc b.few hel]
  simp only [↓reduceIte]
  unfold setAddByScan
  refine wpAny_bind ?_
  refine wpAny_bind (wpAny_rule ?_)
  refine wpAny_bind (wpAny_setScan_of hkey ho hd b.fits hel ?_)
  cases hfi : List.findIdx? (fun e => (PySem.strKind P w).is k e.2) es.toList with
  | some j =>
    dsimp only
    obtain ⟨hj, pj, _⟩ := List.findIdx?_eq_some_iff_getElem.mp hfi
    have hSk : S k := (m.mem k).2 ((strE_mem m.good k).2 ⟨es.toList[j], List.getElem_mem hj, pj⟩)
    refine wpAny_pure (wpAny_pure ?_)
    exact hQ false s.heap n (Nat.le_succ _) (Heap.SameBut.refl a s.heap) ⟨o, es, ep, t, ho, hex, hd, ⟨m.good, m.nd, fun i => by
      rw [← m.mem i]
      exact ⟨fun z => z.elim id (fun e => e ▸ hSk), .inl⟩⟩, b, hn⟩
  | none =>
    dsimp only
    have hnk : k ∉ es.toList.map strOf := fun z => by
      obtain ⟨e, he, q⟩ := (strE_mem m.good k).1 z
      have c := List.findIdx?_eq_none_iff.mp hfi e he
      rw [q] at c
      cases c
    have hgw : ∀ (b : Bool) {s₁ : Shared} {Q' : Unit → Shared → Prop}, Q' () s₁ → wpAny (model P w) A (match b with | true => rule "set.scan.the-table-gave-way" | false => pure ()) Q' E s₁ :=
      fun b s₁ Q' q => by cases b <;> first | exact wpAny_pure q | exact wpAny_rule q
    have pm := layNew_perm t es ((PySem.strKind P w).hash k) (.str k tk)
    have hf1 := layNew_fits t es ((PySem.strKind P w).hash k) (.str k tk)
    have hr1 := layNew_ris t es ((PySem.strKind P w).hash k) (.str k tk) b.ris
    have hl1 := layNew_led t es ((PySem.strKind P w).hash k) (.str k tk)
    generalize layNew t es ((PySem.strKind P w).hash k) (.str k tk) = Z at pm hf1 hr1 hl1 ⊢
    obtain ⟨es1, t1, wasDummy, gave⟩ := Z
    dsimp only at pm hf1 hr1 hl1 ⊢
    rw [Array.toList_push] at pm
    have pc : es1.toList.Perm (((PySem.strKind P w).hash k, Value.str k tk) :: es.toList) := pm.trans (List.perm_append_singleton _ _)
    have pk : (es1.toList.map strOf).Perm (k :: es.toList.map strOf) := pc.map strOf
    have m1 : Mem P w es1 (fun j => S j ∨ j = k) := ⟨fun e he => by
      rcases List.mem_cons.mp (pc.mem_iff.mp he) with z | z
      · rw [z]; exact ⟨k, tk, rfl, rfl⟩
      · exact m.good e z, pk.nodup_iff.mpr (List.nodup_cons.mpr ⟨hnk, m.nd⟩), fun i => by
      rw [pk.mem_iff, List.mem_cons, ← m.mem i]
      exact Or.comm⟩
    have hsz : es1.size = n + 1 := by rw [← Array.length_toList, pc.length_eq, List.length_cons, Array.length_toList, hn]
    have hb1 : es1.size < scanBound := by rw [hsz]; exact room
    have hled : w.params.followText "set-order" = true ∨ t1.led = true := b.led.imp id fun z => by rw [hl1]; exact z
    have fin : ∀ h', Heap.SameBut a s.heap h' → StrSet P w h' a (fun j => S j ∨ j = k) es1.size → Q true { s with heap := h' } := fun h' sb r => hQ true h' _ (by omega) sb r
    refine wpAny_bind (hgw _ ?_)
    split
    · refine wpAny_bind ?_
      rw [hashByValue_scannable 8 hsc]
      refine wpAny_pure ?_
      refine str_store ?_ ho hex hd m1 ⟨hb1, ?_, ?_, ?_⟩ ?_
      · intro b s₁ Q' q; cases b <;> first | exact wpAny_pure q | exact wpAny_rule q
      · first | (split <;> first | exact hf1 | exact SetTable.fits_plain_off hf1) | exact hf1
      · first | (split <;> exact hr1) | exact hr1
      · first | (split <;> exact hled) | exact hled
      · intro h' sb r; dsimp only; exact wpAny_pure (fin h' sb r)
    · refine wpAny_bind (wpAny_pure ?_)
      simp only [↓reduceIte]
      refine str_store ?_ ho hex hd m1 ⟨hb1, hf1, hr1, hled⟩ ?_
      · intro b s₁ Q' q; cases b <;> first | exact wpAny_pure q | exact wpAny_rule q
      · intro h' sb r; dsimp only; exact wpAny_pure (fin h' sb r)
end
end K1
set_option Elab.async false
set_option linter.all false
set_option maxRecDepth 100000
set_option maxHeartbeats 4000000
namespace K1
open PySem PySem.Spec PyProof.Rows L2
noncomputable abbrev setObj (w : World) : Obj := { cls := .type "set", dict := none, data := .set #[] 0 (.fresh 0 0 (!w.params.followText "set-order")) }
theorem str_new {P : Program} {w : World} {h : Heap} {a : Addr} (ho : h.get? a = some (setObj w)) : StrSet P w h a (fun _ => False) 0 :=
  ⟨_, #[], 0, _, ho, ⟨rfl, rfl, rfl⟩, rfl, ⟨fun e he => by simp at he, by simp, fun k => by simp⟩, ⟨by decide, by rfl, List.Pairwise.nil, by
    show _ ∨ (!w.params.followText "set-order") = true
    cases w.params.followText "set-order"
    · exact .inr rfl
    · exact .inl rfl⟩, rfl⟩
section
variable {P : Program} {w : World} {A : Around} {E : Value → Shared → Prop} {s : Shared}
/-- the strings of a walk go into a set -/
theorem str_fill {I : Addr} {fp wr : List Addr} {G : Array GenState → Array GenState → Prop} {n : Nat} {Pv : Nat → Value → Prop} {St : Nat → Shared → Prop} {R : Result → Shared → Prop}
    (W : WalksS P w A.in1 I fp wr G n Pv St) (S : Addr) (hSf : S ∉ fp) (xs : List Str) (hn : n = xs.length) (hb : xs.length + 1 < scanBound) (hval : ∀ i v, Pv i v → ∃ k t, xs[i]? = some k ∧ v = .str k t) :
    ∀ (k i : Nat) (s : Shared), n - i = k → i ≤ n → St i s → (∃ c, c ≤ i ∧ StrSet P w s.heap S (fun j => j ∈ xs.take i) c) →
      (∀ s' c, Moved (S :: wr) G s s' → c ≤ n → StrSet P w s'.heap S (fun j => j ∈ xs) c → R (.ok (.ret .none)) s') →
      codeAny (model P w) A (.builtin "set.update.loop" ⟨[.ref S, .ref I], []⟩) R s := by
  have hSw : S ∉ wr := fun h => hSf (W.sub _ h)
  have hsub : ∀ b ∈ wr, b ∈ S :: wr := fun b hb => List.mem_cons_of_mem _ hb
  intro k
  induction k with
  | zero =>
    intro i s hk' hi hst ⟨c, hc, hS⟩ hR
    have hin : i = n := by omega
    subst hin
    refine codeAny_builtin F.entry_set_update_loop ?_
    rw [Around.under_plainId F.plain_set_update_loop _]
    show wpAny _ A.in1 (pyNext (.ref I) >>= _) _ _ s
    refine wpAny_bind (W.done s _ _ hst fun s' hm => ?_)
    show wpAny _ A.in1 (ret Value.none) _ _ s'
    have e : xs.take i = xs := List.take_of_length_le (by omega)
    rw [e] at hS
    exact wpAny_pure (hR s' c (hm.mono hsub) hc (hS.at fun o e => hm.heap S o hSw e))
  | succ k ih =>
    intro i s hk' hi hst ⟨c, hc, hS⟩ hR
    have hlt : i < n := by omega
    refine codeAny_builtin F.entry_set_update_loop ?_
    rw [Around.under_plainId F.plain_set_update_loop _]
    show wpAny _ A.in1 (pyNext (.ref I) >>= _) _ _ s
    refine wpAny_bind (W.item i s _ _ hlt hst fun v s' hP hst' hm => ?_)
    obtain ⟨z, t, hz, rfl⟩ := hval i v hP
    have hS' : StrSet P w s'.heap S (fun j => j ∈ xs.take i) c := hS.at fun o e => hm.heap S o hSw e
    show wpAny _ A.in1 (holding [Value.str z t] (setAdd S (.str z t)) >>= _) _ _ s'
    refine wpAny_bind (wpAny_holding ?_)
    unfold setAdd
    refine wpAny_holding ?_
    refine wpAny_bind ((PySem.strKind P w).pyHash (k := z) (strKind_is _ _ _ _) ?_)
    refine str_add (s := { s' with toks := s'.toks + 1 }) hS' (by omega) fun b h' c2 hc2 hsb hS2 => ?_
    have hS3 : StrSet P w h' S (fun j => j ∈ xs.take (i + 1)) c2 := hS2.congr fun j => by
      rw [List.take_add_one, hz]
      simp [List.mem_append]
    refine wpAny_pure ⟨plainId_quiet F.plain_set_update_loop _, ih (i + 1) _ (by omega) hlt (W.frame _ s' _ _ hst' (Nat.le_succ _) fun b hb o e => ?_) ⟨c2, by omega, hS3⟩ fun s'' c3 hm'' hc'' hS'' => ?_⟩
    · rw [hsb.2 b (fun h : b = S => hSf (by rw [← h]; exact hb))]; exact e
    · refine hR s'' c3 (Moved.trans W.gtrans ((hm.mono hsub).then_heap (Nat.le_succ _) fun b o hb e => ?_) hm'') hc'' hS''
      rw [hsb.2 b (fun h : b = S => hb (by rw [h]; exact List.mem_cons_self))]; exact e
theorem strs_at {items : Array Value} {xs : List Str} (hit : StrsAre items.toList xs) : ∀ (i : Nat) (v : Value), items[i]? = some v → ∃ k t, xs[i]? = some k ∧ v = .str k t := fun i v hv => by
  obtain ⟨y, t, e, h⟩ := hit.item i v (by rw [Array.getElem?_toList]; exact hv)
  exact ⟨y, t, h, e⟩
/-- the filling of a new set from a walk over a list -/
theorem str_fill_list {l : Addr} {items : Array Value} (xs : List Str) {R : Result → Shared → Prop} (hh : A.handled = none) (hl : s.heap.IsList l items) (hit : StrsAre items.toList xs) (hb : xs.length + 1 < scanBound)
    (h : ∀ (h' : Heap) (tk c : Nat), c ≤ xs.length → StrSet P w h' s.heap.objs.size (fun j => j ∈ xs) c → (∀ b o, s.heap.get? b = some o → h'.get? b = some o) → R (.ok (.ret .none)) { s with heap := h', toks := tk }) :
    codeAny (model P w) A (.builtin "set.update.loop" ⟨[.ref s.heap.objs.size, .ref (s.heap.objs.size + 1)], []⟩) R
      { s with heap := (s.heap.push (setObj w)).push { cls := .type "list_iterator", data := .fields #[.ref l, .int 0 0] } } := by
  have hsz : items.size = xs.length := by
    have q := StrsAre.length hit
    rw [Array.length_toList] at q
    exact q
  have hlt : l < s.heap.objs.size := by
    obtain ⟨o, ho, _⟩ := hl
    exact Heap.lt_size ho
  have z1 : (s.heap.push (setObj w)).objs.size = s.heap.objs.size + 1 := Heap.size_push ..
  have hl1 : (s.heap.push (setObj w)).IsList l items := hl.push _
  have gS : ((s.heap.push (setObj w)).push { cls := .type "list_iterator", data := .fields #[.ref l, .int 0 0] }).get? s.heap.objs.size = some (setObj w) :=
    Heap.get?_push_of_some _ (Heap.get?_push_size _ rfl)
  have gI : ((s.heap.push (setObj w)).push { cls := .type "list_iterator", data := .fields #[.ref l, .int 0 0] }).get? (s.heap.objs.size + 1) = some { cls := .type "list_iterator", data := .fields #[.ref l, .int 0 0] } := by rw [← z1]; exact Heap.get?_push_size _ rfl
  refine str_fill ((Walks.list (prog := P) (w := w) (A := A.in1) (by simp [hh]) (s.heap.objs.size + 1) l (Nat.ne_of_lt (Nat.lt_succ_of_lt hlt)) items).toS) s.heap.objs.size
    (by simp only [List.mem_cons, List.not_mem_nil, or_false, not_or]; exact ⟨Nat.ne_of_lt (Nat.lt_succ_self _), Nat.ne_of_gt hlt⟩) xs hsz hb (strs_at hit) (items.size - 0) 0 _ (by omega) (Nat.zero_le _)
    ⟨⟨_, gI, rfl, rfl⟩, hl1.push _⟩ ⟨0, Nat.le_refl 0, (str_new gS).congr fun k => by simp⟩ fun s' c m hc R' => ?_
  obtain ⟨h', g', d', tk', os'⟩ := s'
  obtain rfl : g' = s.gens := m.gens
  obtain rfl : d' = s.drawn := m.drawn
  obtain rfl : os' = s.os := m.os
  refine h h' tk' c (by omega) R' fun b o e => ?_
  have hb0 := Heap.lt_size e
  exact m.heap b o (by simp only [List.mem_cons, List.not_mem_nil, or_false, not_or]; exact ⟨Nat.ne_of_lt hb0, Nat.ne_of_lt (Nat.lt_succ_of_lt hb0)⟩) (Heap.get?_push_of_some _ (Heap.get?_push_of_some _ e))
set_option maxRecDepth 100000 in
set_option maxHeartbeats 3200000 in
theorem str_set_list {l : Addr} {items : Array Value} (xs : List Str) {Q : Value → Shared → Prop} (hh : A.handled = none) (hl : s.heap.IsList l items) (hit : StrsAre items.toList xs) (hb : xs.length + 1 < scanBound)
    (h : ∀ (h' : Heap) (tk c : Nat), c ≤ xs.length → StrSet P w h' s.heap.objs.size (fun j => j ∈ xs) c → (∀ b o, s.heap.get? b = some o → h'.get? b = some o) → Q (.ref s.heap.objs.size) { s with heap := h', toks := tk }) :
    wpAny (model P w) A (call (.type "set") [.ref l]) Q E s := by
  obtain ⟨c, tl, hmro⟩ := F.called_set.mro
  have hmade := F.called_set.made
  have hsub := F.called_set.sub
  refine wpAny_call (codeAny_of_tree ?_)
  show wpAny _ _ (callAny (.type "set") _) _ _ _
  refine wpAny_pure ⟨Code.quiet_builtin _ (by decide +kernel), codeAny_builtin F.entry_type_call ?_⟩
  rw [Around.under_plain (weight_type_call_type "set" [.ref l] []) rfl]
  have h1 := F.called_set.notType
  have h2 := F.called_set.canCreate
  have hct := F.typeCall_set_1 (.ref l)
  repeat (any_goals (first | assumption | wp_step))
  refine codeAny_mono (code_set_led1 (.ref l) (E := E) (Q₁ := fun obj s₁ => obj = .ref s.heap.objs.size ∧ s₁ = { s with heap := s.heap.push (setObj w) }) ⟨rfl, rfl⟩) fun r s₁ hr => ?_
  cases r with
  | error e => exact hr
  | ok fl =>
    cases fl with
    | ret obj =>
      obtain ⟨rfl, rfl⟩ := hr
      have gS : (s.heap.push (setObj w)).get? s.heap.objs.size = some (setObj w) := Heap.get?_push_size _ rfl
      have hT : Shared.TypeIs { s with heap := s.heap.push (setObj w) } (.ref s.heap.objs.size) "set" := ⟨_, gS, rfl⟩
      have hli := F.called_set.init.lookup
      have hbi := F.called_set.init.bind (.ref s.heap.objs.size)
      repeat (any_goals (first | assumption | wp_step))
      refine codeAny_mono (codeAny_call_builtin (R := wants (fun r s₂ => r = .none ∧ ∃ h' tk c, s₂ = { s with heap := h', toks := tk } ∧ c ≤ xs.length ∧ StrSet P w h' s.heap.objs.size (fun j => j ∈ xs) c ∧
          (∀ b o, s.heap.get? b = some o → h'.get? b = some o)) E) F.called_set.init.plain F.entry_set_init (check_set_init_1 hT ?_)) fun r₂ s₂ hr₂ => ?_
      · have hl0 := hl
        obtain ⟨ol, hol, hcl, nl, hdl⟩ := hl0
        obtain ⟨ocls, odict, odata, oslots⟩ := ol
        simp only at hcl hdl
        subst hcl; subst hdl
        have hol' : (s.heap.push (setObj w)).get? l = some { cls := .type "list", dict := odict, data := .seq items nl, slots := oslots } := Heap.get?_push_of_some _ hol
        have hsls := F.sub_list_set
        have hslf := F.sub_list_frozenset
        have hne : (Value.type "list" == Value.type "dict") = false := by decide
        have hl1 : (s.heap.push (setObj w)).IsList l items := hl.push _
        have z1 : (s.heap.push (setObj w)).objs.size = s.heap.objs.size + 1 := Heap.size_push ..
        unfold Builtin.«set.__init__» noKeywords Builtin.Frozenset.updateFrom
        generalize hPI : pyIter = PI
        wp_walk
        subst hPI
        refine wpAny_pyIter_list hl1 ?_
        refine wpAny_bind (wpAny_runValue ?_)
        rw [z1]
        refine str_fill_list xs (by simp [hh]) hl hit hb fun h' tk c hc R' k => ?_
        show wpAny _ _ _ _ _ _
        refine wpAny_pure ?_
        show wpAny _ _ (ret Value.none) _ _ _
        exact wpAny_pure ⟨rfl, h', tk, c, rfl, hc, R', k⟩
      · cases r₂ with
        | error e => exact hr₂
        | ok fl₂ =>
          cases fl₂ with
          | ret r =>
            obtain ⟨rfl, h', tk, c, rfl, hc, R', k⟩ := hr₂
            repeat (any_goals (first | assumption | wp_step))
            exact h _ _ _ hc R' k
          | _ => exact hr₂.elim
    | _ => exact hr.elim
/-- the filling of a new set from a walk over a tuple -/
theorem str_fill_tup {l : Addr} {items : Array Value} (xs : List Str) {R : Result → Shared → Prop} (hh : A.handled = none) (hl : s.heap.IsTuple l items) (hit : StrsAre items.toList xs) (hb : xs.length + 1 < scanBound)
    (h : ∀ (h' : Heap) (tk c : Nat), c ≤ xs.length → StrSet P w h' s.heap.objs.size (fun j => j ∈ xs) c → (∀ b o, s.heap.get? b = some o → h'.get? b = some o) → R (.ok (.ret .none)) { s with heap := h', toks := tk }) :
    codeAny (model P w) A (.builtin "set.update.loop" ⟨[.ref s.heap.objs.size, .ref (s.heap.objs.size + 1)], []⟩) R
      { s with heap := (s.heap.push (setObj w)).push { cls := .type "tuple_iterator", data := .fields #[.ref l, .int 0 0] } } := by
  have hsz : items.size = xs.length := by
    have q := StrsAre.length hit
    rw [Array.length_toList] at q
    exact q
  have hlt : l < s.heap.objs.size := by
    obtain ⟨o, ho, _⟩ := hl
    exact Heap.lt_size ho
  have z1 : (s.heap.push (setObj w)).objs.size = s.heap.objs.size + 1 := Heap.size_push ..
  have hl1 : (s.heap.push (setObj w)).IsTuple l items := hl.push _
  have gS : ((s.heap.push (setObj w)).push { cls := .type "tuple_iterator", data := .fields #[.ref l, .int 0 0] }).get? s.heap.objs.size = some (setObj w) :=
    Heap.get?_push_of_some _ (Heap.get?_push_size _ rfl)
  have gI : ((s.heap.push (setObj w)).push { cls := .type "tuple_iterator", data := .fields #[.ref l, .int 0 0] }).get? (s.heap.objs.size + 1) = some { cls := .type "tuple_iterator", data := .fields #[.ref l, .int 0 0] } := by rw [← z1]; exact Heap.get?_push_size _ rfl
  refine str_fill ((Walks.tuple (prog := P) (w := w) (A := A.in1) (by simp [hh]) (s.heap.objs.size + 1) l (Nat.ne_of_lt (Nat.lt_succ_of_lt hlt)) items).toS) s.heap.objs.size
    (by simp only [List.mem_cons, List.not_mem_nil, or_false, not_or]; exact ⟨Nat.ne_of_lt (Nat.lt_succ_self _), Nat.ne_of_gt hlt⟩) xs hsz hb (strs_at hit) (items.size - 0) 0 _ (by omega) (Nat.zero_le _)
    ⟨⟨_, gI, rfl, rfl⟩, hl1.push _⟩ ⟨0, Nat.le_refl 0, (str_new gS).congr fun k => by simp⟩ fun s' c m hc R' => ?_
  obtain ⟨h', g', d', tk', os'⟩ := s'
  obtain rfl : g' = s.gens := m.gens
  obtain rfl : d' = s.drawn := m.drawn
  obtain rfl : os' = s.os := m.os
  refine h h' tk' c (by omega) R' fun b o e => ?_
  have hb0 := Heap.lt_size e
  exact m.heap b o (by simp only [List.mem_cons, List.not_mem_nil, or_false, not_or]; exact ⟨Nat.ne_of_lt hb0, Nat.ne_of_lt (Nat.lt_succ_of_lt hb0)⟩) (Heap.get?_push_of_some _ (Heap.get?_push_of_some _ e))
set_option maxRecDepth 100000 in
set_option maxHeartbeats 3200000 in
theorem str_set_tup {l : Addr} {items : Array Value} (xs : List Str) {Q : Value → Shared → Prop} (hh : A.handled = none) (hl : s.heap.IsTuple l items) (hit : StrsAre items.toList xs) (hb : xs.length + 1 < scanBound)
    (h : ∀ (h' : Heap) (tk c : Nat), c ≤ xs.length → StrSet P w h' s.heap.objs.size (fun j => j ∈ xs) c → (∀ b o, s.heap.get? b = some o → h'.get? b = some o) → Q (.ref s.heap.objs.size) { s with heap := h', toks := tk }) :
    wpAny (model P w) A (call (.type "set") [.ref l]) Q E s := by
  obtain ⟨c, tl, hmro⟩ := F.called_set.mro
  have hmade := F.called_set.made
  have hsub := F.called_set.sub
  refine wpAny_call (codeAny_of_tree ?_)
  show wpAny _ _ (callAny (.type "set") _) _ _ _
  refine wpAny_pure ⟨Code.quiet_builtin _ (by decide +kernel), codeAny_builtin F.entry_type_call ?_⟩
  rw [Around.under_plain (weight_type_call_type "set" [.ref l] []) rfl]
  have h1 := F.called_set.notType
  have h2 := F.called_set.canCreate
  have hct := F.typeCall_set_1 (.ref l)
  repeat (any_goals (first | assumption | wp_step))
  refine codeAny_mono (code_set_led1 (.ref l) (E := E) (Q₁ := fun obj s₁ => obj = .ref s.heap.objs.size ∧ s₁ = { s with heap := s.heap.push (setObj w) }) ⟨rfl, rfl⟩) fun r s₁ hr => ?_
  cases r with
  | error e => exact hr
  | ok fl =>
    cases fl with
    | ret obj =>
      obtain ⟨rfl, rfl⟩ := hr
      have gS : (s.heap.push (setObj w)).get? s.heap.objs.size = some (setObj w) := Heap.get?_push_size _ rfl
      have hT : Shared.TypeIs { s with heap := s.heap.push (setObj w) } (.ref s.heap.objs.size) "set" := ⟨_, gS, rfl⟩
      have hli := F.called_set.init.lookup
      have hbi := F.called_set.init.bind (.ref s.heap.objs.size)
      repeat (any_goals (first | assumption | wp_step))
      refine codeAny_mono (codeAny_call_builtin (R := wants (fun r s₂ => r = .none ∧ ∃ h' tk c, s₂ = { s with heap := h', toks := tk } ∧ c ≤ xs.length ∧ StrSet P w h' s.heap.objs.size (fun j => j ∈ xs) c ∧
          (∀ b o, s.heap.get? b = some o → h'.get? b = some o)) E) F.called_set.init.plain F.entry_set_init (check_set_init_1 hT ?_)) fun r₂ s₂ hr₂ => ?_
      · have hl0 := hl
        obtain ⟨ol, hol, hcl, nl, hdl⟩ := hl0
        obtain ⟨ocls, odict, odata, oslots⟩ := ol
        simp only at hcl hdl
        subst hcl; subst hdl
        have hol' : (s.heap.push (setObj w)).get? l = some { cls := .type "tuple", dict := odict, data := .seq items nl, slots := oslots } := Heap.get?_push_of_some _ hol
        have hsls := F.sub_tuple_set
        have hslf := F.sub_tuple_frozenset
        have hne : (Value.type "tuple" == Value.type "dict") = false := by decide
        have hl1 : (s.heap.push (setObj w)).IsTuple l items := hl.push _
        have z1 : (s.heap.push (setObj w)).objs.size = s.heap.objs.size + 1 := Heap.size_push ..
        unfold Builtin.«set.__init__» noKeywords Builtin.Frozenset.updateFrom
        generalize hPI : pyIter = PI
        wp_walk
        subst hPI
        refine wpAny_pyIter_tuple hl1 ?_
        refine wpAny_bind (wpAny_runValue ?_)
        rw [z1]
        refine str_fill_tup xs (by simp [hh]) hl hit hb fun h' tk c hc R' k => ?_
        show wpAny _ _ _ _ _ _
        refine wpAny_pure ?_
        show wpAny _ _ (ret Value.none) _ _ _
        exact wpAny_pure ⟨rfl, h', tk, c, rfl, hc, R', k⟩
      · cases r₂ with
        | error e => exact hr₂
        | ok fl₂ =>
          cases fl₂ with
          | ret r =>
            obtain ⟨rfl, h', tk, c, rfl, hc, R', k⟩ := hr₂
            repeat (any_goals (first | assumption | wp_step))
            exact h _ _ _ hc R' k
          | _ => exact hr₂.elim
    | _ => exact hr.elim
end
end K1
set_option Elab.async false
set_option linter.all false
set_option maxRecDepth 100000
set_option maxHeartbeats 4000000
set_option Elab.async false
set_option linter.all false
set_option maxRecDepth 100000
set_option maxHeartbeats 2000000
namespace K1
open PySem PySem.Spec PyProof.Rows L2 RZ StX
/-! ### methods -/
structure MDef (P : Program) (w : World) (K : PySem.W.Frag) (mg : Str → Option Value) (base : Heap) (CX : CXT) (k : Nat) (C : Addr) (m : Str) (ps : List Str) (sp : Sp) : Prop where
  ex : ∃ (f : Addr) (fd : FuncData), Meth K C m f ∧ Binds K fd ps [] ∧ FnOk P w K mg base CX k f fd ps sp
section
variable {X : Cx} {CX : CXT} {k : Nat} {ps : List Str} {sp : Sp} {E : XK} {m : Str} {pos apos : Pos} {o e : Expr} {es : List Expr} {ta : TE} {t : TA} {C : Addr}
theorem pe_mdef {pl : Sem Bool} (D : MDef X.prog X.w X.K X.mg X.base CX k C m ps sp) (c : Cls X.K C) (hr : Room k X.A) (hx : Passes CX X E) (he : PE X o ta) (ha : PA X (e :: es) t)
    (hst : starEach (e :: es) X.env = (false, eval e X.env) :: starEach es X.env := by rfl) (hpl : (backTo pos (starEach es X.env)).any (·.1) = false := by rfl)
    (ht : eval (.Call (.Attribute o m apos) (e :: es) [] pos) X.env = (do
      let ov ← eval o X.env
      standAt apos.atName
      let (f, first) ← holding [ov] (getMethod ov m pl)
      callWith pos f first (backTo pos (starEach (e :: es) X.env)) (backToKw pos (keywordEach [] X.env))) := by rfl) :
    PE X (.Call (.Attribute o m apos) (e :: es) [] pos) (tMeth C m sp [] E ta t) := by
  obtain ⟨f, fd, hm, hb, F⟩ := D.ex
  exact pe_meth he c hm F hr hb .nil hx ha hst hpl ht
theorem pe_mdef0 {pl : Sem Bool} (D : MDef X.prog X.w X.K X.mg X.base CX k C m ps sp) (c : Cls X.K C) (hr : Room k X.A) (hx : Passes CX X E) (he : PE X o ta)
    (ht : eval (.Call (.Attribute o m apos) [] [] pos) X.env = (do
      let ov ← eval o X.env
      standAt apos.atName
      let (f, first) ← holding [ov] (getMethod ov m pl)
      callWith pos f first (backTo pos (starEach [] X.env)) (backToKw pos (keywordEach [] X.env))) := by rfl) :
    PE X (.Call (.Attribute o m apos) [] [] pos) (tMeth C m sp [] E ta tNil) := by
  obtain ⟨f, fd, hm, hb, F⟩ := D.ex
  exact pe_meth0 he c hm F hr hb .nil hx ht
end
/-! ### folders -/
noncomputable def flds (a l n m g c : V) : List (Str × V) := [("_age", a), ("_letters", l), ("_next_number", n), ("_mark", m), ("_gone", g), ("_cut", c)]
section
variable {a l n m g c y : V}
theorem fl_age : (flds a l n m g c).lookup ("_age" : Str) = some a := by rfl
theorem fl_let : (flds a l n m g c).lookup ("_letters" : Str) = some l := by rfl
theorem fl_nx : (flds a l n m g c).lookup ("_next_number" : Str) = some n := by rfl
theorem fl_mk : (flds a l n m g c).lookup ("_mark" : Str) = some m := by rfl
theorem fl_gone : (flds a l n m g c).lookup ("_gone" : Str) = some g := by rfl
theorem fl_cut : (flds a l n m g c).lookup ("_cut" : Str) = some c := by rfl
theorem fl_no {x : Str} (h : (["_age", "_letters", "_next_number", "_mark", "_gone", "_cut"] : List Str).all (fun z => !(x == z)) = true) : (flds a l n m g c).lookup x = none := by
  simp only [List.all_cons, List.all_nil, Bool.and_eq_true, Bool.not_eq_true'] at h
  obtain ⟨h1, h2, h3, h4, h5, h6, _⟩ := h
  unfold flds
  simp only [List.lookup, h1, h2, h3, h4, h5, h6]
theorem pu_let : putF "_letters" y (flds a l n m g c) = flds a y n m g c := by rfl
theorem pu_nx : putF "_next_number" y (flds a l n m g c) = flds a l y m g c := by rfl
theorem pu_mk : putF "_mark" y (flds a l n m g c) = flds a l n y g c := by rfl
theorem pu_gone : putF "_gone" y (flds a l n m g c) = flds a l n m y c := by rfl
theorem pu_cut : putF "_cut" y (flds a l n m g c) = flds a l n m g y := by rfl
end
structure Lt where
  n : Int
  b : Int
  s : List Str
  m : Int
structure Fo where
  age : Int
  ls : List Lt
  nx : Int
  mr : Int
  go : List (Int × Int)
  ct : Int
noncomputable def ltD (l : Lt) : PyData := .tuple [.int l.n, .int l.b, .tuple (l.s.map PyData.str), .int l.m]
noncomputable def goD (g : Int × Int) : PyData := .tuple [.int g.1, .int g.2]
noncomputable def lsD (ls : List Lt) : PyData := .tuple (ls.map ltD)
noncomputable def gsD (go : List (Int × Int)) : PyData := .tuple (go.map goD)
noncomputable def FoAt (C : Addr) (H : Hp) (p : Addr) (F : Fo) : Prop := ∃ dx tl tg, H p = some (.ins C dx (flds (.int F.age) (.ref tl) (.int F.nx) (.int F.mr) (.ref tg) (.int F.ct))) ∧ Dv H (.ref tl) (lsD F.ls) ∧ Dv H (.ref tg) (gsD F.go)
theorem FoAt.same {C p : Addr} {H H' : Hp} {F : Fo} (h : FoAt C H p F) (s : Same H H') : FoAt C H' p F := let ⟨dx, tl, tg, a, b, c⟩ := h; ⟨dx, tl, tg, s _ _ a, b.same s, c.same s⟩
/-- what the class must have -/
structure ClT (K : PySem.W.Frag) (mg : Str → Option Value) (C : Addr) : Prop where
  cl : Cls K C
  gC : mg "Folder" = some (.ref C)
  nA : NoAttr K C "_age"
  nL : NoAttr K C "_letters"
  nN : NoAttr K C "_next_number"
  nM : NoAttr K C "_mark"
  nG : NoAttr K C "_gone"
  nC : NoAttr K C "_cut"
noncomputable def mS (i : Nat) : Stmt := inClass st_Folder i
noncomputable abbrev sInit : Stmt := mS 0
noncomputable abbrev sLetters : Stmt := mS 3
noncomputable abbrev sMark : Stmt := mS 5
noncomputable abbrev sApp : Stmt := mS 8
noncomputable abbrev sCopied : Stmt := mS 14
noncomputable abbrev nInit : List Str := ["self", "age"]
theorem scInit : FnScope nInit nInit (defScope sInit) := ⟨rfl, rfl, rfl, by decide +kernel, rfl, by decide +kernel, by decide +kernel⟩
noncomputable abbrev nSelf : List Str := ["self"]
theorem scLetters : FnScope nSelf nSelf (defScope sLetters) := ⟨rfl, rfl, rfl, by decide +kernel, rfl, by decide +kernel, by decide +kernel⟩
theorem scMark : FnScope nSelf nSelf (defScope sMark) := ⟨rfl, rfl, rfl, by decide +kernel, rfl, by decide +kernel, by decide +kernel⟩
noncomputable abbrev nApp : List Str := ["self", "body", "signs", "folder"]
noncomputable abbrev pApp : List Str := ["self", "body", "signs"]
theorem scApp : FnScope nApp pApp (defScope sApp) := ⟨rfl, rfl, rfl, by decide +kernel, rfl, by decide +kernel, by decide +kernel⟩
noncomputable abbrev nCopied : List Str := ["self", "folder"]
theorem scCopied : FnScope nCopied nSelf (defScope sCopied) := ⟨rfl, rfl, rfl, by decide +kernel, rfl, by decide +kernel, by decide +kernel⟩
noncomputable def fNew (a : Int) : Fo := ⟨a, [], 1, 0, [], 0⟩
noncomputable def spInit (C : Addr) : Sp := fun vs H Q _ => ∃ (p dx : Addr) (a : Int), vs = [.ref p, .int a] ∧ H p = some (.ins C dx []) ∧ 1 ≤ a ∧
  ∀ H' tl tg, (∀ b o, b ≠ p → H b = some o → H' b = some o) → H' p = some (.ins C dx (flds (.int a) (.ref tl) (.int 1) (.int 0) (.ref tg) (.int 0))) → H' tl = some (.tup []) → H' tg = some (.tup []) → Q .non H'
noncomputable def spLetters (C : Addr) : Sp := fun vs H Q _ => ∃ (p : Addr) (F : Fo), vs = [.ref p] ∧ FoAt C H p F ∧ ∀ l H', Same H H' → H l = none → Dv H' (.ref l) (.list (F.ls.map ltD)) → Q (.ref l) H'
noncomputable def spMark (C : Addr) : Sp := fun vs H Q _ => ∃ (p : Addr) (F : Fo), vs = [.ref p] ∧ FoAt C H p F ∧ Q (.int F.mr) H
noncomputable def spCopied (C : Addr) : Sp := fun vs H Q _ => ∃ (p dx tl tg : Addr) (a n m c : Int), vs = [.ref p] ∧ H p = some (.ins C dx (flds (.int a) (.ref tl) (.int n) (.int m) (.ref tg) (.int c))) ∧ 1 ≤ a ∧
  ∀ q dq H', Same H H' → H q = none → H' q = some (.ins C dq (flds (.int a) (.ref tl) (.int n) (.int m) (.ref tg) (.int c))) → Q (.ref q) H'
noncomputable def fApp (F : Fo) (b : Int) (s : List Str) : Fo := { F with ls := F.ls ++ [⟨F.nx, b, s, F.mr + 1⟩], nx := F.nx + 1, mr := F.mr + 1 }
noncomputable def spApp (C : Addr) : Sp := fun vs H Q _ => ∃ (p sg : Addr) (F : Fo) (b : Int) (ss : List Str), vs = [.ref p, .int b, .ref sg] ∧ FoAt C H p F ∧ 1 ≤ F.age ∧ 0 ≤ b ∧ H sg = some (.tup (ss.map V.str)) ∧ OkSs ss ∧ F.ls.length ≤ 1000 ∧
  ∀ q H', Same H H' → H q = none → FoAt C H' q (fApp F b ss) → Q (.ref q) H'
theorem dv_strs {H : Hp} : ∀ ss : List Str, DvA H (ss.map V.str) (ss.map PyData.str)
  | [] => .nil
  | s :: r => .cons (.str s) (dv_strs r)
section
variable {P : Program} {w : World} {K : PySem.W.Frag} {mg : Str → Option Value} {base : Heap} {C : Addr}
theorem ok_init {f : Addr} {fd : FuncData} (t : ClT K mg C) (D_is_number : Def P w K mg base CX0 2 "is_number" pV spNum) (F : Fun K "__init__" "Folder.__init__" sInit f fd) : FnOk P w K mg base CX0 3 f fd nInit (spInit C) := by
  refine F.ok scInit (fun vs H Q E h => ?_) (fun cdv A outer s H vs Q E hr h => ?_)
  · obtain ⟨p, dx, a, rfl, _⟩ := h
    rfl
  · obtain ⟨p, dx, a, rfl, hp, ha, q⟩ := h
    refine ⟨_, pss_cons (ps_if (pt_not (pt_val (pe_def D_is_number (hr.mono (by decide)) rfl pass0 (pa_cons (pv 1) pa_nil)))) pss_any pss_nil)
 (pss_cons (ps_fld (pv 0) (pv 1) rfl)
 (pss_cons (ps_fld (pv 0) (pe_tup pa_nil) rfl)
 (pss_cons (ps_fld (pv 0) pe_int rfl)
 (pss_cons (ps_fld (pv 0) pe_int rfl)
 (pss_cons (ps_fld (pv 0) (pe_tup pa_nil) rfl)
 (pss_one (ps_fld (pv 0) pe_int rfl))))))), ?_⟩
    refine ⟨_, rfl, a, rfl, ha, _, rfl, itbF rfl ?_⟩
    refine ⟨_, rfl, _, rfl, p, C, dx, [], rfl, hp, t.cl, t.nA, by show 0 < 1000; decide, ?_⟩
    refine ⟨Nat.zero_le _, fun tl ntl => ?_⟩
    have n1 : p ≠ tl := ne_of_none (show (upd H p (.ins C dx (putF "_age" (.int a) []))) p = some _ from upd_same) ntl
    refine ⟨_, rfl, p, C, dx, _, rfl, (by rw [upd_ne n1]; exact upd_same), t.cl, t.nL, by show 1 < 1000; decide, ?_⟩
    refine ⟨_, rfl, p, C, dx, _, rfl, upd_same, t.cl, t.nN, by show 2 < 1000; decide, ?_⟩
    refine ⟨_, rfl, p, C, dx, _, rfl, upd_same, t.cl, t.nM, by show 3 < 1000; decide, ?_⟩
    refine ⟨Nat.zero_le _, fun tg ntg => ?_⟩
    have n2 : p ≠ tg := ne_of_none (by exact upd_same) ntg
    have n3 : tl ≠ tg := fun z => by
      subst z
      rw [upd_ne n1.symm, upd_ne n1.symm, upd_ne n1.symm, upd_same] at ntg
      cases ntg
    refine ⟨_, rfl, p, C, dx, _, rfl, (by rw [upd_ne n2]; exact upd_same), t.cl, t.nG, by show 4 < 1000; decide, ?_⟩
    refine ⟨_, rfl, p, C, dx, _, rfl, upd_same, t.cl, t.nC, by show 5 < 1000; decide, ?_⟩
    refine q _ tl tg (fun b o nb hb => ?_) upd_same ?_ ?_
    · have hb0 : (upd H p (.ins C dx (putF "_age" (.int a) []))) b = some o := by rw [upd_ne nb]; exact hb
      rw [upd_ne nb, upd_ne nb, upd_ne (fun z => by
        subst z
        rw [upd_ne nb, upd_ne nb, upd_ne nb, upd_ne (ne_of_none hb0 ntl), upd_ne nb] at ntg
        rw [hb] at ntg; cases ntg), upd_ne nb, upd_ne nb, upd_ne nb, upd_ne (ne_of_none hb0 ntl)]
      exact hb0
    · rw [upd_ne n1.symm, upd_ne n1.symm, upd_ne n3, upd_ne n1.symm, upd_ne n1.symm, upd_ne n1.symm, upd_same]
    · rw [upd_ne n2.symm, upd_ne n2.symm, upd_same]
theorem ok_letters {f : Addr} {fd : FuncData} (T : Bk mg) (t : ClT K mg C) (F : Fun K "letters" "Folder.letters" sLetters f fd) : FnOk P w K mg base CX0 1 f fd nSelf (spLetters C) := by
  refine F.ok scLetters (fun vs H Q E h => ?_) (fun cdv A outer s H vs Q E hr h => ?_)
  · obtain ⟨p, F, rfl, _⟩ := h
    rfl
  · obtain ⟨p, F, rfl, ⟨dx, tl, tg, hp, h1, h2⟩, q⟩ := h
    refine ⟨_, pss_one (ps_ret (pe_callTy (call_list_ofK (K := K) rfl) (by rfl) T.list PyProof.Rows.boot_list (pa_cons (pe_fld (pv 0) rfl) pa_nil))), ?_⟩
    cases h1 with
    | tup e r => exact ⟨_, rfl, p, C, dx, _, _, rfl, hp, t.cl, t.nL, fl_let, tl, _, rfl, .inr (st e), fun l nl => q l _ (same_new nl) nl (.lst upd_same (r.same (same_new nl)))⟩
theorem ok_mark {f : Addr} {fd : FuncData} (t : ClT K mg C) (F : Fun K "mark" "Folder.mark" sMark f fd) : FnOk P w K mg base CX0 1 f fd nSelf (spMark C) := by
  refine F.ok scMark (fun vs H Q E h => ?_) (fun cdv A outer s H vs Q E hr h => ?_)
  · obtain ⟨p, F, rfl, _⟩ := h
    rfl
  · obtain ⟨p, F, rfl, ⟨dx, tl, tg, hp, h1, h2⟩, q⟩ := h
    exact ⟨_, pss_one (ps_ret (pe_fld (pv 0) rfl)), ⟨_, rfl, p, C, dx, _, _, rfl, hp, t.cl, t.nM, fl_mk, q⟩⟩
end
end K1
set_option Elab.async false
set_option linter.all false
set_option maxRecDepth 100000
set_option maxHeartbeats 2000000
namespace K1
open PySem PySem.Spec PyProof.Rows L2 RZ StX
/-- the making of a folder -/
structure MkD (P : Program) (w : World) (K : PySem.W.Frag) (mg : Str → Option Value) (base : Heap) (C : Addr) : Prop where
  ex : ∃ (f : Addr) (fd : FuncData), Mk K C f ∧ Binds K fd nInit [] ∧ FnOk P w K mg base CX0 3 f fd nInit (spInit C)
theorem pe_new {X : Cx} {C : Addr} {e : Expr} {t : TA} {p pos : Pos} (D : MkD X.prog X.w X.K X.mg X.base C) (gC : X.mg "Folder" = some (.ref C)) (hr : Room 4 X.A) (hg : Gl X "Folder") (ha : PA X [e] t)
    (he : starEach [e] X.env = (false, eval e X.env) :: starEach [] X.env := by rfl) : PE X (.Call (.Name "Folder" p) [e] [] pos) (tMake C (spInit C) [] E0 t) := by
  obtain ⟨f, fd, hm, hb, F⟩ := D.ex
  exact pe_make hm F hr hg gC hb .nil pass0 ha (he := he)
theorem Dv.tups {H : Hp} {a : Addr} {ds : List PyData} (h : Dv H (.ref a) (.tuple ds)) : ∃ xs, H a = some (.tup xs) ∧ DvA H xs ds := by
  cases h with
  | tup e r => exact ⟨_, e, r⟩
section
variable {P : Program} {w : World} {K : PySem.W.Frag} {mg : Str → Option Value} {base : Heap} {C : Addr}
theorem ok_copied {f : Addr} {fd : FuncData} (t : ClT K mg C) (D_new : MkD P w K mg base C) (F : Fun K "_copied" "Folder._copied" sCopied f fd) : FnOk P w K mg base CX0 5 f fd nSelf (spCopied C) := by
  have nd := scCopied.nd
  refine F.ok scCopied (fun vs H Q E h => ?_) (fun cdv A outer s H vs Q E hr h => ?_)
  · obtain ⟨p, dx, tl, tg, a, n, m, c, rfl, _⟩ := h
    rfl
  · obtain ⟨p, dx, tl, tg, a, n, m, c, rfl, hp, ha, q⟩ := h
    refine ⟨_, pss_cons (ps_set (i := 1) nd rfl (Or.inl rfl) (pe_new D_new t.gC (hr.mono (by decide)) rfl (pa_cons (pe_fld (pv 0) rfl) pa_nil)))
 (pss_cons (ps_fld (pv 1) (pe_fld (pv 0) rfl) rfl)
 (pss_cons (ps_fld (pv 1) (pe_fld (pv 0) rfl) rfl)
 (pss_cons (ps_fld (pv 1) (pe_fld (pv 0) rfl) rfl)
 (pss_cons (ps_fld (pv 1) (pe_fld (pv 0) rfl) rfl)
 (pss_cons (ps_fld (pv 1) (pe_fld (pv 0) rfl) rfl)
 (pss_one (ps_ret (pv 1)))))))), ?_⟩
    refine ⟨_, rfl, p, C, dx, _, _, rfl, hp, t.cl, t.nA, fl_age, fun x dq nx ndq hne => ⟨x, dq, a, rfl, upd_same, ha, fun H' tl' tg' keep hx _ _ => ⟨rfl, ?_⟩⟩⟩
    have s1 : Same H H' := fun b o hb => keep b o (ne_of_none hb nx) (by rw [upd_ne (ne_of_none hb nx), upd_ne (ne_of_none hb ndq)]; exact hb)
    have npx : p ≠ x := ne_of_none hp nx
    have hp1 := s1 _ _ hp
    have step : ∀ (H1 : Hp), H1 p = some (.ins C dx (flds (.int a) (.ref tl) (.int n) (.int m) (.ref tg) (.int c))) → ∀ o, (upd H1 x o) p = some (.ins C dx (flds (.int a) (.ref tl) (.int n) (.int m) (.ref tg) (.int c))) := fun H1 h o => by rw [upd_ne npx]; exact h
    refine ⟨_, rfl, p, C, dx, _, _, rfl, hp1, t.cl, t.nL, fl_let, _, rfl, x, C, dq, _, rfl, hx, t.cl, t.nL, by show 6 < 1000; decide, ?_⟩
    rw [pu_let]
    refine ⟨_, rfl, p, C, dx, _, _, rfl, step _ hp1 _, t.cl, t.nN, fl_nx, _, rfl, x, C, dq, _, rfl, upd_same, t.cl, t.nN, by show 6 < 1000; decide, ?_⟩
    rw [pu_nx]
    refine ⟨_, rfl, p, C, dx, _, _, rfl, step _ (step _ hp1 _) _, t.cl, t.nM, fl_mk, _, rfl, x, C, dq, _, rfl, upd_same, t.cl, t.nM, by show 6 < 1000; decide, ?_⟩
    rw [pu_mk]
    refine ⟨_, rfl, p, C, dx, _, _, rfl, step _ (step _ (step _ hp1 _) _) _, t.cl, t.nG, fl_gone, _, rfl, x, C, dq, _, rfl, upd_same, t.cl, t.nG, by show 6 < 1000; decide, ?_⟩
    rw [pu_gone]
    refine ⟨_, rfl, p, C, dx, _, _, rfl, step _ (step _ (step _ (step _ hp1 _) _) _) _, t.cl, t.nC, fl_cut, _, rfl, x, C, dq, _, rfl, upd_same, t.cl, t.nC, by show 6 < 1000; decide, ?_⟩
    rw [pu_cut]
    exact ⟨_, rfl, q x dq _ (((((s1.mut nx).mut nx).mut nx).mut nx).mut nx) nx upd_same⟩
theorem ok_app {f : Addr} {fd : FuncData} (t : ClT K mg C) (D_is_body : Def P w K mg base CX0 2 "is_body" pV spBody) (D_is_signs : Def P w K mg base CX0 2 "is_signs" pV spSigns) (M_copied : MDef P w K mg base CX0 5 C "_copied" nSelf (spCopied C))
    (F : Fun K "appended" "Folder.appended" sApp f fd) : FnOk P w K mg base CX0 6 f fd pApp (spApp C) := by
  have nd := scApp.nd
  refine F.ok scApp (fun vs H Q E h => ?_) (fun cdv A outer s H vs Q E hr h => ?_)
  · obtain ⟨p, sg, F, b, ss, rfl, _⟩ := h
    rfl
  · obtain ⟨p, sg, F, b, ss, rfl, ⟨dx, tl, tg, hp, h1, h2⟩, ha, hb, hs, hu, hl, q⟩ := h
    refine ⟨_, pss_cons (ps_if (pt_not (pt_val (pe_def D_is_body (hr.mono (by decide)) rfl pass0 (pa_cons (pv 1) pa_nil)))) pss_any pss_nil)
 (pss_cons (ps_if (pt_not (pt_val (pe_def D_is_signs (hr.mono (by decide)) rfl pass0 (pa_cons (pv 2) pa_nil)))) pss_any pss_nil)
 (pss_cons (ps_set (i := 3) nd rfl (Or.inl rfl) (pe_mdef0 M_copied t.cl (hr.mono (by decide)) pass0 (pv 0)))
 (pss_cons (ps_fldaug (pv 3) pe_int in_add)
 (pss_cons (ps_fld (pv 3) (pe_tup (pa_star (pe_fld (pv 0) rfl) (pa_cons (pe_tup (pa_cons (pe_fld (pv 0) rfl) (pa_cons (pv 1) (pa_cons (pv 2) (pa_cons (pe_fld (pv 3) rfl) pa_nil))))) pa_nil))) rfl)
 (pss_cons (ps_fldaug (pv 3) pe_int in_add)
 (pss_one (ps_ret (pv 3)))))))), ?_⟩
    refine ⟨_, rfl, b, rfl, hb, _, rfl, itbF rfl ?_⟩
    refine ⟨_, rfl, sg, ss, rfl, hs, okSs_iff.mpr hu, fun H1 s1 => ⟨_, rfl, itbF rfl ?_⟩⟩
    refine ⟨_, rfl, p, dx, _, rfl, s1 _ _ hp, fl_no (by decide +kernel), p, dx, tl, tg, F.age, F.nx, F.mr, F.ct, rfl, s1 _ _ hp, ha, fun x dq H2 s2 nx hx => ?_⟩
    have s12 := s1.trans s2
    have nxH : H x = none := s1.free nx
    have npx : p ≠ x := ne_of_none (s1 _ _ hp) nx
    refine ⟨_, rfl, x, C, dq, _, _, rfl, hx, t.cl, t.nM, fl_mk, _, _, rfl, rfl, dq, _, hx, by show 6 < 1000; decide, ?_⟩
    rw [pu_mk]
    have sA : Same H (upd H2 x (.ins C dq (flds (.int F.age) (.ref tl) (.int F.nx) (.int (F.mr + 1)) (.ref tg) (.int F.ct)))) := s12.mut nxH
    have hxA : (upd H2 x (.ins C dq (flds (.int F.age) (.ref tl) (.int F.nx) (.int (F.mr + 1)) (.ref tg) (.int F.ct)))) x = _ := upd_same
    generalize upd H2 x (.ins C dq (flds (.int F.age) (.ref tl) (.int F.nx) (.int (F.mr + 1)) (.ref tg) (.int F.ct))) = HA at sA hxA
    obtain ⟨xs, e0, r0⟩ := Dv.tups h1
    refine ⟨_, rfl, p, C, dx, _, _, rfl, sA _ _ hp, t.cl, t.nL, fl_let, tl, xs, rfl, .inl (st (sA _ _ e0)), ?_⟩
    refine ⟨_, rfl, p, C, dx, _, _, rfl, sA _ _ hp, t.cl, t.nN, fl_nx, _, rfl, _, rfl, _, rfl, x, C, dq, _, _, rfl, hxA, t.cl, t.nM, fl_mk, by show 4 ≤ sizeLine; decide, fun lt nlt => ⟨?_, fun tn ntn => ?_⟩⟩
    · have hlen := r0.len
      rw [List.length_map] at hlen
      exact lt1 _ (by rw [List.length_append, hlen]; show F.ls.length + 1 ≤ 100000; omega)
    · have sB := (sA.new nlt (o := .tup [.int F.nx, .int b, .ref sg, .int (F.mr + 1)])).new ntn (o := .tup (xs ++ [.ref lt]))
      have nxl : x ≠ lt := ne_of_none hxA nlt
      have nxt : x ≠ tn := ne_of_none (by rw [upd_ne nxl]; exact hxA) ntn
      have hlt : (upd (upd HA lt (.tup [.int F.nx, .int b, .ref sg, .int (F.mr + 1)])) tn (.tup (xs ++ [.ref lt]))) lt = some (.tup [.int F.nx, .int b, .ref sg, .int (F.mr + 1)]) := same_new ntn _ _ upd_same
      refine ⟨_, rfl, x, C, dq, _, rfl, (by rw [upd_ne nxt, upd_ne nxl]; exact hxA), t.cl, t.nL, by show 6 < 1000; decide, ?_⟩
      rw [pu_let]
      refine ⟨_, rfl, x, C, dq, _, _, rfl, upd_same, t.cl, t.nN, fl_nx, _, _, rfl, rfl, dq, _, upd_same, by show 6 < 1000; decide, ?_⟩
      rw [pu_nx]
      have sC := (sB.mut nxH (o := .ins C dq (flds (.int F.age) (.ref tn) (.int F.nx) (.int (F.mr + 1)) (.ref tg) (.int F.ct)))).mut nxH (o := .ins C dq (flds (.int F.age) (.ref tn) (.int (F.nx + 1)) (.int (F.mr + 1)) (.ref tg) (.int F.ct)))
      refine ⟨_, rfl, q x _ sC nxH ⟨dq, tn, tg, upd_same, ?_, h2.same sC⟩⟩
      have rl := r0.same sC
      refine .tup (xs := xs ++ [.ref lt]) (by rw [upd_ne nxt.symm, upd_ne nxt.symm, upd_same]) ?_
      have em : (fApp F b ss).ls.map ltD = F.ls.map ltD ++ [ltD ⟨F.nx, b, ss, F.mr + 1⟩] := by unfold fApp; rw [List.map_append]; rfl
      rw [em]
      refine rl.app (.cons (.tup (by rw [upd_ne nxl.symm, upd_ne nxl.symm]; exact hlt) (.cons (.int _) (.cons (.int _) (.cons (.tup (sC _ _ hs) (dv_strs ss)) (.cons (.int _) .nil))))) .nil)
end
end K1
set_option Elab.async false
set_option linter.all false
set_option maxRecDepth 100000
set_option maxHeartbeats 2000000
namespace K1
open PySem PySem.Spec PyProof.Rows L2 RZ StX
/-! ### data of tuples alone -/
mutual
noncomputable def tO : PyData → Bool
  | .list _ => false
  | .tuple xs => tOA xs
  | .dict _ => false
  | _ => true
noncomputable def tOA : List PyData → Bool
  | [] => true
  | x :: r => tO x && tOA r
end
mutual
theorem Dv.mut {H : Hp} {a : Addr} {o o' : HO} (ha : H a = some o) (no : ∀ xs, o ≠ .tup xs) : ∀ {v : V} {d : PyData}, Dv H v d → tO d = true → Dv (upd H a o') v d
  | _, _, .non, _ => .non
  | _, _, .bl b, _ => .bl b
  | _, _, .int i, _ => .int i
  | _, _, .str x, _ => .str x
  | _, _, .lst h r, n => by cases n
  | _, _, .tup h r, n => .tup (by rw [upd_ne (fun z => by subst z; rw [h] at ha; cases ha; exact no _ rfl)]; exact h) (DvA.mut ha no r n)
  | _, _, .dic h, n => by cases n
theorem DvA.mut {H : Hp} {a : Addr} {o o' : HO} (ha : H a = some o) (no : ∀ xs, o ≠ .tup xs) : ∀ {vs : List V} {ds : List PyData}, DvA H vs ds → tOA ds = true → DvA (upd H a o') vs ds
  | _, _, .nil, _ => .nil
  | _, _, .cons h r, n => .cons (Dv.mut ha no h ((Bool.and_eq_true _ _).mp n).1) (DvA.mut ha no r ((Bool.and_eq_true _ _).mp n).2)
end
theorem tO_strs : ∀ ss : List Str, tOA (ss.map PyData.str) = true
  | [] => rfl
  | s :: r => by
    show (true && tOA (r.map PyData.str)) = true
    rw [tO_strs r]; rfl
theorem tO_lt (l : Lt) : tO (ltD l) = true := by
  show (true && (true && (tOA (l.s.map PyData.str) && (true && true)))) = true
  rw [tO_strs]; rfl
theorem tO_lts : ∀ ls : List Lt, tOA (ls.map ltD) = true
  | [] => rfl
  | l :: r => by
    show (tO (ltD l) && tOA (r.map ltD)) = true
    rw [tO_lt, tO_lts r]; rfl
theorem tO_gos : ∀ gs : List (Int × Int), tOA (gs.map goD) = true
  | [] => rfl
  | l :: r => by
    show (true && tOA (r.map goD)) = true
    rw [tO_gos r]; rfl
/-! ### what the deeds make -/
noncomputable def remL (ns : List Int) : List Lt → Int → List Lt × List (Int × Int) × Int
  | [], m => ([], [], m)
  | l :: r, m => if l.n ∈ ns then ((remL ns r (m + 1)).1, (m + 1, l.n) :: (remL ns r (m + 1)).2.1, (remL ns r (m + 1)).2.2) else (l :: (remL ns r m).1, (remL ns r m).2.1, (remL ns r m).2.2)
noncomputable def fRem (F : Fo) (ns : List Int) : Fo := { F with ls := (remL ns F.ls F.mr).1, go := F.go ++ (remL ns F.ls F.mr).2.1, mr := (remL ns F.ls F.mr).2.2 }
noncomputable def newS (ns : List Int) (g : List Str → List Str) (l : Lt) : List Str := if l.n ∈ ns then g l.s else l.s
noncomputable def sigL (ns : List Int) (g : List Str → List Str) : List Lt → Int → List Lt × Int
  | [], m => ([], m)
  | l :: r, m => if newS ns g l = l.s then (l :: (sigL ns g r m).1, (sigL ns g r m).2) else (⟨l.n, l.b, newS ns g l, m + 1⟩ :: (sigL ns g r (m + 1)).1, (sigL ns g r (m + 1)).2)
noncomputable def fSig (F : Fo) (ns : List Int) (g : List Str → List Str) : Fo := { F with ls := (sigL ns g F.ls F.mr).1, mr := (sigL ns g F.ls F.mr).2 }
noncomputable abbrev sRem : Stmt := mS 12
noncomputable abbrev nRem : List Str := ["self", "numbers", "chosen", "folder", "letters", "gone", "letter"]
noncomputable abbrev pRem : List Str := ["self", "numbers"]
theorem scRem : FnScope nRem pRem (defScope sRem) := ⟨rfl, rfl, rfl, by decide +kernel, rfl, by decide +kernel, by decide +kernel⟩
/-- what a deed on numbers wants -/
structure NumsAt (H : Hp) (a : Addr) (ns : List Int) : Prop where
  at_ : SeqH H a (ns.map V.int)
  one : ∀ n ∈ ns, 1 ≤ n
  len : ns.length ≤ 1000
noncomputable def spRem (C : Addr) : Sp := fun vs H Q _ => ∃ (p na : Addr) (F : Fo) (ns : List Int), vs = [.ref p, .ref na] ∧ FoAt C H p F ∧ 1 ≤ F.age ∧ NumsAt H na ns ∧ F.ls.length ≤ 1000 ∧ F.go.length ≤ 1000 ∧ ∀ q H', Same H H' → H q = none → FoAt C H' q (fRem F ns) → Q (.ref q) H'
theorem drop_cons {α : Type} {l : List α} {i : Nat} {x : α} (h : l[i]? = some x) : l.drop i = x :: l.drop (i + 1) := by
  have hi := lt_of_get h
  rw [List.drop_eq_getElem_cons hi]
  congr 1
  rw [List.getElem?_eq_getElem hi] at h
  exact Option.some.inj h
section
variable {P : Program} {w : World} {K : PySem.W.Frag} {mg : Str → Option Value} {base : Heap} {C : Addr}
theorem ok_rem {f : Addr} {fd : FuncData} (T : Bk mg) (t : ClT K mg C) (D_check_numbers : Def P w K mg base CX0 4 "_check_numbers" nCkNums spCkNums) (M_copied : MDef P w K mg base CX0 5 C "_copied" nSelf (spCopied C))
    (F : Fun K "removed" "Folder.removed" sRem f fd) : FnOk P w K mg base CX0 6 f fd pRem (spRem C) := by
  have nd := scRem.nd
  refine F.ok scRem (fun vs H Q E h => ?_) (fun cdv A outer s H vs Q E hr h => ?_)
  · obtain ⟨p, na, F, ns, rfl, _⟩ := h
    rfl
  · obtain ⟨p, na, F, ns, rfl, ⟨dx, tl, tg, hp, h1, h2⟩, ha, hn, hl, hgl, q⟩ := h
    refine ⟨_, pss_cons (ps_expr (pe_def D_check_numbers (hr.mono (by decide)) rfl pass0 (pa_cons (pv 1) pa_nil)))
 (pss_cons (ps_set (i := 2) nd rfl (Or.inl rfl) (pe_callTy (cr_setI (P := P) (w := w) (K := K) rfl rfl rfl rfl) (by rfl) T.set PyProof.Rows.boot_set (pa_cons (pv 1) pa_nil)))
 (pss_cons (ps_set (i := 3) nd rfl (Or.inl rfl) (pe_mdef0 M_copied t.cl (hr.mono (by decide)) pass0 (pv 0)))
 (pss_cons (ps_set (i := 4) nd rfl (Or.inl rfl) (pe_lst pa_nil))
 (pss_cons (ps_set (i := 5) nd rfl (Or.inl rfl) (pe_lst pa_nil))
 (C8.pss_cut (ps_for PassesOwn.never rfl (pi_tupK (K := K) rfl (pe_fld (pv 0) rfl)) (pg_name (i := 6) nd rfl (Or.inl rfl))
   (pss_one (ps_if (pt_cmpR (or_sinI (P := P) (w := w) rfl rfl) (pe_ix (ix_tupK (K := K) rfl) (pv 6) pe_int (fun _ _ => rfl)) (pv 2) (by rfl))
     (pss_cons (ps_fldaug (pv 3) pe_int in_add) (pss_one (ps_expr (pe_bm PySem.F.plainAttrs_list PySem.F.slot_list_append PySem.F.type_list_append mt_append (pv 5) (pa_cons (pe_tup (pa_cons (pe_fld (pv 3) rfl) (pa_cons (pe_ix (ix_tupK (K := K) rfl) (pv 6) pe_int (fun _ _ => rfl)) pa_nil))) pa_nil)))))
     (pss_one (ps_expr (pe_bm PySem.F.plainAttrs_list PySem.F.slot_list_append PySem.F.type_list_append mt_append (pv 4) (pa_cons (pv 6) pa_nil)))))))
 (pss_cons (ps_fld (pv 3) (pe_callTy (call_tuple_ofK (K := K) rfl) (by rfl) T.tuple PyProof.Rows.boot_tuple (pa_cons (pv 4) pa_nil)) rfl)
 (pss_cons (ps_fld (pv 3) (pe_tup (pa_star (pe_fld (pv 0) rfl) (pa_star (pv 5) pa_nil))) rfl)
 (pss_one (ps_ret (pv 3)))))))))), ?_⟩
    obtain ⟨xs, e0, r0⟩ := Dv.tups h1
    obtain ⟨gs, g0, gr0⟩ := Dv.tups h2
    refine ⟨_, rfl, na, ns, rfl, hn.at_, hn.one, hn.len, fun H1 s1 => ?_⟩
    refine ⟨_, rfl, na, ns, rfl, hn.at_.same s1, hn.len, fun cs nn ncs => ?_⟩
    have s2 := s1.new ncs (o := SetI P w cs (fun j => decide (j ∈ ns)) nn)
    have hcs2 : (upd H1 cs (SetI P w cs (fun j => decide (j ∈ ns)) nn)) cs = _ := upd_same
    generalize upd H1 cs (SetI P w cs (fun j => decide (j ∈ ns)) nn) = H2 at s2 hcs2
    refine ⟨_, rfl, p, dx, _, rfl, s2 _ _ hp, fl_no (by decide +kernel), p, dx, tl, tg, F.age, F.nx, F.mr, F.ct, rfl, s2 _ _ hp, ha, fun x dq H3 s3 nx hx => ?_⟩
    have s23 := s2.trans s3
    have nxH : H x = none := s2.free nx
    have hcs3 := s3 _ _ hcs2
    refine ⟨Nat.zero_le _, fun lk nlk => ⟨Nat.zero_le _, fun lg nlg => ?_⟩⟩
    have s4 := (s23.new nlk (o := .lst [])).new nlg (o := .lst [])
    have nlkH : H lk = none := s23.free nlk
    have nlgH : H lg = none := (s23.new nlk (o := .lst [])).free nlg
    have xlk : x ≠ lk := ne_of_none hx nlk
    have xlg : x ≠ lg := ne_of_none (by rw [upd_ne xlk]; exact hx) nlg
    have lkg : lk ≠ lg := ne_of_none (show (upd H3 lk (.lst [])) lk = some (.lst []) from upd_same) nlg
    have csk : cs ≠ lk := ne_of_none hcs3 nlk
    have csg : cs ≠ lg := ne_of_none (by rw [upd_ne csk]; exact hcs3) nlg
    have csx : cs ≠ x := fun z => by rw [z] at hcs3; rw [hx] at hcs3; simp [SetI] at hcs3
    refine ⟨fun σ G => ∃ v6 ks kept gg gone m, σ = [some (.ref p), some (.ref na), some (.ref cs), some (.ref x), some (.ref lk), some (.ref lg), v6] ∧ Same H G ∧ G x = some (.ins C dq (flds (.int F.age) (.ref tl) (.int F.nx) (.int m) (.ref tg) (.int F.ct))) ∧ G lk = some (.lst ks) ∧ DvA G ks (kept.map ltD) ∧ G lg = some (.lst gg) ∧ DvA G gg (gone.map goD) ∧
      remL ns F.ls F.mr = (kept, gone, m) ∧ kept.length ≤ 1000 ∧ gone.length ≤ 1000, ?_, ?_⟩
    · refine ⟨_, rfl, p, C, dx, _, _, rfl, s4 _ _ hp, t.cl, t.nL, fl_let, tl, rfl, ⟨_, st (s4 _ _ e0)⟩, for_tup (K := K) (a := tl) (xs := xs) (fun i σ G => ∃ v6 ks kept gg gone m, σ = [some (.ref p), some (.ref na), some (.ref cs), some (.ref x), some (.ref lk), some (.ref lg), v6] ∧ Same H G ∧ G cs = some (SetI P w cs (fun j => decide (j ∈ ns)) nn) ∧ G x = some (.ins C dq (flds (.int F.age) (.ref tl) (.int F.nx) (.int m) (.ref tg) (.int F.ct))) ∧ G lk = some (.lst ks) ∧ DvA G ks (kept.map ltD) ∧ G lg = some (.lst gg) ∧ DvA G gg (gone.map goD) ∧
          remL ns F.ls F.mr = (kept ++ (remL ns (F.ls.drop i) m).1, gone ++ (remL ns (F.ls.drop i) m).2.1, (remL ns (F.ls.drop i) m).2.2) ∧ kept.length ≤ i ∧ gone.length ≤ i) ?_ ?_ ?_ ?_⟩
      · exact ⟨none, [], [], [], [], F.mr, rfl, s4, (by rw [upd_ne csg, upd_ne csk]; exact hcs3), (by rw [upd_ne xlg, upd_ne xlk]; exact hx), (by rw [upd_ne lkg]; exact upd_same), .nil, upd_same, .nil, rfl, Nat.le_refl _, Nat.le_refl _⟩
      · rintro i σ G _ ⟨v6, ks, kept, gg, gone, m, rfl, sG, _⟩
        exact st (sG _ _ e0)
      · rintro i y σ G hy ⟨v6, ks, kept, gg, gone, m, rfl, sG, hcs, hx, hk, dk, hg, dg, er, l1, l2⟩
        have hi := lt_of_get hy
        have hlen := r0.len
        rw [List.length_map] at hlen
        obtain ⟨e, he, hde⟩ := (r0.same sG).get hy
        rw [List.getElem?_map] at he
        cases hF : F.ls[i]? with
        | none => rw [hF] at he; cases he
        | some l =>
          rw [hF] at he
          obtain rfl := (Option.some.inj he).symm
          rw [drop_cons hF] at er
          obtain ⟨ta, us, rfl, hta, hus⟩ : ∃ ta us, y = .ref ta ∧ G ta = some (.tup us) ∧ DvA G us [.int l.n, .int l.b, .tuple (l.s.map PyData.str), .int l.m] := by
            cases hde with
            | tup h r => exact ⟨_, _, rfl, h, r⟩
          obtain ⟨u0, ur, rfl⟩ : ∃ u0 ur, us = u0 :: ur := by
            cases hus with
            | cons h r => exact ⟨_, _, rfl⟩
          have hu0 : u0 = .int l.n := by
            cases hus with
            | cons h r => cases h; rfl
          subst hu0
          refine ⟨_, rfl, ta, _, 0, .int l.n, rfl, rfl, st hta, atI_nat (j := 0) rfl, _, rfl, l.n, cs, _, nn, rfl, rfl, hcs, _, rfl, ?_⟩
          by_cases c : l.n ∈ ns
          · refine itbT (decide_eq_true c) ?_
            have er' : remL ns F.ls F.mr = ((kept ++ (remL ns (F.ls.drop (i + 1)) (m + 1)).1, (gone ++ [(m + 1, l.n)]) ++ (remL ns (F.ls.drop (i + 1)) (m + 1)).2.1, (remL ns (F.ls.drop (i + 1)) (m + 1)).2.2) : List Lt × List (Int × Int) × Int) := by
              rw [er]
              show (kept ++ (if l.n ∈ ns then _ else _ : List Lt × List (Int × Int) × Int).1, _, _) = _
              simp only [remL, if_pos c, List.append_assoc, List.singleton_append]
            refine ⟨_, rfl, x, C, dq, _, _, rfl, hx, t.cl, t.nM, fl_mk, _, _, rfl, rfl, dq, _, hx, by show 6 < 1000; decide, ?_⟩
            rw [pu_mk]
            have xk : x ≠ lk := fun z => by rw [z, hk] at hx; cases hx
            have xg : x ≠ lg := fun z => by rw [z, hg] at hx; cases hx
            have kg : lk ≠ lg := lkg
            have sA := sG.mut nxH (o := .ins C dq (flds (.int F.age) (.ref tl) (.int F.nx) (.int (m + 1)) (.ref tg) (.int F.ct)))
            have dkA := dk.mut (o' := .ins C dq (flds (.int F.age) (.ref tl) (.int F.nx) (.int (m + 1)) (.ref tg) (.int F.ct))) hx (fun _ z => by cases z) (tO_lts _)
            have dgA := dg.mut (o' := .ins C dq (flds (.int F.age) (.ref tl) (.int F.nx) (.int (m + 1)) (.ref tg) (.int F.ct))) hx (fun _ z => by cases z) (tO_gos _)
            have hxA : (upd G x (.ins C dq (flds (.int F.age) (.ref tl) (.int F.nx) (.int (m + 1)) (.ref tg) (.int F.ct)))) x = _ := upd_same
            have hkA : (upd G x (.ins C dq (flds (.int F.age) (.ref tl) (.int F.nx) (.int (m + 1)) (.ref tg) (.int F.ct)))) lk = some (.lst ks) := by rw [upd_ne xk.symm]; exact hk
            have hgA : (upd G x (.ins C dq (flds (.int F.age) (.ref tl) (.int F.nx) (.int (m + 1)) (.ref tg) (.int F.ct)))) lg = some (.lst gg) := by rw [upd_ne xg.symm]; exact hg
            have hcA : (upd G x (.ins C dq (flds (.int F.age) (.ref tl) (.int F.nx) (.int (m + 1)) (.ref tg) (.int F.ct)))) cs = some (SetI P w cs (fun j => decide (j ∈ ns)) nn) := by rw [upd_ne csx]; exact hcs
            have htA : (upd G x (.ins C dq (flds (.int F.age) (.ref tl) (.int F.nx) (.int (m + 1)) (.ref tg) (.int F.ct)))) ta = some (.tup (.int l.n :: ur)) := by rw [upd_ne (fun z => by rw [z, hx] at hta; cases hta)]; exact hta
            generalize upd G x (.ins C dq (flds (.int F.age) (.ref tl) (.int F.nx) (.int (m + 1)) (.ref tg) (.int F.ct))) = GA at sA dkA dgA hxA hkA hgA hcA htA
            refine ⟨_, rfl, .inl ⟨rfl, _, sq hgA⟩, _, rfl, x, C, dq, _, _, rfl, hxA, t.cl, t.nM, fl_mk, _, rfl, ta, _, 0, .int l.n, rfl, rfl, st htA, atI_nat (j := 0) rfl, by show 2 ≤ sizeLine; decide, fun gn ngn => ?_⟩
            have sB := same_new (o := .tup [.int (m + 1), .int l.n]) ngn
            refine ⟨lg, _, _, rfl, rfl, sB _ _ hgA, lt2 _ (by rw [dgA.len, List.length_map]; omega), ?_⟩
            have hgB := sB _ _ hgA
            refine ⟨some (.ref ta), ks, kept, gg ++ [.ref gn], gone ++ [(m + 1, l.n)], m + 1, rfl, (sA.trans sB).mut nlgH, (by rw [upd_ne csg]; exact sB _ _ hcA), (by rw [upd_ne xg]; exact sB _ _ hxA), (by rw [upd_ne kg]; exact sB _ _ hkA), (dkA.same sB).mut hgB (fun _ z => by cases z) (tO_lts _), upd_same, ?_, er', by omega, by rw [List.length_append]; show gone.length + 1 ≤ i + 1; omega⟩
            rw [List.map_append]
            exact ((dgA.same sB).app (.cons (.tup upd_same (.cons (.int _) (.cons (.int _) .nil))) .nil)).mut hgB (fun _ z => by cases z) (by rw [show gone.map goD ++ [PyData.tuple [.int (m + 1), .int l.n]] = (gone ++ [(m + 1, l.n)]).map goD by rw [List.map_append]; rfl]; exact tO_gos _)
          · refine itbF (decide_eq_false c) ?_
            have er' : remL ns F.ls F.mr = ((kept ++ [l]) ++ (remL ns (F.ls.drop (i + 1)) m).1, gone ++ (remL ns (F.ls.drop (i + 1)) m).2.1, (remL ns (F.ls.drop (i + 1)) m).2.2) := by
              rw [er]
              simp only [remL, if_neg c, List.append_assoc, List.singleton_append]
            refine ⟨_, rfl, .inl ⟨rfl, _, sq hk⟩, _, rfl, lk, _, _, rfl, rfl, hk, lt2 _ (by rw [dk.len, List.length_map]; omega), ?_⟩
            have xk : x ≠ lk := fun z => by rw [z, hk] at hx; cases hx
            refine ⟨some (.ref ta), ks ++ [.ref ta], kept ++ [l], gg, gone, m, rfl, sG.mut nlkH, (by rw [upd_ne csk]; exact hcs), (by rw [upd_ne xk]; exact hx), upd_same, ?_, (by rw [upd_ne lkg.symm]; exact hg), dg.mut hk (fun _ z => by cases z) (tO_gos _), er', by rw [List.length_append]; show kept.length + 1 ≤ i + 1; omega, by omega⟩
            rw [List.map_append]
            exact (dk.app (.cons (.tup hta hus) .nil)).mut hk (fun _ z => by cases z) (by rw [show kept.map ltD ++ [PyData.tuple [.int l.n, .int l.b, .tuple (l.s.map PyData.str), .int l.m]] = (kept ++ [l]).map ltD by rw [List.map_append]; rfl]; exact tO_lts _)
      · rintro σ G ⟨v6, ks, kept, gg, gone, m, rfl, sG, hcs, hx, hk, dk, hg, dg, er, l1, l2⟩
        have hlen := r0.len
        rw [List.length_map] at hlen
        rw [hlen, List.drop_length] at er
        refine ⟨v6, ks, kept, gg, gone, m, rfl, sG, hx, hk, dk, hg, dg, ?_, by omega, by omega⟩
        rw [er]
        simp [remL]
    · rintro σ G ⟨v6, ks, kept, gg, gone, m, rfl, sG, hx, hk, dk, hg, dg, er, l1, l2⟩
      refine ⟨_, rfl, lk, ks, rfl, .inl ⟨sq hk, fun tk ntk => ?_⟩⟩
      have sA := same_new (o := .tup ks) ntk
      refine ⟨_, rfl, x, C, dq, _, rfl, sA _ _ hx, t.cl, t.nL, by show 6 < 1000; decide, ?_⟩
      rw [pu_let]
      have nxt : x ≠ tk := ne_of_none hx ntk
      have sB := ((sG.trans sA).mut nxH (o := .ins C dq (flds (.int F.age) (.ref tk) (.int F.nx) (.int m) (.ref tg) (.int F.ct))))
      have hkB : (upd (upd G tk (.tup ks)) x (.ins C dq (flds (.int F.age) (.ref tk) (.int F.nx) (.int m) (.ref tg) (.int F.ct)))) tk = some (.tup ks) := by rw [upd_ne nxt.symm]; exact upd_same
      have hxB : (upd (upd G tk (.tup ks)) x (.ins C dq (flds (.int F.age) (.ref tk) (.int F.nx) (.int m) (.ref tg) (.int F.ct)))) x = _ := upd_same
      have xg : x ≠ lg := fun z => by rw [z, hg] at hx; cases hx
      have hgB : (upd (upd G tk (.tup ks)) x (.ins C dq (flds (.int F.age) (.ref tk) (.int F.nx) (.int m) (.ref tg) (.int F.ct)))) lg = some (.lst gg) := by rw [upd_ne xg.symm]; exact sA _ _ hg
      have dkB := (dk.same sA).mut (o' := .ins C dq (flds (.int F.age) (.ref tk) (.int F.nx) (.int m) (.ref tg) (.int F.ct))) (sA _ _ hx) (fun _ z => by cases z) (tO_lts _)
      have dgB := (dg.same sA).mut (o' := .ins C dq (flds (.int F.age) (.ref tk) (.int F.nx) (.int m) (.ref tg) (.int F.ct))) (sA _ _ hx) (fun _ z => by cases z) (tO_gos _)
      generalize upd (upd G tk (.tup ks)) x (.ins C dq (flds (.int F.age) (.ref tk) (.int F.nx) (.int m) (.ref tg) (.int F.ct))) = GB at sB hkB hxB hgB dkB dgB
      refine ⟨_, rfl, p, C, dx, _, _, rfl, sB _ _ hp, t.cl, t.nG, fl_gone, tg, gs, rfl, .inl (st (sB _ _ g0)), _, rfl, lg, gg, rfl, .inr (sq hgB), ?_, fun tn ntn => ?_⟩
      · rw [List.append_nil, List.length_append, gr0.len, dgB.len, List.length_map, List.length_map]
        exact lt1 _ (by omega)
      · rw [List.append_nil]
        have sC := same_new (o := .tup (gs ++ gg)) ntn
        have nxn : x ≠ tn := ne_of_none hxB ntn
        refine ⟨_, rfl, x, C, dq, _, rfl, sC _ _ hxB, t.cl, t.nG, by show 6 < 1000; decide, ?_⟩
        rw [pu_gone]
        have sD := (sB.trans sC).mut nxH (o := .ins C dq (flds (.int F.age) (.ref tk) (.int F.nx) (.int m) (.ref tn) (.int F.ct)))
        have hxC := sC _ _ hxB
        refine ⟨_, rfl, q x _ sD nxH ?_⟩
        have ef : fRem F ns = { F with ls := kept, go := F.go ++ gone, mr := m } := by unfold fRem; rw [er]
        rw [ef]
        refine ⟨dq, tk, tn, upd_same, .tup (by rw [upd_ne nxt.symm]; exact sC _ _ hkB) ((dkB.same sC).mut hxC (fun _ z => by cases z) (tO_lts _)), .tup (by rw [upd_ne nxn.symm]; exact upd_same) ?_⟩
        show DvA _ (gs ++ gg) ((F.go ++ gone).map goD)
        rw [List.map_append]
        exact (gr0.same sD).app ((dgB.same sC).mut hxC (fun _ z => by cases z) (tO_gos _))
end
end K1
set_option Elab.async false
set_option linter.all false
set_option maxRecDepth 100000
set_option maxHeartbeats 2000000
namespace K1
open PySem PySem.Spec PyProof.Rows L2 RZ StX
theorem nd_strs : ∀ ss : List Str, noDicA (ss.map PyData.str) = true
  | [] => rfl
  | s :: r => by
    show (true && noDicA (r.map PyData.str)) = true
    rw [nd_strs r]; rfl
theorem dva_strs {H : Hp} : ∀ {xs : List V} {ss : List Str}, DvA H xs (ss.map PyData.str) → xs = ss.map V.str
  | _, [], .nil => rfl
  | _, _ :: _, .cons (.str _) r => by rw [dva_strs r]; rfl
theorem dv_lt {H : Hp} {y : V} {l : Lt} (h : Dv H y (ltD l)) : ∃ ta sa, y = .ref ta ∧ H ta = some (.tup [.int l.n, .int l.b, .ref sa, .int l.m]) ∧ H sa = some (.tup (l.s.map V.str)) := by
  cases h with
  | tup h r =>
  cases r with
  | cons h1 r =>
  cases r with
  | cons h2 r =>
  cases r with
  | cons h3 r =>
  cases r with
  | cons h4 r =>
  cases r
  cases h1
  cases h2
  cases h4
  cases h3 with
  | tup e q => exact ⟨_, _, rfl, h, by rw [e, dva_strs q]⟩
theorem dv_lt_of {H : Hp} {l : Lt} {ta sa : Addr} (h : H ta = some (.tup [.int l.n, .int l.b, .ref sa, .int l.m])) (h2 : H sa = some (.tup (l.s.map V.str))) : Dv H (.ref ta) (ltD l) :=
  .tup h (.cons (.int _) (.cons (.int _) (.cons (.tup h2 (dv_strs _)) (.cons (.int _) .nil))))
noncomputable abbrev sSig : Stmt := mS 15
noncomputable abbrev nSig : List Str := ["self", "numbers", "renewed", "chosen", "folder", "letters", "number", "body", "signs", "mark", "wanted"]
noncomputable abbrev pSig : List Str := ["self", "numbers", "renewed"]
theorem scSig : FnScope nSig pSig (defScope sSig) := ⟨rfl, rfl, rfl, by decide +kernel, rfl, by decide +kernel, by decide +kernel⟩
/-- what _signed makes of a lambda that makes g of the signs -/
noncomputable def TSig (C : Addr) (g : List Str → List Str) : V → V → (V → Hp → VK → Prop) → Hp → VK → Prop := fun x y tl H Q => ∃ p na F ns, x = .ref p ∧ y = .ref na ∧ FoAt C H p F ∧ 1 ≤ F.age ∧ NumsAt H na ns ∧ F.ls.length ≤ 1000 ∧ (∀ l ∈ F.ls, OkSs l.s) ∧ (∀ ss, OkSs ss → OkSs (g ss)) ∧
  (∀ a ss H' Q', Same H H' → OkSs ss → H' a = some (.tup (ss.map V.str)) → (∀ b H'', Same H' H'' → H'' b = some (.tup ((g ss).map V.str)) → Q' (.ref b) H'') → tl (.ref a) H' Q') ∧
  ∀ q H', Same H H' → H q = none → FoAt C H' q (fSig F ns g) → Q (.ref q) H'
theorem newS_u {ns : List Int} {g : List Str → List Str} {l : Lt} (hl : OkSs l.s) (hg : ∀ ss, OkSs ss → OkSs (g ss)) : OkSs (newS ns g l) := by
  unfold newS
  by_cases c : l.n ∈ ns
  · rw [if_pos c]; exact hg _ hl
  · rw [if_neg c]; exact hl
theorem signed_gives {X : Cx} {C c0 : Addr} {cdg : Value} {q : Str} {g : List Str → List Str} (T : Bk X.mg) (t : ClT X.K X.mg C) (M_copied : MDef X.prog X.w X.K X.mg X.base CX0 5 C "_copied" nSelf (spCopied C)) :
    LamY.GivesM 6 X nSig "Folder._signed" (defScope sSig) c0 cdg (defBody sSig) 2 "renewed" q (TSig C g) := by
  intro f c' s H Q x0 y0 tl hr hcall hc h
  have nd := scSig.nd
  obtain ⟨p, na, F, ns, rfl, rfl, ⟨dx, tl', tg, hp, h1, h2⟩, ha, hn, hl, hu, hg, hlam, q⟩ := h
  refine ⟨_, pss_cons (ps_set (i := 3) nd rfl (Or.inl rfl) (pe_callTy (cr_setI (P := X.prog) (w := X.w) (K := X.K) rfl rfl rfl rfl) (by rfl) T.set PyProof.Rows.boot_set (pa_cons (pv 1) pa_nil)))
 (pss_cons (ps_set (i := 4) nd rfl (Or.inl rfl) (pe_mdef0 M_copied t.cl (hr.mono (by decide)) pass0 (pv 0)))
 (pss_cons (ps_set (i := 5) nd rfl (Or.inl rfl) (pe_lst pa_nil))
 (C8.pss_cut (ps_for PassesOwn.never rfl (pi_tupK (K := X.K) rfl (pe_fld (pv 0) rfl)) (pg_tup rfl (pgs_cons (pg_name (i := 6) nd rfl (Or.inl rfl)) (pgs_cons (pg_name (i := 7) nd rfl (Or.inl rfl)) (pgs_cons (pg_name (i := 8) nd rfl (Or.inl rfl)) (pgs_cons (pg_name (i := 9) nd rfl (Or.inl rfl)) pgs_nil)))))
   (C8.pss_cut (ps_set (i := 10) nd rfl (Or.inl rfl) (pe_ifExp (pt_cmpR (or_sinI (P := X.prog) (w := X.w) rfl rfl) (pv 6) (pv 3) (by rfl)) (hcall _ _ _ _ (pv 8) rfl) (pv 8)))
   (pss_cons (ps_if (pt_cmpR (op_neDK (K := X.K) rfl hr.units) (pv 10) (pv 8) (nomark _))
     (pss_cons (ps_fldaug (pv 4) pe_int in_add) (pss_one (ps_set (i := 9) nd rfl (Or.inl rfl) (pe_fld (pv 4) rfl))))
     pss_nil)
   (pss_one (ps_expr (pe_bm PySem.F.plainAttrs_list PySem.F.slot_list_append PySem.F.type_list_append mt_append (pv 5) (pa_cons (pe_tup (pa_cons (pv 6) (pa_cons (pv 7) (pa_cons (pv 10) (pa_cons (pv 9) pa_nil))))) pa_nil)))))))
 (pss_cons (ps_fld (pv 4) (pe_callTy (call_tuple_ofK (K := X.K) rfl) (by rfl) T.tuple PyProof.Rows.boot_tuple (pa_cons (pv 5) pa_nil)) rfl)
 (pss_one (ps_ret (pv 4))))))), ?_⟩
  obtain ⟨xs, e0, r0⟩ := Dv.tups h1
  refine ⟨_, rfl, na, ns, rfl, hn.at_, hn.len, fun cs nn ncs => ?_⟩
  have s2 := same_new (H := H) ncs (o := SetI X.prog X.w cs (fun j => decide (j ∈ ns)) nn)
  have hcs2 : (upd H cs (SetI X.prog X.w cs (fun j => decide (j ∈ ns)) nn)) cs = some (SetI X.prog X.w cs (fun j => decide (j ∈ ns)) nn) := upd_same
  generalize upd H cs (SetI X.prog X.w cs (fun j => decide (j ∈ ns)) nn) = H2 at s2 hcs2
  refine ⟨_, rfl, p, dx, _, rfl, s2 _ _ hp, fl_no (by decide +kernel), p, dx, tl', tg, F.age, F.nx, F.mr, F.ct, rfl, s2 _ _ hp, ha, fun x dq H3 s3 nx hx => ?_⟩
  have s23 := s2.trans s3
  have nxH : H x = none := s2.free nx
  have hcs3 := s3 _ _ hcs2
  refine ⟨Nat.zero_le _, fun lk nlk => ?_⟩
  have s4 := s23.new nlk (o := .lst [])
  have nlkH : H lk = none := s23.free nlk
  have xlk : x ≠ lk := ne_of_none hx nlk
  have csk : cs ≠ lk := ne_of_none hcs3 nlk
  have csx : cs ≠ x := fun z => by rw [z] at hcs3; rw [hx] at hcs3; simp [SetI] at hcs3
  refine ⟨fun σ G => ∃ v6 v7 v8 v9 v10 ks kept m, σ = [some (.ref p), some (.ref na), some (.ref f), some (.ref cs), some (.ref x), some (.ref lk), v6, v7, v8, v9, v10] ∧ Same H G ∧ G x = some (.ins C dq (flds (.int F.age) (.ref tl') (.int F.nx) (.int m) (.ref tg) (.int F.ct))) ∧ G lk = some (.lst ks) ∧ DvA G ks (kept.map ltD) ∧
      sigL ns g F.ls F.mr = (kept, m) ∧ kept.length ≤ 1000, ?_, ?_⟩
  · refine ⟨_, rfl, p, C, dx, _, _, rfl, s4 _ _ hp, t.cl, t.nL, fl_let, tl', rfl, ⟨_, st (s4 _ _ e0)⟩, for_tup (K := X.K) (a := tl') (xs := xs) (fun i σ G => ∃ v6 v7 v8 v9 v10 ks kept m, σ = [some (.ref p), some (.ref na), some (.ref f), some (.ref cs), some (.ref x), some (.ref lk), v6, v7, v8, v9, v10] ∧ Same H G ∧ G cs = some (SetI X.prog X.w cs (fun j => decide (j ∈ ns)) nn) ∧ G x = some (.ins C dq (flds (.int F.age) (.ref tl') (.int F.nx) (.int m) (.ref tg) (.int F.ct))) ∧ G lk = some (.lst ks) ∧ DvA G ks (kept.map ltD) ∧
          sigL ns g F.ls F.mr = (kept ++ (sigL ns g (F.ls.drop i) m).1, (sigL ns g (F.ls.drop i) m).2) ∧ kept.length ≤ i) ?_ ?_ ?_ ?_⟩
    · exact ⟨none, none, none, none, none, [], [], F.mr, rfl, s4, (by rw [upd_ne csk]; exact hcs3), (by rw [upd_ne xlk]; exact hx), upd_same, .nil, rfl, Nat.le_refl _⟩
    · rintro i σ G _ ⟨v6, v7, v8, v9, v10, ks, kept, m, rfl, sG, _⟩
      exact st (sG _ _ e0)
    · rintro i y σ G hy ⟨v6, v7, v8, v9, v10, ks, kept, m, rfl, sG, hcs, hx, hk, dk, er, l1⟩
      have hi := lt_of_get hy
      have hlen := r0.len
      rw [List.length_map] at hlen
      obtain ⟨e, he, hde⟩ := (r0.same sG).get hy
      rw [List.getElem?_map] at he
      cases hF : F.ls[i]? with
      | none => rw [hF] at he; cases he
      | some l =>
        rw [hF] at he
        obtain rfl := (Option.some.inj he).symm
        rw [drop_cons hF] at er
        have hlU : OkSs l.s := hu l (List.mem_of_getElem? hF)
        have hnU : OkSs (newS ns g l) := newS_u hlU hg
        obtain ⟨ta, sa, rfl, hta, hsa⟩ := dv_lt hde
        refine ⟨ta, _, rfl, st hta, rfl, _, _, rfl, _, _, rfl, _, _, rfl, _, _, rfl, rfl, ?_⟩
        refine ⟨fun σ2 G2 => ∃ b, σ2 = [some (.ref p), some (.ref na), some (.ref f), some (.ref cs), some (.ref x), some (.ref lk), some (.int l.n), some (.int l.b), some (.ref sa), some (.int l.m), some (.ref b)] ∧ Same G G2 ∧ G2 b = some (.tup ((newS ns g l).map V.str)), ?_, ?_⟩
        · refine ⟨_, rfl, _, rfl, l.n, cs, _, nn, rfl, rfl, hcs, _, rfl, ?_⟩
          by_cases c : l.n ∈ ns
          · refine itbT (decide_eq_true c) ⟨rfl, _, rfl, sG _ _ hc, hlam sa l.s G _ sG hlU hsa fun b G2 s2 hb => ?_⟩
            exact ⟨b, rfl, s2, by unfold newS; rw [if_pos c]; exact hb⟩
          · refine itbF (decide_eq_false c) ⟨_, rfl, ?_⟩
            exact ⟨sa, rfl, fun _ _ h => h, by unfold newS; rw [if_neg c]; exact hsa⟩
        · rintro σ2 G2 ⟨b, rfl, s2, hb⟩
          have sG2 := sG.trans s2
          have hsa2 := s2 _ _ hsa
          have hx2 := s2 _ _ hx
          have hk2 := s2 _ _ hk
          have hcs2 := s2 _ _ hcs
          have dk2 := dk.same s2
          refine ⟨_, rfl, _, rfl, .tuple ((newS ns g l).map PyData.str), .tuple (l.s.map PyData.str), (Dv.tup hb (dv_strs _)).dp (nd_strs _), (Dv.tup hsa2 (dv_strs _)).dp (nd_strs _), g_shape hnU.ok, g_shape hlU.ok, _, rfl, ?_⟩
          rw [g_eqv]
          have xk : x ≠ lk := fun z => by rw [z, hk] at hx; cases hx
          by_cases c : newS ns g l = l.s
          · refine itbF (by rw [decide_eq_true c]; rfl) ?_
            refine ⟨_, rfl, .inl ⟨rfl, _, sq hk2⟩, _, rfl, _, rfl, _, rfl, _, rfl, by show 4 ≤ sizeLine; decide, fun nt nnt => ?_⟩
            have sB := same_new (o := .tup [.int l.n, .int l.b, .ref b, .int l.m]) nnt
            have hkB := sB _ _ hk2
            refine ⟨lk, _, _, rfl, rfl, hkB, lt2 _ (by rw [dk2.len, List.length_map]; omega), ?_⟩
            have er' : sigL ns g F.ls F.mr = ((kept ++ [l]) ++ (sigL ns g (F.ls.drop (i + 1)) m).1, (sigL ns g (F.ls.drop (i + 1)) m).2) := by
              rw [er]
              simp only [sigL, if_pos c, List.append_assoc, List.singleton_append]
            refine ⟨_, _, _, _, _, ks ++ [.ref nt], kept ++ [l], m, rfl, (sG2.trans sB).mut nlkH, (by rw [upd_ne csk]; exact sB _ _ hcs2), (by rw [upd_ne xk]; exact sB _ _ hx2), upd_same, ?_, er', by rw [List.length_append]; show kept.length + 1 ≤ i + 1; omega⟩
            rw [List.map_append]
            refine ((dk2.same sB).app (.cons (dv_lt_of upd_same (sB _ _ ?_)) .nil)).mut hkB (fun _ z => by cases z) (by rw [show kept.map ltD ++ [ltD l] = (kept ++ [l]).map ltD by rw [List.map_append]; rfl]; exact tO_lts _)
            rw [← c]; exact hb
          · refine itbT (by rw [decide_eq_false c]; rfl) ?_
            refine ⟨_, rfl, x, C, dq, _, _, rfl, hx2, t.cl, t.nM, fl_mk, _, _, rfl, rfl, dq, _, hx2, by show 6 < 1000; decide, ?_⟩
            rw [pu_mk]
            have sA := sG2.mut nxH (o := .ins C dq (flds (.int F.age) (.ref tl') (.int F.nx) (.int (m + 1)) (.ref tg) (.int F.ct)))
            have dkA := dk2.mut (o' := .ins C dq (flds (.int F.age) (.ref tl') (.int F.nx) (.int (m + 1)) (.ref tg) (.int F.ct))) hx2 (fun _ z => by cases z) (tO_lts _)
            have hxA : (upd G2 x (.ins C dq (flds (.int F.age) (.ref tl') (.int F.nx) (.int (m + 1)) (.ref tg) (.int F.ct)))) x = some (.ins C dq (flds (.int F.age) (.ref tl') (.int F.nx) (.int (m + 1)) (.ref tg) (.int F.ct))) := upd_same
            have hkA : (upd G2 x (.ins C dq (flds (.int F.age) (.ref tl') (.int F.nx) (.int (m + 1)) (.ref tg) (.int F.ct)))) lk = some (.lst ks) := by rw [upd_ne xk.symm]; exact hk2
            have hcA : (upd G2 x (.ins C dq (flds (.int F.age) (.ref tl') (.int F.nx) (.int (m + 1)) (.ref tg) (.int F.ct)))) cs = some (SetI X.prog X.w cs (fun j => decide (j ∈ ns)) nn) := by rw [upd_ne csx]; exact hcs2
            have hbA : (upd G2 x (.ins C dq (flds (.int F.age) (.ref tl') (.int F.nx) (.int (m + 1)) (.ref tg) (.int F.ct)))) b = some (.tup ((newS ns g l).map V.str)) := by rw [upd_ne (fun z => by rw [z, hx2] at hb; cases hb)]; exact hb
            generalize upd G2 x (.ins C dq (flds (.int F.age) (.ref tl') (.int F.nx) (.int (m + 1)) (.ref tg) (.int F.ct))) = GA at sA dkA hxA hkA hcA hbA
            refine ⟨_, rfl, x, C, dq, _, _, rfl, hxA, t.cl, t.nM, fl_mk, ?_⟩
            refine ⟨_, rfl, .inl ⟨rfl, _, sq hkA⟩, _, rfl, _, rfl, _, rfl, _, rfl, by show 4 ≤ sizeLine; decide, fun nt nnt => ?_⟩
            have sB := same_new (o := .tup [.int l.n, .int l.b, .ref b, .int (m + 1)]) nnt
            have hkB := sB _ _ hkA
            refine ⟨lk, _, _, rfl, rfl, hkB, lt2 _ (by rw [dkA.len, List.length_map]; omega), ?_⟩
            have er' : sigL ns g F.ls F.mr = ((kept ++ [⟨l.n, l.b, newS ns g l, m + 1⟩]) ++ (sigL ns g (F.ls.drop (i + 1)) (m + 1)).1, (sigL ns g (F.ls.drop (i + 1)) (m + 1)).2) := by
              rw [er]
              simp only [sigL, if_neg c, List.append_assoc, List.singleton_append]
            refine ⟨_, _, _, _, _, ks ++ [.ref nt], kept ++ [⟨l.n, l.b, newS ns g l, m + 1⟩], m + 1, rfl, (sA.trans sB).mut nlkH, (by rw [upd_ne csk]; exact sB _ _ hcA), (by rw [upd_ne xk]; exact sB _ _ hxA), upd_same, ?_, er', by rw [List.length_append]; show kept.length + 1 ≤ i + 1; omega⟩
            rw [List.map_append]
            exact ((dkA.same sB).app (.cons (dv_lt_of (l := ⟨l.n, l.b, newS ns g l, m + 1⟩) upd_same (sB _ _ hbA)) .nil)).mut hkB (fun _ z => by cases z) (by rw [show kept.map ltD ++ [ltD (⟨l.n, l.b, newS ns g l, m + 1⟩ : Lt)] = (kept ++ [(⟨l.n, l.b, newS ns g l, m + 1⟩ : Lt)]).map ltD by rw [List.map_append]; rfl]; exact tO_lts _)
    · rintro σ G ⟨v6, v7, v8, v9, v10, ks, kept, m, rfl, sG, hcs, hx, hk, dk, er, l1⟩
      have hlen := r0.len
      rw [List.length_map] at hlen
      rw [hlen, List.drop_length] at er
      refine ⟨v6, v7, v8, v9, v10, ks, kept, m, rfl, sG, hx, hk, dk, ?_, by omega⟩
      rw [er]
      simp [sigL]
  · rintro σ G ⟨v6, v7, v8, v9, v10, ks, kept, m, rfl, sG, hx, hk, dk, er, l1⟩
    refine ⟨_, rfl, lk, ks, rfl, .inl ⟨sq hk, fun tk ntk => ?_⟩⟩
    have sA := same_new (o := .tup ks) ntk
    refine ⟨_, rfl, x, C, dq, _, rfl, sA _ _ hx, t.cl, t.nL, by show 6 < 1000; decide, ?_⟩
    rw [pu_let]
    have nxt : x ≠ tk := ne_of_none hx ntk
    have sB := ((sG.trans sA).mut nxH (o := .ins C dq (flds (.int F.age) (.ref tk) (.int F.nx) (.int m) (.ref tg) (.int F.ct))))
    refine ⟨_, rfl, q x _ sB nxH ?_⟩
    have ef : fSig F ns g = { F with ls := kept, mr := m } := by unfold fSig; rw [er]
    rw [ef]
    refine ⟨dq, tk, tg, upd_same, .tup (by rw [upd_ne nxt.symm]; exact upd_same) ((dk.same sA).mut (sA _ _ hx) (fun _ z => by cases z) (tO_lts _)), h2.same sB⟩
end K1
set_option Elab.async false
set_option linter.all false
set_option maxRecDepth 100000
set_option maxHeartbeats 2000000
namespace K1
open PySem PySem.Spec PyProof.Rows L2 RZ StX
noncomputable abbrev sWith : Stmt := st__with_sign
noncomputable abbrev sWout : Stmt := st__without_sign
noncomputable abbrev nWith : List Str := ["signs", "sign"]
theorem scWith : FnScope nWith nWith (defScope sWith) := ⟨rfl, rfl, rfl, by decide +kernel, rfl, by decide +kernel, by decide +kernel⟩
noncomputable abbrev nWout : List Str := ["signs", "sign", "old"]
theorem scWout : FnScope nWout nWith (defScope sWout) := ⟨rfl, rfl, rfl, by decide +kernel, rfl, by decide +kernel, by decide +kernel⟩
theorem inV_strs (s : Str) : ∀ ss : List Str, inV (.str s) (ss.map V.str) = decide (s ∈ ss)
  | [] => by simp [inV]
  | m :: r => by
    have ih := inV_strs s r
    unfold inV at ih ⊢
    rw [List.map_cons, List.any_cons, ih]
    show ((m == s) || _) = _
    by_cases e : m = s
    · subst e; simp
    · have e' : ¬ s = m := fun h => e h.symm
      rw [beq_eq_false_iff_ne.mpr e]; simp [e']
theorem flat_strs : ∀ ss : List Str, (ss.map V.str).all flatV = true
  | [] => rfl
  | m :: r => by rw [List.map_cons, List.all_cons, flat_strs r]; rfl
section
variable {X : Cx} {K : PySem.W.Frag}
theorem cr_sortedSK (h : X.K = K) : CallR X (.builtin "sorted") (rSortedS K) := by subst h; exact cr_sortedS
end
noncomputable def spWith : Sp := fun vs H Q _ => ∃ (a : Addr) (ss : List Str) (s : Str), vs = [.ref a, .str s] ∧ H a = some (.tup (ss.map V.str)) ∧ OkSs ss ∧ okS s = true ∧ ∀ b H', Same H H' → H' b = some (.tup ((wG ss s).map V.str)) → Q (.ref b) H'
noncomputable def spWout : Sp := fun vs H Q _ => ∃ (a : Addr) (ss : List Str) (s : Str), vs = [.ref a, .str s] ∧ H a = some (.tup (ss.map V.str)) ∧ OkSs ss ∧ okS s = true ∧ ∀ b H', Same H H' → H' b = some (.tup ((nS ss s).map V.str)) → Q (.ref b) H'
section
variable {P : Program} {w : World} {K : PySem.W.Frag} {mg : Str → Option Value} {base : Heap}
theorem ok_with {f : Addr} {fd : FuncData} (T : Bk mg) (C : Cs mg) (F : Fun K "_with_sign" "_with_sign" sWith f fd) : FnOk P w K mg base CX0 1 f fd nWith spWith := by
  have nd := scWith.nd
  refine F.ok scWith (fun vs H Q E h => ?_) (fun cdv A outer s H vs Q E hr h => ?_)
  · obtain ⟨a, ss, z, rfl, _⟩ := h
    rfl
  · obtain ⟨a, ss, z, rfl, ha, hu, hz, q⟩ := h
    have hl := hu.len
    refine ⟨_, (pss_cons (ps_if (PW.pt (pw_or (pt_cmpR (op_in_seqK (K := K) rfl) (pv 1) (pv 0) (by rfl)) (pw_or1 (pt_cmpR op_eq (pe_callB (call_lenK (K := K) rfl) (by rfl) T.len PySem.boot_len (pa_cons (pv 0) pa_nil)) (pe_const C.MOST_SIGNS rfl) (nomark _)))))
  (pss_one (ps_ret (pv 0)))
  pss_nil)
 (pss_one (ps_ret (pe_callTy (call_tuple_ofK (K := K) rfl) (by rfl) T.tuple PyProof.Rows.boot_tuple (pa_cons (pe_callB (cr_sortedSK (K := K) rfl) (by rfl) T.sorted PyProof.Rows.boot_sorted (pa_cons (pe_lst (pa_star (pv 0) (pa_cons (pv 1) pa_nil))) pa_nil)) pa_nil))))), ?_⟩
    refine ⟨_, rfl, _, rfl, a, _, rfl, .inr (st ha), rfl, flat_strs _, _, rfl, ?_⟩
    show (if inV (.str z) (ss.map V.str) = true then _ else _)
    rw [inV_strs]
    by_cases hm : z ∈ ss
    · refine itbT (decide_eq_true hm) (itbT rfl ⟨_, rfl, q a H (fun _ _ h => h) ?_⟩)
      rw [ha]
      unfold wG
      rw [if_pos (.inl hm)]
    · refine itbF (decide_eq_false hm) ⟨_, rfl, a, _, rfl, .inr (st ha), rfl, _, rfl, ?_⟩
      by_cases h6 : ss.length = 6
      · refine itbT (decide_eq_true (by rw [List.length_map, h6]; rfl)) ⟨_, rfl, q a H (fun _ _ h => h) ?_⟩
        rw [ha]
        unfold wG
        rw [if_pos (.inr h6)]
      refine itbF (decide_eq_false fun h => ?_) ?_
      · have := V.int.inj h
        rw [List.length_map] at this
        omega
      · refine ⟨_, rfl, a, _, rfl, .inl (st ha), .str z, rfl, lt1 _ (by rw [List.length_append, List.length_map]; show ss.length + 1 ≤ 100000; omega), fun l nl => ?_⟩
        have e : ss.map V.str ++ [V.str z] = (ss ++ [z]).map V.str := by rw [List.map_append]; rfl
        have s1 := same_new (o := .lst (ss.map V.str ++ [V.str z])) nl
        refine ⟨l, ss ++ [z], rfl, sq (by rw [upd_same, e]), by rw [List.length_append]; show ss.length + 1 < 64; omega, fun ys p hp hs np => ?_⟩
        have hy : ys = wG ss z := by
          unfold wG
          rw [if_neg (fun h => h.elim hm h6)]
          exact sorted_ins hu.asc hm hp hs
        refine ⟨p, _, rfl, .inl ⟨sq upd_same, fun b nb => ?_⟩⟩
        exact q b _ ((s1.new np).new nb) (by rw [upd_same, hy])
theorem ok_wout {f : Addr} {fd : FuncData} (T : Bk mg) (F : Fun K "_without_sign" "_without_sign" sWout f fd) : FnOk P w K mg base CX0 1 f fd nWith spWout := by
  have nd := scWout.nd
  refine F.ok scWout (fun vs H Q E h => ?_) (fun cdv A outer s H vs Q E hr h => ?_)
  · obtain ⟨a, ss, z, rfl, _⟩ := h
    rfl
  · obtain ⟨a, ss, z, rfl, ha, hu, hz, q⟩ := h
    have hl := hu.len
    refine ⟨_, (pss_one (ps_ret (pe_callTy (call_tuple_ofK (K := K) rfl) (by rfl) T.tuple PyProof.Rows.boot_tuple (pa_cons (pe_lc (own := [("old", 2)]) (g := gName 2) rfl nd (pi_tupK (K := K) rfl (pv 0)) (blkOk_by (own := [("old", 2)]) (N := nWout) (sc := defScope sWout) (by decide +kernel)) (fun _ _ _ _ _ => pg_name (i := 2) nd rfl (Or.inl rfl)) (fun _ _ _ _ _ => pts_one (pt_cmpR op_ne (pv 2) (pv 1) (nomark _))) (fun _ _ _ _ _ => (pv 2))) pa_nil)))), ?_⟩
    refine ⟨_, rfl, a, rfl, ⟨_, st ha⟩, fun D hD => ?_⟩
    refine lc_tup (K := K) (a := a) (xs := ss.map V.str) (fun i H2 => Same H H2 ∧ H2 D = some (.lst ((nS (ss.take i) z).map V.str))) ⟨same_new hD, upd_same⟩ (fun i H2 _ h => st (h.1 _ _ ha)) ?_ ?_
    · rintro i y H2 hy ⟨s2, h2⟩
      rw [List.getElem?_map] at hy
      cases he : ss[i]? with
      | none => rw [he] at hy; cases hy
      | some x =>
        rw [he] at hy
        obtain rfl := (Option.some.inj hy).symm
        refine ⟨rfl, _, rfl, _, rfl, rfl, _, rfl, ?_⟩
        have hlen : (nS (ss.take i) z).length ≤ 6 := Nat.le_trans (List.length_filter_le _ _) (by rw [List.length_take]; omega)
        have e1 : nS (ss.take (i + 1)) z = nS (ss.take i) z ++ (if x = z then [] else [x]) := by
          unfold nS
          rw [take_more he, List.filter_append]
          by_cases c : x = z <;> simp [c]
        by_cases c : x = z
        · refine itbF (by rw [c]; simp) ?_
          rw [if_pos c, List.append_nil] at e1
          exact ⟨s2, by rw [e1]; exact h2⟩
        · refine itbT (by rw [decide_eq_false (fun h => c (V.str.inj h))]; rfl) ⟨_, rfl, _, h2, lt2 _ (by rw [List.length_map]; omega), s2.mut hD, ?_⟩
          rw [upd_same, e1, if_neg c, List.map_append]; rfl
    · rintro H2 ⟨s2, h2⟩
      rw [List.length_map, List.take_length] at h2
      exact ⟨D, _, rfl, .inl ⟨sq h2, fun b nb => q b _ (s2.new nb) upd_same⟩⟩
end
end K1
set_option Elab.async false
set_option linter.all false
set_option maxRecDepth 100000
set_option maxHeartbeats 2000000
namespace K1
open PySem PySem.Spec PyProof.Rows L2 RZ StX
theorem Fo_ext {C p : Addr} {H H' : Hp} {F : Fo} (h : FoAt C H p F) (s : LamX.ExtN H H') : FoAt C H' p F := let ⟨dx, tl, tg, a, b, c⟩ := h; ⟨dx, tl, tg, s _ _ a fun _ z => (by cases z), b.ext s, c.ext s⟩
theorem NumsAt.ext {H H' : Hp} {a : Addr} {ns : List Int} (h : NumsAt H a ns) (s : LamX.ExtN H H') : NumsAt H' a ns := ⟨h.at_.imp (fun e => s _ _ e fun _ z => (by cases z)) (fun e => s _ _ e fun _ z => (by cases z)), h.one, h.len⟩
theorem tup_ext {H H' : Hp} {a : Addr} {xs : List V} (h : H a = some (.tup xs)) (s : LamX.ExtN H H') : H' a = some (.tup xs) := s _ _ h fun _ z => (by cases z)
/-- the method that gets the lambdas -/
structure SgD (K : PySem.W.Frag) (C : Addr) : Prop where
  ex : ∃ (f : Addr) (fd : FuncData), Meth K C "_signed" f ∧ Fun K "_signed" "Folder._signed" sSig f fd
theorem pe_signed {X : Cx} {C c P : Addr} {T : List (Addr × Str)} {xp : Str} {g : List Str → List Str} {o e : Expr} {params : Arguments} {body : Expr} {scope : Scope} {ta te tb : TE} {apos lpos pos : Pos} {pl : Sem Bool} (D : SgD X.K C) (Tb : Bk X.mg) (tC : ClT X.K X.mg C) (Mc : MDef X.prog X.w X.K X.mg X.base CX0 5 C "_copied" nSelf (spCopied C))
    (ho : PE X o ta) (he : PE X e te)
    (TB : LamX.TabB X.base X.mg c P) (hcode : X.env.code = .ref c) (hmT : (P, X.env.qual ++ "<lambda>") ∈ T) (hu : ∀ p ∈ T, p.1 = P → p.2 = X.env.qual ++ "<lambda>") (hr : Room 7 X.A) (L : LamY.LamS1 X.env.scope scope xp) (hxn : xp ∉ X.N) (hdef : defaultsOf params X.env = ([], []))
    (hbind : ∀ (q : Str) (cl : List (Str × Addr)) (pm cv ctv u : Value), bindArgs (PySem.W.kla_fn "<lambda>" q params body scope cl pm cv ctv) ⟨[u], []⟩ = pure [(xp, u)])
    (hbody : ∀ (A : Around) (outer : List Env) (s : Shared) (H : Hp) (f c' : Addr), Room 5 (A.deeper (LamX.lamEnv X scope s.heap.objs.size f c')) → PE (LamY.lamCx1 X A outer s H C8.E0 scope xp f c') body tb)
    (hst : starEach [e, .Lambda params body scope lpos] X.env = (false, eval e X.env) :: starEach [.Lambda params body scope lpos] X.env := by rfl) (hpl : (backTo pos (starEach [.Lambda params body scope lpos] X.env)).any (·.1) = false := by rfl)
    (ht : eval (.Call (.Attribute o "_signed" apos) [e, .Lambda params body scope lpos] [] pos) X.env = (do
      let ov ← eval o X.env
      standAt apos.atName
      let (f, first) ← holding [ov] (getMethod ov "_signed" pl)
      callWith pos f first (backTo pos (starEach [e, .Lambda params body scope lpos] X.env)) (backToKw pos (keywordEach [] X.env))) := by rfl) :
    PE X (.Call (.Attribute o "_signed" apos) [e, .Lambda params body scope lpos] [] pos) (LamY.tMethLam T C "_signed" (TSig C g) ta te tb) := by
  obtain ⟨f, fd, hm, F⟩ := D.ex
  obtain ⟨oc, od, kV, doc, pm, an, cdv, ct, osl, rfl, lk, hcd⟩ := F.ex
  exact LamY.pe_methlam (k := 5) (a := "renewed") ho tC.cl hm he lk hcd (F.binds (ps := pSig) fun _ _ _ _ _ _ us hl => match us, hl with | [_, _, _], _ => rfl) scSig rfl (.inl rfl) (signed_gives Tb tC Mc) TB hcode hmT hu hr L hxn hdef hbind hbody (hst := hst) (hpl := hpl) (ht := ht)
noncomputable abbrev lamA : Str := "Folder.added" ++ ".<locals>." ++ "<lambda>"
noncomputable abbrev lamT : Str := "Folder.taken" ++ ".<locals>." ++ "<lambda>"
noncomputable abbrev lamS : Str := "Folder.set_to" ++ ".<locals>." ++ "<lambda>"
noncomputable def T3 (PA PT PS : Addr) : List (Addr × Str) := [(PA, lamA), (PT, lamT), (PS, lamS)]
structure Ap (PA PT PS : Addr) : Prop where
  af : PA ≠ PT
  al : PA ≠ PS
  fl : PT ≠ PS
theorem Ap.a {PA PF PL : Addr} (h : Ap PA PF PL) : ∀ p ∈ T3 PA PF PL, p.1 = PA → p.2 = lamA := by
  intro p hp e
  simp only [T3, List.mem_cons, List.not_mem_nil, or_false] at hp
  rcases hp with rfl | rfl | rfl
  · rfl
  · exact absurd e.symm h.af
  · exact absurd e.symm h.al
theorem Ap.t {PA PF PL : Addr} (h : Ap PA PF PL) : ∀ p ∈ T3 PA PF PL, p.1 = PF → p.2 = lamT := by
  intro p hp e
  simp only [T3, List.mem_cons, List.not_mem_nil, or_false] at hp
  rcases hp with rfl | rfl | rfl
  · exact absurd e h.af
  · rfl
  · exact absurd e.symm h.fl
theorem Ap.s {PA PF PL : Addr} (h : Ap PA PF PL) : ∀ p ∈ T3 PA PF PL, p.1 = PL → p.2 = lamS := by
  intro p hp e
  simp only [T3, List.mem_cons, List.not_mem_nil, or_false] at hp
  rcases hp with rfl | rfl | rfl
  · exact absurd e h.al
  · exact absurd e h.fl
  · rfl
theorem mem_a {PA PF PL : Addr} : (PA, lamA) ∈ T3 PA PF PL := List.mem_cons_self
theorem mem_t {PA PF PL : Addr} : (PF, lamT) ∈ T3 PA PF PL := List.mem_cons_of_mem _ List.mem_cons_self
theorem mem_s {PA PF PL : Addr} : (PL, lamS) ∈ T3 PA PF PL := List.mem_cons_of_mem _ (List.mem_cons_of_mem _ List.mem_cons_self)
noncomputable abbrev sAdd : Stmt := mS 9
noncomputable abbrev sTake : Stmt := mS 10
noncomputable abbrev sSet : Stmt := mS 11
noncomputable abbrev nAdd : List Str := ["self", "numbers", "sign"]
theorem scAdd : FnScope nAdd nAdd (defScope sAdd) := ⟨rfl, rfl, rfl, by decide +kernel, rfl, by decide +kernel, by decide +kernel⟩
theorem scTake : FnScope nAdd nAdd (defScope sTake) := ⟨rfl, rfl, rfl, by decide +kernel, rfl, by decide +kernel, by decide +kernel⟩
noncomputable abbrev nSet : List Str := ["self", "numbers", "signs"]
theorem scSet : FnScope nSet nSet (defScope sSet) := ⟨rfl, rfl, rfl, by decide +kernel, rfl, by decide +kernel, by decide +kernel⟩
/-- a deed that renews signs -/
noncomputable def spSgn (C PA PT PS : Addr) (G : Str → List Str → List Str) : Sp := fun vs H Q _ => ∃ (p na : Addr) (F : Fo) (ns : List Int) (z : Str), vs = [.ref p, .ref na, .str z] ∧ FoAt C H p F ∧ 1 ≤ F.age ∧ NumsAt H na ns ∧ F.ls.length ≤ 1000 ∧ (∀ l ∈ F.ls, OkSs l.s) ∧ okS z = true ∧ LamX.Tabs (T3 PA PT PS) H ∧
  ∀ q H', LamX.ExtN H H' → LamX.Tabs (T3 PA PT PS) H' → FoAt C H' q (fSig F ns (G z)) → Q (.ref q) H'
noncomputable def spSet (C PA PT PS : Addr) : Sp := fun vs H Q _ => ∃ (p na sa : Addr) (F : Fo) (ns : List Int) (zs : List Str), vs = [.ref p, .ref na, .ref sa] ∧ FoAt C H p F ∧ 1 ≤ F.age ∧ NumsAt H na ns ∧ F.ls.length ≤ 1000 ∧ (∀ l ∈ F.ls, OkSs l.s) ∧ OkSs zs ∧ H sa = some (.tup (zs.map V.str)) ∧ LamX.Tabs (T3 PA PT PS) H ∧
  ∀ q H', LamX.ExtN H H' → LamX.Tabs (T3 PA PT PS) H' → FoAt C H' q (fSig F ns (fun _ => zs)) → Q (.ref q) H'
section
variable {P : Program} {w : World} {K : PySem.W.Frag} {mg : Str → Option Value} {base : Heap} {C PA PT PS c : Addr}
theorem ok_add {f : Addr} {oc : Value} {od : Option Addr} {kV doc pm : Value} {an : Option Addr} {ct : Value} {osl : Array (Option Value)} (T : Bk mg) (t : ClT K mg C) (ap : Ap PA PT PS) (DS : SgD K C) (TB : LamX.TabB base mg c PA)
    (D_check_numbers : Def P w K mg base CX0 4 "_check_numbers" nCkNums spCkNums) (D_is_sign : Def P w K mg base CX0 1 "is_sign" pV spSign) (D_with : Def P w K mg base CX0 1 "_with_sign" nWith spWith) (M_copied : MDef P w K mg base CX0 5 C "_copied" nSelf (spCopied C))
    (lk : K.lookup f = some ⟨oc, od, .func (PySem.W.fnOf "added" "Folder.added" (defArgs sAdd) (defBody sAdd) (defScope sAdd) .none kV doc pm an (.ref c) ct), osl⟩) (hcd : PySem.W.codeIn K (.ref c) "Folder.added" = true) :
    FnOk P w K mg base CX0 8 f (PySem.W.fnOf "added" "Folder.added" (defArgs sAdd) (defBody sAdd) (defScope sAdd) .none kV doc pm an (.ref c) ct) nAdd (spSgn C PA PT PS (fun z ss => wG ss z)) := by
  have nd := scAdd.nd
  have hu1 := ap.a
  refine fn_of lk hcd scAdd (fun vs H Q E h => ?_) (fun A outer s H vs Q E hr h => ?_)
  · obtain ⟨p, na, F, ns, z, rfl, _⟩ := h
    rfl
  · obtain ⟨p, na, F, ns, z, rfl, hF, ha, hn, hl, hu, hz, hT, q⟩ := h
    refine ⟨_, PSs.nox (pss_cons (ps_expr (pe_def D_check_numbers (hr.mono (by decide)) rfl pass0 (pa_cons (pv 1) pa_nil)))
 (pss_cons (ps_if (pt_not (pt_val (pe_def D_is_sign (hr.mono (by decide)) rfl pass0 (pa_cons (pv 2) pa_nil)))) pss_any pss_nil)
 (pss_one (ps_ret (pe_signed (T := T3 PA PT PS) (g := fun ss => wG ss z) DS T t M_copied (pv 0) (pv 1) TB rfl mem_a hu1 hr (LamY.lamS1_by (by rfl)) (show ("signs" : Str) ∉ nAdd by decide +kernel) rfl (fun _ _ _ _ _ _ => rfl) (fun _ _ _ _ _ _ hr2 => pe_def D_with (hr2.mono (by decide)) rfl pass0 (pa_cons (pv 3) (pa_cons (pv 2) pa_nil)))))))), ?_⟩
    refine ⟨_, rfl, na, ns, rfl, hn.at_, hn.one, hn.len, fun H1 s1 => ?_⟩
    refine ⟨_, rfl, z, rfl, hz, fun H2 s2 => ⟨_, rfl, itbF rfl ?_⟩⟩
    have s12 := s1.trans s2
    obtain ⟨dx, tl, tg, hp, h1, h2⟩ := hF.same s12
    refine ⟨_, rfl, p, dx, _, rfl, hp, fl_no (by decide +kernel), _, rfl, hT.ext s12, fun H3 e3 t3 => ?_⟩
    refine ⟨p, na, F, ns, rfl, rfl, Fo_ext (hF.same s12) e3, ha, (hn.ext (LamX.ExtN.of s12)).ext e3, hl, hu, fun ss hs => wG_ok hs hz, fun a ss H' Q' s3 hs has k => ?_, fun q' H' s3 _ hF' => q q' H' (((LamX.ExtN.of s12).trans e3).trans (LamX.ExtN.of s3)) (t3.ext s3) hF'⟩
    exact ⟨_, rfl, _, rfl, a, ss, z, rfl, has, hs, hz, k⟩
theorem ok_take {f : Addr} {oc : Value} {od : Option Addr} {kV doc pm : Value} {an : Option Addr} {ct : Value} {osl : Array (Option Value)} (T : Bk mg) (t : ClT K mg C) (ap : Ap PA PT PS) (DS : SgD K C) (TB : LamX.TabB base mg c PT)
    (D_check_numbers : Def P w K mg base CX0 4 "_check_numbers" nCkNums spCkNums) (D_is_sign : Def P w K mg base CX0 1 "is_sign" pV spSign) (D_wout : Def P w K mg base CX0 1 "_without_sign" nWith spWout) (M_copied : MDef P w K mg base CX0 5 C "_copied" nSelf (spCopied C))
    (lk : K.lookup f = some ⟨oc, od, .func (PySem.W.fnOf "taken" "Folder.taken" (defArgs sTake) (defBody sTake) (defScope sTake) .none kV doc pm an (.ref c) ct), osl⟩) (hcd : PySem.W.codeIn K (.ref c) "Folder.taken" = true) :
    FnOk P w K mg base CX0 8 f (PySem.W.fnOf "taken" "Folder.taken" (defArgs sTake) (defBody sTake) (defScope sTake) .none kV doc pm an (.ref c) ct) nAdd (spSgn C PA PT PS (fun z ss => nS ss z)) := by
  have nd := scTake.nd
  have hu1 := ap.t
  refine fn_of lk hcd scTake (fun vs H Q E h => ?_) (fun A outer s H vs Q E hr h => ?_)
  · obtain ⟨p, na, F, ns, z, rfl, _⟩ := h
    rfl
  · obtain ⟨p, na, F, ns, z, rfl, hF, ha, hn, hl, hu, hz, hT, q⟩ := h
    refine ⟨_, PSs.nox (pss_cons (ps_expr (pe_def D_check_numbers (hr.mono (by decide)) rfl pass0 (pa_cons (pv 1) pa_nil)))
 (pss_cons (ps_if (pt_not (pt_val (pe_def D_is_sign (hr.mono (by decide)) rfl pass0 (pa_cons (pv 2) pa_nil)))) pss_any pss_nil)
 (pss_one (ps_ret (pe_signed (T := T3 PA PT PS) (g := fun ss => nS ss z) DS T t M_copied (pv 0) (pv 1) TB rfl mem_t hu1 hr (LamY.lamS1_by (by rfl)) (show ("signs" : Str) ∉ nAdd by decide +kernel) rfl (fun _ _ _ _ _ _ => rfl) (fun _ _ _ _ _ _ hr2 => pe_def D_wout (hr2.mono (by decide)) rfl pass0 (pa_cons (pv 3) (pa_cons (pv 2) pa_nil)))))))), ?_⟩
    refine ⟨_, rfl, na, ns, rfl, hn.at_, hn.one, hn.len, fun H1 s1 => ?_⟩
    refine ⟨_, rfl, z, rfl, hz, fun H2 s2 => ⟨_, rfl, itbF rfl ?_⟩⟩
    have s12 := s1.trans s2
    obtain ⟨dx, tl, tg, hp, h1, h2⟩ := hF.same s12
    refine ⟨_, rfl, p, dx, _, rfl, hp, fl_no (by decide +kernel), _, rfl, hT.ext s12, fun H3 e3 t3 => ?_⟩
    refine ⟨p, na, F, ns, rfl, rfl, Fo_ext (hF.same s12) e3, ha, (hn.ext (LamX.ExtN.of s12)).ext e3, hl, hu, fun ss hs => nS_ok hs, fun a ss H' Q' s3 hs has k => ?_, fun q' H' s3 _ hF' => q q' H' (((LamX.ExtN.of s12).trans e3).trans (LamX.ExtN.of s3)) (t3.ext s3) hF'⟩
    exact ⟨_, rfl, _, rfl, a, ss, z, rfl, has, hs, hz, k⟩
theorem ok_set {f : Addr} {oc : Value} {od : Option Addr} {kV doc pm : Value} {an : Option Addr} {ct : Value} {osl : Array (Option Value)} (T : Bk mg) (t : ClT K mg C) (ap : Ap PA PT PS) (DS : SgD K C) (TB : LamX.TabB base mg c PS)
    (D_check_numbers : Def P w K mg base CX0 4 "_check_numbers" nCkNums spCkNums) (D_is_signs : Def P w K mg base CX0 2 "is_signs" pV spSigns) (M_copied : MDef P w K mg base CX0 5 C "_copied" nSelf (spCopied C))
    (lk : K.lookup f = some ⟨oc, od, .func (PySem.W.fnOf "set_to" "Folder.set_to" (defArgs sSet) (defBody sSet) (defScope sSet) .none kV doc pm an (.ref c) ct), osl⟩) (hcd : PySem.W.codeIn K (.ref c) "Folder.set_to" = true) :
    FnOk P w K mg base CX0 8 f (PySem.W.fnOf "set_to" "Folder.set_to" (defArgs sSet) (defBody sSet) (defScope sSet) .none kV doc pm an (.ref c) ct) nSet (spSet C PA PT PS) := by
  have nd := scSet.nd
  have hu1 := ap.s
  refine fn_of lk hcd scSet (fun vs H Q E h => ?_) (fun A outer s H vs Q E hr h => ?_)
  · obtain ⟨p, na, sa, F, ns, z, rfl, _⟩ := h
    rfl
  · obtain ⟨p, na, sa, F, ns, zs, rfl, hF, ha, hn, hl, hu, hz, hsa, hT, q⟩ := h
    refine ⟨_, PSs.nox (pss_cons (ps_expr (pe_def D_check_numbers (hr.mono (by decide)) rfl pass0 (pa_cons (pv 1) pa_nil)))
 (pss_cons (ps_if (pt_not (pt_val (pe_def D_is_signs (hr.mono (by decide)) rfl pass0 (pa_cons (pv 2) pa_nil)))) pss_any pss_nil)
 (pss_one (ps_ret (pe_signed (T := T3 PA PT PS) (g := fun ss => zs) DS T t M_copied (pv 0) (pv 1) TB rfl mem_s hu1 hr (LamY.lamS1_by (by rfl)) (show ("old" : Str) ∉ nSet by decide +kernel) rfl (fun _ _ _ _ _ _ => rfl) (fun _ _ _ _ _ _ hr2 => pv 2)))))), ?_⟩
    refine ⟨_, rfl, na, ns, rfl, hn.at_, hn.one, hn.len, fun H1 s1 => ?_⟩
    refine ⟨_, rfl, sa, zs, rfl, s1 _ _ hsa, okSs_iff.mpr hz, fun H2 s2 => ⟨_, rfl, itbF rfl ?_⟩⟩
    have s12 := s1.trans s2
    obtain ⟨dx, tl, tg, hp, h1, h2⟩ := hF.same s12
    refine ⟨_, rfl, p, dx, _, rfl, hp, fl_no (by decide +kernel), _, rfl, hT.ext s12, fun H3 e3 t3 => ?_⟩
    refine ⟨p, na, F, ns, rfl, rfl, Fo_ext (hF.same s12) e3, ha, (hn.ext (LamX.ExtN.of s12)).ext e3, hl, hu, fun ss hs => hz, fun a ss H' Q' s3 hs has k => ?_, fun q' H' s3 _ hF' => q q' H' (((LamX.ExtN.of s12).trans e3).trans (LamX.ExtN.of s3)) (t3.ext s3) hF'⟩
    exact ⟨_, rfl, k sa H' (fun _ _ h => h) (s3 _ _ (tup_ext (s12 _ _ hsa) e3))⟩
end
end K1
set_option Elab.async false
set_option linter.all false
set_option maxRecDepth 100000
set_option maxHeartbeats 2000000
namespace K1
open PySem PySem.Spec PyProof.Rows L2 RZ StX
/-! is_mark and trimmed -/
theorem dv_go {H : Hp} {y : V} {g : Int × Int} (h : Dv H y (goD g)) : ∃ ta, y = .ref ta ∧ H ta = some (.tup [.int g.1, .int g.2]) := by
  cases h with
  | tup h r =>
  cases r with
  | cons h1 r =>
  cases r with
  | cons h2 r =>
  cases r
  cases h1
  cases h2
  exact ⟨_, rfl, h⟩
noncomputable abbrev sIsMark : Stmt := st_is_mark
theorem scIsMark : FnScope nV pV (defScope sIsMark) := ⟨rfl, rfl, rfl, by decide +kernel, rfl, by decide +kernel, by decide +kernel⟩
noncomputable abbrev sTrim : Stmt := mS 13
noncomputable abbrev nTrim : List Str := ["self", "mark", "folder", "cut", "row"]
noncomputable abbrev pTrim : List Str := ["self", "mark"]
theorem scTrim : FnScope nTrim pTrim (defScope sTrim) := ⟨rfl, rfl, rfl, by decide +kernel, rfl, by decide +kernel, by decide +kernel⟩
noncomputable def mxI (i j : Int) : Int := if j > i then j else i
noncomputable def fTrim (F : Fo) (m : Int) : Fo := { F with ct := mxI F.ct m, go := F.go.filter fun g => decide (mxI F.ct m < g.1) }
noncomputable def spTrim (C : Addr) : Sp := fun vs H Q _ => ∃ (p : Addr) (F : Fo) (m : Int), vs = [.ref p, .int m] ∧ FoAt C H p F ∧ 1 ≤ F.age ∧ 0 ≤ m ∧ m ≤ F.mr ∧ F.go.length ≤ 1000 ∧ ∀ q H', Same H H' → H q = none → FoAt C H' q (fTrim F m) → Q (.ref q) H'
section
variable {P : Program} {w : World} {K : PySem.W.Frag} {mg : Str → Option Value} {base : Heap} {C : Addr}
theorem ok_isMark {f : Addr} {fd : FuncData} (D_is_integer : Def P w K mg base CX0 1 "is_integer" pV spInt) (F : Fun K "is_mark" "is_mark" sIsMark f fd) : FnOk P w K mg base CX0 2 f fd pV spBody := by
  refine F.ok scIsMark (fun vs H Q E h => ?_) (fun cdv A outer s H vs Q E hr h => ?_)
  · obtain ⟨n, rfl, _⟩ := h
    rfl
  · obtain ⟨n, rfl, h1, q⟩ := h
    refine ⟨_, (pss_one (ps_ret (pe_and (pe_def D_is_integer (hr.mono (by decide)) rfl pass0 (pa_cons (pv 0) pa_nil)) (pe_one (pe_cmpR op_ge (pv 0) pe_int (nomark _)))))), ?_⟩
    refine ⟨_, rfl, n, rfl, _, rfl, itbT rfl ⟨_, rfl, _, _, rfl, rfl, ?_⟩⟩
    show Q (.bl (decide (0 ≤ n))) H
    rw [decide_eq_true h1]; exact q
theorem ok_trim {f : Addr} {fd : FuncData} (T : Bk mg) (t : ClT K mg C) (D_is_mark : Def P w K mg base CX0 2 "is_mark" pV spBody) (M_copied : MDef P w K mg base CX0 5 C "_copied" nSelf (spCopied C))
    (F : Fun K "trimmed" "Folder.trimmed" sTrim f fd) : FnOk P w K mg base CX0 6 f fd pTrim (spTrim C) := by
  have nd := scTrim.nd
  refine F.ok scTrim (fun vs H Q E h => ?_) (fun cdv A outer s H vs Q E hr h => ?_)
  · obtain ⟨p, F, m, rfl, _⟩ := h
    rfl
  · obtain ⟨p, F, m, rfl, hF, ha, m0, m1, gl, q⟩ := h
    refine ⟨_, pss_cons (ps_if (PW.pt (pw_or (pt_not (pt_val (pe_def D_is_mark (hr.mono (by decide)) rfl pass0 (pa_cons (pv 1) pa_nil)))) (pw_or1 (pt_cmpR op_gt (pv 1) (pe_fld (pv 0) rfl) (nomark _)))))
  pss_any
  pss_nil)
 (pss_cons (ps_set (i := 2) nd rfl (Or.inl rfl) (pe_mdef0 M_copied t.cl (hr.mono (by decide)) pass0 (pv 0)))
 (pss_cons (ps_set (i := 3) nd rfl (Or.inr rfl) (pe_callB (call_max2 rfl) (by rfl) T.max PyProof.Rows.boot_max (pa_cons (pe_fld (pv 0) rfl) (pa_cons (pv 1) pa_nil))))
 (pss_cons (ps_fld (pv 2) (pv 3) rfl)
 (pss_cons (ps_fld (pv 2) (pe_callTy (call_tuple_ofK (K := K) rfl) (by rfl) T.tuple PyProof.Rows.boot_tuple (pa_cons (pe_lc (own := [("row", 4)]) (g := gName 4) rfl nd (pi_tupK (K := K) rfl (pe_fld (pv 0) rfl)) (blkOk_by (own := [("row", 4)]) (N := nTrim) (sc := defScope sTrim) (by decide +kernel)) (fun _ _ _ _ _ => pg_name (i := 4) nd rfl (Or.inl rfl)) (fun _ _ _ _ _ => pts_one (pt_cmpR op_gt (pe_ix (ix_tupK (K := K) rfl) (pv 4) pe_int (fun _ _ => rfl)) (pv 3) (nomark _))) (fun _ _ _ _ _ => (pv 4))) pa_nil)) rfl)
 (pss_one (ps_ret (pv 2))))))), ?_⟩
    obtain ⟨dx, tl, tg, hp, h1, h2⟩ := hF
    obtain ⟨gs, g0, gr0⟩ := Dv.tups h2
    refine ⟨_, rfl, m, rfl, m0, _, rfl, itbF rfl ?_⟩
    refine ⟨_, rfl, _, rfl, p, C, dx, _, _, rfl, hp, t.cl, t.nM, fl_mk, _, _, rfl, rfl, _, rfl, itbF (decide_eq_false (by omega)) ?_⟩
    refine ⟨_, rfl, p, dx, _, rfl, hp, fl_no (by decide +kernel), p, dx, tl, tg, F.age, F.nx, F.mr, F.ct, rfl, hp, ha, fun x dq H3 s3 nx hx => ?_⟩
    refine ⟨_, rfl, p, C, dx, _, _, rfl, s3 _ _ hp, t.cl, t.nC, fl_cut, _, rfl, _, _, rfl, ?_⟩
    refine ⟨_, rfl, _, rfl, x, C, dq, _, rfl, hx, t.cl, t.nC, by show 6 < 1000; decide, ?_⟩
    rw [pu_cut]
    generalize hc : (if m > F.ct then m else F.ct) = c
    have sA := s3.mut nx (o := .ins C dq (flds (.int F.age) (.ref tl) (.int F.nx) (.int F.mr) (.ref tg) (.int c)))
    have hxA : (upd H3 x (.ins C dq (flds (.int F.age) (.ref tl) (.int F.nx) (.int F.mr) (.ref tg) (.int c)))) x = some (.ins C dq (flds (.int F.age) (.ref tl) (.int F.nx) (.int F.mr) (.ref tg) (.int c))) := upd_same
    generalize upd H3 x (.ins C dq (flds (.int F.age) (.ref tl) (.int F.nx) (.int F.mr) (.ref tg) (.int c))) = HA at sA hxA
    have gr := gr0.same sA
    have hgl := gr.len
    rw [List.length_map] at hgl
    refine ⟨_, rfl, p, C, dx, _, _, rfl, sA _ _ hp, t.cl, t.nG, fl_gone, tg, rfl, ⟨_, st (sA _ _ g0)⟩, fun D hD => ?_⟩
    refine lc_tup (K := K) (a := tg) (xs := gs) (fun i H2 => Same HA H2 ∧ ∃ ks, H2 D = some (.lst ks) ∧ DvA H2 ks (((F.go.take i).filter fun g => decide (c < g.1)).map goD)) ⟨same_new hD, [], upd_same, .nil⟩ (fun i H2 _ h => st (h.1 _ _ (sA _ _ g0))) ?_ ?_
    · rintro i y H2 hy ⟨s2, ks, h2, hk⟩
      obtain ⟨e, he, hde⟩ := (gr.same s2).get hy
      rw [List.getElem?_map] at he
      cases hFi : F.go[i]? with
      | none => rw [hFi] at he; cases he
      | some g =>
        rw [hFi] at he
        obtain rfl := (Option.some.inj he).symm
        obtain ⟨ta, rfl, hta⟩ := dv_go hde
        have hlen := hk.len
        have hfl := List.length_filter_le (fun g : Int × Int => decide (c < g.1)) (F.go.take i)
        rw [List.length_map] at hlen
        rw [List.length_take] at hfl
        refine ⟨rfl, _, rfl, ta, _, 0, .int g.1, rfl, rfl, st hta, atI_nat (j := 0) rfl, _, rfl, _, _, rfl, rfl, _, rfl, ?_⟩
        rw [take_more hFi, List.filter_append, List.map_append]
        by_cases cc : c < g.1
        · refine itbT (decide_eq_true cc) ⟨_, rfl, _, h2, lt2 _ (by omega), s2.mut hD, ks ++ [.ref ta], upd_same, ?_⟩
          rw [show [g].filter (fun g => decide (c < g.1)) = [g] by simp [cc]]
          exact (hk.app (.cons hde .nil)).mut h2 (fun _ z => by cases z) (show tOA (((F.go.take i).filter fun g => decide (c < g.1)).map goD ++ [g].map goD) = true by rw [← List.map_append]; exact tO_gos _)
        · refine itbF (decide_eq_false cc) ?_
          rw [show [g].filter (fun g => decide (c < g.1)) = [] by simp [cc], List.map_nil, List.append_nil]
          exact ⟨s2, ks, h2, hk⟩
    · rintro H2 ⟨s2, ks, h2, hk⟩
      rw [hgl, List.take_length] at hk
      refine ⟨D, ks, rfl, .inl ⟨sq h2, fun tn ntn => ?_⟩⟩
      have s5 := same_new (o := .tup ks) ntn
      have hx5 := s5 _ _ (s2 _ _ hxA)
      have nxt : x ≠ tn := ne_of_none (s2 _ _ hxA) ntn
      refine ⟨_, rfl, x, C, dq, _, rfl, hx5, t.cl, t.nG, by show 6 < 1000; decide, ?_⟩
      rw [pu_gone]
      have sZ := ((sA.trans s2).trans s5).mut nx (o := .ins C dq (flds (.int F.age) (.ref tl) (.int F.nx) (.int F.mr) (.ref tn) (.int c)))
      refine ⟨_, rfl, q x _ sZ nx ?_⟩
      have ef : fTrim F m = { F with ct := c, go := F.go.filter fun g => decide (c < g.1) } := by unfold fTrim mxI; rw [hc]
      rw [ef]
      exact ⟨dq, tl, tn, upd_same, h1.same sZ, .tup (by rw [upd_ne nxt.symm]; exact upd_same) ((hk.same s5).mut hx5 (fun _ z => by cases z) (tO_gos _))⟩
end
end K1
set_option Elab.async false
set_option linter.all false
set_option maxRecDepth 100000
set_option maxHeartbeats 2000000
namespace K1
open PySem PySem.Spec PyProof.Rows L2 RZ StX
/-! ### deeds -/
inductive Dd where
  | app (b : Int) (ss : List Str)
  | add (ns : List Int) (z : Str)
  | take (ns : List Int) (z : Str)
  | set (ns : List Int) (zs : List Str)
  | rem (ns : List Int)
  | trim (m : Int)
noncomputable def DdAt (H : Hp) (a : Addr) : Dd → Prop
  | .app b ss => ∃ sa, H a = some (.tup [.str "append", .int b, .ref sa]) ∧ H sa = some (.tup (ss.map V.str)) ∧ 0 ≤ b ∧ OkSs ss
  | .add ns z => ∃ na, H a = some (.tup [.str "add", .ref na, .str z]) ∧ NumsAt H na ns ∧ okS z = true
  | .take ns z => ∃ na, H a = some (.tup [.str "take", .ref na, .str z]) ∧ NumsAt H na ns ∧ okS z = true
  | .set ns zs => ∃ na sa, H a = some (.tup [.str "set", .ref na, .ref sa]) ∧ NumsAt H na ns ∧ H sa = some (.tup (zs.map V.str)) ∧ OkSs zs
  | .rem ns => ∃ na, H a = some (.tup [.str "remove", .ref na]) ∧ NumsAt H na ns
  | .trim m => H a = some (.tup [.str "trim", .int m]) ∧ 0 ≤ m
noncomputable def does : Dd → Fo → Fo
  | .app b ss, F => fApp F b ss
  | .add ns z, F => fSig F ns (fun ss => wG ss z)
  | .take ns z, F => fSig F ns (fun ss => nS ss z)
  | .set ns zs, F => fSig F ns (fun _ => zs)
  | .rem ns, F => fRem F ns
  | .trim m, F => fTrim F m
noncomputable def wordD : Dd → Str
  | .app _ _ => "append"
  | .add _ _ => "add"
  | .take _ _ => "take"
  | .set _ _ => "set"
  | .rem _ => "remove"
  | .trim _ => "trim"
theorem DdAt.ext {H H' : Hp} {a : Addr} (s : LamX.ExtN H H') : ∀ {d : Dd}, DdAt H a d → DdAt H' a d
  | .app b ss, ⟨sa, h, h2, h3, h4⟩ => ⟨sa, tup_ext h s, tup_ext h2 s, h3, h4⟩
  | .add ns z, ⟨na, h, h2, h3⟩ => ⟨na, tup_ext h s, h2.ext s, h3⟩
  | .take ns z, ⟨na, h, h2, h3⟩ => ⟨na, tup_ext h s, h2.ext s, h3⟩
  | .set ns zs, ⟨na, sa, h, h2, h3, h4⟩ => ⟨na, sa, tup_ext h s, h2.ext s, tup_ext h3 s, h4⟩
  | .rem ns, ⟨na, h, h2⟩ => ⟨na, tup_ext h s, h2.ext s⟩
  | .trim m, ⟨h, h2⟩ => ⟨tup_ext h s, h2⟩
theorem DdAt.same {H H' : Hp} {a : Addr} {d : Dd} (h : DdAt H a d) (s : Same H H') : DdAt H' a d := h.ext (LamX.ExtN.of s)
theorem DdAt.word {H : Hp} {a : Addr} : ∀ {d : Dd}, DdAt H a d → ∃ u rest, H a = some (.tup (.str (wordD d) :: u :: rest)) ∧ rest.length ≤ 1
  | .app b ss, ⟨sa, h, _⟩ => ⟨_, _, h, Nat.le_refl _⟩
  | .add ns z, ⟨na, h, _⟩ => ⟨_, _, h, Nat.le_refl _⟩
  | .take ns z, ⟨na, h, _⟩ => ⟨_, _, h, Nat.le_refl _⟩
  | .set ns zs, ⟨na, sa, h, _⟩ => ⟨_, _, h, Nat.le_refl _⟩
  | .rem ns, ⟨na, h, _⟩ => ⟨_, _, h, Nat.zero_le _⟩
  | .trim m, ⟨h, _⟩ => ⟨_, _, h, Nat.zero_le _⟩
noncomputable abbrev sIsDeed : Stmt := st_is_deed
noncomputable abbrev sCan : Stmt := st_can_be_done
noncomputable abbrev sDone : Stmt := st_done
noncomputable abbrev sPlayed : Stmt := st_played
noncomputable abbrev nIsDeed : List Str := ["value", "word", "first"]
theorem scIsDeed : FnScope nIsDeed pV (defScope sIsDeed) := ⟨rfl, rfl, rfl, by decide +kernel, rfl, by decide +kernel, by decide +kernel⟩
noncomputable abbrev nCan : List Str := ["folder", "value"]
theorem scCan : FnScope nCan nCan (defScope sCan) := ⟨rfl, rfl, rfl, by decide +kernel, rfl, by decide +kernel, by decide +kernel⟩
noncomputable abbrev nDone : List Str := ["folder", "deed", "word", "first"]
noncomputable abbrev pDone : List Str := ["folder", "deed"]
theorem scDone : FnScope nDone pDone (defScope sDone) := ⟨rfl, rfl, rfl, by decide +kernel, rfl, by decide +kernel, by decide +kernel⟩
noncomputable abbrev nPlayed : List Str := ["folder", "history", "at", "deed"]
noncomputable abbrev pPlayed : List Str := ["folder", "history"]
theorem scPlayed : FnScope nPlayed pPlayed (defScope sPlayed) := ⟨rfl, rfl, rfl, by decide +kernel, rfl, by decide +kernel, by decide +kernel⟩
noncomputable def spIsDeed : Sp := fun vs H Q _ => ∃ (a : Addr) (d : Dd), vs = [.ref a] ∧ DdAt H a d ∧ ∀ H', Same H H' → Q (.bl true) H'
noncomputable def CanD (F : Fo) : Dd → Prop
  | .trim m => m ≤ F.mr
  | _ => True
noncomputable def spCan (C : Addr) : Sp := fun vs H Q _ => ∃ (p a : Addr) (F : Fo) (d : Dd), vs = [.ref p, .ref a] ∧ FoAt C H p F ∧ CanD F d ∧ DdAt H a d ∧ ∀ H', Same H H' → Q (.bl true) H'
theorem shaped_str {s : Str} (h : PyData.strOk s = true) : SeqAt.shaped (.str s) = true := by
  unfold SeqAt.shaped
  simp [PyData.canLay0, PyData.depth, h]
theorem eq_str {K : PySem.W.Frag} {H : Hp} {a b : Str} {Q : VK} (c : Bool) (ha : PyData.strOk a = true) (e : (a == b) = c) (q : Q (.bl c) H) (hb : PyData.strOk b = true := by decide +kernel) : rEqD K (.str a) (.str b) H Q :=
  ⟨.str a, .str b, .str _, .str _, shaped_str ha, shaped_str hb, by rw [eqv_str, e]; exact q⟩
theorem ne_str {K : PySem.W.Frag} {H : Hp} {a b : Str} {Q : VK} (c : Bool) (ha : PyData.strOk a = true) (e : (a == b) = c) (q : Q (.bl !c) H) (hb : PyData.strOk b = true := by decide +kernel) : rNeD K (.str a) (.str b) H Q :=
  ⟨.str a, .str b, .str _, .str _, shaped_str ha, shaped_str hb, by rw [eqv_str, e]; exact q⟩
theorem word_ok : ∀ d : Dd, PyData.strOk (wordD d) = true
  | .app _ _ => (show PyData.strOk "append" = true by decide +kernel)
  | .add _ _ => (show PyData.strOk "add" = true by decide +kernel)
  | .take _ _ => (show PyData.strOk "take" = true by decide +kernel)
  | .set _ _ => (show PyData.strOk "set" = true by decide +kernel)
  | .rem _ => (show PyData.strOk "remove" = true by decide +kernel)
  | .trim _ => (show PyData.strOk "trim" = true by decide +kernel)
section
variable {P : Program} {w : World} {K : PySem.W.Frag} {mg : Str → Option Value} {base : Heap} {C : Addr}
theorem ok_isDeed {f : Addr} {fd : FuncData} (T : Bk mg) (D_is_body : Def P w K mg base CX0 2 "is_body" pV spBody) (D_is_sign : Def P w K mg base CX0 1 "is_sign" pV spSign) (D_is_signs : Def P w K mg base CX0 2 "is_signs" pV spSigns) (D_is_numbers : Def P w K mg base CX0 3 "is_numbers" pV spNums) (D_is_mark : Def P w K mg base CX0 2 "is_mark" pV spBody)
    (F : Fun K "is_deed" "is_deed" sIsDeed f fd) : FnOk P w K mg base CX0 4 f fd pV spIsDeed := by
  have nd := scIsDeed.nd
  refine F.ok scIsDeed (fun vs H Q E h => ?_) (fun cdv A outer s H vs Q E hr h => ?_)
  · obtain ⟨a, d, rfl, _⟩ := h
    rfl
  · obtain ⟨a, d, rfl, hd, q⟩ := h
    refine ⟨_, pss_cons (ps_if (PW.pt (pw_or (pt_not (pt_val (pe_callB (call_isiK1 (K := K) rfl) (by rfl) T.isinstance PyProof.Rows.boot_isinstance (pa_cons (pv 0) (pa_cons (pe_bltn (v := .ty "tuple") rfl T.tuple PyProof.Rows.boot_tuple rfl) pa_nil))))) (pw_or (pt_cmpR (op_notIn_seqK (K := K) rfl) (pe_callB (call_lenK (K := K) rfl) (by rfl) T.len PySem.boot_len (pa_cons (pv 0) pa_nil)) (pe_tup (pa_cons pe_int (pa_cons pe_int pa_nil))) (by rfl)) (pw_or1 (pt_not (pt_val (pe_callB (call_isiK1 (K := K) rfl) (by rfl) T.isinstance PyProof.Rows.boot_isinstance (pa_cons (pe_ix (ix_tupK (K := K) rfl) (pv 0) pe_int (fun _ _ => rfl)) (pa_cons (pe_bltn (v := .ty "str") rfl T.str PyProof.Rows.boot_str rfl) pa_nil)))))))))
  pss_any
  pss_nil)
 (pss_cons (ps_par (i := 1) (j := 2) (by rfl) nd rfl rfl (by decide) rfl rfl (pa_cons (pe_ix (ix_tupK (K := K) rfl) (pv 0) pe_int (fun _ _ => rfl)) (pa_cons (pe_ix (ix_tupK (K := K) rfl) (pv 0) pe_int (fun _ _ => rfl)) pa_nil)) (by rfl))
 (pss_cons (ps_if (pt_cmpR op_eq (pe_callB (call_lenK (K := K) rfl) (by rfl) T.len PySem.boot_len (pa_cons (pv 0) pa_nil)) pe_int (nomark _))
  (pss_one (ps_ret (pe_or (pe_and (pe_cmpR (op_eqDK (K := K) rfl hr.units) (pv 1) pe_str (nomark _)) (pe_one (pe_def D_is_numbers (hr.mono (by decide)) rfl pass0 (pa_cons (pv 2) pa_nil)))) (pe_one (pe_and (pe_cmpR (op_eqDK (K := K) rfl hr.units) (pv 1) pe_str (nomark _)) (pe_one (pe_def D_is_mark (hr.mono (by decide)) rfl pass0 (pa_cons (pv 2) pa_nil))))))))
  pss_nil)
 (pss_cons (ps_if (pt_cmpR (op_eqDK (K := K) rfl hr.units) (pv 1) pe_str (nomark _))
  (pss_one (ps_ret (pe_and (pe_def D_is_body (hr.mono (by decide)) rfl pass0 (pa_cons (pv 2) pa_nil)) (pe_one (pe_def D_is_signs (hr.mono (by decide)) rfl pass0 (pa_cons (pe_ix (ix_tupK (K := K) rfl) (pv 0) pe_int (fun _ _ => rfl)) pa_nil))))))
  pss_nil)
 (pss_cons (ps_if (pt_cmpR (op_in_seqK (K := K) rfl) (pv 1) (pe_tup (pa_cons pe_str (pa_cons pe_str pa_nil))) (by rfl))
  (pss_one (ps_ret (pe_and (pe_def D_is_numbers (hr.mono (by decide)) rfl pass0 (pa_cons (pv 2) pa_nil)) (pe_one (pe_def D_is_sign (hr.mono (by decide)) rfl pass0 (pa_cons (pe_ix (ix_tupK (K := K) rfl) (pv 0) pe_int (fun _ _ => rfl)) pa_nil))))))
  pss_nil)
 (pss_one (ps_ret (pe_and (pe_cmpR (op_eqDK (K := K) rfl hr.units) (pv 1) pe_str (nomark _)) (pe_and (pe_def D_is_numbers (hr.mono (by decide)) rfl pass0 (pa_cons (pv 2) pa_nil)) (pe_one (pe_def D_is_signs (hr.mono (by decide)) rfl pass0 (pa_cons (pe_ix (ix_tupK (K := K) rfl) (pv 0) pe_int (fun _ _ => rfl)) pa_nil))))))))))), ?_⟩
    obtain ⟨u, rest, ha, hl⟩ := hd.word
    refine ⟨_, rfl, .ref a, .ty "tuple", .type "tuple", .type "tuple", true, rfl, .ty _, .base (.tup ha), kit_ty (by decide +kernel), _, rfl, itbF rfl ?_⟩
    refine ⟨_, rfl, a, _, rfl, .inr (st ha), by show 2 ≤ sizeLine; decide, fun tp ntp => ?_⟩
    have s1 := same_new (o := .tup [.int 2, .int 3]) ntp
    refine ⟨tp, _, rfl, .inr (st upd_same), rfl, rfl, _, rfl, itbF ?_ ?_⟩
    · match rest, hl with
      | [], _ => rfl
      | [_], _ => rfl
      | _ :: _ :: _, hl => simp at hl
    have ha1 := s1 _ _ ha
    have hd1 := hd.same s1
    generalize upd H tp (.tup [.int 2, .int 3]) = H1 at s1 ha1 hd1
    refine ⟨_, rfl, a, _, 0, .str (wordD d), rfl, rfl, st ha1, atI_nat (j := 0) rfl, .str (wordD d), .ty "str", .type "str", .type "str", true, rfl, .ty _, .base (.str _), kit_ty (by decide +kernel), _, rfl, itbF rfl ?_⟩
    cases d with
    | app b ss =>
      obtain ⟨sa, h, hs, hb, hu⟩ := hd1
      refine ⟨_, rfl, a, _, 0, .str "append", rfl, rfl, st h, atI_nat (j := 0) rfl, _, rfl, a, _, 1, .int b, rfl, rfl, st h, atI_nat (j := 1) rfl, _, _, rfl, ?_⟩
      refine ⟨_, rfl, a, _, rfl, .inr (st h), rfl, _, rfl, itbF (decide_eq_false (fun z => absurd (V.int.inj z) (by simp))) ?_⟩
      refine ⟨_, rfl, ?_⟩
      delta tC; dsimp only
      refine eq_str true (by decide +kernel) (by decide +kernel) ⟨_, rfl, itbT rfl ?_⟩
      refine ⟨_, rfl, b, rfl, hb, _, rfl, itbT rfl ?_⟩
      exact ⟨_, rfl, a, _, 2, .ref sa, rfl, rfl, st h, atI_nat (j := 2) rfl, sa, ss, rfl, hs, okSs_iff.mpr hu, fun H2 s2 => q H2 (s1.trans s2)⟩
    | add ns z =>
      obtain ⟨na, h, hn, hz⟩ := hd1
      refine ⟨_, rfl, a, _, 0, .str "add", rfl, rfl, st h, atI_nat (j := 0) rfl, _, rfl, a, _, 1, .ref na, rfl, rfl, st h, atI_nat (j := 1) rfl, _, _, rfl, ?_⟩
      refine ⟨_, rfl, a, _, rfl, .inr (st h), rfl, _, rfl, itbF (decide_eq_false (fun z => absurd (V.int.inj z) (by simp))) ?_⟩
      refine ⟨_, rfl, ?_⟩
      delta tC; dsimp only
      refine eq_str false (by decide +kernel) (by decide +kernel) ⟨_, rfl, itbF rfl ?_⟩
      refine ⟨_, rfl, by show 2 ≤ sizeLine; decide, fun t2 n2 => ?_⟩
      have s2 := same_new (o := .tup [.str "add", .str "take"]) n2
      refine ⟨t2, _, rfl, .inr (st upd_same), rfl, rfl, _, rfl, itbT (by decide +kernel) ?_⟩
      refine ⟨_, rfl, na, ns, rfl, hn.at_.same s2, hn.one, hn.len, fun H3 s3 => ⟨_, rfl, itbT rfl ?_⟩⟩
      exact ⟨_, rfl, a, _, 2, .str z, rfl, rfl, st (s3 _ _ (s2 _ _ h)), atI_nat (j := 2) rfl, z, rfl, hz, fun H4 s4 => q H4 (((s1.trans s2).trans s3).trans s4)⟩
    | take ns z =>
      obtain ⟨na, h, hn, hz⟩ := hd1
      refine ⟨_, rfl, a, _, 0, .str "take", rfl, rfl, st h, atI_nat (j := 0) rfl, _, rfl, a, _, 1, .ref na, rfl, rfl, st h, atI_nat (j := 1) rfl, _, _, rfl, ?_⟩
      refine ⟨_, rfl, a, _, rfl, .inr (st h), rfl, _, rfl, itbF (decide_eq_false (fun z => absurd (V.int.inj z) (by simp))) ?_⟩
      refine ⟨_, rfl, ?_⟩
      delta tC; dsimp only
      refine eq_str false (by decide +kernel) (by decide +kernel) ⟨_, rfl, itbF rfl ?_⟩
      refine ⟨_, rfl, by show 2 ≤ sizeLine; decide, fun t2 n2 => ?_⟩
      have s2 := same_new (o := .tup [.str "add", .str "take"]) n2
      refine ⟨t2, _, rfl, .inr (st upd_same), rfl, rfl, _, rfl, itbT (by decide +kernel) ?_⟩
      refine ⟨_, rfl, na, ns, rfl, hn.at_.same s2, hn.one, hn.len, fun H3 s3 => ⟨_, rfl, itbT rfl ?_⟩⟩
      exact ⟨_, rfl, a, _, 2, .str z, rfl, rfl, st (s3 _ _ (s2 _ _ h)), atI_nat (j := 2) rfl, z, rfl, hz, fun H4 s4 => q H4 (((s1.trans s2).trans s3).trans s4)⟩
    | set ns zs =>
      obtain ⟨na, sa, h, hn, hs, hz⟩ := hd1
      refine ⟨_, rfl, a, _, 0, .str "set", rfl, rfl, st h, atI_nat (j := 0) rfl, _, rfl, a, _, 1, .ref na, rfl, rfl, st h, atI_nat (j := 1) rfl, _, _, rfl, ?_⟩
      refine ⟨_, rfl, a, _, rfl, .inr (st h), rfl, _, rfl, itbF (decide_eq_false (fun z => absurd (V.int.inj z) (by simp))) ?_⟩
      refine ⟨_, rfl, ?_⟩
      delta tC; dsimp only
      refine eq_str false (by decide +kernel) (by decide +kernel) ⟨_, rfl, itbF rfl ?_⟩
      refine ⟨_, rfl, by show 2 ≤ sizeLine; decide, fun t2 n2 => ?_⟩
      have s2 := same_new (o := .tup [.str "add", .str "take"]) n2
      refine ⟨t2, _, rfl, .inr (st upd_same), rfl, rfl, _, rfl, itbF (by decide +kernel) ?_⟩
      refine ⟨_, rfl, ?_⟩
      dsimp only
      refine eq_str true (by decide +kernel) (by decide +kernel) ⟨_, rfl, itbT rfl ?_⟩
      refine ⟨_, rfl, na, ns, rfl, hn.at_.same s2, hn.one, hn.len, fun H3 s3 => ⟨_, rfl, itbT rfl ?_⟩⟩
      exact ⟨_, rfl, a, _, 2, .ref sa, rfl, rfl, st (s3 _ _ (s2 _ _ h)), atI_nat (j := 2) rfl, sa, zs, rfl, s3 _ _ (s2 _ _ hs), okSs_iff.mpr hz, fun H4 s4 => q H4 (((s1.trans s2).trans s3).trans s4)⟩
    | rem ns =>
      obtain ⟨na, h, hn⟩ := hd1
      refine ⟨_, rfl, a, _, 0, .str "remove", rfl, rfl, st h, atI_nat (j := 0) rfl, _, rfl, a, _, 1, .ref na, rfl, rfl, st h, atI_nat (j := 1) rfl, _, _, rfl, ?_⟩
      refine ⟨_, rfl, a, _, rfl, .inr (st h), rfl, _, rfl, itbT (decide_eq_true rfl) ?_⟩
      refine ⟨_, rfl, ?_⟩
      delta tC; dsimp only
      refine eq_str true (by decide +kernel) (by decide +kernel) ⟨_, rfl, itbT rfl ?_⟩
      exact ⟨_, rfl, na, ns, rfl, hn.at_, hn.one, hn.len, fun H3 s3 => ⟨_, rfl, itbT rfl (q H3 (s1.trans s3))⟩⟩
    | trim m =>
      obtain ⟨h, h0⟩ := hd1
      refine ⟨_, rfl, a, _, 0, .str "trim", rfl, rfl, st h, atI_nat (j := 0) rfl, _, rfl, a, _, 1, .int m, rfl, rfl, st h, atI_nat (j := 1) rfl, _, _, rfl, ?_⟩
      refine ⟨_, rfl, a, _, rfl, .inr (st h), rfl, _, rfl, itbT (decide_eq_true rfl) ?_⟩
      refine ⟨_, rfl, ?_⟩
      delta tC; dsimp only
      refine eq_str false (by decide +kernel) (by decide +kernel) ⟨_, rfl, itbF rfl ⟨_, rfl, itbF rfl ⟨_, rfl, ?_⟩⟩⟩
      dsimp only
      refine eq_str true (by decide +kernel) (by decide +kernel) ⟨_, rfl, itbT rfl ?_⟩
      exact ⟨_, rfl, m, rfl, h0, q H1 s1⟩
theorem ok_can {f : Addr} {fd : FuncData} (t : ClT K mg C) (M_mark : MDef P w K mg base CX0 1 C "mark" nSelf (spMark C)) (D_is_deed : Def P w K mg base CX0 4 "is_deed" pV spIsDeed)
    (F : Fun K "can_be_done" "can_be_done" sCan f fd) : FnOk P w K mg base CX0 5 f fd nCan (spCan C) := by
  have nd := scCan.nd
  refine F.ok scCan (fun vs H Q E h => ?_) (fun cdv A outer s H vs Q E hr h => ?_)
  · obtain ⟨p, a, F, d, rfl, _⟩ := h
    rfl
  · obtain ⟨p, a, F, d, rfl, hF, hc, hd, q⟩ := h
    refine ⟨_, pss_cons (ps_if (pt_not (pt_val (pe_def D_is_deed (hr.mono (by decide)) rfl pass0 (pa_cons (pv 1) pa_nil)))) pss_any pss_nil)
 (pss_one (ps_ret (pe_or (pe_cmpR (op_neDK (K := K) rfl hr.units) (pe_ix (ix_tupK (K := K) rfl) (pv 1) pe_int (fun _ _ => rfl)) pe_str (nomark _)) (pe_one (pe_cmpR op_le (pe_ix (ix_tupK (K := K) rfl) (pv 1) pe_int (fun _ _ => rfl)) (pe_mdef0 M_mark t.cl (hr.mono (by decide)) pass0 (pv 0)) (nomark _)))))), ?_⟩
    refine ⟨_, rfl, a, d, rfl, hd, fun H1 s1 => ⟨_, rfl, itbF rfl ?_⟩⟩
    have hd1 := hd.same s1
    by_cases ht : ∃ m, d = .trim m
    · obtain ⟨m, rfl⟩ := ht
      obtain ⟨ha, h0⟩ := hd1
      have hF1 := hF.same s1
      obtain ⟨dx, tl, tg, hp, _⟩ := id hF1
      refine ⟨_, rfl, a, _, 0, .str "trim", rfl, rfl, st ha, atI_nat (j := 0) rfl, ?_⟩
      delta tC; dsimp only
      refine ne_str true (by decide +kernel) (by decide +kernel) ⟨_, rfl, itbF rfl ?_⟩
      refine ⟨_, rfl, a, _, 1, .int m, rfl, rfl, st ha, atI_nat (j := 1) rfl, _, rfl, p, dx, _, rfl, hp, fl_no (by decide +kernel), p, F, rfl, hF1, _, _, rfl, rfl, ?_⟩
      show Q (.bl (decide (m ≤ F.mr))) H1
      rw [decide_eq_true (show m ≤ F.mr from hc)]
      exact q H1 s1
    obtain ⟨u, rest, ha, hl⟩ := hd1.word
    refine ⟨_, rfl, a, _, 0, .str (wordD d), rfl, rfl, st ha, atI_nat (j := 0) rfl, ?_⟩
    delta tC; dsimp only
    refine ne_str false (word_ok d) ?_ ⟨_, rfl, itbT rfl (q H1 s1)⟩
    cases d with
    | app b ss => exact (show (("append" : Str) == "trim") = false by decide +kernel)
    | add b ss => exact (show (("add" : Str) == "trim") = false by decide +kernel)
    | take b ss => exact (show (("take" : Str) == "trim") = false by decide +kernel)
    | set b ss => exact (show (("set" : Str) == "trim") = false by decide +kernel)
    | rem b => exact (show (("remove" : Str) == "trim") = false by decide +kernel)
    | trim m => exact absurd ⟨m, rfl⟩ ht
end
end K1
set_option Elab.async false
set_option linter.all false
set_option maxRecDepth 100000
set_option maxHeartbeats 2000000
namespace K1
open PySem PySem.Spec PyProof.Rows L2 RZ StX
/-! ### what folders keep -/
structure Wf (n : Nat) (F : Fo) : Prop where
  age : 1 ≤ F.age
  len : F.ls.length + F.go.length ≤ n
  sg : ∀ l ∈ F.ls, OkSs l.s
noncomputable def OkD : Dd → Prop
  | .app b ss => 0 ≤ b ∧ OkSs ss
  | .add _ z => okS z = true
  | .take _ z => okS z = true
  | .set _ zs => OkSs zs
  | .rem _ => True
  | .trim m => 0 ≤ m
theorem DdAt.ok {H : Hp} {a : Addr} : ∀ {d : Dd}, DdAt H a d → OkD d
  | .app b ss, ⟨sa, _, _, h3, h4⟩ => ⟨h3, h4⟩
  | .add ns z, ⟨na, _, _, h3⟩ => h3
  | .take ns z, ⟨na, _, _, h3⟩ => h3
  | .set ns zs, ⟨na, sa, _, _, _, h4⟩ => h4
  | .rem ns, ⟨na, _, _⟩ => trivial
  | .trim m, ⟨_, h⟩ => h
theorem sigL_len (ns : List Int) (g : List Str → List Str) : ∀ (ls : List Lt) (m : Int), (sigL ns g ls m).1.length = ls.length
  | [], m => rfl
  | l :: r, m => by
    unfold sigL
    split
    · show (sigL ns g r m).1.length + 1 = _
      rw [sigL_len ns g r m]; rfl
    · show (sigL ns g r (m + 1)).1.length + 1 = _
      rw [sigL_len ns g r (m + 1)]; rfl
theorem remL_len (ns : List Int) : ∀ (ls : List Lt) (m : Int), (remL ns ls m).1.length + (remL ns ls m).2.1.length = ls.length
  | [], m => rfl
  | l :: r, m => by
    unfold remL
    split
    · have := remL_len ns r (m + 1)
      simp only [List.length_cons]; omega
    · have := remL_len ns r m
      simp only [List.length_cons]; omega
theorem sigL_sg (ns : List Int) {g : List Str → List Str} (hg : ∀ ss, OkSs ss → OkSs (g ss)) : ∀ (ls : List Lt) (m : Int), (∀ l ∈ ls, OkSs l.s) → ∀ l ∈ (sigL ns g ls m).1, OkSs l.s
  | [], m, _, l, hl => by cases hl
  | x :: r, m, h, l, hl => by
    unfold sigL at hl
    split at hl
    · rcases List.mem_cons.mp hl with rfl | hl
      · exact h _ List.mem_cons_self
      · exact sigL_sg ns hg r m (fun y hy => h y (List.mem_cons_of_mem _ hy)) l hl
    · rcases List.mem_cons.mp hl with rfl | hl
      · exact newS_u (h _ List.mem_cons_self) hg
      · exact sigL_sg ns hg r (m + 1) (fun y hy => h y (List.mem_cons_of_mem _ hy)) l hl
theorem remL_mem (ns : List Int) : ∀ (ls : List Lt) (m : Int), ∀ l ∈ (remL ns ls m).1, l ∈ ls
  | [], m, l, hl => by cases hl
  | x :: r, m, l, hl => by
    unfold remL at hl
    split at hl
    · exact List.mem_cons_of_mem _ (remL_mem ns r (m + 1) l hl)
    · rcases List.mem_cons.mp hl with rfl | hl
      · exact List.mem_cons_self
      · exact List.mem_cons_of_mem _ (remL_mem ns r m l hl)
theorem wf_sig {n : Nat} {F : Fo} {ns : List Int} {g : List Str → List Str} (h : Wf n F) (hg : ∀ ss, OkSs ss → OkSs (g ss)) : Wf n (fSig F ns g) :=
  ⟨h.age, by show (sigL ns g F.ls F.mr).1.length + F.go.length ≤ n; rw [sigL_len]; exact h.len, sigL_sg ns hg _ _ h.sg⟩
theorem Wf.mono {n m : Nat} {F : Fo} (h : Wf n F) (k : n ≤ m) : Wf m F := ⟨h.age, Nat.le_trans h.len k, h.sg⟩
theorem wf_does {n : Nat} {F : Fo} : ∀ {d : Dd}, OkD d → Wf n F → Wf (n + 1) (does d F)
  | .app b ss, h, w => ⟨w.age, by have := w.len; show (F.ls ++ _).length + F.go.length ≤ n + 1; rw [List.length_append]; show F.ls.length + 1 + F.go.length ≤ n + 1; omega, fun l hl => by
      rcases List.mem_append.mp (show l ∈ F.ls ++ _ from hl) with hl | hl
      · exact w.sg l hl
      · rw [List.mem_singleton.mp hl]; exact h.2⟩
  | .add ns z, h, w => (wf_sig w fun ss hs => wG_ok hs h).mono (Nat.le_succ _)
  | .take ns z, h, w => (wf_sig w fun ss hs => nS_ok hs).mono (Nat.le_succ _)
  | .set ns zs, h, w => (wf_sig w fun ss hs => h).mono (Nat.le_succ _)
  | .rem ns, h, w => ⟨w.age, by have := w.len; have := remL_len ns F.ls F.mr; show (remL ns F.ls F.mr).1.length + (F.go ++ (remL ns F.ls F.mr).2.1).length ≤ n + 1; rw [List.length_append]; omega, fun l hl => w.sg l (remL_mem ns _ _ l hl)⟩
  | .trim m, h, w => ⟨w.age, by have := w.len; have := List.length_filter_le (fun g : Int × Int => decide (mxI F.ct m < g.1)) F.go; show F.ls.length + (F.go.filter fun g => decide (mxI F.ct m < g.1)).length ≤ n + 1; omega, w.sg⟩
noncomputable def spDone (C PA PT PS : Addr) : Sp := fun vs H Q _ => ∃ (p a : Addr) (F : Fo) (d : Dd), vs = [.ref p, .ref a] ∧ FoAt C H p F ∧ Wf 1000 F ∧ DdAt H a d ∧ CanD F d ∧ LamX.Tabs (T3 PA PT PS) H ∧
  ∀ q H', LamX.ExtN H H' → LamX.Tabs (T3 PA PT PS) H' → FoAt C H' q (does d F) → Q (.ref q) H'
/-- the folder behind deeds -/
noncomputable def doesL : List Dd → Fo → Fo
  | [], F => F
  | d :: r, F => doesL r (does d F)
inductive DdsAt (H : Hp) : List V → List Dd → Prop
  | nil : DdsAt H [] []
  | cons {a : Addr} {d : Dd} {xs : List V} {ds : List Dd} : DdAt H a d → DdsAt H xs ds → DdsAt H (.ref a :: xs) (d :: ds)
theorem DdsAt.get {H : Hp} : ∀ {xs : List V} {ds : List Dd}, DdsAt H xs ds → ∀ {i : Nat} {v : V}, xs[i]? = some v → ∃ a d, v = .ref a ∧ ds[i]? = some d ∧ DdAt H a d
  | _, _, .nil, i, v, h => by simp at h
  | _, _, .cons hd r, 0, v, h => ⟨_, _, by simpa using h.symm, rfl, hd⟩
  | _, _, .cons hd r, i + 1, v, h => by simpa using DdsAt.get r (i := i) (v := v) (by simpa using h)
theorem DdsAt.len {H : Hp} : ∀ {xs : List V} {ds : List Dd}, DdsAt H xs ds → xs.length = ds.length
  | _, _, .nil => rfl
  | _, _, .cons _ r => congrArg (· + 1) r.len
section
variable {P : Program} {w : World} {K : PySem.W.Frag} {mg : Str → Option Value} {base : Heap} {C PA PT PS : Addr}
theorem ok_done {f : Addr} {fd : FuncData} (t : ClT K mg C) (M_app : MDef P w K mg base CX0 6 C "appended" pApp (spApp C)) (M_add : MDef P w K mg base CX0 8 C "added" nAdd (spSgn C PA PT PS (fun z ss => wG ss z))) (M_take : MDef P w K mg base CX0 8 C "taken" nAdd (spSgn C PA PT PS (fun z ss => nS ss z)))
    (M_set : MDef P w K mg base CX0 8 C "set_to" nSet (spSet C PA PT PS)) (M_rem : MDef P w K mg base CX0 6 C "removed" pRem (spRem C)) (M_trim : MDef P w K mg base CX0 6 C "trimmed" pTrim (spTrim C)) (F : Fun K "done" "done" sDone f fd) : FnOk P w K mg base CX0 9 f fd pDone (spDone C PA PT PS) := by
  have nd := scDone.nd
  refine F.ok scDone (fun vs H Q E h => ?_) (fun cdv A outer s H vs Q E hr h => ?_)
  · obtain ⟨p, a, F, d, rfl, _⟩ := h
    rfl
  · obtain ⟨p, a, F, d, rfl, hF, hw, hd, hcan, hT, q⟩ := h
    refine ⟨_, pss_cons (ps_par (i := 2) (j := 3) (by rfl) nd rfl rfl (by decide) rfl rfl (pa_cons (pe_ix (ix_tupK (K := K) rfl) (pv 1) pe_int (fun _ _ => rfl)) (pa_cons (pe_ix (ix_tupK (K := K) rfl) (pv 1) pe_int (fun _ _ => rfl)) pa_nil)) (by rfl))
 (pss_cons (ps_if (pt_cmpR (op_eqDK (K := K) rfl hr.units) (pv 2) pe_str (nomark _))
  (pss_one (ps_ret (pe_mdef M_app t.cl (hr.mono (by decide)) pass0 (pv 0) (pa_cons (pv 3) (pa_cons (pe_ix (ix_tupK (K := K) rfl) (pv 1) pe_int (fun _ _ => rfl)) pa_nil)))))
  pss_nil)
 (pss_cons (ps_if (pt_cmpR (op_eqDK (K := K) rfl hr.units) (pv 2) pe_str (nomark _))
  (pss_one (ps_ret (pe_mdef M_add t.cl (hr.mono (by decide)) pass0 (pv 0) (pa_cons (pv 3) (pa_cons (pe_ix (ix_tupK (K := K) rfl) (pv 1) pe_int (fun _ _ => rfl)) pa_nil)))))
  pss_nil)
 (pss_cons (ps_if (pt_cmpR (op_eqDK (K := K) rfl hr.units) (pv 2) pe_str (nomark _))
  (pss_one (ps_ret (pe_mdef M_take t.cl (hr.mono (by decide)) pass0 (pv 0) (pa_cons (pv 3) (pa_cons (pe_ix (ix_tupK (K := K) rfl) (pv 1) pe_int (fun _ _ => rfl)) pa_nil)))))
  pss_nil)
 (pss_cons (ps_if (pt_cmpR (op_eqDK (K := K) rfl hr.units) (pv 2) pe_str (nomark _))
  (pss_one (ps_ret (pe_mdef M_set t.cl (hr.mono (by decide)) pass0 (pv 0) (pa_cons (pv 3) (pa_cons (pe_ix (ix_tupK (K := K) rfl) (pv 1) pe_int (fun _ _ => rfl)) pa_nil)))))
  pss_nil)
 (pss_cons (ps_if (pt_cmpR (op_eqDK (K := K) rfl hr.units) (pv 2) pe_str (nomark _))
  (pss_one (ps_ret (pe_mdef M_rem t.cl (hr.mono (by decide)) pass0 (pv 0) (pa_cons (pv 3) pa_nil))))
  pss_nil)
 (pss_one (ps_ret (pe_mdef M_trim t.cl (hr.mono (by decide)) pass0 (pv 0) (pa_cons (pv 3) pa_nil))))))))), ?_⟩
    have hwl := hw.len
    obtain ⟨dx, tl, tg, hp, h1, h2⟩ := hF
    have hF : FoAt C H p F := ⟨dx, tl, tg, hp, h1, h2⟩
    cases d with
    | app b ss =>
      obtain ⟨sa, h, hs, hb, hu⟩ := hd
      refine ⟨_, rfl, a, _, 0, .str "append", rfl, rfl, st h, atI_nat (j := 0) rfl, _, rfl, a, _, 1, .int b, rfl, rfl, st h, atI_nat (j := 1) rfl, _, _, rfl, ?_⟩
      refine ⟨_, rfl, ?_⟩
      delta tC; dsimp only
      refine eq_str true (by decide +kernel) (by decide +kernel) ⟨_, rfl, itbT rfl ?_⟩
      exact ⟨_, rfl, p, dx, _, rfl, hp, fl_no (by decide +kernel), _, rfl, _, rfl, a, _, 2, .ref sa, rfl, rfl, st h, atI_nat (j := 2) rfl, p, sa, F, b, ss, rfl, hF, hw.age, hb, hs, hu, by omega, fun q' H' s' _ hF' => q q' H' (LamX.ExtN.of s') (hT.ext s') hF'⟩
    | add ns z =>
      obtain ⟨na, h, hn, hz⟩ := hd
      refine ⟨_, rfl, a, _, 0, .str "add", rfl, rfl, st h, atI_nat (j := 0) rfl, _, rfl, a, _, 1, .ref na, rfl, rfl, st h, atI_nat (j := 1) rfl, _, _, rfl, ?_⟩
      refine ⟨_, rfl, ?_⟩
      delta tC; dsimp only
      refine eq_str false (by decide +kernel) (by decide +kernel) ⟨_, rfl, itbF rfl ⟨_, rfl, ?_⟩⟩
      dsimp only
      refine eq_str true (by decide +kernel) (by decide +kernel) ⟨_, rfl, itbT rfl ?_⟩
      exact ⟨_, rfl, p, dx, _, rfl, hp, fl_no (by decide +kernel), _, rfl, _, rfl, a, _, 2, .str z, rfl, rfl, st h, atI_nat (j := 2) rfl, p, na, F, ns, z, rfl, hF, hw.age, hn, by omega, hw.sg, hz, hT, q⟩
    | take ns z =>
      obtain ⟨na, h, hn, hz⟩ := hd
      refine ⟨_, rfl, a, _, 0, .str "take", rfl, rfl, st h, atI_nat (j := 0) rfl, _, rfl, a, _, 1, .ref na, rfl, rfl, st h, atI_nat (j := 1) rfl, _, _, rfl, ?_⟩
      refine ⟨_, rfl, ?_⟩
      delta tC; dsimp only
      refine eq_str false (by decide +kernel) (by decide +kernel) ⟨_, rfl, itbF rfl ⟨_, rfl, ?_⟩⟩
      dsimp only
      refine eq_str false (by decide +kernel) (by decide +kernel) ⟨_, rfl, itbF rfl ⟨_, rfl, ?_⟩⟩
      dsimp only
      refine eq_str true (by decide +kernel) (by decide +kernel) ⟨_, rfl, itbT rfl ?_⟩
      exact ⟨_, rfl, p, dx, _, rfl, hp, fl_no (by decide +kernel), _, rfl, _, rfl, a, _, 2, .str z, rfl, rfl, st h, atI_nat (j := 2) rfl, p, na, F, ns, z, rfl, hF, hw.age, hn, by omega, hw.sg, hz, hT, q⟩
    | set ns zs =>
      obtain ⟨na, sa, h, hn, hs, hz⟩ := hd
      refine ⟨_, rfl, a, _, 0, .str "set", rfl, rfl, st h, atI_nat (j := 0) rfl, _, rfl, a, _, 1, .ref na, rfl, rfl, st h, atI_nat (j := 1) rfl, _, _, rfl, ?_⟩
      refine ⟨_, rfl, ?_⟩
      delta tC; dsimp only
      refine eq_str false (by decide +kernel) (by decide +kernel) ⟨_, rfl, itbF rfl ⟨_, rfl, ?_⟩⟩
      dsimp only
      refine eq_str false (by decide +kernel) (by decide +kernel) ⟨_, rfl, itbF rfl ⟨_, rfl, ?_⟩⟩
      dsimp only
      refine eq_str false (by decide +kernel) (by decide +kernel) ⟨_, rfl, itbF rfl ⟨_, rfl, ?_⟩⟩
      dsimp only
      refine eq_str true (by decide +kernel) (by decide +kernel) ⟨_, rfl, itbT rfl ?_⟩
      exact ⟨_, rfl, p, dx, _, rfl, hp, fl_no (by decide +kernel), _, rfl, _, rfl, a, _, 2, .ref sa, rfl, rfl, st h, atI_nat (j := 2) rfl, p, na, sa, F, ns, zs, rfl, hF, hw.age, hn, by omega, hw.sg, hz, hs, hT, q⟩
    | rem ns =>
      obtain ⟨na, h, hn⟩ := hd
      refine ⟨_, rfl, a, _, 0, .str "remove", rfl, rfl, st h, atI_nat (j := 0) rfl, _, rfl, a, _, 1, .ref na, rfl, rfl, st h, atI_nat (j := 1) rfl, _, _, rfl, ?_⟩
      refine ⟨_, rfl, ?_⟩
      delta tC; dsimp only
      refine eq_str false (by decide +kernel) (by decide +kernel) ⟨_, rfl, itbF rfl ⟨_, rfl, ?_⟩⟩
      dsimp only
      refine eq_str false (by decide +kernel) (by decide +kernel) ⟨_, rfl, itbF rfl ⟨_, rfl, ?_⟩⟩
      dsimp only
      refine eq_str false (by decide +kernel) (by decide +kernel) ⟨_, rfl, itbF rfl ⟨_, rfl, ?_⟩⟩
      dsimp only
      refine eq_str false (by decide +kernel) (by decide +kernel) ⟨_, rfl, itbF rfl ⟨_, rfl, ?_⟩⟩
      dsimp only
      refine eq_str true (by decide +kernel) (by decide +kernel) ⟨_, rfl, itbT rfl ?_⟩
      exact ⟨_, rfl, p, dx, _, rfl, hp, fl_no (by decide +kernel), _, rfl, p, na, F, ns, rfl, hF, hw.age, hn, by omega, by omega, fun q' H' s' _ hF' => q q' H' (LamX.ExtN.of s') (hT.ext s') hF'⟩
    | trim m =>
      obtain ⟨h, h0⟩ := hd
      refine ⟨_, rfl, a, _, 0, .str "trim", rfl, rfl, st h, atI_nat (j := 0) rfl, _, rfl, a, _, 1, .int m, rfl, rfl, st h, atI_nat (j := 1) rfl, _, _, rfl, ?_⟩
      refine ⟨_, rfl, ?_⟩
      delta tC; dsimp only
      refine eq_str false (by decide +kernel) (by decide +kernel) ⟨_, rfl, itbF rfl ⟨_, rfl, ?_⟩⟩
      dsimp only
      refine eq_str false (by decide +kernel) (by decide +kernel) ⟨_, rfl, itbF rfl ⟨_, rfl, ?_⟩⟩
      dsimp only
      refine eq_str false (by decide +kernel) (by decide +kernel) ⟨_, rfl, itbF rfl ⟨_, rfl, ?_⟩⟩
      dsimp only
      refine eq_str false (by decide +kernel) (by decide +kernel) ⟨_, rfl, itbF rfl ⟨_, rfl, ?_⟩⟩
      dsimp only
      refine eq_str false (by decide +kernel) (by decide +kernel) ⟨_, rfl, itbF rfl ?_⟩
      exact ⟨_, rfl, p, dx, _, rfl, hp, fl_no (by decide +kernel), _, rfl, p, F, m, rfl, hF, hw.age, h0, hcan, by omega, fun q' H' s' _ hF' => q q' H' (LamX.ExtN.of s') (hT.ext s') hF'⟩
end
end K1
set_option Elab.async false
set_option linter.all false
set_option maxRecDepth 100000
set_option maxHeartbeats 1000000
/-! Good folders; what copying and moving make, letter by letter. -/
namespace K1
open PySem PySem.Spec PyProof.Rows L2 RZ
structure Gd (k : Nat) (F : Fo) : Prop where
  wf : Wf k F
  nd : (F.ls.map (·.n)).Nodup
  it : ∀ l ∈ F.ls, 1 ≤ l.n ∧ l.n < F.nx ∧ 0 ≤ l.b
  nx : 1 ≤ F.nx ∧ F.nx ≤ k + 1
  mr : 0 ≤ F.mr ∧ F.mr ≤ 1000 * k
theorem Gd.mono {k m : Nat} {F : Fo} (h : Gd k F) (e : k ≤ m) : Gd m F := ⟨h.wf.mono e, h.nd, h.it, ⟨h.nx.1, by have := h.nx.2; omega⟩, ⟨h.mr.1, by have := h.mr.2; omega⟩⟩
theorem sigL_it (ns : List Int) (g : List Str → List Str) : ∀ (ls : List Lt) (m : Int), (sigL ns g ls m).1.map (fun l => (l.n, l.b)) = ls.map (fun l => (l.n, l.b))
  | [], m => rfl
  | l :: r, m => by
    unfold sigL
    split
    · rw [List.map_cons, List.map_cons, sigL_it ns g r m]
    · rw [List.map_cons, List.map_cons, sigL_it ns g r (m + 1)]
theorem sigL_mr (ns : List Int) (g : List Str → List Str) : ∀ (ls : List Lt) (m : Int), m ≤ (sigL ns g ls m).2 ∧ (sigL ns g ls m).2 ≤ m + ls.length
  | [], m => ⟨Int.le_refl _, by show m ≤ m + 0; omega⟩
  | l :: r, m => by
    unfold sigL
    split
    · have := sigL_mr ns g r m
      rw [List.length_cons]
      exact ⟨this.1, by have := this.2; show _ ≤ m + ((r.length + 1 : Nat) : Int); dsimp only; omega⟩
    · have := sigL_mr ns g r (m + 1)
      rw [List.length_cons]
      exact ⟨by have := this.1; dsimp only; omega, by have := this.2; show _ ≤ m + ((r.length + 1 : Nat) : Int); dsimp only; omega⟩
theorem remL_sub (ns : List Int) : ∀ (ls : List Lt) (m : Int), (remL ns ls m).1.Sublist ls
  | [], m => .slnil
  | l :: r, m => by
    unfold remL
    split
    · exact (remL_sub ns r (m + 1)).cons l
    · exact (remL_sub ns r m).cons₂ l
theorem remL_mr (ns : List Int) : ∀ (ls : List Lt) (m : Int), m ≤ (remL ns ls m).2.2 ∧ (remL ns ls m).2.2 ≤ m + ls.length
  | [], m => ⟨Int.le_refl _, by show m ≤ m + 0; omega⟩
  | l :: r, m => by
    unfold remL
    split
    · have := remL_mr ns r (m + 1)
      rw [List.length_cons]
      exact ⟨by have := this.1; dsimp only; omega, by have := this.2; show _ ≤ m + ((r.length + 1 : Nat) : Int); dsimp only; omega⟩
    · have := remL_mr ns r m
      rw [List.length_cons]
      exact ⟨this.1, by have := this.2; show _ ≤ m + ((r.length + 1 : Nat) : Int); dsimp only; omega⟩
theorem it_of {xs ys : List Lt} (e : xs.map (fun l => (l.n, l.b)) = ys.map (fun l => (l.n, l.b))) {l : Lt} (h : l ∈ xs) : ∃ y ∈ ys, y.n = l.n ∧ y.b = l.b := by
  have : (l.n, l.b) ∈ ys.map (fun l => (l.n, l.b)) := by rw [← e]; exact List.mem_map.mpr ⟨l, h, rfl⟩
  obtain ⟨y, hy, ey⟩ := List.mem_map.mp this
  exact ⟨y, hy, congrArg Prod.fst ey, congrArg Prod.snd ey⟩
theorem nd_of {xs ys : List Lt} (e : xs.map (fun l => (l.n, l.b)) = ys.map (fun l => (l.n, l.b))) (h : (ys.map (·.n)).Nodup) : (xs.map (·.n)).Nodup := by
  have e1 := congrArg (List.map Prod.fst) e
  rw [List.map_map, List.map_map] at e1
  have e2 : xs.map (·.n) = ys.map (·.n) := e1
  rw [e2]; exact h
theorem gd_sig {k : Nat} {F : Fo} {ns : List Int} {g : List Str → List Str} (hk : k ≤ 1000) (h : Gd k F) (w : Wf (k + 1) (fSig F ns g)) : Gd (k + 1) (fSig F ns g) := by
  have e := sigL_it ns g F.ls F.mr
  have m := sigL_mr ns g F.ls F.mr
  have hl := h.wf.len
  refine ⟨w, nd_of e h.nd, fun l hl => ?_, ⟨h.nx.1, by have := h.nx.2; show F.nx ≤ _; omega⟩, ⟨by have := h.mr.1; show 0 ≤ (sigL ns g F.ls F.mr).2; omega, by have := h.mr.2; show (sigL ns g F.ls F.mr).2 ≤ _; omega⟩⟩
  obtain ⟨y, hy, e1, e2⟩ := it_of e hl
  have := h.it y hy
  rw [e1, e2] at this
  exact this
theorem gd_does {k : Nat} {F : Fo} (hk : k ≤ 1000) (h : Gd k F) : ∀ {d : Dd}, OkD d → Gd (k + 1) (does d F)
  | .app b ss, o => by
    have hx := h.nx
    have hm := h.mr
    refine ⟨wf_does (d := .app b ss) o h.wf, ?_, fun l hl => ?_, ⟨by show 1 ≤ F.nx + 1; omega, by show F.nx + 1 ≤ _; omega⟩, ⟨by show 0 ≤ F.mr + 1; omega, by show F.mr + 1 ≤ _; omega⟩⟩
    · show ((F.ls ++ [(⟨F.nx, b, ss, F.mr + 1⟩ : Lt)]).map (·.n)).Nodup
      rw [List.map_append]
      refine List.nodup_append.mpr ⟨h.nd, by simp, fun a ha b' hb e => ?_⟩
      obtain ⟨l, hl, rfl⟩ := List.mem_map.mp ha
      have h1 : b' = F.nx := by simpa using hb
      have := (h.it l hl).2.1
      omega
    · rcases List.mem_append.mp (show l ∈ F.ls ++ _ from hl) with z | z
      · have := h.it l z
        exact ⟨this.1, by show l.n < F.nx + 1; omega, this.2.2⟩
      · rw [List.mem_singleton.mp z]
        exact ⟨hx.1, by show F.nx < F.nx + 1; omega, o.1⟩
  | .add ns z, o => gd_sig hk h (wf_does (d := .add ns z) o h.wf)
  | .take ns z, o => gd_sig hk h (wf_does (d := .take ns z) o h.wf)
  | .set ns zs, o => gd_sig hk h (wf_does (d := .set ns zs) o h.wf)
  | .rem ns, o => by
    have s := remL_sub ns F.ls F.mr
    have m := remL_mr ns F.ls F.mr
    have hl := h.wf.len
    refine ⟨wf_does (d := .rem ns) o h.wf, List.Nodup.sublist (s.map _) h.nd, fun l hl => h.it l (s.subset hl), ⟨h.nx.1, by have := h.nx.2; show F.nx ≤ _; omega⟩, ⟨by have := h.mr.1; show 0 ≤ (remL ns F.ls F.mr).2.2; omega, by have := h.mr.2; show (remL ns F.ls F.mr).2.2 ≤ _; omega⟩⟩
  | .trim m, o => ⟨wf_does (d := .trim m) o h.wf, h.nd, h.it, ⟨h.nx.1, by have := h.nx.2; show F.nx ≤ _; omega⟩, ⟨h.mr.1, by have := h.mr.2; show F.mr ≤ _; omega⟩⟩
theorem gd_new {a : Int} (h : 1 ≤ a) : Gd 0 (fNew a) := ⟨⟨h, Nat.le_refl _, fun l hl => by cases hl⟩, List.nodup_nil, fun l hl => (by cases hl), ⟨by show (1 : Int) ≤ 1; decide, by show (1 : Int) ≤ _; decide⟩, ⟨by show (0 : Int) ≤ 0; decide, by show (0 : Int) ≤ _; decide⟩⟩
structure St9 where
  f : Fo
  o : Option Fo
  ps : List (Int × Int)
noncomputable def Gd9 (k : Nat) (s : St9) : Prop := Gd k s.f ∧ ∀ g, s.o = some g → Gd k g
theorem Gd9.mono {k m : Nat} {s : St9} (h : Gd9 k s) (e : k ≤ m) : Gd9 m s := ⟨h.1.mono e, fun g hg => (h.2 g hg).mono e⟩
end K1
set_option Elab.async false
set_option linter.all false
set_option maxRecDepth 100000
set_option maxHeartbeats 1000000
/-! Letters ascend; marks are at most the folder's. -/
namespace K1
open PySem PySem.Spec PyProof.Rows L2 RZ
structure Asc2 (F : Fo) : Prop where
  up : (F.ls.map (·.n)).Pairwise (· < ·)
  mb : ∀ l ∈ F.ls, 0 ≤ l.m ∧ l.m ≤ F.mr
theorem sigL_mk (ns : List Int) (g : List Str → List Str) : ∀ (ls : List Lt) (m : Int), 0 ≤ m → (∀ l ∈ ls, 0 ≤ l.m ∧ l.m ≤ m) → ∀ l ∈ (sigL ns g ls m).1, 0 ≤ l.m ∧ l.m ≤ (sigL ns g ls m).2
  | [], m, _, _, l, hl => by cases hl
  | x :: r, m, m0, h, l, hl => by
    have hx := h x List.mem_cons_self
    unfold sigL at hl ⊢
    split at hl <;> rename_i c
    · rw [if_pos c]
      have k := sigL_mr ns g r m
      rcases List.mem_cons.mp hl with rfl | hl
      · exact ⟨hx.1, Int.le_trans hx.2 k.1⟩
      · exact sigL_mk ns g r m m0 (fun y hy => h y (List.mem_cons_of_mem _ hy)) l hl
    · rw [if_neg c]
      have k := sigL_mr ns g r (m + 1)
      rcases List.mem_cons.mp hl with rfl | hl
      · exact ⟨by show 0 ≤ m + 1; omega, k.1⟩
      · exact sigL_mk ns g r (m + 1) (by omega) (fun y hy => by have := h y (List.mem_cons_of_mem _ hy); exact ⟨this.1, by omega⟩) l hl
theorem nums_of {xs ys : List Lt} (e : xs.map (fun l => (l.n, l.b)) = ys.map (fun l => (l.n, l.b))) : xs.map (·.n) = ys.map (·.n) := by
  have e1 := congrArg (List.map Prod.fst) e
  rw [List.map_map, List.map_map] at e1
  exact e1
theorem asc_sig {k : Nat} {F : Fo} {ns : List Int} {g : List Str → List Str} (gd : Gd k F) (h : Asc2 F) : Asc2 (fSig F ns g) :=
  ⟨by show ((sigL ns g F.ls F.mr).1.map (·.n)).Pairwise _; rw [nums_of (sigL_it ns g F.ls F.mr)]; exact h.up, sigL_mk ns g F.ls F.mr gd.mr.1 h.mb⟩
theorem asc_does {k : Nat} {F : Fo} (gd : Gd k F) (h : Asc2 F) : ∀ d : Dd, Asc2 (does d F)
  | .app b ss => by
    refine ⟨?_, fun l hl => ?_⟩
    · show ((F.ls ++ [(⟨F.nx, b, ss, F.mr + 1⟩ : Lt)]).map (·.n)).Pairwise _
      rw [List.map_append]
      refine List.pairwise_append.mpr ⟨h.up, by simp, fun a ha b' hb => ?_⟩
      obtain ⟨l, hl, rfl⟩ := List.mem_map.mp ha
      have h1 : b' = F.nx := by simpa using hb
      rw [h1]
      exact (gd.it l hl).2.1
    · have m0 := gd.mr.1
      rcases List.mem_append.mp (show l ∈ F.ls ++ _ from hl) with z | z
      · have := h.mb l z
        exact ⟨this.1, by show l.m ≤ F.mr + 1; omega⟩
      · rw [List.mem_singleton.mp z]
        exact ⟨by show 0 ≤ F.mr + 1; omega, Int.le_refl _⟩
  | .add ns z => asc_sig gd h
  | .take ns z => asc_sig gd h
  | .set ns zs => asc_sig gd h
  | .rem ns => by
    have s := remL_sub ns F.ls F.mr
    have m := remL_mr ns F.ls F.mr
    exact ⟨List.Pairwise.sublist (s.map _) h.up, fun l hl => by have := h.mb l (s.subset hl); exact ⟨this.1, Int.le_trans this.2 m.1⟩⟩
  | .trim m => ⟨h.up, h.mb⟩
theorem asc_new (a : Int) : Asc2 (fNew a) := ⟨List.Pairwise.nil, fun l hl => by cases hl⟩
/-- no words are asked for -/
noncomputable def W4 (ss : List Str) : Prop := True
noncomputable def W4D : Dd → Prop
  | .app _ ss => W4 ss
  | .add _ z => True
  | .take _ _ => True
  | .set _ zs => W4 zs
  | .rem _ => True
  | .trim _ => True
theorem sigL_P {Pr : List Str → Prop} (ns : List Int) {g : List Str → List Str} (hg : ∀ ss, Pr ss → Pr (g ss)) : ∀ (ls : List Lt) (m : Int), (∀ l ∈ ls, Pr l.s) → ∀ l ∈ (sigL ns g ls m).1, Pr l.s
  | [], m, _, l, hl => by cases hl
  | x :: r, m, h, l, hl => by
    unfold sigL at hl
    split at hl
    · rcases List.mem_cons.mp hl with rfl | hl
      · exact h _ List.mem_cons_self
      · exact sigL_P ns hg r m (fun y hy => h y (List.mem_cons_of_mem _ hy)) l hl
    · rcases List.mem_cons.mp hl with rfl | hl
      · show Pr (newS ns g x)
        unfold newS
        split
        · exact hg _ (h _ List.mem_cons_self)
        · exact h _ List.mem_cons_self
      · exact sigL_P ns hg r (m + 1) (fun y hy => h y (List.mem_cons_of_mem _ hy)) l hl
theorem w4_does {F : Fo} (h : ∀ l ∈ F.ls, W4 l.s) : ∀ {d : Dd}, W4D d → ∀ l ∈ (does d F).ls, W4 l.s
  | .app b ss, hd, l, hl => (List.mem_append.mp (show l ∈ F.ls ++ _ from hl)).elim (h l) fun z => by rw [List.mem_singleton.mp z]; exact hd
  | .add ns z, hd, l, hl => trivial
  | .take ns z, hd, l, hl => trivial
  | .set ns zs, hd, l, hl => sigL_P ns (fun ss hs => hd) F.ls F.mr h l hl
  | .rem ns, hd, l, hl => h l (remL_mem ns F.ls F.mr l hl)
  | .trim m, hd, l, hl => h l hl
/-- good and ascending -/
structure GA (k : Nat) (F : Fo) : Prop where
  g : Gd k F
  a : Asc2 F
  z : ∀ l ∈ F.ls, W4 l.s
theorem GA.mono {k m : Nat} {F : Fo} (h : GA k F) (e : k ≤ m) : GA m F := ⟨h.g.mono e, h.a, h.z⟩
theorem ga_does {k : Nat} {F : Fo} {d : Dd} (hk : k ≤ 1000) (h : GA k F) (o : OkD d) (z : W4D d) : GA (k + 1) (does d F) := ⟨gd_does hk h.g o, asc_does h.g h.a d, w4_does h.z z⟩
theorem ga_doesL : ∀ {ds : List Dd} {k : Nat} {F : Fo}, k + ds.length ≤ 1000 → GA k F → (∀ d ∈ ds, OkD d ∧ W4D d) → GA (k + ds.length) (doesL ds F)
  | [], k, F, _, h, _ => h
  | d :: r, k, F, hk, h, o => by
    rw [List.length_cons] at hk
    have o1 := o d List.mem_cons_self
    have := ga_doesL (ds := r) (k := k + 1) (by omega) (ga_does (by omega) h o1.1 o1.2) fun x hx => o x (List.mem_cons_of_mem _ hx)
    rw [List.length_cons]
    have e : k + (r.length + 1) = k + 1 + r.length := by omega
    rw [e]; exact this
theorem ga_new {a : Int} (h : 1 ≤ a) : GA 0 (fNew a) := ⟨gd_new h, asc_new a, fun l hl => by cases hl⟩
end K1
set_option Elab.async false
set_option linter.all false
set_option maxRecDepth 100000
set_option maxHeartbeats 2000000
namespace K1
open PySem PySem.Spec PyProof.Rows L2 RZ StX
theorem wt_ne {H : Hp} {p a : Addr} {xs : List V} (w : WellAt H p) (h : H a = some (.tup xs)) : a ≠ p := fun z => by
  obtain ⟨c, m, t, e⟩ := w
  rw [z, e] at h; cases h
end K1
set_option Elab.async false
set_option linter.all false
set_option maxRecDepth 100000
set_option maxHeartbeats 2000000
namespace K1
open PySem PySem.Spec PyProof.Rows L2 RZ StX
theorem DdsAt.ext {H H' : Hp} (s : LamX.ExtN H H') : ∀ {xs : List V} {ds : List Dd}, DdsAt H xs ds → DdsAt H' xs ds
  | _, _, .nil => .nil
  | _, _, .cons h r => .cons (h.ext s) (r.ext s)
noncomputable def CanL : List Dd → Fo → Prop
  | [], _ => True
  | d :: r, F => CanD F d ∧ CanL r (does d F)
theorem canL_take {ds : List Dd} {i : Nat} {d : Dd} {F : Fo} (h : ds[i]? = some d) (c : CanL (ds.drop i) F) : CanD F d ∧ CanL (ds.drop (i + 1)) (does d F) := by rw [drop_cons h] at c; exact c
theorem doesL_take {ds : List Dd} {i : Nat} {d : Dd} (F : Fo) (h : ds[i]? = some d) : doesL (ds.drop i) F = doesL (ds.drop (i + 1)) (does d F) := by rw [drop_cons h]; rfl
theorem SeqH.tyK {K : PySem.W.Frag} {H : Hp} {a : Addr} {xs : List V} (h : SeqH H a xs) : ∃ tn : String, TyX K H (.ref a) (.type tn) ∧ PySem.W.kitAny K (.type tn) [.type "list", .type "tuple"] = some true := by
  rcases h with h | h
  · exact ⟨"list", .base (.lst h), kit_seq (.list [])⟩
  · exact ⟨"tuple", .base (.tup h), kit_seq (.tuple [])⟩
noncomputable def spPlayed (C PA PT PS : Addr) : Sp := fun vs H Q _ => ∃ (p h : Addr) (F : Fo) (xs : List V) (ds : List Dd) (n : Nat), vs = [.ref p, .ref h] ∧ FoAt C H p F ∧ Wf n F ∧ n + ds.length ≤ 1000 ∧ SeqH H h xs ∧ DdsAt H xs ds ∧ CanL ds F ∧ LamX.Tabs (T3 PA PT PS) H ∧
  ∀ q H', LamX.ExtN H H' → LamX.Tabs (T3 PA PT PS) H' → FoAt C H' q (doesL ds F) → Q (.ref q) H'
section
variable {P : Program} {w : World} {K : PySem.W.Frag} {mg : Str → Option Value} {base : Heap} {C PA PT PS : Addr}
theorem ok_played {f : Addr} {fd : FuncData} (T : Bk mg) (t : ClT K mg C) (iC : C8.InsC K C) (D_can : Def P w K mg base CX0 5 "can_be_done" nCan (spCan C)) (D_done : Def P w K mg base CX0 9 "done" pDone (spDone C PA PT PS)) (F : Fun K "played" "played" sPlayed f fd) : FnOk P w K mg base CX0 10 f fd pPlayed (spPlayed C PA PT PS) := by
  have nd := scPlayed.nd
  refine F.ok scPlayed (fun vs H Q E h => ?_) (fun cdv A outer s H vs Q E hr h => ?_)
  · obtain ⟨p, hh, F, xs, ds, n, rfl, _⟩ := h
    rfl
  · obtain ⟨p, hh, F, xs, ds, n, rfl, hF, hw, hn, hh1, hds, hcl, hT, q⟩ := h
    refine ⟨_, pss_cons (ps_if (pt_not (pt_val (pe_callB (C8.call_isC iC) (by rfl) T.isinstance PyProof.Rows.boot_isinstance (pa_cons (pv 0) (pa_cons (pe_glob (v := .ref C) rfl t.gC rfl) pa_nil)))))
  pss_any
  pss_nil)
 (pss_cons (ps_if (pt_not (pt_val (pe_callB (call_isiTK (K := K) rfl) (by rfl) T.isinstance PyProof.Rows.boot_isinstance (pa_cons (pv 1) (pa_cons (pe_tup (pa_cons (pe_bltn (v := .ty "list") rfl T.list PyProof.Rows.boot_list rfl) (pa_cons (pe_bltn (v := .ty "tuple") rfl T.tuple PyProof.Rows.boot_tuple rfl) pa_nil))) pa_nil)))))
  pss_any
  pss_nil)
 (C8.pss_cut (ps_for PassesOwn.never rfl (pi_enumSK (K := K) rfl (by rfl) T.enumerate (pa_cons (pv 1) pa_nil)) (pg_tup rfl (pgs_cons (pg_name (i := 2) nd rfl (Or.inl rfl)) (pgs_cons (pg_name (i := 3) nd rfl (Or.inl rfl)) pgs_nil)))
  (pss_cons (ps_if (pt_not (pt_val (pe_def D_can (hr.mono (by decide)) rfl pass0 (pa_cons (pv 0) (pa_cons (pv 3) pa_nil)))))
  pss_any
  pss_nil)
 (pss_one (ps_set (i := 0) nd rfl (Or.inl rfl) (pe_def D_done (hr.mono (by decide)) rfl pass0 (pa_cons (pv 0) (pa_cons (pv 3) pa_nil)))))))
 (pss_one (ps_ret (pv 0))))), ?_⟩
    obtain ⟨dx, tl, tg, hp, h1, h2⟩ := id hF
    refine ⟨_, rfl, p, dx, _, rfl, hp, _, rfl, itbF rfl ?_⟩
    refine ⟨_, rfl, (by show 2 ≤ sizeLine; decide), fun tp ntp => ?_⟩
    have s1 := same_new (o := .tup [.ty "list", .ty "tuple"]) ntp
    obtain ⟨tn, ty, kit⟩ := SeqH.tyK (K := K) (hh1.same s1)
    refine ⟨.ref hh, tp, [.ty "list", .ty "tuple"], .type tn, [.type "list", .type "tuple"], true, rfl, upd_same, .cons (.ty _) (.cons (.ty _) .nil), ty, kit, _, rfl, itbF rfl ?_⟩
    refine ⟨fun σ G => ∃ q' v2 v3, σ = [some (.ref q'), some (.ref hh), v2, v3] ∧ LamX.ExtN H G ∧ LamX.Tabs (T3 PA PT PS) G ∧ FoAt C G q' (doesL ds F), ?_, ?_⟩
    · refine ⟨_, rfl, hh, xs, rfl, for_enumS (K := K) (H0 := fun b => if b = hh then H b else none) (a := hh) (xs := xs) (SeqH.len (hh1.imp (fun e => by show (if hh = hh then H hh else none) = _; rw [if_pos rfl]; exact e) (fun e => by show (if hh = hh then H hh else none) = _; rw [if_pos rfl]; exact e))) (fun i σ G => ∃ q' v2 v3 F', σ = [some (.ref q'), some (.ref hh), v2, v3] ∧ LamX.ExtN H G ∧ LamX.Tabs (T3 PA PT PS) G ∧ FoAt C G q' F' ∧ Wf (n + i) F' ∧ CanL (ds.drop i) F' ∧ doesL ds F = doesL (ds.drop i) F') ?_ ?_ ?_ ?_⟩
      · exact ⟨p, none, none, F, rfl, LamX.ExtN.of s1, hT.ext s1, hF.same s1, hw, hcl, rfl⟩
      · rintro i σ G ⟨q', v2, v3, F', rfl, eG, _⟩ b o hb
        by_cases c : b = hh
        · subst c
          have hb : (if b = b then H b else none) = some o := hb
          rw [if_pos rfl] at hb
          rcases hh1 with e | e <;> (rw [e] at hb; cases hb; exact eG _ _ e fun _ z => by cases z)
        · have hb : (if b = hh then H b else none) = some o := hb
          rw [if_neg c] at hb
          cases hb
      · rintro i y σ G Tt hy ⟨q', v2, v3, F', rfl, eG, tG, hF', hw', hcF, er⟩ nT
        obtain ⟨a, d, rfl, he, hd⟩ := hds.get hy
        have hi := lt_of_get he
        obtain ⟨hcd, hcn⟩ := canL_take he hcF
        have sT := same_new (H := G) nT (o := .tup [.int (i : Nat), .ref a])
        refine ⟨Tt, [.int (i : Nat), .ref a], rfl, st upd_same, rfl, .int (i : Nat), [.ref a], rfl, .ref a, [], rfl, rfl, ?_⟩
        have hd1 := (hd.ext eG).same sT
        refine ⟨_, rfl, _, rfl, q', a, F', d, rfl, hF'.same sT, hcd, hd1, fun H4 s4 => ⟨_, rfl, itbF rfl ?_⟩⟩
        refine ⟨_, rfl, _, rfl, q', a, F', d, rfl, (hF'.same sT).same s4, hw'.mono (by omega), hd1.same s4, hcd, (tG.ext sT).ext s4, fun q2 H5 e5 t5 hF5 => ?_⟩
        exact ⟨q2, _, _, does d F', rfl, ((eG.trans (LamX.ExtN.of sT)).trans (LamX.ExtN.of s4)).trans e5, t5, hF5, wf_does hd1.ok hw', hcn, by rw [er, doesL_take F' he]⟩
      · rintro σ G ⟨q', v2, v3, F', rfl, eG, tG, hF', hw', hcF, er⟩
        rw [hds.len, List.drop_length] at er
        exact ⟨q', v2, v3, rfl, eG, tG, by rw [er]; exact hF'⟩
    · rintro σ G ⟨q', v2, v3, rfl, eG, tG, hF'⟩
      exact ⟨_, rfl, q q' G eG tG hF'⟩
end
end K1
set_option Elab.async false
set_option linter.all false
set_option maxRecDepth 100000
set_option maxHeartbeats 2000000
namespace K1
open PySem PySem.Spec PyProof.Rows L2 RZ StX
/-! ### what is neither a list nor a table stays -/
noncomputable def TK (H H' : Hp) : Prop := ∀ b o, H b = some o → (∀ xs, o ≠ .lst xs) → (∀ ps, o ≠ .tbl ps) → H' b = some o
theorem TK.of {H H' : Hp} (s : Same H H') : TK H H' := fun b o h _ _ => s b o h
theorem TK.ext {H H' : Hp} {p : Addr} (w : WellAt H p) (s : Ext p H H') : TK H H' := fun b o h n _ => s b o (fun z => by
  obtain ⟨c, m, t, e⟩ := w
  rw [z, e] at h
  exact n _ (Option.some.inj h).symm) h
theorem TK.trans {H H1 H2 : Hp} (a : TK H H1) (b : TK H1 H2) : TK H H2 := fun c o h n t => b c o (a c o h n t) n t
theorem TK.tup {H H' : Hp} (s : TK H H') {a : Addr} {xs : List V} (h : H a = some (.tup xs)) : H' a = some (.tup xs) := s _ _ h (fun _ z => by cases z) fun _ z => by cases z
mutual
theorem Dv.tk {H H' : Hp} (s : TK H H') : ∀ {v : V} {d : PyData}, Dv H v d → tO d = true → Dv H' v d
  | _, _, .non, _ => .non
  | _, _, .bl b, _ => .bl b
  | _, _, .int i, _ => .int i
  | _, _, .str x, _ => .str x
  | _, _, .lst h r, n => by cases n
  | _, _, .tup h r, n => .tup (s.tup h) (DvA.tk s r n)
  | _, _, .dic h, n => by cases n
theorem DvA.tk {H H' : Hp} (s : TK H H') : ∀ {vs : List V} {ds : List PyData}, DvA H vs ds → tOA ds = true → DvA H' vs ds
  | _, _, .nil, _ => .nil
  | _, _, .cons h r, n => .cons (Dv.tk s h ((Bool.and_eq_true _ _).mp n).1) (DvA.tk s r ((Bool.and_eq_true _ _).mp n).2)
end
theorem FoAt.tk {C p : Addr} {H H' : Hp} {F : Fo} (h : FoAt C H p F) (s : TK H H') : FoAt C H' p F := let ⟨dx, tl, tg, a, b, c⟩ := h; ⟨dx, tl, tg, s _ _ a (fun _ z => by cases z) (fun _ z => by cases z), b.tk s (tO_lts _), c.tk s (tO_gos _)⟩
end K1
set_option Elab.async false
set_option linter.all false
set_option maxRecDepth 100000
set_option maxHeartbeats 2000000
namespace K1
open PySem PySem.Spec PyProof.Rows L2 RZ StX
theorem Dv.lsts {H : Hp} {a : Addr} {ds : List PyData} (h : Dv H (.ref a) (.list ds)) : ∃ xs, H a = some (.lst xs) ∧ DvA H xs ds := by
  cases h with
  | lst e r => exact ⟨_, e, r⟩
theorem dva_ints {H : Hp} : ∀ ns : List Int, DvA H (ns.map V.int) (ns.map PyData.int)
  | [] => .nil
  | n :: r => .cons (.int n) (dva_ints r)
end K1
set_option Elab.async false
set_option linter.all false
set_option maxRecDepth 100000
set_option maxHeartbeats 2000000
/-! Letters as a tuple of tuples; a comprehension that picks of what is there. -/
namespace K1
open PySem PySem.Spec PyProof.Rows L2 RZ StX
inductive A2 {β : Type} (R : V → β → Prop) : List V → List β → Prop where
  | nil : A2 R [] []
  | cons {x : V} {b : β} {xs : List V} {bs : List β} : R x b → A2 R xs bs → A2 R (x :: xs) (b :: bs)
section
variable {β : Type} {R R' : V → β → Prop}
theorem A2.len : ∀ {xs : List V} {bs : List β}, A2 R xs bs → xs.length = bs.length
  | _, _, .nil => rfl
  | _, _, .cons _ r => congrArg (· + 1) r.len
theorem A2.get : ∀ {xs : List V} {bs : List β}, A2 R xs bs → ∀ {i : Nat} {x : V}, xs[i]? = some x → ∃ b, bs[i]? = some b ∧ R x b
  | _, _, .cons h _, 0, _, e => ⟨_, rfl, by rw [← Option.some.inj e]; exact h⟩
  | _, _, .cons _ r, i + 1, _, e => r.get (i := i) e
  | _, _, .nil, i, _, e => by simp at e
theorem A2.imp (h : ∀ x b, R x b → R' x b) : ∀ {xs : List V} {bs : List β}, A2 R xs bs → A2 R' xs bs
  | _, _, .nil => .nil
  | _, _, .cons a r => .cons (h _ _ a) (r.imp h)
theorem A2.app : ∀ {xs : List V} {bs : List β} {ys : List V} {cs : List β}, A2 R xs bs → A2 R ys cs → A2 R (xs ++ ys) (bs ++ cs)
  | _, _, _, _, .nil, k => k
  | _, _, _, _, .cons a r, k => .cons a (r.app k)
theorem A2.vals {β : Type} {f : β → V} : ∀ {xs : List V} {ns : List β}, A2 (fun x n => x = f n) xs ns → xs = ns.map f
  | _, _, .nil => rfl
  | _, _, .cons rfl r => by rw [r.vals]; rfl
end
theorem take_fm {α β : Type} {ls : List α} {i : Nat} {a : α} (φ : α → Option β) (h : ls[i]? = some a) : (ls.take (i + 1)).filterMap φ = (ls.take i).filterMap φ ++ (φ a).toList := by
  rw [List.take_add_one, h, List.filterMap_append]
  cases e : φ a <;> simp [e]
theorem lc_sel {J : It} {xs : List V} {Gd : Hp → Prop} (wk : Walk J xs.length Gd (YAt xs)) {α β : Type} {R : V → α → Prop} {out : V → β → Prop} {ls : List α} (hA : A2 R xs ls) {H1 : Hp} {D : Addr} (hD : H1 D = none) (hG : ∀ G, Same H1 G → Gd G) (hl : xs.length ≤ 1000) (φ : α → Option β)
    {g : TG} {tt : TT} {te : TE} {vs : List Nat} {σ : L2.St} {Qd : Hp → Prop}
    (hs : ∀ x a G (T : V → Hp → Prop) (S : Hp → Prop), R x a → a ∈ ls → Same H1 G → (∀ y b G', Same G G' → φ a = some b → out y b → T y G') → (∀ G', Same G G' → φ a = none → S G') → g x (wipe σ vs) G fun σ2 H2 => wipe σ2 vs = wipe σ vs ∧ tt σ2 H2 fun b H3 => if b = true then te σ2 H3 T else S H3)
    (hd : ∀ G acc, Same H1 G → G D = some (.lst acc) → A2 out acc (ls.filterMap φ) → Qd G) :
    ∃ W : Nat → Nat → Hp → Prop, (∃ m, W 0 m (upd H1 D (.lst []))) ∧ ∀ i m H, W i m H →
      (J.stop i H ∧ Qd H) ∨ (J.go i H ∧ ∃ Nx : Hp → Prop, (∀ H', Nx H' → ∃ m', m' < m ∧ W (i + 1) m' H') ∧ ∀ x H', J.yld i H x H' → g x (wipe σ vs) H' fun σ2 H2 => wipe σ2 vs = wipe σ vs ∧ tt σ2 H2 fun b H3 =>
        if b = true then te σ2 H3 fun y H4 => ∃ acc, H4 D = some (.lst acc) ∧ acc.length < sizeLine ∧ Nx (upd H4 D (.lst (acc ++ [y]))) else Nx H3) := by
  refine lc_it wk (fun i G => Same H1 G ∧ ∃ acc, G D = some (.lst acc) ∧ acc.length ≤ i ∧ A2 out acc ((ls.take i).filterMap φ)) ⟨same_new hD, [], upd_same, Nat.zero_le _, .nil⟩ (fun i G _ h => hG _ h.1) ?_ ?_
  · rintro i x G G' hi ⟨s1, acc, hacc, hla, ha⟩ ⟨rfl, hx⟩
    obtain ⟨a, hai, hR⟩ := hA.get hx
    refine hs x a G' _ _ hR (List.mem_of_getElem? hai) s1 (fun y b G2 s2 e o => ?_) fun G2 s2 e => ?_
    · refine ⟨acc, s2 _ _ hacc, lt1 _ (by omega), (s1.trans s2).mut hD, _, upd_same, by rw [List.length_append]; show acc.length + 1 ≤ _; omega, ?_⟩
      rw [take_fm φ hai, e]
      exact ha.app (.cons o .nil)
    · refine ⟨s1.trans s2, acc, s2 _ _ hacc, by omega, ?_⟩
      rw [take_fm φ hai, e]
      show A2 out acc (_ ++ [])
      rw [List.append_nil]; exact ha
  · rintro G ⟨s1, acc, hacc, _, ha⟩
    refine hd G acc s1 hacc ?_
    rw [hA.len, List.take_length] at ha
    exact ha
end K1
set_option Elab.async false
set_option linter.all false
set_option maxRecDepth 100000
set_option maxHeartbeats 4000000
/-! Draws of k33 to k38: signs, deeds, a folder with a history. -/
namespace K1
open PySem PySem.Spec PyProof.Rows L2 RZ StX
noncomputable def ENL (p : Addr) (H H' : Hp) : Prop := ∀ b o, b ≠ p → (∀ ps, o ≠ .tbl ps) → H b = some o → H' b = some o
theorem ENL.refl (p : Addr) (H : Hp) : ENL p H H := fun _ _ _ _ h => h
theorem ENL.same {p : Addr} {H H1 H2 : Hp} (a : ENL p H H1) (s : Same H1 H2) : ENL p H H2 := fun b o n t h => s b o (a b o n t h)
theorem ENL.ext {p : Addr} {H H1 H2 : Hp} (a : ENL p H H1) (s : LamX.ExtN H1 H2) : ENL p H H2 := fun b o n t h => s b o (a b o n t h) t
theorem ENL.of {p : Addr} {H H' : Hp} (e : Ext p H H') : ENL p H H' := fun b o n _ h => e b o n h
theorem ENL.trans {p : Addr} {H H1 H2 : Hp} (a : ENL p H H1) (b : ENL p H1 H2) : ENL p H H2 := fun c o n t h => b c o n t (a c o n t h)
theorem tabs_w {T : List (Addr × Str)} {p : Addr} {H H' : Hp} (w : WellAt H p) (e : Ext p H H') (h : LamX.Tabs T H) : LamX.Tabs T H' := fun x hx => by
  obtain ⟨ps, h1, h2, h3⟩ := h x hx
  obtain ⟨c, m, t, hp⟩ := w
  refine ⟨ps, e _ _ (fun z => by rw [z, hp] at h1; cases h1) h1, h2, fun pos cv hc => ?_⟩
  obtain ⟨c', g1, g2⟩ := h3 pos cv hc
  exact ⟨c', g1, e _ _ (fun z => by rw [z, hp] at g2; cases g2) g2⟩
theorem WellAt.sm {H H' : Hp} {p : Addr} (w : WellAt H p) (s : Same H H') : WellAt H' p := let ⟨c, m, t, e⟩ := w; ⟨c, m, t, s _ _ e⟩
theorem WellAt.en {H H' : Hp} {p : Addr} (w : WellAt H p) (e : LamX.ExtN H H') : WellAt H' p := let ⟨c, m, t, h⟩ := w; ⟨c, m, t, e _ _ h fun _ z => by cases z⟩
theorem par_go' {i j : Nat} {ta : TA} {tb : TS} {D : Ends} {σ : L2.St} {H : Hp} (h : ta σ H fun vs H1 => ∃ v w, vs = [v, w] ∧ tb D ((σ.set i (some v)).set j (some w)) H1) : tSeq (tPar i j ta) tb D σ H := h
theorem name_go' {i : Nat} {v : V} {σ : L2.St} {H : Hp} {Q : L2.St → Hp → Prop} (h : Q (σ.set i (some v)) H) : gName i v σ H Q := h
theorem sl_tupAK {X : Cx} {K : PySem.W.Frag} (h : X.K = K) : SlR X (rSlA K) := by subst h; exact sl_tupA
theorem slA_go {K : PySem.W.Frag} {a : Addr} {xs : List V} {lo hi : Option Int} {H : Hp} {Q : VK} (h : H a = some (.tup xs)) (q : ∀ b H', Same H H' → H' b = some (.tup (cutV xs lo hi)) → Q (.ref b) H') : rSlA K (.ref a) lo hi H Q := by
  refine ⟨a, xs, rfl, st h, fun z => ?_, fun _ D nD => q D _ (same_new nD) upd_same⟩
  refine q a H (fun _ _ h => h) ?_
  unfold cutV
  rw [z.1, z.2, List.drop_zero, Nat.sub_zero, List.take_length]; exact h
theorem cut_take (xs : List V) (n : Nat) : cutV xs none (some (n : Int)) = xs.take n := by
  unfold cutV
  have c1 : HT.sIx xs.length 0 none = 0 := rfl
  rw [c1, HT.sIx_nat, List.drop_zero, Nat.sub_zero]
  by_cases h : n ≤ xs.length
  · rw [Nat.min_eq_left h]
  · rw [Nat.min_eq_right (by omega), List.take_length, List.take_of_length_le (by omega)]
theorem seq_ixI {K : PySem.W.Frag} {H : Hp} {wa : Addr} {xs : List V} {j : Int} {i : Nat} {x : V} {Q : VK} (h : SeqH H wa xs) (e : j = i) (hx : xs[i]? = some x) (q : Q x H) : rIx K (.ref wa) (.int j) H Q := by
  subst e
  rcases h with h | h
  · exact .inl ⟨wa, xs, (i : Int), x, rfl, rfl, sq h, atI_nat hx, q⟩
  · exact .inr (.inl ⟨wa, xs, (i : Int), x, rfl, rfl, st h, atI_nat hx, q⟩)
/-- all tuples stay -/
noncomputable def TU (H G : Hp) : Prop := ∀ b xs, H b = some (.tup xs) → G b = some (.tup xs)
theorem TU.trans {H G J : Hp} (a : TU H G) (b : TU G J) : TU H J := fun x xs h => b x xs (a x xs h)
theorem TU.same {H G : Hp} (s : Same H G) : TU H G := fun x xs h => s _ _ h
theorem TU.ext {H G : Hp} (s : LamX.ExtN H G) : TU H G := fun x xs h => s _ _ h fun _ z => by cases z
theorem TU.w {p : Addr} {H G : Hp} (w : WellAt H p) (e : Ext p H G) : TU H G := fun x xs h => e _ _ (wt_ne w h) h
theorem TU.mut {H : Hp} {D : Addr} {o u : HO} (hD : H D = some o) (ho : ∀ xs, o ≠ .tup xs) : TU H (upd H D u) := fun x xs h => by
  rw [upd_ne (fun z => by rw [z, hD] at h; exact ho xs (Option.some.inj h))]; exact h
mutual
theorem Dv.tu {H H' : Hp} (s : TU H H') : ∀ {v : V} {d : PyData}, Dv H v d → tO d = true → Dv H' v d
  | _, _, .non, _ => .non
  | _, _, .bl b, _ => .bl b
  | _, _, .int i, _ => .int i
  | _, _, .str x, _ => .str x
  | _, _, .lst h r, n => by cases n
  | _, _, .tup h r, n => .tup (s _ _ h) (DvA.tu s r n)
  | _, _, .dic h, n => by cases n
theorem DvA.tu {H H' : Hp} (s : TU H H') : ∀ {vs : List V} {ds : List PyData}, DvA H vs ds → tOA ds = true → DvA H' vs ds
  | _, _, .nil, _ => .nil
  | _, _, .cons h r, n => .cons (Dv.tu s h ((Bool.and_eq_true _ _).mp n).1) (DvA.tu s r ((Bool.and_eq_true _ _).mp n).2)
end
/-- a deed of tuples alone, that is no trim -/
noncomputable def DdW (H : Hp) (a : Addr) (d : Dd) : Prop := (∀ G, TU H G → DdAt G a d) ∧ (∀ F, CanD F d) ∧ W4D d
theorem DdW.tu {H G : Hp} {a : Addr} {d : Dd} (h : DdW H a d) (q : TU H G) : DdW G a d := ⟨fun J r => h.1 J (q.trans r), h.2⟩
theorem DdW.at_ {H : Hp} {a : Addr} {d : Dd} (h : DdW H a d) : DdAt H a d := h.1 H fun _ _ h => h
noncomputable def spOneS : Sp := fun vs H Q _ => ∃ (p a : Addr) (xs : List V), vs = [.ref p, .ref a] ∧ WellAt H p ∧ SeqH H a xs ∧ a ≠ p ∧ 0 < xs.length ∧ xs.length < 1073741824 ∧
  ∀ (i : Nat) (x : V) (H' : Hp), xs[i]? = some x → Ext p H H' → WellAt H' p → Q x H'
end K1
set_option Elab.async false
set_option linter.all false
set_option maxRecDepth 100000
set_option maxHeartbeats 4000000
namespace K1
open PySem PySem.Spec PyProof.Rows L2 RZ StX
noncomputable def DdV (H : Hp) (x : V) (d : Dd) : Prop := ∃ a, x = V.ref a ∧ DdW H a d
theorem DdV.tu {H G : Hp} {x : V} {d : Dd} (h : DdV H x d) (q : TU H G) : DdV G x d := let ⟨a, e, k⟩ := h; ⟨a, e, k.tu q⟩
end K1
set_option Elab.async false
set_option linter.all false
set_option maxRecDepth 100000
set_option maxHeartbeats 4000000
namespace K1
open PySem PySem.Spec PyProof.Rows L2 RZ StX
noncomputable abbrev sIsAsc : Stmt := st_is_ascending
noncomputable abbrev nIsAsc : List Str := ["numbers", "one", "other"]
noncomputable abbrev pIsAsc : List Str := ["numbers"]
theorem scIsAsc : FnScope nIsAsc pIsAsc (defScope sIsAsc) := ⟨rfl, rfl, rfl, by decide +kernel, rfl, by decide +kernel, by decide +kernel⟩
noncomputable def spIsAsc : Sp := fun vs H Q _ => ∃ (a : Addr) (ns : List Int), vs = [.ref a] ∧ SeqH H a (ns.map V.int) ∧ ns.length ≤ 1000 ∧ ∀ H', Same H H' → Q (.bl (ascB ns)) H'
section
variable {P : Program} {w : World} {K : PySem.W.Frag} {mg : Str → Option Value} {base : Heap}
theorem cut1 (xs : List V) : cutV xs (some 1) none = xs.drop 1 := by
  unfold cutV
  rw [show (1 : Int) = ((1 : Nat) : Int) from rfl, HT.sIx_nat, HT.sIx_none]
  cases xs with
  | nil => rfl
  | cons x r =>
    rw [show min 1 (x :: r).length = 1 by rw [List.length_cons]; omega]
    exact List.take_of_length_le (by simp)
theorem ok_isAsc {f : Addr} {fd : FuncData} (T : Bk mg) (F : Fun K "is_ascending" "is_ascending" sIsAsc f fd) : FnOk P w K mg base CX0 1 f fd pIsAsc spIsAsc := by
  have nd := scIsAsc.nd
  refine F.ok scIsAsc (fun vs H Q E h => ?_) (fun cdv A outer s H vs Q E hr h => ?_)
  · obtain ⟨a, ns, rfl, _⟩ := h
    rfl
  · obtain ⟨a, ns, rfl, hS, hl, q⟩ := h
    refine ⟨_, (pss_one (ps_ret (pe_callB (cr_allK (K := K) rfl rfl) (by rfl) T.all PyProof.Rows.boot_all (pa_cons (pe_lc (own := [("one", 1), ("other", 2)]) (g := gTup K 2 (gCons (gName 1) (gCons (gName 2) gNil))) (tt := tYes) rfl nd (pi_zipSK (K := K) rfl (by rfl) T.zip (pa_cons (pv 0) (pa_cons (pe_slice (sl_seqK (K := K) rfl) (pv 0) (po_some pe_int) po_none) pa_nil))) (blkOk_by (own := [("one", 1), ("other", 2)]) (N := nIsAsc) (sc := defScope sIsAsc) (by decide +kernel)) (fun _ _ _ _ _ => pg_tup rfl (pgs_cons (pg_name (i := 1) nd rfl (Or.inl rfl)) (pgs_cons (pg_name (i := 2) nd rfl (Or.inl rfl)) pgs_nil))) (fun _ _ _ _ _ => pts_nil) (fun _ _ _ _ _ => (pe_cmpR op_lt (pv 1) (pv 2) (nomark _)))) pa_nil)))), ?_⟩
    have hz : (ns.zip (ns.drop 1)).length = min (ns.map V.int).length ((ns.map V.int).drop 1).length := by simp
    have hget : ∀ i < (ns.zip (ns.drop 1)).length, ∃ x y, (ns.zip (ns.drop 1))[i]? = some (x, y) ∧ (ns.map V.int)[i]? = some (.int x) ∧ ((ns.map V.int).drop 1)[i]? = some (.int y) := fun i hi => by
      have h1 : i < ns.length := by rw [List.length_zip] at hi; omega
      have h2 : i < (ns.drop 1).length := by rw [List.length_zip] at hi; omega
      refine ⟨ns[i], (ns.drop 1)[i], ?_, ?_, ?_⟩
      · rw [List.getElem?_eq_getElem hi, List.getElem_zip]
      · simp [h1]
      · rw [← List.map_drop, List.getElem?_map, List.getElem?_eq_getElem h2]; rfl
    have e0 : ascB ns = ((ns.zip (ns.drop 1)).map fun p => decide (p.1 < p.2)).all id := rfl
    have P0 : ∀ {H1 : Hp} {J : It} {Gd : Hp → Prop} {D : Addr}, Same H H1 → Walk J (min (ns.map V.int).length ((ns.map V.int).drop 1).length) Gd (YPair (fun i => (ns.map V.int)[i]?) (fun i => ((ns.map V.int).drop 1)[i]?)) → (∀ H', Same H1 H' → Gd H') → H1 D = none →
        ∀ (i : Nat) (y : V) (H2 H3 : Hp), i < min (ns.map V.int).length ((ns.map V.int).drop 1).length → (Same H1 H2 ∧ H2 D = some (.lst ((((ns.zip (ns.drop 1)).take i).map fun p => decide (p.1 < p.2)).map V.bl))) →
        YPair (fun i => (ns.map V.int)[i]?) (fun i => ((ns.map V.int).drop 1)[i]?) i H2 y H3 → ∃ (T : Addr) (u v : Int), y = .ref T ∧ H3 T = some (.tup [.int u, .int v]) ∧ H3 D = some (.lst ((((ns.zip (ns.drop 1)).take i).map fun p => decide (p.1 < p.2)).map V.bl)) ∧
          (Same H1 (upd H3 D (.lst ((((ns.zip (ns.drop 1)).take i).map fun p => decide (p.1 < p.2)).map V.bl ++ [V.bl (decide (u < v))]))) ∧ (upd H3 D (.lst ((((ns.zip (ns.drop 1)).take i).map fun p => decide (p.1 < p.2)).map V.bl ++ [V.bl (decide (u < v))]))) D =
            some (.lst ((((ns.zip (ns.drop 1)).take (i + 1)).map fun p => decide (p.1 < p.2)).map V.bl))) := by
      intro H1 J Gd D s1 wk hG hD i y H2 H3 hi ⟨s2, h2⟩ ⟨T, x', y', e1, nT, e2, e3, e4⟩
      obtain ⟨u, v, g1, g2, g3⟩ := hget i (by rw [hz]; exact hi)
      obtain rfl := (Option.some.inj (g2.symm.trans e3)).symm
      obtain rfl := (Option.some.inj (g3.symm.trans e4)).symm
      subst e1 e2
      have nTD : T ≠ D := (ne_of_none h2 nT).symm
      refine ⟨T, u, v, rfl, upd_same, by rw [upd_ne nTD.symm]; exact h2, (s2.new nT).mut hD, ?_⟩
      rw [upd_same, take_more g1]
      simp
    have len2 : ns.length ≤ 1000 := hl
    rcases hS with hS | hS
    · refine ⟨.ref a, rfl, .ref a, rfl, 1, rfl, .inl ⟨a, _, rfl, sq hS, fun b nb => ?_⟩⟩
      rw [cut1]
      have s1 := same_new (o := .lst ((ns.map V.int).drop 1)) nb
      refine ⟨a, b, _, _, rfl, zip_walkL (s1 _ _ hS) upd_same fun J Gd wk hG D hD => lc_it wk (fun i H2 => Same (upd H b (.lst ((ns.map V.int).drop 1))) H2 ∧ H2 D = some (.lst ((((ns.zip (ns.drop 1)).take i).map fun p => decide (p.1 < p.2)).map V.bl))) ⟨same_new hD, upd_same⟩ (fun i H2 _ h => hG _ h.1) ?_ ?_⟩
      · rintro i y H2 H3 hi h2 hy
        obtain ⟨T, u, v, rfl, hT, h3, fin⟩ := P0 s1 wk hG hD i y H2 H3 hi h2 hy
        refine ⟨T, _, rfl, st hT, rfl, _, _, rfl, _, _, rfl, rfl, rfl, tyes ⟨_, rfl, _, rfl, _, _, rfl, rfl, _, h3, lt2 _ ?_, fin⟩⟩
        rw [List.length_map, List.length_map, List.length_take, List.length_zip]; omega
      · rintro H2 ⟨s2, h2⟩
        rw [← hz, List.take_length] at h2
        exact ⟨D, _, rfl, sq h2, q _ (s1.trans s2)⟩
    · refine ⟨.ref a, rfl, .ref a, rfl, 1, rfl, .inr ⟨a, _, rfl, st hS, fun hw => ?_, fun _ b nb => ?_⟩⟩
      · have en : ns = [] := by
          have h1 := hw.1
          rw [show (1 : Int) = ((1 : Nat) : Int) from rfl, HT.sIx_nat, List.length_map] at h1
          exact List.eq_nil_of_length_eq_zero (by omega)
        subst en
        refine ⟨a, a, _, _, rfl, zip_walkT hS hS fun J Gd wk hG D hD => lc_it wk (fun i H2 => Same H H2 ∧ H2 D = some (.lst [])) ⟨same_new hD, upd_same⟩ (fun i H2 _ h => hG _ h.1) ?_ ?_⟩
        · rintro i y H2 H3 hi
          simp at hi
        · rintro H2 ⟨s2, h2⟩
          exact ⟨D, [], rfl, sq h2, q _ s2⟩
      · rw [cut1]
        have s1 := same_new (o := .tup ((ns.map V.int).drop 1)) nb
        refine ⟨a, b, _, _, rfl, zip_walkT (s1 _ _ hS) upd_same fun J Gd wk hG D hD => lc_it wk (fun i H2 => Same (upd H b (.tup ((ns.map V.int).drop 1))) H2 ∧ H2 D = some (.lst ((((ns.zip (ns.drop 1)).take i).map fun p => decide (p.1 < p.2)).map V.bl))) ⟨same_new hD, upd_same⟩ (fun i H2 _ h => hG _ h.1) ?_ ?_⟩
        · rintro i y H2 H3 hi h2 hy
          obtain ⟨T, u, v, rfl, hT, h3, fin⟩ := P0 s1 wk hG hD i y H2 H3 hi h2 hy
          refine ⟨T, _, rfl, st hT, rfl, _, _, rfl, _, _, rfl, rfl, rfl, tyes ⟨_, rfl, _, rfl, _, _, rfl, rfl, _, h3, lt2 _ ?_, fin⟩⟩
          rw [List.length_map, List.length_map, List.length_take, List.length_zip]; omega
        · rintro H2 ⟨s2, h2⟩
          rw [← hz, List.take_length] at h2
          exact ⟨D, _, rfl, sq h2, q _ (s1.trans s2)⟩
end
theorem ascB_cons {x y : Int} {r : List Int} : ascB (x :: y :: r) = (decide (x < y) && ascB (y :: r)) := by
  unfold ascB
  rw [List.drop_one, List.tail_cons, List.zip_cons_cons, List.map_cons, List.all_cons, List.drop_one, List.tail_cons]
  rfl
theorem ascB_of : ∀ {ns : List Int}, ns.Pairwise (· < ·) → ascB ns = true
  | [], _ => rfl
  | [_], _ => rfl
  | x :: y :: r, h => by
    rw [ascB_cons, ascB_of (List.pairwise_cons.mp h).2, Bool.and_true]
    exact decide_eq_true ((List.pairwise_cons.mp h).1 y List.mem_cons_self)
end K1
set_option Elab.async false
set_option linter.all false
set_option maxRecDepth 100000
set_option maxHeartbeats 4000000
/-! Copies as data; _are_letters, _are_made. -/
namespace K1
open PySem PySem.Spec PyProof.Rows L2 RZ StX
/-- the empty tuple that stands as a default -/
noncomputable def KEmp (K : PySem.W.Frag) (a : Addr) : Prop := ∃ (o : Obj) (n : Nat), K.lookup a = some o ∧ o.cls = .type "tuple" ∧ o.data = .seq #[] n
noncomputable def SqK (K : PySem.W.Frag) (H : Hp) (a : Addr) (xs : List V) : Prop := SeqH H a xs ∨ (xs = [] ∧ KEmp K a)
theorem SqK.ext {K : PySem.W.Frag} {H H' : Hp} {a : Addr} {xs : List V} (h : SqK K H a xs) (s : LamX.ExtN H H') : SqK K H' a xs := h.imp (fun h => h.imp (fun e => s _ _ e fun _ z => by cases z) (fun e => s _ _ e fun _ z => by cases z)) id
theorem kemp_st {K : PySem.W.Frag} {H : Hp} {a : Addr} (h : KEmp K a) : SqT K H a [] := let ⟨o, n, h1, h2, h3⟩ := h; .inr ⟨o, #[], n, h1, h2, h3, Nat.zero_le _, .nil⟩
theorem SqK.len {K : PySem.W.Frag} {H : Hp} {a : Addr} {xs : List V} (h : SqK K H a xs) : SqL K H a xs ∨ SqT K H a xs := by
  rcases h with h | ⟨rfl, h⟩
  · exact SeqH.len h
  · exact .inr (kemp_st h)
theorem SqK.ty {K : PySem.W.Frag} {H : Hp} {a : Addr} {xs : List V} (h : SqK K H a xs) : ∃ tn : String, TyX K H (.ref a) (.type tn) ∧ PySem.W.kitAny K (.type tn) [.type "list", .type "tuple"] = some true := by
  rcases h with (h | h) | ⟨rfl, o, n, h1, h2, h3⟩
  · exact ⟨"list", .base (.lst h), kit_seq (.list [])⟩
  · exact ⟨"tuple", .base (.tup h), kit_seq (.tuple [])⟩
  · exact ⟨"tuple", .kTuple h1 h2, kit_seq (.tuple [])⟩
theorem seqK_walk {K : PySem.W.Frag} {H : Hp} {a : Addr} {xs : List V} {R : It → Hp → Prop} (h : SqK K H a xs)
    (k : ∀ (J : It) (Gd : Hp → Prop), Walk J xs.length Gd (YAt xs) → (∀ H', Same H H' → Gd H') → R J H) : SeqR K a H R := by
  rcases h with h | ⟨rfl, h⟩
  · exact seq_walk h k
  · exact .inr ⟨⟨[], kemp_st h⟩, k _ _ walk_tup fun H' _ => kemp_st h⟩
structure CL where
  n : Int
  b : Int
  s : List Str
  w : Option (List Str)
  deriving DecidableEq
structure Cp where
  age : Int
  mr : Int
  ls : List CL
  md : List (Int × List Str)
  deriving DecidableEq
noncomputable def wD : Option (List Str) → PyData
  | none => .none
  | some ss => .tuple (ss.map PyData.str)
noncomputable def clD (l : CL) : PyData := .tuple [.int l.n, .int l.b, .tuple (l.s.map PyData.str), wD l.w]
noncomputable def mdD (m : Int × List Str) : PyData := .tuple [.int m.1, .tuple (m.2.map PyData.str)]
structure OkCL (l : CL) : Prop where
  n : 1 ≤ l.n
  b : 0 ≤ l.b
  s : OkSs l.s
  w : ∀ ss, l.w = some ss → OkSs ss
noncomputable def OkMd (m : Int × List Str) : Prop := 0 ≤ m.1 ∧ OkSs m.2
structure OkLs (ls : List CL) : Prop where
  ok : ∀ l ∈ ls, OkCL l
  up : (ls.map (·.n)).Pairwise (· < ·)
  len : ls.length ≤ 900
structure OkMs (md : List (Int × List Str)) : Prop where
  ok : ∀ m ∈ md, OkMd m
  len : md.length ≤ 900
/-- a wanted value -/
noncomputable def WV (H : Hp) (v : V) : Option (List Str) → Prop
  | none => v = .non
  | some ss => ∃ a, v = .ref a ∧ H a = some (.tup (ss.map V.str))
theorem strs_of : ∀ {H : Hp} {xs : List V} {ss : List Str}, DvA H xs (ss.map PyData.str) → xs = ss.map V.str
  | _, _, [], .nil => rfl
  | _, _, s :: r, .cons (.str _) t => by rw [strs_of t]; rfl
theorem dv_ss {H : Hp} {v : V} {ss : List Str} (h : Dv H v (.tuple (ss.map PyData.str))) : ∃ a, v = .ref a ∧ H a = some (.tup (ss.map V.str)) := by
  cases h with
  | tup e r => exact ⟨_, rfl, by rw [e, strs_of r]⟩
theorem dv_w {H : Hp} {v : V} : ∀ {w : Option (List Str)}, Dv H v (wD w) → WV H v w
  | none, .non => rfl
  | some ss, h => dv_ss h
theorem wv_dv {H : Hp} {v : V} : ∀ {w : Option (List Str)}, WV H v w → Dv H v (wD w)
  | none, h => by rw [show v = .non from h]; exact .non
  | some ss, ⟨a, e, h⟩ => by subst e; exact .tup h (dv_strs ss)
theorem WV.tu {H G : Hp} {v : V} (t : TU H G) : ∀ {w : Option (List Str)}, WV H v w → WV G v w
  | none, h => h
  | some ss, ⟨a, e, h⟩ => ⟨a, e, t _ _ h⟩
theorem dv_cl {H : Hp} {v : V} {l : CL} (h : Dv H v (clD l)) : ∃ ta sa wv, v = .ref ta ∧ H ta = some (.tup [.int l.n, .int l.b, .ref sa, wv]) ∧ H sa = some (.tup (l.s.map V.str)) ∧ WV H wv l.w := by
  cases h with
  | tup e r =>
  cases r with
  | cons h1 r =>
  cases r with
  | cons h2 r =>
  cases r with
  | cons h3 r =>
  cases r with
  | cons h4 r =>
  cases r
  cases h1
  cases h2
  obtain ⟨sa, rfl, hs⟩ := dv_ss h3
  exact ⟨_, sa, _, rfl, e, hs, dv_w h4⟩
theorem cl_dv {H : Hp} {ta sa : Addr} {wv : V} {l : CL} (h : H ta = some (.tup [.int l.n, .int l.b, .ref sa, wv])) (hs : H sa = some (.tup (l.s.map V.str))) (hw : WV H wv l.w) : Dv H (.ref ta) (clD l) :=
  .tup h (.cons (.int _) (.cons (.int _) (.cons (.tup hs (dv_strs _)) (.cons (wv_dv hw) .nil))))
theorem dv_md {H : Hp} {v : V} {m : Int × List Str} (h : Dv H v (mdD m)) : ∃ ta sa, v = .ref ta ∧ H ta = some (.tup [.int m.1, .ref sa]) ∧ H sa = some (.tup (m.2.map V.str)) := by
  cases h with
  | tup e r =>
  cases r with
  | cons h1 r =>
  cases r with
  | cons h2 r =>
  cases r
  cases h1
  obtain ⟨sa, rfl, hs⟩ := dv_ss h2
  exact ⟨_, sa, rfl, e, hs⟩
theorem md_dv {H : Hp} {ta sa : Addr} {m : Int × List Str} (h : H ta = some (.tup [.int m.1, .ref sa])) (hs : H sa = some (.tup (m.2.map V.str))) : Dv H (.ref ta) (mdD m) := .tup h (.cons (.int _) (.cons (.tup hs (dv_strs _)) .nil))
/-- values that tell data one by one -/
theorem DvA.getD' {H : Hp} {α : Type} {f : α → PyData} {xs : List V} {ls : List α} (h : DvA H xs (ls.map f)) {i : Nat} {x : V} (hx : xs[i]? = some x) : ∃ l, ls[i]? = some l ∧ Dv H x (f l) := by
  obtain ⟨d, hd, hv⟩ := h.get hx
  rw [List.getElem?_map] at hd
  cases hl : ls[i]? with
  | none => rw [hl] at hd; cases hd
  | some l => rw [hl] at hd; exact ⟨l, rfl, by rw [Option.some.inj hd]; exact hv⟩
theorem a2_of {H : Hp} {α : Type} {f : α → PyData} : ∀ {xs : List V} {ls : List α}, DvA H xs (ls.map f) → A2 (fun x l => Dv H x (f l)) xs ls
  | _, [], .nil => .nil
  | _, _ :: _, .cons h r => .cons h (a2_of r)
theorem of_a2 {H : Hp} {α : Type} {f : α → PyData} : ∀ {xs : List V} {ls : List α}, A2 (fun x l => Dv H x (f l)) xs ls → DvA H xs (ls.map f)
  | _, [], .nil => .nil
  | _, _ :: _, .cons h r => .cons h (of_a2 r)
noncomputable abbrev sAl : Stmt := st__are_letters
noncomputable abbrev sAm : Stmt := st__are_made
noncomputable abbrev nAl : List Str := ["value", "row"]
theorem scAl : FnScope nAl pV (defScope sAl) := ⟨rfl, rfl, rfl, by decide +kernel, rfl, by decide +kernel, by decide +kernel⟩
theorem scAm : FnScope nAl pV (defScope sAm) := ⟨rfl, rfl, rfl, by decide +kernel, rfl, by decide +kernel, by decide +kernel⟩
noncomputable def spAl (K : PySem.W.Frag) : Sp := fun vs H Q _ => ∃ (a : Addr) (xs : List V) (ls : List CL), vs = [.ref a] ∧ SqK K H a xs ∧ DvA H xs (ls.map clD) ∧ OkLs ls ∧ ∀ H', Same H H' → Q (.bl true) H'
noncomputable def spAm (K : PySem.W.Frag) : Sp := fun vs H Q _ => ∃ (a : Addr) (xs : List V) (md : List (Int × List Str)), vs = [.ref a] ∧ SqK K H a xs ∧ DvA H xs (md.map mdD) ∧ OkMs md ∧ ∀ H', Same H H' → Q (.bl true) H'
section
variable {P : Program} {w : World} {K : PySem.W.Frag} {mg : Str → Option Value} {base : Heap}
theorem okss {ss : List Str} (h : OkSs ss) : okSs ss = true := okSs_iff.mpr h
set_option maxHeartbeats 8000000 in
theorem ok_al {f : Addr} {fd : FuncData} (T : Bk mg) (D_is_number : Def P w K mg base CX0 2 "is_number" pV spNum) (D_is_body : Def P w K mg base CX0 2 "is_body" pV spBody) (D_is_signs : Def P w K mg base CX0 2 "is_signs" pV spSigns) (D_is_ascending : Def P w K mg base CX0 1 "is_ascending" pIsAsc spIsAsc)
    (F : Fun K "_are_letters" "_are_letters" sAl f fd) : FnOk P w K mg base CX0 3 f fd pV (spAl K) := by
  have nd := scAl.nd
  refine F.ok scAl (fun vs H Q E h => ?_) (fun cdv A outer s H vs Q E hr h => ?_)
  · obtain ⟨a, xs, ls, rfl, _⟩ := h
    rfl
  · obtain ⟨a, xs, ls, rfl, hS, hA, ok, q⟩ := h
    refine ⟨_, (pss_cons (ps_if (pt_not (pt_val (pe_callB (call_isiTK (K := K) rfl) (by rfl) T.isinstance PyProof.Rows.boot_isinstance (pa_cons (pv 0) (pa_cons (pe_tup (pa_cons (pe_bltn (v := .ty "list") rfl T.list PyProof.Rows.boot_list rfl) (pa_cons (pe_bltn (v := .ty "tuple") rfl T.tuple PyProof.Rows.boot_tuple rfl) pa_nil))) pa_nil)))))
  pss_any
  pss_nil)
 (pss_cons (ps_for PassesOwn.never rfl (pi_seqK (K := K) rfl (pv 0)) (pg_name (i := 1) nd rfl (Or.inl rfl))
  (pss_cons (ps_if (PW.pt (pw_or (pt_not (pt_val (pe_callB (call_isiK1 (K := K) rfl) (by rfl) T.isinstance PyProof.Rows.boot_isinstance (pa_cons (pv 1) (pa_cons (pe_bltn (v := .ty "tuple") rfl T.tuple PyProof.Rows.boot_tuple rfl) pa_nil))))) (pw_or (pt_cmpR op_ne (pe_callB (call_lenK (K := K) rfl) (by rfl) T.len PySem.boot_len (pa_cons (pv 1) pa_nil)) pe_int (nomark _)) (pw_or (pt_not (pt_val (pe_def D_is_number (hr.mono (by decide)) rfl pass0 (pa_cons (pe_ix (ix_tupK (K := K) rfl) (pv 1) pe_int (fun _ _ => rfl)) pa_nil)))) (pw_or1 (pt_not (pt_val (pe_def D_is_body (hr.mono (by decide)) rfl pass0 (pa_cons (pe_ix (ix_tupK (K := K) rfl) (pv 1) pe_int (fun _ _ => rfl)) pa_nil)))))))))
  pss_any
  pss_nil)
 (pss_one (ps_if (PW.pt (pw_or (pt_not (pt_val (pe_def D_is_signs (hr.mono (by decide)) rfl pass0 (pa_cons (pe_ix (ix_tupK (K := K) rfl) (pv 1) pe_int (fun _ _ => rfl)) pa_nil)))) (pw_or1 (PW.pt (pw_and (pt_cmpR op_notN (pe_ix (ix_tupK (K := K) rfl) (pv 1) pe_int (fun _ _ => rfl)) pe_non (nomark _)) (pw_and1 (pt_not (pt_val (pe_def D_is_signs (hr.mono (by decide)) rfl pass0 (pa_cons (pe_ix (ix_tupK (K := K) rfl) (pv 1) pe_int (fun _ _ => rfl)) pa_nil))))))))))
  pss_any
  pss_nil))))
 (pss_one (ps_ret (pe_def D_is_ascending (hr.mono (by decide)) rfl pass0 (pa_cons (pe_lc (own := [("row", 1)]) (g := gName 1) (tt := tYes) rfl nd (pi_seqK (K := K) rfl (pv 0)) (blkOk_by (own := [("row", 1)]) (N := nAl) (sc := defScope sAl) (by decide +kernel)) (fun _ _ _ _ _ => pg_name (i := 1) nd rfl (Or.inl rfl)) (fun _ _ _ _ _ => pts_nil) (fun _ _ _ _ _ => (pe_ix (ix_tupK (K := K) rfl) (pv 1) pe_int (fun _ _ => rfl)))) pa_nil)))))), ?_⟩
    have lx := hA.len
    rw [List.length_map] at lx
    have lm := ok.len
    refine ⟨_, rfl, (by show 2 ≤ sizeLine; decide), fun tp ntp => ?_⟩
    have s1 := same_new (o := .tup [.ty "list", .ty "tuple"]) ntp
    have hS1 := hS.ext (LamX.ExtN.of s1)
    obtain ⟨tn, ty, kt⟩ := hS1.ty
    refine ⟨.ref a, tp, [.ty "list", .ty "tuple"], .type tn, [.type "list", .type "tuple"], true, rfl, upd_same, .cons (.ty _) (.cons (.ty _) .nil), ty, kt, _, rfl, itbF rfl ?_⟩
    generalize upd H tp (.tup [.ty "list", .ty "tuple"]) = H1 at s1 hS1
    refine ⟨_, rfl, a, rfl, seqK_walk hS1 fun J Gd wk hG => for_it wk (fun i σ G => ∃ v1, σ = [some (.ref a), v1] ∧ Same H1 G) ⟨none, rfl, fun _ _ h => h⟩ (fun i σ G _ ⟨_, _, h⟩ => hG _ h) ?_ ?_⟩
    · rintro i x σ G G' hi ⟨v1, rfl, s2⟩ ⟨rfl, hx⟩
      obtain ⟨l, hl, hv⟩ := hA.getD' hx
      obtain ⟨ta, sa, wv, rfl, hta, hsa, hw⟩ := dv_cl hv
      have okl := ok.ok l (List.mem_of_getElem? hl)
      have s12 := s1.trans s2
      have h1 := s12 _ _ hta
      refine ⟨_, rfl, .ref ta, .ty "tuple", .type "tuple", .type "tuple", true, rfl, .ty _, .base (.tup h1), kit_ty (by decide +kernel), _, rfl, itbF rfl ?_⟩
      refine ⟨_, rfl, ta, _, rfl, .inr (st h1), rfl, _, rfl, itbF rfl ?_⟩
      refine ⟨_, rfl, ta, _, 0, .int l.n, rfl, rfl, st h1, atI_nat (j := 0) rfl, l.n, rfl, okl.n, _, rfl, itbF rfl ?_⟩
      refine ⟨_, rfl, ta, _, 1, .int l.b, rfl, rfl, st h1, atI_nat (j := 1) rfl, l.b, rfl, okl.b, _, rfl, itbF rfl ?_⟩
      refine ⟨_, rfl, ta, _, 2, .ref sa, rfl, rfl, st h1, atI_nat (j := 2) rfl, sa, l.s, rfl, s12 _ _ hsa, okss okl.s, fun G2 s3 => ⟨_, rfl, itbF rfl ?_⟩⟩
      have h3 := s3 _ _ h1
      refine ⟨_, rfl, ta, _, 3, wv, rfl, rfl, st h3, atI_nat (j := 3) rfl, rfl, _, rfl, ?_⟩
      cases hw0 : l.w with
      | none =>
        rw [hw0] at hw
        obtain rfl : wv = .non := hw
        exact itbF rfl (itbF rfl ⟨_, rfl, s2.trans s3⟩)
      | some ws =>
        rw [hw0] at hw
        obtain ⟨wa, rfl, hwa⟩ := hw
        refine itbT rfl ?_
        exact ⟨_, rfl, ta, _, 3, .ref wa, rfl, rfl, st h3, atI_nat (j := 3) rfl, wa, ws, rfl, (s12.trans s3) _ _ hwa, okss (okl.w ws hw0), fun G3 s4 => ⟨_, rfl, itbF rfl ⟨_, rfl, (s2.trans s3).trans s4⟩⟩⟩
    · rintro σ G ⟨v1, rfl, s2⟩
      have s12 := s1.trans s2
      have hSG := hS.ext (LamX.ExtN.of s12)
      refine ⟨_, rfl, a, rfl, seqK_walk hSG fun J2 Gd2 wk2 hG2 D nD => ?_⟩
      refine lc_sel wk2 (R := fun x (l : CL) => Dv G x (clD l)) (ls := ls) (out := fun y (n : Int) => y = V.int n) ?_ nD hG2 (by omega) (fun l => some l.n) ?_ ?_
      · exact a2_of (hA.same s12)
      · rintro x l G2 T S hx hm s3 hT hS'
        obtain ⟨ta, sa, wv, rfl, hta, hsa, hw⟩ := dv_cl hx
        exact ⟨rfl, tyes ⟨_, rfl, ta, _, 0, .int l.n, rfl, rfl, st (s3 _ _ hta), atI_nat (j := 0) rfl, hT _ l.n G2 (fun _ _ h => h) rfl rfl⟩⟩
      · intro G2 acc s3 hacc h4
        rw [h4.vals] at hacc
        have ef : ls.filterMap (fun l => some l.n) = ls.map (·.n) := by rw [← List.filterMap_eq_map]; rfl
        rw [ef] at hacc
        refine ⟨D, _, rfl, .inl hacc, by rw [List.length_map]; omega, fun H' s4 => ?_⟩
        rw [ascB_of ok.up]
        exact q H' ((s12.trans s3).trans s4)
set_option maxHeartbeats 8000000 in
theorem ok_am {f : Addr} {fd : FuncData} (T : Bk mg) (D_is_body : Def P w K mg base CX0 2 "is_body" pV spBody) (D_is_signs : Def P w K mg base CX0 2 "is_signs" pV spSigns)
    (F : Fun K "_are_made" "_are_made" sAm f fd) : FnOk P w K mg base CX0 3 f fd pV (spAm K) := by
  have nd := scAm.nd
  refine F.ok scAm (fun vs H Q E h => ?_) (fun cdv A outer s H vs Q E hr h => ?_)
  · obtain ⟨a, xs, ls, rfl, _⟩ := h
    rfl
  · obtain ⟨a, xs, md, rfl, hS, hA, ok, q⟩ := h
    refine ⟨_, (pss_cons (ps_if (pt_not (pt_val (pe_callB (call_isiTK (K := K) rfl) (by rfl) T.isinstance PyProof.Rows.boot_isinstance (pa_cons (pv 0) (pa_cons (pe_tup (pa_cons (pe_bltn (v := .ty "list") rfl T.list PyProof.Rows.boot_list rfl) (pa_cons (pe_bltn (v := .ty "tuple") rfl T.tuple PyProof.Rows.boot_tuple rfl) pa_nil))) pa_nil)))))
  pss_any
  pss_nil)
 (pss_cons (ps_for PassesOwn.never rfl (pi_seqK (K := K) rfl (pv 0)) (pg_name (i := 1) nd rfl (Or.inl rfl))
  (pss_one (ps_if (PW.pt (pw_or (pt_not (pt_val (pe_callB (call_isiK1 (K := K) rfl) (by rfl) T.isinstance PyProof.Rows.boot_isinstance (pa_cons (pv 1) (pa_cons (pe_bltn (v := .ty "tuple") rfl T.tuple PyProof.Rows.boot_tuple rfl) pa_nil))))) (pw_or (pt_cmpR op_ne (pe_callB (call_lenK (K := K) rfl) (by rfl) T.len PySem.boot_len (pa_cons (pv 1) pa_nil)) pe_int (nomark _)) (pw_or (pt_not (pt_val (pe_def D_is_body (hr.mono (by decide)) rfl pass0 (pa_cons (pe_ix (ix_tupK (K := K) rfl) (pv 1) pe_int (fun _ _ => rfl)) pa_nil)))) (pw_or1 (pt_not (pt_val (pe_def D_is_signs (hr.mono (by decide)) rfl pass0 (pa_cons (pe_ix (ix_tupK (K := K) rfl) (pv 1) pe_int (fun _ _ => rfl)) pa_nil)))))))))
  pss_any
  pss_nil)))
 (pss_one (ps_ret pe_bl)))), ?_⟩
    refine ⟨_, rfl, (by show 2 ≤ sizeLine; decide), fun tp ntp => ?_⟩
    have s1 := same_new (o := .tup [.ty "list", .ty "tuple"]) ntp
    have hS1 := hS.ext (LamX.ExtN.of s1)
    obtain ⟨tn, ty, kt⟩ := hS1.ty
    refine ⟨.ref a, tp, [.ty "list", .ty "tuple"], .type tn, [.type "list", .type "tuple"], true, rfl, upd_same, .cons (.ty _) (.cons (.ty _) .nil), ty, kt, _, rfl, itbF rfl ?_⟩
    generalize upd H tp (.tup [.ty "list", .ty "tuple"]) = H1 at s1 hS1
    refine ⟨_, rfl, a, rfl, seqK_walk hS1 fun J Gd wk hG => for_it wk (fun i σ G => ∃ v1, σ = [some (.ref a), v1] ∧ Same H1 G) ⟨none, rfl, fun _ _ h => h⟩ (fun i σ G _ ⟨_, _, h⟩ => hG _ h) ?_ ?_⟩
    · rintro i x σ G G' hi ⟨v1, rfl, s2⟩ ⟨rfl, hx⟩
      obtain ⟨l, hl, hv⟩ := hA.getD' hx
      obtain ⟨ta, sa, rfl, hta, hsa⟩ := dv_md hv
      have okl := ok.ok l (List.mem_of_getElem? hl)
      have s12 := s1.trans s2
      have h1 := s12 _ _ hta
      refine ⟨_, rfl, .ref ta, .ty "tuple", .type "tuple", .type "tuple", true, rfl, .ty _, .base (.tup h1), kit_ty (by decide +kernel), _, rfl, itbF rfl ?_⟩
      refine ⟨_, rfl, ta, _, rfl, .inr (st h1), rfl, _, rfl, itbF rfl ?_⟩
      refine ⟨_, rfl, ta, _, 0, .int l.1, rfl, rfl, st h1, atI_nat (j := 0) rfl, l.1, rfl, okl.1, _, rfl, itbF rfl ?_⟩
      exact ⟨_, rfl, ta, _, 1, .ref sa, rfl, rfl, st h1, atI_nat (j := 1) rfl, sa, l.2, rfl, s12 _ _ hsa, okss okl.2, fun G2 s3 => ⟨_, rfl, itbF rfl ⟨_, rfl, s2.trans s3⟩⟩⟩
    · rintro σ G ⟨v1, rfl, s2⟩
      exact q G (s1.trans s2)
end
end K1
set_option Elab.async false
set_option linter.all false
set_option maxRecDepth 100000
/-! != of two lists whose items are equal by an own == : False. -/
set_option Elab.async false
set_option linter.all false
set_option maxRecDepth 100000
set_option maxHeartbeats 2000000
/-! == and != of instances by an own __eq__, whatever it tells. -/
namespace K1
open PySem PySem.W PySem.SeqAt PySem.Spec PyProof.Rows L2 Builtin
section
variable {prog : Program} {w : World} {A : Around} {E : Value → Shared → Prop} {s : Shared} {K : PySem.W.Frag} {x C L f : Addr} {h₀ : Heap} {m : Str → Option Value} {ox : Obj} {od : Option Obj} {name : Str} {b tb : Value}
theorem ifBoundB {M : Model} {id : String} {args : List Value} {Q : Option Value → Shared → Prop} (X : K.In s.heap) (I : InstAt s.heap x ox C od) (hs : findIn K (.ref C) name = some (some (.builtin id))) (hb : ∀ v, bindSpecial (.builtin id) v = pure (.builtin id, [v]))
    (h : wpAny M A (call (.builtin id) (.ref x :: args)) (fun v => Q (some v)) E s) : wpAny M A (callSpecialIfBound? (.ref x) name args) Q E s := by
  simp only [callSpecialIfBound?, bindSpecialIfBound?]
  refine wpAny_holding (wpAny_bind (wpAny_bind (wpAny_bind (I.type.here ((looks_findIn X hs).here ?_)))))
  refine wpAny_bind (wpAny_askSetting (wpAny_ite ?_))
  have fin : wpAny M A (call (.builtin id) ([.ref x] ++ args) >>= fun v => pure (some v)) Q E s := wpAny_bind (wpAny_mono h (fun v s' h' => wpAny_pure h') fun _ _ h' => h')
  split
  · rw [hb]
    exact wpAny_bind (wpAny_pure (wpAny_pure (by exact fin)))
  · rw [hb]
    exact wpAny_tryCatch (wpAny_bind (wpAny_pure (wpAny_pure (by exact fin))))
theorem objNe_K {hh : Heap} {g : Array GenState} {d : Drawn} {t : Nat} {os : OsState} {Q : Fin → Shared → Prop} (hu : A.units < cLine) (X : K.In hh) (I : InstAt hh x ox C od) (hs : findIn K (.ref C) "__eq__" = some (some (.ref f))) (hf : isFn K (.ref f) = true)
    (h : wpAny (model prog w) A (call (.ref f) [.ref x, b]) (fun v s' => ∃ r, v = .bool r ∧ Q (.done (.ret (.bool (!r)))) s') E ⟨hh, g, d, t, os⟩) :
    wpAny (model prog w) A (Builtin.«object.__ne__» ⟨[.ref x, b], []⟩) Q E ⟨hh, g, d, t, os⟩ := by
  unfold Builtin.«object.__ne__»
  repeat (first
    | with_reducible refine wpAny_cRoomFor hu ?_
    | (refine wpAny_bind (m := callSpecialIfBound? (.ref x) (Str.ofString "__eq__") [b]) (ifBound_K X I hs hf (wpAny_mono h (fun r s' hr => by
        obtain ⟨r, rfl, hq⟩ := hr
        repeat (first | exact hq | exact wpAny_pure hq | exact wpAny_truthy_bool hq | (refine wpAny_bind (m := truthy (.bool _)) (wpAny_truthy_bool ?_)) | wp_step)) fun _ _ e => e)))
    | wp_step)
theorem cmpNe_K {Q : Value → Shared → Prop} (hu : A.units + 1 < cLine) (F : Fr h₀ L s.heap m) (X₀ : K.In h₀) (I : InstAt s.heap x ox C od) (hb : Looks (model prog w) s.heap (typeOf b) tb) (hn : notFirst K C tb = true)
    (hne : findIn K (.ref C) "__ne__" = some (some (.builtin "object.__ne__"))) (ho : mroIn K C (.type "object") = some true) (hs : findIn K (.ref C) "__eq__" = some (some (.ref f))) (hf : isFn K (.ref f) = true)
    (h : wpAny (model prog w) A.in1 (call (.ref f) [.ref x, b]) (fun v s' => ∃ r, v = .bool r ∧ Q (.bool (!r)) s') E s) : wpAny (model prog w) A (richCompare .NotEq (.ref x) b) Q E s := by
  have X := X₀.keeps F.keep
  have ent : wpAny (model prog w) A.in1 (Builtin.«object.__ne__» ⟨[.ref x, b], []⟩) (GQ.FinOf prog w A (wants (fun v s' => (∃ r, v = .bool r) ∧ Q v s') E)) (fun e s' => wants (fun v s' => (∃ r, v = .bool r) ∧ Q v s') E (.error e) s') s := by
    obtain ⟨hh, g, d, t, os⟩ := s
    refine objNe_K hu X I hs hf (wpAny_mono h (fun v s' hv => ?_) fun _ _ e => e)
    obtain ⟨r, rfl, hq⟩ := hv
    exact ⟨r, rfl, ⟨_, rfl⟩, hq⟩
  have one : wpAny (model prog w) A (tryCompare (.ref x) "__ne__" b) (fun r s' => ∃ v, r = some v ∧ Q v s') E s := by
    unfold tryCompare
    refine wpAny_bind (ifBoundB X I hne (fun v => PySem.F.cmp_object.ne.bind v) (wpAny_mono (Q := fun v s' => (∃ r, v = .bool r) ∧ Q v s') (wpAny_call (codeAny_call_builtin PySem.F.cmp_object.ne.plain PySem.F.cmpEntry_ne
      (check_slot PySem.F.cmpKind_ne PySem.F.cmpSplit_ne (I.type.andThen (looks_mroIn X ho)) (PySem.F.cmpArgs_ne _ _) ent))) (fun v s' hv => ?_) fun _ _ e => e))
    obtain ⟨⟨r, rfl⟩, hq⟩ := hv
    exact wpAny_pure ⟨_, rfl, hq⟩
  unfold richCompare
  simp only [oneThing_ref]
  refine wpAny_holding (wpAny_bind (wpAny_cRoomFor (Nat.lt_of_succ_lt hu) ?_))
  refine wpAny_bind (I.type.here (wpAny_bind (hb.here ?_)))
  split
  · rename_i q
    have e : subIn K tb (.ref C) = some false := by
      rcases Bool.or_eq_true_iff.mp hn with e | e
      · rw [beq_iff_eq.mp e] at q; simp at q
      · exact beq_iff_eq.mp e
    refine wpAny_bind ((looks_subIn X e).here ?_)
    simp only [Bool.false_eq_true, if_false]
    refine wpAny_bind (wpAny_mono one (fun r s' z => ?_) fun _ _ e => e)
    obtain ⟨v, rfl, hq⟩ := z
    exact wpAny_pure hq
  · refine wpAny_bind (wpAny_pure ?_)
    simp only [Bool.false_eq_true, if_false]
    refine wpAny_bind (wpAny_mono one (fun r s' z => ?_) fun _ _ e => e)
    obtain ⟨v, rfl, hq⟩ := z
    exact wpAny_pure hq
end
/-- what an own == promises: R tells the answer -/
noncomputable def spEqB (R : Addr → Addr → Bool → Hp → Prop) : Sp := fun vs H Q _ => ∃ a b r, vs = [.ref a, .ref b] ∧ R a b r H ∧ ∀ H', L2.Ext H H' → Q (.bl r) H'
/-- the own == of a class -/
structure EqM (P : Program) (w : World) (K : PySem.W.Frag) (mg : Str → Option Value) (base : Heap) (n : Nat) (C : Addr) (R : Addr → Addr → Bool → Hp → Prop) : Prop where
  ex : ∃ (f : Addr) (fd : FuncData) (ps : List Str), FnOk P w K mg base CX0 n f fd ps (spEqB R) ∧ PySem.W.findIn K (.ref C) "__eq__" = some (some (.ref f)) ∧ PySem.W.isFn K (.ref f) = true ∧ Binds K fd ps []
  ne : PySem.W.findIn K (.ref C) "__ne__" = some (some (.builtin "object.__ne__"))
  ob : PySem.W.mroIn K C (.type "object") = some true
/-- two instances of the class -/
noncomputable def TwoI (C : Addr) (R : Addr → Addr → Bool → Hp → Prop) (x y : V) (r : Bool) (H : Hp) : Prop := ∃ a b dx dy fs gs, x = .ref a ∧ y = .ref b ∧ H a = some (.ins C dx fs) ∧ H b = some (.ins C dy gs) ∧ R a b r H
noncomputable def rNeI (C : Addr) (R : Addr → Addr → Bool → Hp → Prop) : R2 := fun x y H Q => ∃ r, TwoI C R x y r H ∧ ∀ H', L2.Ext H H' → Q (.bl !r) H'
section
variable {X : Cx} {n : Nat} {C : Addr} {R : Addr → Addr → Bool → Hp → Prop}
theorem eqI_call (M : EqM X.prog X.w X.K X.mg X.base n C R) {A : Around} (sb : Sub X n A) {pins : List (Addr × Obj)} {s : Shared} {σ : L2.St} {H : Hp} {a b : Addr} {r : Bool} (I : Inv X pins σ H s) (hr : R a b r H) :
    ∃ f, PySem.W.findIn X.K (.ref C) "__eq__" = some (some (.ref f)) ∧ PySem.W.isFn X.K (.ref f) = true ∧ wpAny (model X.prog X.w) A (call (.ref f) [.ref a, .ref b]) (fun v s' => v = .bool r ∧ ∃ H', Inv X pins σ H' s' ∧ L2.Ext H H') X.xe s := by
  obtain ⟨f, fd, ps, F, hs, hf, hb⟩ := M.ex
  refine ⟨f, hs, hf, ?_⟩
  have hsp : spEqB R [.ref a, .ref b] H (fun v H' => v = .bl r ∧ L2.Ext H H') E0 := ⟨a, b, r, rfl, hr, fun H' e => ⟨rfl, e⟩⟩
  have e0 : Env0 X.prog X.w X.K X.mg X.base A X.stack s H := by
    have e := I.env0
    exact ⟨by rw [sb.fr]; exact e.frames, e.mod, e.bs, e.bsz, e.funs, e.frf, e.hok, e.bare⟩
  have hl := F.len _ _ _ _ hsp
  have r2 : Vals [V.ref a, V.ref b] [Value.ref a, Value.ref b] := .cons rfl (.cons rfl .nil)
  refine wpAny_call (codeAny_mono (F.run A X.stack s H ⟨[.ref a, .ref b], []⟩ [.ref a, .ref b] [.ref a, .ref b] _ E0 sb.room e0 (by
    have := hb s [.ref a, .ref b] I.kIn (by simpa using hl)
    simpa using this) r2 hsp) fun q s' hq => ?_)
  cases q with
  | error e => exact (pass0 (X := X)) pins σ H s e s' I hq
  | ok fl =>
    cases fl with
    | ret w =>
      obtain ⟨z, H', I', rz, ez, ex⟩ := I.after hq
      subst ez
      cases rz
      exact ⟨rfl, H', I', ex⟩
    | next => exact False.elim hq
    | brk => exact False.elim hq
    | cont => exact False.elim hq
theorem op_neI (M : EqM X.prog X.w X.K X.mg X.base n C R) (hr : Room (n + 1) X.A) : OpR X (compareOp .NotEq) (rNeI C R) := by
  intro pins s σ H x y v u Q I rx ry hq
  obtain ⟨r, ⟨a, b, dx, dy, fs, gs, rfl, rfl, ha, hb', hR⟩, q⟩ := hq
  cases rx
  cases ry
  obtain ⟨mA, J, _⟩ := ins_get I.hok ha
  obtain ⟨mB, J', _⟩ := ins_get I.hok hb'
  obtain ⟨od, J, _⟩ := J.look
  obtain ⟨od', J', _⟩ := J'.look
  obtain ⟨m, hF⟩ := I.fr
  have sb : Sub X (n + 1) X.A := ⟨hr, rfl⟩
  obtain ⟨f, hs, hf, hc⟩ := eqI_call M sb.in1 I hR
  show wpAny (model X.prog X.w) X.A (richCompare .NotEq (.ref a) (.ref b)) (EP X pins σ Q) X.xe s
  refine cmpNe_K (tb := .ref C) (by have := sb.in1.room.units0; exact this) hF I.ok.mod.kin J J'.type (by simp [PySem.W.notFirst]) M.ne M.ob hs hf (wpAny_mono hc (fun v s' z => ?_) fun _ _ e => e)
  obtain ⟨rfl, H', I', e⟩ := z
  exact ⟨r, rfl, .bl !r, H', I', rfl, q H' e⟩
end
end K1
set_option Elab.async false
set_option linter.all false
set_option maxRecDepth 100000
set_option maxHeartbeats 4000000
/-! Data that may be compared; copies and their equality. -/
namespace K1
open PySem PySem.Spec PyProof.Rows L2 RZ StX
structure LayD (k : Nat) (d : PyData) : Prop where
  lay : PyData.canLay0 d = true
  dep : PyData.depth d ≤ k
  nd : noDic d = true
structure LayA (k : Nat) (ds : List PyData) : Prop where
  lay : PyData.canLayAll0 ds = true
  dep : PyData.depthAll ds ≤ k
  nd : noDicA ds = true
theorem LayA.nil {k : Nat} : LayA k [] := ⟨rfl, Nat.zero_le _, rfl⟩
theorem LayA.cons {k : Nat} {d : PyData} {ds : List PyData} (h : LayD k d) (r : LayA k ds) : LayA k (d :: ds) :=
  ⟨by show (PyData.canLay0 d && PyData.canLayAll0 ds) = true; rw [h.lay, r.lay]; rfl, Nat.max_le.mpr ⟨h.dep, r.dep⟩, by show (noDic d && noDicA ds) = true; rw [h.nd, r.nd]; rfl⟩
theorem LayA.map {α : Type} {k : Nat} {f : α → PyData} : ∀ {xs : List α}, (∀ x ∈ xs, LayD k (f x)) → LayA k (xs.map f)
  | [], _ => .nil
  | x :: r, h => .cons (h x List.mem_cons_self) (LayA.map fun y hy => h y (List.mem_cons_of_mem _ hy))
theorem LayD.int {k : Nat} (i : Int) : LayD k (.int i) := ⟨rfl, Nat.zero_le _, rfl⟩
theorem LayD.non {k : Nat} : LayD k .none := ⟨rfl, Nat.zero_le _, rfl⟩
theorem LayD.bl {k : Nat} (b : Bool) : LayD k (.bool b) := ⟨rfl, Nat.zero_le _, rfl⟩
theorem LayD.str {k : Nat} {s : Str} (h : PyData.strOk s = true) : LayD k (.str s) := ⟨h, Nat.zero_le _, rfl⟩
theorem LayD.tup {k : Nat} {ds : List PyData} (h : LayA k ds) : LayD (k + 1) (.tuple ds) := ⟨h.lay, Nat.succ_le_succ h.dep, h.nd⟩
theorem LayD.lst {k : Nat} {ds : List PyData} (h : LayA k ds) : LayD (k + 1) (.list ds) := ⟨h.lay, Nat.succ_le_succ h.dep, h.nd⟩
theorem LayD.mono {k m : Nat} {d : PyData} (h : LayD k d) (e : k ≤ m) : LayD m d := ⟨h.lay, Nat.le_trans h.dep e, h.nd⟩
theorem LayD.sh {k : Nat} {d : PyData} (h : LayD k d) (e : k ≤ 64 := by decide) : SeqAt.shaped d = true := by
  unfold SeqAt.shaped
  rw [h.lay, decide_eq_true (Nat.le_trans h.dep e)]; rfl
theorem lay_ss {ss : List Str} (h : ∀ s ∈ ss, okS s = true) : LayD 1 (.tuple (ss.map PyData.str)) := .tup (LayA.map (k := 0) fun s hs => .str (strOk_of (h s hs)))
theorem lay_w {w : Option (List Str)} (h : ∀ ss, w = some ss → OkSs ss) : LayD 1 (wD w) := by
  cases w with
  | none => exact .non
  | some ss => exact lay_ss (h ss rfl).ok
theorem lay_cl {l : CL} (h : OkCL l) : LayD 2 (clD l) := .tup (.cons (.int _) (.cons (.int _) (.cons (lay_ss h.s.ok) (.cons (lay_w h.w) .nil))))
theorem lay_md {m : Int × List Str} (h : OkMd m) : LayD 2 (mdD m) := .tup (.cons (.int _) (.cons (lay_ss h.2.ok) .nil))
noncomputable def clsD (ls : List CL) : PyData := .tuple (ls.map clD)
noncomputable def mdsD (md : List (Int × List Str)) : PyData := .tuple (md.map mdD)
theorem lay_cls {ls : List CL} (h : ∀ l ∈ ls, OkCL l) : LayD 3 (clsD ls) := .tup (LayA.map fun l hl => lay_cl (h l hl))
theorem lay_mds {md : List (Int × List Str)} (h : ∀ m ∈ md, OkMd m) : LayD 3 (mdsD md) := .tup (LayA.map fun l hl => lay_md (h l hl))
theorem eqvAll_map {α : Type} [DecidableEq α] {f : α → PyData} (h : ∀ x y, PyData.eqv (f x) (f y) = decide (x = y)) : ∀ xs ys : List α, PyData.eqvAll (xs.map f) (ys.map f) = decide (xs = ys)
  | [], [] => by simp [PyData.eqvAll]
  | [], _ :: _ => by simp [PyData.eqvAll]
  | _ :: _, [] => by simp [PyData.eqvAll]
  | x :: xs, y :: ys => by
    show (PyData.eqv (f x) (f y) && PyData.eqvAll (xs.map f) (ys.map f)) = _
    rw [h, eqvAll_map h xs ys]
    by_cases e : x = y
    · subst e; by_cases e2 : xs = ys <;> simp [e2]
    · simp [e]
theorem eqv_ss (xs ys : List Str) : PyData.eqv (.tuple (xs.map PyData.str)) (.tuple (ys.map PyData.str)) = decide (xs = ys) := g_eqv xs ys
theorem eqv_w (x y : Option (List Str)) : PyData.eqv (wD x) (wD y) = decide (x = y) := by
  cases x with
  | none =>
    cases y with
    | none => simp [wD, PyData.eqv]
    | some ys => simp [wD, PyData.eqv]
  | some xs =>
    cases y with
    | none => simp [wD, PyData.eqv]
    | some ys => rw [show wD (some xs) = .tuple (xs.map PyData.str) from rfl, show wD (some ys) = .tuple (ys.map PyData.str) from rfl, eqv_ss]; simp
theorem eqv_int (i j : Int) : PyData.eqv (.int i) (.int j) = decide (i = j) := by
  show (i == j) = _
  by_cases e : i = j <;> simp [e]
theorem eqv_cl (x y : CL) : PyData.eqv (clD x) (clD y) = decide (x = y) := by
  show (PyData.eqv (.int x.n) (.int y.n) && (PyData.eqv (.int x.b) (.int y.b) && (PyData.eqv (.tuple (x.s.map PyData.str)) (.tuple (y.s.map PyData.str)) && (PyData.eqv (wD x.w) (wD y.w) && true)))) = _
  rw [eqv_int, eqv_int, eqv_ss, eqv_w, Bool.and_true]
  obtain ⟨n, b, s, w⟩ := x
  obtain ⟨n', b', s', w'⟩ := y
  by_cases e1 : n = n' <;> by_cases e2 : b = b' <;> by_cases e3 : s = s' <;> by_cases e4 : w = w' <;> simp [e1, e2, e3, e4]
theorem eqv_md (x y : Int × List Str) : PyData.eqv (mdD x) (mdD y) = decide (x = y) := by
  show (PyData.eqv (.int x.1) (.int y.1) && (PyData.eqv (.tuple (x.2.map PyData.str)) (.tuple (y.2.map PyData.str)) && true)) = _
  rw [eqv_int, eqv_ss, Bool.and_true]
  obtain ⟨b, s⟩ := x
  obtain ⟨b', s'⟩ := y
  by_cases e2 : b = b' <;> by_cases e3 : s = s' <;> simp [e2, e3]
theorem eqv_cls (xs ys : List CL) : PyData.eqv (clsD xs) (clsD ys) = decide (xs = ys) := eqvAll_map eqv_cl xs ys
theorem eqv_mds (xs ys : List (Int × List Str)) : PyData.eqv (mdsD xs) (mdsD ys) = decide (xs = ys) := eqvAll_map eqv_md xs ys
theorem tO_w (w : Option (List Str)) : tO (wD w) = true := by
  cases w with
  | none => rfl
  | some ss => exact tO_strs ss
theorem tO_cls : ∀ ls : List CL, tOA (ls.map clD) = true
  | [] => rfl
  | l :: r => by
    show ((true && (true && (tOA (l.s.map PyData.str) && (tO (wD l.w) && true)))) && tOA (r.map clD)) = true
    rw [tO_strs, tO_w, tO_cls r]; rfl
theorem tO_mds : ∀ md : List (Int × List Str), tOA (md.map mdD) = true
  | [] => rfl
  | m :: r => by
    show ((true && (tOA (m.2.map PyData.str) && true)) && tOA (r.map mdD)) = true
    rw [tO_strs, tO_mds r]; rfl
/-! ### copies -/
noncomputable def flC (a m l d : V) : List (Str × V) := [("_age", a), ("_mark", m), ("_letters", l), ("_made", d)]
/-- a tuple of the call's own, or the empty one of the text -/
noncomputable def MT (K : PySem.W.Frag) (H : Hp) (t : Addr) (ys : List V) : Prop := H t = some (.tup ys) ∨ (ys = [] ∧ KEmp K t)
theorem MT.st {K : PySem.W.Frag} {H : Hp} {t : Addr} {ys : List V} (h : MT K H t ys) : SqT K H t ys := h.elim (fun h => K1.st h) fun ⟨e, k⟩ => by subst e; exact kemp_st k
theorem MT.tu {K : PySem.W.Frag} {H G : Hp} {t : Addr} {ys : List V} (h : MT K H t ys) (s : TU H G) : MT K G t ys := h.imp (s _ _) id
theorem MT.sq {K : PySem.W.Frag} {H : Hp} {t : Addr} {ys : List V} (h : MT K H t ys) : SqK K H t ys := h.imp .inr id
structure CpP (K : PySem.W.Frag) (CC : Addr) (H : Hp) (p : Addr) (c : Cp) (dx tl tm : Addr) (xs ys : List V) : Prop where
  at_ : H p = some (.ins CC dx (flC (.int c.age) (.int c.mr) (.ref tl) (.ref tm)))
  tl : MT K H tl xs
  xs : DvA H xs (c.ls.map clD)
  tm : MT K H tm ys
  ys : DvA H ys (c.md.map mdD)
noncomputable def CpAt (K : PySem.W.Frag) (CC : Addr) (H : Hp) (p : Addr) (c : Cp) : Prop := ∃ dx tl tm xs ys, CpP K CC H p c dx tl tm xs ys
structure OkCp (c : Cp) : Prop where
  age : 1 ≤ c.age
  mr : 0 ≤ c.mr
  ls : OkLs c.ls
  md : OkMs c.md
/-- all but lists, dicts and tables stay: what copies want -/
theorem CpAt.same {K : PySem.W.Frag} {CC p : Addr} {H H' : Hp} {c : Cp} (h : CpAt K CC H p c) (s : Same H H') : CpAt K CC H' p c :=
  let ⟨dx, tl, tm, xs, ys, h⟩ := h; ⟨dx, tl, tm, xs, ys, s _ _ h.at_, h.tl.tu (TU.same s), h.xs.same s, h.tm.tu (TU.same s), h.ys.same s⟩
theorem CpAt.ext {K : PySem.W.Frag} {CC p : Addr} {H H' : Hp} {c : Cp} (h : CpAt K CC H p c) (s : LamX.ExtN H H') : CpAt K CC H' p c :=
  let ⟨dx, tl, tm, xs, ys, h⟩ := h; ⟨dx, tl, tm, xs, ys, s _ _ h.at_ (fun _ z => by cases z), h.tl.tu (TU.ext s), h.xs.ext s, h.tm.tu (TU.ext s), h.ys.ext s⟩
/-- instances and tuples stay -/
theorem CpAt.tk {K : PySem.W.Frag} {CC p : Addr} {H H' : Hp} {c : Cp} (h : CpAt K CC H p c) (s : TK H H') : CpAt K CC H' p c := by
  obtain ⟨dx, tl, tm, xs, ys, h⟩ := h
  have t : TU H H' := fun b xs hb => s.tup hb
  exact ⟨dx, tl, tm, xs, ys, s _ _ h.at_ (fun _ z => by cases z) (fun _ z => by cases z), h.tl.tu t, h.xs.tu t (tO_cls _), h.tm.tu t, h.ys.tu t (tO_mds _)⟩
theorem CpAt.w {K : PySem.W.Frag} {CC p q : Addr} {H H' : Hp} {c : Cp} (h : CpAt K CC H p c) (w : WellAt H q) (e : Ext q H H') : CpAt K CC H' p c := h.tk (TK.ext w e)
theorem CpAt.ins {K : PySem.W.Frag} {CC p : Addr} {H : Hp} {c : Cp} (h : CpAt K CC H p c) : ∃ dx fs, H p = some (.ins CC dx fs) := let ⟨dx, _, _, _, _, h⟩ := h; ⟨dx, _, h.at_⟩
structure CcT (K : PySem.W.Frag) (mg : Str → Option Value) (CC : Addr) : Prop where
  cl : Cls K CC
  gC : mg "Copy" = some (.ref CC)
  nA : NoAttr K CC "_age"
  nM : NoAttr K CC "_mark"
  nL : NoAttr K CC "_letters"
  nD : NoAttr K CC "_made"
end K1
set_option Elab.async false
set_option linter.all false
set_option maxRecDepth 100000
set_option maxHeartbeats 4000000
/-! The class Copy: made, compared, read. -/
namespace K1
open PySem PySem.Spec PyProof.Rows L2 RZ StX
noncomputable def mC (i : Nat) : Stmt := inClass st_Copy i
noncomputable abbrev sCI : Stmt := mC 0
noncomputable abbrev sCE : Stmt := mC 1
noncomputable abbrev sCAge : Stmt := mC 2
noncomputable abbrev sCMark : Stmt := mC 3
noncomputable abbrev sCLet : Stmt := mC 4
noncomputable abbrev sCMade : Stmt := mC 5
noncomputable abbrev nCI : List Str := ["self", "age", "mark", "letters", "made"]
theorem scCI : FnScope nCI nCI (defScope sCI) := ⟨rfl, rfl, rfl, by decide +kernel, rfl, by decide +kernel, by decide +kernel⟩
noncomputable abbrev nCE : List Str := ["self", "other"]
theorem scCE : FnScope nCE nCE (defScope sCE) := ⟨rfl, rfl, rfl, by decide +kernel, rfl, by decide +kernel, by decide +kernel⟩
theorem scCAge : FnScope nSelf nSelf (defScope sCAge) := ⟨rfl, rfl, rfl, by decide +kernel, rfl, by decide +kernel, by decide +kernel⟩
theorem scCMark : FnScope nSelf nSelf (defScope sCMark) := ⟨rfl, rfl, rfl, by decide +kernel, rfl, by decide +kernel, by decide +kernel⟩
theorem scCLet : FnScope nSelf nSelf (defScope sCLet) := ⟨rfl, rfl, rfl, by decide +kernel, rfl, by decide +kernel, by decide +kernel⟩
theorem scCMade : FnScope nSelf nSelf (defScope sCMade) := ⟨rfl, rfl, rfl, by decide +kernel, rfl, by decide +kernel, by decide +kernel⟩
section
variable {a l m d x y : V}
theorem fc_age : (flC a m l d).lookup ("_age" : Str) = some a := by rfl
theorem fc_mark : (flC a m l d).lookup ("_mark" : Str) = some m := by rfl
theorem fc_let : (flC a m l d).lookup ("_letters" : Str) = some l := by rfl
theorem fc_made : (flC a m l d).lookup ("_made" : Str) = some d := by rfl
theorem fc_no {x : Str} (h : (["_age", "_mark", "_letters", "_made"] : List Str).all (fun z => !(x == z)) = true) : (flC a m l d).lookup x = none := by
  simp only [List.all_cons, List.all_nil, Bool.and_true, Bool.and_eq_true, Bool.not_eq_true', beq_eq_false_iff_ne, ne_eq] at h
  obtain ⟨h1, h2, h3, h4⟩ := h
  unfold flC
  have e : ∀ {u v : Str}, u ≠ v → (u == v) = false := fun h => beq_eq_false_iff_ne.mpr h
  simp only [List.lookup, e h1, e h2, e h3, e h4]
theorem pc_all : putF "_made" d (putF "_letters" l (putF "_mark" m (putF "_age" a []))) = flC a m l d := by rfl
end
noncomputable def spCI (K : PySem.W.Frag) (CC : Addr) : Sp := fun vs H Q _ => ∃ (p dx la ma : Addr) (age mr : Int) (xs ys : List V) (ls : List CL) (md : List (Int × List Str)), vs = [.ref p, .int age, .int mr, .ref la, .ref ma] ∧ H p = some (.ins CC dx []) ∧ 1 ≤ age ∧ 0 ≤ mr ∧
  SqK K H la xs ∧ DvA H xs (ls.map clD) ∧ OkLs ls ∧ SqK K H ma ys ∧ DvA H ys (md.map mdD) ∧ OkMs md ∧ ∀ H' tl tm, Ext p H H' → CpP K CC H' p ⟨age, mr, ls, md⟩ dx tl tm xs ys → Q .non H'
/-- tuple(x) of a list or a tuple -/
noncomputable def rTup (K : PySem.W.Frag) : List V → Hp → VK → Prop := fun vs H Q => ∃ (a : Addr) (xs : List V), vs = [.ref a] ∧ SqK K H a xs ∧ ∀ l H', Same H H' → MT K H' l xs → Q (.ref l) H'
theorem cr_tup {X : Cx} {K : PySem.W.Frag} (h : X.K = K) : CallR X (.type "tuple") (rTup K) := by
  intro pins s σ H vs us Q I r ⟨a, xs, e, hs, q⟩
  refine call_tuple_ofK h pins s σ H vs us Q I r ?_
  subst e
  rcases hs with (h | h) | ⟨rfl, h⟩
  · exact ⟨a, xs, rfl, .inl ⟨sq h, fun l nl => q l _ (same_new nl) (.inl upd_same)⟩⟩
  · exact ⟨a, xs, rfl, .inr ⟨st h, q a H (fun _ _ h => h) (.inl h)⟩⟩
  · exact ⟨a, [], rfl, .inr ⟨kemp_st h, q a H (fun _ _ h => h) (.inr ⟨rfl, h⟩)⟩⟩
theorem MT.own {K : PySem.W.Frag} {H : Hp} {t : Addr} {ys : List V} (h : MT K H t ys) (n : ¬ KEmp K t) : H t = some (.tup ys) := h.resolve_right fun ⟨_, k⟩ => n k
noncomputable def spCAge (K : PySem.W.Frag) (CC : Addr) : Sp := fun vs H Q _ => ∃ (p : Addr) (c : Cp), vs = [.ref p] ∧ CpAt K CC H p c ∧ Q (.int c.age) H
noncomputable def spCMark (K : PySem.W.Frag) (CC : Addr) : Sp := fun vs H Q _ => ∃ (p : Addr) (c : Cp), vs = [.ref p] ∧ CpAt K CC H p c ∧ Q (.int c.mr) H
noncomputable def spCLet (K : PySem.W.Frag) (CC : Addr) : Sp := fun vs H Q _ => ∃ (p : Addr) (c : Cp), vs = [.ref p] ∧ CpAt K CC H p c ∧ ∀ l xs H', Same H H' → H l = none → H' l = some (.lst xs) → DvA H' xs (c.ls.map clD) → Q (.ref l) H'
noncomputable def spCMade (K : PySem.W.Frag) (CC : Addr) : Sp := fun vs H Q _ => ∃ (p : Addr) (c : Cp), vs = [.ref p] ∧ CpAt K CC H p c ∧ ∀ l ys H', Same H H' → H l = none → H' l = some (.lst ys) → DvA H' ys (c.md.map mdD) → Q (.ref l) H'
/-- two copies, and whether they are alike -/
noncomputable def CpEq (K : PySem.W.Frag) (CC : Addr) (a b : Addr) (r : Bool) (H : Hp) : Prop := ∃ c d, CpAt K CC H a c ∧ CpAt K CC H b d ∧ (∀ l ∈ c.ls, OkCL l) ∧ (∀ l ∈ d.ls, OkCL l) ∧ (∀ m ∈ c.md, OkMd m) ∧ (∀ m ∈ d.md, OkMd m) ∧ r = decide (c = d)
section
variable {P : Program} {w : World} {K : PySem.W.Frag} {mg : Str → Option Value} {base : Heap} {CC : Addr}
set_option maxHeartbeats 8000000 in
theorem ok_ci {f E0' : Addr} {fd : FuncData} (T : Bk mg) (t : CcT K mg CC) (D_is_number : Def P w K mg base CX0 2 "is_number" pV spNum) (D_is_mark : Def P w K mg base CX0 2 "is_mark" pV spBody) (D_al : Def P w K mg base CX0 3 "_are_letters" pV (spAl K)) (D_am : Def P w K mg base CX0 3 "_are_made" pV (spAm K))
    (F : FunD K "__init__" "Copy.__init__" (defArgs sCI) (defBody sCI) (defScope sCI) [.ref E0'] [] f fd) : FnOk P w K mg base CX0 4 f fd nCI (spCI K CC) := by
  have nd := scCI.nd
  refine F.ok scCI (fun vs H Q E h => ?_) (fun cdv A outer s H vs Q E hr h => ?_)
  · obtain ⟨p, dx, la, ma, age, mr, xs, ys, ls, md, rfl, _⟩ := h
    rfl
  · obtain ⟨p, dx, la, ma, age, mr, xs, ys, ls, md, rfl, hp, ha, hm, hS, hA, okl, hM, hB, okm, q⟩ := h
    refine ⟨_, (pss_cons (ps_if (pt_not (pt_val (pe_def D_is_number (hr.mono (by decide)) rfl pass0 (pa_cons (pv 1) pa_nil)))) pss_any pss_nil)
 (pss_cons (ps_if (pt_not (pt_val (pe_def D_is_mark (hr.mono (by decide)) rfl pass0 (pa_cons (pv 2) pa_nil)))) pss_any pss_nil)
 (pss_cons (ps_if (pt_not (pt_val (pe_def D_al (hr.mono (by decide)) rfl pass0 (pa_cons (pv 3) pa_nil)))) pss_any pss_nil)
 (pss_cons (ps_if (pt_not (pt_val (pe_def D_am (hr.mono (by decide)) rfl pass0 (pa_cons (pv 4) pa_nil)))) pss_any pss_nil)
 (pss_cons (ps_fld (pv 0) (pv 1) rfl)
 (pss_cons (ps_fld (pv 0) (pv 2) rfl)
 (pss_cons (ps_fld (pv 0) (pe_callTy (cr_tup (K := K) rfl) (by rfl) T.tuple PyProof.Rows.boot_tuple (pa_cons (pv 3) pa_nil)) rfl)
 (pss_one (ps_fld (pv 0) (pe_callTy (cr_tup (K := K) rfl) (by rfl) T.tuple PyProof.Rows.boot_tuple (pa_cons (pv 4) pa_nil)) rfl))))))))), ?_⟩
    refine ⟨_, rfl, age, rfl, ha, _, rfl, itbF rfl ?_⟩
    refine ⟨_, rfl, mr, rfl, hm, _, rfl, itbF rfl ?_⟩
    refine ⟨_, rfl, la, xs, ls, rfl, hS, hA, okl, fun H1 s1 => ⟨_, rfl, itbF rfl ?_⟩⟩
    refine ⟨_, rfl, ma, ys, md, rfl, hM.ext (LamX.ExtN.of s1), hB.same s1, okm, fun H2 s2 => ⟨_, rfl, itbF rfl ?_⟩⟩
    have s12 := s1.trans s2
    have hp2 := s12 _ _ hp
    have hS2 := hS.ext (LamX.ExtN.of s12)
    have hM2 := hM.ext (LamX.ExtN.of s12)
    have e0 : Ext p H H2 := same_ext s12
    refine ⟨_, rfl, _, rfl, p, CC, dx, [], rfl, hp2, t.cl, t.nA, by show 0 < 1000; decide, ?_⟩
    refine ⟨_, rfl, _, rfl, p, CC, dx, _, rfl, upd_same, t.cl, t.nM, by show 1 < 1000; decide, ?_⟩
    rw [upd_upd]
    have tu : TU H2 (upd H2 p (.ins CC dx (putF "_mark" (.int mr) (putF "_age" (.int age) [])))) := TU.mut hp2 fun _ z => by cases z
    have hp3 : (upd H2 p (.ins CC dx (putF "_mark" (.int mr) (putF "_age" (.int age) [])))) p = _ := upd_same
    have e3 : Ext p H (upd H2 p (.ins CC dx (putF "_mark" (.int mr) (putF "_age" (.int age) [])))) := e0.self
    have hS3 : SqK K (upd H2 p (.ins CC dx (putF "_mark" (.int mr) (putF "_age" (.int age) [])))) la xs := hS2.imp (fun h => h.imp (fun h => by rw [upd_ne (fun z => by rw [z, hp2] at h; cases h)]; exact h) (tu _ _)) id
    have hM3 : SqK K (upd H2 p (.ins CC dx (putF "_mark" (.int mr) (putF "_age" (.int age) [])))) ma ys := hM2.imp (fun h => h.imp (fun h => by rw [upd_ne (fun z => by rw [z, hp2] at h; cases h)]; exact h) (tu _ _)) id
    generalize upd H2 p (.ins CC dx (putF "_mark" (.int mr) (putF "_age" (.int age) []))) = H3 at tu hp3 e3 hS3 hM3
    refine ⟨_, rfl, la, xs, rfl, hS3, fun tl H4 s4 htl => ?_⟩
    have hp4 := s4 _ _ hp3
    refine ⟨_, rfl, p, CC, dx, _, rfl, hp4, t.cl, t.nL, by show 2 < 1000; decide, ?_⟩
    have tu4 : TU H4 (upd H4 p (.ins CC dx (putF "_letters" (.ref tl) (putF "_mark" (.int mr) (putF "_age" (.int age) []))))) := TU.mut hp4 fun _ z => by cases z
    have hp5 : (upd H4 p (.ins CC dx (putF "_letters" (.ref tl) (putF "_mark" (.int mr) (putF "_age" (.int age) []))))) p = _ := upd_same
    have e5 : Ext p H (upd H4 p (.ins CC dx (putF "_letters" (.ref tl) (putF "_mark" (.int mr) (putF "_age" (.int age) []))))) := (e3.trans (same_ext s4)).self
    have hM5 : SqK K (upd H4 p (.ins CC dx (putF "_letters" (.ref tl) (putF "_mark" (.int mr) (putF "_age" (.int age) []))))) ma ys := (hM3.ext (LamX.ExtN.of s4)).imp (fun h => h.imp (fun h => by rw [upd_ne (fun z => by rw [z, hp4] at h; cases h)]; exact h) (tu4 _ _)) id
    have htl5 := htl.tu tu4
    generalize upd H4 p (.ins CC dx (putF "_letters" (.ref tl) (putF "_mark" (.int mr) (putF "_age" (.int age) [])))) = H5 at tu4 hp5 e5 hM5 htl5
    refine ⟨_, rfl, ma, ys, rfl, hM5, fun tm H6 s6 htm => ?_⟩
    have hp6 := s6 _ _ hp5
    refine ⟨_, rfl, p, CC, dx, _, rfl, hp6, t.cl, t.nD, by show 3 < 1000; decide, ?_⟩
    rw [pc_all]
    have tu6 : TU H6 (upd H6 p (.ins CC dx (flC (.int age) (.int mr) (.ref tl) (.ref tm)))) := TU.mut hp6 fun _ z => by cases z
    have tuA : TU H (upd H6 p (.ins CC dx (flC (.int age) (.int mr) (.ref tl) (.ref tm)))) := ((((TU.same s12).trans tu).trans (TU.same s4)).trans tu4).trans ((TU.same s6).trans tu6)
    exact q _ tl tm (e5.trans (same_ext s6)).self ⟨upd_same, (htl5.tu (TU.same s6)).tu tu6, hA.tu tuA (tO_cls _), htm.tu tu6, hB.tu tuA (tO_mds _)⟩
theorem ok_cage {f : Addr} {fd : FuncData} (t : CcT K mg CC) (F : Fun K "age" "Copy.age" sCAge f fd) : FnOk P w K mg base CX0 1 f fd nSelf (spCAge K CC) := by
  refine F.ok scCAge (fun vs H Q E h => ?_) (fun cdv A outer s H vs Q E hr h => ?_)
  · obtain ⟨p, F, rfl, _⟩ := h
    rfl
  · obtain ⟨p, c, rfl, ⟨dx, tl, tm, xs, ys, h⟩, q⟩ := h
    exact ⟨_, pss_one (ps_ret (pe_fld (pv 0) rfl)), ⟨_, rfl, p, CC, dx, _, _, rfl, h.at_, t.cl, t.nA, fc_age, q⟩⟩
theorem ok_cmark {f : Addr} {fd : FuncData} (t : CcT K mg CC) (F : Fun K "mark" "Copy.mark" sCMark f fd) : FnOk P w K mg base CX0 1 f fd nSelf (spCMark K CC) := by
  refine F.ok scCMark (fun vs H Q E h => ?_) (fun cdv A outer s H vs Q E hr h => ?_)
  · obtain ⟨p, F, rfl, _⟩ := h
    rfl
  · obtain ⟨p, c, rfl, ⟨dx, tl, tm, xs, ys, h⟩, q⟩ := h
    exact ⟨_, pss_one (ps_ret (pe_fld (pv 0) rfl)), ⟨_, rfl, p, CC, dx, _, _, rfl, h.at_, t.cl, t.nM, fc_mark, q⟩⟩
theorem ok_clet {f : Addr} {fd : FuncData} (T : Bk mg) (t : CcT K mg CC) (F : Fun K "letters" "Copy.letters" sCLet f fd) : FnOk P w K mg base CX0 1 f fd nSelf (spCLet K CC) := by
  refine F.ok scCLet (fun vs H Q E h => ?_) (fun cdv A outer s H vs Q E hr h => ?_)
  · obtain ⟨p, F, rfl, _⟩ := h
    rfl
  · obtain ⟨p, c, rfl, ⟨dx, tl, tm, xs, ys, h⟩, q⟩ := h
    refine ⟨_, pss_one (ps_ret (pe_callTy (call_list_ofK (K := K) rfl) (by rfl) T.list PyProof.Rows.boot_list (pa_cons (pe_fld (pv 0) rfl) pa_nil))), ?_⟩
    exact ⟨_, rfl, p, CC, dx, _, _, rfl, h.at_, t.cl, t.nL, fc_let, tl, xs, rfl, .inr h.tl.st, fun l nl => q l xs _ (same_new nl) nl upd_same (h.xs.same (same_new nl))⟩
theorem ok_cmade {f : Addr} {fd : FuncData} (T : Bk mg) (t : CcT K mg CC) (F : Fun K "made" "Copy.made" sCMade f fd) : FnOk P w K mg base CX0 1 f fd nSelf (spCMade K CC) := by
  refine F.ok scCMade (fun vs H Q E h => ?_) (fun cdv A outer s H vs Q E hr h => ?_)
  · obtain ⟨p, F, rfl, _⟩ := h
    rfl
  · obtain ⟨p, c, rfl, ⟨dx, tl, tm, xs, ys, h⟩, q⟩ := h
    refine ⟨_, pss_one (ps_ret (pe_callTy (call_list_ofK (K := K) rfl) (by rfl) T.list PyProof.Rows.boot_list (pa_cons (pe_fld (pv 0) rfl) pa_nil))), ?_⟩
    exact ⟨_, rfl, p, CC, dx, _, _, rfl, h.at_, t.cl, t.nD, fc_made, tm, ys, rfl, .inr h.tm.st, fun l nl => q l ys _ (same_new nl) nl upd_same (h.ys.same (same_new nl))⟩
set_option maxHeartbeats 8000000 in
theorem ok_ce {f : Addr} {fd : FuncData} (T : Bk mg) (t : CcT K mg CC) (iC : C8.InsC K CC) (F : Fun K "__eq__" "Copy.__eq__" sCE f fd) : FnOk P w K mg base CX0 1 f fd nCE (spEqB (CpEq K CC)) := by
  have nd := scCE.nd
  refine F.ok scCE (fun vs H Q E h => ?_) (fun cdv A outer s H vs Q E hr h => ?_)
  · obtain ⟨a, b, r, rfl, _⟩ := h
    rfl
  · obtain ⟨a, b, r, rfl, ⟨c, d, ⟨dA, lA, gA, xA, yA, hA⟩, ⟨dB, lB, gB, xB, yB, hB⟩, oc, od, mc, md, rfl⟩, q⟩ := h
    refine ⟨_, (pss_one (ps_ret (pe_and (pe_callB (C8.call_isC iC) (by rfl) T.isinstance PyProof.Rows.boot_isinstance (pa_cons (pv 1) (pa_cons (pe_glob (v := .ref CC) rfl t.gC rfl) pa_nil)))
      (pe_and (pe_cmpR op_eq (pe_fld (pv 0) rfl) (pe_fld (pv 1) rfl) (nomark _)) (pe_and (pe_cmpR op_eq (pe_fld (pv 0) rfl) (pe_fld (pv 1) rfl) (nomark _)) (pe_and (pe_cmpR (op_eqDK (K := K) rfl hr.units) (pe_fld (pv 0) rfl) (pe_fld (pv 1) rfl) (nomark _))
       (pe_one (pe_cmpR (op_eqDK (K := K) rfl hr.units) (pe_fld (pv 0) rfl) (pe_fld (pv 1) rfl) (nomark _))))))))), ?_⟩
    have lc := lay_cls oc
    have ld := lay_cls od
    have mcl := lay_mds mc
    have mdl := lay_mds md
    have fin := q H (fun _ _ h => h)
    have exq : ∀ {e : Bool}, e = decide (c = d) → Q (.bl e) H := fun h => by rw [h]; exact fin
    refine ⟨_, rfl, b, dB, _, rfl, hB.at_, _, rfl, itbT rfl ?_⟩
    refine ⟨_, rfl, a, CC, dA, _, _, rfl, hA.at_, t.cl, t.nA, fc_age, _, rfl, b, CC, dB, _, _, rfl, hB.at_, t.cl, t.nA, fc_age, rfl, _, rfl, ?_⟩
    by_cases c1 : c.age = d.age
    · refine itbT (by rw [c1]; exact decide_eq_true rfl) ?_
      refine ⟨_, rfl, a, CC, dA, _, _, rfl, hA.at_, t.cl, t.nM, fc_mark, _, rfl, b, CC, dB, _, _, rfl, hB.at_, t.cl, t.nM, fc_mark, rfl, _, rfl, ?_⟩
      by_cases c2 : c.mr = d.mr
      · refine itbT (by rw [c2]; exact decide_eq_true rfl) ?_
        refine ⟨_, rfl, a, CC, dA, _, _, rfl, hA.at_, t.cl, t.nL, fc_let, _, rfl, b, CC, dB, _, _, rfl, hB.at_, t.cl, t.nL, fc_let, clsD c.ls, clsD d.ls, .tup hA.tl.st (hA.xs.dp (by have := lc.nd; exact this)), .tup hB.tl.st (hB.xs.dp (by have := ld.nd; exact this)), lc.sh, ld.sh, _, rfl, ?_⟩
        by_cases c3 : c.ls = d.ls
        · refine itbT (by rw [eqv_cls]; exact decide_eq_true c3) ?_
          refine ⟨_, rfl, a, CC, dA, _, _, rfl, hA.at_, t.cl, t.nD, fc_made, _, rfl, b, CC, dB, _, _, rfl, hB.at_, t.cl, t.nD, fc_made, mdsD c.md, mdsD d.md, .tup hA.tm.st (hA.ys.dp (by have := mcl.nd; exact this)), .tup hB.tm.st (hB.ys.dp (by have := mdl.nd; exact this)), mcl.sh, mdl.sh, ?_⟩
          refine exq ?_
          rw [eqv_mds]
          obtain ⟨a1, a2, a3, a4⟩ := c
          obtain ⟨b1, b2, b3, b4⟩ := d
          dsimp only at c1 c2 c3
          subst c1 c2 c3
          by_cases c4 : a4 = b4 <;> simp [c4]
        · refine itbF (by rw [eqv_cls]; exact decide_eq_false c3) (exq ?_)
          rw [decide_eq_false fun e => c3 (by rw [e])]
      · refine itbF (by exact decide_eq_false fun e => c2 (V.int.inj e)) (exq ?_)
        rw [decide_eq_false fun e => c2 (by rw [e])]
    · refine itbF (by exact decide_eq_false fun e => c1 (V.int.inj e)) (exq ?_)
      rw [decide_eq_false fun e => c1 (by rw [e])]
end
end K1
set_option Elab.async false
set_option linter.all false
set_option maxRecDepth 100000
set_option maxHeartbeats 4000000
/-! Copies that are changed; copy_of. -/
namespace K1
open PySem PySem.Spec PyProof.Rows L2 RZ StX
theorem tO_cl (l : CL) : tO (clD l) = true := by
  show (true && (true && (tOA (l.s.map PyData.str) && (tO (wD l.w) && true)))) = true
  rw [tO_strs, tO_w]; rfl
/-- x + y of two tuples -/
noncomputable def rCatM (K : PySem.W.Frag) : R2 := fun x y H Q => ∃ a b xs ys, x = V.ref a ∧ y = V.ref b ∧ MT K H a xs ∧ MT K H b ys ∧ xs.length + ys.length ≤ 2000 ∧ ∀ l H', Same H H' → MT K H' l (xs ++ ys) → Q (.ref l) H'
theorem op_catM {X : Cx} {K : PySem.W.Frag} (h : X.K = K) : OpR X (binaryOp .Add) (rCatM K) := by
  intro pins s σ H x y v u Q I rx ry ⟨a, b, xs, ys, e1, e2, ha, hb, hl, q⟩
  subst h
  refine op_catA pins s σ H x y v u Q I rx ry ⟨a, b, xs, ys, e1, e2, ha.st, hb.st, by have : sizeLine = sizeLine := rfl; exact Nat.le_trans hl (by decide), fun e => ?_, fun _ e => ?_, fun _ _ p np => q p _ (same_new np) (.inl upd_same)⟩
  · subst e; exact q b H (fun _ _ h => h) hb
  · subst e; exact q a H (fun _ _ h => h) (by rw [List.append_nil]; exact ha)
/-- a comprehension that makes what stays with the tuples -/
theorem lc_tu {J : It} {xs : List V} {Gd : Hp → Prop} (wk : Walk J xs.length Gd (YAt xs)) {α β : Type} {R : V → α → Prop} {ls : List α} (hA : A2 R xs ls) {H1 : Hp} {D : Addr} (hD : H1 D = none) (hG : ∀ G, Same H1 G → Gd G) (hl : xs.length ≤ 1000) (φ : α → Option β)
    (Pd : Hp → V → β → Prop) (mono : ∀ H G x b, TU H G → Pd H x b → Pd G x b) {g : TG} {tt : TT} {te : TE} {vs : List Nat} {σ : L2.St} {Qd : Hp → Prop}
    (hs : ∀ x a G (T : V → Hp → Prop) (S : Hp → Prop), R x a → a ∈ ls → Same H1 G → (∀ y b G', Same G G' → φ a = some b → Pd G' y b → T y G') → (∀ G', Same G G' → φ a = none → S G') → g x (wipe σ vs) G fun σ2 H2 => wipe σ2 vs = wipe σ vs ∧ tt σ2 H2 fun b H3 => if b = true then te σ2 H3 T else S H3)
    (hd : ∀ G acc, Same H1 G → G D = some (.lst acc) → A2 (Pd G) acc (ls.filterMap φ) → Qd G) :
    ∃ W : Nat → Nat → Hp → Prop, (∃ m, W 0 m (upd H1 D (.lst []))) ∧ ∀ i m H, W i m H →
      (J.stop i H ∧ Qd H) ∨ (J.go i H ∧ ∃ Nx : Hp → Prop, (∀ H', Nx H' → ∃ m', m' < m ∧ W (i + 1) m' H') ∧ ∀ x H', J.yld i H x H' → g x (wipe σ vs) H' fun σ2 H2 => wipe σ2 vs = wipe σ vs ∧ tt σ2 H2 fun b H3 =>
        if b = true then te σ2 H3 fun y H4 => ∃ acc, H4 D = some (.lst acc) ∧ acc.length < sizeLine ∧ Nx (upd H4 D (.lst (acc ++ [y]))) else Nx H3) := by
  refine lc_it wk (fun i G => Same H1 G ∧ ∃ acc, G D = some (.lst acc) ∧ acc.length ≤ i ∧ A2 (Pd G) acc ((ls.take i).filterMap φ)) ⟨same_new hD, [], upd_same, Nat.zero_le _, .nil⟩ (fun i G _ h => hG _ h.1) ?_ ?_
  · rintro i x G G' hi ⟨s1, acc, hacc, hla, ha⟩ ⟨rfl, hx⟩
    obtain ⟨a, hai, hR⟩ := hA.get hx
    refine hs x a G' _ _ hR (List.mem_of_getElem? hai) s1 (fun y b G2 s2 e o => ?_) fun G2 s2 e => ?_
    · have hacc2 := s2 _ _ hacc
      have tm : TU G2 (upd G2 D (.lst (acc ++ [y]))) := TU.mut hacc2 fun _ z => by cases z
      refine ⟨acc, hacc2, lt1 _ (by omega), (s1.trans s2).mut hD, _, upd_same, by rw [List.length_append]; show acc.length + 1 ≤ _; omega, ?_⟩
      rw [take_fm φ hai, e]
      exact (ha.imp fun _ _ h => mono _ _ _ _ ((TU.same s2).trans tm) h).app (.cons (mono _ _ _ _ tm o) .nil)
    · refine ⟨s1.trans s2, acc, s2 _ _ hacc, by omega, ?_⟩
      rw [take_fm φ hai, e]
      show A2 _ acc (_ ++ [])
      rw [List.append_nil]; exact ha.imp fun _ _ h => mono _ _ _ _ (TU.same s2) h
  · rintro G ⟨s1, acc, hacc, _, ha⟩
    refine hd G acc s1 hacc ?_
    rw [hA.len, List.take_length] at ha
    exact ha
structure MkCc (P : Program) (w : World) (K : PySem.W.Frag) (mg : Str → Option Value) (base : Heap) (CC E0' : Addr) : Prop where
  ex : ∃ (f : Addr) (fd : FuncData) (ds : List Value), Mk K CC f ∧ Binds K fd nCI [] ∧ Binds K fd nCI ds ∧ Vals [.ref E0'] ds ∧ FnOk P w K mg base CX0 4 f fd nCI (spCI K CC)
  emp : KEmp K E0'
section
variable {X : Cx} {CC E0' : Addr} {e : Expr} {es : List Expr} {t : TA} {p pos : Pos}
theorem pe_newC4 (D : MkCc X.prog X.w X.K X.mg X.base CC E0') (gC : X.mg "Copy" = some (.ref CC)) (hr : Room 5 X.A) (hg : Gl X "Copy") (ha : PA X (e :: es) t)
    (he : starEach (e :: es) X.env = (false, eval e X.env) :: starEach es X.env := by rfl) (hpl : (backTo pos (starEach es X.env)).any (·.1) = false := by rfl) : PE X (.Call (.Name "Copy" p) (e :: es) [] pos) (tMake CC (spCI X.K CC) [] E0 t) := by
  obtain ⟨f, fd, ds, hm, hb, _, _, F⟩ := D.ex
  exact pe_make hm F hr hg gC hb .nil pass0 ha (he := he) (hpl := hpl)
theorem pe_newC3 (D : MkCc X.prog X.w X.K X.mg X.base CC E0') (gC : X.mg "Copy" = some (.ref CC)) (hr : Room 5 X.A) (hg : Gl X "Copy") (ha : PA X (e :: es) t)
    (he : starEach (e :: es) X.env = (false, eval e X.env) :: starEach es X.env := by rfl) (hpl : (backTo pos (starEach es X.env)).any (·.1) = false := by rfl) : PE X (.Call (.Name "Copy" p) (e :: es) [] pos) (tMake CC (spCI X.K CC) [.ref E0'] E0 t) := by
  obtain ⟨f, fd, ds, hm, _, hb, hv, F⟩ := D.ex
  exact pe_make hm F hr hg gC hb hv pass0 ha (he := he) (hpl := hpl)
end
/-- what the making of a copy asks -/
theorem newC {K : PySem.W.Frag} {CC la ma : Addr} {H : Hp} {age mr : Int} {xs ys : List V} {ls : List CL} {md : List (Int × List Str)} {Q : VK} {vs : List V} {dvs : List V} (e : vs ++ dvs = [.int age, .int mr, .ref la, .ref ma]) (ha : 1 ≤ age) (hm : 0 ≤ mr) (hS : SqK K H la xs) (hA : DvA H xs (ls.map clD)) (okl : OkLs ls) (hM : SqK K H ma ys) (hB : DvA H ys (md.map mdD)) (okm : OkMs md)
    (q : ∀ x H', Same H H' → H x = none → CpAt K CC H' x ⟨age, mr, ls, md⟩ → Q (.ref x) H') : ∀ x dx, H x = none → H dx = none → dx ≠ x → spCI K CC (.ref x :: (vs ++ dvs)) (upd (upd H dx (.own x)) x (.ins CC dx [])) (fun v H2 => v = .non ∧ Q (.ref x) H2) E0 := by
  intro x dx nx ndx hne
  have s1 : Same H (upd (upd H dx (.own x)) x (.ins CC dx [])) := fun b o hb => by
    rw [upd_ne (ne_of_none hb nx), upd_ne (ne_of_none hb ndx)]; exact hb
  refine ⟨x, dx, la, ma, age, mr, xs, ys, ls, md, by rw [e], upd_same, ha, hm, hS.ext (LamX.ExtN.of s1), hA.same s1, okl, hM.ext (LamX.ExtN.of s1), hB.same s1, okm, fun H' tl tm e' h => ⟨rfl, ?_⟩⟩
  exact q x H' (fun b o hb => e' _ _ (ne_of_none hb nx) (s1 _ _ hb)) nx ⟨dx, tl, tm, xs, ys, h⟩
noncomputable def setW (n : Int) (w : Option (List Str)) (l : CL) : CL := if l.n = n then { l with w := w } else l
noncomputable def cpW (c : Cp) (n : Int) (w : Option (List Str)) : Cp := { c with ls := c.ls.map (setW n w) }
noncomputable def cpM (c : Cp) (b : Int) (ss : List Str) : Cp := { c with md := c.md ++ [(b, ss)] }
theorem setW_n (n : Int) (w : Option (List Str)) (l : CL) : (setW n w l).n = l.n := by unfold setW; split <;> rfl
theorem map_setW (n : Int) (w : Option (List Str)) (ls : List CL) : (ls.map (setW n w)).map (·.n) = ls.map (·.n) := by
  rw [List.map_map]; exact List.map_congr_left fun l _ => setW_n n w l
theorem okLs_W {ls : List CL} {n : Int} {w : Option (List Str)} (h : OkLs ls) (hw : ∀ ss, w = some ss → OkSs ss) : OkLs (ls.map (setW n w)) := by
  refine ⟨fun l hl => ?_, by rw [map_setW]; exact h.up, by rw [List.length_map]; exact h.len⟩
  obtain ⟨x, hx, rfl⟩ := List.mem_map.mp hl
  have o := h.ok x hx
  unfold setW
  split
  · exact ⟨o.n, o.b, o.s, hw⟩
  · exact o
theorem okCp_W {c : Cp} {n : Int} {w : Option (List Str)} (h : OkCp c) (hw : ∀ ss, w = some ss → OkSs ss) : OkCp (cpW c n w) := ⟨h.age, h.mr, okLs_W h.ls hw, h.md⟩
theorem okCp_M {c : Cp} {b : Int} {ss : List Str} (h : OkCp c) (hb : 0 ≤ b) (hs : OkSs ss) (hl : c.md.length < 900) : OkCp (cpM c b ss) :=
  ⟨h.age, h.mr, h.ls, fun m hm => (List.mem_append.mp hm).elim (h.md.ok m) fun z => by rw [List.mem_singleton.mp z]; exact ⟨hb, hs⟩, by show (c.md ++ _).length ≤ 900; rw [List.length_append]; show c.md.length + 1 ≤ 900; omega⟩
noncomputable abbrev sCWt : Stmt := mC 6
noncomputable abbrev sCDr : Stmt := mC 7
noncomputable abbrev sCMk : Stmt := mC 8
noncomputable abbrev sCCk : Stmt := mC 9
noncomputable abbrev sCWW : Stmt := mC 10
noncomputable abbrev sCo : Stmt := st_copy_of
noncomputable abbrev sCf : Stmt := st__check_folder
noncomputable abbrev nCWt : List Str := ["self", "number", "signs"]
theorem scCWt : FnScope nCWt nCWt (defScope sCWt) := ⟨rfl, rfl, rfl, by decide +kernel, rfl, by decide +kernel, by decide +kernel⟩
noncomputable abbrev nCDr : List Str := ["self", "number"]
theorem scCDr : FnScope nCDr nCDr (defScope sCDr) := ⟨rfl, rfl, rfl, by decide +kernel, rfl, by decide +kernel, by decide +kernel⟩
noncomputable abbrev nCMk : List Str := ["self", "body", "signs"]
theorem scCMk : FnScope nCMk nCMk (defScope sCMk) := ⟨rfl, rfl, rfl, by decide +kernel, rfl, by decide +kernel, by decide +kernel⟩
noncomputable abbrev nCCk : List Str := ["self", "number", "letter"]
theorem scCCk : FnScope nCCk nCDr (defScope sCCk) := ⟨rfl, rfl, rfl, by decide +kernel, rfl, by decide +kernel, by decide +kernel⟩
noncomputable abbrev nCWW : List Str := ["self", "number", "wanted", "rows", "row"]
noncomputable abbrev pCWW : List Str := ["self", "number", "wanted"]
theorem scCWW : FnScope nCWW pCWW (defScope sCWW) := ⟨rfl, rfl, rfl, by decide +kernel, rfl, by decide +kernel, by decide +kernel⟩
noncomputable abbrev nCo : List Str := ["folder", "rows", "number", "body", "signs", "_"]
noncomputable abbrev pCo : List Str := ["folder"]
theorem scCo : FnScope nCo pCo (defScope sCo) := ⟨rfl, rfl, rfl, by decide +kernel, rfl, by decide +kernel, by decide +kernel⟩
theorem scCf : FnScope pCo pCo (defScope sCf) := ⟨rfl, rfl, rfl, by decide +kernel, rfl, by decide +kernel, by decide +kernel⟩
noncomputable def spWW (K : PySem.W.Frag) (CC : Addr) : Sp := fun vs H Q _ => ∃ (p : Addr) (n : Int) (wv : V) (c : Cp) (wo : Option (List Str)), vs = [.ref p, .int n, wv] ∧ CpAt K CC H p c ∧ OkCp c ∧ WV H wv wo ∧ (∀ ss, wo = some ss → OkSs ss) ∧ ∀ q H', Same H H' → H q = none → CpAt K CC H' q (cpW c n wo) → Q (.ref q) H'
noncomputable def spMkg (K : PySem.W.Frag) (CC : Addr) : Sp := fun vs H Q _ => ∃ (p : Addr) (b : Int) (sa : Addr) (c : Cp) (ss : List Str), vs = [.ref p, .int b, .ref sa] ∧ CpAt K CC H p c ∧ OkCp c ∧ 0 ≤ b ∧ H sa = some (.tup (ss.map V.str)) ∧ OkSs ss ∧ c.md.length < 900 ∧ ∀ q H', Same H H' → H q = none → CpAt K CC H' q (cpM c b ss) → Q (.ref q) H'
noncomputable def spCf (C : Addr) : Sp := fun vs H Q _ => ∃ (p : Addr) (F : Fo), vs = [.ref p] ∧ FoAt C H p F ∧ Q .non H
noncomputable def clF (l : Lt) : CL := ⟨l.n, l.b, l.s, some l.s⟩
noncomputable def cpF (F : Fo) : Cp := ⟨F.age, F.mr, F.ls.map clF, []⟩
theorem okCp_F {k : Nat} {F : Fo} (hk : k ≤ 900) (h : GA k F) : OkCp (cpF F) := by
  refine ⟨h.g.wf.age, h.g.mr.1, ⟨fun l hl => ?_, ?_, ?_⟩, ⟨fun m hm => (by cases hm), Nat.zero_le _⟩⟩
  · obtain ⟨x, hx, rfl⟩ := List.mem_map.mp hl
    have i := h.g.it x hx
    have s := h.g.wf.sg x hx
    exact ⟨i.1, i.2.2, s, fun ss e => by rw [← Option.some.inj e]; exact s⟩
  · show ((F.ls.map clF).map (·.n)).Pairwise _
    rw [List.map_map]; exact h.a.up
  · have := h.g.wf.len
    show (F.ls.map clF).length ≤ 900
    rw [List.length_map]; omega
noncomputable def spCo (K : PySem.W.Frag) (C CC : Addr) : Sp := fun vs H Q _ => ∃ (p : Addr) (F : Fo) (k : Nat), vs = [.ref p] ∧ FoAt C H p F ∧ GA k F ∧ k ≤ 900 ∧ ∀ q H', Same H H' → H q = none → CpAt K CC H' q (cpF F) → Q (.ref q) H'
section
variable {P : Program} {w : World} {K : PySem.W.Frag} {mg : Str → Option Value} {base : Heap} {C CC E0' : Addr}
set_option maxHeartbeats 8000000 in
theorem ok_ww {f : Addr} {fd : FuncData} (T : Bk mg) (t : CcT K mg CC) (D_new : MkCc P w K mg base CC E0') (F : Fun K "_with_wanted" "Copy._with_wanted" sCWW f fd) : FnOk P w K mg base CX0 6 f fd pCWW (spWW K CC) := by
  have nd := scCWW.nd
  refine F.ok scCWW (fun vs H Q E h => ?_) (fun cdv A outer s H vs Q E hr h => ?_)
  · obtain ⟨p, n, wv, c, wo, rfl, _⟩ := h
    rfl
  · obtain ⟨p, n, wv, c, wo, rfl, hc, ok, hw, ow, q⟩ := h
    refine ⟨_, (pss_cons (ps_setLc (i := 3) (own := [("row", 4)]) (g := gName 4) (tt := tYes) rfl nd rfl rfl (sw_true rfl rfl rfl (by decide +kernel)) (pi_tupK (K := K) rfl (pe_fld (pv 0) rfl)) (blkOk_by (own := [("row", 4)]) (N := nCWW) (sc := defScope sCWW) (by decide +kernel)) (fun _ _ _ _ _ => pg_name (i := 4) nd rfl (Or.inl rfl)) (fun _ _ _ _ _ => pts_nil) (fun _ _ _ _ _ => (pe_ifExp (pt_cmpR op_eq (pe_ix (ix_tupK (K := K) rfl) (pv 4) pe_int (fun _ _ => rfl)) (pv 1) (nomark _)) (pe_op (op_catM (K := K) rfl) (pe_slice (sl_tupAK (K := K) rfl) (pv 4) po_none (po_some pe_int)) (pe_tup (pa_cons (pv 2) pa_nil))) (pv 4))))
 (pss_one (ps_ret (pe_newC4 D_new t.gC (hr.mono (by decide)) rfl (pa_cons (pe_fld (pv 0) rfl) (pa_cons (pe_fld (pv 0) rfl) (pa_cons (pv 3) (pa_cons (pe_fld (pv 0) rfl) pa_nil)))))))), ?_⟩
    obtain ⟨dx, tl, tm, xs, ys, h⟩ := id hc
    have lx := h.xs.len
    rw [List.length_map] at lx
    have lm := ok.ls.len
    refine ⟨_, rfl, p, CC, dx, _, _, rfl, h.at_, t.cl, t.nL, fc_let, tl, rfl, ⟨_, h.tl.st⟩, fun D nD => ?_⟩
    refine lc_tu (walk_tup (K := K)) (a2_of h.xs) nD (fun G s => (h.tl.tu (TU.same s)).st) (by omega) (fun l => some (setW n wo l)) (fun G x l => Dv G x (clD l)) (fun H G x b t h => h.tu t (tO_cl b)) ?_ ?_
    · rintro x l G T' S' hx hm s1 hT hS
      obtain ⟨ta, sa, lv, rfl, hta, hsa, hlw⟩ := dv_cl (hx.same s1)
      refine ⟨rfl, tyes ⟨_, rfl, ta, _, 0, .int l.n, rfl, rfl, st hta, atI_nat (j := 0) rfl, _, rfl, rfl, _, rfl, ?_⟩⟩
      by_cases c1 : l.n = n
      · refine itbT (by rw [c1]; exact decide_eq_true rfl) ?_
        refine ⟨_, rfl, 3, rfl, slA_go hta fun b G2 s2 hb => ?_⟩
        have eb : cutV [V.int l.n, V.int l.b, V.ref sa, lv] none (some 3) = [.int l.n, .int l.b, .ref sa] := cut_take _ 3
        rw [eb] at hb
        refine ⟨_, rfl, by show 1 ≤ sizeLine; decide, fun U nU => ?_⟩
        have sU := same_new nU (o := .tup [wv])
        refine ⟨b, U, _, _, rfl, rfl, .inl (sU _ _ hb), .inl upd_same, by show 3 + 1 ≤ 2000; decide, fun r G3 s3 hr3 => ?_⟩
        have hr4 : G3 r = some (.tup [.int l.n, .int l.b, .ref sa, wv]) := hr3.elim id fun z => by cases z.1
        have s23 := (s2.trans sU).trans s3
        refine hT _ (setW n wo l) G3 s23 rfl ?_
        have e : setW n wo l = { l with w := wo } := if_pos c1
        rw [e]
        exact cl_dv (l := { l with w := wo }) hr4 (s23 _ _ hsa) (hw.tu ((TU.same s1).trans (TU.same s23)))
      · refine itbF (decide_eq_false fun e => c1 (V.int.inj e)) ?_
        refine ⟨_, rfl, hT _ (setW n wo l) G (fun _ _ h => h) rfl ?_⟩
        have e : setW n wo l = l := if_neg c1
        rw [e]; exact hx.same s1
    · intro G acc s1 hacc hA
      have ef : c.ls.filterMap (fun l => some (setW n wo l)) = c.ls.map (setW n wo) := by rw [← List.filterMap_eq_map]; rfl
      rw [ef] at hA
      have h' := s1 _ _ h.at_
      refine name_go' ?_
      refine ⟨_, rfl, p, CC, dx, _, _, rfl, h', t.cl, t.nA, fc_age, _, rfl, p, CC, dx, _, _, rfl, h', t.cl, t.nM, fc_mark, _, rfl, _, rfl, p, CC, dx, _, _, rfl, h', t.cl, t.nD, fc_made, ?_⟩
      exact newC rfl ok.age ok.mr (.inl (.inl hacc)) (of_a2 hA) (okLs_W ok.ls ow) (h.tm.tu (TU.same s1)).sq (h.ys.same s1) ok.md fun x H' s2 nx hx => q x H' (s1.trans s2) (s1.free nx) hx
theorem ok_mkg {f : Addr} {fd : FuncData} (t : CcT K mg CC) (D_new : MkCc P w K mg base CC E0') (D_is_body : Def P w K mg base CX0 2 "is_body" pV spBody) (D_is_signs : Def P w K mg base CX0 2 "is_signs" pV spSigns) (F : Fun K "making" "Copy.making" sCMk f fd) : FnOk P w K mg base CX0 6 f fd nCMk (spMkg K CC) := by
  refine F.ok scCMk (fun vs H Q E h => ?_) (fun cdv A outer s H vs Q E hr h => ?_)
  · obtain ⟨p, b, sa, c, ss, rfl, _⟩ := h
    rfl
  · obtain ⟨p, b, sa, c, ss, rfl, hc, ok, hb, hs, os, hl, q⟩ := h
    refine ⟨_, (pss_cons (ps_if (pt_not (pt_val (pe_def D_is_body (hr.mono (by decide)) rfl pass0 (pa_cons (pv 1) pa_nil)))) pss_any pss_nil)
 (pss_cons (ps_if (pt_not (pt_val (pe_def D_is_signs (hr.mono (by decide)) rfl pass0 (pa_cons (pv 2) pa_nil)))) pss_any pss_nil)
 (pss_one (ps_ret (pe_newC4 D_new t.gC (hr.mono (by decide)) rfl (pa_cons (pe_fld (pv 0) rfl) (pa_cons (pe_fld (pv 0) rfl) (pa_cons (pe_fld (pv 0) rfl) (pa_cons (pe_op (op_catM (K := K) rfl) (pe_fld (pv 0) rfl) (pe_tup (pa_cons (pe_tup (pa_cons (pv 1) (pa_cons (pv 2) pa_nil))) pa_nil))) pa_nil))))))))), ?_⟩
    refine ⟨_, rfl, b, rfl, hb, _, rfl, itbF rfl ?_⟩
    refine ⟨_, rfl, sa, ss, rfl, hs, okss os, fun H1 s1 => ⟨_, rfl, itbF rfl ?_⟩⟩
    obtain ⟨dx, tl, tm, xs, ys, h⟩ := id hc
    have h1 := s1 _ _ h.at_
    have ly := h.ys.len
    rw [List.length_map] at ly
    refine ⟨_, rfl, p, CC, dx, _, _, rfl, h1, t.cl, t.nA, fc_age, _, rfl, p, CC, dx, _, _, rfl, h1, t.cl, t.nM, fc_mark, _, rfl, p, CC, dx, _, _, rfl, h1, t.cl, t.nL, fc_let, _, rfl, p, CC, dx, _, _, rfl, h1, t.cl, t.nD, fc_made, _, rfl, _, rfl, by show 2 ≤ sizeLine; decide, fun U nU => ⟨by show 1 ≤ sizeLine; decide, fun W nW => ?_⟩⟩
    have sU := same_new nU (o := .tup [.int b, .ref sa])
    have sW := same_new nW (o := .tup [.ref U])
    have s3 := (s1.trans sU).trans sW
    refine ⟨tm, W, ys, [.ref U], rfl, rfl, h.tm.tu (TU.same s3), .inl upd_same, by show ys.length + 1 ≤ 2000; omega, fun m H4 s4 hm => ?_⟩
    have s14 := s3.trans s4
    refine newC (K := K) rfl ok.age ok.mr (xs := xs) (ls := c.ls) (h.tl.tu (TU.same s14)).sq (h.xs.same s14) ok.ls (ys := ys ++ [.ref U]) (md := c.md ++ [(b, ss)]) hm.sq ?_ (okCp_M ok hb os hl).md fun x H' s5 nx hx => q x H' (s14.trans s5) (s14.free nx) hx
    · rw [List.map_append]
      exact (h.ys.same s14).app (.cons (md_dv (m := (b, ss)) (s4 _ _ (sW _ _ upd_same)) (s14 _ _ hs)) .nil)
theorem ok_cf {f : Addr} {fd : FuncData} (T : Bk mg) (t : ClT K mg C) (iC : C8.InsC K C) (F : Fun K "_check_folder" "_check_folder" sCf f fd) : FnOk P w K mg base CX0 1 f fd pCo (spCf C) := by
  refine F.ok scCf (fun vs H Q E h => ?_) (fun cdv A outer s H vs Q E hr h => ?_)
  · obtain ⟨p, F, rfl, _⟩ := h
    rfl
  · obtain ⟨p, F, rfl, ⟨dx, tl, tg, hp, _⟩, q⟩ := h
    refine ⟨_, (pss_one (ps_if (pt_not (pt_val (pe_callB (C8.call_isC iC) (by rfl) T.isinstance PyProof.Rows.boot_isinstance (pa_cons (pv 0) (pa_cons (pe_glob (v := .ref C) rfl t.gC rfl) pa_nil))))) pss_any pss_nil)), ?_⟩
    exact ⟨_, rfl, p, dx, _, rfl, hp, _, rfl, itbF rfl q⟩
end
end K1
set_option Elab.async false
set_option linter.all false
set_option maxRecDepth 100000
set_option maxHeartbeats 2000000
namespace K1
open PySem PySem.Spec PyProof.Rows L2 RZ StX
/-! the other readers -/
noncomputable abbrev sAge : Stmt := mS 2
noncomputable abbrev sCut : Stmt := mS 7
theorem scAge : FnScope nSelf nSelf (defScope sAge) := ⟨rfl, rfl, rfl, by decide +kernel, rfl, by decide +kernel, by decide +kernel⟩
theorem scCut : FnScope nSelf nSelf (defScope sCut) := ⟨rfl, rfl, rfl, by decide +kernel, rfl, by decide +kernel, by decide +kernel⟩
noncomputable def spAge (C : Addr) : Sp := fun vs H Q _ => ∃ (p : Addr) (F : Fo), vs = [.ref p] ∧ FoAt C H p F ∧ Q (.int F.age) H
noncomputable def spCut (C : Addr) : Sp := fun vs H Q _ => ∃ (p : Addr) (F : Fo), vs = [.ref p] ∧ FoAt C H p F ∧ Q (.int F.ct) H
section
variable {P : Program} {w : World} {K : PySem.W.Frag} {mg : Str → Option Value} {base : Heap} {C : Addr}
theorem ok_age {f : Addr} {fd : FuncData} (t : ClT K mg C) (F : Fun K "age" "Folder.age" sAge f fd) : FnOk P w K mg base CX0 1 f fd nSelf (spAge C) := by
  refine F.ok scAge (fun vs H Q E h => ?_) (fun cdv A outer s H vs Q E hr h => ?_)
  · obtain ⟨p, F, rfl, _⟩ := h
    rfl
  · obtain ⟨p, F, rfl, ⟨dx, tl, tg, hp, h1, h2⟩, q⟩ := h
    exact ⟨_, pss_one (ps_ret (pe_fld (pv 0) rfl)), ⟨_, rfl, p, C, dx, _, _, rfl, hp, t.cl, t.nA, fl_age, q⟩⟩
theorem ok_cut {f : Addr} {fd : FuncData} (t : ClT K mg C) (F : Fun K "cut" "Folder.cut" sCut f fd) : FnOk P w K mg base CX0 1 f fd nSelf (spCut C) := by
  refine F.ok scCut (fun vs H Q E h => ?_) (fun cdv A outer s H vs Q E hr h => ?_)
  · obtain ⟨p, F, rfl, _⟩ := h
    rfl
  · obtain ⟨p, F, rfl, ⟨dx, tl, tg, hp, h1, h2⟩, q⟩ := h
    exact ⟨_, pss_one (ps_ret (pe_fld (pv 0) rfl)), ⟨_, rfl, p, C, dx, _, _, rfl, hp, t.cl, t.nC, fl_cut, q⟩⟩
end
end K1
set_option Elab.async false
set_option linter.all false
set_option maxRecDepth 100000
set_option maxHeartbeats 4000000
namespace K1
open PySem PySem.Spec PyProof.Rows L2 RZ StX
section
variable {P : Program} {w : World} {K : PySem.W.Frag} {mg : Str → Option Value} {base : Heap} {C CC E0' : Addr}
set_option maxHeartbeats 8000000 in
theorem ok_co {f : Addr} {fd : FuncData} (T : Bk mg) (t : ClT K mg C) (tc : CcT K mg CC) (D_new : MkCc P w K mg base CC E0') (D_cf : Def P w K mg base CX0 1 "_check_folder" pCo (spCf C)) (M_letters : MDef P w K mg base CX0 1 C "letters" nSelf (spLetters C)) (M_age : MDef P w K mg base CX0 1 C "age" nSelf (spAge C)) (M_mark : MDef P w K mg base CX0 1 C "mark" nSelf (spMark C))
    (F : Fun K "copy_of" "copy_of" sCo f fd) : FnOk P w K mg base CX0 6 f fd pCo (spCo K C CC) := by
  have nd := scCo.nd
  refine F.ok scCo (fun vs H Q E h => ?_) (fun cdv A outer s H vs Q E hr h => ?_)
  · obtain ⟨p, F, k, rfl, _⟩ := h
    rfl
  · obtain ⟨p, F, k, rfl, hF, ga, hk, q⟩ := h
    refine ⟨_, (pss_cons (ps_expr (pe_def D_cf (hr.mono (by decide)) rfl pass0 (pa_cons (pv 0) pa_nil)))
 (pss_cons (ps_setLc (i := 1) (own := [("number", 2), ("body", 3), ("signs", 4), ("_", 5)]) (g := gTup K 4 (gCons (gName 2) (gCons (gName 3) (gCons (gName 4) (gCons (gName 5) gNil))))) (tt := tYes) rfl nd rfl rfl (sw_true rfl rfl rfl (by decide +kernel)) (pi_listK (K := K) rfl (pe_mdef0 M_letters t.cl (hr.mono (by decide)) pass0 (pv 0))) (blkOk_by (own := [("number", 2), ("body", 3), ("signs", 4), ("_", 5)]) (N := nCo) (sc := defScope sCo) (by decide +kernel)) (fun _ _ _ _ _ => pg_tup rfl (pgs_cons (pg_name (i := 2) nd rfl (Or.inl rfl)) (pgs_cons (pg_name (i := 3) nd rfl (Or.inl rfl)) (pgs_cons (pg_name (i := 4) nd rfl (Or.inl rfl)) (pgs_cons (pg_name (i := 5) nd rfl (Or.inl rfl)) pgs_nil))))) (fun _ _ _ _ _ => pts_nil) (fun _ _ _ _ _ => (pe_tup (pa_cons (pv 2) (pa_cons (pv 3) (pa_cons (pv 4) (pa_cons (pv 4) pa_nil)))))))
 (pss_one (ps_ret (pe_newC3 D_new tc.gC (hr.mono (by decide)) rfl (pa_cons (pe_mdef0 M_age t.cl (hr.mono (by decide)) pass0 (pv 0)) (pa_cons (pe_mdef0 M_mark t.cl (hr.mono (by decide)) pass0 (pv 0)) (pa_cons (pv 1) pa_nil)))))))), ?_⟩
    obtain ⟨dx, tl, tg, hp, _⟩ := id hF
    have wl := ga.g.wf.len
    refine ⟨_, rfl, p, F, rfl, hF, ?_⟩
    refine ⟨_, rfl, p, dx, _, rfl, hp, fl_no (by decide +kernel), p, F, rfl, hF, fun l0 G0 s0 nl0 hl => ?_⟩
    obtain ⟨ys, hl0, dys⟩ := Dv.lsts hl
    have ylen := dys.len
    rw [List.length_map] at ylen
    refine ⟨l0, rfl, ⟨_, sq hl0⟩, fun D nD => ?_⟩
    refine lc_tu (walk_list (K := K)) (a2_of dys) nD (fun G s => sq (s _ _ hl0)) (by omega) (fun l => some (clF l)) (fun G x l => Dv G x (clD l)) (fun H G x b t h => h.tu t (tO_cl b)) ?_ ?_
    · rintro x l G T' S' hx hm s1 hT hS
      obtain ⟨ta, sa, rfl, hta, hsa⟩ := dv_lt hx
      refine ⟨ta, _, rfl, st (s1 _ _ hta), rfl, _, _, rfl, _, _, rfl, _, _, rfl, _, _, rfl, rfl, rfl, tyes ⟨_, rfl, _, rfl, _, rfl, _, rfl, by show 4 ≤ sizeLine; decide, fun U nU => ?_⟩⟩
      have sU := same_new nU (o := .tup [.int l.n, .int l.b, .ref sa, .ref sa])
      have hs := (s1.trans sU) _ _ hsa
      exact hT _ (clF l) _ sU rfl (cl_dv (l := clF l) upd_same hs ⟨sa, rfl, hs⟩)
    · intro G acc s1 hacc hA
      have ef : F.ls.filterMap (fun l => some (clF l)) = F.ls.map clF := by rw [← List.filterMap_eq_map]; rfl
      rw [ef] at hA
      have s01 := s0.trans s1
      have hF1 := hF.same s01
      have ok := okCp_F hk ga
      refine name_go' ?_
      refine ⟨_, rfl, p, dx, _, rfl, s01 _ _ hp, fl_no (by decide +kernel), p, F, rfl, hF1, _, rfl, p, dx, _, rfl, s01 _ _ hp, fl_no (by decide +kernel), p, F, rfl, hF1, _, rfl, ?_⟩
      exact newC (K := K) (age := F.age) (mr := F.mr) (la := D) (ma := E0') (ys := []) (md := []) rfl ok.age ok.mr (.inl (.inl hacc)) (of_a2 hA) ok.ls (.inr ⟨rfl, D_new.emp⟩) .nil ok.md fun x H' s2 nx hx => q x H' (s01.trans s2) (s01.free nx) hx
end
end K1
set_option Elab.async false
set_option linter.all false
set_option maxRecDepth 100000
/-! != of two tuples whose items are equal, be it by an own == : False. -/
set_option Elab.async false
set_option linter.all false
set_option maxRecDepth 100000
set_option maxHeartbeats 4000000
namespace K1
open PySem PySem.Spec PyProof.Rows L2 RZ StX
/-- name = {k: v for ..} on one line, the name a local, keys ints or strings -/
theorem ps_setDcK {X : Cx} {i : Nat} {y : Str} {py : Pos} {kx vx tg iter : Expr} {ifs : List Expr} {scope : Scope} {own : List (Str × Nat)} {pos spos : Pos} {wi : TI} {g : TG} {tt : TT} {tk tv : TE} (calm : X.calm = true) (hN : X.N.Nodup) (hy : X.N[i]? = some y) (hyl : X.env.scope.names.lookup y = some .local)
    (hsw : swapsWith (.DictComp kx vx [⟨tg, iter, ifs, 0⟩] scope pos) (some (.Name y py)) spos.line X.env = pure true) (hi : PI X tg iter wi) (ok : BlkOk X.N X.env.scope scope own)
    (hg : ∀ (s : Shared) (G : Hp) (C : Addr) (cl : List (Str × Addr)) (fp : List Addr), PG (X.blk s G scope (compEnvC scope cl C X.env) fp) tg g) (ht : ∀ (s : Shared) (G : Hp) (C : Addr) (cl : List (Str × Addr)) (fp : List Addr), PTs (X.blk s G scope (compEnvC scope cl C X.env) fp) ifs tt)
    (hk : ∀ (s : Shared) (G : Hp) (C : Addr) (cl : List (Str × Addr)) (fp : List Addr), PE (X.blk s G scope (compEnvC scope cl C X.env) fp) kx tk) (hv : ∀ (s : Shared) (G : Hp) (C : Addr) (cl : List (Str × Addr)) (fp : List Addr), PE (X.blk s G scope (compEnvC scope cl C X.env) fp) vx tv)
    (hs : ∀ x, foldedSetIterable iter X.env x = pure x := by intro _; rfl) : PS X (.Assign [.Name y py] (.DictComp kx vx [⟨tg, iter, ifs, 0⟩] scope pos) spos) (tAsg (tDc wi g tt tk tv (own.map (·.2))) (gName i)) := by
  refine ⟨fun pins s σ H D I h => ?_⟩
  rw [exec_Assign_Name_used _ _ _ _ hsw]
  refine wpAny_bind (wpAny_standAt (wpAny_bind ?_)); show wpAny _ X.A (do let _ ← comprehension (.DictComp kx vx [⟨tg, iter, ifs, 0⟩] scope pos) scope X.env (firstIterPos [⟨tg, iter, ifs, 0⟩] pos) newDict false (eval iter X.env) (some (assign (.Name y py) X.env))) _ _ s
  have h : tDc wi g tt tk tv (own.map (·.2)) σ H (fun x G => gName i x σ G D.nx) := h
  refine wpAny_bind (thn (dc_core (Qf := fun _ s' => SP X pins D .next s') calm hN I hi ok hg ht hk hv hs h fun L C s' m G I' q hn ⟨k0, k1, k2, k3, k4, k5⟩ => ?_) fun _ s' z => wpAny_pure (wpAny_pure z))
  show wpAny _ _ (assign (.Name y py) X.env (.ref L)) _ _ _; refine wpAny_assign_Name (store_ok2 (v := V.ref L) I' hN hy (.inl hyl) rfl (fun s2 I2 ⟨a, sb, ha⟩ => ?_) (.inr hyl))
  have apart : C ≠ a := ha.elim (fun z => by rw [z]; exact k1) fun z e => k4 y a z e.symm
  exact ⟨m, hn.sameBut sb apart, fun h3 sb3 => ⟨_, G, I2.turned (t' := s2.toks) (fun b o hb z => (sb3.2 b hb).trans z) k0 k1 k3 k4 k5, q⟩⟩
theorem sw_trueD {kx vx : Expr} {gs : List Comprehension} {scope : Scope} {pos py : Pos} {y : Str} {l : Nat} {env : Env} (hk : env.scope.kind = .function) (hy : env.scope.names.lookup y = some .local) (hl : (py.line == pos.line) = true)
    (ha : (scope.names.any fun (n, k) => n == y && (k == .local || k == .cell)) = false) : swapsWith (.DictComp kx vx gs scope pos) (some (.Name y py)) l env = pure true := by
  have e1 : env.kindOf y = some .local := hy
  have e2 : env.blockKind = .function := by unfold Env.blockKind; rw [hk]; rfl
  unfold swapsWith
  simp only [e2, e1, ha, Expr.pos, hl]; rfl
end K1
set_option Elab.async false
set_option linter.all false
set_option maxRecDepth 100000
set_option maxHeartbeats 4000000
/-! What k33's texts have for every law with copies. -/
namespace K1
open PySem PySem.Spec PyProof.Rows L2 RZ StX
/-- tuples and instances stay -/
structure TI (H G : Hp) : Prop where
  t : TU H G
  i : ∀ b C dx fs, H b = some (.ins C dx fs) → G b = some (.ins C dx fs)
theorem TI.same {H G : Hp} (s : Same H G) : TI H G := ⟨TU.same s, fun b C dx fs h => s _ _ h⟩
theorem TI.en {H G : Hp} (s : LamX.ExtN H G) : TI H G := ⟨TU.ext s, fun b C dx fs h => s _ _ h fun _ z => by cases z⟩
theorem TI.trans {H G J : Hp} (a : TI H G) (b : TI G J) : TI H J := ⟨a.t.trans b.t, fun c C dx fs h => b.i _ _ _ _ (a.i _ _ _ _ h)⟩
theorem TI.w {p : Addr} {H G : Hp} (w : WellAt H p) (e : Ext p H G) : TI H G := ⟨TU.w w e, fun b C dx fs h => e _ _ (fun z => by
  obtain ⟨c, m, t, k⟩ := w
  rw [z, k] at h; cases h) h⟩
theorem TI.mut {H : Hp} {D : Addr} {o u : HO} (hD : H D = some o) (h1 : ∀ xs, o ≠ .tup xs) (h2 : ∀ C dx fs, o ≠ .ins C dx fs) : TI H (upd H D u) :=
  ⟨TU.mut hD h1, fun b C dx fs h => by rw [upd_ne (fun z => by rw [z, hD] at h; exact h2 _ _ _ (Option.some.inj h))]; exact h⟩
theorem CpAt.ti {K : PySem.W.Frag} {CC p : Addr} {H H' : Hp} {c : Cp} (h : CpAt K CC H p c) (s : TI H H') : CpAt K CC H' p c := by
  obtain ⟨dx, tl, tm, xs, ys, h⟩ := h
  exact ⟨dx, tl, tm, xs, ys, s.i _ _ _ _ h.at_, h.tl.tu s.t, h.xs.tu s.t (tO_cls _), h.tm.tu s.t, h.ys.tu s.t (tO_mds _)⟩
theorem FoAt.ti {C p : Addr} {H H' : Hp} {F : Fo} (h : FoAt C H p F) (s : TI H H') : FoAt C H' p F := by
  obtain ⟨dx, tl, tg, a, b, c⟩ := h
  exact ⟨dx, tl, tg, s.i _ _ _ _ a, b.tu s.t (tO_lts _), c.tu s.t (tO_gos _)⟩
/-- all but three things stay -/
noncomputable def EX3 (p D L : Addr) (H G : Hp) : Prop := ∀ b o, b ≠ p → b ≠ D → b ≠ L → H b = some o → G b = some o
theorem EX3.refl {p D L : Addr} {H : Hp} : EX3 p D L H H := fun _ _ _ _ _ h => h
theorem EX3.same {p D L : Addr} {H G J : Hp} (a : EX3 p D L H G) (s : Same G J) : EX3 p D L H J := fun b o n1 n2 n3 h => s _ _ (a b o n1 n2 n3 h)
theorem EX3.w {p D L : Addr} {H G J : Hp} (a : EX3 p D L H G) (s : Ext p G J) : EX3 p D L H J := fun b o n1 n2 n3 h => s _ _ n1 (a b o n1 n2 n3 h)
/-- the three things are a well, a dict and a list -/
structure Th3 (p D L : Addr) (H : Hp) : Prop where
  p : WellAt H p
  D : ∃ kvs, H D = some (.dK kvs)
  L : ∃ ys, H L = some (.lst ys)
theorem EX3.ti {p D L : Addr} {H G : Hp} (a : EX3 p D L H G) (t : Th3 p D L H) : TI H G := by
  obtain ⟨⟨c, m, tt, hp⟩, ⟨kvs, hD⟩, ⟨ys, hL⟩⟩ := t
  refine ⟨fun b xs h => a _ _ (fun z => ?_) (fun z => ?_) (fun z => ?_) h, fun b C dx fs h => a _ _ (fun z => ?_) (fun z => ?_) (fun z => ?_) h⟩
  · rw [z, hp] at h; cases h
  · rw [z, hD] at h; cases h
  · rw [z, hL] at h; cases h
  · rw [z, hp] at h; cases h
  · rw [z, hD] at h; cases h
  · rw [z, hL] at h; cases h
/-! ### dicts whose keys are numbers -/
noncomputable abbrev KVs := List (Int × V)
noncomputable def dkv (m : KVs) : List (L2.Key × V) := m.map fun x => (Sum.inl x.1, x.2)
noncomputable def lookN (m : KVs) (n : Int) : Option V := (m.find? fun x => decide (x.1 = n)).map (·.2)
theorem dkv_val (n : Int) : ∀ m : KVs, valV (dkv m) (Sum.inl n) = lookN m n
  | [] => rfl
  | x :: r => by
    have ih := dkv_val n r
    unfold lookN at ih ⊢
    show valV ((Sum.inl x.1, x.2) :: dkv r) (Sum.inl n) = _
    by_cases c : x.1 = n
    · rw [valV_pos (by rw [c]), List.find?_cons_of_pos (by exact decide_eq_true c)]; rfl
    · rw [valV_neg (fun z => c (Sum.inl.inj z)), List.find?_cons_of_neg (by simp [c])]; exact ih
noncomputable def putN (m : KVs) (n : Int) (v : V) : KVs := m.map fun x => if x.1 = n then (x.1, v) else x
/-- a tuple of a number and a value -/
noncomputable def KR (G : Hp) (x : V) (kv : Int × V) : Prop := ∃ t, x = V.ref t ∧ G t = some (.tup [.int kv.1, kv.2])
theorem KR.tu {G G' : Hp} {x : V} {kv : Int × V} (h : KR G x kv) (t : TU G G') : KR G' x kv := let ⟨a, e, k⟩ := h; ⟨a, e, t _ _ k⟩
theorem lookN_get {m : KVs} (hn : (m.map (·.1)).Nodup) {i : Nat} {n : Int} {v : V} (h : m[i]? = some (n, v)) : lookN m n = some v := by
  induction m generalizing i with
  | nil => simp at h
  | cons x r ih =>
    rw [List.map_cons, List.nodup_cons] at hn
    unfold lookN
    cases i with
    | zero =>
      rw [List.getElem?_cons_zero] at h
      rw [Option.some.inj h, List.find?_cons_of_pos (by simp)]; rfl
    | succ j =>
      rw [List.getElem?_cons_succ] at h
      have hm : n ∈ r.map (·.1) := List.mem_map.mpr ⟨(n, v), List.mem_of_getElem? h, rfl⟩
      rw [List.find?_cons_of_neg (by simp; exact fun e => hn.1 (e ▸ hm))]
      exact ih hn.2 h
theorem CpAt.ex {K : PySem.W.Frag} {CC p : Addr} {H H' : Hp} {c : Cp} (h : CpAt K CC H p c) (s : L2.Ext H H') : CpAt K CC H' p c := h.same fun b o hb => s b o hb
theorem two_eq {K : PySem.W.Frag} {CC a b : Addr} {c d : Cp} {H : Hp} (h1 : CpAt K CC H a c) (h2 : CpAt K CC H b d) (o1 : OkCp c) (o2 : OkCp d) : TwoI CC (CpEq K CC) (.ref a) (.ref b) (decide (c = d)) H := by
  obtain ⟨dx, fs, e1⟩ := h1.ins
  obtain ⟨dy, gs, e2⟩ := h2.ins
  exact ⟨a, b, dx, dy, fs, gs, rfl, rfl, e1, e2, c, d, h1, h2, o1.ls.ok, o2.ls.ok, o1.md.ok, o2.md.ok, rfl⟩
theorem ne_cp {K : PySem.W.Frag} {CC a b : Addr} {c d : Cp} {H : Hp} {Q : VK} (h1 : CpAt K CC H a c) (h2 : CpAt K CC H b d) (o1 : OkCp c) (o2 : OkCp d) (q : ∀ H', Same H H' → Q (.bl !decide (c = d)) H') : rNeI CC (CpEq K CC) (.ref a) (.ref b) H Q :=
  ⟨_, two_eq h1 h2 o1 o2, fun H' s => q H' fun b o hb => s b o hb⟩
theorem eqv_same' {k : Nat} {d : PyData} (h : LayD k d) (e : k ≤ 64 := by decide) : PyData.eqv d d = true := SeqAt.eqv_refl _ (SeqAt.canLay_of_shaped (h.sh e))
theorem ne_same {K : PySem.W.Frag} {H : Hp} {x y : V} {d : PyData} {k : Nat} {Q : VK} (l : LayD k d) (h1 : Dv H x d) (h2 : Dv H y d) (q : Q (.bl false) H) (e : k ≤ 64 := by decide) : rNeD K x y H Q :=
  ⟨d, d, h1.dp l.nd, h2.dp l.nd, l.sh e, l.sh e, by rw [eqv_same' l e]; exact q⟩
noncomputable def NT (H : Hp) (D : Addr) : Prop := ∀ o, H D = some o → ∃ ps, o = .tbl ps
theorem NT.of {p D : Addr} {H G : Hp} (e : ENL p H G) (n : G D = none) (w : WellAt G p) : NT H D := fun o h => by
  cases o with
  | tbl ps => exact ⟨ps, rfl⟩
  | _ => exact absurd (e D _ (fun z => by obtain ⟨c, m, t, k⟩ := w; rw [z, k] at n; cases n) (fun _ z => by cases z) h) (by rw [n]; exact fun z => by cases z)
theorem fm_map {α β : Type} (f : α → β) (ls : List α) : ls.filterMap (fun l => some (f l)) = ls.map f := by rw [← List.filterMap_eq_map]; rfl
theorem CpAt.no {K : PySem.W.Frag} {CC p : Addr} {H : Hp} {c : Cp} (h : CpAt K CC H p c) : ∃ dx fs, H p = some (.ins CC dx fs) ∧ ∀ {z : Str}, (["_age", "_mark", "_letters", "_made"] : List Str).all (fun y => !(z == y)) = true → fs.lookup z = none := by
  obtain ⟨dx, tl, tm, xs, ys, k⟩ := h
  exact ⟨dx, _, k.at_, fc_no⟩
theorem sl_listK {X : Cx} {K : PySem.W.Frag} (h : X.K = K) : SlR X (rSlL K) := by subst h; exact sl_list
theorem take_sub {α : Type} {xs : List α} {i : Nat} {x : α} (h : xs[i]? = some x) : xs = xs.take i ++ x :: xs.drop (i + 1) := by
  have hi := lt_of_get h
  have e : xs.drop i = x :: xs.drop (i + 1) := by
    rw [List.getElem?_eq_getElem hi] at h
    rw [← Option.some.inj h]
    exact List.drop_eq_getElem_cons hi
  rw [← e, List.take_append_drop]
theorem DvA.take {H : Hp} {α : Type} {f : α → PyData} : ∀ {xs : List V} {ls : List α} (n : Nat), DvA H xs (ls.map f) → DvA H (xs.take n) ((ls.take n).map f)
  | _, [], 0, .nil => .nil
  | _, _ :: _, 0, .cons _ _ => .nil
  | _, [], _ + 1, .nil => .nil
  | _, _ :: _, n + 1, .cons h r => .cons h (r.take n)
theorem DvA.drop {H : Hp} {α : Type} {f : α → PyData} : ∀ {xs : List V} {ls : List α} (n : Nat), DvA H xs (ls.map f) → DvA H (xs.drop n) ((ls.drop n).map f)
  | _, [], 0, .nil => .nil
  | _, _ :: _, 0, .cons h r => .cons h r
  | _, [], _ + 1, .nil => .nil
  | _, _ :: _, n + 1, .cons h r => r.drop n
theorem dc_it {J : It} {n : Nat} {Gd : Hp → Prop} {Y : Nat → Hp → V → Hp → Prop} (w : Walk J n Gd Y) {g : TG} {tt : TT} {tk tv : TE} {vs : List Nat} {σ : L2.St} {H1 : Hp} {D : Addr} {Qd : Hp → Prop} (Pv : Nat → Hp → Prop) (h0 : Pv 0 (upd H1 D (.dK []))) (hG : ∀ i H, i ≤ n → Pv i H → Gd H)
    (hs : ∀ i x H H', i < n → Pv i H → Y i H x H' → g x (wipe σ vs) H' fun σ2 H2 => wipe σ2 vs = wipe σ vs ∧ tt σ2 H2 fun b H3 =>
      if b = true then tk σ2 H3 fun y H4 => tv σ2 H4 fun z H5 => ∃ kvs k, y = kV k ∧ H5 D = some (.dK kvs) ∧ kvs.length < sizeLine ∧ Pv (i + 1) (upd H5 D (.dK (putK kvs k z))) else Pv (i + 1) H3) (hd : ∀ H, Pv n H → Qd H) :
    ∃ W : Nat → Nat → Hp → Prop, (∃ m, W 0 m (upd H1 D (.dK []))) ∧ ∀ i m H, W i m H →
      (J.stop i H ∧ Qd H) ∨ (J.go i H ∧ ∃ Nx : Hp → Prop, (∀ H', Nx H' → ∃ m', m' < m ∧ W (i + 1) m' H') ∧ ∀ x H', J.yld i H x H' → g x (wipe σ vs) H' fun σ2 H2 => wipe σ2 vs = wipe σ vs ∧ tt σ2 H2 fun b H3 =>
        if b = true then tk σ2 H3 fun y H4 => tv σ2 H4 fun z H5 => ∃ kvs k, y = kV k ∧ H5 D = some (.dK kvs) ∧ kvs.length < sizeLine ∧ Nx (upd H5 D (.dK (putK kvs k z))) else Nx H3) := by
  refine ⟨fun i m H => m = n - i ∧ i ≤ n ∧ Pv i H, ⟨n, by simp, Nat.zero_le _, h0⟩, ?_⟩
  rintro i m H ⟨rfl, hi, p⟩
  have q := hG i H hi p
  by_cases hlt : i < n
  · exact .inr ⟨w.goes i H hlt q, Pv (i + 1), fun H' p' => ⟨n - (i + 1), by omega, rfl, hlt, p'⟩, fun x H' y => hs i x H H' hlt p (w.yields i H x H' hlt q y)⟩
  · have e : i = n := by omega
    subst e
    exact .inl ⟨w.stops H q, hd H p⟩
end K1
set_option Elab.async false
set_option linter.all false
set_option maxRecDepth 100000
set_option maxHeartbeats 1000000
/-! What a copy sends, and what its being sent does: the mathematics. -/
namespace K1
open PySem PySem.Spec PyProof.Rows L2 RZ StX
theorem nodup_len {α : Type} [DecidableEq α] : ∀ {l m : List α}, l.Nodup → (∀ x ∈ l, x ∈ m) → l.length ≤ m.length
  | [], m, _, _ => Nat.zero_le _
  | x :: r, m, h, s => by
    rw [List.nodup_cons] at h
    have hx := s x List.mem_cons_self
    have ih := nodup_len (l := r) (m := m.erase x) h.2 fun y hy => (List.mem_erase_of_ne (fun e : y = x => h.1 (by rw [← e]; exact hy))).mpr (s y (List.mem_cons_of_mem _ hy))
    rw [List.length_erase_of_mem hx] at ih
    have : 0 < m.length := List.length_pos_of_mem hx
    rw [List.length_cons]; omega
noncomputable def sgN (F : Fo) (n : Int) : Option (List Str) := (F.ls.find? fun l => decide (l.n = n)).map (·.s)
noncomputable def addZ (b t w : List Str) : List Str := w.filter fun z => !decide (z ∈ b) && !decide (z ∈ t)
noncomputable def takeZ (b t w : List Str) : List Str := b.filter fun z => !decide (z ∈ w) && decide (z ∈ t)
noncomputable def chgD (n : Int) (b t w : List Str) : List Dd := (addZ b t w).map (fun z => Dd.add [n] z) ++ (takeZ b t w).map (fun z => Dd.take [n] z)
noncomputable def chg1 (F : Fo) (l : CL) : List Dd := match sgN F l.n, l.w with
  | some t, some w => chgD l.n l.s t w
  | _, _ => []
noncomputable def rem1 (F : Fo) (l : CL) : List Dd := match sgN F l.n, l.w with
  | some _, none => [.rem [l.n]]
  | _, _ => []
noncomputable def madeD (c : Cp) : List Dd := c.md.map fun m => Dd.app m.1 m.2
noncomputable def sentM (c : Cp) (F : Fo) : List Dd := (if c.age = F.age then c.ls.flatMap (chg1 F) ++ c.ls.flatMap (rem1 F) else []) ++ madeD c
noncomputable def lost1 (c : Cp) (F : Fo) (l : CL) : Bool := decide (l.w ≠ some l.s) && !(decide (c.age = F.age) && (sgN F l.n).isSome)
noncomputable def lostM (c : Cp) (F : Fo) : List Int := (c.ls.filter (lost1 c F)).map (·.n)
noncomputable def stepM (c : Cp) (F : Fo) : Fo := doesL (sentM c F) F
theorem sgN_some {F : Fo} {n : Int} {t : List Str} (h : sgN F n = some t) : ∃ l ∈ F.ls, l.n = n ∧ l.s = t := by
  unfold sgN at h
  cases e : F.ls.find? fun l => decide (l.n = n) with
  | none => rw [e] at h; cases h
  | some l =>
    rw [e] at h
    have := List.find?_some e
    exact ⟨l, List.mem_of_find?_eq_some e, of_decide_eq_true this, Option.some.inj h⟩
/-! ### marks -/
/-! ### plain copies send nothing -/
theorem chgD_same (n : Int) (s t : List Str) : chgD n s t s = [] := by
  unfold chgD addZ takeZ
  rw [List.filter_eq_nil_iff.mpr (fun z hz => by simp [hz]), List.filter_eq_nil_iff.mpr (fun z hz => by simp [hz])]
  rfl
/-! ### good copies -/
structure CW4 (c : Cp) : Prop where
  s : ∀ l ∈ c.ls, W4 l.s
  w : ∀ l ∈ c.ls, ∀ ss, l.w = some ss → W4 ss
  m : ∀ m ∈ c.md, W4 m.2
theorem rem1_len {F : Fo} {l : CL} : (rem1 F l).length ≤ 1 := by
  unfold rem1; split
  · exact Nat.le_refl _
  · exact Nat.zero_le _
theorem flat_len {α β : Type} {f : α → List β} {k : Nat} : ∀ {ls : List α}, (∀ l ∈ ls, (f l).length ≤ k) → (ls.flatMap f).length ≤ ls.length * k
  | [], _ => Nat.zero_le _
  | l :: r, h => by
    rw [List.flatMap_cons, List.length_append, List.length_cons, Nat.succ_mul]
    have := flat_len (f := f) (k := k) (ls := r) fun x hx => h x (List.mem_cons_of_mem _ hx)
    have := h l List.mem_cons_self
    omega
theorem sent_ok {c : Cp} {F : Fo} (o : OkCp c) (z : CW4 c) : ∀ d ∈ sentM c F, OkD d ∧ W4D d := by
  intro d hd
  unfold sentM at hd
  rcases List.mem_append.mp hd with hd | hd
  · split at hd
    · rcases List.mem_append.mp hd with hd | hd
      · obtain ⟨l, hl, hd⟩ := List.mem_flatMap.mp hd
        unfold chg1 at hd
        split at hd
        · rename_i t w e1 e2
          rcases List.mem_append.mp hd with hd | hd
          · obtain ⟨y, hy, rfl⟩ := List.mem_map.mp hd
            have hy := (List.mem_filter.mp hy).1
            exact ⟨((o.ls.ok l hl).w w e2).ok y hy, trivial⟩
          · obtain ⟨y, hy, rfl⟩ := List.mem_map.mp hd
            have hy := (List.mem_filter.mp hy).1
            exact ⟨(o.ls.ok l hl).s.ok y hy, trivial⟩
        · cases hd
      · obtain ⟨l, hl, hd⟩ := List.mem_flatMap.mp hd
        unfold rem1 at hd
        split at hd
        · rw [List.mem_singleton.mp hd]; exact ⟨trivial, trivial⟩
        · cases hd
    · cases hd
  · obtain ⟨m, hm, rfl⟩ := List.mem_map.mp hd
    have := o.md.ok m hm
    exact ⟨⟨this.1, this.2⟩, z.m m hm⟩
/-- none of what is sent trims -/
theorem sent_can {c : Cp} {F : Fo} : ∀ d ∈ sentM c F, ∀ G, CanD G d := by
  intro d hd G
  unfold sentM at hd
  rcases List.mem_append.mp hd with hd | hd
  · split at hd
    · rcases List.mem_append.mp hd with hd | hd
      · obtain ⟨l, hl, hd⟩ := List.mem_flatMap.mp hd
        unfold chg1 at hd
        split at hd
        · rcases List.mem_append.mp hd with hd | hd
          · obtain ⟨y, hy, rfl⟩ := List.mem_map.mp hd; trivial
          · obtain ⟨y, hy, rfl⟩ := List.mem_map.mp hd; trivial
        · cases hd
      · obtain ⟨l, hl, hd⟩ := List.mem_flatMap.mp hd
        unfold rem1 at hd
        split at hd
        · rw [List.mem_singleton.mp hd]; trivial
        · cases hd
    · cases hd
  · obtain ⟨m, hm, rfl⟩ := List.mem_map.mp hd; trivial
theorem canL_all : ∀ {ds : List Dd} (F : Fo), (∀ d ∈ ds, ∀ G, CanD G d) → CanL ds F
  | [], F, _ => trivial
  | d :: r, F, h => ⟨h d List.mem_cons_self F, canL_all _ fun x hx => h x (List.mem_cons_of_mem _ hx)⟩
end K1
set_option Elab.async false
set_option linter.all false
set_option maxRecDepth 100000
set_option maxHeartbeats 4000000
/-! Deeds as data; the dict of a folder's signs; _sent. -/
namespace K1
open PySem PySem.Spec PyProof.Rows L2 RZ StX
noncomputable def ddT : Dd → PyData
  | .app b ss => .tuple [.str "append", .int b, .tuple (ss.map PyData.str)]
  | .add ns z => .tuple [.str "add", .tuple (ns.map PyData.int), .str z]
  | .take ns z => .tuple [.str "take", .tuple (ns.map PyData.int), .str z]
  | .set ns zs => .tuple [.str "set", .tuple (ns.map PyData.int), .tuple (zs.map PyData.str)]
  | .rem ns => .tuple [.str "remove", .tuple (ns.map PyData.int)]
  | .trim m => .tuple [.str "trim", .int m]
theorem tO_ints : ∀ ns : List Int, tOA (ns.map PyData.int) = true
  | [] => rfl
  | n :: r => by show (true && tOA (r.map PyData.int)) = true; rw [tO_ints r]; rfl
theorem tO_dd : ∀ d : Dd, tO (ddT d) = true
  | .app b ss => by show (true && (true && (tOA (ss.map PyData.str) && true))) = true; rw [tO_strs]; rfl
  | .add ns z => by show (true && (tOA (ns.map PyData.int) && (true && true))) = true; rw [tO_ints]; rfl
  | .take ns z => by show (true && (tOA (ns.map PyData.int) && (true && true))) = true; rw [tO_ints]; rfl
  | .set ns zs => by show (true && (tOA (ns.map PyData.int) && (tOA (zs.map PyData.str) && true))) = true; rw [tO_ints, tO_strs]; rfl
  | .rem ns => by show (true && (tOA (ns.map PyData.int) && true)) = true; rw [tO_ints]; rfl
  | .trim m => rfl
theorem tO_dds : ∀ ds : List Dd, tOA (ds.map ddT) = true
  | [] => rfl
  | d :: r => by show (tO (ddT d) && tOA (r.map ddT)) = true; rw [tO_dd, tO_dds r]; rfl
theorem ints_of : ∀ {H : Hp} {xs : List V} {ns : List Int}, DvA H xs (ns.map PyData.int) → xs = ns.map V.int
  | _, _, [], .nil => rfl
  | _, _, n :: r, .cons (.int _) t => by rw [ints_of t]; rfl
theorem dv_tupI {H : Hp} {v : V} {ns : List Int} (h : Dv H v (.tuple (ns.map PyData.int))) : ∃ a, v = .ref a ∧ H a = some (.tup (ns.map V.int)) := by
  cases h with
  | tup e r => exact ⟨_, rfl, by rw [← ints_of r]; exact e⟩
theorem dv_tupS {H : Hp} {v : V} {ss : List Str} (h : Dv H v (.tuple (ss.map PyData.str))) : ∃ a, v = .ref a ∧ H a = some (.tup (ss.map V.str)) := by
  cases h with
  | tup e r => exact ⟨_, rfl, by rw [← strs_of r]; exact e⟩
/-- the numbers of a deed are numbers of letters -/
noncomputable def NumD : Dd → Prop
  | .app _ _ => True
  | .add ns _ => (∀ n ∈ ns, 1 ≤ n) ∧ ns.length ≤ 1000
  | .take ns _ => (∀ n ∈ ns, 1 ≤ n) ∧ ns.length ≤ 1000
  | .set ns _ => (∀ n ∈ ns, 1 ≤ n) ∧ ns.length ≤ 1000
  | .rem ns => (∀ n ∈ ns, 1 ≤ n) ∧ ns.length ≤ 1000
  | .trim _ => True
theorem dd_at {H : Hp} {v : V} : ∀ {d : Dd}, Dv H v (ddT d) → OkD d → NumD d → ∃ a, v = .ref a ∧ DdAt H a d
  | .app b ss, h, o, _ => by
    cases h with
    | tup e r =>
    cases r with | cons h1 r =>
    cases r with | cons h2 r =>
    cases r with | cons h3 r =>
    cases r; cases h1; cases h2
    obtain ⟨sa, rfl, hs⟩ := dv_tupS h3
    exact ⟨_, rfl, sa, e, hs, o.1, o.2⟩
  | .add ns z, h, o, n => by
    cases h with
    | tup e r =>
    cases r with | cons h1 r =>
    cases r with | cons h2 r =>
    cases r with | cons h3 r =>
    cases r; cases h1; cases h3
    obtain ⟨na, rfl, hs⟩ := dv_tupI h2
    exact ⟨_, rfl, na, e, ⟨.inr hs, n.1, n.2⟩, o⟩
  | .take ns z, h, o, n => by
    cases h with
    | tup e r =>
    cases r with | cons h1 r =>
    cases r with | cons h2 r =>
    cases r with | cons h3 r =>
    cases r; cases h1; cases h3
    obtain ⟨na, rfl, hs⟩ := dv_tupI h2
    exact ⟨_, rfl, na, e, ⟨.inr hs, n.1, n.2⟩, o⟩
  | .set ns zs, h, o, n => by
    cases h with
    | tup e r =>
    cases r with | cons h1 r =>
    cases r with | cons h2 r =>
    cases r with | cons h3 r =>
    cases r; cases h1
    obtain ⟨na, rfl, hn⟩ := dv_tupI h2
    obtain ⟨sa, rfl, hs⟩ := dv_tupS h3
    exact ⟨_, rfl, na, sa, e, ⟨.inr hn, n.1, n.2⟩, hs, o⟩
  | .rem ns, h, o, n => by
    cases h with
    | tup e r =>
    cases r with | cons h1 r =>
    cases r with | cons h2 r =>
    cases r; cases h1
    obtain ⟨na, rfl, hs⟩ := dv_tupI h2
    exact ⟨_, rfl, na, e, ⟨.inr hs, n.1, n.2⟩⟩
  | .trim m, h, o, _ => by
    cases h with
    | tup e r =>
    cases r with | cons h1 r =>
    cases r with | cons h2 r =>
    cases r; cases h1; cases h2
    exact ⟨_, rfl, e, o⟩
theorem dds_at {H : Hp} : ∀ {xs : List V} {ds : List Dd}, DvA H xs (ds.map ddT) → (∀ d ∈ ds, OkD d ∧ NumD d) → DdsAt H xs ds
  | _, [], .nil, _ => .nil
  | _, d :: r, .cons h k, o => by
    obtain ⟨a, rfl, hd⟩ := dd_at h (o d List.mem_cons_self).1 (o d List.mem_cons_self).2
    exact .cons hd (dds_at k fun x hx => o x (List.mem_cons_of_mem _ hx))
/-- a list of deeds -/
noncomputable def LD (G : Hp) (D : Addr) (ds : List Dd) : Prop := ∃ xs, G D = some (.lst xs) ∧ DvA G xs (ds.map ddT)
theorem LD.to {G G' : Hp} {D : Addr} {ds : List Dd} (h : LD G D ds) (t : TU G G') (e : ∀ o, G D = some o → G' D = some o) : LD G' D ds := let ⟨xs, h1, h2⟩ := h; ⟨xs, e _ h1, h2.tu t (tO_dds _)⟩
theorem LD.same {G G' : Hp} {D : Addr} {ds : List Dd} (h : LD G D ds) (s : Same G G') : LD G' D ds := h.to (TU.same s) fun o => s _ o
theorem LD.push {G : Hp} {D : Addr} {ds : List Dd} {xs : List V} {x : V} {d : Dd} (h : LD G D ds) (hD : G D = some (.lst xs)) (hx : Dv G x (ddT d)) : LD (upd G D (.lst (xs ++ [x]))) D (ds ++ [d]) := by
  obtain ⟨ys, h1, h2⟩ := h
  rw [hD] at h1
  injection h1 with h1
  injection h1 with h1
  subst h1
  have t : TU G (upd G D (.lst (xs ++ [x]))) := TU.mut hD fun _ z => by cases z
  exact ⟨_, upd_same, by rw [List.map_append]; exact (h2.tu t (tO_dds _)).app (.cons (hx.tu t (tO_dd _)) .nil)⟩
theorem LD.other {G : Hp} {D E : Addr} {ds : List Dd} {xs ys : List V} (h : LD G D ds) (ne : D ≠ E) (hE : G E = some (.lst xs)) : LD (upd G E (.lst ys)) D ds :=
  h.to (TU.mut hE fun _ z => by cases z) fun o e => by rw [upd_ne ne]; exact e
/-! ### the signs of a folder's letters, by number -/
noncomputable def KS (G : Hp) (m : KVs) (ls : List Lt) : Prop := m.map (·.1) = ls.map (·.n) ∧ ∀ (i : Nat) l, ls[i]? = some l → ∃ a, m[i]? = some (l.n, .ref a) ∧ G a = some (.tup (l.s.map V.str))
theorem KS.tu {G G' : Hp} {m : KVs} {ls : List Lt} (h : KS G m ls) (t : TU G G') : KS G' m ls := ⟨h.1, fun i l hl => let ⟨a, h1, h2⟩ := h.2 i l hl; ⟨a, h1, t _ _ h2⟩⟩
theorem KS.nil {G : Hp} : KS G [] [] := ⟨rfl, fun i l h => by simp at h⟩
theorem KS.snoc {G : Hp} {m : KVs} {ls : List Lt} {l : Lt} {a : Addr} (h : KS G m ls) (ha : G a = some (.tup (l.s.map V.str))) : KS G (m ++ [(l.n, .ref a)]) (ls ++ [l]) := by
  have e : m.length = ls.length := by have := congrArg List.length h.1; simpa using this
  refine ⟨by rw [List.map_append, List.map_append, h.1]; rfl, fun i x hx => ?_⟩
  by_cases c : i < ls.length
  · rw [List.getElem?_append_left c] at hx
    obtain ⟨b, h1, h2⟩ := h.2 i x hx
    exact ⟨b, by rw [List.getElem?_append_left (by omega)]; exact h1, h2⟩
  · rw [List.getElem?_append_right (by omega)] at hx
    cases d : i - ls.length with
    | zero =>
      rw [d] at hx
      have := Option.some.inj hx
      subst this
      exact ⟨a, by rw [List.getElem?_append_right (by omega), e, d]; rfl, ha⟩
    | succ k => rw [d] at hx; simp at hx
theorem KS.look {G : Hp} {m : KVs} {F : Fo} (h : KS G m F.ls) (nd : (F.ls.map (·.n)).Nodup) (n : Int) : (sgN F n = none ∧ lookN m n = none) ∨ ∃ t a, sgN F n = some t ∧ lookN m n = some (.ref a) ∧ G a = some (.tup (t.map V.str)) := by
  cases e : sgN F n with
  | none =>
    refine .inl ⟨rfl, ?_⟩
    unfold lookN
    rw [List.find?_eq_none.mpr fun x hx => ?_]
    · rfl
    intro z
    have z := of_decide_eq_true z
    have : n ∈ F.ls.map (·.n) := by rw [← h.1]; exact List.mem_map.mpr ⟨x, hx, z⟩
    obtain ⟨l, hl, hn⟩ := List.mem_map.mp this
    unfold sgN at e
    cases k : F.ls.find? fun l => decide (l.n = n) with
    | some y => rw [k] at e; cases e
    | none => exact (List.find?_eq_none.mp k l hl) (decide_eq_true hn)
  | some t =>
    obtain ⟨l, hl, hn, hs⟩ := sgN_some e
    obtain ⟨i, hi⟩ := List.getElem?_of_mem hl
    obtain ⟨a, h1, h2⟩ := h.2 i l hi
    rw [hn] at h1
    exact .inr ⟨t, a, rfl, lookN_get (by rw [h.1]; exact nd) h1, by rw [← hs]; exact h2⟩
theorem dkv_snoc {m : KVs} {n : Int} {v : V} (h : n ∉ m.map (·.1)) : putK (dkv m) (Sum.inl n) v = dkv (m ++ [(n, v)]) := by
  unfold putK
  rw [if_neg]
  · unfold dkv; rw [List.map_append]; rfl
  intro z
  obtain ⟨x, hx, hx2⟩ := List.any_eq_true.mp z
  obtain ⟨y, hy, rfl⟩ := List.mem_map.mp hx
  exact h (List.mem_map.mpr ⟨y, hy, Sum.inl.inj (of_decide_eq_true hx2)⟩)
theorem dkv_len (m : KVs) : (dkv m).length = m.length := by unfold dkv; rw [List.length_map]
noncomputable abbrev sSe : Stmt := st__sent
noncomputable abbrev nSe : List Str := ["copy", "folder", "made", "there", "letter", "changes", "removes", "number", "_", "base", "wanted", "sign", "body", "signs"]
noncomputable abbrev pSe : List Str := ["copy", "folder"]
theorem scSe : FnScope nSe pSe (defScope sSe) := ⟨rfl, rfl, rfl, by decide +kernel, rfl, by decide +kernel, by decide +kernel⟩
noncomputable def spSe (K : PySem.W.Frag) (C CC : Addr) : Sp := fun vs H Q _ => ∃ (x p : Addr) (c : Cp) (F : Fo) (k : Nat), vs = [.ref x, .ref p] ∧ CpAt K CC H x c ∧ OkCp c ∧ FoAt C H p F ∧ GA k F ∧ k ≤ 900 ∧ ∀ l H', Same H H' → H l = none → LD H' l (sentM c F) → Q (.ref l) H'
end K1
set_option Elab.async false
set_option linter.all false
set_option maxRecDepth 100000
set_option maxHeartbeats 8000000
/-! _sent. -/
namespace K1
open PySem PySem.Spec PyProof.Rows L2 RZ StX
theorem flat_take {α β : Type} (f : α → List β) {ls : List α} {j : Nat} {l : α} (h : ls[j]? = some l) : (ls.take (j + 1)).flatMap f = (ls.take j).flatMap f ++ f l := by
  rw [List.take_add_one, h, List.flatMap_append]; simp
theorem filt_take {α : Type} (q : α → Bool) {ls : List α} {j : Nat} {l : α} (h : ls[j]? = some l) : (ls.take (j + 1)).filter q = (ls.take j).filter q ++ (if q l then [l] else []) := by
  rw [List.take_add_one, h, List.filter_append]
  congr 1
  show [l].filter q = _
  rw [List.filter_cons]; simp
theorem chg1_len12 {F : Fo} {l : CL} (o : OkCL l) : (chg1 F l).length ≤ 12 := by
  unfold chg1
  split
  · rename_i t w e1 e2
    unfold chgD addZ takeZ
    rw [List.length_append, List.length_map, List.length_map]
    have h1 := List.length_filter_le (fun z => !decide (z ∈ l.s) && !decide (z ∈ t)) w
    have h2 := List.length_filter_le (fun z => !decide (z ∈ w) && decide (z ∈ t)) l.s
    have h3 := o.s.len
    have h4 := (o.w w e2).len
    omega
  · exact Nat.zero_le _
theorem pre_len {F : Fo} {ls : List CL} (o : OkLs ls) (j : Nat) : ((ls.take j).flatMap (chg1 F)).length ≤ 10800 := by
  have h := flat_len (f := chg1 F) (k := 12) (ls := ls.take j) fun l hl => chg1_len12 (o.ok l (List.mem_of_mem_take hl))
  have := o.len
  rw [List.length_take] at h
  omega
theorem rem_len {F : Fo} {ls : List CL} (o : OkLs ls) (j : Nat) : ((ls.take j).flatMap (rem1 F)).length ≤ 900 := by
  have h := flat_len (f := rem1 F) (k := 1) (ls := ls.take j) fun l hl => rem1_len
  have := o.len
  rw [List.length_take] at h
  omega
/-- all but two lists stay -/
structure Two (C1 C2 : Addr) (H G : Hp) : Prop where
  k : ∀ b o, b ≠ C1 → b ≠ C2 → H b = some o → G b = some o
  l1 : ∃ xs, H C1 = some (.lst xs)
  l2 : ∃ xs, H C2 = some (.lst xs)
theorem Two.same {C1 C2 : Addr} {H G J : Hp} (a : Two C1 C2 H G) (s : Same G J) : Two C1 C2 H J := ⟨fun b o n1 n2 h => s _ _ (a.k b o n1 n2 h), a.l1, a.l2⟩
theorem Two.m1 {C1 C2 : Addr} {H G : Hp} {o : HO} (a : Two C1 C2 H G) : Two C1 C2 H (upd G C1 o) := ⟨fun b u n1 n2 h => by rw [upd_ne n1]; exact a.k b u n1 n2 h, a.l1, a.l2⟩
theorem Two.m2 {C1 C2 : Addr} {H G : Hp} {o : HO} (a : Two C1 C2 H G) : Two C1 C2 H (upd G C2 o) := ⟨fun b u n1 n2 h => by rw [upd_ne n2]; exact a.k b u n1 n2 h, a.l1, a.l2⟩
theorem Two.get {C1 C2 : Addr} {H G : Hp} {b : Addr} {o : HO} (a : Two C1 C2 H G) (h : H b = some o) (n : ∀ xs, o ≠ .lst xs) : G b = some o := by
  obtain ⟨xs, h1⟩ := a.l1
  obtain ⟨ys, h2⟩ := a.l2
  exact a.k b o (fun e => by rw [e, h1] at h; exact n _ (Option.some.inj h).symm) (fun e => by rw [e, h2] at h; exact n _ (Option.some.inj h).symm) h
theorem Two.tu {C1 C2 : Addr} {H G : Hp} (a : Two C1 C2 H G) : TU H G := fun b xs h => a.get h fun _ z => by cases z
theorem Two.refl {C1 C2 : Addr} {H : Hp} {ds es : List Dd} (h1 : LD H C1 ds) (h2 : LD H C2 es) : Two C1 C2 H H := ⟨fun _ _ _ _ h => h, let ⟨xs, a, _⟩ := h1; ⟨xs, a⟩, let ⟨xs, a, _⟩ := h2; ⟨xs, a⟩⟩
theorem Two.pre {C1 C2 : Addr} {H G J : Hp} (a : Two C1 C2 G J) (s : Same H G) (l1 : ∃ xs, H C1 = some (.lst xs)) (l2 : ∃ xs, H C2 = some (.lst xs)) : Two C1 C2 H J := ⟨fun b o n1 n2 h => a.k b o n1 n2 (s _ _ h), l1, l2⟩
theorem LD.len {G : Hp} {D : Addr} {ds : List Dd} (h : LD G D ds) : ∃ xs, G D = some (.lst xs) ∧ xs.length = ds.length := let ⟨xs, h1, h2⟩ := h; ⟨xs, h1, by rw [h2.len, List.length_map]⟩
section
variable {P : Program} {w : World} {K : PySem.W.Frag} {mg : Str → Option Value} {base : Heap} {C CC : Addr}
set_option maxHeartbeats 32000000 in
theorem ok_se {f : Addr} {fd : FuncData} (T : Bk mg) (t : ClT K mg C) (tc : CcT K mg CC) (M_age : MDef P w K mg base CX0 1 CC "age" nSelf (spCAge K CC)) (M_letters : MDef P w K mg base CX0 1 CC "letters" nSelf (spCLet K CC)) (M_made : MDef P w K mg base CX0 1 CC "made" nSelf (spCMade K CC))
    (N_age : MDef P w K mg base CX0 1 C "age" nSelf (spAge C)) (N_letters : MDef P w K mg base CX0 1 C "letters" nSelf (spLetters C)) (F : Fun K "_sent" "_sent" sSe f fd) : FnOk P w K mg base CX0 2 f fd pSe (spSe K C CC) := by
  have nd := scSe.nd
  refine F.ok scSe (fun vs H Q E h => ?_) (fun cdv A outer s H vs Q E hr h => ?_)
  · obtain ⟨x, p, c, F, k, rfl, _⟩ := h
    rfl
  · obtain ⟨x, p, c, F, k, rfl, hc, ok, hF, ga, k9, q⟩ := h
    refine ⟨_, (pss_cons (ps_setLc (i := 2) (own := [("body", 12), ("signs", 13)]) (g := gTup K 2 (gCons (gName 12) (gCons (gName 13) gNil))) (tt := tYes) rfl nd rfl rfl (sw_true rfl rfl rfl (by decide +kernel)) (pi_listK (K := K) rfl (pe_mdef0 M_made tc.cl (hr.mono (by decide)) pass0 (pv 0))) (blkOk_by (own := [("body", 12), ("signs", 13)]) (N := nSe) (sc := defScope sSe) (by decide +kernel)) (fun _ _ _ _ _ => pg_tup rfl (pgs_cons (pg_name (i := 12) nd rfl (Or.inl rfl)) (pgs_cons (pg_name (i := 13) nd rfl (Or.inl rfl)) pgs_nil))) (fun _ _ _ _ _ => pts_nil) (fun _ _ _ _ _ => (pe_tup (pa_cons pe_str (pa_cons (pv 12) (pa_cons (pv 13) pa_nil))))))
 (pss_cons (ps_if (pt_cmpR op_ne (pe_mdef0 M_age tc.cl (hr.mono (by decide)) pass0 (pv 0)) (pe_mdef0 N_age t.cl (hr.mono (by decide)) pass0 (pv 1)) (nomark _))
  (pss_one (ps_ret (pv 2)))
  pss_nil)
 (pss_cons (ps_setDcK (i := 3) (own := [("letter", 4)]) (g := gName 4) (tt := tYes) rfl nd rfl rfl (sw_trueD rfl rfl rfl (by decide +kernel)) (pi_listK (K := K) rfl (pe_mdef0 N_letters t.cl (hr.mono (by decide)) pass0 (pv 1))) (blkOk_by (own := [("letter", 4)]) (N := nSe) (sc := defScope sSe) (by decide +kernel)) (fun _ _ _ _ _ => pg_name (i := 4) nd rfl (Or.inl rfl)) (fun _ _ _ _ _ => pts_nil) (fun _ _ _ _ _ => pe_ix (ix_tupK (K := K) rfl) (pv 4) pe_int (fun _ _ => rfl)) (fun _ _ _ _ _ => pe_ix (ix_tupK (K := K) rfl) (pv 4) pe_int (fun _ _ => rfl)))
 (pss_cons (ps_par (i := 5) (j := 6) (by rfl) nd rfl rfl (by decide) rfl rfl (pa_cons (pe_lst pa_nil) (pa_cons (pe_lst pa_nil) pa_nil)) (by rfl))
 (C8.pss_cut (ps_for PassesOwn.never rfl (pi_listK (K := K) rfl (pe_mdef0 M_letters tc.cl (hr.mono (by decide)) pass0 (pv 0))) (pg_tup rfl (pgs_cons (pg_name (i := 7) nd rfl (Or.inl rfl)) (pgs_cons (pg_name (i := 8) nd rfl (Or.inl rfl)) (pgs_cons (pg_name (i := 9) nd rfl (Or.inl rfl)) (pgs_cons (pg_name (i := 10) nd rfl (Or.inl rfl)) pgs_nil)))))
  (pss_cons (ps_if (pt_cmp (pc_dnotin (hu_of hr) (pv 7) (pv 3)))
  (pss_one ps_continue)
  pss_nil)
 (pss_cons (ps_if (pt_cmpR op_isN (pv 10) pe_non (nomark _))
  (pss_cons (ps_expr (pe_bm PySem.F.plainAttrs_list PySem.F.slot_list_append PySem.F.type_list_append mt_append (pv 6) (pa_cons (pe_tup (pa_cons pe_str (pa_cons (pe_tup (pa_cons (pv 7) pa_nil)) pa_nil))) pa_nil)))
 (pss_one ps_continue))
  pss_nil)
 (C8.pss_cut (ps_for PassesOwn.never rfl (pi_tupK (K := K) rfl (pv 10)) (pg_name (i := 11) nd rfl (Or.inl rfl))
  (pss_one (ps_if (PW.pt (pw_and (pt_cmpR (op_notIn_seqK (K := K) rfl) (pv 11) (pv 9) (by rfl)) (pw_and1 (pt_cmpR (op_notIn_seqK (K := K) rfl) (pv 11) (pe_dget (hu_of hr) (pv 3) (pv 7) (fun _ _ => rfl)) (by rfl)))))
  (pss_one (ps_expr (pe_bm PySem.F.plainAttrs_list PySem.F.slot_list_append PySem.F.type_list_append mt_append (pv 5) (pa_cons (pe_tup (pa_cons pe_str (pa_cons (pe_tup (pa_cons (pv 7) pa_nil)) (pa_cons (pv 11) pa_nil)))) pa_nil))))
  pss_nil)))
 (pss_one (ps_for PassesOwn.never rfl (pi_tupK (K := K) rfl (pv 9)) (pg_name (i := 11) nd rfl (Or.inl rfl))
  (pss_one (ps_if (PW.pt (pw_and (pt_cmpR (op_notIn_seqK (K := K) rfl) (pv 11) (pv 10) (by rfl)) (pw_and1 (pt_cmpR (op_in_seqK (K := K) rfl) (pv 11) (pe_dget (hu_of hr) (pv 3) (pv 7) (fun _ _ => rfl)) (by rfl)))))
  (pss_one (ps_expr (pe_bm PySem.F.plainAttrs_list PySem.F.slot_list_append PySem.F.type_list_append mt_append (pv 5) (pa_cons (pe_tup (pa_cons pe_str (pa_cons (pe_tup (pa_cons (pv 7) pa_nil)) (pa_cons (pv 11) pa_nil)))) pa_nil))))
  pss_nil))))))))
 (pss_one (ps_ret (pe_op op_cat (pe_op op_cat (pv 5) (pv 6)) (pv 2))))))))), ?_⟩
    obtain ⟨dcx, fcs, hx, nox⟩ := hc.no
    obtain ⟨dx, tl, tg, hp, _⟩ := id hF
    have lF := ga.g.wf.len
    have lm := ok.md.len
    have lc := ok.ls.len
    refine ⟨_, rfl, x, dcx, _, rfl, hx, nox (by decide +kernel), x, c, rfl, hc, fun l0 ys H1 s1 nl0 hl0 dys => ?_⟩
    have lys := dys.len
    rw [List.length_map] at lys
    refine ⟨l0, rfl, ⟨_, sq hl0⟩, fun R nR => ?_⟩
    refine lc_tu (walk_list (K := K)) (a2_of dys) nR (fun G s => sq (s _ _ hl0)) (by omega) (fun m => some (Dd.app m.1 m.2)) (fun G y d => Dv G y (ddT d)) (fun H G y b t h => h.tu t (tO_dd b)) ?_ ?_
    · rintro y m G T' S' hy hm s2 hT' hS
      obtain ⟨ta, sa, rfl, hta, hsa⟩ := dv_md hy
      refine ⟨ta, _, rfl, st (s2 _ _ hta), rfl, _, _, rfl, _, _, rfl, rfl, rfl, tyes ⟨_, rfl, _, rfl, by show 3 ≤ sizeLine; decide, fun U nU => ?_⟩⟩
      have sU := same_new nU (o := .tup [.str "append", .int m.1, .ref sa])
      exact hT' _ _ _ sU rfl (.tup upd_same (.cons (.str _) (.cons (.int _) (.cons (.tup ((s2.trans sU) _ _ hsa) (dv_strs _)) .nil))))
    intro G xsR sG hR hA
    rw [show c.md.filterMap (fun m => some (Dd.app m.1 m.2)) = madeD c from fm_map _ _] at hA
    have dR := of_a2 hA
    have ldR : LD G R (madeD c) := ⟨_, hR, dR⟩
    have s01 := s1.trans sG
    clear hl0 dys nl0
    refine name_go' ?_
    dsimp only
    refine ⟨_, rfl, x, dcx, _, rfl, s01 _ _ hx, nox (by decide +kernel), x, c, rfl, hc.same s01, _, rfl, p, dx, _, rfl, s01 _ _ hp, fl_no (by decide +kernel), p, F, rfl, hF.same s01, rfl, _, rfl, ?_⟩
    by_cases ca : ¬ c.age = F.age
    · refine itbT (by rw [decide_eq_false (fun e => ca (V.int.inj e))]; rfl) ⟨_, rfl, q R G s01 (s1.free nR) ?_⟩
      unfold sentM
      rw [if_neg ca, List.nil_append]; exact ldR
    have ca := Decidable.not_not.mp ca
    refine itbF (by rw [decide_eq_true (by rw [ca])]; rfl) ?_
    refine ⟨_, rfl, p, dx, _, rfl, s01 _ _ hp, fl_no (by decide +kernel), p, F, rfl, hF.same s01, fun l1 G1 s2 nl1 hL => ?_⟩
    obtain ⟨zs, hl1, dzs⟩ := Dv.lsts hL
    have lzs := dzs.len
    rw [List.length_map] at lzs
    refine ⟨l1, rfl, ⟨_, sq hl1⟩, fun D nD => ?_⟩
    have Dl : l1 ≠ D := fun e => by rw [e, nD] at hl1; cases hl1
    refine dc_it (walk_list (K := K) (a := l1) (xs := zs)) (fun i G => (∀ b o, b ≠ D → G1 b = some o → G b = some o) ∧ ∃ m, G D = some (.dK (dkv m)) ∧ KS G m (F.ls.take i)) ⟨fun b o nb h => by rw [upd_ne nb]; exact h, [], upd_same, KS.nil⟩ (fun i G _ h => sq (h.1 _ _ Dl hl1)) ?_ ?_
    · rintro i y G2 G3 hi ⟨kp, m, hD, ks⟩ ⟨rfl, hy⟩
      obtain ⟨l, hl, hv⟩ := dzs.getD' hy
      obtain ⟨ta, sa, rfl, hta, hsa⟩ := dv_lt hv
      have nTD : ta ≠ D := fun e => by rw [e, nD] at hta; cases hta
      have nSD : sa ≠ D := fun e => by rw [e, nD] at hsa; cases hsa
      have hta2 := kp _ _ nTD hta
      have hsa2 := kp _ _ nSD hsa
      have lm2 : m.length = (F.ls.take i).length := by have := congrArg List.length ks.1; simpa using this
      have lmk : m.length ≤ 900 := by rw [lm2, List.length_take]; omega
      have nm : l.n ∉ m.map (·.1) := by
        rw [ks.1]
        intro z
        have pw := ga.a.up
        rw [take_sub hl, List.map_append, List.map_cons, List.pairwise_append] at pw
        have := pw.2.2 l.n z l.n List.mem_cons_self
        omega
      refine ⟨rfl, tyes ⟨_, rfl, ta, _, 0, .int l.n, rfl, rfl, st hta2, atI_nat (j := 0) rfl, _, rfl, ta, _, 2, .ref sa, rfl, rfl, st hta2, atI_nat (j := 2) rfl, _, Sum.inl l.n, rfl, hD, by rw [dkv_len]; exact lt1 _ (by omega), fun b o nb h => by rw [upd_ne nb]; exact kp b o nb h, m ++ [(l.n, .ref sa)], ?_, ?_⟩⟩
      · rw [upd_same, dkv_snoc nm]
      · rw [List.take_add_one, hl]
        have tm : TU G3 (upd G3 D (.dK (putK (dkv m) (Sum.inl l.n) (.ref sa)))) := TU.mut hD fun _ z => by cases z
        exact (ks.tu tm).snoc (tm _ _ hsa2)
    rintro G2 ⟨kp, m, hD, ks⟩
    rw [show zs.length = F.ls.length from lzs, List.take_length] at ks
    have ndF : (F.ls.map (·.n)).Nodup := ga.a.up.imp fun h e => by omega
    have s02 := s01.trans s2
    have nDH : H D = none := s02.free nD
    have s3 : Same H G2 := fun b o hb => kp b o (fun e => by rw [e, nDH] at hb; cases hb) (s02 _ _ hb)
    have RD : R ≠ D := fun e => by have := s2 _ _ hR; rw [e, nD] at this; cases this
    have tkp : TU G1 G2 := fun b xs h => kp b _ (fun e => by rw [e, nD] at h; cases h) h
    have ldR : LD G2 R (madeD c) := (ldR.same s2).to tkp fun o h => kp _ _ RD h
    clear hL hl1 Dl nl1 dzs lzs tkp kp hA dR hR nR nD
    refine name_go' ?_
    dsimp only
    refine par_go' ?_
    refine ⟨Nat.zero_le _, fun C1 n1 => ⟨Nat.zero_le _, fun C2 n2 => ⟨_, _, rfl, ?_⟩⟩⟩
    have s4 := s3.new n1 (o := .lst [])
    have k1 := same_new (H := G2) n1 (o := .lst [])
    have ld1 : LD (upd G2 C1 (.lst [])) C1 [] := ⟨[], upd_same, .nil⟩
    have hD := k1 _ _ hD
    have ks := ks.tu (TU.same k1)
    have ldRa := ldR
    have ldR := ldR.same k1
    have n1H := s3.free n1
    generalize upd G2 C1 (.lst []) = G3 at s4 ld1 hD ks ldR n2
    have ne12 : C1 ≠ C2 := fun e => by obtain ⟨_, h, _⟩ := ld1; rw [e, n2] at h; cases h
    have n2H := s4.free n2
    have s5 := s4.new n2 (o := .lst [])
    have k2 := same_new (H := G3) n2 (o := .lst [])
    have ld2 : LD (upd G3 C2 (.lst [])) C2 [] := ⟨[], upd_same, .nil⟩
    have ld1 := ld1.same k2
    have hD := k2 _ _ hD
    have ks := ks.tu (TU.same k2)
    have ldRb := ldR
    have ldR := ldR.same k2
    have nRC1 : R ≠ C1 := fun e => by obtain ⟨_, h, _⟩ := ldRa; rw [e, n1] at h; cases h
    have nRC2 : R ≠ C2 := fun e => by obtain ⟨_, h, _⟩ := ldRb; rw [e, n2] at h; cases h
    clear ldRa ldRb
    generalize upd G3 C2 (.lst []) = G4 at s5 ld1 ld2 hD ks ldR
    have nDC1 : D ≠ C1 := fun e => by obtain ⟨_, h, _⟩ := ld1; rw [← e, hD] at h; cases h
    have nDC2 : D ≠ C2 := fun e => by obtain ⟨_, h, _⟩ := ld2; rw [← e, hD] at h; cases h
    have w4 := Two.refl ld1 ld2
    clear k1 k2 s4 s3 s2 lys
    refine ⟨fun σ G => (∃ v4 v7 v8 v9 v10 v11 v12 v13, σ = [some (.ref x), some (.ref p), some (.ref R), some (.ref D), v4, some (.ref C1), some (.ref C2), v7, v8, v9, v10, v11, v12, v13]) ∧ Two C1 C2 G4 G ∧ LD G C1 (c.ls.flatMap (chg1 F)) ∧ LD G C2 (c.ls.flatMap (rem1 F)), ?_, ?_⟩
    · refine ⟨_, rfl, x, dcx, _, rfl, s5 _ _ hx, nox (by decide +kernel), x, c, rfl, hc.same s5, fun l2 xs2 G5 s6 nl2 hl2 dl2 => ⟨l2, rfl, ⟨_, sq hl2⟩, ?_⟩⟩
      have ld1' := ld1.same s6
      have ld2' := ld2.same s6
      have n21 : l2 ≠ C1 := fun e => by obtain ⟨_, h, _⟩ := ld1; rw [e, ] at nl2; rw [nl2] at h; cases h
      have n22 : l2 ≠ C2 := fun e => by obtain ⟨_, h, _⟩ := ld2; rw [e, ] at nl2; rw [nl2] at h; cases h
      have lx2 := dl2.len
      rw [List.length_map] at lx2
      refine for_list (K := K) (a := l2) (xs := xs2) (fun j σ G => (∃ v4 v7 v8 v9 v10 v11 v12 v13, σ = [some (.ref x), some (.ref p), some (.ref R), some (.ref D), v4, some (.ref C1), some (.ref C2), v7, v8, v9, v10, v11, v12, v13]) ∧ Two C1 C2 G5 G ∧ LD G C1 ((c.ls.take j).flatMap (chg1 F)) ∧ LD G C2 ((c.ls.take j).flatMap (rem1 F))) ?_ ?_ ?_ ?_
      · exact ⟨⟨_, _, _, _, _, _, _, _, rfl⟩, Two.refl ld1' ld2', ld1', ld2'⟩
      · rintro j σ G _ ⟨_, tw, _, _⟩
        exact sq (tw.k _ _ n21 n22 hl2)
      · rintro j y σ G hy ⟨⟨v4, v7, v8, v9, v10, v11, v12, v13, rfl⟩, tw, m1, m2⟩
        obtain ⟨l, hl, hv⟩ := dl2.getD' hy
        obtain ⟨ta, sa, wv, rfl, hta, hsa, hw⟩ := dv_cl (hv.tu tw.tu (tO_cl l))
        have okl := ok.ls.ok l (List.mem_of_getElem? hl)
        have hDG := tw.k _ _ nDC1 nDC2 (s6 _ _ hD)
        have ksG := ks.tu ((TU.same s6).trans tw.tu)
        rw [flat_take (chg1 F) hl, flat_take (rem1 F) hl]
        have gv : ∀ {J : Hp}, J D = some (.dK (dkv m)) → DGet J D (.int l.n) (lookN m l.n) := fun hJ => by
          have := DGet.k (k := Sum.inl l.n) hJ
          rw [dkv_val] at this
          exact this
        have lp := pre_len (F := F) ok.ls j
        have lr := rem_len (F := F) ok.ls j
        refine ⟨ta, _, rfl, st hta, rfl, _, _, rfl, _, _, rfl, _, _, rfl, _, _, rfl, rfl, ?_⟩
        refine ⟨_, rfl, _, rfl, D, _, rfl, gv hDG, ?_⟩
        rcases ksG.look ndF l.n with ⟨e1, e2⟩ | ⟨tt, a, e1, e2, ha⟩
        · rw [e2]
          have c1 : chg1 F l = [] := by unfold chg1; rw [e1]
          have c2 : rem1 F l = [] := by unfold rem1; rw [e1]
          rw [c1, c2, List.append_nil, List.append_nil]
          refine ⟨_, rfl, itbT rfl ⟨⟨_, _, _, _, _, _, _, _, rfl⟩, tw, m1, m2⟩⟩
        have gv : ∀ {J : Hp}, J D = some (.dK (dkv m)) → DGet J D (.int l.n) (some (.ref a)) := fun hJ => by rw [← e2]; exact gv hJ
        rw [e2]
        refine ⟨_, rfl, itbF rfl ⟨_, rfl, rfl, _, rfl, ?_⟩⟩
        have hx1 := Two.refl m1 m2
        cases hW : l.w with
        | none =>
          rw [hW] at hw
          obtain rfl : wv = .non := hw
          have c1 : chg1 F l = [] := by unfold chg1; rw [e1, hW]
          have c2 : rem1 F l = [.rem [l.n]] := by unfold rem1; rw [e1, hW]
          rw [c1, c2, List.append_nil]
          obtain ⟨y2, h2, d2⟩ := m2.len
          refine itbT rfl ?_
          refine ⟨_, rfl, .inl ⟨rfl, _, sq h2⟩, ?_⟩
          refine ⟨_, rfl, by show 1 ≤ sizeLine; decide, fun U nU => ⟨by show 2 ≤ sizeLine; decide, fun V' nV => ?_⟩⟩
          have t1 := same_new nU (o := .tup [.int l.n])
          have t2 := same_new nV (o := .tup [.str "remove", .ref U])
          have h2' := t2 _ _ (t1 _ _ h2)
          have t12 := t1.trans t2
          have hU := t2 U _ upd_same
          have hV : _ = some (HO.tup [.str "remove", .ref U]) := upd_same (H := upd G U (.tup [.int l.n])) (a := V')
          generalize upd (upd G U (.tup [.int l.n])) V' (.tup [.str "remove", .ref U]) = G6 at t12 h2' hU hV
          refine ⟨C2, y2, _, rfl, rfl, h2', lt1 _ (by omega), ?_⟩
          have dv : Dv G6 (.ref V') (ddT (.rem [l.n])) := .tup hV (.cons (.str _) (.cons (.tup hU (.cons (.int _) .nil)) .nil))
          exact ⟨⟨_, _, _, _, _, _, _, _, rfl⟩, (tw.same t12).m2, (m1.same t12).other ne12 h2', (m2.same t12).push h2' dv⟩
        | some ww =>
          rw [hW] at hw
          obtain ⟨wa, rfl, hwa⟩ := hw
          have c1 : chg1 F l = chgD l.n l.s tt ww := by unfold chg1; rw [e1, hW]
          have c2 : rem1 F l = [] := by unfold rem1; rw [e1, hW]
          rw [c1, c2, List.append_nil]
          have okw := (okl.w ww hW).len
          have oks := okl.s.len
          refine itbF rfl ?_
          generalize hp1 : (c.ls.take j).flatMap (chg1 F) = pre at m1 lp
          generalize hp2 : (c.ls.take j).flatMap (rem1 F) = prr at m2 lr
          have nwv : ∀ {b : Addr} {zs : List V} {J : Hp}, G b = some (.tup zs) → Two C1 C2 G J → J b = some (.tup zs) := fun h t => t.get h fun _ z => by cases z
          have nwd : ∀ {J : Hp}, Two C1 C2 G J → J D = some (.dK (dkv m)) := fun t => t.k _ _ nDC1 nDC2 hDG
          refine ⟨fun σ J => (∃ v11, σ = [some (.ref x), some (.ref p), some (.ref R), some (.ref D), v4, some (.ref C1), some (.ref C2), some (.int l.n), some (.int l.b), some (.ref sa), some (.ref wa), v11, v12, v13]) ∧ Two C1 C2 G J ∧ LD J C1 (pre ++ (addZ l.s tt ww).map (fun z => Dd.add [l.n] z)) ∧ LD J C2 prr, ?_, ?_⟩
          · refine ⟨_, rfl, wa, rfl, ⟨_, st hwa⟩, for_tup (K := K) (a := wa) (xs := ww.map V.str) (fun i σ J => (∃ v11, σ = [some (.ref x), some (.ref p), some (.ref R), some (.ref D), v4, some (.ref C1), some (.ref C2), some (.int l.n), some (.int l.b), some (.ref sa), some (.ref wa), v11, v12, v13]) ∧ Two C1 C2 G J ∧ LD J C1 (pre ++ (addZ l.s tt (ww.take i)).map (fun z => Dd.add [l.n] z)) ∧ LD J C2 prr) ?_ ?_ ?_ ?_⟩
            · exact ⟨⟨_, rfl⟩, hx1, by show LD G C1 (pre ++ []); rw [List.append_nil]; exact m1, m2⟩
            · rintro i σ J _ ⟨_, tj, _, _⟩
              exact st (nwv hwa tj)
            · rintro i y σ J hy ⟨⟨v11, rfl⟩, tj, j1, j2⟩
              rw [List.getElem?_map] at hy
              obtain ⟨z, hz, rfl⟩ := Option.map_eq_some_iff.mp hy
              have ez : addZ l.s tt (ww.take (i + 1)) = addZ l.s tt (ww.take i) ++ (if (!decide (z ∈ l.s) && !decide (z ∈ tt)) = true then [z] else []) := filt_take _ hz
              rw [ez]
              have la := List.length_filter_le (fun z => !decide (z ∈ l.s) && !decide (z ∈ tt)) (ww.take i)
              rw [List.length_take] at la
              refine ⟨_, rfl, _, rfl, sa, _, rfl, .inr (st (nwv hsa tj)), rfl, flat_strs _, _, rfl, ?_⟩
              show (if (!inV (.str z) (l.s.map V.str)) = true then _ else _)
              rw [inV_strs]
              by_cases z1 : z ∈ l.s
              · rw [decide_eq_true z1]
                refine itbF rfl (itbF rfl ⟨⟨_, rfl⟩, tj, by rw [if_neg (by simp), List.append_nil]; exact j1, j2⟩)
              rw [decide_eq_false z1]
              refine itbT rfl ⟨_, rfl, _, rfl, _, rfl, D, _, rfl, gv (nwd tj), a, _, rfl, .inr (st (nwv ha tj)), rfl, flat_strs _, _, rfl, ?_⟩
              show (if (!inV (.str z) (tt.map V.str)) = true then _ else _)
              rw [inV_strs]
              by_cases z2 : z ∈ tt
              · rw [decide_eq_true z2]
                refine itbF rfl ⟨⟨_, rfl⟩, tj, by rw [if_neg (by simp), List.append_nil]; exact j1, j2⟩
              rw [decide_eq_false z2]
              obtain ⟨y1, h1, d1⟩ := j1.len
              rw [List.length_append, List.length_map] at d1
              have d1' : y1.length ≤ 20000 := by rw [d1]; unfold addZ; omega
              refine itbT rfl ⟨_, rfl, .inl ⟨rfl, _, sq h1⟩, _, rfl, by show 1 ≤ sizeLine; decide, fun U nU => ⟨_, rfl, by show 3 ≤ sizeLine; decide, fun V' nV => ?_⟩⟩
              have t1 := same_new nU (o := .tup [.int l.n])
              have t2 := same_new nV (o := .tup [.str "add", .ref U, .str z])
              have h1' := t2 _ _ (t1 _ _ h1)
              have t12 := t1.trans t2
              have hU := t2 U _ upd_same
              have hV : _ = some (HO.tup [.str "add", .ref U, .str z]) := upd_same (H := upd J U (.tup [.int l.n])) (a := V')
              generalize upd (upd J U (.tup [.int l.n])) V' (.tup [.str "add", .ref U, .str z]) = G6 at t12 h1' hU hV
              refine ⟨C1, y1, _, rfl, rfl, h1', lt1 _ (by omega), ?_⟩
              have dv : Dv G6 (.ref V') (ddT (.add [l.n] z)) := .tup hV (.cons (.str _) (.cons (.tup hU (.cons (.int _) .nil)) (.cons (.str _) .nil)))
              refine ⟨⟨_, rfl⟩, (tj.same t12).m1, ?_, (j2.same t12).other ne12.symm h1'⟩
              have := (j1.same t12).push h1' dv
              rw [List.append_assoc] at this
              rw [if_pos (show (!false && !false) = true from rfl), List.map_append]; exact this
            · rintro σ J ⟨⟨v11, rfl⟩, tj, j1, j2⟩
              rw [List.length_map, List.take_length] at j1
              exact ⟨⟨_, rfl⟩, tj, j1, j2⟩
          rintro σ J0 ⟨⟨v11, rfl⟩, t0, j1, j2⟩
          have b1 := List.length_filter_le (fun z => !decide (z ∈ l.s) && !decide (z ∈ tt)) ww
          refine ⟨_, rfl, sa, rfl, ⟨_, st (nwv hsa t0)⟩, for_tup (K := K) (a := sa) (xs := l.s.map V.str) (fun i σ J => (∃ v11, σ = [some (.ref x), some (.ref p), some (.ref R), some (.ref D), v4, some (.ref C1), some (.ref C2), some (.int l.n), some (.int l.b), some (.ref sa), some (.ref wa), v11, v12, v13]) ∧ Two C1 C2 G J ∧ LD J C1 (pre ++ ((addZ l.s tt ww).map (fun z => Dd.add [l.n] z) ++ (takeZ (l.s.take i) tt ww).map (fun z => Dd.take [l.n] z))) ∧ LD J C2 prr) ?_ ?_ ?_ ?_⟩
          · refine ⟨⟨_, rfl⟩, t0, ?_, j2⟩
            show LD J0 C1 (pre ++ (_ ++ []))
            rw [List.append_nil]; exact j1
          · rintro i σ J _ ⟨_, tj, _, _⟩
            exact st (nwv hsa tj)
          · rintro i y σ J hy ⟨⟨v11, rfl⟩, tj, j1, j2⟩
            rw [List.getElem?_map] at hy
            obtain ⟨z, hz, rfl⟩ := Option.map_eq_some_iff.mp hy
            have ez : takeZ (l.s.take (i + 1)) tt ww = takeZ (l.s.take i) tt ww ++ (if (!decide (z ∈ ww) && decide (z ∈ tt)) = true then [z] else []) := filt_take _ hz
            rw [ez]
            have la := List.length_filter_le (fun z => !decide (z ∈ ww) && decide (z ∈ tt)) (l.s.take i)
            rw [List.length_take] at la
            refine ⟨_, rfl, _, rfl, wa, _, rfl, .inr (st (nwv hwa tj)), rfl, flat_strs _, _, rfl, ?_⟩
            show (if (!inV (.str z) (ww.map V.str)) = true then _ else _)
            rw [inV_strs]
            by_cases z1 : z ∈ ww
            · rw [decide_eq_true z1]
              refine itbF rfl (itbF rfl ⟨⟨_, rfl⟩, tj, by rw [if_neg (by simp), List.append_nil]; exact j1, j2⟩)
            rw [decide_eq_false z1]
            refine itbT rfl ⟨_, rfl, _, rfl, _, rfl, D, _, rfl, gv (nwd tj), a, _, rfl, .inr (st (nwv ha tj)), rfl, flat_strs _, _, rfl, ?_⟩
            show (if inV (.str z) (tt.map V.str) = true then _ else _)
            rw [inV_strs]
            by_cases z2 : ¬ z ∈ tt
            · rw [decide_eq_false z2]
              refine itbF rfl ⟨⟨_, rfl⟩, tj, by rw [if_neg (by simp), List.append_nil]; exact j1, j2⟩
            have z2 := Decidable.not_not.mp z2
            rw [decide_eq_true z2]
            obtain ⟨y1, h1, d1⟩ := j1.len
            rw [List.length_append, List.length_append, List.length_map, List.length_map] at d1
            have d1' : y1.length ≤ 20000 := by rw [d1]; unfold addZ takeZ; omega
            refine itbT rfl ⟨_, rfl, .inl ⟨rfl, _, sq h1⟩, _, rfl, by show 1 ≤ sizeLine; decide, fun U nU => ⟨_, rfl, by show 3 ≤ sizeLine; decide, fun V' nV => ?_⟩⟩
            have t1 := same_new nU (o := .tup [.int l.n])
            have t2 := same_new nV (o := .tup [.str "take", .ref U, .str z])
            have h1' := t2 _ _ (t1 _ _ h1)
            have t12 := t1.trans t2
            have hU := t2 U _ upd_same
            have hV : _ = some (HO.tup [.str "take", .ref U, .str z]) := upd_same (H := upd J U (.tup [.int l.n])) (a := V')
            generalize upd (upd J U (.tup [.int l.n])) V' (.tup [.str "take", .ref U, .str z]) = G6 at t12 h1' hU hV
            refine ⟨C1, y1, _, rfl, rfl, h1', lt1 _ (by omega), ?_⟩
            have dv : Dv G6 (.ref V') (ddT (.take [l.n] z)) := .tup hV (.cons (.str _) (.cons (.tup hU (.cons (.int _) .nil)) (.cons (.str _) .nil)))
            refine ⟨⟨_, rfl⟩, (tj.same t12).m1, ?_, (j2.same t12).other ne12.symm h1'⟩
            have := (j1.same t12).push h1' dv
            rw [List.append_assoc, List.append_assoc] at this
            rw [if_pos (show (!false && true) = true from rfl), List.map_append]; exact this
          · rintro σ J ⟨⟨v11, rfl⟩, tj, j1, j2⟩
            rw [List.length_map, List.take_length] at j1
            exact ⟨⟨_, _, _, _, _, _, _, _, rfl⟩, ⟨fun b o n1 n2 h => tj.k b o n1 n2 (tw.k b o n1 n2 h), tw.l1, tw.l2⟩, j1, j2⟩
      · rintro σ G ⟨hσ, tw, m1, m2⟩
        rw [lx2, List.take_length] at m1 m2
        exact ⟨hσ, tw.pre s6 w4.l1 w4.l2, m1, m2⟩
    rintro σ G ⟨⟨v4, v7, v8, v9, v10, v11, v12, v13, rfl⟩, tw, ⟨y1, h1, d1⟩, ⟨y2, h2, d2⟩⟩
    obtain ⟨y3, h3, d3⟩ := ldR.to tw.tu fun o h => tw.k _ _ nRC1 nRC2 h
    have l1 := d1.len
    have l2 := d2.len
    have l3 := d3.len
    rw [List.length_map] at l1 l2 l3
    have b1 := pre_len (F := F) ok.ls c.ls.length
    have b2 := rem_len (F := F) ok.ls c.ls.length
    rw [List.take_length] at b1 b2
    have b3 : (madeD c).length = c.md.length := List.length_map _
    refine ⟨_, rfl, _, rfl, C1, C2, y1, y2, rfl, rfl, h1, h2, Nat.le_of_lt (lt1 _ (by omega)), fun A1 nA => ⟨_, rfl, A1, R, _, y3, rfl, rfl, upd_same, same_new nA _ _ h3, Nat.le_of_lt (lt1 _ (by rw [List.length_append]; omega)), fun A2 nA2 => ?_⟩⟩
    have sH : Same H G := fun b o hb => tw.k b o (fun e => by rw [e, n1H] at hb; cases hb) (fun e => by rw [e, n2H] at hb; cases hb) (s5 _ _ hb)
    have t1 := same_new (H := G) nA (o := .lst (y1 ++ y2))
    have t2 := same_new nA2 (o := .lst ((y1 ++ y2) ++ y3))
    refine q A2 _ ((sH.trans t1).trans t2) ((sH.trans t1).free nA2) ⟨_, upd_same, ?_⟩
    unfold sentM
    rw [if_pos ca, List.map_append, List.map_append]
    exact ((d1.app d2).app d3).same (t1.trans t2)
end
end K1
set_option Elab.async false
set_option linter.all false
set_option maxRecDepth 100000
set_option maxHeartbeats 8000000
/-! _check_copy, _check_copies, stepped. -/
namespace K1
open PySem PySem.Spec PyProof.Rows L2 RZ StX
noncomputable abbrev sKc : Stmt := st__check_copy
noncomputable abbrev sStp : Stmt := st_stepped
noncomputable abbrev pKc : List Str := ["copy"]
noncomputable abbrev nStp : List Str := ["copy", "folder", "sent", "there", "letter", "is_same", "lost", "number", "_", "base", "wanted"]
noncomputable abbrev pStp : List Str := ["copy", "folder"]
theorem scKc : FnScope pKc pKc (defScope sKc) := ⟨rfl, rfl, rfl, by decide +kernel, rfl, by decide +kernel, by decide +kernel⟩
theorem scStp : FnScope nStp pStp (defScope sStp) := ⟨rfl, rfl, rfl, by decide +kernel, rfl, by decide +kernel, by decide +kernel⟩
noncomputable def CpV (K : PySem.W.Frag) (CC : Addr) (G : Hp) (v : V) (c : Cp) : Prop := ∃ a, v = .ref a ∧ CpAt K CC G a c
theorem CpV.ti {K : PySem.W.Frag} {CC : Addr} {G J : Hp} {v : V} {c : Cp} (h : CpV K CC G v c) (t : TI G J) : CpV K CC J v c := let ⟨a, e, k⟩ := h; ⟨a, e, k.ti t⟩
noncomputable def spKc (K : PySem.W.Frag) (CC : Addr) : Sp := fun vs H Q _ => ∃ (x : Addr) (c : Cp), vs = [.ref x] ∧ CpAt K CC H x c ∧ Q .non H
/-- what stepped tells -/
structure StAt (K : PySem.W.Frag) (C CC : Addr) (G : Hp) (r : Addr) (c : Cp) (F : Fo) (y q sa la : Addr) : Prop where
  at_ : G r = some (.tup [.ref y, .ref q, .ref sa, .ref la])
  y : CpAt K CC G y (cpF (stepM c F))
  q : FoAt C G q (stepM c F)
  s : ∃ xs, G sa = some (.tup xs) ∧ DvA G xs ((sentM c F).map ddT)
  l : G la = some (.tup ((lostM c F).map V.int))
noncomputable def spStp (K : PySem.W.Frag) (C CC PA PT PS : Addr) : Sp := fun vs H Q _ => ∃ (x p : Addr) (c : Cp) (F : Fo) (k b : Nat), vs = [.ref x, .ref p] ∧ CpAt K CC H x c ∧ OkCp c ∧ CW4 c ∧ (sentM c F).length ≤ b ∧ FoAt C H p F ∧ GA k F ∧ k + b ≤ 900 ∧ LamX.Tabs (T3 PA PT PS) H ∧
  ∀ r y q' sa la H', LamX.ExtN H H' → LamX.Tabs (T3 PA PT PS) H' → StAt K C CC H' r c F y q' sa la → Q (.ref r) H'
theorem sent_num {c : Cp} {F : Fo} (o : OkCp c) : ∀ d ∈ sentM c F, NumD d := by
  intro d hd
  have one : ∀ l ∈ c.ls, (∀ n ∈ [l.n], 1 ≤ n) ∧ ([l.n] : List Int).length ≤ 1000 := fun l hl => ⟨fun n hn => by rw [List.mem_singleton.mp hn]; exact (o.ls.ok l hl).n, Nat.le_of_ble_eq_true rfl⟩
  unfold sentM at hd
  rcases List.mem_append.mp hd with hd | hd
  · split at hd
    · rcases List.mem_append.mp hd with hd | hd
      · obtain ⟨l, hl, hd⟩ := List.mem_flatMap.mp hd
        unfold chg1 at hd
        split at hd
        · rcases List.mem_append.mp hd with hd | hd
          · obtain ⟨y, hy, rfl⟩ := List.mem_map.mp hd; exact one l hl
          · obtain ⟨y, hy, rfl⟩ := List.mem_map.mp hd; exact one l hl
        · cases hd
      · obtain ⟨l, hl, hd⟩ := List.mem_flatMap.mp hd
        unfold rem1 at hd
        split at hd
        · rw [List.mem_singleton.mp hd]; exact one l hl
        · cases hd
    · cases hd
  · obtain ⟨m, hm, rfl⟩ := List.mem_map.mp hd; trivial
/-- what is sent, told as deeds -/
theorem sent_dds {c : Cp} {F : Fo} {G : Hp} {xs : List V} (o : OkCp c) (z : CW4 c) (h : DvA G xs ((sentM c F).map ddT)) : DdsAt G xs (sentM c F) := dds_at h fun d hd => ⟨(sent_ok o z d hd).1, sent_num o d hd⟩
theorem ga_stepB {k b : Nat} {c : Cp} {F : Fo} (g : GA k F) (o : OkCp c) (z : CW4 c) (l : (sentM c F).length ≤ b) (hk : k + b ≤ 900) : GA (k + b) (stepM c F) := (ga_doesL (by omega) g (sent_ok o z)).mono (by omega)
/-- numbers that are there -/
noncomputable def thereT (F : Fo) : KVs := F.ls.map fun l => (l.n, V.bl true)
theorem thereT_look (F : Fo) (n : Int) : (lookN (thereT F) n).isSome = (sgN F n).isSome := by
  unfold lookN sgN thereT
  induction F.ls with
  | nil => rfl
  | cons l r ih =>
    rw [List.map_cons]
    by_cases c : l.n = n
    · rw [List.find?_cons_of_pos (by exact decide_eq_true c), List.find?_cons_of_pos (by exact decide_eq_true c)]; rfl
    · rw [List.find?_cons_of_neg (by simp [c]), List.find?_cons_of_neg (by simp [c])]; exact ih
section
variable {P : Program} {w : World} {K : PySem.W.Frag} {mg : Str → Option Value} {base : Heap} {C CC PA PT PS : Addr}
theorem ok_kc {f : Addr} {fd : FuncData} (T : Bk mg) (tc : CcT K mg CC) (iC : C8.InsC K CC) (F : Fun K "_check_copy" "_check_copy" sKc f fd) : FnOk P w K mg base CX0 1 f fd pKc (spKc K CC) := by
  refine F.ok scKc (fun vs H Q E h => ?_) (fun cdv A outer s H vs Q E hr h => ?_)
  · obtain ⟨x, c, rfl, _⟩ := h
    rfl
  · obtain ⟨x, c, rfl, hc, q⟩ := h
    refine ⟨_, (pss_one (ps_if (pt_not (pt_val (pe_callB (C8.call_isC iC) (by rfl) T.isinstance PyProof.Rows.boot_isinstance (pa_cons (pv 0) (pa_cons (pe_glob (v := .ref CC) rfl tc.gC rfl) pa_nil))))) pss_any pss_nil)), ?_⟩
    obtain ⟨dx, fs, hx, _⟩ := hc.no
    exact ⟨_, rfl, x, dx, _, rfl, hx, _, rfl, itbF rfl q⟩
set_option maxHeartbeats 32000000 in
theorem ok_stp {f : Addr} {fd : FuncData} (T : Bk mg) (t : ClT K mg C) (tc : CcT K mg CC) (M_age : MDef P w K mg base CX0 1 CC "age" nSelf (spCAge K CC)) (M_letters : MDef P w K mg base CX0 1 CC "letters" nSelf (spCLet K CC))
    (N_age : MDef P w K mg base CX0 1 C "age" nSelf (spAge C)) (N_letters : MDef P w K mg base CX0 1 C "letters" nSelf (spLetters C))
    (D_kc : Def P w K mg base CX0 1 "_check_copy" pKc (spKc K CC)) (D_cf : Def P w K mg base CX0 1 "_check_folder" pCo (spCf C)) (D_sent : Def P w K mg base CX0 2 "_sent" pSe (spSe K C CC))
    (D_played : Def P w K mg base CX0 10 "played" pPlayed (spPlayed C PA PT PS)) (D_copy_of : Def P w K mg base CX0 6 "copy_of" pCo (spCo K C CC))
    (F : Fun K "stepped" "stepped" sStp f fd) : FnOk P w K mg base CX0 11 f fd pStp (spStp K C CC PA PT PS) := by
  have nd := scStp.nd
  refine F.ok scStp (fun vs H Q E h => ?_) (fun cdv A outer s H vs Q E hr h => ?_)
  · obtain ⟨x, p, c, F, k, b, rfl, _⟩ := h
    rfl
  · obtain ⟨x, p, c, F, k, b, rfl, hc, ok, zz, ln, hF, ga, k9, hT, q⟩ := h
    refine ⟨_, (pss_cons (ps_expr (pe_def D_kc (hr.mono (by decide)) rfl pass0 (pa_cons (pv 0) pa_nil)))
 (pss_cons (ps_expr (pe_def D_cf (hr.mono (by decide)) rfl pass0 (pa_cons (pv 1) pa_nil)))
 (pss_cons (ps_set (i := 2) nd rfl (Or.inl rfl) (pe_def D_sent (hr.mono (by decide)) rfl pass0 (pa_cons (pv 0) (pa_cons (pv 1) pa_nil))))
 (pss_cons (ps_setDcK (i := 3) (own := [("letter", 4)]) (g := gName 4) (tt := tYes) rfl nd rfl rfl (sw_trueD rfl rfl rfl (by decide +kernel)) (pi_listK (K := K) rfl (pe_mdef0 N_letters t.cl (hr.mono (by decide)) pass0 (pv 1))) (blkOk_by (own := [("letter", 4)]) (N := nStp) (sc := defScope sStp) (by decide +kernel)) (fun _ _ _ _ _ => pg_name (i := 4) nd rfl (Or.inl rfl)) (fun _ _ _ _ _ => pts_nil) (fun _ _ _ _ _ => pe_ix (ix_tupK (K := K) rfl) (pv 4) pe_int (fun _ _ => rfl)) (fun _ _ _ _ _ => pe_bl))
 (pss_cons (ps_set (i := 5) nd rfl (Or.inl rfl) (pe_cmpR op_eq (pe_mdef0 M_age tc.cl (hr.mono (by decide)) pass0 (pv 0)) (pe_mdef0 N_age t.cl (hr.mono (by decide)) pass0 (pv 1)) (nomark _)))
 (pss_cons (ps_set (i := 6) nd rfl (Or.inl rfl) (pe_lst pa_nil))
 (C8.pss_cut (ps_for PassesOwn.never rfl (pi_listK (K := K) rfl (pe_mdef0 M_letters tc.cl (hr.mono (by decide)) pass0 (pv 0))) (pg_tup rfl (pgs_cons (pg_name (i := 7) nd rfl (Or.inl rfl)) (pgs_cons (pg_name (i := 8) nd rfl (Or.inl rfl)) (pgs_cons (pg_name (i := 9) nd rfl (Or.inl rfl)) (pgs_cons (pg_name (i := 10) nd rfl (Or.inl rfl)) pgs_nil)))))
  (pss_one (ps_if (PW.pt (pw_and (pt_cmpR (op_neDK (K := K) rfl hr.units) (pv 10) (pv 9) (nomark _)) (pw_and1 (pt_not (PW.pt (pw_and (pt_val (pv 5)) (pw_and1 (pt_cmp (pc_din (hu_of hr) (pv 7) (pv 3))))))))))
  (pss_one (ps_expr (pe_bm PySem.F.plainAttrs_list PySem.F.slot_list_append PySem.F.type_list_append mt_append (pv 6) (pa_cons (pv 7) pa_nil))))
  pss_nil)))
 (pss_cons (ps_set (i := 1) nd rfl (Or.inl rfl) (pe_def D_played (hr.mono (by decide)) rfl pass0 (pa_cons (pv 1) (pa_cons (pv 2) pa_nil))))
 (pss_one (ps_ret (pe_tup (pa_cons (pe_def D_copy_of (hr.mono (by decide)) rfl pass0 (pa_cons (pv 1) pa_nil)) (pa_cons (pv 1) (pa_cons (pe_callTy (call_tuple_ofK (K := K) rfl) (by rfl) T.tuple PyProof.Rows.boot_tuple (pa_cons (pv 2) pa_nil)) (pa_cons (pe_callTy (call_tuple_ofK (K := K) rfl) (by rfl) T.tuple PyProof.Rows.boot_tuple (pa_cons (pv 6) pa_nil)) pa_nil))))))))))))))), ?_⟩
    obtain ⟨dcx, fcs, hx, nox⟩ := hc.no
    obtain ⟨dx, tl, tg, hp, _⟩ := id hF
    have lF := ga.g.wf.len
    have lc := ok.ls.len
    refine ⟨_, rfl, x, c, rfl, hc, _, rfl, p, F, rfl, hF, _, rfl, _, rfl, x, p, c, F, k, rfl, hc, ok, hF, ga, by omega, fun S H1 s1 _ ldS => ?_⟩
    refine ⟨_, rfl, p, dx, _, rfl, s1 _ _ hp, fl_no (by decide +kernel), p, F, rfl, hF.same s1, fun l1 G1 s2 nl1 hL => ?_⟩
    obtain ⟨zs, hl1, dzs⟩ := Dv.lsts hL
    have lzs := dzs.len
    rw [List.length_map] at lzs
    refine ⟨l1, rfl, ⟨_, sq hl1⟩, fun D nD => ?_⟩
    have Dl : l1 ≠ D := fun e => by rw [e, nD] at hl1; cases hl1
    refine dc_it (walk_list (K := K) (a := l1) (xs := zs)) (fun i G => (∀ b o, b ≠ D → G1 b = some o → G b = some o) ∧ G D = some (.dK (dkv ((F.ls.take i).map fun l => (l.n, V.bl true))))) ⟨fun b o nb h => by rw [upd_ne nb]; exact h, upd_same⟩ (fun i G _ h => sq (h.1 _ _ Dl hl1)) ?_ ?_
    · rintro i y G2 G3 hi ⟨kp, hD⟩ ⟨rfl, hy⟩
      obtain ⟨l, hl, hv⟩ := dzs.getD' hy
      obtain ⟨ta, sa, rfl, hta, hsa⟩ := dv_lt hv
      have nTD : ta ≠ D := fun e => by rw [e, nD] at hta; cases hta
      have hta2 := kp _ _ nTD hta
      have nm : l.n ∉ ((F.ls.take i).map fun l => (l.n, V.bl true)).map (·.1) := by
        rw [List.map_map]
        intro z
        have pw := ga.a.up
        rw [take_sub hl, List.map_append, List.map_cons, List.pairwise_append] at pw
        have := pw.2.2 l.n z l.n List.mem_cons_self
        omega
      refine ⟨rfl, tyes ⟨_, rfl, ta, _, 0, .int l.n, rfl, rfl, st hta2, atI_nat (j := 0) rfl, _, Sum.inl l.n, rfl, hD, by rw [dkv_len, List.length_map, List.length_take]; exact lt1 _ (by omega), fun b o nb h => by rw [upd_ne nb]; exact kp b o nb h, ?_⟩⟩
      rw [upd_same, dkv_snoc nm, List.take_add_one, hl, List.map_append]; rfl
    rintro G2 ⟨kp, hD⟩
    rw [show zs.length = F.ls.length from lzs, List.take_length] at hD
    change G2 D = some (.dK (dkv (thereT F))) at hD
    have s02 := s1.trans s2
    have nDH : H D = none := s02.free nD
    have s3 : Same H G2 := fun b o hb => kp b o (fun e => by rw [e, nDH] at hb; cases hb) (s02 _ _ hb)
    have SD : S ≠ D := fun e => by
      obtain ⟨_, h, _⟩ := ldS
      have := s2 _ _ h
      rw [e, nD] at this; cases this
    have tkp : TU G1 G2 := fun b xs h => kp b _ (fun e => by rw [e, nD] at h; cases h) h
    have ldS : LD G2 S (sentM c F) := (ldS.same s2).to tkp fun o h => kp _ _ SD h
    clear hL hl1 Dl nl1 dzs lzs tkp kp nD s02 s2 s1
    refine name_go' ?_
    dsimp only
    refine ⟨_, rfl, x, dcx, _, rfl, s3 _ _ hx, nox (by decide +kernel), x, c, rfl, hc.same s3, _, rfl, p, dx, _, rfl, s3 _ _ hp, fl_no (by decide +kernel), p, F, rfl, hF.same s3, rfl, ?_⟩
    refine ⟨Nat.zero_le _, fun L nL => ?_⟩
    have sL := same_new nL (o := .lst [])
    have s4 := s3.trans sL
    have hD := sL _ _ hD
    have LS : S ≠ L := fun e => by obtain ⟨_, h, _⟩ := ldS; rw [e, nL] at h; cases h
    have ldS := ldS.same sL
    have hL : upd G2 L (.lst []) L = some (HO.lst ((([] : List Int).map V.int))) := upd_same
    have nLH := s3.free nL
    generalize upd G2 L (.lst []) = G3 at s4 hD ldS hL
    have LD' : D ≠ L := fun e => by rw [e, hL] at hD; cases hD
    clear s3 sL nL
    obtain ⟨xsS, hS0, dS0⟩ := ldS
    refine ⟨fun σ G => (∃ v4 v7 v8 v9 v10, σ = [some (.ref x), some (.ref p), some (.ref S), some (.ref D), v4, some (.bl (decide (V.int c.age = V.int F.age))), some (.ref L), v7, v8, v9, v10]) ∧ (∀ b o, b ≠ L → G3 b = some o → G b = some o) ∧ G L = some (.lst ((lostM c F).map V.int)), ?_, ?_⟩
    · refine ⟨_, rfl, x, dcx, _, rfl, s4 _ _ hx, nox (by decide +kernel), x, c, rfl, hc.same s4, fun l2 xs2 G5 s6 nl2 hl2 dl2 => ⟨l2, rfl, ⟨_, sq hl2⟩, ?_⟩⟩
      have n2L : l2 ≠ L := fun e => by rw [e, hL] at nl2; cases nl2
      have lx2 := dl2.len
      rw [List.length_map] at lx2
      refine for_list (K := K) (a := l2) (xs := xs2) (fun j σ G => (∃ v4 v7 v8 v9 v10, σ = [some (.ref x), some (.ref p), some (.ref S), some (.ref D), v4, some (.bl (decide (V.int c.age = V.int F.age))), some (.ref L), v7, v8, v9, v10]) ∧ (∀ b o, b ≠ L → G5 b = some o → G b = some o) ∧ G L = some (.lst ((((c.ls.take j).filter (lost1 c F)).map (·.n)).map V.int))) ?_ ?_ ?_ ?_
      · exact ⟨⟨_, _, _, _, _, rfl⟩, fun _ _ _ h => h, s6 _ _ hL⟩
      · rintro j σ G _ ⟨_, kp, _⟩
        exact sq (kp _ _ n2L hl2)
      · rintro j y σ G hy ⟨⟨v4, v7, v8, v9, v10, rfl⟩, kp, hLG⟩
        obtain ⟨l, hl, hv⟩ := dl2.getD' hy
        have hL5 := s6 _ _ hL
        have tu : TU G5 G := fun b zs h => kp b _ (fun e => by rw [e, hL5] at h; cases h) h
        obtain ⟨ta, sa, wv, rfl, hta, hsa, hw⟩ := dv_cl (hv.tu tu (tO_cl l))
        have okl := ok.ls.ok l (List.mem_of_getElem? hl)
        have hDG := kp _ _ LD' (s6 _ _ hD)
        have gv : DGet G D (.int l.n) (lookN (thereT F) l.n) := by
          have := DGet.k (k := Sum.inl l.n) hDG
          rw [dkv_val] at this
          exact this
        have ll : (((((c.ls.take j).filter (lost1 c F)).map (·.n)).map V.int)).length ≤ 900 := by
          rw [List.length_map, List.length_map]
          have := List.length_filter_le (lost1 c F) (c.ls.take j)
          rw [List.length_take] at this
          omega
        rw [filt_take (lost1 c F) hl]
        refine ⟨ta, _, rfl, st hta, rfl, _, _, rfl, _, _, rfl, _, _, rfl, _, _, rfl, rfl, ?_⟩
        have lw := lay_w okl.w
        have lsD := lay_w (w := some l.s) (fun ss e => by rw [← Option.some.inj e]; exact okl.s)
        refine ⟨_, rfl, _, rfl, wD l.w, wD (some l.s), (wv_dv hw).dp lw.nd, (wv_dv (v := .ref sa) (w := some l.s) ⟨sa, rfl, hsa⟩).dp lsD.nd, lw.sh, lsD.sh, _, rfl, ?_⟩
        rw [eqv_w]
        by_cases e1 : l.w = some l.s
        · rw [decide_eq_true e1]
          have e0 : lost1 c F l = false := by unfold lost1; rw [decide_eq_false (by simpa using e1)]; rfl
          refine itbF rfl (itbF rfl ⟨⟨_, _, _, _, _, rfl⟩, kp, ?_⟩)
          rw [if_neg (by rw [e0]; simp), List.append_nil]; exact hLG
        rw [decide_eq_false e1]
        refine itbT rfl ⟨_, rfl, _, rfl, ?_⟩
        have yes : lost1 c F l = true → G L = some (.lst ((((c.ls.take j).filter (lost1 c F)).map (·.n)).map V.int)) → (upd G L (.lst (((((c.ls.take j).filter (lost1 c F)).map (·.n)).map V.int) ++ [.int l.n]))) L = some (.lst ((((c.ls.take j).filter (lost1 c F) ++ if lost1 c F l = true then [l] else []).map (·.n)).map V.int)) := fun e _ => by
          rw [upd_same, if_pos e, List.map_append, List.map_append]; rfl
        by_cases ea : c.age = F.age
        · rw [decide_eq_true (by rw [ea])]
          refine itbT rfl ⟨_, rfl, _, rfl, D, _, rfl, gv, _, rfl, ?_⟩
          rw [thereT_look]
          cases e3 : (sgN F l.n).isSome with
          | true =>
            have e0 : lost1 c F l = false := by unfold lost1; rw [e3, decide_eq_true ea]; simp
            refine itbF rfl ⟨⟨_, _, _, _, _, rfl⟩, kp, ?_⟩
            rw [if_neg (by rw [e0]; simp), List.append_nil]; exact hLG
          | false =>
            have e0 : lost1 c F l = true := by unfold lost1; rw [e3, decide_eq_true (by simpa using e1)]; simp
            refine itbT rfl ⟨_, rfl, .inl ⟨rfl, _, sq hLG⟩, _, rfl, L, _, _, rfl, rfl, hLG, lt1 _ (by omega), ⟨_, _, _, _, _, rfl⟩, fun b o nb h => by rw [upd_ne nb]; exact kp b o nb h, yes e0 hLG⟩
        · rw [decide_eq_false (fun e => ea (V.int.inj e))]
          have e0 : lost1 c F l = true := by unfold lost1; rw [decide_eq_false ea, decide_eq_true (by simpa using e1)]; rfl
          refine itbF rfl (itbT rfl ⟨_, rfl, .inl ⟨rfl, _, sq hLG⟩, _, rfl, L, _, _, rfl, rfl, hLG, lt1 _ (by omega), ⟨_, _, _, _, _, rfl⟩, fun b o nb h => by rw [upd_ne nb]; exact kp b o nb h, yes e0 hLG⟩)
      · rintro σ G ⟨hσ, kp, hLG⟩
        rw [lx2, List.take_length] at hLG
        exact ⟨hσ, fun b o nb h => kp b o nb (s6 _ _ h), hLG⟩
    rintro σ G ⟨⟨v4, v7, v8, v9, v10, rfl⟩, kp, hLG⟩
    have sH : Same H G := fun b o hb => kp b o (fun e => by rw [e, nLH] at hb; cases hb) (s4 _ _ hb)
    have tu : TU G3 G := fun b zs h => kp b _ (fun e => by rw [e, hL] at h; cases h) h
    have hSG := kp _ _ LS hS0
    have dSG := dS0.tu tu (tO_dds _)
    refine ⟨_, rfl, _, rfl, p, S, F, xsS, sentM c F, k, rfl, hF.same sH, ga.g.wf, by omega, .inl hSG, sent_dds ok zz dSG, canL_all F sent_can, hT.ext sH, fun p' J e1 t1 hF1 => ?_⟩
    have ga1 := ga_stepB ga ok zz ln k9
    refine ⟨_, rfl, p', stepM c F, k + b, rfl, hF1, ga1, k9, fun y J2 s7 ny hy => ?_⟩
    have hSJ := s7 _ _ (e1 _ _ hSG fun _ z => by cases z)
    have hLJ := s7 _ _ (e1 _ _ hLG fun _ z => by cases z)
    refine ⟨_, rfl, _, rfl, S, xsS, rfl, .inl ⟨sq hSJ, fun sa nsa => ?_⟩⟩
    have s8 := same_new nsa (o := .tup xsS)
    refine ⟨_, rfl, L, _, rfl, .inl ⟨sq (s8 _ _ hLJ), fun la nla => ?_⟩⟩
    have s9 := same_new nla (o := .tup ((lostM c F).map V.int))
    refine ⟨by show 4 ≤ sizeLine; decide, fun r nr => ?_⟩
    have s10 := same_new nr (o := .tup [.ref y, .ref p', .ref sa, .ref la])
    have s89 := s8.trans (s9.trans s10)
    have eJ : LamX.ExtN H J2 := ((LamX.ExtN.of sH).trans e1).trans (LamX.ExtN.of s7)
    have dJ := (dSG.tu (TU.ext e1) (tO_dds _)).same (s7.trans s89)
    refine q r y p' sa la _ (eJ.trans (LamX.ExtN.of s89)) ((t1.ext s7).ext s89) ⟨upd_same, hy.same s89, hF1.same (s7.trans s89), ⟨xsS, (s9.trans s10) _ _ upd_same, dJ⟩, s10 _ _ upd_same⟩
end
end K1
set_option Elab.async false
set_option linter.all false
set_option maxRecDepth 100000
set_option maxHeartbeats 1000000
/-! Worlds as data: lists by keys, the dicts that tell them, what stays. -/
namespace K1
open PySem PySem.Spec PyProof.Rows L2 RZ StX
section
variable {κ β : Type} [DecidableEq κ]
noncomputable def lkA (xs : List (κ × β)) (k : κ) : Option β := (xs.find? fun x => decide (x.1 = k)).map (·.2)
noncomputable def ptA (xs : List (κ × β)) (k : κ) (v : β) : List (κ × β) := if (xs.any fun x => decide (x.1 = k)) = true then xs.map (fun x => if x.1 = k then (x.1, v) else x) else xs ++ [(k, v)]
theorem lkA_pos {p : κ × β} {r : List (κ × β)} {k : κ} (e : p.1 = k) : lkA (p :: r) k = some p.2 := by simp [lkA, List.find?_cons, e]
theorem lkA_neg {p : κ × β} {r : List (κ × β)} {k : κ} (e : ¬ p.1 = k) : lkA (p :: r) k = lkA r k := by simp [lkA, List.find?_cons, e]
theorem lkA_mem {k : κ} {v : β} : ∀ {xs : List (κ × β)}, lkA xs k = some v → (k, v) ∈ xs
  | [], h => by cases h
  | p :: r, h => by
    by_cases e : p.1 = k
    · rw [lkA_pos e] at h
      have h := Option.some.inj h
      rw [show (k, v) = p from by rw [← e, ← h]]
      exact List.mem_cons_self
    · rw [lkA_neg e] at h
      exact List.mem_cons_of_mem _ (lkA_mem h)
theorem lkA_any (k : κ) : ∀ xs : List (κ × β), (xs.any fun x => decide (x.1 = k)) = (lkA xs k).isSome
  | [] => rfl
  | p :: r => by
    rw [List.any_cons]
    by_cases e : p.1 = k
    · simp only [lkA_pos e, decide_eq_true e, Bool.true_or, Option.isSome_some]
    · simp only [lkA_neg e, decide_eq_false e, Bool.false_or]; exact lkA_any k r
theorem lkA_keys {k : κ} : ∀ {xs : List (κ × β)}, k ∈ xs.map (·.1) → ∃ v, lkA xs k = some v
  | [], h => by cases h
  | p :: r, h => by
    by_cases e : p.1 = k
    · exact ⟨p.2, lkA_pos e⟩
    · rw [lkA_neg e]
      exact lkA_keys ((List.mem_cons.mp h).resolve_left fun z => e z.symm)
theorem ptA_there {xs : List (κ × β)} {k : κ} {v w : β} (h : lkA xs k = some w) : ptA xs k v = xs.map (fun x => if x.1 = k then (x.1, v) else x) := by
  unfold ptA; rw [lkA_any, h]; rfl
theorem ptA_new {xs : List (κ × β)} {k : κ} {v : β} (h : lkA xs k = none) : ptA xs k v = xs ++ [(k, v)] := by
  unfold ptA; rw [lkA_any, h]; rfl
theorem ptA_keys {xs : List (κ × β)} {k : κ} {v w : β} (h : lkA xs k = some w) : (ptA xs k v).map (·.1) = xs.map (·.1) := by
  rw [ptA_there h, List.map_map]
  refine List.map_congr_left fun x _ => ?_
  show (if x.1 = k then (x.1, v) else x).1 = x.1
  split <;> rfl
theorem ptA_mem {xs : List (κ × β)} {k : κ} {v : β} {x : κ × β} (h : x ∈ ptA xs k v) : x = (k, v) ∨ x ∈ xs := by
  unfold ptA at h
  split at h
  · obtain ⟨y, hy, rfl⟩ := List.mem_map.mp h
    split
    · rename_i e; exact .inl (by rw [e])
    · exact .inr hy
  · rcases List.mem_append.mp h with h | h
    · exact .inr h
    · exact .inl (List.mem_singleton.mp h)
theorem ptA_len {xs : List (κ × β)} {k : κ} {v : β} : (ptA xs k v).length ≤ xs.length + 1 := by
  unfold ptA
  split
  · rw [List.length_map]; omega
  · rw [List.length_append]; exact Nat.le_refl _
variable {κ' : Type} [DecidableEq κ']
/-- a dict's entries, told as data -/
noncomputable abbrev KA (enc : κ → κ') (R : V → β → Prop) (kvs : List (κ' × V)) (xs : List (κ × β)) : Prop := Paired (fun (kv : κ' × V) (x : κ × β) => kv.1 = enc x.1 ∧ R kv.2 x.2) kvs xs
theorem ka_mono {enc : κ → κ'} {R R' : V → β → Prop} (h : ∀ v b, R v b → R' v b) : ∀ {kvs : List (κ' × V)} {xs : List (κ × β)}, KA enc R kvs xs → KA enc R' kvs xs
  | _, _, .nil => .nil
  | _, _, .cons ⟨a, b⟩ r => .cons ⟨a, h _ _ b⟩ (ka_mono h r)
theorem ka_len {enc : κ → κ'} {R : V → β → Prop} : ∀ {kvs : List (κ' × V)} {xs : List (κ × β)}, KA enc R kvs xs → kvs.length = xs.length
  | _, _, .nil => rfl
  | _, _, .cons _ r => congrArg (· + 1) (ka_len r)
theorem ka_val {enc : κ → κ'} {R : V → β → Prop} (inj : ∀ a b, enc a = enc b → a = b) (k : κ) : ∀ {kvs : List (κ' × V)} {xs : List (κ × β)}, KA enc R kvs xs → (lkA xs k = none ∧ valV kvs (enc k) = none) ∨ ∃ b v, lkA xs k = some b ∧ valV kvs (enc k) = some v ∧ R v b
  | _, _, .nil => .inl ⟨rfl, rfl⟩
  | _, x :: _, .cons ⟨a, b⟩ r => by
    by_cases e : x.1 = k
    · exact .inr ⟨x.2, _, lkA_pos e, valV_pos (by rw [a, e]), b⟩
    · rw [lkA_neg e, valV_neg (fun z => e (inj _ _ (by rw [← a, z])))]
      exact ka_val inj k r
theorem ka_put {enc : κ → κ'} {R : V → β → Prop} (inj : ∀ a b, enc a = enc b → a = b) {k : κ} {b : β} {v : V} {kvs : List (κ' × V)} {xs : List (κ × β)} (h : KA enc R kvs xs) (hv : R v b) : KA enc R (putK kvs (enc k) v) (ptA xs k b) := by
  have e : (kvs.any fun kv => decide (kv.1 = enc k)) = (xs.any fun x => decide (x.1 = k)) := by
    rw [valV_any, lkA_any]
    rcases ka_val inj k h with ⟨h1, h2⟩ | ⟨b, v, h1, h2, _⟩ <;> rw [h1, h2] <;> rfl
  unfold putK ptA
  rw [e]
  have mp : KA enc R (kvs.map (fun kv => if kv.1 = enc k then (kv.1, v) else kv)) (xs.map (fun x => if x.1 = k then (x.1, b) else x)) := by
    clear e
    induction h with
    | nil => exact .nil
    | @cons p x ps qs hx r ih =>
      refine .cons ?_ ih
      show (if p.1 = enc k then (p.1, v) else p).1 = enc (if x.1 = k then (x.1, b) else x).1 ∧ R (if p.1 = enc k then (p.1, v) else p).2 (if x.1 = k then (x.1, b) else x).2
      by_cases c : x.1 = k
      · rw [if_pos c, if_pos (by rw [hx.1, c])]; exact ⟨hx.1, hv⟩
      · rw [if_neg c, if_neg (fun z => c (inj _ _ (by rw [← hx.1, z])))]; exact hx
  have app : KA enc R (kvs ++ [(enc k, v)]) (xs ++ [(k, b)]) := by
    clear e mp
    induction h with
    | nil => exact .cons ⟨rfl, hv⟩ .nil
    | cons hx r ih => exact .cons hx ih
  split
  · exact mp
  · exact app
end
noncomputable def encF (n : Str) : L2.Key := Sum.inr n
noncomputable def encC (k : Int × Str) : List L2.Key := [Sum.inl k.1, Sum.inr k.2]
theorem inj_F : ∀ a b, encF a = encF b → a = b := fun a b h => Sum.inr.inj h
theorem inj_C : ∀ a b, encC a = encC b → a = b := fun a b h => by
  have h : [(Sum.inl a.1 : L2.Key), Sum.inr a.2] = [Sum.inl b.1, Sum.inr b.2] := h
  injection h with h1 h2
  injection h2 with h2 _
  exact Prod.ext (Sum.inl.inj h1) (Sum.inr.inj h2)
noncomputable def FV (C : Addr) (G : Hp) (v : V) (F : Fo) : Prop := ∃ a, v = .ref a ∧ FoAt C G a F
noncomputable abbrev FL := List (Str × Fo)
noncomputable abbrev CpL := List ((Int × Str) × Cp)
/-- folders by name -/
noncomputable def FD (C : Addr) (G : Hp) (D : Addr) (fs : FL) : Prop := ∃ kvs, G D = some (.dK kvs) ∧ KA encF (FV C G) kvs fs
/-- copies by client and name -/
noncomputable def CD (K : PySem.W.Frag) (CC : Addr) (G : Hp) (E : Addr) (cs : CpL) : Prop := ∃ kvs, G E = some (.dT kvs) ∧ KA encC (CpV K CC G) kvs cs
/-- all tuples stay, and all instances but those of one class -/
structure TJ (WC : Addr) (H G : Hp) : Prop where
  t : TU H G
  i : ∀ b C dx fs, C ≠ WC → H b = some (.ins C dx fs) → G b = some (.ins C dx fs)
theorem TJ.of {WC : Addr} {H G : Hp} (t : TI H G) : TJ WC H G := ⟨t.t, fun b C dx fs _ => t.i b C dx fs⟩
theorem TJ.trans {WC : Addr} {H G J : Hp} (a : TJ WC H G) (b : TJ WC G J) : TJ WC H J := ⟨a.t.trans b.t, fun c C dx fs n h => b.i _ _ _ _ n (a.i _ _ _ _ n h)⟩
theorem TJ.ins {WC p dx : Addr} {fs : List (Str × V)} {H : Hp} {u : HO} (h : H p = some (.ins WC dx fs)) : TJ WC H (upd H p u) :=
  ⟨TU.mut h (fun _ z => by cases z), fun b C dy gs n hb => by rw [upd_ne (fun z => by rw [z, h] at hb; cases hb; exact n rfl)]; exact hb⟩
section
variable {K : PySem.W.Frag} {C CC WC : Addr}
theorem CpAt.tj {p : Addr} {H H' : Hp} {c : Cp} (h : CpAt K CC H p c) (n : CC ≠ WC) (s : TJ WC H H') : CpAt K CC H' p c := by
  obtain ⟨dx, tl, tm, xs, ys, h⟩ := h
  exact ⟨dx, tl, tm, xs, ys, s.i _ _ _ _ n h.at_, h.tl.tu s.t, h.xs.tu s.t (tO_cls _), h.tm.tu s.t, h.ys.tu s.t (tO_mds _)⟩
theorem FoAt.tj {p : Addr} {H H' : Hp} {F : Fo} (h : FoAt C H p F) (n : C ≠ WC) (s : TJ WC H H') : FoAt C H' p F := by
  obtain ⟨dx, tl, tg, a, b, c⟩ := h
  exact ⟨dx, tl, tg, s.i _ _ _ _ n a, b.tu s.t (tO_lts _), c.tu s.t (tO_gos _)⟩
theorem FV.tj {v : V} {H H' : Hp} {F : Fo} (h : FV C H v F) (n : C ≠ WC) (s : TJ WC H H') : FV C H' v F := let ⟨a, e, k⟩ := h; ⟨a, e, k.tj n s⟩
theorem CpV.tj {v : V} {H H' : Hp} {c : Cp} (h : CpV K CC H v c) (n : CC ≠ WC) (s : TJ WC H H') : CpV K CC H' v c := let ⟨a, e, k⟩ := h; ⟨a, e, k.tj n s⟩
theorem FD.tj {D : Addr} {H H' : Hp} {fs : FL} (h : FD C H D fs) (n : C ≠ WC) (s : TJ WC H H') (e : ∀ o, H D = some o → H' D = some o) : FD C H' D fs := let ⟨kvs, h1, h2⟩ := h; ⟨kvs, e _ h1, ka_mono (fun v F h => h.tj n s) h2⟩
theorem CD.tj {E : Addr} {H H' : Hp} {cs : CpL} (h : CD K CC H E cs) (n : CC ≠ WC) (s : TJ WC H H') (e : ∀ o, H E = some o → H' E = some o) : CD K CC H' E cs := let ⟨kvs, h1, h2⟩ := h; ⟨kvs, e _ h1, ka_mono (fun v F h => h.tj n s) h2⟩
/-- a folder put -/
theorem FD.put {D q : Addr} {H : Hp} {fs : FL} {nm : Str} {F : Fo} {kvs : List (L2.Key × V)} (h : FD C H D fs) (hD : H D = some (.dK kvs)) (hq : FoAt C H q F) : FD C (upd H D (.dK (putK kvs (encF nm) (.ref q)))) D (ptA fs nm F) := by
  obtain ⟨kvs', h1, h2⟩ := h
  rw [hD] at h1
  injection h1 with h1
  injection h1 with h1
  subst h1
  have t : TI H (upd H D (.dK (putK kvs (encF nm) (.ref q)))) := TI.mut hD (fun _ z => by cases z) fun _ _ _ z => by cases z
  exact ⟨_, upd_same, ka_put inj_F (ka_mono (fun v F ⟨a, e, k⟩ => ⟨a, e, k.ti t⟩) h2) ⟨q, rfl, hq.ti t⟩⟩
/-- a copy put -/
theorem CD.put {E x : Addr} {H : Hp} {cs : CpL} {k : Int × Str} {c : Cp} {kvs : List (List L2.Key × V)} (h : CD K CC H E cs) (hE : H E = some (.dT kvs)) (hx : CpAt K CC H x c) : CD K CC (upd H E (.dT (putK kvs (encC k) (.ref x)))) E (ptA cs k c) := by
  obtain ⟨kvs', h1, h2⟩ := h
  rw [hE] at h1
  injection h1 with h1
  injection h1 with h1
  subst h1
  have t : TI H (upd H E (.dT (putK kvs (encC k) (.ref x)))) := TI.mut hE (fun _ z => by cases z) fun _ _ _ z => by cases z
  exact ⟨_, upd_same, ka_put inj_C (ka_mono (fun v F ⟨a, e, k⟩ => ⟨a, e, k.ti t⟩) h2) ⟨x, rfl, hx.ti t⟩⟩
theorem FD.get {D : Addr} {H : Hp} {fs : FL} {nm : Str} {F : Fo} (h : FD C H D fs) (e : lkA fs nm = some F) : ∃ a, FoAt C H a F ∧ ∀ {J : Hp}, (∀ o, H D = some o → J D = some o) → DGet J D (.str nm) (some (.ref a)) := by
  obtain ⟨kvs, h1, h2⟩ := h
  rcases ka_val inj_F nm h2 with ⟨z, _⟩ | ⟨b, v, z1, z2, a, rfl, z3⟩
  · rw [e] at z; cases z
  · rw [e] at z1
    cases z1
    refine ⟨a, z3, fun {J} k => ?_⟩
    have := DGet.k (k := encF nm) (k _ h1)
    rw [z2] at this
    exact this
theorem FD.has {D : Addr} {H : Hp} {fs : FL} (h : FD C H D fs) (nm : Str) : ∃ o, DGet H D (.str nm) o ∧ o.isSome = (lkA fs nm).isSome := by
  obtain ⟨kvs, h1, h2⟩ := h
  refine ⟨_, DGet.k (k := encF nm) h1, ?_⟩
  rcases ka_val inj_F nm h2 with ⟨z1, z2⟩ | ⟨b, v, z1, z2, _⟩ <;> rw [z1, z2] <;> rfl
theorem CD.isD {E : Addr} {H : Hp} {cs : CpL} (h : CD K CC H E cs) : IsD H E := let ⟨kvs, h1, _⟩ := h; .inr ⟨kvs, .inl h1⟩
/-- what .get tells -/
theorem CD.get {E : Addr} {H : Hp} {cs : CpL} (h : CD K CC H E cs) (k : Int × Str) : (lkA cs k = none ∧ ∀ {J : Hp} {b : Addr}, (∀ o, H E = some o → J E = some o) → J b = some (.tup [.int k.1, .str k.2]) → DGet J E (.ref b) none) ∨
    ∃ c a, lkA cs k = some c ∧ CpAt K CC H a c ∧ ∀ {J : Hp} {b : Addr}, (∀ o, H E = some o → J E = some o) → J b = some (.tup [.int k.1, .str k.2]) → DGet J E (.ref b) (some (.ref a)) := by
  obtain ⟨kvs, h1, h2⟩ := h
  rcases ka_val inj_C k h2 with ⟨z1, z2⟩ | ⟨c, v, z1, z2, a, rfl, z3⟩
  · refine .inl ⟨z1, fun {J b} e hb => ?_⟩
    have := DGet.t (k := encC k) (e _ h1) hb
    rw [z2] at this
    exact this
  · refine .inr ⟨c, a, z1, z3, fun {J b} e hb => ?_⟩
    have := DGet.t (k := encC k) (e _ h1) hb
    rw [z2] at this
    exact this
end
/-- all stays but some things and tables -/
noncomputable def FRM (L : List Addr) (G G' : Hp) : Prop := ∀ b o, b ∉ L → (∀ ps, o ≠ .tbl ps) → G b = some o → G' b = some o
theorem FRM.refl {L : List Addr} {G : Hp} : FRM L G G := fun _ _ _ _ h => h
theorem FRM.en {L : List Addr} {G G' : Hp} (e : LamX.ExtN G G') : FRM L G G' := fun b o _ n h => e b o h n
theorem FRM.trans {L : List Addr} {G G' G2 : Hp} (a : FRM L G G') (b : FRM L G' G2) : FRM L G G2 := fun x o n t h => b x o n t (a x o n t h)
theorem FRM.same {L : List Addr} {G G' G2 : Hp} (a : FRM L G G') (s : Same G' G2) : FRM L G G2 := fun x o n t h => s _ _ (a x o n t h)
theorem FRM.ext {L : List Addr} {G G' G2 : Hp} (a : FRM L G G') (e : LamX.ExtN G' G2) : FRM L G G2 := fun x o n t h => e _ _ (a x o n t h) t
theorem FRM.mut {L : List Addr} {G G' : Hp} {D : Addr} {u : HO} (a : FRM L G G') (h : D ∈ L) : FRM L G (upd G' D u) := fun x o n t hx => by rw [upd_ne (fun z => n (by rw [z]; exact h))]; exact a x o n t hx
theorem FRM.sub {L M : List Addr} {G G' : Hp} (a : FRM L G G') (h : ∀ x ∈ L, x ∈ M) : FRM M G G' := fun x o n t hx => a x o (fun z => n (h _ z)) t hx
end K1
set_option Elab.async false
set_option linter.all false
set_option maxRecDepth 100000
set_option maxHeartbeats 1000000
/-! len(set(texts)) -/
namespace K1
open PySem PySem.Spec PyProof.Rows L2 RZ StX
noncomputable def tLenSS (ta : TE) : TE := fun σ H Q => ta σ H fun x H1 => ∃ (l : Addr) (ss : List Str), x = .ref l ∧ SeqH H1 l (ss.map V.str) ∧ ss.Nodup ∧ ss.length ≤ 1000 ∧ Q (.int (ss.length : Nat)) H1
theorem set_size {P : Program} {w : World} {h : Heap} {a : Addr} {ss : List Str} {c : Nat} (R : StrSet P w h a (fun j => j ∈ ss) c) (nd : ss.Nodup) : c = ss.length := by
  obtain ⟨o, es, ep, t, ho, hx, hd, m, r, hn⟩ := R
  have e1 : (es.toList.map strOf).length = c := by rw [List.length_map, Array.length_toList]; exact hn
  have a1 := nodup_len m.nd fun x hx => (m.mem x).mpr hx
  have a2 := nodup_len nd fun x hx => (m.mem x).mp hx
  omega
theorem pe_lenSS {X : Cx} {a : Expr} {ta : TE} {p p2 q pos : Pos} (hc : X.calm = true) (hg : Gl X "len") (hm : X.mg "len" = none) (hg2 : Gl X "set") (hm2 : X.mg "set" = none) (ha : PE X a ta)
    (na : starEach [a] X.env = (false, eval a X.env) :: starEach [] X.env := by rfl) : PE X (.Call (.Name "len" p) [.Call (.Name "set" p2) [a] [] q] [] pos) (tLenSS ta) := by
  refine ⟨fun pins s σ H Q I h => ?_⟩
  refine Call_ (ld_blt I hg hm boot_len ?_)
  refine PyProof.Rows.callWith_builtin1 (PyProof.Rows.args_cons ?_ rfl) rfl rfl
  refine Call_ (ld_blt I hg2 hm2 boot_set ?_)
  refine PyProof.Rows.callWith_type1 (PyProof.Rows.args_cons (thn (ha.run pins s σ H _ I h) fun v s1 ⟨x, H1, I1, r1, q1⟩ => PyProof.Rows.args_nil ?_) na) na rfl
  obtain ⟨l, ss, rfl, hq, nd, h1, q1⟩ := q1
  cases r1
  have fin : ∀ (h' : Heap) (tk c : Nat), StrSet X.prog X.w h' s1.heap.objs.size (fun j => j ∈ ss) c → (∀ b o, s1.heap.get? b = some o → h'.get? b = some o) →
      wpAny (model X.prog X.w) X.A (spliced (backTo pos (starEach [] X.env))) (fun vs s₂ => wpAny (model X.prog X.w) X.A (call (.builtin "len") (Value.ref s1.heap.objs.size :: vs)) (EP X pins σ Q) X.xe s₂) X.xe { s1 with heap := h', toks := tk } := fun h' tk c hS hk => by
    refine PyProof.Rows.args_nil ?_
    have hl := set_size hS nd
    obtain ⟨o, es, ep, t, ho, hex, hd, m, b, hn⟩ := hS
    have I2 : Inv X pins σ H1 { s1 with heap := h', toks := tk } := I1.kept hk
    have e : es.size = ss.length := hn.trans hl
    refine call_len_set ho hex hd b.fits (by omega) ⟨.int ss.length, H1, I2.tok _, ⟨_, by rw [e]⟩, q1⟩
  rcases hq with hq | hq
  · obtain ⟨its, r, pl, hz⟩ := I1.list (sq hq)
    exact str_set_list ss (I1.ok.hd hc) pl.isList r.strs (by unfold scanBound; omega) fun h' tk c hcn R1 k => fin h' tk c R1 k
  · obtain ⟨its, r, pl, hz⟩ := I1.tuple (st hq)
    exact str_set_tup ss (I1.ok.hd hc) (show s1.heap.IsTuple l its.toArray from pl) r.strs (by unfold scanBound; omega) fun h' tk c hcn R1 k => fin h' tk c R1 k
end K1
set_option Elab.async false
set_option linter.all false
set_option maxRecDepth 100000
set_option maxHeartbeats 4000000
/-! enumerate(list or tuple, start=k) -/
namespace L2
open PySem PySem.Spec PyProof.Rows
noncomputable def ItE (k : Int) (Sq : Hp → List V → Prop) : It :=
  ⟨fun i H => ∃ (xs : List V) (x : V), Sq H xs ∧ xs[i]? = some x, fun i H v H' => ∃ T x, v = .ref T ∧ H T = none ∧ H' = upd H T (.tup [.int (k + (i : Int)), x]) ∧ ∀ xs, Sq H xs → xs[i]? = some x, fun i H => ∃ xs : List V, Sq H xs ∧ i = xs.length⟩
theorem turn_ek {P : Program} {w : World} {K : PySem.W.Frag} {elts : List Expr} {kk : Nat} {tpos : Pos} (k : Int) (a e it : Addr) :
    Turn P w K (.Tuple elts kk tpos) (ItE k fun H xs => SqT K H a xs) [e, it] e (fun i h => (∃ old, IsEnum h e it (k + (i : Int)) old) ∧ h.IsTupleIter it a i ∧ e ≠ it ∧ e ≠ a ∧ it ≠ a) where
  mem := by simp
  obj := fun i h st b hb => by
    obtain ⟨⟨old, he⟩, ⟨o, ho, hc, hd⟩, _⟩ := st
    have e' : b = e ∨ b = it := by simpa using hb
    rcases e' with z | z
    · rw [z]; exact ⟨_, he, fun v q => nomatch q⟩
    · rw [z]; exact ⟨o, ho, fun v q => by rw [hd] at q; cases q⟩
  keep := fun i h h' st kp => let ⟨⟨old, he⟩, hi, hne⟩ := st; ⟨⟨old, kp e (by simp) _ he⟩, hi.at fun o q => kp it (by simp) o q, hne⟩
  item := by
    intro X hP hw hK hc i pins s σ H E I hf st hg
    subst hP hw hK
    obtain ⟨⟨old, he⟩, hit, hne, hea, hia⟩ := st
    obtain ⟨xs, x, hq, hx⟩ := hg
    obtain ⟨its, rv, p, hz⟩ := I.tuple hq
    have p' : s.heap.IsTuple a its.toArray := p
    obtain ⟨u, hu, ru⟩ := rv.get hx
    have hel : e < s.heap.objs.size := Heap.lt_size he
    have hil : it < s.heap.objs.size := by obtain ⟨_, q, _⟩ := hit; exact Heap.lt_size q
    have D := Draws.tuple (prog := X.prog) (w := X.w) (A := X.A.in1) (I.ok.hd hc) it a hia.symm its.toArray
    refine wpAny_pyNext_enum_itemC D he ⟨hit, p'⟩ (by have := (List.getElem?_eq_some_iff.mp hu).1; simpa using this) hne (by simp [hne, hea]) fun x' h' tk hx' ho hit' hT hsz hk => ?_
    have hxu : x' = u := by
      have e1 : its[i]? = some x' := by simpa using hx'
      rw [hu] at e1
      exact (Option.some.inj e1).symm
    subst hxu
    obtain ⟨hit', _⟩ := hit'
    refine ⟨_, rfl, wpAny_letOwnedTupleGo_enum (s := { s with heap := h', toks := tk + 1 }) ho fun h'' he' sb => ?_⟩
    have hT2 : h''.get? s.heap.objs.size = some { cls := .type "tuple", data := .seq #[.int (k + (i : Int)) tk, x'] } := (sb.2 _ (Nat.ne_of_gt hel)).trans hT
    have new : ObjOk X.prog X.w (upd H s.heap.objs.size (.tup [.int (k + (i : Int)), x])) h'' s.heap.objs.size (.tup [.int (k + (i : Int)), x]) :=
      ⟨by show 2 ≤ sizeLine; decide, [.int (k + (i : Int)) tk, x'], .cons ⟨_, rfl⟩ (.cons ru .nil), ⟨_, hT2, rfl, _, rfl⟩⟩
    have I1 : Inv X pins σ (upd H s.heap.objs.size (.tup [.int (k + (i : Int)), x])) { s with heap := h'', toks := tk + 1 } :=
      I.turnedNew (ch := [e, it]) (fun b ob hb q => (sb.2 b (fun z => hb (by simp [z]))).trans (hk b ob (fun z => hb (by simp [z])) (fun z => hb (by simp [z])) q)) hf (Nat.le_refl _) new
    refine ⟨.ref s.heap.objs.size, _, I1, rfl, ⟨_, x, rfl, I.hok.fresh (Nat.le_refl _), rfl, fun ys hy => by rw [I.tuple_inj hy hq]; exact hx⟩, ⟨⟨x', ?_⟩, hit'.at fun o q => (sb.2 it (Ne.symm hne)).trans q, hne, hea, hia⟩, fun b hb => ?_⟩
    · have e1 : k + ((i + 1 : Nat) : Int) = k + (i : Int) + 1 := by omega
      rw [e1]; exact he'
    · have hb' : b < s.heap.objs.size := by
        have e' : b = e ∨ b = it := by simpa using hb
        rcases e' with z | z
        · rw [z]; exact hel
        · rw [z]; exact hil
      rw [upd_ne (Nat.ne_of_lt hb')]
      exact (hf b hb).1
  done := by
    intro X hP hw hK hc i pins s σ H E I hf st hg
    subst hP hw hK
    obtain ⟨⟨old, he⟩, hit, hne, hea, hia⟩ := st
    obtain ⟨xs, hq, hx⟩ := hg
    obtain ⟨its, rv, p, hz⟩ := I.tuple hq
    have p' : s.heap.IsTuple a its.toArray := p
    obtain ⟨f0, f1, f2, f3, f4, f5⟩ := hf it (by simp)
    have hl := rv.length
    have D := Draws.tuple (prog := X.prog) (w := X.w) (A := X.A.in1) (I.ok.hd hc) it a hia.symm its.toArray
    have hn : i = its.toArray.size := by rw [hx, hl]; simp
    refine wpAny_pyNext_enum_endD D he ⟨hn ▸ hit, p'⟩ fun h' eb => ⟨rfl, I.turned (t' := s.toks) (fun b o hb q => eb b o hb q) f0 f1 f3 f4 f5⟩
  self := fun A i s Q E st h => let ⟨⟨_, he⟩, _⟩ := st; wpAny_pyIter_enum he h
theorem turn_ekL {P : Program} {w : World} {K : PySem.W.Frag} {elts : List Expr} {kk : Nat} {tpos : Pos} (k : Int) (a e it : Addr) :
    Turn P w K (.Tuple elts kk tpos) (ItE k fun H xs => SqL K H a xs) [e, it] e (fun i h => (∃ old, IsEnum h e it (k + (i : Int)) old) ∧ h.IsListIter it a i ∧ e ≠ it ∧ e ≠ a ∧ it ≠ a) where
  mem := by simp
  obj := fun i h st b hb => by
    obtain ⟨⟨old, he⟩, ⟨o, ho, hc, hd⟩, _⟩ := st
    have e' : b = e ∨ b = it := by simpa using hb
    rcases e' with z | z
    · rw [z]; exact ⟨_, he, fun v q => nomatch q⟩
    · rw [z]; exact ⟨o, ho, fun v q => by rw [hd] at q; cases q⟩
  keep := fun i h h' st kp => let ⟨⟨old, he⟩, hi, hne⟩ := st; ⟨⟨old, kp e (by simp) _ he⟩, hi.at fun o q => kp it (by simp) o q, hne⟩
  item := by
    intro X hP hw hK hc i pins s σ H E I hf st hg
    subst hP hw hK
    obtain ⟨⟨old, he⟩, hit, hne, hea, hia⟩ := st
    obtain ⟨xs, x, hq, hx⟩ := hg
    obtain ⟨its, rv, p, hz⟩ := I.list hq
    have p' : s.heap.IsList a its.toArray := p.isList
    obtain ⟨u, hu, ru⟩ := rv.get hx
    have hel : e < s.heap.objs.size := Heap.lt_size he
    have hil : it < s.heap.objs.size := by obtain ⟨_, q, _⟩ := hit; exact Heap.lt_size q
    have D := Draws.list (prog := X.prog) (w := X.w) (A := X.A.in1) (I.ok.hd hc) it a hia.symm its.toArray
    refine wpAny_pyNext_enum_itemC D he ⟨hit, p'⟩ (by have := (List.getElem?_eq_some_iff.mp hu).1; simpa using this) hne (by simp [hne, hea]) fun x' h' tk hx' ho hit' hT hsz hk => ?_
    have hxu : x' = u := by
      have e1 : its[i]? = some x' := by simpa using hx'
      rw [hu] at e1
      exact (Option.some.inj e1).symm
    subst hxu
    obtain ⟨hit', _⟩ := hit'
    refine ⟨_, rfl, wpAny_letOwnedTupleGo_enum (s := { s with heap := h', toks := tk + 1 }) ho fun h'' he' sb => ?_⟩
    have hT2 : h''.get? s.heap.objs.size = some { cls := .type "tuple", data := .seq #[.int (k + (i : Int)) tk, x'] } := (sb.2 _ (Nat.ne_of_gt hel)).trans hT
    have new : ObjOk X.prog X.w (upd H s.heap.objs.size (.tup [.int (k + (i : Int)), x])) h'' s.heap.objs.size (.tup [.int (k + (i : Int)), x]) :=
      ⟨by show 2 ≤ sizeLine; decide, [.int (k + (i : Int)) tk, x'], .cons ⟨_, rfl⟩ (.cons ru .nil), ⟨_, hT2, rfl, _, rfl⟩⟩
    have I1 : Inv X pins σ (upd H s.heap.objs.size (.tup [.int (k + (i : Int)), x])) { s with heap := h'', toks := tk + 1 } :=
      I.turnedNew (ch := [e, it]) (fun b ob hb q => (sb.2 b (fun z => hb (by simp [z]))).trans (hk b ob (fun z => hb (by simp [z])) (fun z => hb (by simp [z])) q)) hf (Nat.le_refl _) new
    refine ⟨.ref s.heap.objs.size, _, I1, rfl, ⟨_, x, rfl, I.hok.fresh (Nat.le_refl _), rfl, fun ys hy => by rw [I.list_inj hy hq]; exact hx⟩, ⟨⟨x', ?_⟩, hit'.at fun o q => (sb.2 it (Ne.symm hne)).trans q, hne, hea, hia⟩, fun b hb => ?_⟩
    · have e1 : k + ((i + 1 : Nat) : Int) = k + (i : Int) + 1 := by omega
      rw [e1]; exact he'
    · have hb' : b < s.heap.objs.size := by
        have e' : b = e ∨ b = it := by simpa using hb
        rcases e' with z | z
        · rw [z]; exact hel
        · rw [z]; exact hil
      rw [upd_ne (Nat.ne_of_lt hb')]
      exact (hf b hb).1
  done := by
    intro X hP hw hK hc i pins s σ H E I hf st hg
    subst hP hw hK
    obtain ⟨⟨old, he⟩, hit, hne, hea, hia⟩ := st
    obtain ⟨xs, hq, hx⟩ := hg
    obtain ⟨its, rv, p, hz⟩ := I.list hq
    have p' : s.heap.IsList a its.toArray := p.isList
    obtain ⟨f0, f1, f2, f3, f4, f5⟩ := hf it (by simp)
    have hl := rv.length
    have D := Draws.list (prog := X.prog) (w := X.w) (A := X.A.in1) (I.ok.hd hc) it a hia.symm its.toArray
    have hn : i = its.toArray.size := by rw [hx, hl]; simp
    refine wpAny_pyNext_enum_endD D he ⟨hn ▸ hit, p'⟩ fun h' eb => ⟨rfl, I.turned (t' := s.toks) (fun b o hb q => eb b o hb q) f0 f1 f3 f4 f5⟩
  self := fun A i s Q E st h => let ⟨⟨_, he⟩, _⟩ := st; wpAny_pyIter_enum he h
theorem callWith_typeKw {M : Model} {A : Around} {E : Value → Shared → Prop} {s : Shared} {env : Env} {pos : Pos} {T : String} {e : Expr} {rest : List Expr} {kws : List Keyword} {Q : Value → Shared → Prop}
    (h : wpAny M A (spliced (backTo pos (starEach (e :: rest) env))) (fun vs s₁ => wpAny M A (evalAll ((backToKw pos (keywordEach kws env)).map (·.2)))
      (fun kvs s₂ => wpAny M A (call (.type T) vs (((backToKw pos (keywordEach kws env)).filterMap (·.1)).zip kvs)) Q E s₂) E s₁) E s)
    (he : backTo pos (starEach (e :: rest) env) = (false, eval e env) :: backTo pos (starEach rest env) := by rfl)
    (hplain : (backTo pos (starEach (e :: rest) env)).any (·.1) = false := by rfl)
    (hall : (backToKw pos (keywordEach kws env)).all (·.1.isSome) = true := by rfl)
    (hkw : (backToKw pos (keywordEach kws env)).any (·.1.isNone) = false := by rfl) :
    wpAny M A (callWith pos (.type T) [] (backTo pos (starEach (e :: rest) env)) (backToKw pos (keywordEach kws env))) Q E s := by
  have core : ∀ {args : List (Bool × Sem Value)} {keywords : List (Option Str × Sem Value)}, args.any (·.1) = false → keywords.any (·.1.isNone) = false →
      wpAny M A (evalArgs (.type T) true args keywords) (fun a s₁ => wpAny M A (call (.type T) ([] ++ a.pos) a.kw) Q E s₁) E s → wpAny M A (callWith pos (.type T) [] args keywords) Q E s := by
    intro args keywords hp hk h
    unfold callWith
    refine wpAny_bind (wpAny_holding (wpAny_mono h (fun a s₁ h₁ => wpAny_bind (wpAny_standAt ?_)) fun _ _ x => x))
    simp only [hp, hk, Bool.or_false]
    refine wpAny_bind (wpAny_pure ?_)
    exact wpAny_bind (wpAny_mono h₁ (fun r s₂ hr => wpAny_bind (wpAny_holding (wpAny_point (wpAny_pure hr)))) fun _ _ x => x)
  refine core hplain hkw ?_
  rw [he] at h ⊢
  exact evalArgs_kwB hall h
noncomputable def EkR (K : PySem.W.Frag) (a : Addr) (xs : List V) (k : Int) (H : Hp) (R : It → Hp → Prop) : Prop := (SqL K H a xs ∧ R (ItE k fun H xs => SqL K H a xs) H) ∨ (SqT K H a xs ∧ R (ItE k fun H xs => SqT K H a xs) H)
/-- enumerate(list | tuple, start=k) -/
noncomputable def iEnumW (K : PySem.W.Frag) (ta tk : TA) : TI := fun σ H R => ta σ H fun vs H1 => tk σ H1 fun zs H2 => ∃ a xs k, vs = [.ref a] ∧ zs = [.int k] ∧ 0 ≤ k ∧ k ≤ 1000 ∧ EkR K a xs k H2 R
theorem pi_enumW {X : Cx} {e : Expr} {kws : List Keyword} {ta tk : TA} {p pos tpos : Pos} {elts : List Expr} {kk : Nat} (hg : Gl X "enumerate") (hm : X.mg "enumerate" = none) (ha : PA X [e] ta) (hk : PK X kws tk)
    (he : backTo pos (starEach [e] X.env) = (false, eval e X.env) :: backTo pos (starEach [] X.env) := by rfl) (hpl : (backTo pos (starEach [e] X.env)).any (·.1) = false := by rfl)
    (hall : (backToKw pos (keywordEach kws X.env)).all (·.1.isSome) = true := by rfl) (hnone : (backToKw pos (keywordEach kws X.env)).any (·.1.isNone) = false := by rfl) (hks : (backToKw pos (keywordEach kws X.env)).filterMap (·.1) = [Str.ofString "start"] := by rfl) :
    PI X (.Tuple elts kk tpos) (.Call (.Name "enumerate" p) [e] kws pos) (iEnumW X.K ta tk) := by
  refine ⟨fun pins s σ H R I h => ?_⟩
  refine wpAny_Call_Name_kw (ld_blt I hg hm boot_enumerate ?_)
  refine callWith_typeKw (thn (ha.run pos pins s σ H _ I h) fun us s0 ⟨vs, H0, I0, r0, q0⟩ => thn (hk.run pos pins s0 σ H0 _ I0 q0) fun ws s1 ⟨zs, H1, I1, r2, q1⟩ => ?_) he hpl hall hnone
  rw [hks]
  obtain ⟨a, xs, k, ex, ez, k0, k1, q1⟩ := q1
  subst ex ez
  cases r0 with
  | cons r rr =>
    cases rr
    cases r
    cases r2 with
    | cons r2 rr2 =>
      cases rr2
      obtain ⟨tk, rfl⟩ := r2
      have fpk : ∀ b ∈ [s1.heap.objs.size + 1, s1.heap.objs.size], FpOk X pins H1 b := fun b hb => by
        have e' : b = s1.heap.objs.size + 1 ∨ b = s1.heap.objs.size := by simpa using hb
        have hle : s1.heap.objs.size ≤ b := by
          rcases e' with z | z
          · rw [z]; exact Nat.le_add_right _ _
          · rw [z]; exact Nat.le_refl _
        exact I1.fpOk hle (I1.hok.fresh hle)
      have ek : k + ((0 : Nat) : Int) = k := by simp
      rcases q1 with ⟨hq, q⟩ | ⟨hq, q⟩
      · obtain ⟨its, rv, p', hz⟩ := I1.list hq
        have p2 : s1.heap.IsList a its.toArray := p'.isList
        have hla : a < s1.heap.objs.size := by obtain ⟨o, ho, _⟩ := p2; exact Heap.lt_size ho
        refine enum_begins_start (begins_list a its.toArray) p2 (by omega) (by omega) fun h' he hit hsz hk => wpAny_pyIter_enum he ?_
        have I2 : Inv X pins σ H1 { s1 with heap := h' } := I1.kept (t' := s1.toks) hk
        exact ⟨s1.heap.objs.size + 1, [s1.heap.objs.size + 1, s1.heap.objs.size], _, _, H1, rfl, I2, turn_ekL k a (s1.heap.objs.size + 1) s1.heap.objs.size, ⟨⟨.none, by rw [ek]; exact he⟩, ⟨_, hit, rfl, rfl⟩, Nat.succ_ne_self _, Nat.ne_of_gt (Nat.lt_succ_of_lt hla), Nat.ne_of_gt hla⟩, fpk, q⟩
      · obtain ⟨its, rv, p', hz⟩ := I1.tuple hq
        have p2 : s1.heap.IsTuple a its.toArray := p'
        have hla : a < s1.heap.objs.size := by obtain ⟨o, ho, _⟩ := p2; exact Heap.lt_size ho
        refine enum_begins_start (begins_tuple a its.toArray) p2 (by omega) (by omega) fun h' he hit hsz hk => wpAny_pyIter_enum he ?_
        have I2 : Inv X pins σ H1 { s1 with heap := h' } := I1.kept (t' := s1.toks) hk
        exact ⟨s1.heap.objs.size + 1, [s1.heap.objs.size + 1, s1.heap.objs.size], _, _, H1, rfl, I2, turn_ek k a (s1.heap.objs.size + 1) s1.heap.objs.size, ⟨⟨.none, by rw [ek]; exact he⟩, ⟨_, hit, rfl, rfl⟩, Nat.succ_ne_self _, Nat.ne_of_gt (Nat.lt_succ_of_lt hla), Nat.ne_of_gt hla⟩, fpk, q⟩
theorem pi_enumWK {X : Cx} {K : PySem.W.Frag} {e : Expr} {kws : List Keyword} {ta tk : TA} {p pos tpos : Pos} {elts : List Expr} {kk : Nat} (h : X.K = K) (hg : Gl X "enumerate") (hm : X.mg "enumerate" = none) (ha : PA X [e] ta) (hk : PK X kws tk)
    (he : backTo pos (starEach [e] X.env) = (false, eval e X.env) :: backTo pos (starEach [] X.env) := by rfl) (hpl : (backTo pos (starEach [e] X.env)).any (·.1) = false := by rfl)
    (hall : (backToKw pos (keywordEach kws X.env)).all (·.1.isSome) = true := by rfl) (hnone : (backToKw pos (keywordEach kws X.env)).any (·.1.isNone) = false := by rfl) (hks : (backToKw pos (keywordEach kws X.env)).filterMap (·.1) = [Str.ofString "start"] := by rfl) :
    PI X (.Tuple elts kk tpos) (.Call (.Name "enumerate" p) [e] kws pos) (iEnumW K ta tk) := by subst h; exact pi_enumW hg hm ha hk he hpl hall hnone hks
/-- how its turns go -/
theorem walk_ek {k : Int} {Sq : Hp → List V → Prop} {xs : List V} : Walk (ItE k Sq) xs.length (fun H => Sq H xs) (fun i H x H' => ∃ T v, x = .ref T ∧ H T = none ∧ H' = upd H T (.tup [.int (k + (i : Int)), v]) ∧ xs[i]? = some v) :=
  ⟨fun i H hi q => ⟨xs, xs[i], q, List.getElem?_eq_getElem hi⟩, fun H q => ⟨xs, q, rfl⟩, fun i H x H' hi q ⟨T, v, e1, e2, e3, e4⟩ => ⟨T, v, e1, e2, e3, e4 xs q⟩⟩
end L2
set_option Elab.async false
set_option linter.all false
set_option maxRecDepth 100000
set_option maxHeartbeats 4000000
/-! The class World: names and clients checked; folder, copy. -/
namespace K1
open PySem PySem.Spec PyProof.Rows L2 RZ StX
noncomputable def ErrAt (C : Addr) (fl : Str) (v : V) (H : Hp) (E : XK) : Prop := ∀ (d : Addr) (H' : Hp), Same H H' → H' d = some (.xd [(fl, v)]) → E (.ref C) (some d) H'
theorem ErrAt.same {C : Addr} {fl : Str} {v : V} {H H1 : Hp} {E : XK} (h : ErrAt C fl v H E) (s : Same H H1) : ErrAt C fl v H1 E := fun d H' s' e => h d H' (s.trans s') e
theorem ErrAt.go {C : Addr} {fl : Str} {v : V} {H H1 : Hp} {E : XK} (h : ErrAt C fl v H E) (s : Same H H1) : ∀ d, H1 d = none → E (.ref C) (some d) (upd H1 d (.xd [(fl, v)])) := fun d nd => h d _ (s.new nd) upd_same
theorem passN {X : Cx} : Passes (L2.CX X.prog X.w) X (fun _ _ _ => False) := fun _ _ _ _ _ _ _ ⟨_, _, _, _, _, _, _, _, _, _, _, _, h⟩ => h.elim
noncomputable def mW (i : Nat) : Stmt := inClass st_World i
structure WcT (K : PySem.W.Frag) (mg : Str → Option Value) (WC : Addr) : Prop where
  cl : Cls K WC
  gC : mg "World" = some (.ref WC)
  nF : NoAttr K WC "_folders"
  nN : NoAttr K WC "_next_age"
  nC : NoAttr K WC "_clients"
  nP : NoAttr K WC "_copies"
structure WCs (mg : Str → Option Value) : Prop where
  MOST_NAMES : ∃ t, mg "MOST_NAMES" = some (.int 4 t)
  MOST_CLIENTS : ∃ t, mg "MOST_CLIENTS" = some (.int 4 t)
noncomputable def flW (D E : V) (nx cl : V) : List (Str × V) := [("_folders", D), ("_next_age", nx), ("_clients", cl), ("_copies", E)]
section
variable {D E nx cl y : V}
theorem fw_f : (flW D E nx cl).lookup ("_folders" : Str) = some D := by rfl
theorem fw_n : (flW D E nx cl).lookup ("_next_age" : Str) = some nx := by rfl
theorem fw_c : (flW D E nx cl).lookup ("_clients" : Str) = some cl := by rfl
theorem fw_p : (flW D E nx cl).lookup ("_copies" : Str) = some E := by rfl
theorem fw_no {x : Str} (h : (["_folders", "_next_age", "_clients", "_copies"] : List Str).all (fun z => !(x == z)) = true) : (flW D E nx cl).lookup x = none := by
  simp only [List.all_cons, List.all_nil, Bool.and_true, Bool.and_eq_true, Bool.not_eq_true', beq_eq_false_iff_ne, ne_eq] at h
  obtain ⟨h1, h2, h3, h4⟩ := h
  unfold flW
  have e : ∀ {u v : Str}, u ≠ v → (u == v) = false := fun h => beq_eq_false_iff_ne.mpr h
  simp only [List.lookup, e h1, e h2, e h3, e h4]
theorem pw_all : putF "_copies" E (putF "_clients" cl (putF "_next_age" nx (putF "_folders" D []))) = flW D E nx cl := by rfl
theorem pw_nx : putF "_next_age" y (flW D E nx cl) = flW D E y cl := by rfl
end
structure Wd where
  fs : FL
  cs : CpL
  nx : Int
  cl : Int
structure WAt (K : PySem.W.Frag) (C CC WC : Addr) (H : Hp) (p D E : Addr) (W : Wd) : Prop where
  at_ : ∃ dx, H p = some (.ins WC dx (flW (.ref D) (.ref E) (.int W.nx) (.int W.cl)))
  f : FD C H D W.fs
  c : CD K CC H E W.cs
theorem WAt.same {K : PySem.W.Frag} {C CC WC p D E : Addr} {H H' : Hp} {W : Wd} (h : WAt K C CC WC H p D E W) (n1 : C ≠ WC) (n2 : CC ≠ WC) (s : Same H H') : WAt K C CC WC H' p D E W :=
  ⟨let ⟨dx, e⟩ := h.at_; ⟨dx, s _ _ e⟩, h.f.tj n1 (TJ.of (TI.same s)) fun o => s _ o, h.c.tj n2 (TJ.of (TI.same s)) fun o => s _ o⟩
theorem WAt.en {K : PySem.W.Frag} {C CC WC p D E : Addr} {H H' : Hp} {W : Wd} (h : WAt K C CC WC H p D E W) (n1 : C ≠ WC) (n2 : CC ≠ WC) (s : LamX.ExtN H H') : WAt K C CC WC H' p D E W :=
  ⟨let ⟨dx, e⟩ := h.at_; ⟨dx, s _ _ e fun _ z => by cases z⟩, h.f.tj n1 (TJ.of (TI.en s)) (fun o e => by
    obtain ⟨kvs, k, _⟩ := h.f
    rw [k] at e; cases e
    exact s _ _ k fun _ z => by cases z), h.c.tj n2 (TJ.of (TI.en s)) (fun o e => by
    obtain ⟨kvs, k, _⟩ := h.c
    rw [k] at e; cases e
    exact s _ _ k fun _ z => by cases z)⟩
noncomputable abbrev sWFo : Stmt := mW 3
noncomputable abbrev sWCp : Stmt := mW 4
noncomputable abbrev sWIs : Stmt := mW 18
noncomputable abbrev sWCn : Stmt := mW 19
noncomputable abbrev sWCc : Stmt := mW 20
noncomputable abbrev sW_c : Stmt := mW 21
noncomputable abbrev nWN : List Str := ["self", "name"]
theorem scWFo : FnScope nWN nWN (defScope sWFo) := ⟨rfl, rfl, rfl, by decide +kernel, rfl, by decide +kernel, by decide +kernel⟩
theorem scWCn : FnScope nWN nWN (defScope sWCn) := ⟨rfl, rfl, rfl, by decide +kernel, rfl, by decide +kernel, by decide +kernel⟩
noncomputable abbrev nWIs : List Str := ["self", "value"]
theorem scWIs : FnScope nWIs nWIs (defScope sWIs) := ⟨rfl, rfl, rfl, by decide +kernel, rfl, by decide +kernel, by decide +kernel⟩
noncomputable abbrev nWCc : List Str := ["self", "client"]
theorem scWCc : FnScope nWCc nWCc (defScope sWCc) := ⟨rfl, rfl, rfl, by decide +kernel, rfl, by decide +kernel, by decide +kernel⟩
noncomputable abbrev nWCp : List Str := ["self", "client", "name"]
theorem scWCp : FnScope nWCp nWCp (defScope sWCp) := ⟨rfl, rfl, rfl, by decide +kernel, rfl, by decide +kernel, by decide +kernel⟩
noncomputable abbrev nW_c : List Str := ["self", "client", "name", "copy"]
theorem scW_c : FnScope nW_c nWCp (defScope sW_c) := ⟨rfl, rfl, rfl, by decide +kernel, rfl, by decide +kernel, by decide +kernel⟩
section
variable (K : PySem.W.Frag) (C CC WC : Addr)
noncomputable def spWIs : Sp := fun vs H Q _ => ∃ (p D E' : Addr) (W : Wd) (nm : Str), vs = [.ref p, .str nm] ∧ WAt K C CC WC H p D E' W ∧ Q (.bl (lkA W.fs nm).isSome) H
noncomputable def spWCn : Sp := fun vs H Q _ => ∃ (p D E' : Addr) (W : Wd) (nm : Str) (F : Fo), vs = [.ref p, .str nm] ∧ WAt K C CC WC H p D E' W ∧ lkA W.fs nm = some F ∧ Q .non H
noncomputable def spWCc : Sp := fun vs H Q _ => ∃ (p D E' : Addr) (W : Wd) (c : Int), vs = [.ref p, .int c] ∧ WAt K C CC WC H p D E' W ∧ 0 ≤ c ∧ c < W.cl ∧ Q .non H
noncomputable def spWFo : Sp := fun vs H Q _ => ∃ (p D E' : Addr) (W : Wd) (nm : Str) (F : Fo), vs = [.ref p, .str nm] ∧ WAt K C CC WC H p D E' W ∧ lkA W.fs nm = some F ∧ ∀ a, FoAt C H a F → Q (.ref a) H
/-- the copy for a client and a name -/
noncomputable def GotC (Q : VK) (H : Hp) : Option Cp → Prop
  | none => ∀ H', Same H H' → Q .non H'
  | some c => ∀ H' x, Same H H' → CpAt K CC H' x c → Q (.ref x) H'
noncomputable def spWCp : Sp := fun vs H Q _ => ∃ (p D E' : Addr) (W : Wd) (c : Int) (nm : Str) (F : Fo), vs = [.ref p, .int c, .str nm] ∧ WAt K C CC WC H p D E' W ∧ 0 ≤ c ∧ c < W.cl ∧ lkA W.fs nm = some F ∧ GotC K CC Q H (lkA W.cs (c, nm))
noncomputable def spW_c (CB : Addr) : Sp := fun vs H Q E => ∃ (p D E' : Addr) (W : Wd) (c : Int) (nm : Str) (F : Fo), vs = [.ref p, .int c, .str nm] ∧ WAt K C CC WC H p D E' W ∧ 0 ≤ c ∧ c < W.cl ∧ lkA W.fs nm = some F ∧
  (lkA W.cs (c, nm) = none → ErrAt CB "value" .non H E) ∧ ∀ k, lkA W.cs (c, nm) = some k → ∀ H' x, Same H H' → CpAt K CC H' x k → Q (.ref x) H'
end
section
variable {P : Program} {w : World} {K : PySem.W.Frag} {mg : Str → Option Value} {base : Heap} {C CC WC CB fB : Addr}
theorem ok_wis {f : Addr} {fd : FuncData} (T : Bk mg) (t : WcT K mg WC) (F : Fun K "_is_name" "World._is_name" sWIs f fd) : FnOk P w K mg base CX0 1 f fd nWIs (spWIs K C CC WC) := by
  refine F.ok scWIs (fun vs H Q E h => ?_) (fun cdv A outer s H vs Q E hr h => ?_)
  · obtain ⟨p, D, E', W, nm, rfl, _⟩ := h
    rfl
  · obtain ⟨p, D, E', W, nm, rfl, hW, q⟩ := h
    refine ⟨_, (pss_one (ps_ret (pe_and (pe_callB (call_isiK1 (K := K) rfl) (by rfl) T.isinstance PyProof.Rows.boot_isinstance (pa_cons (pv 1) (pa_cons (pe_bltn (v := .ty "str") rfl T.str PyProof.Rows.boot_str rfl) pa_nil))) (pe_one (pe_cmp (pc_din (hu_of hr) (pv 1) (pe_fld (pv 0) rfl))))))), ?_⟩
    obtain ⟨dx, hp⟩ := hW.at_
    obtain ⟨o, hg, ho⟩ := hW.f.has nm
    refine ⟨_, rfl, .str nm, .ty "str", .type "str", .type "str", true, rfl, .ty _, .base (.str _), kit_ty (by decide +kernel), _, rfl, itbT rfl ?_⟩
    refine ⟨_, rfl, _, rfl, p, WC, dx, _, _, rfl, hp, t.cl, t.nF, fw_f, D, o, rfl, hg, ?_⟩
    rw [ho]; exact q
theorem ok_wcn {f : Addr} {fd : FuncData} (t : WcT K mg WC) (M_is_name : MDef P w K mg base CX0 1 WC "_is_name" nWIs (spWIs K C CC WC)) (F : Fun K "_check_name" "World._check_name" sWCn f fd) : FnOk P w K mg base CX0 2 f fd nWN (spWCn K C CC WC) := by
  refine F.ok scWCn (fun vs H Q E h => ?_) (fun cdv A outer s H vs Q E hr h => ?_)
  · obtain ⟨p, D, E', W, nm, F, rfl, _⟩ := h
    rfl
  · obtain ⟨p, D, E', W, nm, F, rfl, hW, hF, q⟩ := h
    refine ⟨_, (pss_one (ps_if (pt_not (pt_val (pe_mdef M_is_name t.cl (hr.mono (by decide)) pass0 (pv 0) (pa_cons (pv 1) pa_nil)))) pss_any pss_nil)), ?_⟩
    obtain ⟨dx, hp⟩ := hW.at_
    refine ⟨_, rfl, p, dx, _, rfl, hp, fw_no (by decide +kernel), _, rfl, p, D, E', W, nm, rfl, hW, _, rfl, ?_⟩
    rw [hF]
    exact itbF rfl q
theorem ok_wcc {f : Addr} {fd : FuncData} (t : WcT K mg WC) (D_is_integer : Def P w K mg base CX0 1 "is_integer" pV spInt) (F : Fun K "_check_client" "World._check_client" sWCc f fd) : FnOk P w K mg base CX0 2 f fd nWCc (spWCc K C CC WC) := by
  refine F.ok scWCc (fun vs H Q E h => ?_) (fun cdv A outer s H vs Q E hr h => ?_)
  · obtain ⟨p, D, E', W, c, rfl, _⟩ := h
    rfl
  · obtain ⟨p, D, E', W, c, rfl, hW, h0, h1, q⟩ := h
    refine ⟨_, (pss_one (ps_if (PW.pt (pw_or (pt_not (pt_val (pe_def D_is_integer (hr.mono (by decide)) rfl pass0 (pa_cons (pv 1) pa_nil)))) (pw_or1 (pt_not (pt_chain op_le op_lt pe_int (pv 1) (pe_fld (pv 0) rfl)))))) pss_any pss_nil)), ?_⟩
    obtain ⟨dx, hp⟩ := hW.at_
    refine ⟨_, rfl, c, rfl, _, rfl, itbF rfl ?_⟩
    refine ⟨_, rfl, 0, c, rfl, rfl, ⟨_, rfl, ?_⟩⟩
    rw [decide_eq_true h0]
    refine ⟨_, rfl, p, WC, dx, _, _, rfl, hp, t.cl, t.nC, fw_c, c, W.cl, rfl, rfl, _, rfl, ?_⟩
    rw [decide_eq_true h1]
    exact itbF rfl q
theorem ok_wfo {f : Addr} {fd : FuncData} (t : WcT K mg WC) (M_cn : MDef P w K mg base CX0 2 WC "_check_name" nWN (spWCn K C CC WC)) (F : Fun K "folder" "World.folder" sWFo f fd) : FnOk P w K mg base CX0 3 f fd nWN (spWFo K C CC WC) := by
  refine F.ok scWFo (fun vs H Q E h => ?_) (fun cdv A outer s H vs Q E hr h => ?_)
  · obtain ⟨p, D, E', W, nm, F, rfl, _⟩ := h
    rfl
  · obtain ⟨p, D, E', W, nm, F, rfl, hW, hF, q⟩ := h
    refine ⟨_, (pss_cons (ps_expr (pe_mdef M_cn t.cl (hr.mono (by decide)) pass0 (pv 0) (pa_cons (pv 1) pa_nil))) (pss_one (ps_ret (pe_dget (hu_of hr) (pe_fld (pv 0) rfl) (pv 1) (fun _ _ => rfl))))), ?_⟩
    obtain ⟨dx, hp⟩ := hW.at_
    obtain ⟨a, ha, hg⟩ := hW.f.get hF
    refine ⟨_, rfl, p, dx, _, rfl, hp, fw_no (by decide +kernel), _, rfl, p, D, E', W, nm, F, rfl, hW, hF, ?_⟩
    exact ⟨_, rfl, p, WC, dx, _, _, rfl, hp, t.cl, t.nF, fw_f, _, rfl, D, .ref a, rfl, hg fun _ h => h, q a ha⟩
theorem ok_wcp {f : Addr} {fd : FuncData} (n1 : C ≠ WC) (n2 : CC ≠ WC) (t : WcT K mg WC) (M_cc : MDef P w K mg base CX0 2 WC "_check_client" nWCc (spWCc K C CC WC)) (M_cn : MDef P w K mg base CX0 2 WC "_check_name" nWN (spWCn K C CC WC)) (F : Fun K "copy" "World.copy" sWCp f fd) : FnOk P w K mg base CX0 3 f fd nWCp (spWCp K C CC WC) := by
  refine F.ok scWCp (fun vs H Q E h => ?_) (fun cdv A outer s H vs Q E hr h => ?_)
  · obtain ⟨p, D, E', W, c, nm, F, rfl, _⟩ := h
    rfl
  · obtain ⟨p, D, E', W, c, nm, F, rfl, hW, h0, h1, hF, q⟩ := h
    refine ⟨_, (pss_cons (ps_expr (pe_mdef M_cc t.cl (hr.mono (by decide)) pass0 (pv 0) (pa_cons (pv 1) pa_nil))) (pss_cons (ps_expr (pe_mdef M_cn t.cl (hr.mono (by decide)) pass0 (pv 0) (pa_cons (pv 2) pa_nil))) (pss_one (ps_ret (pe_dget1 (hu_of hr) (pe_fld (pv 0) rfl) (pe_tup (pa_cons (pv 1) (pa_cons (pv 2) pa_nil))) ⟨rfl, rfl, rfl, rfl⟩))))), ?_⟩
    obtain ⟨dx, hp⟩ := hW.at_
    refine ⟨_, rfl, p, dx, _, rfl, hp, fw_no (by decide +kernel), _, rfl, p, D, E', W, c, rfl, hW, h0, h1, ?_⟩
    refine ⟨_, rfl, p, dx, _, rfl, hp, fw_no (by decide +kernel), _, rfl, p, D, E', W, nm, F, rfl, hW, hF, ?_⟩
    refine ⟨_, rfl, p, WC, dx, _, _, rfl, hp, t.cl, t.nP, fw_p, E', rfl, hW.c.isD, _, rfl, _, rfl, by show 2 ≤ sizeLine; decide, fun b nb => ?_⟩
    have s1 := same_new nb (o := .tup [.int c, .str nm])
    rcases hW.c.get (c, nm) with ⟨e, hg⟩ | ⟨k, a, e, ha, hg⟩
    · rw [e] at q
      exact ⟨none, hg (fun o h => s1 _ _ h) upd_same, q _ s1⟩
    · rw [e] at q
      exact ⟨some (.ref a), hg (fun o h => s1 _ _ h) upd_same, q _ a s1 (ha.same s1)⟩
theorem ok_w_c {f : Addr} {fd : FuncData} (t : WcT K mg WC) (TB : PySem.Tide.TideTxt P K mg "BadCopy" CB fB "value") (M_cp : MDef P w K mg base CX0 3 WC "copy" nWCp (spWCp K C CC WC)) (F : Fun K "_copy" "World._copy" sW_c f fd) : FnOk P w K mg base (L2.CX P w) 4 f fd nWCp (spW_c K C CC WC CB) := by
  have nd := scW_c.nd
  refine F.okX scW_c (fun vs H Q E h => ?_) (fun cdv A outer s H vs Q E hr h => ?_)
  · obtain ⟨p, D, E', W, c, nm, F, rfl, _⟩ := h
    rfl
  · obtain ⟨p, D, E', W, c, nm, F, rfl, hW, h0, h1, hF, qe, q⟩ := h
    refine ⟨_, (pss_cons (ps_set (i := 3) nd rfl (Or.inl rfl) (pe_mdef M_cp t.cl (hr.mono (by decide)) pass0 (pv 0) (pa_cons (pv 1) (pa_cons (pv 2) pa_nil))))
 (pss_cons (ps_if (pt_cmpR op_isN (pv 3) pe_non (nomark _))
  (pss_one (ps_raiseTide rfl TB hr (takes_of rfl rfl rfl rfl) (pa_cons pe_non pa_nil)))
  pss_nil)
 (pss_one (ps_ret (pv 3))))), ?_⟩
    obtain ⟨dx, hp⟩ := hW.at_
    refine ⟨_, rfl, p, dx, _, rfl, hp, fw_no (by decide +kernel), _, rfl, _, rfl, p, D, E', W, c, nm, F, rfl, hW, h0, h1, hF, ?_⟩
    cases e : lkA W.cs (c, nm) with
    | none =>
      intro H1 s1
      refine ⟨_, rfl, rfl, _, rfl, itbT rfl ?_⟩
      exact ⟨_, rfl, (qe e).go s1⟩
    | some k =>
      intro H1 x s1 hx
      exact ⟨_, rfl, rfl, _, rfl, itbF rfl ⟨_, rfl, q k e H1 x s1 hx⟩⟩
end
end K1
set_option Elab.async false
set_option linter.all false
set_option maxRecDepth 100000
set_option maxHeartbeats 4000000
/-! World: act, remake, swap, fetch; can_be_done, whatever it tells. -/
namespace K1
open PySem PySem.Spec PyProof.Rows L2 RZ StX
noncomputable def canB (F : Fo) : Dd → Bool
  | .trim m => decide (m ≤ F.mr)
  | _ => true
theorem canB_iff {F : Fo} : ∀ {d : Dd}, canB F d = true → CanD F d
  | .trim m, h => show m ≤ F.mr from of_decide_eq_true h
  | .app _ _, _ => trivial
  | .add _ _, _ => trivial
  | .take _ _, _ => trivial
  | .set _ _, _ => trivial
  | .rem _, _ => trivial
noncomputable def spCanB (C : Addr) : Sp := fun vs H Q _ => ∃ (p a : Addr) (F : Fo) (d : Dd), vs = [.ref p, .ref a] ∧ FoAt C H p F ∧ DdAt H a d ∧ ∀ H', Same H H' → Q (.bl (canB F d)) H'
theorem tabs_mutO {T : List (Addr × Str)} {D : Addr} {H : Hp} {o u : HO} (hD : H D = some o) (n1 : ∀ ps, o ≠ .tbl ps) (n2 : ∀ c q, o ≠ LamX.CodeO c q) (hT : LamX.Tabs T H) : LamX.Tabs T (upd H D u) := fun x hx => by
  obtain ⟨ps, h1, h2, h3⟩ := hT x hx
  refine ⟨ps, by rw [upd_ne (fun z => by rw [z, hD] at h1; cases h1; exact n1 _ rfl)]; exact h1, h2, fun pos cv hc => ?_⟩
  obtain ⟨c', g1, g2⟩ := h3 pos cv hc
  exact ⟨c', g1, by rw [upd_ne (fun z => by rw [z, hD] at g2; cases g2; exact n2 _ _ rfl)]; exact g2⟩
theorem tabs_D {T : List (Addr × Str)} {D : Addr} {H : Hp} {kvs : List (L2.Key × V)} {u : HO} (hD : H D = some (.dK kvs)) (hT : LamX.Tabs T H) : LamX.Tabs T (upd H D u) := tabs_mutO hD (fun _ z => by cases z) (fun _ _ z => by cases z) hT
theorem tabs_E {T : List (Addr × Str)} {D : Addr} {H : Hp} {kvs : List (List L2.Key × V)} {u : HO} (hD : H D = some (.dT kvs)) (hT : LamX.Tabs T H) : LamX.Tabs T (upd H D u) := tabs_mutO hD (fun _ z => by cases z) (fun _ _ z => by cases z) hT
theorem tabs_I {T : List (Addr × Str)} {D C dx : Addr} {fs : List (Str × V)} {H : Hp} {u : HO} (hD : H D = some (.ins C dx fs)) (hT : LamX.Tabs T H) : LamX.Tabs T (upd H D u) := tabs_mutO hD (fun _ z => by cases z) (fun _ _ z => by cases z) hT
section
variable {K : PySem.W.Frag} {C CC WC p D E q : Addr} {H : Hp} {W : Wd}
theorem WAt.putF {nm : Str} {F : Fo} {kvs : List (L2.Key × V)} (h : WAt K C CC WC H p D E W) (n2 : CC ≠ WC) (hD : H D = some (.dK kvs)) (hq : FoAt C H q F) : WAt K C CC WC (upd H D (.dK (putK kvs (encF nm) (.ref q)))) p D E { W with fs := ptA W.fs nm F } := by
  obtain ⟨dx, hp⟩ := h.at_
  obtain ⟨kv2, hE, hc⟩ := h.c
  refine ⟨⟨dx, by rw [upd_ne (fun z => by rw [z, hD] at hp; cases hp)]; exact hp⟩, h.f.put hD hq, ?_⟩
  have t : TI H (upd H D (.dK (putK kvs (encF nm) (.ref q)))) := TI.mut hD (fun _ z => by cases z) fun _ _ _ z => by cases z
  exact h.c.tj n2 (TJ.of t) fun o e => by rw [upd_ne (fun z => by rw [z, hD] at hE; cases hE)]; exact e
theorem WAt.putC {k : Int × Str} {c : Cp} {kvs : List (List L2.Key × V)} (h : WAt K C CC WC H p D E W) (n1 : C ≠ WC) (hE : H E = some (.dT kvs)) (hq : CpAt K CC H q c) : WAt K C CC WC (upd H E (.dT (putK kvs (encC k) (.ref q)))) p D E { W with cs := ptA W.cs k c } := by
  obtain ⟨dx, hp⟩ := h.at_
  obtain ⟨kv2, hD, hf⟩ := h.f
  refine ⟨⟨dx, by rw [upd_ne (fun z => by rw [z, hE] at hp; cases hp)]; exact hp⟩, ?_, h.c.put hE hq⟩
  have t : TI H (upd H E (.dT (putK kvs (encC k) (.ref q)))) := TI.mut hE (fun _ z => by cases z) fun _ _ _ z => by cases z
  exact h.f.tj n1 (TJ.of t) fun o e => by rw [upd_ne (fun z => by rw [z, hE] at hD; cases hD)]; exact e
theorem WAt.putN {dx : Addr} {n : Int} (h : WAt K C CC WC H p D E W) (n1 : C ≠ WC) (n2 : CC ≠ WC) (hp : H p = some (.ins WC dx (flW (.ref D) (.ref E) (.int W.nx) (.int W.cl)))) : WAt K C CC WC (upd H p (.ins WC dx (flW (.ref D) (.ref E) (.int n) (.int W.cl)))) p D E { W with nx := n } := by
  obtain ⟨kv1, hD, hf⟩ := h.f
  obtain ⟨kv2, hE, hc⟩ := h.c
  have t := TJ.ins (u := .ins WC dx (flW (.ref D) (.ref E) (.int n) (.int W.cl))) hp
  exact ⟨⟨dx, upd_same⟩, h.f.tj n1 t fun o e => by rw [upd_ne (fun z => by rw [z, hp] at hD; cases hD)]; exact e, h.c.tj n2 t fun o e => by rw [upd_ne (fun z => by rw [z, hp] at hE; cases hE)]; exact e⟩
end
/-- what making a folder asks -/
theorem newF {C x dx : Addr} {H : Hp} {a : Int} {R : VK} {E : XK} (nx : H x = none) (ndx : H dx = none) (nxd : dx ≠ x) (ha : 1 ≤ a) (q : ∀ H', Same H H' → FoAt C H' x (fNew a) → R .non H') : spInit C [.ref x, .int a] (upd (upd H dx (.own x)) x (.ins C dx [])) R E := by
  refine ⟨x, dx, a, rfl, upd_same, ha, fun G tl tg k0 hx htl htg => ?_⟩
  have sG : Same H G := fun b o hb => k0 b o (fun e => by rw [e, nx] at hb; cases hb) (by
    rw [upd_ne (fun e => by rw [e, nx] at hb; cases hb), upd_ne (fun e => by rw [e, ndx] at hb; cases hb)]; exact hb)
  exact q G sG ⟨dx, tl, tg, hx, .tup htl .nil, .tup htg .nil⟩
noncomputable abbrev sWAct : Stmt := mW 5
noncomputable abbrev sWRe : Stmt := mW 6
noncomputable abbrev sWSw : Stmt := mW 7
noncomputable abbrev sWFe : Stmt := mW 8
noncomputable abbrev nWAct : List Str := ["self", "name", "deed"]
theorem scWAct : FnScope nWAct nWAct (defScope sWAct) := ⟨rfl, rfl, rfl, by decide +kernel, rfl, by decide +kernel, by decide +kernel⟩
theorem scWRe : FnScope nWN nWN (defScope sWRe) := ⟨rfl, rfl, rfl, by decide +kernel, rfl, by decide +kernel, by decide +kernel⟩
noncomputable abbrev nWSw : List Str := ["self", "name", "other", "one", "two"]
noncomputable abbrev pWSw : List Str := ["self", "name", "other"]
theorem scWSw : FnScope nWSw pWSw (defScope sWSw) := ⟨rfl, rfl, rfl, by decide +kernel, rfl, by decide +kernel, by decide +kernel⟩
theorem scWFe : FnScope nWCp nWCp (defScope sWFe) := ⟨rfl, rfl, rfl, by decide +kernel, rfl, by decide +kernel, by decide +kernel⟩
section
variable (K : PySem.W.Frag) (C CC WC PA PT PS : Addr)
/-- the world behind a call -/
noncomputable def WNew (H : Hp) (p D E : Addr) (W : Wd) (H' : Hp) : Prop := FRM [p, D, E] H H' ∧ LamX.Tabs (T3 PA PT PS) H' ∧ WAt K C CC WC H' p D E W
noncomputable def spWAct (CD : Addr) : Sp := fun vs H Q E => ∃ (p D E' a : Addr) (W : Wd) (nm : Str) (F : Fo) (d : Dd), vs = [.ref p, .str nm, .ref a] ∧ WAt K C CC WC H p D E' W ∧ W.fs.length ≤ 1000 ∧ lkA W.fs nm = some F ∧ Wf 1000 F ∧ DdAt H a d ∧ LamX.Tabs (T3 PA PT PS) H ∧
  (canB F d = false → ErrAt CD "at" (.int (-1)) H E) ∧ (canB F d = true → ∀ H', WNew K C CC WC PA PT PS H p D E' { W with fs := ptA W.fs nm (does d F) } H' → Q .non H')
noncomputable def spWRe : Sp := fun vs H Q _ => ∃ (p D E' : Addr) (W : Wd) (nm : Str) (F : Fo), vs = [.ref p, .str nm] ∧ WAt K C CC WC H p D E' W ∧ W.fs.length ≤ 1000 ∧ lkA W.fs nm = some F ∧ 1 ≤ W.nx ∧ LamX.Tabs (T3 PA PT PS) H ∧
  ∀ H', WNew K C CC WC PA PT PS H p D E' { W with fs := ptA W.fs nm (fNew W.nx), nx := W.nx + 1 } H' → Q .non H'
noncomputable def spWSw (CV : Addr) : Sp := fun vs H Q E => ∃ (p D E' : Addr) (W : Wd) (nm ot : Str) (F G : Fo), vs = [.ref p, .str nm, .str ot] ∧ WAt K C CC WC H p D E' W ∧ W.fs.length ≤ 1000 ∧ PyData.strOk nm = true ∧ PyData.strOk ot = true ∧ lkA W.fs nm = some F ∧ lkA W.fs ot = some G ∧ LamX.Tabs (T3 PA PT PS) H ∧
  (ot = nm → ErrAt CV "why" (.str "other") H E) ∧ (ot ≠ nm → ∀ H', WNew K C CC WC PA PT PS H p D E' { W with fs := ptA (ptA W.fs nm G) ot F } H' → Q .non H')
noncomputable def spWFe : Sp := fun vs H Q _ => ∃ (p D E' : Addr) (W : Wd) (c : Int) (nm : Str) (F : Fo) (k : Nat), vs = [.ref p, .int c, .str nm] ∧ WAt K C CC WC H p D E' W ∧ W.cs.length ≤ 1000 ∧ 0 ≤ c ∧ c < W.cl ∧ lkA W.fs nm = some F ∧ GA k F ∧ k ≤ 900 ∧ LamX.Tabs (T3 PA PT PS) H ∧
  ∀ H', WNew K C CC WC PA PT PS H p D E' { W with cs := ptA W.cs (c, nm) (cpF F) } H' → Q .non H'
end
section
variable {P : Program} {w : World} {K : PySem.W.Frag} {mg : Str → Option Value} {base : Heap} {C CC WC PA PT PS CV fV CD fD : Addr}
theorem ok_canB {f : Addr} {fd : FuncData} (t : ClT K mg C) (M_mark : MDef P w K mg base CX0 1 C "mark" nSelf (spMark C)) (D_is_deed : Def P w K mg base CX0 4 "is_deed" pV spIsDeed)
    (F : Fun K "can_be_done" "can_be_done" sCan f fd) : FnOk P w K mg base CX0 5 f fd nCan (spCanB C) := by
  have nd := scCan.nd
  refine F.ok scCan (fun vs H Q E h => ?_) (fun cdv A outer s H vs Q E hr h => ?_)
  · obtain ⟨p, a, F, d, rfl, _⟩ := h
    rfl
  · obtain ⟨p, a, F, d, rfl, hF, hd, q⟩ := h
    refine ⟨_, pss_cons (ps_if (pt_not (pt_val (pe_def D_is_deed (hr.mono (by decide)) rfl pass0 (pa_cons (pv 1) pa_nil)))) pss_any pss_nil)
 (pss_one (ps_ret (pe_or (pe_cmpR (op_neDK (K := K) rfl hr.units) (pe_ix (ix_tupK (K := K) rfl) (pv 1) pe_int (fun _ _ => rfl)) pe_str (nomark _)) (pe_one (pe_cmpR op_le (pe_ix (ix_tupK (K := K) rfl) (pv 1) pe_int (fun _ _ => rfl)) (pe_mdef0 M_mark t.cl (hr.mono (by decide)) pass0 (pv 0)) (nomark _)))))), ?_⟩
    refine ⟨_, rfl, a, d, rfl, hd, fun H1 s1 => ⟨_, rfl, itbF rfl ?_⟩⟩
    have hd1 := hd.same s1
    by_cases ht : ∃ m, d = .trim m
    · obtain ⟨m, rfl⟩ := ht
      obtain ⟨ha, h0⟩ := hd1
      have hF1 := hF.same s1
      obtain ⟨dx, tl, tg, hp, _⟩ := id hF1
      refine ⟨_, rfl, a, _, 0, .str "trim", rfl, rfl, st ha, atI_nat (j := 0) rfl, ?_⟩
      delta tC; dsimp only
      refine ne_str true (by decide +kernel) (by decide +kernel) ⟨_, rfl, itbF rfl ?_⟩
      refine ⟨_, rfl, a, _, 1, .int m, rfl, rfl, st ha, atI_nat (j := 1) rfl, _, rfl, p, dx, _, rfl, hp, fl_no (by decide +kernel), p, F, rfl, hF1, _, _, rfl, rfl, ?_⟩
      exact q H1 s1
    obtain ⟨u, rest, ha, hl⟩ := hd1.word
    refine ⟨_, rfl, a, _, 0, .str (wordD d), rfl, rfl, st ha, atI_nat (j := 0) rfl, ?_⟩
    delta tC; dsimp only
    have qq := q H1 s1
    cases d with
    | app b ss => exact ne_str false (word_ok (.app b ss)) (show (("append" : Str) == "trim") = false by decide +kernel) ⟨_, rfl, itbT rfl qq⟩
    | add b ss => exact ne_str false (word_ok (.add b ss)) (show (("add" : Str) == "trim") = false by decide +kernel) ⟨_, rfl, itbT rfl qq⟩
    | take b ss => exact ne_str false (word_ok (.take b ss)) (show (("take" : Str) == "trim") = false by decide +kernel) ⟨_, rfl, itbT rfl qq⟩
    | set b ss => exact ne_str false (word_ok (.set b ss)) (show (("set" : Str) == "trim") = false by decide +kernel) ⟨_, rfl, itbT rfl qq⟩
    | rem b => exact ne_str false (word_ok (.rem b)) (show (("remove" : Str) == "trim") = false by decide +kernel) ⟨_, rfl, itbT rfl qq⟩
    | trim m => exact (ht ⟨m, rfl⟩).elim
set_option maxHeartbeats 8000000 in
theorem ok_wact {f : Addr} {fd : FuncData} (n1 : C ≠ WC) (n2 : CC ≠ WC) (t : WcT K mg WC) (TD : PySem.Tide.TideTxt P K mg "BadDeed" CD fD "at") (M_cn : MDef P w K mg base CX0 2 WC "_check_name" nWN (spWCn K C CC WC)) (D_can : Def P w K mg base CX0 5 "can_be_done" nCan (spCanB C))
    (D_done : Def P w K mg base CX0 9 "done" pDone (spDone C PA PT PS)) (F : Fun K "act" "World.act" sWAct f fd) : FnOk P w K mg base (L2.CX P w) 10 f fd nWAct (spWAct K C CC WC PA PT PS CD) := by
  refine F.okX scWAct (fun vs H Q E h => ?_) (fun cdv A outer s H vs Q E hr h => ?_)
  · obtain ⟨p, D, E', a, W, nm, F, d, rfl, _⟩ := h
    rfl
  · obtain ⟨p, D, E', a, W, nm, F, d, rfl, hW, hl, hF, wf, hd, hT, qe, q⟩ := h
    refine ⟨_, (pss_cons (ps_expr (pe_mdef M_cn t.cl (hr.mono (by decide)) pass0 (pv 0) (pa_cons (pv 1) pa_nil)))
 (pss_cons (ps_if (pt_not (pt_val (pe_def D_can (hr.mono (by decide)) rfl pass0 (pa_cons (pe_dget (hu_of hr) (pe_fld (pv 0) rfl) (pv 1) (fun _ _ => rfl)) (pa_cons (pv 2) pa_nil)))))
  (pss_one (ps_raiseTide rfl TD hr (takes_of rfl rfl rfl rfl) (pa_cons (pe_un un_neg pe_int) pa_nil)))
  pss_nil)
 (pss_one (ps_dput (hu_of hr) (pe_fld (pv 0) rfl) (pv 1) (pe_def D_done (hr.mono (by decide)) rfl pass0 (pa_cons (pe_dget (hu_of hr) (pe_fld (pv 0) rfl) (pv 1) (fun _ _ => rfl)) (pa_cons (pv 2) pa_nil))) rfl)))), ?_⟩
    obtain ⟨dx, hp⟩ := hW.at_
    obtain ⟨fa, hfa, hg⟩ := hW.f.get hF
    refine ⟨_, rfl, p, dx, _, rfl, hp, fw_no (by decide +kernel), _, rfl, p, D, E', W, nm, F, rfl, hW, hF, ?_⟩
    refine ⟨_, rfl, p, WC, dx, _, _, rfl, hp, t.cl, t.nF, fw_f, _, rfl, D, _, rfl, hg fun _ h => h, _, rfl, fa, a, F, d, rfl, hfa, hd, fun H1 s1 => ⟨_, rfl, ?_⟩⟩
    cases hc : canB F d with
    | false => exact itbT rfl ⟨_, rfl, _, rfl, (qe hc).go s1⟩
    | true =>
      refine itbF rfl ?_
      have hW1 := hW.same n1 n2 s1
      refine ⟨_, rfl, p, WC, dx, _, _, rfl, s1 _ _ hp, t.cl, t.nF, fw_f, _, rfl, D, _, rfl, hg fun _ h => s1 _ _ h, _, rfl, fa, a, F, d, rfl, hfa.same s1, wf, hd.same s1, canB_iff hc, hT.ext s1, fun q' H2 e2 t2 hq2 => ?_⟩
      have hW2 := hW1.en n1 n2 e2
      obtain ⟨dx2, hp2⟩ := hW2.at_
      obtain ⟨kvs, hD2, hk⟩ := id hW2.f
      refine ⟨_, rfl, p, WC, dx2, _, _, rfl, hp2, t.cl, t.nF, fw_f, _, rfl, D, _, rfl, DPut.k (k := encF nm) hD2 (lt1 _ (by rw [ka_len hk]; exact Nat.le_trans (Nat.succ_le_succ hl) (by decide))), ?_⟩
      exact q hc _ ⟨((FRM.en (LamX.ExtN.of s1)).ext e2).mut (by simp), tabs_D hD2 t2, hW2.putF n2 hD2 hq2⟩
set_option maxHeartbeats 8000000 in
theorem ok_wre {f : Addr} {fd : FuncData} (n1 : C ≠ WC) (n2 : CC ≠ WC) (t : WcT K mg WC) (tc : ClT K mg C) (M_cn : MDef P w K mg base CX0 2 WC "_check_name" nWN (spWCn K C CC WC)) (D_new : MkD P w K mg base C)
    (F : Fun K "remake" "World.remake" sWRe f fd) : FnOk P w K mg base CX0 5 f fd nWN (spWRe K C CC WC PA PT PS) := by
  refine F.ok scWRe (fun vs H Q E h => ?_) (fun cdv A outer s H vs Q E hr h => ?_)
  · obtain ⟨p, D, E', W, nm, F, rfl, _⟩ := h
    rfl
  · obtain ⟨p, D, E', W, nm, F, rfl, hW, hl, hF, h1, hT, q⟩ := h
    refine ⟨_, (pss_cons (ps_expr (pe_mdef M_cn t.cl (hr.mono (by decide)) pass0 (pv 0) (pa_cons (pv 1) pa_nil)))
 (pss_cons (ps_dput (hu_of hr) (pe_fld (pv 0) rfl) (pv 1) (pe_new D_new tc.gC (hr.mono (by decide)) rfl (pa_cons (pe_fld (pv 0) rfl) pa_nil)) rfl)
 (pss_one (ps_fldaug (pv 0) pe_int ip_add)))), ?_⟩
    obtain ⟨dx, hp⟩ := hW.at_
    refine ⟨_, rfl, p, dx, _, rfl, hp, fw_no (by decide +kernel), _, rfl, p, D, E', W, nm, F, rfl, hW, hF, ?_⟩
    refine ⟨_, rfl, p, WC, dx, _, _, rfl, hp, t.cl, t.nN, fw_n, fun x ddx nx ndx nxd => newF nx ndx nxd h1 fun H1 s1 hx => ⟨rfl, ?_⟩⟩
    have hW1 := hW.same n1 n2 s1
    obtain ⟨kvs, hD1, hk⟩ := id hW1.f
    refine ⟨_, rfl, p, WC, dx, _, _, rfl, s1 _ _ hp, t.cl, t.nF, fw_f, _, rfl, D, _, rfl, DPut.k (k := encF nm) hD1 (lt1 _ (by rw [ka_len hk]; exact Nat.le_trans (Nat.succ_le_succ hl) (by decide))), ?_⟩
    have hW2 := hW1.putF (nm := nm) n2 hD1 hx
    have t2 := tabs_D (u := .dK (putK kvs (encF nm) (.ref x))) hD1 (hT.ext s1)
    have f2 : FRM [p, D, E'] H (upd H1 D (.dK (putK kvs (encF nm) (.ref x)))) := (FRM.en (LamX.ExtN.of s1)).mut (by simp)
    generalize upd H1 D (.dK (putK kvs (encF nm) (.ref x))) = H2 at hW2 t2 f2
    obtain ⟨dx2, hp2⟩ := hW2.at_
    refine ⟨_, rfl, p, WC, dx2, _, _, rfl, hp2, t.cl, t.nN, fw_n, _, _, rfl, rfl, dx2, _, hp2, by show 4 < 1000; decide, ?_⟩
    rw [pw_nx]
    exact q _ ⟨f2.mut (by simp), tabs_I hp2 t2, hW2.putN n1 n2 hp2⟩
set_option maxHeartbeats 8000000 in
theorem ok_wsw {f : Addr} {fd : FuncData} (n1 : C ≠ WC) (n2 : CC ≠ WC) (t : WcT K mg WC) (TV : PySem.Tide.TideTxt P K mg "BadValue" CV fV "why") (M_cn : MDef P w K mg base CX0 2 WC "_check_name" nWN (spWCn K C CC WC)) (M_is_name : MDef P w K mg base CX0 1 WC "_is_name" nWIs (spWIs K C CC WC))
    (F : Fun K "swap" "World.swap" sWSw f fd) : FnOk P w K mg base (L2.CX P w) 5 f fd pWSw (spWSw K C CC WC PA PT PS CV) := by
  have nd := scWSw.nd
  refine F.okX scWSw (fun vs H Q E h => ?_) (fun cdv A outer s H vs Q E hr h => ?_)
  · obtain ⟨p, D, E', W, nm, ot, F, G, rfl, _⟩ := h
    rfl
  · obtain ⟨p, D, E', W, nm, ot, F, G, rfl, hW, hl, ks, ks2, hF, hG, hT, qe, q⟩ := h
    refine ⟨_, (pss_cons (ps_expr (pe_mdef M_cn t.cl (hr.mono (by decide)) pass0 (pv 0) (pa_cons (pv 1) pa_nil)))
 (pss_cons (ps_if (PW.pt (pw_or (pt_not (pt_val (pe_mdef M_is_name t.cl (hr.mono (by decide)) pass0 (pv 0) (pa_cons (pv 2) pa_nil)))) (pw_or1 (pt_cmpR (op_eqDK (K := K) rfl hr.units) (pv 2) (pv 1) (nomark _)))))
  (pss_one (ps_raiseTide rfl TV hr (takes_of rfl rfl rfl rfl) (pa_cons pe_str pa_nil)))
  pss_nil)
 (pss_cons (ps_par (i := 3) (j := 4) (by rfl) nd rfl rfl (by decide) rfl rfl (pa_cons (pe_dget (hu_of hr) (pe_fld (pv 0) rfl) (pv 1) (fun _ _ => rfl)) (pa_cons (pe_dget (hu_of hr) (pe_fld (pv 0) rfl) (pv 2) (fun _ _ => rfl)) pa_nil)) (by rfl))
 (pss_cons (ps_dput (hu_of hr) (pe_fld (pv 0) rfl) (pv 1) (pv 4) rfl)
 (pss_one (ps_dput (hu_of hr) (pe_fld (pv 0) rfl) (pv 2) (pv 3) rfl)))))), ?_⟩
    obtain ⟨dx, hp⟩ := hW.at_
    obtain ⟨fa, hfa, hg⟩ := hW.f.get hF
    obtain ⟨ga, hga, hg2⟩ := hW.f.get hG
    obtain ⟨kvs, hD, hk⟩ := id hW.f
    refine ⟨_, rfl, p, dx, _, rfl, hp, fw_no (by decide +kernel), _, rfl, p, D, E', W, nm, F, rfl, hW, hF, ?_⟩
    refine ⟨_, rfl, p, dx, _, rfl, hp, fw_no (by decide +kernel), _, rfl, p, D, E', W, ot, rfl, hW, _, rfl, ?_⟩
    rw [hG]
    refine itbF rfl ?_
    refine ⟨_, rfl, _, rfl, ?_⟩
    by_cases e : ot = nm
    · refine eq_str true ks2 (beq_iff_eq.mpr e) ?_ ks
      exact ⟨_, rfl, itbT rfl ⟨_, rfl, (qe e).go fun _ _ h => h⟩⟩
    · refine eq_str false ks2 (beq_eq_false_iff_ne.mpr e) ?_ ks
      refine ⟨_, rfl, itbF rfl ?_⟩
      refine ⟨_, rfl, p, WC, dx, _, _, rfl, hp, t.cl, t.nF, fw_f, _, rfl, D, _, rfl, hg fun _ h => h, ?_⟩
      refine ⟨_, rfl, p, WC, dx, _, _, rfl, hp, t.cl, t.nF, fw_f, _, rfl, D, _, rfl, hg2 fun _ h => h, _, _, rfl, ?_⟩
      refine ⟨_, rfl, _, rfl, p, WC, dx, _, _, rfl, hp, t.cl, t.nF, fw_f, _, rfl, D, _, rfl, DPut.k (k := encF nm) hD (lt1 _ (by rw [ka_len hk]; exact Nat.le_trans (Nat.succ_le_succ hl) (by decide))), ?_⟩
      have hW1 := hW.putF (nm := nm) n2 hD hga
      have t1 := tabs_D (u := .dK (putK kvs (encF nm) (.ref ga))) hD hT
      have f1 : FRM [p, D, E'] H (upd H D (.dK (putK kvs (encF nm) (.ref ga)))) := FRM.refl.mut (by simp)
      have hfa1 : FoAt C (upd H D (.dK (putK kvs (encF nm) (.ref ga)))) fa F := hfa.ti (TI.mut hD (fun _ z => by cases z) fun _ _ _ z => by cases z)
      generalize upd H D (.dK (putK kvs (encF nm) (.ref ga))) = H1 at hW1 t1 f1 hfa1
      obtain ⟨dx1, hp1⟩ := hW1.at_
      obtain ⟨kv1, hD1, hk1⟩ := id hW1.f
      have l1 : (ptA W.fs nm G).length = W.fs.length := by rw [ptA_there hF, List.length_map]
      refine ⟨_, rfl, _, rfl, p, WC, dx1, _, _, rfl, hp1, t.cl, t.nF, fw_f, _, rfl, D, _, rfl, DPut.k (k := encF ot) hD1 (lt1 _ (by rw [ka_len hk1, l1]; exact Nat.le_trans (Nat.succ_le_succ hl) (by decide))), ?_⟩
      exact q e _ ⟨f1.mut (by simp), tabs_D hD1 t1, hW1.putF n2 hD1 hfa1⟩
set_option maxHeartbeats 8000000 in
theorem ok_wfe {f : Addr} {fd : FuncData} (n1 : C ≠ WC) (n2 : CC ≠ WC) (t : WcT K mg WC) (M_cc : MDef P w K mg base CX0 2 WC "_check_client" nWCc (spWCc K C CC WC)) (M_cn : MDef P w K mg base CX0 2 WC "_check_name" nWN (spWCn K C CC WC)) (D_copy_of : Def P w K mg base CX0 6 "copy_of" pCo (spCo K C CC))
    (F : Fun K "fetch" "World.fetch" sWFe f fd) : FnOk P w K mg base CX0 7 f fd nWCp (spWFe K C CC WC PA PT PS) := by
  refine F.ok scWFe (fun vs H Q E h => ?_) (fun cdv A outer s H vs Q E hr h => ?_)
  · obtain ⟨p, D, E', W, c, nm, F, k, rfl, _⟩ := h
    rfl
  · obtain ⟨p, D, E', W, c, nm, F, k, rfl, hW, hl, h0, h1, hF, ga, k9, hT, q⟩ := h
    refine ⟨_, (pss_cons (ps_expr (pe_mdef M_cc t.cl (hr.mono (by decide)) pass0 (pv 0) (pa_cons (pv 1) pa_nil)))
 (pss_cons (ps_expr (pe_mdef M_cn t.cl (hr.mono (by decide)) pass0 (pv 0) (pa_cons (pv 2) pa_nil)))
 (pss_one (ps_dput (hu_of hr) (pe_fld (pv 0) rfl) (pe_tup (pa_cons (pv 1) (pa_cons (pv 2) pa_nil))) (pe_def D_copy_of (hr.mono (by decide)) rfl pass0 (pa_cons (pe_dget (hu_of hr) (pe_fld (pv 0) rfl) (pv 2) (fun _ _ => rfl)) pa_nil)) rfl)))), ?_⟩
    obtain ⟨dx, hp⟩ := hW.at_
    obtain ⟨fa, hfa, hg⟩ := hW.f.get hF
    refine ⟨_, rfl, p, dx, _, rfl, hp, fw_no (by decide +kernel), _, rfl, p, D, E', W, c, rfl, hW, h0, h1, ?_⟩
    refine ⟨_, rfl, p, dx, _, rfl, hp, fw_no (by decide +kernel), _, rfl, p, D, E', W, nm, F, rfl, hW, hF, ?_⟩
    refine ⟨_, rfl, p, WC, dx, _, _, rfl, hp, t.cl, t.nF, fw_f, _, rfl, D, _, rfl, hg fun _ h => h, fa, F, k, rfl, hfa, ga, k9, fun x H1 s1 nx hx => ?_⟩
    refine ⟨_, rfl, p, WC, dx, _, _, rfl, s1 _ _ hp, t.cl, t.nP, fw_p, _, rfl, _, rfl, by show 2 ≤ sizeLine; decide, fun b nb => ?_⟩
    have s2 := s1.new nb (o := .tup [.int c, .str nm])
    have hb : upd H1 b (.tup [.int c, .str nm]) b = some (.tup ([Sum.inl c, Sum.inr nm].map kV)) := upd_same
    have hx := hx.same (same_new nb (o := .tup [.int c, .str nm]))
    generalize upd H1 b (.tup [.int c, .str nm]) = H2 at s2 hb hx
    have hW2 := hW.same n1 n2 s2
    obtain ⟨kvs, hE2, hk⟩ := id hW2.c
    refine ⟨E', _, rfl, DPut.t (k := encC (c, nm)) hE2 hb (lt1 _ (by rw [ka_len hk]; exact Nat.le_trans (Nat.succ_le_succ hl) (by decide))), ?_⟩
    exact q _ ⟨(FRM.en (LamX.ExtN.of s2)).mut (by simp), tabs_E hE2 (hT.ext s2), hW2.putC n1 hE2 hx⟩
end
end K1
set_option Elab.async false
set_option linter.all false
set_option maxRecDepth 100000
set_option maxHeartbeats 8000000
/-! Copy: wanting, dropping, where they may refuse. -/
namespace K1
open PySem PySem.Spec PyProof.Rows L2 RZ StX
noncomputable def spCkX (K : PySem.W.Frag) (CC CN : Addr) : Sp := fun vs H Q E => ∃ (p : Addr) (n : Int) (c : Cp), vs = [.ref p, .int n] ∧ CpAt K CC H p c ∧ OkCp c ∧ 1 ≤ n ∧ (n ∈ c.ls.map (·.n) → ∀ H', Same H H' → Q .non H') ∧ (n ∉ c.ls.map (·.n) → ErrAt CN "value" (.int n) H E)
noncomputable def spWtX (K : PySem.W.Frag) (CC CN : Addr) : Sp := fun vs H Q E => ∃ (p : Addr) (n : Int) (sa : Addr) (c : Cp) (ss : List Str), vs = [.ref p, .int n, .ref sa] ∧ CpAt K CC H p c ∧ OkCp c ∧ 1 ≤ n ∧ H sa = some (.tup (ss.map V.str)) ∧ OkSs ss ∧ (n ∈ c.ls.map (·.n) → ∀ q H', Same H H' → H q = none → CpAt K CC H' q (cpW c n (some ss)) → Q (.ref q) H') ∧ (n ∉ c.ls.map (·.n) → ErrAt CN "value" (.int n) H E)
noncomputable def spDrX (K : PySem.W.Frag) (CC CN : Addr) : Sp := fun vs H Q E => ∃ (p : Addr) (n : Int) (c : Cp), vs = [.ref p, .int n] ∧ CpAt K CC H p c ∧ OkCp c ∧ 1 ≤ n ∧ (n ∈ c.ls.map (·.n) → ∀ q H', Same H H' → H q = none → CpAt K CC H' q (cpW c n none) → Q (.ref q) H') ∧ (n ∉ c.ls.map (·.n) → ErrAt CN "value" (.int n) H E)
section
variable {P : Program} {w : World} {K : PySem.W.Frag} {mg : Str → Option Value} {base : Heap} {CC CN fN : Addr}
theorem ok_ckX {f : Addr} {fd : FuncData} (t : CcT K mg CC) (TN : PySem.Tide.TideTxt P K mg "BadNumber" CN fN "value") (D_is_number : Def P w K mg base CX0 2 "is_number" pV spNum) (F : Fun K "_check_number" "Copy._check_number" sCCk f fd) : FnOk P w K mg base (L2.CX P w) 3 f fd nCDr (spCkX K CC CN) := by
  have nd := scCCk.nd
  refine F.okX scCCk (fun vs H Q E h => ?_) (fun cdv A outer s H vs Q E hr h => ?_)
  · obtain ⟨p, n, c, rfl, _⟩ := h
    rfl
  · obtain ⟨p, n, c, rfl, hc, ok, n1, q, qe⟩ := h
    refine ⟨_, (pss_one (ps_if (PW.pt (pw_or (pt_not (pt_val (pe_def D_is_number (hr.mono (by decide)) rfl pass0 (pa_cons (pv 1) pa_nil)))) (pw_or1 (pt_cmpR (op_notIn_seqK (K := K) rfl) (pv 1) (pe_lc (own := [("letter", 2)]) (g := gName 2) (tt := tYes) rfl nd (pi_tupK (K := K) rfl (pe_fld (pv 0) rfl)) (blkOk_by (own := [("letter", 2)]) (N := nCCk) (sc := defScope sCCk) (by decide +kernel)) (fun _ _ _ _ _ => pg_name (i := 2) nd rfl (Or.inl rfl)) (fun _ _ _ _ _ => pts_nil) (fun _ _ _ _ _ => (pe_ix (ix_tupK (K := K) rfl) (pv 2) pe_int (fun _ _ => rfl)))) (by rfl)))))
  (pss_one (ps_raiseTide rfl TN hr (takes_of rfl rfl rfl rfl) (pa_cons (pv 1) pa_nil)))
  pss_nil)), ?_⟩
    obtain ⟨dx, tl, tm, xs, ys, h⟩ := id hc
    have lx := h.xs.len
    rw [List.length_map] at lx
    have lm := ok.ls.len
    refine ⟨_, rfl, n, rfl, n1, _, rfl, itbF rfl ?_⟩
    refine ⟨_, rfl, _, rfl, p, CC, dx, _, _, rfl, h.at_, t.cl, t.nL, fc_let, tl, rfl, ⟨_, h.tl.st⟩, fun D nD => ?_⟩
    refine lc_sel (walk_tup (K := K)) (R := fun x (l : CL) => Dv H x (clD l)) (ls := c.ls) (out := fun y (n : Int) => y = V.int n) (a2_of h.xs) nD (fun G s => (h.tl.tu (TU.same s)).st) (by omega) (fun l => some l.n) ?_ ?_
    · rintro x l G2 T S hx hm s3 hT hS'
      obtain ⟨ta, sa, wv, rfl, hta, hsa, hw⟩ := dv_cl hx
      exact ⟨rfl, tyes ⟨_, rfl, ta, _, 0, .int l.n, rfl, rfl, st (s3 _ _ hta), atI_nat (j := 0) rfl, hT _ l.n G2 (fun _ _ h => h) rfl rfl⟩⟩
    · intro G2 acc s3 hacc h4
      rw [h4.vals] at hacc
      have ef : c.ls.filterMap (fun l => some l.n) = c.ls.map (·.n) := by rw [← List.filterMap_eq_map]; rfl
      rw [ef] at hacc
      refine ⟨D, _, rfl, .inl (sq hacc), rfl, flat_ints _, _, rfl, ?_⟩
      show (if (!inV (V.int n) ((c.ls.map (·.n)).map V.int)) = true then _ else _)
      rw [inV_ints]
      by_cases hn : n ∈ c.ls.map (·.n)
      · rw [decide_eq_true hn]
        exact itbF rfl (q hn G2 s3)
      · rw [decide_eq_false hn]
        exact itbT rfl ⟨_, rfl, _, rfl, (qe hn).go s3⟩
theorem ok_wtX {f : Addr} {fd : FuncData} (t : CcT K mg CC) (M_ck : MDef P w K mg base (L2.CX P w) 3 CC "_check_number" nCDr (spCkX K CC CN)) (D_is_signs : Def P w K mg base CX0 2 "is_signs" pV spSigns) (M_ww : MDef P w K mg base CX0 6 CC "_with_wanted" pCWW (spWW K CC)) (F : Fun K "wanting" "Copy.wanting" sCWt f fd) : FnOk P w K mg base (L2.CX P w) 7 f fd nCWt (spWtX K CC CN) := by
  refine F.okX scCWt (fun vs H Q E h => ?_) (fun cdv A outer s H vs Q E hr h => ?_)
  · obtain ⟨p, n, sa, c, ss, rfl, _⟩ := h
    rfl
  · obtain ⟨p, n, sa, c, ss, rfl, hc, ok, n1, hs, os, q, qe⟩ := h
    refine ⟨_, (pss_cons (ps_expr (pe_mdef M_ck t.cl (hr.mono (by decide)) (passes_call (takes_of rfl rfl rfl rfl) (fun _ _ _ _ h => h)) (pv 0) (pa_cons (pv 1) pa_nil)))
 (pss_cons (ps_if (pt_not (pt_val (pe_def D_is_signs (hr.mono (by decide)) rfl pass0 (pa_cons (pv 2) pa_nil)))) pss_any pss_nil)
 (pss_one (ps_ret (pe_mdef M_ww t.cl (hr.mono (by decide)) pass0 (pv 0) (pa_cons (pv 1) (pa_cons (pv 2) pa_nil))))))), ?_⟩
    obtain ⟨dx, tl, tm, xs, ys, h⟩ := id hc
    refine ⟨_, rfl, p, dx, _, rfl, h.at_, fc_no (by decide +kernel), _, rfl, p, n, c, rfl, hc, ok, n1, fun hn H1 s1 => ?_, qe⟩
    refine ⟨_, rfl, sa, ss, rfl, s1 _ _ hs, okss os, fun H2 s2 => ⟨_, rfl, itbF rfl ?_⟩⟩
    have s12 := s1.trans s2
    exact ⟨_, rfl, p, dx, _, rfl, s12 _ _ h.at_, fc_no (by decide +kernel), _, rfl, _, rfl, p, n, .ref sa, c, some ss, rfl, hc.same s12, ok, ⟨sa, rfl, s12 _ _ hs⟩, fun z e => by rw [← Option.some.inj e]; exact os, fun r H3 s3 nr hr3 => q hn r H3 (s12.trans s3) (s12.free nr) hr3⟩
theorem ok_drX {f : Addr} {fd : FuncData} (t : CcT K mg CC) (M_ck : MDef P w K mg base (L2.CX P w) 3 CC "_check_number" nCDr (spCkX K CC CN)) (M_ww : MDef P w K mg base CX0 6 CC "_with_wanted" pCWW (spWW K CC)) (F : Fun K "dropping" "Copy.dropping" sCDr f fd) : FnOk P w K mg base (L2.CX P w) 7 f fd nCDr (spDrX K CC CN) := by
  refine F.okX scCDr (fun vs H Q E h => ?_) (fun cdv A outer s H vs Q E hr h => ?_)
  · obtain ⟨p, n, c, rfl, _⟩ := h
    rfl
  · obtain ⟨p, n, c, rfl, hc, ok, n1, q, qe⟩ := h
    refine ⟨_, (pss_cons (ps_expr (pe_mdef M_ck t.cl (hr.mono (by decide)) (passes_call (takes_of rfl rfl rfl rfl) (fun _ _ _ _ h => h)) (pv 0) (pa_cons (pv 1) pa_nil)))
 (pss_one (ps_ret (pe_mdef M_ww t.cl (hr.mono (by decide)) pass0 (pv 0) (pa_cons (pv 1) (pa_cons pe_non pa_nil)))))), ?_⟩
    obtain ⟨dx, tl, tm, xs, ys, h⟩ := id hc
    refine ⟨_, rfl, p, dx, _, rfl, h.at_, fc_no (by decide +kernel), _, rfl, p, n, c, rfl, hc, ok, n1, fun hn H1 s1 => ?_, qe⟩
    exact ⟨_, rfl, p, dx, _, rfl, s1 _ _ h.at_, fc_no (by decide +kernel), _, rfl, p, n, .non, c, none, rfl, hc.same s1, ok, rfl, fun z e => (by cases e), fun r H3 s3 nr hr3 => q hn r H3 (s1.trans s3) (s1.free nr) hr3⟩
end
/-! ### World: want, drop, make -/
noncomputable abbrev sWWa : Stmt := mW 9
noncomputable abbrev sWDr : Stmt := mW 10
noncomputable abbrev sWMk : Stmt := mW 11
noncomputable abbrev nWWa : List Str := ["self", "client", "name", "number", "signs"]
theorem scWWa : FnScope nWWa nWWa (defScope sWWa) := ⟨rfl, rfl, rfl, by decide +kernel, rfl, by decide +kernel, by decide +kernel⟩
noncomputable abbrev nWDr : List Str := ["self", "client", "name", "number"]
theorem scWDr : FnScope nWDr nWDr (defScope sWDr) := ⟨rfl, rfl, rfl, by decide +kernel, rfl, by decide +kernel, by decide +kernel⟩
noncomputable abbrev nWMk : List Str := ["self", "client", "name", "body", "signs"]
theorem scWMk : FnScope nWMk nWMk (defScope sWMk) := ⟨rfl, rfl, rfl, by decide +kernel, rfl, by decide +kernel, by decide +kernel⟩
section
variable (K : PySem.W.Frag) (C CC WC PA PT PS CB CN : Addr)
/-- what a call on a copy asks first -/
structure OnC (H : Hp) (p D E : Addr) (W : Wd) (c : Int) (nm : Str) (F : Fo) : Prop where
  w : WAt K C CC WC H p D E W
  l : W.cs.length ≤ 1000
  c0 : 0 ≤ c
  c1 : c < W.cl
  f : lkA W.fs nm = some F
  T : LamX.Tabs (T3 PA PT PS) H
/-- a call that puts another copy in a copy's place, or is refused -/
noncomputable def PutC (H : Hp) (Q : VK) (E : XK) (p D E' : Addr) (W : Wd) (c : Int) (nm : Str) (g : Cp → Option Cp) (er : XK → Prop) : Prop :=
  (lkA W.cs (c, nm) = none → ErrAt CB "value" .non H E) ∧ ∀ k, lkA W.cs (c, nm) = some k → OkCp k ∧ (g k = none → er E) ∧ ∀ k', g k = some k' → ∀ H', WNew K C CC WC PA PT PS H p D E' { W with cs := ptA W.cs (c, nm) k' } H' → Q .non H'
noncomputable def spWWa : Sp := fun vs H Q E => ∃ (p D E' sa : Addr) (W : Wd) (c n : Int) (nm : Str) (F : Fo) (ss : List Str), vs = [.ref p, .int c, .str nm, .int n, .ref sa] ∧ OnC K C CC WC PA PT PS H p D E' W c nm F ∧ 1 ≤ n ∧ H sa = some (.tup (ss.map V.str)) ∧ OkSs ss ∧
  PutC K C CC WC PA PT PS CB H Q E p D E' W c nm (fun k => if n ∈ k.ls.map (·.n) then some (cpW k n (some ss)) else none) (fun E => ErrAt CN "value" (.int n) H E)
noncomputable def spWDr : Sp := fun vs H Q E => ∃ (p D E' : Addr) (W : Wd) (c n : Int) (nm : Str) (F : Fo), vs = [.ref p, .int c, .str nm, .int n] ∧ OnC K C CC WC PA PT PS H p D E' W c nm F ∧ 1 ≤ n ∧
  PutC K C CC WC PA PT PS CB H Q E p D E' W c nm (fun k => if n ∈ k.ls.map (·.n) then some (cpW k n none) else none) (fun E => ErrAt CN "value" (.int n) H E)
noncomputable def spWMk : Sp := fun vs H Q E => ∃ (p D E' sa : Addr) (W : Wd) (c b : Int) (nm : Str) (F : Fo) (ss : List Str), vs = [.ref p, .int c, .str nm, .int b, .ref sa] ∧ OnC K C CC WC PA PT PS H p D E' W c nm F ∧ 0 ≤ b ∧ H sa = some (.tup (ss.map V.str)) ∧ OkSs ss ∧ (∀ k, lkA W.cs (c, nm) = some k → k.md.length < 900) ∧
  PutC K C CC WC PA PT PS CB H Q E p D E' W c nm (fun k => some (cpM k b ss)) (fun _ => True)
end
section
variable {P : Program} {w : World} {K : PySem.W.Frag} {mg : Str → Option Value} {base : Heap} {C CC WC PA PT PS CB CN : Addr}
/-- self._copies[client, name] = v, v new -/
theorem put_copy {H H1 : Hp} {p D E' x : Addr} {W : Wd} {c : Int} {nm : Str} {F : Fo} {k' : Cp} {Q : Hp → Prop} (n1 : C ≠ WC) (n2 : CC ≠ WC) (O : OnC K C CC WC PA PT PS H p D E' W c nm F) (s1 : Same H H1) (hx : CpAt K CC H1 x k') (q : ∀ H', WNew K C CC WC PA PT PS H p D E' { W with cs := ptA W.cs (c, nm) k' } H' → Q H') :
    ∀ b, H1 b = none → ∃ a H4, V.ref E' = .ref a ∧ DPut (upd H1 b (.tup [.int c, .str nm])) a (.ref b) (.ref x) H4 ∧ Q H4 := by
  intro b nb
  have s2 := s1.new nb (o := .tup [.int c, .str nm])
  have hb : upd H1 b (.tup [.int c, .str nm]) b = some (.tup ([Sum.inl c, Sum.inr nm].map kV)) := upd_same
  have hx := hx.same (same_new nb (o := .tup [.int c, .str nm]))
  generalize upd H1 b (.tup [.int c, .str nm]) = H2 at s2 hb hx
  have hW2 := O.w.same n1 n2 s2
  obtain ⟨kvs, hE2, hk⟩ := id hW2.c
  refine ⟨E', _, rfl, DPut.t (k := encC (c, nm)) hE2 hb (lt1 _ (by rw [ka_len hk]; exact Nat.le_trans (Nat.succ_le_succ O.l) (by decide))), ?_⟩
  exact q _ ⟨(FRM.en (LamX.ExtN.of s2)).mut (by simp), tabs_E hE2 (O.T.ext s2), hW2.putC n1 hE2 hx⟩
theorem ok_wwa {f : Addr} {fd : FuncData} (n1 : C ≠ WC) (n2 : CC ≠ WC) (t : WcT K mg WC) (tc : CcT K mg CC) (M_c : MDef P w K mg base (L2.CX P w) 4 WC "_copy" nWCp (spW_c K C CC WC CB)) (M_wt : MDef P w K mg base (L2.CX P w) 7 CC "wanting" nCWt (spWtX K CC CN))
    (F : Fun K "want" "World.want" sWWa f fd) : FnOk P w K mg base (L2.CX P w) 8 f fd nWWa (spWWa K C CC WC PA PT PS CB CN) := by
  refine F.okX scWWa (fun vs H Q E h => ?_) (fun cdv A outer s H vs Q E hr h => ?_)
  · obtain ⟨p, D, E', sa, W, c, n, nm, F, ss, rfl, _⟩ := h
    rfl
  · obtain ⟨p, D, E', sa, W, c, n, nm, F, ss, rfl, O, h1, hs, os, qn, q⟩ := h
    refine ⟨_, (pss_one (ps_dput (hu_of hr) (pe_fld (pv 0) rfl) (pe_tup (pa_cons (pv 1) (pa_cons (pv 2) pa_nil))) (pe_mdef M_wt tc.cl (hr.mono (by decide)) (passes_call (takes_of rfl rfl rfl rfl) (fun _ _ _ _ h => h)) (pe_mdef M_c t.cl (hr.mono (by decide)) (passes_call (takes_of rfl rfl rfl rfl) (fun _ _ _ _ h => h)) (pv 0) (pa_cons (pv 1) (pa_cons (pv 2) pa_nil))) (pa_cons (pv 3) (pa_cons (pv 4) pa_nil))) rfl)), ?_⟩
    obtain ⟨dx, hp⟩ := O.w.at_
    refine ⟨_, rfl, p, dx, _, rfl, hp, fw_no (by decide +kernel), _, rfl, _, rfl, p, D, E', W, c, nm, F, rfl, O.w, O.c0, O.c1, O.f, qn, fun k hk H1 x s1 hx => ?_⟩
    obtain ⟨okk, qe, qk⟩ := q k hk
    obtain ⟨dcx, fcs, hxi, nox⟩ := hx.no
    refine ⟨x, dcx, _, rfl, hxi, nox (by decide +kernel), _, rfl, _, rfl, x, n, sa, k, ss, rfl, hx, okk, h1, s1 _ _ hs, os, fun hn y H2 s2 ny hy => ?_, fun hn => (qe (if_neg hn)).same s1⟩
    refine ⟨_, rfl, p, WC, dx, _, _, rfl, (s1.trans s2) _ _ hp, t.cl, t.nP, fw_p, _, rfl, _, rfl, by show 2 ≤ sizeLine; decide, ?_⟩
    exact put_copy n1 n2 O (s1.trans s2) hy (qk _ (if_pos hn))
theorem ok_wdr {f : Addr} {fd : FuncData} (n1 : C ≠ WC) (n2 : CC ≠ WC) (t : WcT K mg WC) (tc : CcT K mg CC) (M_c : MDef P w K mg base (L2.CX P w) 4 WC "_copy" nWCp (spW_c K C CC WC CB)) (M_dr : MDef P w K mg base (L2.CX P w) 7 CC "dropping" nCDr (spDrX K CC CN))
    (F : Fun K "drop" "World.drop" sWDr f fd) : FnOk P w K mg base (L2.CX P w) 8 f fd nWDr (spWDr K C CC WC PA PT PS CB CN) := by
  refine F.okX scWDr (fun vs H Q E h => ?_) (fun cdv A outer s H vs Q E hr h => ?_)
  · obtain ⟨p, D, E', W, c, n, nm, F, rfl, _⟩ := h
    rfl
  · obtain ⟨p, D, E', W, c, n, nm, F, rfl, O, h1, qn, q⟩ := h
    refine ⟨_, (pss_one (ps_dput (hu_of hr) (pe_fld (pv 0) rfl) (pe_tup (pa_cons (pv 1) (pa_cons (pv 2) pa_nil))) (pe_mdef M_dr tc.cl (hr.mono (by decide)) (passes_call (takes_of rfl rfl rfl rfl) (fun _ _ _ _ h => h)) (pe_mdef M_c t.cl (hr.mono (by decide)) (passes_call (takes_of rfl rfl rfl rfl) (fun _ _ _ _ h => h)) (pv 0) (pa_cons (pv 1) (pa_cons (pv 2) pa_nil))) (pa_cons (pv 3) pa_nil)) rfl)), ?_⟩
    obtain ⟨dx, hp⟩ := O.w.at_
    refine ⟨_, rfl, p, dx, _, rfl, hp, fw_no (by decide +kernel), _, rfl, _, rfl, p, D, E', W, c, nm, F, rfl, O.w, O.c0, O.c1, O.f, qn, fun k hk H1 x s1 hx => ?_⟩
    obtain ⟨okk, qe, qk⟩ := q k hk
    obtain ⟨dcx, fcs, hxi, nox⟩ := hx.no
    refine ⟨x, dcx, _, rfl, hxi, nox (by decide +kernel), _, rfl, x, n, k, rfl, hx, okk, h1, fun hn y H2 s2 ny hy => ?_, fun hn => (qe (if_neg hn)).same s1⟩
    refine ⟨_, rfl, p, WC, dx, _, _, rfl, (s1.trans s2) _ _ hp, t.cl, t.nP, fw_p, _, rfl, _, rfl, by show 2 ≤ sizeLine; decide, ?_⟩
    exact put_copy n1 n2 O (s1.trans s2) hy (qk _ (if_pos hn))
theorem ok_wmk {f : Addr} {fd : FuncData} (n1 : C ≠ WC) (n2 : CC ≠ WC) (t : WcT K mg WC) (tc : CcT K mg CC) (M_c : MDef P w K mg base (L2.CX P w) 4 WC "_copy" nWCp (spW_c K C CC WC CB)) (M_mk : MDef P w K mg base CX0 6 CC "making" nCMk (spMkg K CC))
    (F : Fun K "make" "World.make" sWMk f fd) : FnOk P w K mg base (L2.CX P w) 8 f fd nWMk (spWMk K C CC WC PA PT PS CB) := by
  refine F.okX scWMk (fun vs H Q E h => ?_) (fun cdv A outer s H vs Q E hr h => ?_)
  · obtain ⟨p, D, E', sa, W, c, n, nm, F, ss, rfl, _⟩ := h
    rfl
  · obtain ⟨p, D, E', sa, W, c, n, nm, F, ss, rfl, O, h1, hs, os, hm, qn, q⟩ := h
    refine ⟨_, (pss_one (ps_dput (hu_of hr) (pe_fld (pv 0) rfl) (pe_tup (pa_cons (pv 1) (pa_cons (pv 2) pa_nil))) (pe_mdef M_mk tc.cl (hr.mono (by decide)) pass0 (pe_mdef M_c t.cl (hr.mono (by decide)) (passes_call (takes_of rfl rfl rfl rfl) (fun _ _ _ _ h => h)) (pv 0) (pa_cons (pv 1) (pa_cons (pv 2) pa_nil))) (pa_cons (pv 3) (pa_cons (pv 4) pa_nil))) rfl)), ?_⟩
    obtain ⟨dx, hp⟩ := O.w.at_
    refine ⟨_, rfl, p, dx, _, rfl, hp, fw_no (by decide +kernel), _, rfl, _, rfl, p, D, E', W, c, nm, F, rfl, O.w, O.c0, O.c1, O.f, qn, fun k hk H1 x s1 hx => ?_⟩
    obtain ⟨okk, qe, qk⟩ := q k hk
    obtain ⟨dcx, fcs, hxi, nox⟩ := hx.no
    refine ⟨x, dcx, _, rfl, hxi, nox (by decide +kernel), _, rfl, _, rfl, x, n, sa, k, ss, rfl, hx, okk, h1, s1 _ _ hs, os, hm k hk, fun y H2 s2 ny hy => ?_⟩
    refine ⟨_, rfl, p, WC, dx, _, _, rfl, (s1.trans s2) _ _ hp, t.cl, t.nP, fw_p, _, rfl, _, rfl, by show 2 ≤ sizeLine; decide, ?_⟩
    exact put_copy n1 n2 O (s1.trans s2) hy (qk _ rfl)
end
end K1
set_option Elab.async false
set_option linter.all false
set_option maxRecDepth 100000
set_option maxHeartbeats 8000000
/-! What the server tells ahead of a step. -/
namespace K1
open PySem PySem.Spec PyProof.Rows L2 RZ StX
noncomputable def toldW (c : Cp) (F : Fo) : Str := if c.age = F.age then (if F.ct ≤ c.mr then "log" else "known") else "anew"
noncomputable def toldF (c : Cp) (F : Fo) : List Int := if c.age = F.age then F.ls.filterMap (fun l => if c.mr < l.m then some l.n else none) else F.ls.map (·.n)
noncomputable def toldA (c : Cp) (F : Fo) : List Int := if c.age = F.age then c.ls.filterMap (fun l => if (sgN F l.n).isSome then none else some l.n) else []
noncomputable def intsD (ns : List Int) : PyData := .tuple (ns.map PyData.int)
noncomputable def toldD (c : Cp) (F : Fo) : PyData := .tuple [.str (toldW c F), intsD (toldF c F), intsD (toldA c F)]
noncomputable def sentD (c : Cp) (F : Fo) : PyData := .tuple ((sentM c F).map ddT)
noncomputable def stepD (c : Cp) (F : Fo) : PyData := .tuple [toldD c F, sentD c F, intsD (lostM c F)]
theorem tO_intsD (ns : List Int) : tO (intsD ns) = true := tO_ints ns
theorem tO_told (c : Cp) (F : Fo) : tO (toldD c F) = true := by
  show (true && (tO (intsD (toldF c F)) && (tO (intsD (toldA c F)) && true))) = true
  rw [tO_intsD, tO_intsD]; rfl
theorem tO_step (c : Cp) (F : Fo) : tO (stepD c F) = true := by
  show (tO (toldD c F) && (tOA ((sentM c F).map ddT) && (tO (intsD (lostM c F)) && true))) = true
  rw [tO_told, tO_dds, tO_intsD]; rfl
theorem dv_intsT {H : Hp} {a : Addr} {ns : List Int} (h : H a = some (.tup (ns.map V.int))) : Dv H (.ref a) (intsD ns) := .tup h (dva_ints ns)
noncomputable abbrev sTold : Stmt := st__told
noncomputable abbrev nTold : List Str := ["copy", "folder", "letters", "there", "letter", "changed", "gone"]
noncomputable abbrev pTold : List Str := ["copy", "folder"]
theorem scTold : FnScope nTold pTold (defScope sTold) := ⟨rfl, rfl, rfl, by decide +kernel, rfl, by decide +kernel, by decide +kernel⟩
noncomputable def spTold (K : PySem.W.Frag) (C CC : Addr) : Sp := fun vs H Q _ => ∃ (x p : Addr) (c : Cp) (F : Fo) (k : Nat), vs = [.ref x, .ref p] ∧ CpAt K CC H x c ∧ OkCp c ∧ FoAt C H p F ∧ GA k F ∧ k ≤ 900 ∧ ∀ r H', Same H H' → Dv H' (.ref r) (toldD c F) → Q (.ref r) H'
section
variable {P : Program} {w : World} {K : PySem.W.Frag} {mg : Str → Option Value} {base : Heap} {C CC : Addr}
set_option maxHeartbeats 32000000 in
theorem ok_told {f : Addr} {fd : FuncData} (T : Bk mg) (t : ClT K mg C) (tc : CcT K mg CC) (M_age : MDef P w K mg base CX0 1 CC "age" nSelf (spCAge K CC)) (M_mark : MDef P w K mg base CX0 1 CC "mark" nSelf (spCMark K CC)) (M_letters : MDef P w K mg base CX0 1 CC "letters" nSelf (spCLet K CC))
    (N_age : MDef P w K mg base CX0 1 C "age" nSelf (spAge C)) (N_cut : MDef P w K mg base CX0 1 C "cut" nSelf (spCut C)) (N_letters : MDef P w K mg base CX0 1 C "letters" nSelf (spLetters C)) (F : Fun K "_told" "_told" sTold f fd) : FnOk P w K mg base CX0 2 f fd pTold (spTold K C CC) := by
  have nd := scTold.nd
  refine F.ok scTold (fun vs H Q E h => ?_) (fun cdv A outer s H vs Q E hr h => ?_)
  · obtain ⟨x, p, c, F, k, rfl, _⟩ := h
    rfl
  · obtain ⟨x, p, c, F, k, rfl, hc, ok, hF, ga, k9, q⟩ := h
    refine ⟨_, (pss_cons (ps_set (i := 2) nd rfl (Or.inl rfl) (pe_mdef0 N_letters t.cl (hr.mono (by decide)) pass0 (pv 1)))
 (pss_cons (ps_if (pt_cmpR op_ne (pe_mdef0 M_age tc.cl (hr.mono (by decide)) pass0 (pv 0)) (pe_mdef0 N_age t.cl (hr.mono (by decide)) pass0 (pv 1)) (nomark _))
  (pss_one (ps_ret (pe_tup (pa_cons pe_str (pa_cons (pe_callTy (call_tuple_ofK (K := K) rfl) (by rfl) T.tuple PyProof.Rows.boot_tuple (pa_cons (pe_lc (own := [("letter", 4)]) (g := gName 4) (tt := tYes) rfl nd (pi_listK (K := K) rfl (pv 2)) (blkOk_by (own := [("letter", 4)]) (N := nTold) (sc := defScope sTold) (by decide +kernel)) (fun _ _ _ _ _ => pg_name (i := 4) nd rfl (Or.inl rfl)) (fun _ _ _ _ _ => pts_nil) (fun _ _ _ _ _ => (pe_ix (ix_tupK (K := K) rfl) (pv 4) pe_int (fun _ _ => rfl)))) pa_nil)) (pa_cons (pe_tup pa_nil) pa_nil))))))
  pss_nil)
 (pss_cons (ps_set (i := 3) nd rfl (Or.inr rfl) (pe_dc (own := [("letter", 4)]) (g := gName 4) (tt := tYes) rfl nd (pi_listK (K := K) rfl (pv 2)) (blkOk_by (own := [("letter", 4)]) (N := nTold) (sc := defScope sTold) (by decide +kernel)) (fun _ _ _ _ _ => pg_name (i := 4) nd rfl (Or.inl rfl)) (fun _ _ _ _ _ => pts_nil) (fun _ _ _ _ _ => pe_ix (ix_tupK (K := K) rfl) (pv 4) pe_int (fun _ _ => rfl)) (fun _ _ _ _ _ => pe_bl)))
 (pss_cons (ps_set (i := 5) nd rfl (Or.inl rfl) (pe_callTy (call_tuple_ofK (K := K) rfl) (by rfl) T.tuple PyProof.Rows.boot_tuple (pa_cons (pe_lc (own := [("letter", 4)]) (g := gName 4) rfl nd (pi_listK (K := K) rfl (pv 2)) (blkOk_by (own := [("letter", 4)]) (N := nTold) (sc := defScope sTold) (by decide +kernel)) (fun _ _ _ _ _ => pg_name (i := 4) nd rfl (Or.inl rfl)) (fun _ _ _ _ _ => pts_one (pt_cmpR op_gt (pe_ix (ix_tupK (K := K) rfl) (pv 4) pe_int (fun _ _ => rfl)) (pe_mdef0 M_mark tc.cl (hr.mono (by decide)) pass0 (pv 0)) (nomark _))) (fun _ _ _ _ _ => (pe_ix (ix_tupK (K := K) rfl) (pv 4) pe_int (fun _ _ => rfl)))) pa_nil)))
 (pss_cons (ps_set (i := 6) nd rfl (Or.inl rfl) (pe_callTy (call_tuple_ofK (K := K) rfl) (by rfl) T.tuple PyProof.Rows.boot_tuple (pa_cons (pe_lc (own := [("letter", 4)]) (g := gName 4) rfl nd (pi_listK (K := K) rfl (pe_mdef0 M_letters tc.cl (hr.mono (by decide)) pass0 (pv 0))) (blkOk_by (own := [("letter", 4)]) (N := nTold) (sc := defScope sTold) (by decide +kernel)) (fun _ _ _ _ _ => pg_name (i := 4) nd rfl (Or.inl rfl)) (fun _ _ _ _ _ => pts_one (pt_cmp (pc_dnotin (hu_of hr) (pe_ix (ix_tupK (K := K) rfl) (pv 4) pe_int (fun _ _ => rfl)) (pv 3)))) (fun _ _ _ _ _ => (pe_ix (ix_tupK (K := K) rfl) (pv 4) pe_int (fun _ _ => rfl)))) pa_nil)))
 (pss_one (ps_ret (pe_tup (pa_cons (pe_ifExp (pt_cmpR op_le (pe_mdef0 N_cut t.cl (hr.mono (by decide)) pass0 (pv 1)) (pe_mdef0 M_mark tc.cl (hr.mono (by decide)) pass0 (pv 0)) (nomark _)) pe_str pe_str) (pa_cons (pv 5) (pa_cons (pv 6) pa_nil))))))))))), ?_⟩
    obtain ⟨dcx, fcs, hx, nox⟩ := hc.no
    obtain ⟨dx, tl, tg, hp, _⟩ := id hF
    have lF := ga.g.wf.len
    have lc := ok.ls.len
    refine ⟨_, rfl, p, dx, _, rfl, hp, fl_no (by decide +kernel), p, F, rfl, hF, fun l1 G1 s1 nl1 hL => ?_⟩
    obtain ⟨zs, hl1, dzs⟩ := Dv.lsts hL
    have lzs := dzs.len
    rw [List.length_map] at lzs
    refine ⟨_, rfl, x, dcx, _, rfl, s1 _ _ hx, nox (by decide +kernel), x, c, rfl, hc.same s1, _, rfl, p, dx, _, rfl, s1 _ _ hp, fl_no (by decide +kernel), p, F, rfl, hF.same s1, rfl, ?_⟩
    by_cases ea : c.age = F.age
    · refine ⟨_, rfl, itbF (by show (!decide (V.int c.age = V.int F.age)) = false; rw [decide_eq_true (by rw [ea])]; rfl) ?_⟩
      refine ⟨_, rfl, l1, rfl, ⟨_, sq hl1⟩, fun D nD => ?_⟩
      have Dl : l1 ≠ D := fun e => by rw [e, nD] at hl1; cases hl1
      refine dc_it (walk_list (K := K) (a := l1) (xs := zs)) (fun i G => (∀ b o, b ≠ D → G1 b = some o → G b = some o) ∧ G D = some (.dK (dkv ((F.ls.take i).map fun l => (l.n, V.bl true))))) ⟨fun b o nb h => by rw [upd_ne nb]; exact h, upd_same⟩ (fun i G _ h => sq (h.1 _ _ Dl hl1)) ?_ ?_
      · rintro i y G2 G3 hi ⟨kp, hD⟩ ⟨rfl, hy⟩
        obtain ⟨l, hl, hv⟩ := dzs.getD' hy
        obtain ⟨ta, sa, rfl, hta, hsa⟩ := dv_lt hv
        have nTD : ta ≠ D := fun e => by rw [e, nD] at hta; cases hta
        have hta2 := kp _ _ nTD hta
        have nm : l.n ∉ ((F.ls.take i).map fun l => (l.n, V.bl true)).map (·.1) := by
          rw [List.map_map]
          intro z
          have pw := ga.a.up
          rw [take_sub hl, List.map_append, List.map_cons, List.pairwise_append] at pw
          have := pw.2.2 l.n z l.n List.mem_cons_self
          omega
        refine ⟨rfl, tyes ⟨_, rfl, ta, _, 0, .int l.n, rfl, rfl, st hta2, atI_nat (j := 0) rfl, _, Sum.inl l.n, rfl, hD, by rw [dkv_len, List.length_map, List.length_take]; exact lt1 _ (by omega), fun b o nb h => by rw [upd_ne nb]; exact kp b o nb h, ?_⟩⟩
        rw [upd_same, dkv_snoc nm, List.take_add_one, hl, List.map_append]; rfl
      rintro G2 ⟨kp, hD⟩
      rw [show zs.length = F.ls.length from lzs, List.take_length] at hD
      change G2 D = some (.dK (dkv (thereT F))) at hD
      have s2 : Same G1 G2 := fun b o hb => kp b o (fun e => by rw [e, nD] at hb; cases hb) hb
      have s12 := s1.trans s2
      have hl2 := s2 _ _ hl1
      have dzs2 := dzs.same s2
      clear kp
      refine ⟨_, rfl, l1, rfl, ⟨_, sq hl2⟩, fun L nL => ?_⟩
      refine lc_sel (walk_list (K := K)) (R := fun y (l : Lt) => Dv G2 y (ltD l)) (ls := F.ls) (out := fun y (n : Int) => y = V.int n) (a2_of dzs2) nL (fun G s => sq (s _ _ hl2)) (by omega) (fun l => if c.mr < l.m then some l.n else none) ?_ ?_
      · rintro y l G3 T S hy hm s3 hT hS'
        obtain ⟨ta, sa, rfl, hta, hsa⟩ := dv_lt hy
        have s123 := s12.trans s3
        refine ⟨rfl, _, rfl, ta, _, 3, .int l.m, rfl, rfl, st (s3 _ _ hta), atI_nat (j := 3) rfl, _, rfl, x, dcx, _, rfl, s123 _ _ hx, nox (by decide +kernel), x, c, rfl, hc.same s123, _, _, rfl, rfl, _, rfl, ?_⟩
        by_cases cm : c.mr < l.m
        · rw [decide_eq_true cm]
          exact itbT rfl ⟨_, rfl, ta, _, 0, .int l.n, rfl, rfl, st (s3 _ _ hta), atI_nat (j := 0) rfl, hT _ l.n G3 (fun _ _ h => h) (if_pos cm) rfl⟩
        · rw [decide_eq_false cm]
          exact itbF rfl (hS' G3 (fun _ _ h => h) (if_neg cm))
      intro G3 acc s3 hacc h4
      rw [h4.vals] at hacc
      refine ⟨L, _, rfl, .inl ⟨sq hacc, fun U nU => ?_⟩⟩
      have sU := same_new nU (o := .tup ((F.ls.filterMap fun l => if c.mr < l.m then some l.n else none).map V.int))
      have hU : upd G3 U (.tup ((F.ls.filterMap fun l => if c.mr < l.m then some l.n else none).map V.int)) U = _ := upd_same
      have s14 := (s12.trans s3).trans sU
      have hD := (s3.trans sU) _ _ hD
      generalize upd G3 U (.tup ((F.ls.filterMap fun l => if c.mr < l.m then some l.n else none).map V.int)) = G4 at hU s14 hD
      refine ⟨_, rfl, x, dcx, _, rfl, s14 _ _ hx, nox (by decide +kernel), x, c, rfl, hc.same s14, fun l2 xs2 G5 s5 nl2 hl2' dl2 => ⟨l2, rfl, ⟨_, sq hl2'⟩, fun M nM => ?_⟩⟩
      have lx2 := dl2.len
      rw [List.length_map] at lx2
      have hD5 := s5 _ _ hD
      refine lc_sel (walk_list (K := K)) (R := fun y (l : CL) => Dv G5 y (clD l)) (ls := c.ls) (out := fun y (n : Int) => y = V.int n) (a2_of dl2) nM (fun G s => sq (s _ _ hl2')) (by omega) (fun l => if (sgN F l.n).isSome then none else some l.n) ?_ ?_
      · rintro y l G6 T S hy hm s6 hT hS'
        obtain ⟨ta, sa, wv, rfl, hta, hsa, hw⟩ := dv_cl hy
        have gv : DGet G6 D (.int l.n) (lookN (thereT F) l.n) := by
          have := DGet.k (k := Sum.inl l.n) (s6 _ _ hD5)
          rw [dkv_val] at this
          exact this
        refine ⟨rfl, _, rfl, ta, _, 0, .int l.n, rfl, rfl, st (s6 _ _ hta), atI_nat (j := 0) rfl, _, rfl, D, _, rfl, gv, _, rfl, ?_⟩
        rw [thereT_look]
        cases e3 : (sgN F l.n).isSome with
        | true => exact itbF rfl (hS' G6 (fun _ _ h => h) (by rw [e3]; rfl))
        | false => exact itbT rfl ⟨_, rfl, ta, _, 0, .int l.n, rfl, rfl, st (s6 _ _ hta), atI_nat (j := 0) rfl, hT _ l.n G6 (fun _ _ h => h) (by rw [e3]; rfl) rfl⟩
      intro G6 acc2 s6 hacc2 h6
      rw [h6.vals] at hacc2
      refine ⟨M, _, rfl, .inl ⟨sq hacc2, fun Z nZ => ?_⟩⟩
      have sZ := same_new nZ (o := .tup ((c.ls.filterMap fun l => if (sgN F l.n).isSome then none else some l.n).map V.int))
      have hZ : upd G6 Z (.tup ((c.ls.filterMap fun l => if (sgN F l.n).isSome then none else some l.n).map V.int)) Z = _ := upd_same
      have s57 := (s5.trans s6).trans sZ
      have s17 := s14.trans s57
      have hU7 := s57 _ _ hU
      generalize upd G6 Z (.tup ((c.ls.filterMap fun l => if (sgN F l.n).isSome then none else some l.n).map V.int)) = G7 at hZ s17 hU7
      refine ⟨_, rfl, p, dx, _, rfl, s17 _ _ hp, fl_no (by decide +kernel), p, F, rfl, hF.same s17, _, rfl, x, dcx, _, rfl, s17 _ _ hx, nox (by decide +kernel), x, c, rfl, hc.same s17, _, _, rfl, rfl, _, rfl, ?_⟩
      have fin : ∀ (u : Str), u = toldW c F → ∀ r, G7 r = none → Q (.ref r) (upd G7 r (.tup [.str u, .ref U, .ref Z])) := fun u eu r nr => by
        have s8 := same_new nr (o := .tup [.str u, .ref U, .ref Z])
        refine q r _ (s17.trans s8) ?_
        have e1 : toldD c F = .tuple [.str u, intsD (F.ls.filterMap fun l => if c.mr < l.m then some l.n else none), intsD (c.ls.filterMap fun l => if (sgN F l.n).isSome then none else some l.n)] := by
          show PyData.tuple [.str (toldW c F), intsD (toldF c F), intsD (toldA c F)] = _
          rw [← eu, show toldF c F = _ from if_pos ea, show toldA c F = _ from if_pos ea]
        rw [e1]
        exact .tup upd_same (.cons (.str _) (.cons (dv_intsT (s8 _ _ hU7)) (.cons (dv_intsT (s8 _ _ hZ)) .nil)))
      have ew : toldW c F = if F.ct ≤ c.mr then ("log" : Str) else "known" := by unfold toldW; rw [if_pos ea]
      by_cases cm : F.ct ≤ c.mr
      · rw [decide_eq_true cm]
        exact itbT rfl ⟨_, rfl, _, rfl, by show 3 ≤ sizeLine; decide, fin "log" (by rw [ew, if_pos cm])⟩
      · rw [decide_eq_false cm]
        exact itbF rfl ⟨_, rfl, _, rfl, by show 3 ≤ sizeLine; decide, fin "known" (by rw [ew, if_neg cm])⟩
    · refine ⟨_, rfl, itbT (by show (!decide (V.int c.age = V.int F.age)) = true; rw [decide_eq_false (fun e => ea (V.int.inj e))]; rfl) ?_⟩
      refine ⟨_, rfl, l1, rfl, ⟨_, sq hl1⟩, fun D nD => ?_⟩
      refine lc_sel (walk_list (K := K)) (R := fun y (l : Lt) => Dv G1 y (ltD l)) (ls := F.ls) (out := fun y (n : Int) => y = V.int n) (a2_of dzs) nD (fun G s => sq (s _ _ hl1)) (by omega) (fun l => some l.n) ?_ ?_
      · rintro y l G2 T S hy hm s3 hT hS'
        obtain ⟨ta, sa, rfl, hta, hsa⟩ := dv_lt hy
        exact ⟨rfl, tyes ⟨_, rfl, ta, _, 0, .int l.n, rfl, rfl, st (s3 _ _ hta), atI_nat (j := 0) rfl, hT _ l.n G2 (fun _ _ h => h) rfl rfl⟩⟩
      · intro G2 acc s3 hacc h4
        rw [h4.vals, fm_map] at hacc
        refine ⟨D, _, rfl, .inl ⟨sq hacc, fun U nU => ?_⟩⟩
        have sU := same_new nU (o := .tup ((F.ls.map (·.n)).map V.int))
        refine ⟨Nat.zero_le _, fun Z nZ => ⟨by show 3 ≤ sizeLine; decide, fun r nr => ?_⟩⟩
        have sZ := same_new nZ (o := .tup [])
        have s4 := same_new nr (o := .tup [.str "anew", .ref U, .ref Z])
        refine q r _ (((s1.trans s3).trans sU).trans (sZ.trans s4)) ?_
        have e1 : toldD c F = .tuple [.str "anew", intsD (F.ls.map (·.n)), intsD []] := by unfold toldD toldW toldF toldA; rw [if_neg ea, if_neg ea, if_neg ea]
        rw [e1]
        exact .tup upd_same (.cons (.str _) (.cons (dv_intsT ((sZ.trans s4) _ _ upd_same)) (.cons (dv_intsT (ns := []) (s4 _ _ upd_same)) .nil)))
end
end K1
set_option Elab.async false
set_option linter.all false
set_option maxRecDepth 100000
set_option maxHeartbeats 8000000
/-! World: step, _sent, breaks. -/
namespace K1
open PySem PySem.Spec PyProof.Rows L2 RZ StX
noncomputable abbrev sWSt : Stmt := mW 12
noncomputable abbrev sWBr : Stmt := mW 13
noncomputable abbrev sW_s : Stmt := mW 22
noncomputable abbrev nWSt : List Str := ["self", "client", "name", "old", "folder", "new", "later", "sent", "lost"]
theorem scWSt : FnScope nWSt nWCp (defScope sWSt) := ⟨rfl, rfl, rfl, by decide +kernel, rfl, by decide +kernel, by decide +kernel⟩
noncomputable abbrev nWBr : List Str := ["self", "client", "name", "p", "sent"]
noncomputable abbrev pWBr : List Str := ["self", "client", "name", "p"]
theorem scWBr : FnScope nWBr pWBr (defScope sWBr) := ⟨rfl, rfl, rfl, by decide +kernel, rfl, by decide +kernel, by decide +kernel⟩
theorem scW_s : FnScope nWBr pWBr (defScope sW_s) := ⟨rfl, rfl, rfl, by decide +kernel, rfl, by decide +kernel, by decide +kernel⟩
/-- a copy that can be sent -/
structure StpOk (c : Cp) (F : Fo) (k b : Nat) : Prop where
  o : OkCp c
  g : GA k F
  n : (sentM c F).length ≤ b
  kb : k + b ≤ 900
theorem cw4 {c : Cp} : CW4 c := ⟨fun _ _ => trivial, fun _ _ _ _ => trivial, fun _ _ => trivial⟩
section
variable (K : PySem.W.Frag) (C CC WC PA PT PS CB : Addr)
noncomputable def spWSt : Sp := fun vs H Q E => ∃ (p D E' : Addr) (W : Wd) (c : Int) (nm : Str) (F : Fo), vs = [.ref p, .int c, .str nm] ∧ OnC K C CC WC PA PT PS H p D E' W c nm F ∧ W.fs.length ≤ 1000 ∧ (lkA W.cs (c, nm) = none → ErrAt CB "value" .non H E) ∧
  ∀ x, lkA W.cs (c, nm) = some x → (∃ k b, StpOk x F k b) ∧ ∀ r H', WNew K C CC WC PA PT PS H p D E' { W with fs := ptA W.fs nm (stepM x F), cs := ptA W.cs (c, nm) (cpF (stepM x F)) } H' → Dv H' (.ref r) (stepD x F) → Q (.ref r) H'
noncomputable def spW_s (CV : Addr) : Sp := fun vs H Q E => ∃ (p D E' : Addr) (W : Wd) (c : Int) (n : Nat) (nm : Str) (F : Fo), vs = [.ref p, .int c, .str nm, .int n] ∧ OnC K C CC WC PA PT PS H p D E' W c nm F ∧ (lkA W.cs (c, nm) = none → ErrAt CB "value" .non H E) ∧
  ∀ x, lkA W.cs (c, nm) = some x → (∃ k b, StpOk x F k b) ∧ ((sentM x F).length < n → ∀ H', LamX.ExtN H H' → LamX.Tabs (T3 PA PT PS) H' → ErrAt CV "why" (.str "p") H' E) ∧ (n ≤ (sentM x F).length → ∀ a xs H', LamX.ExtN H H' → LamX.Tabs (T3 PA PT PS) H' → H' a = some (.tup xs) → DvA H' xs (((sentM x F).take n).map ddT) → Q (.ref a) H')
noncomputable def spWBr (CV : Addr) : Sp := fun vs H Q E => ∃ (p D E' : Addr) (W : Wd) (c : Int) (n : Nat) (nm : Str) (F : Fo), vs = [.ref p, .int c, .str nm, .int n] ∧ OnC K C CC WC PA PT PS H p D E' W c nm F ∧ W.fs.length ≤ 1000 ∧ (lkA W.cs (c, nm) = none → ErrAt CB "value" .non H E) ∧
  ∀ x, lkA W.cs (c, nm) = some x → (∃ k b, StpOk x F k b) ∧ ((sentM x F).length < n → ∀ H', LamX.ExtN H H' → LamX.Tabs (T3 PA PT PS) H' → ErrAt CV "why" (.str "p") H' E) ∧ (n ≤ (sentM x F).length → ∀ H', WNew K C CC WC PA PT PS H p D E' { W with fs := ptA W.fs nm (doesL ((sentM x F).take n) F) } H' → Q .non H')
end
section
variable {P : Program} {w : World} {K : PySem.W.Frag} {mg : Str → Option Value} {base : Heap} {C CC WC PA PT PS CB CV fV : Addr}
set_option maxHeartbeats 16000000 in
theorem ok_wst {f : Addr} {fd : FuncData} (n1 : C ≠ WC) (n2 : CC ≠ WC) (t : WcT K mg WC) (M_c : MDef P w K mg base (L2.CX P w) 4 WC "_copy" nWCp (spW_c K C CC WC CB)) (D_stepped : Def P w K mg base CX0 11 "stepped" pStp (spStp K C CC PA PT PS)) (D_told : Def P w K mg base CX0 2 "_told" pTold (spTold K C CC))
    (F : Fun K "step" "World.step" sWSt f fd) : FnOk P w K mg base (L2.CX P w) 12 f fd nWCp (spWSt K C CC WC PA PT PS CB) := by
  have nd := scWSt.nd
  refine F.okX scWSt (fun vs H Q E h => ?_) (fun cdv A outer s H vs Q E hr h => ?_)
  · obtain ⟨p, D, E', W, c, nm, F, rfl, _⟩ := h
    rfl
  · obtain ⟨p, D, E', W, c, nm, F, rfl, O, hl, qn, q⟩ := h
    refine ⟨_, (pss_cons (ps_set (i := 3) nd rfl (Or.inl rfl) (pe_mdef M_c t.cl (hr.mono (by decide)) (passes_call (takes_of rfl rfl rfl rfl) (fun _ _ _ _ h => h)) (pv 0) (pa_cons (pv 1) (pa_cons (pv 2) pa_nil))))
 (pss_cons (ps_set (i := 4) nd rfl (Or.inl rfl) (pe_dget (hu_of hr) (pe_fld (pv 0) rfl) (pv 2) (fun _ _ => rfl)))
 (pss_cons (ps_asg (pe_def D_stepped (hr.mono (by decide)) rfl pass0 (pa_cons (pv 3) (pa_cons (pv 4) pa_nil))) (pg_tup rfl (pgs_cons (pg_name (i := 5) nd rfl (Or.inl rfl)) (pgs_cons (pg_name (i := 6) nd rfl (Or.inl rfl)) (pgs_cons (pg_name (i := 7) nd rfl (Or.inl rfl)) (pgs_cons (pg_name (i := 8) nd rfl (Or.inl rfl)) pgs_nil))))))
 (pss_cons (ps_dput (hu_of hr) (pe_fld (pv 0) rfl) (pe_tup (pa_cons (pv 1) (pa_cons (pv 2) pa_nil))) (pv 5) rfl)
 (pss_cons (ps_dput (hu_of hr) (pe_fld (pv 0) rfl) (pv 2) (pv 6) rfl)
 (pss_one (ps_ret (pe_tup (pa_cons (pe_def D_told (hr.mono (by decide)) rfl pass0 (pa_cons (pv 3) (pa_cons (pv 4) pa_nil))) (pa_cons (pv 7) (pa_cons (pv 8) pa_nil))))))))))), ?_⟩
    obtain ⟨dx, hp⟩ := O.w.at_
    obtain ⟨fa, hfa, hg⟩ := O.w.f.get O.f
    refine ⟨_, rfl, p, dx, _, rfl, hp, fw_no (by decide +kernel), _, rfl, _, rfl, p, D, E', W, c, nm, F, rfl, O.w, O.c0, O.c1, O.f, qn, fun x hx H1 y s1 hy => ?_⟩
    obtain ⟨⟨k, b, ok⟩, qk⟩ := q x hx
    refine ⟨_, rfl, p, WC, dx, _, _, rfl, s1 _ _ hp, t.cl, t.nF, fw_f, _, rfl, D, _, rfl, hg fun _ h => s1 _ _ h, ?_⟩
    refine ⟨_, rfl, _, rfl, y, fa, x, F, k, b, rfl, hy, ok.o, cw4, ok.n, hfa.same s1, ok.g, ok.kb, O.T.ext s1, fun r z q' sa la H2 e2 t2 hs => ?_⟩
    refine ⟨r, _, rfl, st hs.at_, rfl, _, _, rfl, _, _, rfl, _, _, rfl, _, _, rfl, rfl, ?_⟩
    have e02 : LamX.ExtN H H2 := (LamX.ExtN.of s1).trans e2
    have hW2 := O.w.en n1 n2 e02
    obtain ⟨dx2, hp2⟩ := hW2.at_
    refine ⟨_, rfl, _, rfl, p, WC, dx2, _, _, rfl, hp2, t.cl, t.nP, fw_p, _, rfl, _, rfl, by show 2 ≤ sizeLine; decide, fun kb nb => ?_⟩
    have s3 := same_new nb (o := .tup [.int c, .str nm])
    have hb : upd H2 kb (.tup [.int c, .str nm]) kb = some (.tup ([Sum.inl c, Sum.inr nm].map kV)) := upd_same
    have hW3 := hW2.same n1 n2 s3
    have t3 := t2.ext s3
    have hz3 := hs.y.same s3
    have hq3 := hs.q.same s3
    obtain ⟨xs, hsa, dsa⟩ := hs.s
    have hsa3 := s3 _ _ hsa
    have dsa3 := dsa.same s3
    have hla3 := s3 _ _ hs.l
    have hy3 := (hy.ti (TI.en e2)).same s3
    have hfa3 := (hfa.ti (TI.en e02)).same s3
    have e03 : LamX.ExtN H (upd H2 kb (.tup [.int c, .str nm])) := e02.trans (LamX.ExtN.of s3)
    generalize upd H2 kb (.tup [.int c, .str nm]) = H3 at hb hW3 t3 hz3 hq3 hsa3 dsa3 hla3 hy3 hfa3 e03
    obtain ⟨kvs, hE3, hk⟩ := id hW3.c
    refine ⟨E', _, rfl, DPut.t (k := encC (c, nm)) hE3 hb (lt1 _ (by rw [ka_len hk]; exact Nat.le_trans (Nat.succ_le_succ O.l) (by decide))), ?_⟩
    have u4 : TI H3 (upd H3 E' (.dT (putK kvs (encC (c, nm)) (.ref z)))) := TI.mut hE3 (fun _ z => by cases z) fun _ _ _ z => by cases z
    have hW4 := hW3.putC n1 (k := (c, nm)) hE3 hz3
    have t4 := tabs_E (u := .dT (putK kvs (encC (c, nm)) (.ref z))) hE3 t3
    have f4 : FRM [p, D, E'] H (upd H3 E' (.dT (putK kvs (encC (c, nm)) (.ref z)))) := (FRM.en e03).mut (by simp)
    generalize upd H3 E' (.dT (putK kvs (encC (c, nm)) (.ref z))) = H4 at u4 hW4 t4 f4
    obtain ⟨dx4, hp4⟩ := hW4.at_
    obtain ⟨kv4, hD4, hk4⟩ := id hW4.f
    refine ⟨_, rfl, _, rfl, p, WC, dx4, _, _, rfl, hp4, t.cl, t.nF, fw_f, _, rfl, D, _, rfl, DPut.k (k := encF nm) hD4 (lt1 _ (by rw [ka_len hk4]; exact Nat.le_trans (Nat.succ_le_succ hl) (by decide))), ?_⟩
    have u5 : TI H4 (upd H4 D (.dK (putK kv4 (encF nm) (.ref q')))) := TI.mut hD4 (fun _ z => by cases z) fun _ _ _ z => by cases z
    have hW5 := hW4.putF (nm := nm) n2 hD4 (hq3.ti u4)
    have t5 := tabs_D (u := .dK (putK kv4 (encF nm) (.ref q'))) hD4 t4
    have f5 : FRM [p, D, E'] H (upd H4 D (.dK (putK kv4 (encF nm) (.ref q')))) := f4.mut (by simp)
    generalize upd H4 D (.dK (putK kv4 (encF nm) (.ref q'))) = H5 at u5 hW5 t5 f5
    have u45 := u4.trans u5
    refine ⟨_, rfl, _, rfl, y, fa, x, F, k, rfl, hy3.ti u45, ok.o, hfa3.ti u45, ok.g, by have := ok.kb; omega, fun tt H6 s6 ht6 => ?_⟩
    refine ⟨_, rfl, _, rfl, by show 3 ≤ sizeLine; decide, fun r' nr => ?_⟩
    have s7 := same_new nr (o := .tup [.ref tt, .ref sa, .ref la])
    have s67 := s6.trans s7
    refine qk r' _ ⟨f5.same s67, t5.ext s67, hW5.same n1 n2 s67⟩ ?_
    exact .tup upd_same (.cons (ht6.same s7) (.cons (.tup (s67 _ _ (u45.t _ _ hsa3)) ((dsa3.tu u45.t (tO_dds _)).same s67)) (.cons (dv_intsT (s67 _ _ (u45.t _ _ hla3))) .nil)))
theorem ok_w_s {f : Addr} {fd : FuncData} (n1 : C ≠ WC) (n2 : CC ≠ WC) (T : Bk mg) (t : WcT K mg WC) (TV : PySem.Tide.TideTxt P K mg "BadValue" CV fV "why") (M_c : MDef P w K mg base (L2.CX P w) 4 WC "_copy" nWCp (spW_c K C CC WC CB)) (D_stepped : Def P w K mg base CX0 11 "stepped" pStp (spStp K C CC PA PT PS)) (D_is_integer : Def P w K mg base CX0 1 "is_integer" pV spInt)
    (F : Fun K "_sent" "World._sent" sW_s f fd) : FnOk P w K mg base (L2.CX P w) 12 f fd pWBr (spW_s K C CC WC PA PT PS CB CV) := by
  have nd := scW_s.nd
  refine F.okX scW_s (fun vs H Q E h => ?_) (fun cdv A outer s H vs Q E hr h => ?_)
  · obtain ⟨p, D, E', W, c, n, nm, F, rfl, _⟩ := h
    rfl
  · obtain ⟨p, D, E', W, c, n, nm, F, rfl, O, qn, q⟩ := h
    refine ⟨_, (pss_cons (ps_set (i := 4) nd rfl (Or.inl rfl) (pe_ix (ix_tupK (K := K) rfl) (pe_def D_stepped (hr.mono (by decide)) rfl pass0 (pa_cons (pe_mdef M_c t.cl (hr.mono (by decide)) (passes_call (takes_of rfl rfl rfl rfl) (fun _ _ _ _ h => h)) (pv 0) (pa_cons (pv 1) (pa_cons (pv 2) pa_nil))) (pa_cons (pe_dget (hu_of hr) (pe_fld (pv 0) rfl) (pv 2) (fun _ _ => rfl)) pa_nil))) pe_int (fun _ _ => rfl)))
 (pss_cons (ps_if (PW.pt (pw_or (pt_not (pt_val (pe_def D_is_integer (hr.mono (by decide)) rfl pass0 (pa_cons (pv 3) pa_nil)))) (pw_or1 (pt_not (pt_chain op_le op_le pe_int (pv 3) (pe_callB (call_lenK (K := K) rfl) (by rfl) T.len PySem.boot_len (pa_cons (pv 4) pa_nil)))))))
  (pss_one (ps_raiseTide rfl TV hr (takes_of rfl rfl rfl rfl) (pa_cons pe_str pa_nil)))
  pss_nil)
 (pss_one (ps_ret (pe_slice (sl_tupAK (K := K) rfl) (pv 4) po_none (po_some (pv 3))))))), ?_⟩
    obtain ⟨dx, hp⟩ := O.w.at_
    obtain ⟨fa, hfa, hg⟩ := O.w.f.get O.f
    refine ⟨_, rfl, p, dx, _, rfl, hp, fw_no (by decide +kernel), _, rfl, _, rfl, p, D, E', W, c, nm, F, rfl, O.w, O.c0, O.c1, O.f, qn, fun x hx H1 y s1 hy => ?_⟩
    obtain ⟨⟨k, b, ok⟩, q1, q2⟩ := q x hx
    refine ⟨_, rfl, p, WC, dx, _, _, rfl, s1 _ _ hp, t.cl, t.nF, fw_f, _, rfl, D, _, rfl, hg fun _ h => s1 _ _ h, ?_⟩
    refine ⟨y, fa, x, F, k, b, rfl, hy, ok.o, cw4, ok.n, hfa.same s1, ok.g, ok.kb, O.T.ext s1, fun r z q' sa la H2 e2 t2 hs => ?_⟩
    obtain ⟨xs, hsa, dsa⟩ := hs.s
    have e02 : LamX.ExtN H H2 := (LamX.ExtN.of s1).trans e2
    have lx := dsa.len
    rw [List.length_map] at lx
    refine ⟨r, _, 2, .ref sa, rfl, rfl, st hs.at_, atI_nat (j := 2) rfl, ?_⟩
    refine ⟨_, rfl, n, rfl, _, rfl, itbF rfl ?_⟩
    refine ⟨_, rfl, 0, n, rfl, rfl, _, rfl, ?_⟩
    rw [decide_eq_true (show (0 : Int) ≤ n by omega)]
    refine ⟨_, rfl, sa, _, rfl, .inr (st hsa), n, xs.length, rfl, rfl, _, rfl, ?_⟩
    by_cases c1 : n ≤ (sentM x F).length
    · rw [decide_eq_true (show (n : Int) ≤ xs.length by omega)]
      refine itbF rfl ⟨_, rfl, _, rfl, n, rfl, slA_go hsa fun a H3 s3 h3 => ?_⟩
      rw [cut_take] at h3
      exact q2 c1 a _ H3 (e02.trans (LamX.ExtN.of s3)) (t2.ext s3) h3 ((DvA.take n dsa).same s3)
    · rw [decide_eq_false (show ¬ (n : Int) ≤ xs.length by omega)]
      exact itbT rfl ⟨_, rfl, (q1 (by omega) H2 e02 t2).go fun _ _ h => h⟩
theorem ok_wbr {f : Addr} {fd : FuncData} (n1 : C ≠ WC) (n2 : CC ≠ WC) (t : WcT K mg WC) (M_s : MDef P w K mg base (L2.CX P w) 12 WC "_sent" pWBr (spW_s K C CC WC PA PT PS CB CV)) (D_played : Def P w K mg base CX0 10 "played" pPlayed (spPlayed C PA PT PS))
    (F : Fun K "breaks" "World.breaks" sWBr f fd) : FnOk P w K mg base (L2.CX P w) 13 f fd pWBr (spWBr K C CC WC PA PT PS CB CV) := by
  have nd := scWBr.nd
  refine F.okX scWBr (fun vs H Q E h => ?_) (fun cdv A outer s H vs Q E hr h => ?_)
  · obtain ⟨p, D, E', W, c, n, nm, F, rfl, _⟩ := h
    rfl
  · obtain ⟨p, D, E', W, c, n, nm, F, rfl, O, hl, qn, q⟩ := h
    refine ⟨_, (pss_cons (ps_set (i := 4) nd rfl (Or.inl rfl) (pe_mdef M_s t.cl (hr.mono (by decide)) (passes_call (takes_of rfl rfl rfl rfl) (fun _ _ _ _ h => h)) (pv 0) (pa_cons (pv 1) (pa_cons (pv 2) (pa_cons (pv 3) pa_nil)))))
 (pss_one (ps_dput (hu_of hr) (pe_fld (pv 0) rfl) (pv 2) (pe_def D_played (hr.mono (by decide)) rfl pass0 (pa_cons (pe_dget (hu_of hr) (pe_fld (pv 0) rfl) (pv 2) (fun _ _ => rfl)) (pa_cons (pv 4) pa_nil))) rfl))), ?_⟩
    obtain ⟨dx, hp⟩ := O.w.at_
    obtain ⟨fa, hfa, hg⟩ := O.w.f.get O.f
    refine ⟨_, rfl, p, dx, _, rfl, hp, fw_no (by decide +kernel), _, rfl, _, rfl, _, rfl, p, D, E', W, c, n, nm, F, rfl, O, qn, fun x hx => ?_⟩
    obtain ⟨⟨k, b, ok⟩, q1, q2⟩ := q x hx
    refine ⟨⟨k, b, ok⟩, q1, fun c1 a xs H1 e1 t1 ha da => ?_⟩
    have hW1 := O.w.en n1 n2 e1
    obtain ⟨dx1, hp1⟩ := hW1.at_
    obtain ⟨fa1, hfa1, hg1⟩ := hW1.f.get O.f
    have ln : ((sentM x F).take n).length ≤ b := by rw [List.length_take]; have := ok.n; omega
    have od : ∀ d ∈ (sentM x F).take n, OkD d ∧ NumD d := fun d hd => ⟨(sent_ok ok.o cw4 d (List.mem_of_mem_take hd)).1, sent_num ok.o d (List.mem_of_mem_take hd)⟩
    have kb := ok.kb
    refine ⟨_, rfl, p, WC, dx1, _, _, rfl, hp1, t.cl, t.nF, fw_f, _, rfl, D, _, rfl, hg1 fun _ h => h, _, rfl, fa1, a, F, xs, (sentM x F).take n, k, rfl, hfa1, ok.g.g.wf, by omega, .inr ha, dds_at da od, canL_all F (fun d hd => sent_can d (List.mem_of_mem_take hd)), t1, fun q' H2 e2 t2 hq2 => ?_⟩
    have hW2 := hW1.en n1 n2 e2
    obtain ⟨dx2, hp2⟩ := hW2.at_
    obtain ⟨kvs, hD2, hk⟩ := id hW2.f
    refine ⟨_, rfl, p, WC, dx2, _, _, rfl, hp2, t.cl, t.nF, fw_f, _, rfl, D, _, rfl, DPut.k (k := encF nm) hD2 (lt1 _ (by rw [ka_len hk]; exact Nat.le_trans (Nat.succ_le_succ hl) (by decide))), ?_⟩
    exact q2 c1 _ ⟨((FRM.en e1).ext e2).mut (by simp), tabs_D hD2 t2, hW2.putF n2 hD2 hq2⟩
end
end K1
set_option Elab.async false
set_option linter.all false
set_option maxRecDepth 100000
set_option maxHeartbeats 8000000
/-! World: made. -/
namespace K1
open PySem PySem.Spec PyProof.Rows L2 RZ StX
noncomputable abbrev sAreN : Stmt := st__are_names
noncomputable abbrev nAreN : List Str := ["value", "name"]
theorem scAreN : FnScope nAreN pV (defScope sAreN) := ⟨rfl, rfl, rfl, by decide +kernel, rfl, by decide +kernel, by decide +kernel⟩
noncomputable abbrev sWIn : Stmt := mW 0
noncomputable abbrev nWIn : List Str := ["self", "names", "clients", "age", "name"]
noncomputable abbrev pWIn : List Str := ["self", "names", "clients"]
theorem scWIn : FnScope nWIn pWIn (defScope sWIn) := ⟨rfl, rfl, rfl, by decide +kernel, rfl, by decide +kernel, by decide +kernel⟩
structure OkN (ns : List Str) : Prop where
  ok : ∀ n ∈ ns, okS n = true
  nd : ns.Nodup
  l1 : 1 ≤ ns.length
  l4 : ns.length ≤ 4
noncomputable def fs0 : Int → List Str → FL
  | _, [] => []
  | k, n :: r => (n, fNew k) :: fs0 (k + 1) r
theorem fs0_snoc (x : Str) : ∀ (k : Int) (ns : List Str), fs0 k (ns ++ [x]) = fs0 k ns ++ [(x, fNew (k + (ns.length : Int)))]
  | k, [] => by show [(x, fNew k)] = [(x, fNew (k + ((0 : Nat) : Int)))]; rw [show k + ((0 : Nat) : Int) = k by simp]
  | k, n :: r => by
    show (n, fNew k) :: fs0 (k + 1) (r ++ [x]) = _
    rw [fs0_snoc x (k + 1) r]
    have e : k + 1 + (r.length : Int) = k + ((n :: r).length : Int) := by rw [List.length_cons]; omega
    rw [e]; rfl
theorem fs0_keys : ∀ (k : Int) (ns : List Str), (fs0 k ns).map (·.1) = ns
  | _, [] => rfl
  | k, n :: r => by show n :: (fs0 (k + 1) r).map (·.1) = _; rw [fs0_keys]
theorem lkA_no {κ β : Type} [DecidableEq κ] {k : κ} : ∀ {xs : List (κ × β)}, k ∉ xs.map (·.1) → lkA xs k = none
  | [], _ => rfl
  | p :: r, h => by
    rw [List.map_cons, List.mem_cons, not_or] at h
    rw [lkA_neg (fun e => h.1 e.symm)]
    exact lkA_no h.2
noncomputable def W0 (ns : List Str) (cl : Int) : Wd := ⟨fs0 1 ns, [], (ns.length : Int) + 1, cl⟩
theorem ek_or {K : PySem.W.Frag} {a : Addr} {xs : List V} {H : Hp} {k : Int} {R : It → Hp → Prop} (h : SeqH H a xs) (r : ∀ Sq : Hp → List V → Prop, (∀ G, (∀ o, H a = some o → G a = some o) → Sq G xs) → R (ItE k Sq) H) : EkR K a xs k H R := by
  rcases h with h | h
  · exact .inl ⟨sq h, r _ fun G hG => sq (hG _ h)⟩
  · exact .inr ⟨st h, r _ fun G hG => st (hG _ h)⟩
theorem a2_map_str : ∀ ns : List Str, A2 (fun x (n : Str) => x = V.str n) (ns.map V.str) ns
  | [] => .nil
  | n :: r => .cons rfl (a2_map_str r)
noncomputable def spAreN : Sp := fun vs H Q _ => ∃ (a : Addr) (ns : List Str), vs = [.ref a] ∧ SeqH H a (ns.map V.str) ∧ OkN ns ∧ ∀ H', Same H H' → Q (.bl true) H'
noncomputable def spWI (K : PySem.W.Frag) (C CC WC : Addr) : Sp := fun vs H Q _ => ∃ (p a dx : Addr) (cl : Int) (ns : List Str), vs = [.ref p, .ref a, .int cl] ∧ H p = some (.ins WC dx []) ∧ SeqH H a (ns.map V.str) ∧ a ≠ p ∧ OkN ns ∧ 1 ≤ cl ∧ cl ≤ 4 ∧
  ∀ D E' H', (∀ b o, b ≠ p → H b = some o → H' b = some o) → H D = none → H E' = none → WAt K C CC WC H' p D E' (W0 ns cl) → Q .non H'
section
variable {P : Program} {w : World} {K : PySem.W.Frag} {mg : Str → Option Value} {base : Heap} {C CC WC : Addr}
theorem ok_arn {f : Addr} {fd : FuncData} (T : Bk mg) (Cw : WCs mg) (D_is_sign : Def P w K mg base CX0 1 "is_sign" pV spSign) (F : Fun K "_are_names" "_are_names" sAreN f fd) : FnOk P w K mg base CX0 2 f fd pV spAreN := by
  have nd := scAreN.nd
  refine F.ok scAreN (fun vs H Q E h => ?_) (fun cdv A outer s H vs Q E hr h => ?_)
  · obtain ⟨a, ns, rfl, _⟩ := h
    rfl
  · obtain ⟨a, ns, rfl, hS, ok, q⟩ := h
    refine ⟨_, (pss_cons (ps_if (PW.pt (pw_or (pt_not (pt_val (pe_callB (call_isiTK (K := K) rfl) (by rfl) T.isinstance PyProof.Rows.boot_isinstance (pa_cons (pv 0) (pa_cons (pe_tup (pa_cons (pe_bltn (v := .ty "list") rfl T.list PyProof.Rows.boot_list rfl) (pa_cons (pe_bltn (v := .ty "tuple") rfl T.tuple PyProof.Rows.boot_tuple rfl) pa_nil))) pa_nil))))) (pw_or1 (pt_not (pt_chain op_le op_le pe_int (pe_callB (call_lenK (K := K) rfl) (by rfl) T.len PySem.boot_len (pa_cons (pv 0) pa_nil)) (pe_const Cw.MOST_NAMES rfl))))))
  pss_any
  pss_nil)
 (pss_one (ps_ret (pe_and (pe_callB (cr_allK (K := K) rfl rfl) (by rfl) T.all PyProof.Rows.boot_all (pa_cons (pe_lc (own := [("name", 1)]) (g := gName 1) (tt := tYes) rfl nd (pi_seqK (K := K) rfl (pv 0)) (blkOk_by (own := [("name", 1)]) (N := nAreN) (sc := defScope sAreN) (by decide +kernel)) (fun _ _ _ _ _ => pg_name (i := 1) nd rfl (Or.inl rfl)) (fun _ _ _ _ _ => pts_nil) (fun _ _ _ _ _ => (pe_def D_is_sign (hr.mono (by decide)) rfl pass0 (pa_cons (pv 1) pa_nil)))) pa_nil)) (pe_one (pe_cmpR op_eq (pe_lenSS rfl rfl T.len rfl T.set (pv 0)) (pe_callB (call_lenK (K := K) rfl) (by rfl) T.len PySem.boot_len (pa_cons (pv 0) pa_nil)) (nomark _))))))), ?_⟩
    have l1 := ok.l1
    have l4 := ok.l4
    refine ⟨_, rfl, (by show 2 ≤ sizeLine; decide), fun tp ntp => ?_⟩
    have s1 := same_new (o := .tup [.ty "list", .ty "tuple"]) ntp
    have hS1 := hS.same s1
    obtain ⟨tn, ty, kit⟩ := SeqH.tyK (K := K) hS1
    refine ⟨.ref a, tp, [.ty "list", .ty "tuple"], .type tn, [.type "list", .type "tuple"], true, rfl, upd_same, .cons (.ty _) (.cons (.ty _) .nil), ty, kit, _, rfl, itbF rfl ?_⟩
    generalize upd H tp (.tup [.ty "list", .ty "tuple"]) = H1 at s1 hS1
    refine ⟨_, rfl, a, _, rfl, hS1.len, 1, _, rfl, rfl, _, rfl, ?_⟩
    have lm : (ns.map V.str).length = ns.length := List.length_map _
    rw [decide_eq_true (show (1 : Int) ≤ ((ns.map V.str).length : Nat) by omega)]
    refine ⟨_, _, rfl, rfl, _, rfl, ?_⟩
    rw [decide_eq_true (show (((ns.map V.str).length : Nat) : Int) ≤ 4 by omega)]
    refine itbF rfl ?_
    refine ⟨_, rfl, a, rfl, seqK_walk (K := K) (.inl hS1) fun J Gd wk hG D nD => ?_⟩
    refine lc_sel wk (R := fun x (n : Str) => x = V.str n) (ls := ns) (out := fun y (b : Bool) => y = V.bl b) (a2_map_str ns) nD hG (by omega) (fun _ => some true) ?_ ?_
    · rintro x n G T S rfl hm s3 hT hS'
      exact ⟨rfl, tyes ⟨_, rfl, n, rfl, ok.ok n hm, fun G2 s4 => hT _ true G2 s4 rfl rfl⟩⟩
    · intro G acc s3 hacc h4
      have ha : acc = (ns.map fun _ => true).map V.bl := by
        have e : ns.filterMap (fun _ => some true) = ns.map fun _ => true := by rw [← List.filterMap_eq_map]; rfl
        rw [e] at h4
        exact h4.vals
      rw [ha] at hacc
      have al : (ns.map fun _ => true).all id = true := by
        rw [List.all_map]; exact List.all_eq_true.mpr fun _ _ => rfl
      have hS3 := hS1.same s3
      refine ⟨D, _, rfl, sq hacc, ?_⟩
      rw [al]
      refine ⟨_, rfl, itbT rfl ⟨_, rfl, a, ns, rfl, hS3, ok.nd, by omega, _, rfl, a, _, rfl, hS3.len, rfl, ?_⟩⟩
      rw [lm]
      show Q (.bl (decide (V.int ((ns.length : Nat) : Int) = V.int ((ns.length : Nat) : Int)))) G
      rw [decide_eq_true rfl]
      exact q G (s1.trans s3)
theorem ok_wi {f : Addr} {fd : FuncData} (n1 : C ≠ WC) (n2 : CC ≠ WC) (T : Bk mg) (Cw : WCs mg) (t : WcT K mg WC) (tc : ClT K mg C) (D_are_names : Def P w K mg base CX0 2 "_are_names" pV spAreN) (D_is_integer : Def P w K mg base CX0 1 "is_integer" pV spInt) (D_new : MkD P w K mg base C)
    (F : Fun K "__init__" "World.__init__" sWIn f fd) : FnOk P w K mg base CX0 6 f fd pWIn (spWI K C CC WC) := by
  have nd := scWIn.nd
  refine F.ok scWIn (fun vs H Q E h => ?_) (fun cdv A outer s H vs Q E hr h => ?_)
  · obtain ⟨p, a, dx, cl, ns, rfl, _⟩ := h
    rfl
  · obtain ⟨p, a, dx, cl, ns, rfl, hp, hS, ap, ok, c1, c4, q⟩ := h
    refine ⟨_, (pss_cons (ps_if (pt_not (pt_val (pe_def D_are_names (hr.mono (by decide)) rfl pass0 (pa_cons (pv 1) pa_nil)))) pss_any pss_nil)
 (pss_cons (ps_if (PW.pt (pw_or (pt_not (pt_val (pe_def D_is_integer (hr.mono (by decide)) rfl pass0 (pa_cons (pv 2) pa_nil)))) (pw_or1 (pt_not (pt_chain op_le op_le pe_int (pv 2) (pe_const Cw.MOST_CLIENTS rfl)))))) pss_any pss_nil)
 (pss_cons (ps_fld (pv 0) (pe_dc (own := [("age", 3), ("name", 4)]) (g := gTup K 2 (gCons (gName 3) (gCons (gName 4) gNil))) (tt := tYes) rfl nd (pi_enumWK (K := K) rfl rfl T.enumerate (pa_cons (pv 1) pa_nil) (pk_cons pe_int pk_nil)) (blkOk_by (own := [("age", 3), ("name", 4)]) (N := nWIn) (sc := defScope sWIn) (by decide +kernel)) (fun _ _ _ _ _ => pg_tup rfl (pgs_cons (pg_name (i := 3) nd rfl (Or.inl rfl)) (pgs_cons (pg_name (i := 4) nd rfl (Or.inl rfl)) pgs_nil))) (fun _ _ _ _ _ => pts_nil) (fun _ _ _ _ _ => pv 4) (fun _ _ _ _ _ => pe_new D_new tc.gC (hr.mono (by decide)) rfl (pa_cons (pv 3) pa_nil))) rfl)
 (pss_cons (ps_fld (pv 0) (pe_op op_add (pe_callB (call_lenK (K := K) rfl) (by rfl) T.len PySem.boot_len (pa_cons (pv 1) pa_nil)) pe_int) rfl)
 (pss_cons (ps_fld (pv 0) (pv 2) rfl)
 (pss_one (ps_fld (pv 0) pe_dnewT rfl))))))), ?_⟩
    have l4 := ok.l4
    refine ⟨_, rfl, a, ns, rfl, hS, ok, fun H1 s1 => ⟨_, rfl, itbF rfl ?_⟩⟩
    refine ⟨_, rfl, cl, rfl, _, rfl, itbF rfl ?_⟩
    refine ⟨_, rfl, 1, cl, rfl, rfl, _, rfl, ?_⟩
    rw [decide_eq_true c1]
    refine ⟨cl, 4, rfl, rfl, _, rfl, ?_⟩
    rw [decide_eq_true c4]
    refine itbF rfl ?_
    have hS1 := hS.same s1
    have hp1 := s1 _ _ hp
    have lm : (ns.map V.str).length = ns.length := List.length_map _
    refine ⟨_, rfl, a, ns.map V.str, 1, rfl, rfl, by decide, by decide, ?_⟩
    refine ek_or (K := K) (k := 1) hS1 ?_
    intro Sq hSq D nD
    have aD : a ≠ D := fun e => by
      rcases hS1 with h | h <;> (rw [e, nD] at h; cases h)
    refine dc_it (walk_ek (k := 1) (Sq := Sq) (xs := ns.map V.str)) (fun i G => (∀ b o, b ≠ D → H1 b = some o → G b = some o) ∧ ∃ kvs, G D = some (.dK kvs) ∧ KA encF (FV C G) kvs (fs0 1 (ns.take i))) ⟨fun b o nb h => by rw [upd_ne nb]; exact h, [], upd_same, .nil⟩ (fun i G _ h => hSq _ fun o ho => h.1 _ _ aD ho) ?_ ?_
    · rintro i y G G2 hi ⟨kp, kvs, hD, hk⟩ ⟨Tt, v, rfl, nT, rfl, hv⟩
      rw [List.getElem?_map] at hv
      obtain ⟨n, hn, rfl⟩ := Option.map_eq_some_iff.mp hv
      have sT := same_new (H := G) nT (o := .tup [.int (1 + (i : Int)), .str n])
      have hT : upd G Tt (.tup [.int (1 + (i : Int)), .str n]) Tt = some (HO.tup [.int (1 + (i : Int)), .str n]) := upd_same
      have hD := sT _ _ hD
      have hk := ka_mono (R' := FV C (upd G Tt (.tup [.int (1 + (i : Int)), .str n]))) (fun v F ⟨a, e, k⟩ => ⟨a, e, k.same sT⟩) hk
      have kp : ∀ b o, b ≠ D → H1 b = some o → upd G Tt (.tup [.int (1 + (i : Int)), .str n]) b = some o := fun b o nb h => sT _ _ (kp b o nb h)
      generalize upd G Tt (.tup [.int (1 + (i : Int)), .str n]) = G2 at hT hD hk kp
      refine ⟨Tt, _, rfl, st hT, rfl, _, _, rfl, _, _, rfl, rfl, ?_⟩
      refine ⟨rfl, tyes ⟨_, rfl, _, rfl, fun x ddx nx ndx nxd => newF nx ndx nxd (by omega) fun G3 s3 hx => ⟨rfl, kvs, encF n, rfl, s3 _ _ hD, ?_, ?_⟩⟩⟩
      · rw [ka_len hk, ← List.length_map (f := (·.1)), fs0_keys, List.length_take]
        exact lt1 _ (by omega)
      · have hD3 := s3 _ _ hD
        have u : TI G3 (upd G3 D (.dK (putK kvs (encF n) (.ref x)))) := TI.mut hD3 (fun _ z => by cases z) fun _ _ _ z => by cases z
        refine ⟨fun b o nb h => by rw [upd_ne nb]; exact s3 _ _ (kp b o nb h), _, upd_same, ?_⟩
        have no : lkA (fs0 1 (ns.take i)) n = none := lkA_no (by
          rw [fs0_keys]
          intro hm
          have nd := ok.nd
          rw [take_sub hn, List.nodup_append] at nd
          exact nd.2.2 n hm n List.mem_cons_self rfl)
        have hk3 := ka_put (k := n) (b := fNew (1 + (i : Int))) (v := .ref x) inj_F (ka_mono (R' := FV C (upd G3 D (.dK (putK kvs (encF n) (.ref x))))) (fun v F ⟨a, e, k⟩ => ⟨a, e, (k.same s3).ti u⟩) hk) ⟨x, rfl, hx.ti u⟩
        rw [ptA_new no] at hk3
        rw [List.take_add_one, hn]
        have e3 := fs0_snoc n 1 (ns.take i)
        rw [List.length_take, Nat.min_eq_left (by omega)] at e3
        show KA encF _ _ (fs0 1 (ns.take i ++ [n]))
        rw [e3]
        exact hk3
    rintro G ⟨kp, kvs, hD, hk⟩
    rw [lm, List.take_length] at hk
    have s2 : Same H1 G := fun b o hb => kp b o (fun e => by rw [e, nD] at hb; cases hb) hb
    have hpG := s2 _ _ hp1
    have hSG := hS1.same s2
    have pD : p ≠ D := fun e => by rw [e, nD] at hp1; cases hp1
    refine ⟨_, rfl, p, WC, dx, _, rfl, hpG, t.cl, t.nF, by show 0 < 1000; decide, ?_⟩
    have k1 : ∀ b o, b ≠ p → H b = some o → upd G p (.ins WC dx (putF "_folders" (.ref D) [])) b = some o := fun b o nb h => by rw [upd_ne nb]; exact s2 _ _ (s1 _ _ h)
    have hS3 : SeqH (upd G p (.ins WC dx (putF "_folders" (.ref D) []))) a (ns.map V.str) := hSG.imp (fun h => by rw [upd_ne ap]; exact h) (fun h => by rw [upd_ne ap]; exact h)
    have hp3 : upd G p (.ins WC dx (putF "_folders" (.ref D) [])) p = some (.ins WC dx (putF "_folders" (.ref D) [])) := upd_same
    have tj3 := TJ.ins (u := .ins WC dx (putF "_folders" (.ref D) [])) hpG
    have hD3 : upd G p (.ins WC dx (putF "_folders" (.ref D) [])) D = some (.dK kvs) := by rw [upd_ne (fun e => pD e.symm)]; exact hD
    have hk3 := ka_mono (R' := FV C (upd G p (.ins WC dx (putF "_folders" (.ref D) [])))) (fun v F h => h.tj n1 tj3) hk
    generalize upd G p (.ins WC dx (putF "_folders" (.ref D) [])) = G3 at k1 hS3 hp3 hD3 hk3
    refine ⟨_, rfl, a, _, rfl, hS3.len, _, _, rfl, rfl, _, rfl, p, WC, dx, _, rfl, hp3, t.cl, t.nN, by show 1 < 1000; decide, ?_⟩
    have k2 : ∀ {u : HO} b o, b ≠ p → H b = some o → upd G3 p u b = some o := fun b o nb h => by rw [upd_ne nb]; exact k1 b o nb h
    rw [lm]
    have tj4 := TJ.ins (u := .ins WC dx (putF "_next_age" (.int ((ns.length : Nat) + 1)) (putF "_folders" (.ref D) []))) hp3
    have hp4 : upd G3 p (.ins WC dx (putF "_next_age" (.int ((ns.length : Nat) + 1)) (putF "_folders" (.ref D) []))) p = _ := upd_same
    have hD4 : upd G3 p (.ins WC dx (putF "_next_age" (.int ((ns.length : Nat) + 1)) (putF "_folders" (.ref D) []))) D = some (.dK kvs) := by rw [upd_ne (fun e => pD e.symm)]; exact hD3
    have hk4 := ka_mono (R' := FV C (upd G3 p (.ins WC dx (putF "_next_age" (.int ((ns.length : Nat) + 1)) (putF "_folders" (.ref D) []))))) (fun v F h => h.tj n1 tj4) hk3
    have k4 := @k2 (.ins WC dx (putF "_next_age" (.int ((ns.length : Nat) + 1)) (putF "_folders" (.ref D) [])))
    clear k2 k1 tj4
    generalize upd G3 p (.ins WC dx (putF "_next_age" (.int ((ns.length : Nat) + 1)) (putF "_folders" (.ref D) []))) = G4 at k4 hp4 hD4 hk4
    refine ⟨_, rfl, _, rfl, p, WC, dx, _, rfl, hp4, t.cl, t.nC, by show 2 < 1000; decide, ?_⟩
    have tj5 := TJ.ins (u := .ins WC dx (putF "_clients" (.int cl) (putF "_next_age" (.int ((ns.length : Nat) + 1)) (putF "_folders" (.ref D) [])))) hp4
    have hp5 : upd G4 p (.ins WC dx (putF "_clients" (.int cl) (putF "_next_age" (.int ((ns.length : Nat) + 1)) (putF "_folders" (.ref D) [])))) p = _ := upd_same
    have hD5 : upd G4 p (.ins WC dx (putF "_clients" (.int cl) (putF "_next_age" (.int ((ns.length : Nat) + 1)) (putF "_folders" (.ref D) [])))) D = some (.dK kvs) := by rw [upd_ne (fun e => pD e.symm)]; exact hD4
    have hk5 := ka_mono (R' := FV C (upd G4 p (.ins WC dx (putF "_clients" (.int cl) (putF "_next_age" (.int ((ns.length : Nat) + 1)) (putF "_folders" (.ref D) [])))))) (fun v F h => h.tj n1 tj5) hk4
    have k5 : ∀ b o, b ≠ p → H b = some o → upd G4 p (.ins WC dx (putF "_clients" (.int cl) (putF "_next_age" (.int ((ns.length : Nat) + 1)) (putF "_folders" (.ref D) [])))) b = some o := fun b o nb h => by rw [upd_ne nb]; exact k4 b o nb h
    clear tj5 k4
    generalize upd G4 p (.ins WC dx (putF "_clients" (.int cl) (putF "_next_age" (.int ((ns.length : Nat) + 1)) (putF "_folders" (.ref D) [])))) = G5 at k5 hp5 hD5 hk5
    intro E' nE
    have sE := same_new nE (o := .dT [])
    have pE : p ≠ E' := fun e => by rw [e, nE] at hp5; cases hp5
    have DE : D ≠ E' := fun e => by rw [e, nE] at hD5; cases hD5
    refine ⟨_, rfl, p, WC, dx, _, rfl, sE _ _ hp5, t.cl, t.nP, by show 3 < 1000; decide, ?_⟩
    rw [pw_all]
    have hE6 : upd G5 E' (.dT []) E' = some (.dT []) := upd_same
    have hp6 := sE _ _ hp5
    have hD6 := sE _ _ hD5
    have hk6 := ka_mono (R' := FV C (upd G5 E' (.dT []))) (fun v F h => h.tj n1 (TJ.of (TI.same sE))) hk5
    have k6 : ∀ b o, b ≠ p → H b = some o → upd G5 E' (.dT []) b = some o := fun b o nb h => sE _ _ (k5 b o nb h)
    have nEH : H E' = none := by
      cases e : H E' with
      | none => rfl
      | some o => have := k5 E' o pE.symm e; rw [nE] at this; cases this
    have nDH : H D = none := s1.free nD
    generalize upd G5 E' (.dT []) = G6 at hE6 hp6 hD6 hk6 k6
    have tj7 := TJ.ins (u := .ins WC dx (flW (.ref D) (.ref E') (.int ((ns.length : Nat) + 1)) (.int cl))) hp6
    refine q D E' _ (fun b o nb h => by rw [upd_ne nb]; exact k6 b o nb h) nDH nEH ⟨⟨dx, upd_same⟩, ⟨kvs, by rw [upd_ne (fun e => pD e.symm)]; exact hD6, ka_mono (fun v F h => h.tj n1 tj7) hk6⟩, ⟨[], by rw [upd_ne (fun e => pE e.symm)]; exact hE6, .nil⟩⟩
structure MkW (P : Program) (w : World) (K : PySem.W.Frag) (mg : Str → Option Value) (base : Heap) (C CC WC : Addr) : Prop where
  ex : ∃ (f : Addr) (fd : FuncData), Mk K WC f ∧ Binds K fd pWIn [] ∧ FnOk P w K mg base CX0 6 f fd pWIn (spWI K C CC WC)
theorem pe_newW {X : Cx} {e : Expr} {es : List Expr} {t : TA} {p pos : Pos} (D : MkW X.prog X.w X.K X.mg X.base C CC WC) (gC : X.mg "World" = some (.ref WC)) (hr : Room 7 X.A) (hg : Gl X "World") (ha : PA X (e :: es) t)
    (he : starEach (e :: es) X.env = (false, eval e X.env) :: starEach es X.env := by rfl) (hpl : (backTo pos (starEach es X.env)).any (·.1) = false := by rfl) : PE X (.Call (.Name "World" p) (e :: es) [] pos) (tMake WC (spWI X.K C CC WC) [] E0 t) := by
  obtain ⟨f, fd, hm, hb, F⟩ := D.ex
  exact pe_make hm F hr hg gC hb .nil pass0 ha (he := he) (hpl := hpl)
end
end K1
set_option Elab.async false
set_option linter.all false
set_option maxRecDepth 100000
set_option maxHeartbeats 8000000
/-! The draws of k71: numbers, one of some, signs. -/
namespace K1
open PySem PySem.Spec PyProof.Rows L2 RZ StX
noncomputable abbrev sDraw : Stmt := st__law_draw
noncomputable abbrev sOne : Stmt := st__law_one
noncomputable abbrev sWell : Stmt := st__law_well
noncomputable abbrev sSg : Stmt := st__law_signs
noncomputable abbrev nDraw : List Str := ["_law_well_here", "_law_many", "_law_drawn", "_law_mixed"]
noncomputable abbrev pDraw : List Str := ["_law_well_here", "_law_many"]
theorem scDraw : FnScope nDraw pDraw (defScope sDraw) := ⟨rfl, rfl, rfl, by decide +kernel, rfl, by decide +kernel, by decide +kernel⟩
noncomputable abbrev nOne1 : List Str := ["_law_well_here", "_law_some"]
theorem scOne : FnScope nOne1 nOne1 (defScope sOne) := ⟨rfl, rfl, rfl, by decide +kernel, rfl, by decide +kernel, by decide +kernel⟩
noncomputable abbrev nWell : List Str := ["_law_cell"]
theorem scWell : FnScope nWell nWell (defScope sWell) := ⟨rfl, rfl, rfl, by decide +kernel, rfl, by decide +kernel, by decide +kernel⟩
noncomputable abbrev nSg : List Str := ["_law_well_here"]
theorem scSg : FnScope nSg nSg (defScope sSg) := ⟨rfl, rfl, rfl, by decide +kernel, rfl, by decide +kernel, by decide +kernel⟩
noncomputable def spDraw : Sp := fun vs H Q _ => ∃ (p : Addr) (b : Int), vs = [.ref p, .int b] ∧ WellAt H p ∧ 0 < b ∧ b < 1073741824 ∧
  ∀ (d : Int) (H' : Hp), 0 ≤ d → d < b → Ext p H H' → WellAt H' p → Q (.int d) H'
noncomputable def spWell : Sp := fun vs H Q _ => ∃ c : Int, vs = [.int c] ∧ ∀ (p : Addr) (H' : Hp), H p = none → Same H H' → WellAt H' p → Q (.ref p) H'
noncomputable def spSg : Sp := fun vs H Q _ => ∃ p : Addr, vs = [.ref p] ∧ WellAt H p ∧ ∀ sa ss H', Ext p H H' → WellAt H' p → H' sa = some (.tup (ss.map V.str)) → OkSs ss → Q (.ref sa) H'
theorem tup_e {p q : Addr} {H H' : Hp} {xs : List V} (w : WellAt H p) (e : Ext p H H') (h : H q = some (.tup xs)) : H' q = some (.tup xs) := TU.w w e _ _ h
section
variable {P : Program} {w : World} {K : PySem.W.Frag} {mg : Str → Option Value} {base : Heap}
set_option maxHeartbeats 16000000 in
theorem ok_draw {f : Addr} {fd : FuncData} (T : Bk mg) (F : Fun K "_law_draw" "_law_draw" sDraw f fd) : FnOk P w K mg base CX0 1 f fd pDraw spDraw := by
  have mi := T.int
  refine F.ok scDraw (fun vs H Q E h => ?_) (fun cdv A outer s H vs Q E hr h => ?_)
  · obtain ⟨p, b, rfl, _⟩ := h
    rfl
  · obtain ⟨p, b, rfl, ⟨c, m, t, hp⟩, hb0, hb1, q'⟩ := h
    have q : ∀ (d c m t : Int), 0 ≤ d → d < b → Q (.int d) (upd H p (.lst [.int c, .int m, .int t])) := fun d c m t h1 h2 => q' d _ h1 h2 (Ext.refl H).self ⟨c, m, t, upd_same⟩
    refine ⟨_, pss_cons (ps_if (pt_cmpR op_gt (pe_ix ix_list (pv 0) pe_int (fun _ _ => rfl)) pe_int (nomark _))
        (pss_cons (ps_set (i := 2) scDraw.nd rfl (Or.inl rfl) (pe_op op_mod (pe_callTy call_int1 (by rfl) mi PyProof.Rows.boot_int (pa_cons (pe_ix ix_list (pv 0) pe_int (fun _ _ => rfl)) pa_nil)) (pv 1)))
        (pss_cons (ps_asg (pe_op op_fdiv (pe_ix ix_list (pv 0) pe_int (fun _ _ => rfl)) (pv 1)) (pg_sub (pv 0) pe_int set_list))
        (pss_one (ps_ret (pv 2)))))
        pss_nil)
      (pss_cons (ps_asg (pe_op op_add (pe_ix ix_list (pv 0) pe_int (fun _ _ => rfl)) pe_int) (pg_sub (pv 0) pe_int set_list))
      (pss_cons (ps_set (i := 3) scDraw.nd rfl (Or.inl rfl) (pe_op op_mod (pe_callTy call_int1 (by rfl) mi PyProof.Rows.boot_int (pa_cons
          (pe_op op_mul (pe_op op_add (pe_op op_add (pe_ix ix_list (pv 0) pe_int (fun _ _ => rfl)) (pe_op op_mul pe_int (pe_ix ix_list (pv 0) pe_int (fun _ _ => rfl)))) pe_int) pe_int) pa_nil)) pe_int))
      (pss_cons (ps_set (i := 3) scDraw.nd rfl (Or.inl rfl) (pe_op op_mod (pe_callTy call_int1 (by rfl) mi PyProof.Rows.boot_int (pa_cons
          (pe_op op_mul (pv 3) (pe_op op_add (pe_op op_fdiv (pv 3) pe_int) pe_int)) pa_nil)) pe_int))
      (pss_one (ps_ret (pe_op op_mod (pe_callTy call_int1 (by rfl) mi PyProof.Rows.boot_int (pa_cons
          (pe_op op_fdiv (pe_op op_mod (pe_callTy call_int1 (by rfl) mi PyProof.Rows.boot_int (pa_cons (pe_op op_mul (pv 3) (pe_op op_add (pe_op op_fdiv (pv 3) pe_int) pe_int)) pa_nil)) pe_int) pe_int) pa_nil)) (pv 1))))))), ?_⟩
    have r0 : ∀ x y z : Int, SqL K (upd H p (.lst [.int x, .int y, .int z])) p [.int x, .int y, .int z] := fun x y z => .inl (.inl upd_same)
    have hS : SqL K H p [.int c, .int m, .int t] := .inl (.inl hp)
    have rg : ∀ z : Int, 0 ≤ z % b ∧ z % b < b := fun z => ⟨Int.emod_nonneg _ (by omega), Int.emod_lt_of_pos _ hb0⟩
    refine ⟨.ref p, rfl, p, _, 0, .int c, rfl, rfl, hS, atI_nat (j := 0) rfl, _, _, rfl, rfl, _, rfl, ?_⟩
    refine ite2 (fun _ => ?_) (fun _ => ?_)
    · refine ⟨.ref p, rfl, p, _, 0, .int c, rfl, rfl, hS, atI_nat (j := 0) rfl, .inl ⟨c, rfl, _, rfl, c, b, rfl, rfl, hb0, ?_⟩⟩
      refine ⟨.ref p, rfl, p, _, 0, .int c, rfl, rfl, hS, atI_nat (j := 0) rfl, _, rfl, c, b, rfl, rfl, ⟨hb0, hb1⟩, ?_⟩
      refine ⟨.ref p, rfl, p, _, 0, 0, rfl, rfl, hp, rfl, ?_⟩
      exact ⟨_, rfl, q (c % b) (c / b) m t (rg c).1 (rg c).2⟩
    · refine ⟨.ref p, rfl, p, _, 2, .int t, rfl, rfl, hS, atI_nat (j := 2) rfl, _, _, rfl, rfl, ?_⟩
      refine ⟨.ref p, rfl, p, _, 2, 2, rfl, rfl, hp, rfl, ?_⟩
      refine ⟨.ref p, rfl, p, _, 1, .int m, rfl, rfl, r0 c m (t + 1), atI_nat (j := 1) rfl, ?_⟩
      refine ⟨.ref p, rfl, p, _, 2, .int (t + 1), rfl, rfl, r0 c m (t + 1), atI_nat (j := 2) rfl, _, _, rfl, rfl, .inl ⟨by decide, by decide⟩, ?_⟩
      refine ⟨_, _, rfl, rfl, _, _, rfl, rfl, _, _, rfl, rfl, .inr ⟨by decide, by decide⟩, .inl ⟨_, rfl, _, _, rfl, rfl, (by show (0 : Int) < _; decide), ?_⟩⟩
      generalize he : (m + 90001 * (t + 1) + 6151) * 69621 % 2147483647 = e
      have e0 : 0 ≤ e ∧ e < 2147483647 := by rw [← he]; exact ⟨Int.emod_nonneg _ (by decide), Int.emod_lt_of_pos _ (by decide)⟩
      refine ⟨_, rfl, _, rfl, _, _, rfl, rfl, ⟨by decide, by decide⟩, _, _, rfl, rfl, _, _, rfl, rfl, .inl ⟨by omega, by omega⟩, .inl ⟨_, rfl, _, _, rfl, rfl, (by show (0 : Int) < _; decide), ?_⟩⟩
      generalize hg : e * (e / 1013 + 48271) % 2147483587 = g
      have g0 : 0 ≤ g ∧ g < 2147483587 := by rw [← hg]; exact ⟨Int.emod_nonneg _ (by decide), Int.emod_lt_of_pos _ (by decide)⟩
      refine ⟨_, rfl, _, rfl, _, _, rfl, rfl, ⟨by decide, by decide⟩, _, _, rfl, rfl, _, _, rfl, rfl, .inl ⟨by omega, by omega⟩, .inl ⟨_, rfl, _, _, rfl, rfl, (by show (0 : Int) < _; decide), _, _, rfl, rfl, ⟨by decide, by decide⟩, .inl ⟨_, rfl, _, rfl, _, _, rfl, rfl, hb0, ?_⟩⟩⟩
      exact q _ c m (t + 1) (rg _).1 (rg _).2
theorem ok_one {f : Addr} {fd : FuncData} (T : Bk mg) (D_draw : Def P w K mg base CX0 1 "_law_draw" pDraw spDraw) (F : Fun K "_law_one" "_law_one" sOne f fd) : FnOk P w K mg base CX0 2 f fd nOne1 spOneS := by
  refine F.ok scOne (fun vs H Q E h => ?_) (fun cdv A outer s H vs Q E hr h => ?_)
  · obtain ⟨p, a, xs, rfl, _⟩ := h
    rfl
  · obtain ⟨p, a, xs, rfl, hw, ha, nap, h0, h1, q⟩ := h
    refine ⟨_, (pss_one (ps_ret (pe_ix (ix_seqK (K := K) rfl) (pv 1) (pe_def D_draw (hr.mono (by decide)) rfl pass0 (pa_cons (pv 0) (pa_cons (pe_callB call_len_seq (by rfl) T.len PySem.boot_len (pa_cons (pv 1) pa_nil)) pa_nil))) (fun _ _ => rfl)))), ?_⟩
    refine ⟨_, rfl, _, rfl, _, rfl, a, xs, rfl, ha.len, ?_⟩
    refine ⟨p, xs.length, rfl, hw, by omega, by omega, fun d H' d0 d1 hx hw' => ?_⟩
    have hi : d.toNat < xs.length := by omega
    have hg : xs[d.toNat]? = some xs[d.toNat] := List.getElem?_eq_getElem hi
    have ha' : SeqH H' a xs := ha.imp (fun h => hx _ _ nap h) (fun h => hx _ _ nap h)
    exact seq_ixI ha' (show d = (d.toNat : Int) by omega) hg (q _ _ _ hg hx hw')
theorem ok_sg {f : Addr} {fd : FuncData} (T : Bk mg) (D_one : Def P w K mg base CX0 2 "_law_one" nOne1 spOneS) (F : Fun K "_law_signs" "_law_signs" sSg f fd) : FnOk P w K mg base CX0 3 f fd nSg spSg := by
  refine F.ok scSg (fun vs H Q E h => ?_) (fun cdv A outer s H vs Q E hr h => ?_)
  · obtain ⟨p, rfl, _⟩ := h
    rfl
  · obtain ⟨p, rfl, hw, q⟩ := h
    refine ⟨_, (pss_one (ps_ret (pe_def D_one (hr.mono (by decide)) rfl pass0 (pa_cons (pv 0) (pa_cons (pe_lst (pa_cons (pe_tup pa_nil) (pa_cons (pe_tup pa_nil) (pa_cons (pe_tup (pa_cons pe_str pa_nil)) (pa_cons (pe_tup (pa_cons pe_str pa_nil)) (pa_cons (pe_tup (pa_cons pe_str (pa_cons pe_str pa_nil))) (pa_cons (pe_tup (pa_cons pe_str pa_nil)) (pa_cons (pe_tup (pa_cons pe_str (pa_cons pe_str pa_nil))) pa_nil)))))))) pa_nil))))), ?_⟩
    refine ⟨_, rfl, Nat.zero_le _, fun t1 n1 => ⟨Nat.zero_le _, fun t2 n2 => ⟨by show 1 ≤ sizeLine; decide, fun t3 n3 => ⟨by show 1 ≤ sizeLine; decide, fun t4 n4 => ⟨by show 2 ≤ sizeLine; decide, fun t5 n5 => ⟨by show 1 ≤ sizeLine; decide, fun t6 n6 => ⟨by show 2 ≤ sizeLine; decide, fun t7 n7 => ⟨by show 7 ≤ sizeLine; decide, fun l nl => ?_⟩⟩⟩⟩⟩⟩⟩⟩
    have s1 := same_new (o := .tup (([] : List Str).map V.str)) n1
    have s2 := same_new (o := .tup (([] : List Str).map V.str)) n2
    have s3 := same_new (o := .tup ((["seen"] : List Str).map V.str)) n3
    have s4 := same_new (o := .tup ((["b"] : List Str).map V.str)) n4
    have s5 := same_new (o := .tup ((["b", "seen"] : List Str).map V.str)) n5
    have s6 := same_new (o := .tup ((["answered"] : List Str).map V.str)) n6
    have s7 := same_new (o := .tup ((["answered", "z"] : List Str).map V.str)) n7
    have s8 := same_new (o := .lst [.ref t1, .ref t2, .ref t3, .ref t4, .ref t5, .ref t6, .ref t7]) nl
    have sA := ((((((s1.trans s2).trans s3).trans s4).trans s5).trans s6).trans s7)
    have sB := sA.trans s8
    have w8 := hw.sm sB
    refine ⟨p, l, _, rfl, w8, .inl upd_same, (hw.sm sA).ne nl, by show 0 < 7; decide, by show 7 < 1073741824; decide, fun j y H5 hj e5 w7 => ?_⟩
    have eA : Ext p H H5 := (same_ext sB).trans e5
    have fin : ∀ {t : Addr} {ss : List Str} {J : Hp}, J t = some (.tup (ss.map V.str)) → (∀ b o, J b = some o → (upd _ l (.lst [.ref t1, .ref t2, .ref t3, .ref t4, .ref t5, .ref t6, .ref t7])) b = some o) → H5 t = some (.tup (ss.map V.str)) := fun {t ss J} h k => tup_e w8 e5 (k _ _ h)
    have hm := List.mem_of_getElem? hj
    simp only [List.mem_cons, List.not_mem_nil, or_false] at hm
    rcases hm with rfl | rfl | rfl | rfl | rfl | rfl | rfl
    · exact q t1 [] H5 eA w7 (tup_e w8 e5 ((((((((s2.trans s3).trans s4).trans s5).trans s6).trans s7).trans s8)) _ _ upd_same)) (okSs_iff.mp (by decide +kernel))
    · exact q t2 [] H5 eA w7 (tup_e w8 e5 (((((((s3.trans s4).trans s5).trans s6).trans s7).trans s8)) _ _ upd_same)) (okSs_iff.mp (by decide +kernel))
    · exact q t3 ["seen"] H5 eA w7 (tup_e w8 e5 ((((((s4.trans s5).trans s6).trans s7).trans s8)) _ _ upd_same)) (okSs_iff.mp (by decide +kernel))
    · exact q t4 ["b"] H5 eA w7 (tup_e w8 e5 (((((s5.trans s6).trans s7).trans s8)) _ _ upd_same)) (okSs_iff.mp (by decide +kernel))
    · exact q t5 ["b", "seen"] H5 eA w7 (tup_e w8 e5 ((((s6.trans s7).trans s8)) _ _ upd_same)) (okSs_iff.mp (by decide +kernel))
    · exact q t6 ["answered"] H5 eA w7 (tup_e w8 e5 (((s7.trans s8)) _ _ upd_same)) (okSs_iff.mp (by decide +kernel))
    · exact q t7 ["answered", "z"] H5 eA w7 (tup_e w8 e5 (s8 _ _ upd_same)) (okSs_iff.mp (by decide +kernel))
theorem ok_well {f : Addr} {fd : FuncData} (T : Bk mg) (F : Fun K "_law_well" "_law_well" sWell f fd) : FnOk P w K mg base CX0 1 f fd nWell spWell := by
  have nd := scWell.nd
  refine F.ok scWell (fun vs H Q E h => ?_) (fun cdv A outer s H vs Q E hr h => ?_)
  · obtain ⟨c, rfl, _⟩ := h
    rfl
  · obtain ⟨c, rfl, q⟩ := h
    refine ⟨_, (pss_cons (ps_set (i := 0) nd rfl (Or.inl rfl) (pe_ifExp (pt_cmpR op_ge (pv 0) pe_int (nomark _)) (pv 0) (pe_op op_sub (pe_op op_sub pe_int (pe_op op_mul pe_int (pv 0))) pe_int)))
 (pss_one (ps_ret (pe_lst (pa_cons (pe_op op_mul (pv 0) (pe_callTy call_int1 (by rfl) T.int PyProof.Rows.boot_int (pa_cons (pe_cmpR op_ge (pv 0) (pe_op op_pow pe_int pe_int) (nomark _)) pa_nil))) (pa_cons (pe_op op_mod (pe_callTy call_int1 (by rfl) T.int PyProof.Rows.boot_int (pa_cons (pv 0) pa_nil)) pe_int) (pa_cons pe_int pa_nil))))))), ?_⟩
    have fin : ∀ z : Int, ∀ y : Int, ∀ p, H p = none → Q (.ref p) (upd H p (.lst [.int y, .int (z % 2147483629), .int 0])) := fun z y p np => q p _ np (same_new np) ⟨y, _, 0, upd_same⟩
    have m0 : (0 : Int) < 2147483629 := by decide
    refine ⟨_, rfl, _, _, rfl, rfl, _, rfl, ?_⟩
    refine ite2 (fun _ => ?_) (fun _ => ?_)
    · refine ⟨_, rfl, ?_⟩
      refine ⟨_, rfl, _, rfl, _, _, rfl, rfl, ⟨by decide, by decide, by decide⟩, _, _, rfl, rfl, .inr ⟨_, rfl, _, _, rfl, rfl, .inr ?_, ?_⟩⟩
      · split <;> exact ⟨by decide, by decide⟩
      exact ⟨_, rfl, .inl ⟨_, rfl, _, _, rfl, rfl, m0, by show 3 ≤ sizeLine; decide, fin _ _⟩⟩
    · refine ⟨_, rfl, _, _, rfl, rfl, .inl ⟨by decide, by decide⟩, _, _, rfl, rfl, _, _, rfl, rfl, ?_⟩
      refine ⟨_, rfl, _, rfl, _, _, rfl, rfl, ⟨by decide, by decide, by decide⟩, _, _, rfl, rfl, .inr ⟨_, rfl, _, _, rfl, rfl, .inr ?_, ?_⟩⟩
      · split <;> exact ⟨by decide, by decide⟩
      exact ⟨_, rfl, .inl ⟨_, rfl, _, _, rfl, rfl, m0, by show 3 ≤ sizeLine; decide, fin _ _⟩⟩
end
end K1
set_option Elab.async false
set_option linter.all false
set_option maxRecDepth 100000
set_option maxHeartbeats 8000000
/-! Deeds and calls that are drawn. -/
namespace K1
open PySem PySem.Spec PyProof.Rows L2 RZ StX
noncomputable abbrev sLd : Stmt := st__law_deed
noncomputable abbrev sLc : Stmt := st__law_call
noncomputable abbrev nLd : List Str := ["_law_well_here", "_law_some", "_law_rows", "_law_turn"]
noncomputable abbrev pLd : List Str := ["_law_well_here"]
theorem scLd : FnScope nLd pLd (defScope sLd) := ⟨rfl, rfl, rfl, by decide +kernel, rfl, by decide +kernel, by decide +kernel⟩
noncomputable abbrev nLc : List Str := ["_law_well_here", "_law_names", "_law_clients", "_law_client", "_law_name", "_law_k", "_law_rows"]
noncomputable abbrev pLc : List Str := ["_law_well_here", "_law_names", "_law_clients"]
theorem scLc : FnScope nLc pLc (defScope sLc) := ⟨rfl, rfl, rfl, by decide +kernel, rfl, by decide +kernel, by decide +kernel⟩
inductive Ca
  | act (nm : Str) (d : Dd)
  | remake (nm : Str)
  | swap (nm ot : Str)
  | fetch (c : Int) (nm : Str)
  | want (c : Int) (nm : Str) (n : Int) (ss : List Str)
  | drop (c : Int) (nm : Str) (n : Int)
  | make (c : Int) (nm : Str) (n : Int) (ss : List Str)
  | step (c : Int) (nm : Str)
  | breaks (c : Int) (nm : Str) (n : Nat)
noncomputable def ssD (ss : List Str) : PyData := .tuple (ss.map PyData.str)
noncomputable def caD : Ca → PyData
  | .act nm d => .tuple [.str "act", .str nm, ddT d]
  | .remake nm => .tuple [.str "remake", .str nm]
  | .swap nm ot => .tuple [.str "swap", .str nm, .str ot]
  | .fetch c nm => .tuple [.str "fetch", .int c, .str nm]
  | .want c nm n ss => .tuple [.str "want", .int c, .str nm, .int n, ssD ss]
  | .drop c nm n => .tuple [.str "drop", .int c, .str nm, .int n]
  | .make c nm n ss => .tuple [.str "make", .int c, .str nm, .int n, ssD ss]
  | .step c nm => .tuple [.str "step", .int c, .str nm]
  | .breaks c nm n => .tuple [.str "breaks", .int c, .str nm, .int n]
/-- a call that this world knows -/
noncomputable def OkCa (ns : List Str) (cl : Int) : Ca → Prop
  | .act nm d => nm ∈ ns ∧ OkD d ∧ NumD d
  | .remake nm => nm ∈ ns
  | .swap nm ot => nm ∈ ns ∧ ot ∈ ns
  | .fetch c nm => 0 ≤ c ∧ c < cl ∧ nm ∈ ns
  | .want c nm n ss => 0 ≤ c ∧ c < cl ∧ nm ∈ ns ∧ 1 ≤ n ∧ OkSs ss
  | .drop c nm n => 0 ≤ c ∧ c < cl ∧ nm ∈ ns ∧ 1 ≤ n
  | .make c nm n ss => 0 ≤ c ∧ c < cl ∧ nm ∈ ns ∧ 1 ≤ n ∧ OkSs ss
  | .step c nm => 0 ≤ c ∧ c < cl ∧ nm ∈ ns
  | .breaks c nm n => 0 ≤ c ∧ c < cl ∧ nm ∈ ns ∧ n ≤ 3
theorem tO_ss (ss : List Str) : tO (ssD ss) = true := tO_strs ss
theorem tO_ca : ∀ c : Ca, tO (caD c) = true
  | .act nm d => by show (true && (true && (tO (ddT d) && true))) = true; rw [tO_dd]; rfl
  | .remake nm => rfl
  | .swap nm ot => rfl
  | .fetch c nm => rfl
  | .want c nm n ss => by show (true && (true && (true && (true && (tO (ssD ss) && true))))) = true; rw [tO_ss]; rfl
  | .drop c nm n => rfl
  | .make c nm n ss => by show (true && (true && (true && (true && (tO (ssD ss) && true))))) = true; rw [tO_ss]; rfl
  | .step c nm => rfl
  | .breaks c nm n => rfl
/-- things of tuples, each as it must be -/
noncomputable def RwOk (Pr : PyData → Prop) (H : Hp) (xs : List V) : Prop := ∀ x ∈ xs, ∃ d, Dv H x d ∧ tO d = true ∧ Pr d
theorem RwOk.tu {Pr : PyData → Prop} {H G : Hp} {xs : List V} (h : RwOk Pr H xs) (t : TU H G) : RwOk Pr G xs := fun x hx => let ⟨d, a, b, c⟩ := h x hx; ⟨d, a.tu t b, b, c⟩
theorem RwOk.nil {Pr : PyData → Prop} {H : Hp} : RwOk Pr H [] := fun x h => by cases h
theorem RwOk.cons {Pr : PyData → Prop} {H : Hp} {x : V} {xs : List V} {d : PyData} (hx : Dv H x d) (t : tO d = true) (p : Pr d) (h : RwOk Pr H xs) : RwOk Pr H (x :: xs) := fun y hy => by
  rcases List.mem_cons.mp hy with rfl | hy
  · exact ⟨d, hx, t, p⟩
  · exact h y hy
theorem RwOk.app {Pr : PyData → Prop} {H : Hp} {xs ys : List V} (h : RwOk Pr H xs) (k : RwOk Pr H ys) : RwOk Pr H (xs ++ ys) := fun y hy => (List.mem_append.mp hy).elim (h y) (k y)
theorem RwOk.rep {Pr : PyData → Prop} {H : Hp} {xs : List V} (n : Nat) (h : RwOk Pr H xs) : RwOk Pr H (List.replicate n xs).flatten := fun y hy => by
  obtain ⟨l, hl, hy⟩ := List.mem_flatten.mp hy
  exact h y (by rw [List.eq_of_mem_replicate hl] at hy; exact hy)
noncomputable def PrD (d : PyData) : Prop := ∃ dd, d = ddT dd ∧ OkD dd ∧ NumD dd
noncomputable def PrC (ns : List Str) (cl : Int) (d : PyData) : Prop := ∃ ca, d = caD ca ∧ OkCa ns cl ca
noncomputable def spLd : Sp := fun vs H Q _ => ∃ p : Addr, vs = [.ref p] ∧ WellAt H p ∧ ∀ x dd H', Ext p H H' → WellAt H' p → Dv H' x (ddT dd) → OkD dd → NumD dd → Q x H'
noncomputable def spLc : Sp := fun vs H Q _ => ∃ (p a : Addr) (ns : List Str) (cl : Int), vs = [.ref p, .ref a, .int cl] ∧ WellAt H p ∧ H a = some (.lst (ns.map V.str)) ∧ 1 ≤ ns.length ∧ ns.length ≤ 4 ∧ 1 ≤ cl ∧ cl ≤ 4 ∧ ∀ x ca H', Ext p H H' → WellAt H' p → Dv H' x (caD ca) → OkCa ns cl ca → Q x H'
/-- a new thing -/
structure Nu (p : Addr) (H G : Hp) : Prop where
  e : Ext p H G
  w : WellAt G p
theorem Nu.mk0 {p : Addr} {H : Hp} (w : WellAt H p) : Nu p H H := ⟨Ext.refl H, w⟩
theorem Nu.new {p : Addr} {H G : Hp} {o : HO} {b : Addr} (n : Nu p H G) (nb : G b = none) : Nu p H (upd G b o) := ⟨n.e.trans (same_ext (same_new nb)), n.w.new nb⟩
theorem Nu.ext {p : Addr} {H G J : Hp} (n : Nu p H G) (e : Ext p G J) (w : WellAt J p) : Nu p H J := ⟨n.e.trans e, w⟩
/-- a list of such things -/
structure Rws (Pr : PyData → Prop) (p : Addr) (H G : Hp) (L : Addr) (xs : List V) : Prop where
  n : Nu p H G
  h : G L = some (.lst xs)
  r : RwOk Pr G xs
  np : L ≠ p
theorem Rws.ext {Pr : PyData → Prop} {p : Addr} {H G J : Hp} {L : Addr} {xs : List V} (R : Rws Pr p H G L xs) (e : Ext p G J) (w : WellAt J p) : Rws Pr p H J L xs := ⟨R.n.ext e w, e _ _ R.np R.h, R.r.tu (TU.w R.n.w e), R.np⟩
/-- what an expression with draws tells: data -/
noncomputable def GV (p : Addr) (H : Hp) (te : TE) (σ : L2.St) (Pd : PyData → Prop) : Prop := ∀ G, Nu p H G → ∀ Q : VK, (∀ v J d, Ext p G J → WellAt J p → Dv J v d → tO d = true → Pd d → Q v J) → te σ G Q
noncomputable def GVA (p : Addr) (H : Hp) (ta : TA) (σ : L2.St) (Ps : List PyData → Prop) (n : Nat) : Prop := ∀ G, Nu p H G → ∀ Q : List V → Hp → Prop, (∀ vs J ds, Ext p G J → WellAt J p → DvA J vs ds → tOA ds = true → ds.length = n → Ps ds → Q vs J) → ta σ G Q
/-- a list of so many things -/
noncomputable def GL (p : Addr) (H : Hp) (te : TE) (σ : L2.St) (Pr : PyData → Prop) (n : Nat) : Prop := ∀ G, Nu p H G → ∀ Q : VK, (∀ L J xs, Ext p G J → Rws Pr p H J L xs → xs.length = n → Q (.ref L) J) → te σ G Q
noncomputable def GLA (p : Addr) (H : Hp) (ta : TA) (σ : L2.St) (Pr : PyData → Prop) (n : Nat) : Prop := ∀ G, Nu p H G → ∀ Q : List V → Hp → Prop, (∀ vs J, Ext p G J → WellAt J p → RwOk Pr J vs → vs.length = n → Q vs J) → ta σ G Q
section
variable {p : Addr} {H : Hp} {te tf : TE} {ta : TA} {σ : L2.St} {Pd Pd' Pr : PyData → Prop} {Ps : List PyData → Prop} {n m : Nat}
theorem gv_c {v : V} {d : PyData} (h : ∀ G, Dv G v d) (t : tO d = true) : GV p H (tC v) σ (fun x => x = d) := fun G N Q q => q v G d (Ext.refl G) N.w (h G) t rfl
theorem gv_str (z : Str) : GV p H (tC (.str z)) σ (fun x => x = .str z) := gv_c (fun _ => .str z) rfl
theorem gv_var {i : Nat} {v : V} {d : PyData} (hw : WellAt H p) (hi : σ[i]? = some (some v)) (h : Dv H v d) (t : tO d = true) : GV p H (tVar i) σ (fun x => x = d) := fun G N Q q => ⟨v, hi, q v G d (Ext.refl G) N.w (h.tu (TU.w hw N.e) t) t rfl⟩
theorem gv_mono (h : GV p H te σ Pd) (k : ∀ d, Pd d → Pd' d) : GV p H te σ Pd' := fun G N Q q => h G N Q fun v J d e w dv t pd => q v J d e w dv t (k d pd)
theorem gva_nil : GVA p H tNil σ (fun ds => ds = []) 0 := fun G N Q q => q [] G [] (Ext.refl G) N.w .nil rfl rfl rfl
theorem gva_cons (h : GV p H te σ Pd) (k : GVA p H ta σ Ps n) : GVA p H (tCons te ta) σ (fun ds => ∃ d r, ds = d :: r ∧ Pd d ∧ Ps r) (n + 1) := fun G N Q q =>
  h G N _ fun v J d e w dv t pd => k J (N.ext e w) _ fun vs J2 ds e2 w2 da t2 hl ps => q (v :: vs) J2 (d :: ds) (e.trans e2) w2 (.cons (dv.tu (TU.w w e2) t) da) (by show (tO d && tOA ds) = true; rw [t, t2]; rfl) (by rw [List.length_cons, hl]) ⟨d, ds, rfl, pd, ps⟩
theorem gv_tup (h : GVA p H ta σ Ps n) (hl : n ≤ 1000) : GV p H (tTup ta) σ (fun d => ∃ ds, d = .tuple ds ∧ Ps ds) := fun G N Q q =>
  h G N _ fun vs J ds e w da t hn ps => ⟨Nat.le_trans (by rw [da.len, hn]; exact hl) (by decide), fun b nb => q _ _ (.tuple ds) (e.trans (same_ext (same_new nb))) (w.new nb) (.tup upd_same (da.same (same_new nb))) t ⟨ds, rfl, ps⟩⟩
theorem gla_nil : GLA p H tNil σ Pr 0 := fun G N Q q => q [] G (Ext.refl G) N.w .nil rfl
theorem gla_cons (h : GV p H te σ Pr) (k : GLA p H ta σ Pr n) : GLA p H (tCons te ta) σ Pr (n + 1) := fun G N Q q =>
  h G N _ fun v J d e w dv t pd => k J (N.ext e w) _ fun vs J2 e2 w2 r hl => q (v :: vs) J2 (e.trans e2) w2 (RwOk.cons (dv.tu (TU.w w e2) t) t pd r) (by rw [List.length_cons, hl])
theorem gl_lst (h : GLA p H ta σ Pr n) (hn : n ≤ 1000) : GL p H (tLst ta) σ Pr n := fun G N Q q =>
  h G N _ fun vs J e w r hl => ⟨Nat.le_trans (by rw [hl]; exact hn) (by decide), fun L nL => q L _ vs (e.trans (same_ext (same_new nL))) ⟨(N.ext e w).new nL, upd_same, r.tu (TU.same (same_new nL)), w.ne nL⟩ hl⟩
theorem gl_rep {k : Nat} (h : GL p H te σ Pr n) (hl : n * k ≤ 1000) (hk : k ≤ 1000) : GL p H (tOp rRep te (tC (.int (k : Int)))) σ Pr (n * k) := fun G N Q q =>
  h G N _ fun L J xs e R hx => ⟨L, k, xs, rfl, rfl, R.h, by omega, by omega, Nat.le_trans (by rw [Int.toNat_natCast, hx]; exact hl) (by decide), by
    rw [Int.toNat_natCast]
    exact fun M nM => q M _ _ (e.trans (same_ext (same_new nM))) ⟨R.n.new nM, upd_same, (R.r.rep k).tu (TU.same (same_new nM)), R.n.w.ne nM⟩ (by simp [hx, Nat.mul_comm])⟩
theorem gl_cat (h : GL p H te σ Pr n) (k : GL p H tf σ Pr m) (hl : n + m ≤ 1000) : GL p H (tOp rCat te tf) σ Pr (n + m) := fun G N Q q =>
  h G N _ fun L J xs e R hx => k J R.n _ fun M J2 ys e2 S hy => by
    have R2 := R.ext e2 S.n.w
    exact ⟨L, M, xs, ys, rfl, rfl, R2.h, S.h, Nat.le_trans (by rw [hx, hy]; exact hl) (by decide), fun O nO => q O _ _ ((e.trans e2).trans (same_ext (same_new nO))) ⟨S.n.new nO, upd_same, (R2.r.app S.r).tu (TU.same (same_new nO)), S.n.w.ne nO⟩ (by rw [List.length_append, hx, hy])⟩
theorem gl_catF (h : GL p H te σ Pr n) (k : GL p H tf σ Pr m) (hl : n + m ≤ 1000) {G : Hp} (N : Nu p H G) {Q : VK} (q : ∀ L J xs, Ext p G J → Rws Pr p H J L xs → xs.length = n + m → G L = none → Q (.ref L) J) : tOp rCat te tf σ G Q :=
  h G N _ fun L J xs e R hx => k J R.n _ fun M J2 ys e2 S hy => by
    have R2 := R.ext e2 S.n.w
    exact ⟨L, M, xs, ys, rfl, rfl, R2.h, S.h, Nat.le_trans (by rw [hx, hy]; exact hl) (by decide), fun O nO => q O _ _ ((e.trans e2).trans (same_ext (same_new nO))) ⟨S.n.new nO, upd_same, (R2.r.app S.r).tu (TU.same (same_new nO)), S.n.w.ne nO⟩ (by rw [List.length_append, hx, hy]) ((e.trans e2).free nO (S.n.w.ne nO))⟩
theorem gl_var {i : Nat} {L : Addr} {G0 : Hp} {xs : List V} (hi : σ[i]? = some (some (.ref L))) (R : Rws Pr p H G0 L xs) : GL p G0 (tVar i) σ Pr xs.length := fun G N Q q => ⟨_, hi, q L G xs (Ext.refl G) ⟨N, (R.ext N.e N.w).h, (R.ext N.e N.w).r, R.np⟩ rfl⟩
theorem gv_one {E : XK} (h0 : σ[0]? = some (some (.ref p))) (h : GL p H te σ Pr n) (n0 : 0 < n) (n1 : n ≤ 1000) : GV p H (tCall spOneS [] E (tCons (tVar 0) (tCons te tNil))) σ Pr := fun G N Q q =>
  ⟨_, h0, h G N _ fun L J xs e R hx => ⟨p, L, xs, rfl, R.n.w, .inl R.h, R.np, by omega, by omega, fun i x H' hi e2 w2 => by
    obtain ⟨d, h1, h2, h3⟩ := R.r x (List.mem_of_getElem? hi)
    exact q x H' d (e.trans e2) w2 (h1.tu (TU.w R.n.w e2) h2) h2 h3⟩⟩
theorem gv_draw {E : XK} {b : Int} (h0 : σ[0]? = some (some (.ref p))) (b0 : 0 < b) (b1 : b ≤ 1000) : GV p H (tCall spDraw [] E (tCons (tVar 0) (tCons (tC (.int b)) tNil))) σ (fun d => ∃ x, d = .int x ∧ 0 ≤ x ∧ x < b) := fun G N Q q =>
  ⟨_, h0, p, b, rfl, N.w, b0, by omega, fun x J x0 x1 e w => q _ J (.int x) e w (.int x) rfl ⟨x, rfl, x0, x1⟩⟩
theorem gv_drawV {E : XK} {b : Int} {i : Nat} (h0 : σ[0]? = some (some (.ref p))) (hi : σ[i]? = some (some (.int b))) (b0 : 0 < b) (b1 : b ≤ 1000) : GV p H (tCall spDraw [] E (tCons (tVar 0) (tCons (tVar i) tNil))) σ (fun d => ∃ x, d = .int x ∧ 0 ≤ x ∧ x < b) := fun G N Q q =>
  ⟨_, h0, _, hi, p, b, rfl, N.w, b0, by omega, fun x J x0 x1 e w => q _ J (.int x) e w (.int x) rfl ⟨x, rfl, x0, x1⟩⟩
theorem gv_add1 (h : GV p H te σ (fun d => ∃ x, d = .int x ∧ Pr d)) : GV p H (tOp (rI0 fun i j => V.int (i + j)) (tC (.int 1)) te) σ (fun d => ∃ x, d = .int (1 + x) ∧ Pr (.int x)) := fun G N Q q =>
  h G N _ fun v J d e w dv t ⟨x, hd, px⟩ => by
    subst hd
    cases dv
    exact ⟨1, x, rfl, rfl, q _ J _ e w (.int _) rfl ⟨x, rfl, px⟩⟩
theorem gv_ld {E : XK} (h0 : σ[0]? = some (some (.ref p))) : GV p H (tCall spLd [] E (tCons (tVar 0) tNil)) σ PrD := fun G N Q q =>
  ⟨_, h0, p, rfl, N.w, fun x dd J e w dv od nd => q x J (ddT dd) e w dv (tO_dd dd) ⟨dd, rfl, od, nd⟩⟩
theorem gv_sg {E : XK} (h0 : σ[0]? = some (some (.ref p))) : GV p H (tCall spSg [] E (tCons (tVar 0) tNil)) σ (fun d => ∃ ss, d = ssD ss ∧ OkSs ss) := fun G N Q q =>
  ⟨_, h0, p, rfl, N.w, fun sa ss J e w hs os => q _ J (ssD ss) e w (.tup hs (dv_strs ss)) (tO_ss ss) ⟨ss, rfl, os⟩⟩
end
theorem par3_go {i j l : Nat} {ta : TA} {tb : TS} {D : Ends} {σ : L2.St} {H : Hp} (h : ta σ H fun vs H1 => ∃ u v w, vs = [u, v, w] ∧ tb D (((σ.set i (some u)).set j (some v)).set l (some w)) H1) : tSeq (tPar3 i j l ta) tb D σ H := h
theorem wl_ne {p a : Addr} {H : Hp} {ns : List Str} (w : WellAt H p) (h : H a = some (.lst (ns.map V.str))) (n1 : 1 ≤ ns.length) (n4 : ns.length ≤ 4) : a ≠ p := fun e => by
  obtain ⟨c, m, t, k⟩ := w
  rw [e, k] at h
  cases ns with
  | nil => cases n1
  | cons x r => cases h
section
variable {P : Program} {w : World} {K : PySem.W.Frag} {mg : Str → Option Value} {base : Heap}
set_option maxHeartbeats 32000000 in
theorem ok_ld {f : Addr} {fd : FuncData} (T : Bk mg) (D_draw : Def P w K mg base CX0 1 "_law_draw" pDraw spDraw) (D_one : Def P w K mg base CX0 2 "_law_one" nOne1 spOneS) (D_signs : Def P w K mg base CX0 3 "_law_signs" nSg spSg) (F : Fun K "_law_deed" "_law_deed" sLd f fd) : FnOk P w K mg base CX0 4 f fd pLd spLd := by
  have nd := scLd.nd
  refine F.ok scLd (fun vs H Q E h => ?_) (fun cdv A outer s H vs Q E hr h => ?_)
  · obtain ⟨p, rfl, _⟩ := h
    rfl
  · obtain ⟨p, rfl, hw, q⟩ := h
    refine ⟨_, (pss_cons (ps_set (i := 1) nd rfl (Or.inl rfl) (pe_callTy (call_tuple_ofK (K := K) rfl) (by rfl) T.tuple PyProof.Rows.boot_tuple (pa_cons (pe_lc (own := [("_law_turn", 3)]) (g := gName 3) (tt := tYes) rfl nd (pi_range1 rfl T.range (pa_cons (pe_op op_add pe_int (pe_def D_draw (hr.mono (by decide)) rfl pass0 (pa_cons (pv 0) (pa_cons pe_int pa_nil)))) pa_nil)) (blkOk_by (own := [("_law_turn", 3)]) (N := nLd) (sc := defScope sLd) (by decide +kernel)) (fun _ _ _ _ _ => pg_name (i := 3) nd rfl (Or.inl rfl)) (fun _ _ _ _ _ => pts_nil) (fun _ _ _ _ _ => (pe_op op_add pe_int (pe_def D_draw (hr.mono (by decide)) rfl pass0 (pa_cons (pv 0) (pa_cons pe_int pa_nil)))))) pa_nil)))
 (pss_cons (ps_set (i := 2) nd rfl (Or.inl rfl) (pe_op op_cat (pe_op op_rep (pe_lst (pa_cons (pe_tup (pa_cons pe_str (pa_cons (pe_def D_draw (hr.mono (by decide)) rfl pass0 (pa_cons (pv 0) (pa_cons pe_int pa_nil))) (pa_cons (pe_def D_signs (hr.mono (by decide)) rfl pass0 (pa_cons (pv 0) pa_nil)) pa_nil)))) pa_nil)) pe_int) (pe_lst (pa_cons (pe_tup (pa_cons pe_str (pa_cons (pv 1) pa_nil))) (pa_cons (pe_tup (pa_cons pe_str (pa_cons (pv 1) (pa_cons pe_str pa_nil)))) pa_nil)))))
 (pss_cons (ps_expr (pe_bm PySem.F.plainAttrs_list PySem.F.slot_list_append PySem.F.type_list_append mt_append (pv 2) (pa_cons (pe_tup (pa_cons pe_str (pa_cons (pv 1) (pa_cons (pe_def D_one (hr.mono (by decide)) rfl pass0 (pa_cons (pv 0) (pa_cons (pe_lst (pa_cons pe_str (pa_cons pe_str pa_nil))) pa_nil))) pa_nil)))) pa_nil)))
 (pss_cons (ps_set (i := 2) nd rfl (Or.inl rfl) (pe_op op_cat (pv 2) (pe_lst (pa_cons (pe_tup (pa_cons pe_str (pa_cons (pv 1) (pa_cons pe_str pa_nil)))) (pa_cons (pe_tup (pa_cons pe_str (pa_cons (pv 1) (pa_cons (pe_def D_signs (hr.mono (by decide)) rfl pass0 (pa_cons (pv 0) pa_nil)) pa_nil)))) (pa_cons (pe_tup (pa_cons pe_str (pa_cons (pe_def D_draw (hr.mono (by decide)) rfl pass0 (pa_cons (pv 0) (pa_cons pe_int pa_nil))) pa_nil))) pa_nil))))))
 (pss_one (ps_ret (pe_def D_one (hr.mono (by decide)) rfl pass0 (pa_cons (pv 0) (pa_cons (pv 2) pa_nil))))))))), ?_⟩
    refine ⟨_, rfl, p, 2, rfl, hw, by decide, by decide, fun a0 H1 a1 a2 e1 w1 => ⟨_, _, rfl, rfl, _, rfl, by omega, by omega, fun D nD => ?_⟩⟩
    refine lc_range (lo := 0) (n := (1 + a0).toNat) (fun i G => Nu p H G ∧ ∃ ns : List Int, G D = some (.lst (ns.map V.int)) ∧ (∀ n ∈ ns, 1 ≤ n) ∧ ns.length = i) ?_ ?_ ?_
    · exact ⟨(⟨e1, w1⟩ : Nu p H H1).new nD, [], upd_same, (fun n h => by cases h), rfl⟩
    · rintro i G hi ⟨N, ns, hD, hn, hl⟩
      have Dp := w1.ne nD
      refine ⟨rfl, tyes ⟨_, rfl, p, 4, rfl, N.w, by decide, by decide, fun b G2 b0 b4 e2 w2 => ⟨_, _, rfl, rfl, _, e2 _ _ Dp hD, lt2 _ (by rw [List.length_map]; omega), ?_⟩⟩⟩
      have nDH := e1.free nD Dp
      refine ⟨⟨(N.e.trans e2).mut nDH, w2.upd Dp⟩, ns ++ [1 + b], by rw [List.map_append]; exact upd_same, fun n h => ?_, by rw [List.length_append, hl]; rfl⟩
      · rcases List.mem_append.mp h with h | h
        · exact hn n h
        · rw [List.mem_singleton.mp h]; omega
    rintro G1 ⟨N1, ns, hD, hn, hl⟩
    have l2 : ns.length ≤ 1000 := by omega
    clear w1 e1 nD
    refine ⟨D, _, rfl, .inl ⟨sq hD, fun U nU => ?_⟩⟩
    have N2 := N1.new nU (o := .tup (ns.map V.int))
    have hU : upd G1 U (.tup (ns.map V.int)) U = some (.tup (ns.map V.int)) := upd_same
    generalize upd G1 U (.tup (ns.map V.int)) = G2 at N2 hU
    have U_ : ∀ {J : Hp}, TU G2 J → Dv J (.ref U) (.tuple (ns.map PyData.int)) := fun t => .tup (t _ _ hU) (dva_ints ns)
    have hv : ∀ {σ : L2.St}, σ[1]? = some (some (.ref U)) → GV p G2 (tVar 1) σ (fun d => d = intsD ns) := fun hi => gv_var N2.w hi (.tup hU (dva_ints ns)) (tO_intsD ns)
    have nn : (∀ n ∈ ns, 1 ≤ n) ∧ ns.length ≤ 1000 := ⟨hn, l2⟩
    refine gl_catF (Pr := PrD) (gl_rep (k := 3) (gl_lst (gla_cons (gv_mono (gv_tup (gva_cons (gv_str _) (gva_cons (gv_draw rfl (by decide) (by decide)) (gva_cons (gv_sg rfl) gva_nil))) (by decide)) ?_) gla_nil) (by decide)) (by decide) (by decide))
      (gl_lst (gla_cons (gv_mono (gv_tup (gva_cons (gv_str _) (gva_cons (hv rfl) gva_nil)) (by decide)) ?_) (gla_cons (gv_mono (gv_tup (gva_cons (gv_str _) (gva_cons (hv rfl) (gva_cons (gv_str _) gva_nil))) (by decide)) ?_) gla_nil)) (by decide)) (by decide) (Nu.mk0 N2.w) fun L G3 xs e3 R3 hx fL => ?_
    · rintro _ ⟨_, rfl, _, _, rfl, rfl, _, _, rfl, ⟨b, rfl, b0, b1⟩, _, _, rfl, ⟨ss, rfl, os⟩, rfl⟩
      exact ⟨.app b ss, rfl, ⟨b0, os⟩, trivial⟩
    · rintro _ ⟨_, rfl, _, _, rfl, rfl, _, _, rfl, rfl, rfl⟩
      exact ⟨.rem ns, rfl, trivial, nn⟩
    · rintro _ ⟨_, rfl, _, _, rfl, rfl, _, _, rfl, rfl, _, _, rfl, rfl, rfl⟩
      exact ⟨.add ns "b", rfl, (show okS "b" = true by decide +kernel), nn⟩
    have N3 : Nu p G2 G3 := R3.n
    refine ⟨_, rfl, .inl ⟨rfl, _, sq R3.h⟩, ?_⟩
    refine gv_mono (Pd' := PrD) (gv_tup (gva_cons (gv_str _) (gva_cons (hv rfl) (gva_cons (gv_one (Pr := fun d => ∃ z, d = .str z ∧ okS z = true) rfl (gl_lst (gla_cons (gv_mono (gv_str "answered") ?_) (gla_cons (gv_mono (gv_str "z") ?_) gla_nil)) (by decide)) (by decide) (by decide)) gva_nil))) (by decide)) ?_ G3 N3 _ fun v G4 d e4 w4 dv t pd => ?_
    · rintro _ rfl; exact ⟨_, rfl, by decide +kernel⟩
    · rintro _ rfl; exact ⟨_, rfl, by decide +kernel⟩
    · rintro _ ⟨_, rfl, _, _, rfl, rfl, _, _, rfl, rfl, _, _, rfl, ⟨z, rfl, oz⟩, rfl⟩
      exact ⟨.add ns z, rfl, oz, nn⟩
    have R4 := R3.ext e4 w4
    refine ⟨L, xs, v, rfl, rfl, R4.h, lt1 _ (by omega), ?_⟩
    have u5 : TU G4 (upd G4 L (.lst (xs ++ [v]))) := TU.mut R4.h fun _ z => by cases z
    have N5 : Nu p G2 (upd G4 L (.lst (xs ++ [v]))) := ⟨(e3.trans e4).mut fL, w4.upd R4.np⟩
    have R5 : Rws PrD p G2 (upd G4 L (.lst (xs ++ [v]))) L (xs ++ [v]) := ⟨N5, upd_same, (R4.r.tu u5).app (RwOk.cons (dv.tu u5 t) t pd .nil), R4.np⟩
    have hx5 : (xs ++ [v]).length = 6 := by rw [List.length_append, hx]; rfl
    generalize upd G4 L (.lst (xs ++ [v])) = G5 at N5 R5
    generalize xs ++ [v] = xs5 at R5 hx5
    have e25 := N5.e
    have N6 : Nu p G5 G5 := Nu.mk0 N5.w
    have hv5 : ∀ {σ : L2.St}, σ[1]? = some (some (.ref U)) → GV p G5 (tVar 1) σ (fun d => d = intsD ns) := fun hi => gv_var N5.w hi (.tup (tup_e N2.w e25 hU) (dva_ints ns)) (tO_intsD ns)
    refine gl_cat (Pr := PrD) (gl_var rfl R5) (gl_lst (gla_cons (gv_mono (gv_tup (gva_cons (gv_str _) (gva_cons (hv5 rfl) (gva_cons (gv_str _) gva_nil))) (by decide)) ?_) (gla_cons (gv_mono (gv_tup (gva_cons (gv_str _) (gva_cons (hv5 rfl) (gva_cons (gv_sg rfl) gva_nil))) (by decide)) ?_) (gla_cons (gv_mono (gv_tup (gva_cons (gv_str _) (gva_cons (gv_draw rfl (by decide) (by decide)) gva_nil)) (by decide)) ?_) gla_nil))) (by decide)) (by omega) G5 N6 _ fun L7 G7 xs7 e7 R7 hx7 => ?_
    · rintro _ ⟨_, rfl, _, _, rfl, rfl, _, _, rfl, rfl, _, _, rfl, rfl, rfl⟩
      exact ⟨.take ns "seen", rfl, (show okS "seen" = true by decide +kernel), nn⟩
    · rintro _ ⟨_, rfl, _, _, rfl, rfl, _, _, rfl, rfl, _, _, rfl, ⟨ss, rfl, os⟩, rfl⟩
      exact ⟨.set ns ss, rfl, os, nn⟩
    · rintro _ ⟨_, rfl, _, _, rfl, rfl, _, _, rfl, ⟨m, rfl, m0, m1⟩, rfl⟩
      exact ⟨.trim m, rfl, m0, trivial⟩
    refine gv_one (Pr := PrD) rfl (gl_var rfl R7) (by omega) (by omega) G7 (Nu.mk0 R7.n.w) _ fun x G8 d e8 w8 dv8 t8 pd8 => ?_
    obtain ⟨dd, rfl, od, nd'⟩ := pd8
    exact q x dd G8 (N2.e.trans ((e25.trans e7).trans e8)) w8 dv8 od nd'
set_option maxHeartbeats 32000000 in
theorem ok_lc {f : Addr} {fd : FuncData} (T : Bk mg) (D_draw : Def P w K mg base CX0 1 "_law_draw" pDraw spDraw) (D_one : Def P w K mg base CX0 2 "_law_one" nOne1 spOneS) (D_signs : Def P w K mg base CX0 3 "_law_signs" nSg spSg) (D_deed : Def P w K mg base CX0 4 "_law_deed" pLd spLd) (F : Fun K "_law_call" "_law_call" sLc f fd) : FnOk P w K mg base CX0 5 f fd pLc spLc := by
  have nd := scLc.nd
  refine F.ok scLc (fun vs H Q E h => ?_) (fun cdv A outer s H vs Q E hr h => ?_)
  · obtain ⟨p, a, ns, cl, rfl, _⟩ := h
    rfl
  · obtain ⟨p, a, ns, cl, rfl, hw, ha, n1, n4, c1, c4, q⟩ := h
    refine ⟨_, (pss_cons (ps_par3 (i := 3) (j := 4) (l := 5) (by rfl) nd rfl rfl rfl (by decide) (by decide) (by decide) rfl rfl rfl (pa_cons (pe_def D_draw (hr.mono (by decide)) rfl pass0 (pa_cons (pv 0) (pa_cons (pv 2) pa_nil))) (pa_cons (pe_def D_one (hr.mono (by decide)) rfl pass0 (pa_cons (pv 0) (pa_cons (pv 1) pa_nil))) (pa_cons (pe_op op_add pe_int (pe_def D_draw (hr.mono (by decide)) rfl pass0 (pa_cons (pv 0) (pa_cons pe_int pa_nil)))) pa_nil))) (by rfl))
 (pss_cons (ps_set (i := 6) nd rfl (Or.inl rfl) (pe_op op_cat (pe_op op_rep (pe_lst (pa_cons (pe_tup (pa_cons pe_str (pa_cons (pv 4) (pa_cons (pe_def D_deed (hr.mono (by decide)) rfl pass0 (pa_cons (pv 0) pa_nil)) pa_nil)))) pa_nil)) pe_int) (pe_lst (pa_cons (pe_tup (pa_cons pe_str (pa_cons (pv 4) pa_nil))) (pa_cons (pe_tup (pa_cons pe_str (pa_cons (pv 4) (pa_cons (pe_def D_one (hr.mono (by decide)) rfl pass0 (pa_cons (pv 0) (pa_cons (pv 1) pa_nil))) pa_nil)))) pa_nil)))))
 (pss_cons (ps_set (i := 6) nd rfl (Or.inl rfl) (pe_op op_cat (pe_op op_cat (pv 6) (pe_op op_rep (pe_lst (pa_cons (pe_tup (pa_cons pe_str (pa_cons (pv 3) (pa_cons (pv 4) pa_nil)))) pa_nil)) pe_int)) (pe_op op_rep (pe_lst (pa_cons (pe_tup (pa_cons pe_str (pa_cons (pv 3) (pa_cons (pv 4) (pa_cons (pv 5) (pa_cons (pe_def D_signs (hr.mono (by decide)) rfl pass0 (pa_cons (pv 0) pa_nil)) pa_nil)))))) pa_nil)) pe_int)))
 (pss_cons (ps_set (i := 6) nd rfl (Or.inl rfl) (pe_op op_cat (pv 6) (pe_lst (pa_cons (pe_tup (pa_cons pe_str (pa_cons (pv 3) (pa_cons (pv 4) (pa_cons (pv 5) pa_nil))))) (pa_cons (pe_tup (pa_cons pe_str (pa_cons (pv 3) (pa_cons (pv 4) (pa_cons (pv 5) (pa_cons (pe_def D_signs (hr.mono (by decide)) rfl pass0 (pa_cons (pv 0) pa_nil)) pa_nil)))))) pa_nil)))))
 (pss_cons (ps_set (i := 6) nd rfl (Or.inl rfl) (pe_op op_cat (pv 6) (pe_op op_rep (pe_lst (pa_cons (pe_tup (pa_cons pe_str (pa_cons (pv 3) (pa_cons (pv 4) pa_nil)))) pa_nil)) pe_int)))
 (pss_one (ps_ret (pe_def D_one (hr.mono (by decide)) rfl pass0 (pa_cons (pv 0) (pa_cons (pe_op op_cat (pv 6) (pe_op op_rep (pe_lst (pa_cons (pe_tup (pa_cons pe_str (pa_cons (pv 3) (pa_cons (pv 4) (pa_cons (pe_def D_draw (hr.mono (by decide)) rfl pass0 (pa_cons (pv 0) (pa_cons pe_int pa_nil))) pa_nil))))) pa_nil)) pe_int)) pa_nil)))))))))), ?_⟩
    have ap := wl_ne hw ha n1 n4
    have Rn : Rws (fun d => ∃ z, d = .str z ∧ z ∈ ns) p H H a (ns.map V.str) := ⟨Nu.mk0 hw, ha, fun x hx => by
      obtain ⟨z, hz, rfl⟩ := List.mem_map.mp hx
      exact ⟨.str z, .str z, rfl, z, rfl, hz⟩, ap⟩
    have lm : (ns.map V.str).length = ns.length := List.length_map _
    refine par3_go ?_
    refine gva_cons (gv_drawV (i := 2) (b := cl) (by rfl) (by rfl) (by omega) (by omega)) (gva_cons (gv_one (by rfl) (gl_var (by rfl) Rn) (by omega) (by omega)) (gva_cons (gv_add1 (Pr := fun d => ∃ x, d = .int x ∧ 0 ≤ x ∧ x < 4) (gv_mono (gv_draw (b := 4) (by rfl) (by decide) (by decide)) ?_)) gva_nil)) H (Nu.mk0 hw) _ fun vs G1 ds e1 w1 dv t hl pd => ?_
    · rintro _ ⟨x, rfl, x0, x1⟩
      exact ⟨x, rfl, x, rfl, x0, x1⟩
    obtain ⟨_, _, rfl, ⟨c, rfl, c0, cc⟩, _, _, rfl, ⟨nm, rfl, hnm⟩, _, _, rfl, ⟨x, rfl, ⟨_, hx, x0, x1⟩⟩, rfl⟩ := pd
    cases hx
    cases dv with | cons h1 dr =>
    cases dr with | cons h2 dr =>
    cases dr with | cons h3 dr =>
    cases dr; cases h1; cases h2; cases h3
    refine ⟨_, _, _, rfl, ?_⟩
    have Rn1 := Rn.ext e1 w1
    have N1 : Nu p G1 G1 := Nu.mk0 w1
    have vc : ∀ {G : Hp} {σ : L2.St}, σ[3]? = some (some (.int c)) → GV p G (tVar 3) σ (fun d => d = .int c) := fun hi G' N Q' q' => ⟨_, hi, q' _ G' _ (Ext.refl _) N.w (.int c) rfl rfl⟩
    have vn : ∀ {G : Hp} {σ : L2.St}, σ[4]? = some (some (.str nm)) → GV p G (tVar 4) σ (fun d => d = .str nm) := fun hi G' N Q' q' => ⟨_, hi, q' _ G' _ (Ext.refl _) N.w (.str nm) rfl rfl⟩
    have vk : ∀ {G : Hp} {σ : L2.St}, σ[5]? = some (some (.int (1 + x))) → GV p G (tVar 5) σ (fun d => d = .int (1 + x)) := fun hi G' N Q' q' => ⟨_, hi, q' _ G' _ (Ext.refl _) N.w (.int (1 + x)) rfl rfl⟩
    have k1 : (1 : Int) ≤ 1 + x := by omega
    refine gl_cat (Pr := PrC ns cl) (gl_rep (k := 3) (gl_lst (gla_cons (gv_mono (gv_tup (gva_cons (gv_str _) (gva_cons (vn rfl) (gva_cons (gv_ld rfl) gva_nil))) (by decide)) ?_) gla_nil) (by decide)) (by decide) (by decide))
      (gl_lst (gla_cons (gv_mono (gv_tup (gva_cons (gv_str _) (gva_cons (vn rfl) gva_nil)) (by decide)) ?_) (gla_cons (gv_mono (gv_tup (gva_cons (gv_str _) (gva_cons (vn rfl) (gva_cons (gv_one rfl (gl_var rfl Rn1) (by omega) (by omega)) gva_nil))) (by decide)) ?_) gla_nil)) (by decide)) (by decide) G1 N1 _ fun L2 G2 xs2 e2 R2 hx2 => ?_
    · rintro _ ⟨_, rfl, _, _, rfl, rfl, _, _, rfl, rfl, _, _, rfl, ⟨dd, rfl, od, nd'⟩, rfl⟩
      exact ⟨.act nm dd, rfl, hnm, od, nd'⟩
    · rintro _ ⟨_, rfl, _, _, rfl, rfl, _, _, rfl, rfl, rfl⟩
      exact ⟨.remake nm, rfl, hnm⟩
    · rintro _ ⟨_, rfl, _, _, rfl, rfl, _, _, rfl, rfl, _, _, rfl, ⟨z, rfl, hz⟩, rfl⟩
      exact ⟨.swap nm z, rfl, hnm, hz⟩
    refine gl_cat (Pr := PrC ns cl) (gl_cat (gl_var rfl R2) (gl_rep (k := 3) (gl_lst (gla_cons (gv_mono (gv_tup (gva_cons (gv_str _) (gva_cons (vc rfl) (gva_cons (vn rfl) gva_nil))) (by decide)) ?_) gla_nil) (by decide)) (by decide) (by decide)) (by omega))
      (gl_rep (k := 3) (gl_lst (gla_cons (gv_mono (gv_tup (gva_cons (gv_str _) (gva_cons (vc rfl) (gva_cons (vn rfl) (gva_cons (vk rfl) (gva_cons (gv_sg rfl) gva_nil))))) (by decide)) ?_) gla_nil) (by decide)) (by decide) (by decide)) (by omega) G2 (Nu.mk0 R2.n.w) _ fun L3 G3 xs3 e3 R3 hx3 => ?_
    · rintro _ ⟨_, rfl, _, _, rfl, rfl, _, _, rfl, rfl, _, _, rfl, rfl, rfl⟩
      exact ⟨.fetch c nm, rfl, c0, cc, hnm⟩
    · rintro _ ⟨_, rfl, _, _, rfl, rfl, _, _, rfl, rfl, _, _, rfl, rfl, _, _, rfl, rfl, _, _, rfl, ⟨ss, rfl, os⟩, rfl⟩
      exact ⟨.want c nm (1 + x) ss, rfl, c0, cc, hnm, k1, os⟩
    refine gl_cat (Pr := PrC ns cl) (gl_var rfl R3) (gl_lst (gla_cons (gv_mono (gv_tup (gva_cons (gv_str _) (gva_cons (vc rfl) (gva_cons (vn rfl) (gva_cons (vk rfl) gva_nil)))) (by decide)) ?_) (gla_cons (gv_mono (gv_tup (gva_cons (gv_str _) (gva_cons (vc rfl) (gva_cons (vn rfl) (gva_cons (vk rfl) (gva_cons (gv_sg rfl) gva_nil))))) (by decide)) ?_) gla_nil)) (by decide)) (by omega) G3 (Nu.mk0 R3.n.w) _ fun L4 G4 xs4 e4 R4 hx4 => ?_
    · rintro _ ⟨_, rfl, _, _, rfl, rfl, _, _, rfl, rfl, _, _, rfl, rfl, _, _, rfl, rfl, rfl⟩
      exact ⟨.drop c nm (1 + x), rfl, c0, cc, hnm, k1⟩
    · rintro _ ⟨_, rfl, _, _, rfl, rfl, _, _, rfl, rfl, _, _, rfl, rfl, _, _, rfl, rfl, _, _, rfl, ⟨ss, rfl, os⟩, rfl⟩
      exact ⟨.make c nm (1 + x) ss, rfl, c0, cc, hnm, k1, os⟩
    refine gl_cat (Pr := PrC ns cl) (gl_var rfl R4) (gl_rep (k := 3) (gl_lst (gla_cons (gv_mono (gv_tup (gva_cons (gv_str _) (gva_cons (vc rfl) (gva_cons (vn rfl) gva_nil))) (by decide)) ?_) gla_nil) (by decide)) (by decide) (by decide)) (by omega) G4 (Nu.mk0 R4.n.w) _ fun L5 G5 xs5 e5 R5 hx5 => ?_
    · rintro _ ⟨_, rfl, _, _, rfl, rfl, _, _, rfl, rfl, _, _, rfl, rfl, rfl⟩
      exact ⟨.step c nm, rfl, c0, cc, hnm⟩
    refine gv_one (Pr := PrC ns cl) rfl (gl_cat (gl_var rfl R5) (gl_rep (k := 2) (gl_lst (gla_cons (gv_mono (gv_tup (gva_cons (gv_str _) (gva_cons (vc rfl) (gva_cons (vn rfl) (gva_cons (gv_draw rfl (by decide) (by decide)) gva_nil)))) (by decide)) ?_) gla_nil) (by decide)) (by decide) (by decide)) (by omega)) (by omega) (by omega) G5 (Nu.mk0 R5.n.w) _ fun y G6 d e6 w6 dv6 t6 pd6 => ?_
    · rintro _ ⟨_, rfl, _, _, rfl, rfl, _, _, rfl, rfl, _, _, rfl, rfl, _, _, rfl, ⟨m, rfl, m0, m1⟩, rfl⟩
      exact ⟨.breaks c nm m.toNat, by show _ = PyData.tuple [.str "breaks", .int c, .str nm, .int (m.toNat : Int)]; rw [Int.toNat_of_nonneg m0], c0, cc, hnm, by omega⟩
    obtain ⟨ca, rfl, oc⟩ := pd6
    exact q y ca G6 (e1.trans (e2.trans (e3.trans (e4.trans (e5.trans e6))))) w6 dv6 oc
end
theorem hd_s {H : Hp} {xs : List V} {s : Str} {ds : List PyData} (h : DvA H xs (.str s :: ds)) : ∃ ys, xs = .str s :: ys ∧ DvA H ys ds := by
  cases h with | cons h1 h => cases h1; exact ⟨_, rfl, h⟩
theorem hd_i {H : Hp} {xs : List V} {s : Int} {ds : List PyData} (h : DvA H xs (.int s :: ds)) : ∃ ys, xs = .int s :: ys ∧ DvA H ys ds := by
  cases h with | cons h1 h => cases h1; exact ⟨_, rfl, h⟩
theorem hd_1 {H : Hp} {xs : List V} {d : PyData} (h : DvA H xs [d]) : ∃ x, xs = [x] ∧ Dv H x d := by
  cases h with | cons h1 h => cases h; exact ⟨_, rfl, h1⟩
theorem hd_0 {H : Hp} {xs : List V} (h : DvA H xs []) : xs = [] := by cases h; rfl
theorem t3sis {H : Hp} {a : Addr} {s : Str} {i : Int} {n : Str} (h : Dv H (.ref a) (.tuple [.str s, .int i, .str n])) : H a = some (.tup [.str s, .int i, .str n]) := by
  have ⟨_, ha, h⟩ := h.tups
  have ⟨_, e1, h⟩ := hd_s h
  have ⟨_, e2, h⟩ := hd_i h
  have ⟨_, e3, h⟩ := hd_s h
  rw [ha, e1, e2, e3, hd_0 h]
theorem t4sisi {H : Hp} {a : Addr} {s : Str} {i : Int} {n : Str} {m : Int} (h : Dv H (.ref a) (.tuple [.str s, .int i, .str n, .int m])) : H a = some (.tup [.str s, .int i, .str n, .int m]) := by
  have ⟨_, ha, h⟩ := h.tups
  have ⟨_, e1, h⟩ := hd_s h
  have ⟨_, e2, h⟩ := hd_i h
  have ⟨_, e3, h⟩ := hd_s h
  have ⟨_, e4, h⟩ := hd_i h
  rw [ha, e1, e2, e3, e4, hd_0 h]
theorem t5sisid {H : Hp} {a : Addr} {s : Str} {i : Int} {n : Str} {m : Int} {d : PyData} (h : Dv H (.ref a) (.tuple [.str s, .int i, .str n, .int m, d])) : ∃ x, H a = some (.tup [.str s, .int i, .str n, .int m, x]) ∧ Dv H x d := by
  have ⟨_, ha, h⟩ := h.tups
  have ⟨_, e1, h⟩ := hd_s h
  have ⟨_, e2, h⟩ := hd_i h
  have ⟨_, e3, h⟩ := hd_s h
  have ⟨_, e4, h⟩ := hd_i h
  have ⟨x, e5, h⟩ := hd_1 h
  exact ⟨x, by rw [ha, e1, e2, e3, e4, e5], h⟩
theorem t2ss {H : Hp} {a : Addr} {s n : Str} (h : Dv H (.ref a) (.tuple [.str s, .str n])) : H a = some (.tup [.str s, .str n]) := by
  have ⟨_, ha, h⟩ := h.tups
  have ⟨_, e1, h⟩ := hd_s h
  have ⟨_, e2, h⟩ := hd_s h
  rw [ha, e1, e2, hd_0 h]
theorem t3sss {H : Hp} {a : Addr} {s n m : Str} (h : Dv H (.ref a) (.tuple [.str s, .str n, .str m])) : H a = some (.tup [.str s, .str n, .str m]) := by
  have ⟨_, ha, h⟩ := h.tups
  have ⟨_, e1, h⟩ := hd_s h
  have ⟨_, e2, h⟩ := hd_s h
  have ⟨_, e3, h⟩ := hd_s h
  rw [ha, e1, e2, e3, hd_0 h]
theorem t3ssd {H : Hp} {a : Addr} {s n : Str} {d : PyData} (h : Dv H (.ref a) (.tuple [.str s, .str n, d])) : ∃ x, H a = some (.tup [.str s, .str n, x]) ∧ Dv H x d := by
  have ⟨_, ha, h⟩ := h.tups
  have ⟨_, e1, h⟩ := hd_s h
  have ⟨_, e2, h⟩ := hd_s h
  have ⟨x, e3, h⟩ := hd_1 h
  exact ⟨x, by rw [ha, e1, e2, e3], h⟩
theorem a1s {H : Hp} {xs : List V} {s : Str} (h : DvA H xs [.str s]) : xs = [.str s] := by
  have ⟨_, e1, h⟩ := hd_s h
  rw [e1, hd_0 h]
theorem a2is {H : Hp} {xs : List V} {i : Int} {s : Str} (h : DvA H xs [.int i, .str s]) : xs = [.int i, .str s] := by
  have ⟨_, e1, h⟩ := hd_i h
  rw [e1, a1s h]
theorem a2ss {H : Hp} {xs : List V} {i : Str} {s : Str} (h : DvA H xs [.str i, .str s]) : xs = [.str i, .str s] := by
  have ⟨_, e1, h⟩ := hd_s h
  rw [e1, a1s h]
theorem a2sd {H : Hp} {xs : List V} {s : Str} {d : PyData} (h : DvA H xs [.str s, d]) : ∃ x, xs = [.str s, x] ∧ Dv H x d := by
  have ⟨_, e1, h⟩ := hd_s h
  have ⟨x, e2, h⟩ := hd_1 h
  exact ⟨x, by rw [e1, e2], h⟩
theorem a4isid {H : Hp} {xs : List V} {i : Int} {s : Str} {n : Int} {d : PyData} (h : DvA H xs [.int i, .str s, .int n, d]) : ∃ x, xs = [.int i, .str s, .int n, x] ∧ Dv H x d := by
  have ⟨_, e1, h⟩ := hd_i h
  have ⟨_, e2, h⟩ := hd_s h
  have ⟨_, e3, h⟩ := hd_i h
  have ⟨x, e4, h⟩ := hd_1 h
  exact ⟨x, by rw [e1, e2, e3, e4], h⟩
noncomputable def wordC : Ca → Str
  | .act _ _ => "act"
  | .remake _ => "remake"
  | .swap _ _ => "swap"
  | .fetch _ _ => "fetch"
  | .want _ _ _ _ => "want"
  | .drop _ _ _ => "drop"
  | .make _ _ _ _ => "make"
  | .step _ _ => "step"
  | .breaks _ _ _ => "breaks"
theorem t1s {H : Hp} {a : Addr} {s : Str} {ds : List PyData} (h : Dv H (.ref a) (.tuple (.str s :: ds))) : ∃ xs, H a = some (.tup (.str s :: xs)) := by
  have ⟨_, ha, h⟩ := h.tups
  have ⟨xs, e1, _⟩ := hd_s h
  exact ⟨xs, by rw [ha, e1]⟩
theorem ca_word {H : Hp} {a : Addr} : ∀ {ca : Ca}, Dv H (.ref a) (caD ca) → ∃ xs, H a = some (.tup (.str (wordC ca) :: xs))
  | .act _ _, h => t1s h
  | .remake _, h => t1s h
  | .swap _ _, h => t1s h
  | .fetch _ _, h => t1s h
  | .want _ _ _ _, h => t1s h
  | .drop _ _ _, h => t1s h
  | .make _ _ _ _, h => t1s h
  | .step _ _, h => t1s h
  | .breaks _ _ _, h => t1s h
end K1
set_option Elab.async false
set_option linter.all false
set_option maxRecDepth 100000
set_option maxHeartbeats 1000000
/-! What a call does to a world; how much it can grow: the mathematics. -/
namespace K1
open PySem PySem.Spec PyProof.Rows L2 RZ StX
noncomputable def no : PyData := .str "refused"
noncomputable def onC (W : Wd) (k : Int × Str) (g : Cp → PyData × Wd) : PyData × Wd := match lkA W.cs k with
  | none => (no, W)
  | some c => g c
noncomputable def putC (W : Wd) (k : Int × Str) (c : Cp) : Wd := { W with cs := ptA W.cs k c }
noncomputable def putF (W : Wd) (n : Str) (F : Fo) : Wd := { W with fs := ptA W.fs n F }
noncomputable def goC (W : Wd) : Ca → PyData × Wd
  | .act nm d => match lkA W.fs nm with
    | none => (no, W)
    | some F => if canB F d then (.none, putF W nm (does d F)) else (no, W)
  | .remake nm => (.none, { W with fs := ptA W.fs nm (fNew W.nx), nx := W.nx + 1 })
  | .swap nm ot => if ot = nm then (no, W) else match lkA W.fs nm, lkA W.fs ot with
    | some F, some G => (.none, { W with fs := ptA (ptA W.fs nm G) ot F })
    | _, _ => (no, W)
  | .fetch c nm => match lkA W.fs nm with
    | none => (no, W)
    | some F => (.none, putC W (c, nm) (cpF F))
  | .want c nm n ss => onC W (c, nm) fun k => if n ∈ k.ls.map (·.n) then (.none, putC W (c, nm) (cpW k n (some ss))) else (no, W)
  | .drop c nm n => onC W (c, nm) fun k => if n ∈ k.ls.map (·.n) then (.none, putC W (c, nm) (cpW k n none)) else (no, W)
  | .make c nm n ss => onC W (c, nm) fun k => (.none, putC W (c, nm) (cpM k n ss))
  | .step c nm => onC W (c, nm) fun k => match lkA W.fs nm with
    | none => (no, W)
    | some F => (stepD k F, { W with fs := ptA W.fs nm (stepM k F), cs := ptA W.cs (c, nm) (cpF (stepM k F)) })
  | .breaks c nm n => onC W (c, nm) fun k => match lkA W.fs nm with
    | none => (no, W)
    | some F => if (sentM k F).length < n then (no, W) else (.none, putF W nm (doesL ((sentM k F).take n) F))
theorem tO_go (W : Wd) : ∀ ca : Ca, tO (goC W ca).1 = true := by
  intro ca
  have hn : tO no = true := rfl
  cases ca with
  | act nm d => simp only [goC]; split; exact hn; split <;> rfl
  | remake nm => rfl
  | swap nm ot => simp only [goC]; split; exact hn; split <;> rfl
  | fetch c nm => simp only [goC]; split <;> rfl
  | want c nm n ss => simp only [goC, onC]; split; exact hn; split <;> rfl
  | drop c nm n => simp only [goC, onC]; split; exact hn; split <;> rfl
  | make c nm n ss => simp only [goC, onC]; split; exact hn; rfl
  | step c nm => simp only [goC, onC]; split; exact hn; split; exact hn; exact tO_step _ _
  | breaks c nm n => simp only [goC, onC]; split; exact hn; split; exact hn; split <;> rfl
/-! ### wishes -/
noncomputable def wsh (l : CL) : Bool := decide (l.w ≠ some l.s)
noncomputable def wish (c : Cp) : Nat := (c.ls.filter wsh).length + c.md.length
theorem chg1_0 {F : Fo} {l : CL} (h : wsh l = false) : chg1 F l = [] := by
  have h : l.w = some l.s := by
    unfold wsh at h; simpa using h
  unfold chg1
  rw [h]
  split
  · rename_i e; rw [← Option.some.inj e]; exact chgD_same _ _ _
  · rfl
theorem rem1_0 {F : Fo} {l : CL} (h : wsh l = false) : rem1 F l = [] := by
  have h : l.w = some l.s := by
    unfold wsh at h; simpa using h
  unfold rem1
  rw [h]
  split
  · rename_i e; cases e
  · rfl
theorem chg_sum {F : Fo} : ∀ {ls : List CL}, (∀ l ∈ ls, OkCL l) → (ls.flatMap (chg1 F)).length ≤ 12 * (ls.filter wsh).length
  | [], _ => Nat.zero_le _
  | l :: r, h => by
    have ih := chg_sum (F := F) (ls := r) fun x hx => h x (List.mem_cons_of_mem _ hx)
    rw [List.flatMap_cons, List.length_append, List.filter_cons]
    cases e : wsh l with
    | false => rw [chg1_0 e]; simpa using ih
    | true =>
      have := chg1_len12 (F := F) (h l List.mem_cons_self)
      simp only [if_true, List.length_cons]
      omega
theorem rem_sum {F : Fo} : ∀ {ls : List CL}, (ls.flatMap (rem1 F)).length ≤ (ls.filter wsh).length
  | [] => Nat.zero_le _
  | l :: r => by
    have ih := rem_sum (F := F) (ls := r)
    rw [List.flatMap_cons, List.length_append, List.filter_cons]
    cases e : wsh l with
    | false => rw [rem1_0 e]; simpa using ih
    | true =>
      have := rem1_len (F := F) (l := l)
      simp only [if_true, List.length_cons]
      omega
theorem sent_wish {c : Cp} {F : Fo} (o : OkCp c) : (sentM c F).length ≤ 13 * wish c := by
  unfold sentM wish
  rw [List.length_append]
  have h1 := chg_sum (F := F) o.ls.ok
  have h2 := rem_sum (F := F) (ls := c.ls)
  have h3 : (madeD c).length = c.md.length := List.length_map _
  split
  · rw [List.length_append]; omega
  · rw [List.length_nil]; omega
theorem wish_cpF (F : Fo) : wish (cpF F) = 0 := by
  unfold wish cpF
  rw [List.filter_eq_nil_iff.mpr]
  · rfl
  intro l hl
  obtain ⟨x, _, rfl⟩ := List.mem_map.mp hl
  show ¬ (wsh (clF x) = true)
  unfold wsh clF
  simp
theorem wish_cpM (c : Cp) (b : Int) (ss : List Str) : wish (cpM c b ss) = wish c + 1 := by
  unfold wish cpM
  rw [List.length_append]; rfl
theorem fil_id {n : Int} {w : Option (List Str)} : ∀ {ls : List CL}, n ∉ ls.map (·.n) → ls.map (setW n w) = ls
  | [], _ => rfl
  | l :: r, h => by
    rw [List.map_cons, List.mem_cons, not_or] at h
    rw [List.map_cons, fil_id h.2]
    congr 1
    unfold setW
    rw [if_neg (fun e => h.1 e.symm)]
theorem fil_W {n : Int} {w : Option (List Str)} : ∀ {ls : List CL}, (ls.map (·.n)).Nodup → ((ls.map (setW n w)).filter wsh).length ≤ (ls.filter wsh).length + 1
  | [], _ => Nat.zero_le _
  | l :: r, h => by
    rw [List.map_cons, List.nodup_cons] at h
    rw [List.map_cons, List.filter_cons, List.filter_cons]
    by_cases e : l.n = n
    · have := fil_id (n := n) (w := w) (ls := r) (by rw [← e]; exact h.1)
      rw [this]
      split <;> split <;> (try simp only [List.length_cons]) <;> omega
    · have ih := fil_W (n := n) (w := w) h.2
      have es : setW n w l = l := by unfold setW; rw [if_neg e]
      rw [es]
      split <;> (try simp only [List.length_cons]) <;> omega
theorem wish_cpW {c : Cp} (o : OkCp c) (n : Int) (w : Option (List Str)) : wish (cpW c n w) ≤ wish c + 1 := by
  have := fil_W (n := n) (w := w) (ls := c.ls) (o.ls.up.imp fun {a b} h => Int.ne_of_lt h)
  unfold wish cpW
  show ((c.ls.map (setW n w)).filter wsh).length + c.md.length ≤ _
  omega
noncomputable def phi (cs : CpL) : Nat := (cs.map fun x => wish x.2).sum
theorem phi_new {cs : CpL} {k : Int × Str} {c : Cp} (h : lkA cs k = none) : phi (ptA cs k c) = phi cs + wish c := by
  unfold phi
  rw [ptA_new h, List.map_append, List.sum_append]; simp
theorem phi_put {k : Int × Str} {c old : Cp} : ∀ {cs : CpL}, (cs.map (·.1)).Nodup → lkA cs k = some old → phi (cs.map fun x => if x.1 = k then (x.1, c) else x) + wish old = phi cs + wish c
  | [], _, h => by cases h
  | x :: r, nd, h => by
    rw [List.map_cons, List.nodup_cons] at nd
    by_cases e : x.1 = k
    · rw [lkA_pos e] at h
      have h := Option.some.inj h
      have er : (r.map fun x => if x.1 = k then (x.1, c) else x) = r := by
        have : ∀ y ∈ r, (if y.1 = k then (y.1, c) else y) = y := fun y hy => if_neg fun z => nd.1 (by rw [e, ← z]; exact List.mem_map.mpr ⟨y, hy, rfl⟩)
        conv => rhs; rw [← List.map_id r]
        exact List.map_congr_left this
      rw [List.map_cons, if_pos e, er]
      show wish c + phi r + wish old = (wish x.2 + phi r) + wish c
      rw [h]; omega
    · rw [lkA_neg e] at h
      have ih := phi_put (c := c) nd.2 h
      rw [List.map_cons, if_neg e]
      show wish x.2 + phi (r.map _) + wish old = (wish x.2 + phi r) + wish c
      omega
theorem phi_le {k : Int × Str} {c : Cp} : ∀ {cs : CpL}, lkA cs k = some c → wish c ≤ phi cs
  | [], h => by cases h
  | x :: r, h => by
    show _ ≤ wish x.2 + phi r
    by_cases e : x.1 = k
    · rw [lkA_pos e] at h; rw [Option.some.inj h]; omega
    · rw [lkA_neg e] at h
      have := phi_le h
      omega
theorem pt_nodup {κ β : Type} [DecidableEq κ] {xs : List (κ × β)} {k : κ} {v : β} (h : (xs.map (·.1)).Nodup) : ((ptA xs k v).map (·.1)).Nodup := by
  cases e : lkA xs k with
  | some w => rw [ptA_keys e]; exact h
  | none =>
    rw [ptA_new e, List.map_append, List.nodup_append]
    refine ⟨h, by simp, fun a ha b hb => ?_⟩
    intro z
    have hb : b = k := by simpa using hb
    rw [z, hb] at ha
    obtain ⟨v, hv⟩ := lkA_keys ha
    rw [e] at hv; cases hv
/-- a good world, that has grown so much -/
structure GoodW (ns : List Str) (cl : Int) (t B : Nat) (W : Wd) : Prop where
  ks : W.fs.map (·.1) = ns
  cl : W.cl = cl
  g : ∀ x ∈ W.fs, GA B x.2
  c : ∀ x ∈ W.cs, OkCp x.2
  nd : (W.cs.map (·.1)).Nodup
  l : W.cs.length ≤ t
  b : B + 13 * phi W.cs ≤ 20 * t
  nx : 1 ≤ W.nx
theorem w4d : ∀ d : Dd, W4D d
  | .app _ _ => trivial
  | .add _ _ => trivial
  | .take _ _ => trivial
  | .set _ _ => trivial
  | .rem _ => trivial
  | .trim _ => trivial
section
variable {ns : List Str} {cl : Int} {t B : Nat} {W : Wd}
theorem GoodW.get (h : GoodW ns cl t B W) {nm : Str} (hn : nm ∈ ns) : ∃ F, lkA W.fs nm = some F ∧ GA B F := by
  rw [← h.ks] at hn
  obtain ⟨F, hF⟩ := lkA_keys hn
  exact ⟨F, hF, h.g _ (lkA_mem hF)⟩
theorem GoodW.cp (h : GoodW ns cl t B W) {k : Int × Str} {c : Cp} (e : lkA W.cs k = some c) : OkCp c := h.c _ (lkA_mem e)
theorem GoodW.up (h : GoodW ns cl t B W) : GoodW ns cl (t + 1) B W := ⟨h.ks, h.cl, h.g, h.c, h.nd, by have := h.l; omega, by have := h.b; omega, h.nx⟩
theorem GoodW.fput (h : GoodW ns cl t B W) {B' : Nat} {nm : Str} {F F' : Fo} (hF : lkA W.fs nm = some F) (g : GA B' F') (hB : B ≤ B') (b : B' ≤ B + 20) : GoodW ns cl (t + 1) B' (putF W nm F') :=
  ⟨by show (ptA W.fs nm F').map (·.1) = ns; rw [ptA_keys hF]; exact h.ks, h.cl, fun x hx => by
    rcases ptA_mem hx with rfl | hx
    · exact g
    · exact (h.g x hx).mono hB, h.c, h.nd, by have := h.l; show W.cs.length ≤ _; omega, by have := h.b; show B' + 13 * phi W.cs ≤ _; omega, h.nx⟩
theorem GoodW.cput (h : GoodW ns cl t B W) {k : Int × Str} {c : Cp} (o : OkCp c) (hp : phi (ptA W.cs k c) ≤ phi W.cs + 1) : GoodW ns cl (t + 1) B (putC W k c) :=
  ⟨h.ks, h.cl, h.g, fun x hx => by
    rcases ptA_mem hx with rfl | hx
    · exact o
    · exact h.c x hx, pt_nodup h.nd, by have := h.l; have := ptA_len (xs := W.cs) (k := k) (v := c); show (ptA W.cs k c).length ≤ _; omega, by have := h.b; show B + 13 * phi (ptA W.cs k c) ≤ _; omega, h.nx⟩
theorem phi_up (h : GoodW ns cl t B W) {k : Int × Str} {c c' : Cp} (e : lkA W.cs k = some c) (hw : wish c' ≤ wish c + 1) : phi (ptA W.cs k c') ≤ phi W.cs + 1 := by
  rw [ptA_there e]
  have := phi_put (c := c') h.nd e
  omega
theorem good_go (h : GoodW ns cl t B W) (ht : t ≤ 40) {ca : Ca} (o : OkCa ns cl ca) : ∃ B', GoodW ns cl (t + 1) B' (goC W ca).2 := by
  have hb := h.b
  cases ca with
  | act nm d =>
    obtain ⟨hn, od, _⟩ := o
    obtain ⟨F, hF, g⟩ := h.get hn
    simp only [goC]
    rw [hF]
    dsimp only
    split
    · exact ⟨B + 1, h.fput hF (ga_does (by omega) g od (w4d d)) (by omega) (by omega)⟩
    · exact ⟨B, h.up⟩
  | remake nm =>
    obtain ⟨F, hF, g⟩ := h.get (show nm ∈ ns from o)
    have := h.fput (F' := fNew W.nx) hF ((ga_new h.nx).mono (Nat.zero_le B)) (Nat.le_refl _) (by omega)
    exact ⟨B, ⟨this.ks, this.cl, this.g, this.c, this.nd, this.l, this.b, by show 1 ≤ W.nx + 1; have := h.nx; omega⟩⟩
  | swap nm ot =>
    obtain ⟨h1, h2⟩ := o
    obtain ⟨F, hF, g⟩ := h.get h1
    obtain ⟨G, hG, g2⟩ := h.get h2
    simp only [goC]
    split
    · exact ⟨B, h.up⟩
    rw [hF, hG]
    dsimp only
    have a := h.fput (F' := G) hF g2 (Nat.le_refl _) (by omega)
    have hG' : ∃ G', lkA (ptA W.fs nm G) ot = some G' := lkA_keys (by rw [ptA_keys hF, h.ks]; exact h2)
    obtain ⟨G', hG'⟩ := hG'
    refine ⟨B, ⟨?_, a.cl, fun x hx => ?_, a.c, a.nd, a.l, a.b, a.nx⟩⟩
    · show (ptA (ptA W.fs nm G) ot F).map (·.1) = ns
      rw [ptA_keys hG', ptA_keys hF]; exact h.ks
    · rcases ptA_mem hx with rfl | hx
      · exact g
      · exact a.g x hx
  | fetch c nm =>
    obtain ⟨_, _, hn⟩ := o
    obtain ⟨F, hF, g⟩ := h.get hn
    simp only [goC]
    rw [hF]
    refine ⟨B, h.cput (okCp_F (by omega) g) ?_⟩
    cases e : lkA W.cs (c, nm) with
    | none => rw [phi_new e, wish_cpF]; omega
    | some old =>
      rw [ptA_there e]
      have := phi_put (c := cpF F) h.nd e
      rw [wish_cpF] at this
      omega
  | want c nm n ss =>
    obtain ⟨_, _, hn, n1, os⟩ := o
    simp only [goC, onC]
    cases e : lkA W.cs (c, nm) with
    | none => exact ⟨B, h.up⟩
    | some k =>
      dsimp only
      split
      · exact ⟨B, h.cput (okCp_W (h.cp e) fun z hz => by rw [← Option.some.inj hz]; exact os) (phi_up h e (wish_cpW (h.cp e) _ _))⟩
      · exact ⟨B, h.up⟩
  | drop c nm n =>
    simp only [goC, onC]
    cases e : lkA W.cs (c, nm) with
    | none => exact ⟨B, h.up⟩
    | some k =>
      dsimp only
      split
      · exact ⟨B, h.cput (okCp_W (h.cp e) fun z hz => by cases hz) (phi_up h e (wish_cpW (h.cp e) _ _))⟩
      · exact ⟨B, h.up⟩
  | make c nm n ss =>
    obtain ⟨_, _, hn, n1, os⟩ := o
    simp only [goC, onC]
    cases e : lkA W.cs (c, nm) with
    | none => exact ⟨B, h.up⟩
    | some k =>
      have hl := phi_le e
      have hm : k.md.length ≤ wish k := Nat.le_add_left _ _
      exact ⟨B, h.cput (okCp_M (h.cp e) (by omega) os (by omega)) (phi_up h e (by rw [wish_cpM]; exact Nat.le_refl _))⟩
  | step c nm =>
    obtain ⟨_, _, hn⟩ := o
    obtain ⟨F, hF, g⟩ := h.get hn
    simp only [goC, onC]
    cases e : lkA W.cs (c, nm) with
    | none => exact ⟨B, h.up⟩
    | some k =>
      dsimp only
      rw [hF]
      have hl := phi_le e
      have sl := sent_wish (F := F) (h.cp e)
      have g2 : GA (B + 13 * wish k) (stepM k F) := ga_stepB g (h.cp e) cw4 sl (by omega)
      have pp := phi_put (c := cpF (stepM k F)) h.nd e
      rw [wish_cpF] at pp
      refine ⟨B + 13 * wish k, ⟨by show (ptA W.fs nm _).map (·.1) = ns; rw [ptA_keys hF]; exact h.ks, h.cl, fun x hx => ?_, fun x hx => ?_, pt_nodup h.nd, ?_, ?_, h.nx⟩⟩
      · rcases ptA_mem hx with rfl | hx
        · exact g2
        · exact (h.g x hx).mono (by omega)
      · rcases ptA_mem hx with rfl | hx
        · exact okCp_F (by omega) g2
        · exact h.c x hx
      · have := h.l
        have := ptA_len (xs := W.cs) (k := (c, nm)) (v := cpF (stepM k F))
        show (ptA W.cs (c, nm) (cpF (stepM k F))).length ≤ _
        omega
      · show B + 13 * wish k + 13 * phi (ptA W.cs (c, nm) (cpF (stepM k F))) ≤ _
        rw [ptA_there e]
        omega
  | breaks c nm n =>
    obtain ⟨_, _, hn, n3⟩ := o
    obtain ⟨F, hF, g⟩ := h.get hn
    simp only [goC, onC]
    cases e : lkA W.cs (c, nm) with
    | none => exact ⟨B, h.up⟩
    | some k =>
      dsimp only
      rw [hF]
      dsimp only
      split
      · exact ⟨B, h.up⟩
      · have hl : ((sentM k F).take n).length ≤ 3 := by rw [List.length_take]; omega
        have := ga_doesL (ds := (sentM k F).take n) (by omega) g fun d hd => sent_ok (h.cp e) cw4 d (List.mem_of_mem_take hd)
        exact ⟨B + 3, h.fput hF (this.mono (by omega)) (by omega) (by omega)⟩
end
end K1
set_option Elab.async false
set_option linter.all false
set_option maxRecDepth 100000
set_option maxHeartbeats 8000000
/-! The law's own word for what the server tells. -/
namespace K1
open PySem PySem.Spec PyProof.Rows L2 RZ StX
noncomputable abbrev sHe : Stmt := st__law_hearing
noncomputable abbrev nHe : List Str := ["_law_sheet", "_law_box_so", "_law_letters", "_law_there", "_law_fresh", "_law_away", "_law_letter", "_law_row"]
noncomputable abbrev pHe : List Str := ["_law_sheet", "_law_box_so"]
theorem scHe : FnScope nHe pHe (defScope sHe) := ⟨rfl, rfl, rfl, by decide +kernel, rfl, by decide +kernel, by decide +kernel⟩
theorem sgN_mem (F : Fo) (n : Int) : (sgN F n).isSome = decide (n ∈ F.ls.map (·.n)) := by
  cases e : sgN F n with
  | some t =>
    obtain ⟨l, hl, hn, _⟩ := sgN_some e
    rw [decide_eq_true (show n ∈ F.ls.map (·.n) from List.mem_map.mpr ⟨l, hl, hn⟩)]; rfl
  | none =>
    rw [decide_eq_false]
    · rfl
    intro h
    obtain ⟨l, hl, hn⟩ := List.mem_map.mp h
    unfold sgN at e
    cases k : F.ls.find? fun l => decide (l.n = n) with
    | some y => rw [k] at e; cases e
    | none => exact (List.find?_eq_none.mp k l hl) (decide_eq_true hn)
section
variable {P : Program} {w : World} {K : PySem.W.Frag} {mg : Str → Option Value} {base : Heap} {C CC : Addr}
set_option maxHeartbeats 32000000 in
theorem ok_he {f : Addr} {fd : FuncData} (T : Bk mg) (t : ClT K mg C) (tc : CcT K mg CC) (M_age : MDef P w K mg base CX0 1 CC "age" nSelf (spCAge K CC)) (M_mark : MDef P w K mg base CX0 1 CC "mark" nSelf (spCMark K CC)) (M_letters : MDef P w K mg base CX0 1 CC "letters" nSelf (spCLet K CC))
    (N_age : MDef P w K mg base CX0 1 C "age" nSelf (spAge C)) (N_cut : MDef P w K mg base CX0 1 C "cut" nSelf (spCut C)) (N_letters : MDef P w K mg base CX0 1 C "letters" nSelf (spLetters C)) (F : Fun K "_law_hearing" "_law_hearing" sHe f fd) : FnOk P w K mg base CX0 2 f fd pHe (spTold K C CC) := by
  have nd := scHe.nd
  refine F.ok scHe (fun vs H Q E h => ?_) (fun cdv A outer s H vs Q E hr h => ?_)
  · obtain ⟨x, p, c, F, k, rfl, _⟩ := h
    rfl
  · obtain ⟨x, p, c, F, k, rfl, hc, ok, hF, ga, k9, q⟩ := h
    refine ⟨_, (pss_cons (ps_set (i := 2) nd rfl (Or.inl rfl) (pe_mdef0 N_letters t.cl (hr.mono (by decide)) pass0 (pv 1)))
 (pss_cons (ps_set (i := 3) nd rfl (Or.inr rfl) (pe_lc (own := [("_law_letter", 6)]) (g := gName 6) (tt := tYes) rfl nd (pi_listK (K := K) rfl (pv 2)) (blkOk_by (own := [("_law_letter", 6)]) (N := nHe) (sc := defScope sHe) (by decide +kernel)) (fun _ _ _ _ _ => pg_name (i := 6) nd rfl (Or.inl rfl)) (fun _ _ _ _ _ => pts_nil) (fun _ _ _ _ _ => (pe_ix (ix_tupK (K := K) rfl) (pv 6) pe_int (fun _ _ => rfl)))))
 (pss_cons (ps_if (pt_cmpR op_ne (pe_mdef0 M_age tc.cl (hr.mono (by decide)) pass0 (pv 0)) (pe_mdef0 N_age t.cl (hr.mono (by decide)) pass0 (pv 1)) (nomark _))
  (pss_one (ps_ret (pe_tup (pa_cons pe_str (pa_cons (pe_callTy (call_tuple_ofK (K := K) rfl) (by rfl) T.tuple PyProof.Rows.boot_tuple (pa_cons (pv 3) pa_nil)) (pa_cons (pe_tup pa_nil) pa_nil))))))
  pss_nil)
 (pss_cons (ps_set (i := 4) nd rfl (Or.inl rfl) (pe_callTy (call_tuple_ofK (K := K) rfl) (by rfl) T.tuple PyProof.Rows.boot_tuple (pa_cons (pe_lc (own := [("_law_letter", 6)]) (g := gName 6) rfl nd (pi_listK (K := K) rfl (pv 2)) (blkOk_by (own := [("_law_letter", 6)]) (N := nHe) (sc := defScope sHe) (by decide +kernel)) (fun _ _ _ _ _ => pg_name (i := 6) nd rfl (Or.inl rfl)) (fun _ _ _ _ _ => pts_one (pt_cmpR op_gt (pe_ix (ix_tupK (K := K) rfl) (pv 6) pe_int (fun _ _ => rfl)) (pe_mdef0 M_mark tc.cl (hr.mono (by decide)) pass0 (pv 0)) (nomark _))) (fun _ _ _ _ _ => (pe_ix (ix_tupK (K := K) rfl) (pv 6) pe_int (fun _ _ => rfl)))) pa_nil)))
 (pss_cons (ps_set (i := 5) nd rfl (Or.inl rfl) (pe_callTy (call_tuple_ofK (K := K) rfl) (by rfl) T.tuple PyProof.Rows.boot_tuple (pa_cons (pe_lc (own := [("_law_row", 7)]) (g := gName 7) rfl nd (pi_listK (K := K) rfl (pe_mdef0 M_letters tc.cl (hr.mono (by decide)) pass0 (pv 0))) (blkOk_by (own := [("_law_row", 7)]) (N := nHe) (sc := defScope sHe) (by decide +kernel)) (fun _ _ _ _ _ => pg_name (i := 7) nd rfl (Or.inl rfl)) (fun _ _ _ _ _ => pts_one (pt_cmpR (op_notIn_seqK (K := K) rfl) (pe_ix (ix_tupK (K := K) rfl) (pv 7) pe_int (fun _ _ => rfl)) (pv 3) (by rfl))) (fun _ _ _ _ _ => (pe_ix (ix_tupK (K := K) rfl) (pv 7) pe_int (fun _ _ => rfl)))) pa_nil)))
 (pss_one (ps_ret (pe_tup (pa_cons (pe_ifExp (pt_cmpR op_lt (pe_mdef0 M_mark tc.cl (hr.mono (by decide)) pass0 (pv 0)) (pe_mdef0 N_cut t.cl (hr.mono (by decide)) pass0 (pv 1)) (nomark _)) pe_str pe_str) (pa_cons (pv 4) (pa_cons (pv 5) pa_nil))))))))))), ?_⟩
    obtain ⟨dcx, fcs, hx, nox⟩ := hc.no
    obtain ⟨dx, tl, tg, hp, _⟩ := id hF
    have lF := ga.g.wf.len
    have lc := ok.ls.len
    refine ⟨_, rfl, p, dx, _, rfl, hp, fl_no (by decide +kernel), p, F, rfl, hF, fun l1 G1 s1 nl1 hL => ?_⟩
    obtain ⟨zs, hl1, dzs⟩ := Dv.lsts hL
    have lzs := dzs.len
    rw [List.length_map] at lzs
    refine ⟨_, rfl, l1, rfl, ⟨_, sq hl1⟩, fun D nD => ?_⟩
    refine lc_sel (walk_list (K := K)) (R := fun y (l : Lt) => Dv G1 y (ltD l)) (ls := F.ls) (out := fun y (n : Int) => y = V.int n) (a2_of dzs) nD (fun G s => sq (s _ _ hl1)) (by omega) (fun l => some l.n) ?_ ?_
    · rintro y l G2 T S hy hm s3 hT hS'
      obtain ⟨ta, sa, rfl, hta, hsa⟩ := dv_lt hy
      exact ⟨rfl, tyes ⟨_, rfl, ta, _, 0, .int l.n, rfl, rfl, st (s3 _ _ hta), atI_nat (j := 0) rfl, hT _ l.n G2 (fun _ _ h => h) rfl rfl⟩⟩
    intro G2 acc0 s2 hacc0 h4
    rw [h4.vals, fm_map] at hacc0
    have s12 := s1.trans s2
    have hl2 := s2 _ _ hl1
    have dzs2 := dzs.same s2
    refine ⟨_, rfl, x, dcx, _, rfl, s12 _ _ hx, nox (by decide +kernel), x, c, rfl, hc.same s12, _, rfl, p, dx, _, rfl, s12 _ _ hp, fl_no (by decide +kernel), p, F, rfl, hF.same s12, rfl, ?_⟩
    by_cases ea : c.age = F.age
    · refine ⟨_, rfl, itbF (by show (!decide (V.int c.age = V.int F.age)) = false; rw [decide_eq_true (by rw [ea])]; rfl) ?_⟩
      refine ⟨_, rfl, l1, rfl, ⟨_, sq hl2⟩, fun L nL => ?_⟩
      refine lc_sel (walk_list (K := K)) (R := fun y (l : Lt) => Dv G2 y (ltD l)) (ls := F.ls) (out := fun y (n : Int) => y = V.int n) (a2_of dzs2) nL (fun G s => sq (s _ _ hl2)) (by omega) (fun l => if c.mr < l.m then some l.n else none) ?_ ?_
      · rintro y l G3 T S hy hm s3 hT hS'
        obtain ⟨ta, sa, rfl, hta, hsa⟩ := dv_lt hy
        have s123 := s12.trans s3
        refine ⟨rfl, _, rfl, ta, _, 3, .int l.m, rfl, rfl, st (s3 _ _ hta), atI_nat (j := 3) rfl, _, rfl, x, dcx, _, rfl, s123 _ _ hx, nox (by decide +kernel), x, c, rfl, hc.same s123, _, _, rfl, rfl, _, rfl, ?_⟩
        by_cases cm : c.mr < l.m
        · rw [decide_eq_true cm]
          exact itbT rfl ⟨_, rfl, ta, _, 0, .int l.n, rfl, rfl, st (s3 _ _ hta), atI_nat (j := 0) rfl, hT _ l.n G3 (fun _ _ h => h) (if_pos cm) rfl⟩
        · rw [decide_eq_false cm]
          exact itbF rfl (hS' G3 (fun _ _ h => h) (if_neg cm))
      intro G3 acc s3 hacc h4
      rw [h4.vals] at hacc
      refine ⟨L, _, rfl, .inl ⟨sq hacc, fun U nU => ?_⟩⟩
      have sU := same_new nU (o := .tup ((F.ls.filterMap fun l => if c.mr < l.m then some l.n else none).map V.int))
      have hU : upd G3 U (.tup ((F.ls.filterMap fun l => if c.mr < l.m then some l.n else none).map V.int)) U = _ := upd_same
      have s14 := (s12.trans s3).trans sU
      have hD := (s3.trans sU) _ _ hacc0
      generalize upd G3 U (.tup ((F.ls.filterMap fun l => if c.mr < l.m then some l.n else none).map V.int)) = G4 at hU s14 hD
      refine ⟨_, rfl, x, dcx, _, rfl, s14 _ _ hx, nox (by decide +kernel), x, c, rfl, hc.same s14, fun l2 xs2 G5 s5 nl2 hl2' dl2 => ⟨l2, rfl, ⟨_, sq hl2'⟩, fun M nM => ?_⟩⟩
      have lx2 := dl2.len
      rw [List.length_map] at lx2
      have hD5 := s5 _ _ hD
      refine lc_sel (walk_list (K := K)) (R := fun y (l : CL) => Dv G5 y (clD l)) (ls := c.ls) (out := fun y (n : Int) => y = V.int n) (a2_of dl2) nM (fun G s => sq (s _ _ hl2')) (by omega) (fun l => if (sgN F l.n).isSome then none else some l.n) ?_ ?_
      · rintro y l G6 T S hy hm s6 hT hS'
        obtain ⟨ta, sa, wv, rfl, hta, hsa, hw⟩ := dv_cl hy
        refine ⟨rfl, _, rfl, ta, _, 0, .int l.n, rfl, rfl, st (s6 _ _ hta), atI_nat (j := 0) rfl, _, rfl, D, _, rfl, .inl (sq (s6 _ _ hD5)), rfl, flat_ints _, _, rfl, ?_⟩
        show (if (!inV (V.int l.n) ((F.ls.map (·.n)).map V.int)) = true then _ else _)
        rw [inV_ints, ← sgN_mem]
        cases e3 : (sgN F l.n).isSome with
        | true => exact itbF rfl (hS' G6 (fun _ _ h => h) (by rw [e3]; rfl))
        | false => exact itbT rfl ⟨_, rfl, ta, _, 0, .int l.n, rfl, rfl, st (s6 _ _ hta), atI_nat (j := 0) rfl, hT _ l.n G6 (fun _ _ h => h) (by rw [e3]; rfl) rfl⟩
      intro G6 acc2 s6 hacc2 h6
      rw [h6.vals] at hacc2
      refine ⟨M, _, rfl, .inl ⟨sq hacc2, fun Z nZ => ?_⟩⟩
      have sZ := same_new nZ (o := .tup ((c.ls.filterMap fun l => if (sgN F l.n).isSome then none else some l.n).map V.int))
      have hZ : upd G6 Z (.tup ((c.ls.filterMap fun l => if (sgN F l.n).isSome then none else some l.n).map V.int)) Z = _ := upd_same
      have s57 := (s5.trans s6).trans sZ
      have s17 := s14.trans s57
      have hU7 := s57 _ _ hU
      generalize upd G6 Z (.tup ((c.ls.filterMap fun l => if (sgN F l.n).isSome then none else some l.n).map V.int)) = G7 at hZ s17 hU7
      refine ⟨_, rfl, x, dcx, _, rfl, s17 _ _ hx, nox (by decide +kernel), x, c, rfl, hc.same s17, _, rfl, p, dx, _, rfl, s17 _ _ hp, fl_no (by decide +kernel), p, F, rfl, hF.same s17, _, _, rfl, rfl, _, rfl, ?_⟩
      have fin : ∀ (u : Str), u = toldW c F → ∀ r, G7 r = none → Q (.ref r) (upd G7 r (.tup [.str u, .ref U, .ref Z])) := fun u eu r nr => by
        have s8 := same_new nr (o := .tup [.str u, .ref U, .ref Z])
        refine q r _ (s17.trans s8) ?_
        have e1 : toldD c F = .tuple [.str u, intsD (F.ls.filterMap fun l => if c.mr < l.m then some l.n else none), intsD (c.ls.filterMap fun l => if (sgN F l.n).isSome then none else some l.n)] := by
          show PyData.tuple [.str (toldW c F), intsD (toldF c F), intsD (toldA c F)] = _
          rw [← eu, show toldF c F = _ from if_pos ea, show toldA c F = _ from if_pos ea]
        rw [e1]
        exact .tup upd_same (.cons (.str _) (.cons (dv_intsT (s8 _ _ hU7)) (.cons (dv_intsT (s8 _ _ hZ)) .nil)))
      have ew : toldW c F = if F.ct ≤ c.mr then ("log" : Str) else "known" := by unfold toldW; rw [if_pos ea]
      by_cases cm : F.ct ≤ c.mr
      · rw [decide_eq_false (show ¬ c.mr < F.ct by omega)]
        exact itbF rfl ⟨_, rfl, _, rfl, by show 3 ≤ sizeLine; decide, fin "log" (by rw [ew, if_pos cm])⟩
      · rw [decide_eq_true (show c.mr < F.ct by omega)]
        exact itbT rfl ⟨_, rfl, _, rfl, by show 3 ≤ sizeLine; decide, fin "known" (by rw [ew, if_neg cm])⟩
    · refine ⟨_, rfl, itbT (by show (!decide (V.int c.age = V.int F.age)) = true; rw [decide_eq_false (fun e => ea (V.int.inj e))]; rfl) ?_⟩
      refine ⟨_, rfl, D, _, rfl, .inl ⟨sq hacc0, fun U nU => ?_⟩⟩
      have sU := same_new nU (o := .tup ((F.ls.map (·.n)).map V.int))
      refine ⟨Nat.zero_le _, fun Z nZ => ⟨by show 3 ≤ sizeLine; decide, fun r nr => ?_⟩⟩
      have sZ := same_new nZ (o := .tup [])
      have s4 := same_new nr (o := .tup [.str "anew", .ref U, .ref Z])
      refine q r _ ((s12.trans sU).trans (sZ.trans s4)) ?_
      have e1 : toldD c F = .tuple [.str "anew", intsD (F.ls.map (·.n)), intsD []] := by unfold toldD toldW toldF toldA; rw [if_neg ea, if_neg ea, if_neg ea]
      rw [e1]
      exact .tup upd_same (.cons (.str _) (.cons (dv_intsT ((sZ.trans s4) _ _ upd_same)) (.cons (dv_intsT (ns := []) (s4 _ _ upd_same)) .nil)))
end
end K1
set_option Elab.async false
set_option linter.all false
set_option maxRecDepth 100000
set_option maxHeartbeats 8000000
/-! The law's call on a copy, and on a world. -/
namespace K1
open PySem PySem.Spec PyProof.Rows L2 RZ StX
noncomputable abbrev sOc : Stmt := st__law_on_copy
noncomputable abbrev nOc : List Str := ["_law_world", "_law_call_here", "_law_word", "_law_some"]
noncomputable abbrev pOc : List Str := ["_law_world", "_law_call_here"]
theorem scOc : FnScope nOc pOc (defScope sOc) := ⟨rfl, rfl, rfl, by decide +kernel, rfl, by decide +kernel, by decide +kernel⟩
/-- any of these errors will do -/
noncomputable def Ref (L : List Addr) (T : List (Addr × Str)) (H : Hp) (E : XK) : Prop := ∀ C ∈ L, ∀ d H', LamX.ExtN H H' → LamX.Tabs T H' → E (.ref C) (some d) H'
theorem Ref.at {L : List Addr} {T : List (Addr × Str)} {H H1 : Hp} {E : XK} {C : Addr} {fl : Str} {v : V} (r : Ref L T H E) (h : C ∈ L) (e : LamX.ExtN H H1) (t : LamX.Tabs T H1) : ErrAt C fl v H1 E := fun d H' s _ => r C h d H' (e.trans (LamX.ExtN.of s)) (t.ext s)
noncomputable def IsC : Ca → Prop
  | .act _ _ => False
  | .remake _ => False
  | .swap _ _ => False
  | _ => True
section
variable (K : PySem.W.Frag) (C CC WC PA PT PS CB CN CV CD : Addr)
/-- a call, and what it must tell -/
noncomputable def CallAt (H : Hp) (Q : VK) (E : XK) (p D E' a : Addr) (W : Wd) (ca : Ca) (t B : Nat) (ns : List Str) (cl : Int) : Prop :=
  WAt K C CC WC H p D E' W ∧ GoodW ns cl t B W ∧ t ≤ 40 ∧ OkN ns ∧ Dv H (.ref a) (caD ca) ∧ OkCa ns cl ca ∧ LamX.Tabs (T3 PA PT PS) H ∧ (goC W ca = (no, W) → Ref [CB, CN, CV, CD] (T3 PA PT PS) H E) ∧
  ∀ v H', WNew K C CC WC PA PT PS H p D E' (goC W ca).2 H' → Dv H' v (goC W ca).1 → Q v H'
noncomputable def spOc : Sp := fun vs H Q E => ∃ (p D E' a : Addr) (W : Wd) (ca : Ca) (t B : Nat) (ns : List Str) (cl : Int), vs = [.ref p, .ref a] ∧ IsC ca ∧ CallAt K C CC WC PA PT PS CB CN CV CD H Q E p D E' a W ca t B ns cl
end
theorem np_go {σ : L2.St} {H : Hp} {Q : Option Int → Hp → Prop} (h : Q none H) : tNoPart σ H Q := h
theorem teq_no {K : PySem.W.Frag} {σ : L2.St} {H : Hp} {D : Ends} {i : Nat} {u z : Str} {ts rest : TS} (hi : σ[i]? = some (some (.str u))) (hu : PyData.strOk u = true) (hz : PyData.strOk z = true) (e : (u == z) = false) (h : rest D σ H) : tSeq (tIfS (tTest (tOp (rEqD K) (tVar i) (tC (.str z)))) ts tNext) rest D σ H := by
  refine ⟨_, hi, ?_⟩
  delta tC; dsimp only
  exact eq_str false hu e ⟨_, rfl, itbF rfl h⟩ hz
theorem teq_ret {K : PySem.W.Frag} {σ : L2.St} {H : Hp} {D : Ends} {i : Nat} {u z : Str} {te : TE} {rest : TS} (hi : σ[i]? = some (some (.str u))) (hu : PyData.strOk u = true) (e : (u == z) = true) (h : te σ H D.rt) : tSeq (tIfS (tTest (tOp (rEqD K) (tVar i) (tC (.str z)))) (tRet te) tNext) rest D σ H := by
  refine ⟨_, hi, ?_⟩
  delta tC; dsimp only
  exact eq_str true hu e ⟨_, rfl, itbT rfl h⟩ (by rw [← eq_of_beq e]; exact hu)
theorem goC_st {W : Wd} {c : Int} {nm : Str} {F : Fo} {k : Cp} (e : lkA W.cs (c, nm) = some k) (f : lkA W.fs nm = some F) : goC W (.step c nm) = (stepD k F, { W with fs := ptA W.fs nm (stepM k F), cs := ptA W.cs (c, nm) (cpF (stepM k F)) }) := by
  simp only [goC, onC]; rw [e]; dsimp only; rw [f]
theorem goC_br {W : Wd} {c : Int} {nm : Str} {F : Fo} {k : Cp} {n : Nat} (e : lkA W.cs (c, nm) = some k) (f : lkA W.fs nm = some F) : goC W (.breaks c nm n) = if (sentM k F).length < n then (no, W) else (.none, putF W nm (doesL ((sentM k F).take n) F)) := by
  simp only [goC, onC]; rw [e]; dsimp only; rw [f]
theorem goC_wa {W : Wd} {c n : Int} {nm : Str} {k : Cp} {ss : List Str} (e : lkA W.cs (c, nm) = some k) : goC W (.want c nm n ss) = if n ∈ k.ls.map (·.n) then (.none, putC W (c, nm) (cpW k n (some ss))) else (no, W) := by
  simp only [goC, onC]; rw [e]
theorem goC_dr {W : Wd} {c n : Int} {nm : Str} {k : Cp} (e : lkA W.cs (c, nm) = some k) : goC W (.drop c nm n) = if n ∈ k.ls.map (·.n) then (.none, putC W (c, nm) (cpW k n none)) else (no, W) := by
  simp only [goC, onC]; rw [e]
theorem goC_mk {W : Wd} {c n : Int} {nm : Str} {k : Cp} {ss : List Str} (e : lkA W.cs (c, nm) = some k) : goC W (.make c nm n ss) = (.none, putC W (c, nm) (cpM k n ss)) := by
  simp only [goC, onC]; rw [e]
theorem goC_fe {W : Wd} {c : Int} {nm : Str} {F : Fo} (f : lkA W.fs nm = some F) : goC W (.fetch c nm) = (.none, putC W (c, nm) (cpF F)) := by
  simp only [goC]; rw [f]
theorem onC_no {W : Wd} {k : Int × Str} {g : Cp → PyData × Wd} (e : lkA W.cs k = none) : onC W k g = (no, W) := by unfold onC; rw [e]
section
variable {P : Program} {w : World} {K : PySem.W.Frag} {mg : Str → Option Value} {base : Heap} {C CC WC PA PT PS CB CN CV CD : Addr}
set_option maxHeartbeats 32000000 in
theorem ok_oc {f : Addr} {fd : FuncData} (n1 : C ≠ WC) (n2 : CC ≠ WC) (t : WcT K mg WC) (M_fe : MDef P w K mg base CX0 7 WC "fetch" nWCp (spWFe K C CC WC PA PT PS)) (M_st : MDef P w K mg base (L2.CX P w) 12 WC "step" nWCp (spWSt K C CC WC PA PT PS CB)) (M_dr : MDef P w K mg base (L2.CX P w) 8 WC "drop" nWDr (spWDr K C CC WC PA PT PS CB CN))
    (M_br : MDef P w K mg base (L2.CX P w) 13 WC "breaks" pWBr (spWBr K C CC WC PA PT PS CB CV)) (M_wa : MDef P w K mg base (L2.CX P w) 8 WC "want" nWWa (spWWa K C CC WC PA PT PS CB CN)) (M_mk : MDef P w K mg base (L2.CX P w) 8 WC "make" nWMk (spWMk K C CC WC PA PT PS CB))
    (F : Fun K "_law_on_copy" "_law_on_copy" sOc f fd) : FnOk P w K mg base (L2.CX P w) 14 f fd pOc (spOc K C CC WC PA PT PS CB CN CV CD) := by
  have nd := scOc.nd
  refine F.okX scOc (fun vs H Q E h => ?_) (fun cdv A outer s H vs Q E hr h => ?_)
  · obtain ⟨p, D, E', a, W, ca, tt, B, ns, cl, rfl, _⟩ := h
    rfl
  · obtain ⟨p, D, E', a, W, ca, tt, B, ns, cl, rfl, ic, hW, gw, t40, okn, hca, oc, hT, qe, q⟩ := h
    refine ⟨_, (pss_cons (ps_par (i := 2) (j := 3) (by rfl) nd rfl rfl (by decide) rfl rfl (pa_cons (pe_ix (ix_tupK (K := K) rfl) (pv 1) pe_int (fun _ _ => rfl)) (pa_cons (pe_slice (sl_tupAK (K := K) rfl) (pv 1) (po_some pe_int) po_none) pa_nil)) (by rfl))
 (pss_cons (ps_if (pt_cmpR (op_eqDK (K := K) rfl hr.units) (pv 2) pe_str (nomark _))
  (pss_one (ps_ret (pe_mdef M_fe t.cl (hr.mono (by decide)) pass0 (pv 0) (pa_cons (pe_ix (ix_tupK (K := K) rfl) (pv 3) pe_int (fun _ _ => rfl)) (pa_cons (pe_ix (ix_tupK (K := K) rfl) (pv 3) pe_int (fun _ _ => rfl)) pa_nil)))))
  pss_nil)
 (pss_cons (ps_if (pt_cmpR (op_eqDK (K := K) rfl hr.units) (pv 2) pe_str (nomark _))
  (pss_one (ps_ret (pe_mdef M_st t.cl (hr.mono (by decide)) (passes_call (takes_of rfl rfl rfl rfl) (fun _ _ _ _ h => h)) (pv 0) (pa_cons (pe_ix (ix_tupK (K := K) rfl) (pv 3) pe_int (fun _ _ => rfl)) (pa_cons (pe_ix (ix_tupK (K := K) rfl) (pv 3) pe_int (fun _ _ => rfl)) pa_nil)))))
  pss_nil)
 (pss_cons (ps_if (pt_cmpR (op_eqDK (K := K) rfl hr.units) (pv 2) pe_str (nomark _))
  (pss_one (ps_ret (pe_mdef M_dr t.cl (hr.mono (by decide)) (passes_call (takes_of rfl rfl rfl rfl) (fun _ _ _ _ h => h)) (pv 0) (pa_cons (pe_ix (ix_tupK (K := K) rfl) (pv 3) pe_int (fun _ _ => rfl)) (pa_cons (pe_ix (ix_tupK (K := K) rfl) (pv 3) pe_int (fun _ _ => rfl)) (pa_cons (pe_ix (ix_tupK (K := K) rfl) (pv 3) pe_int (fun _ _ => rfl)) pa_nil))))))
  pss_nil)
 (pss_cons (ps_if (pt_cmpR (op_eqDK (K := K) rfl hr.units) (pv 2) pe_str (nomark _))
  (pss_one (ps_ret (pe_mdef M_br t.cl (hr.mono (by decide)) (passes_call (takes_of rfl rfl rfl rfl) (fun _ _ _ _ h => h)) (pv 0) (pa_cons (pe_ix (ix_tupK (K := K) rfl) (pv 3) pe_int (fun _ _ => rfl)) (pa_cons (pe_ix (ix_tupK (K := K) rfl) (pv 3) pe_int (fun _ _ => rfl)) (pa_cons (pe_ix (ix_tupK (K := K) rfl) (pv 3) pe_int (fun _ _ => rfl)) pa_nil))))))
  pss_nil)
 (pss_cons (ps_if (pt_cmpR (op_eqDK (K := K) rfl hr.units) (pv 2) pe_str (nomark _))
  (pss_one (ps_ret (pe_mdef M_wa t.cl (hr.mono (by decide)) (passes_call (takes_of rfl rfl rfl rfl) (fun _ _ _ _ h => h)) (pv 0) (pa_cons (pe_ix (ix_tupK (K := K) rfl) (pv 3) pe_int (fun _ _ => rfl)) (pa_cons (pe_ix (ix_tupK (K := K) rfl) (pv 3) pe_int (fun _ _ => rfl)) (pa_cons (pe_ix (ix_tupK (K := K) rfl) (pv 3) pe_int (fun _ _ => rfl)) (pa_cons (pe_ix (ix_tupK (K := K) rfl) (pv 3) pe_int (fun _ _ => rfl)) pa_nil)))))))
  pss_nil)
 (pss_one (ps_ret (pe_mdef M_mk t.cl (hr.mono (by decide)) (passes_call (takes_of rfl rfl rfl rfl) (fun _ _ _ _ h => h)) (pv 0) (pa_cons (pe_ix (ix_tupK (K := K) rfl) (pv 3) pe_int (fun _ _ => rfl)) (pa_cons (pe_ix (ix_tupK (K := K) rfl) (pv 3) pe_int (fun _ _ => rfl)) (pa_cons (pe_ix (ix_tupK (K := K) rfl) (pv 3) pe_int (fun _ _ => rfl)) (pa_cons (pe_ix (ix_tupK (K := K) rfl) (pv 3) pe_int (fun _ _ => rfl)) pa_nil))))))))))))), ?_⟩
    have lcs : W.cs.length ≤ 1000 := by have := gw.l; omega
    have lfs : W.fs.length ≤ 1000 := by
      have := congrArg List.length gw.ks
      rw [List.length_map] at this
      have := okn.l4
      omega
    have hb := gw.b
    obtain ⟨dx, hp⟩ := hW.at_
    refine seq_opq fun N hN => ?_
    cases ca with
    | act nm d => exact ic.elim
    | remake nm => exact ic.elim
    | swap nm ot => exact ic.elim
    | fetch c nm =>
      obtain ⟨c0, c1, hn⟩ := oc
      obtain ⟨F, hF, g⟩ := gw.get hn
      have ha := t3sis hca
      refine ⟨_, rfl, a, _, 0, _, rfl, rfl, st ha, atI_nat (j := 0) rfl, _, rfl, 1, rfl, ?_⟩
      refine np_go ?_
      refine slA_go ha fun b H1 s1 hb => ⟨_, _, rfl, ?_⟩
      rw [cut1] at hb
      have hW1 := hW.same n1 n2 s1
      have t1 := hT.ext s1
      have hp1 := s1 _ _ hp
      have O : OnC K C CC WC PA PT PS H1 p D E' W c nm F := ⟨hW1, lcs, c0, by rw [gw.cl]; exact c1, hF, t1⟩
      have fr : ∀ {W' : Wd} {H2 : Hp}, WNew K C CC WC PA PT PS H1 p D E' W' H2 → WNew K C CC WC PA PT PS H p D E' W' H2 := fun w2 => ⟨(FRM.en (LamX.ExtN.of s1)).trans w2.1, w2.2⟩
      rw [goC_fe hF] at q
      refine hN _ _ ?_
      clear hN N
      refine teq_ret (by rfl) (by decide +kernel) (by decide +kernel) ?_
      refine ⟨_, rfl, p, dx, _, rfl, hp1, fw_no (by decide +kernel), _, rfl, b, _, 0, _, rfl, rfl, st hb, atI_nat (j := 0) rfl, _, rfl, b, _, 1, _, rfl, rfl, st hb, atI_nat (j := 1) rfl, ?_⟩
      exact ⟨p, D, E', W, c, nm, F, B, rfl, hW1, lcs, c0, O.c1, hF, g, by omega, t1, fun H2 w2 => q .non H2 (fr w2) .non⟩
    | step c nm =>
      obtain ⟨c0, c1, hn⟩ := oc
      obtain ⟨F, hF, g⟩ := gw.get hn
      have ha := t3sis hca
      refine ⟨_, rfl, a, _, 0, _, rfl, rfl, st ha, atI_nat (j := 0) rfl, _, rfl, 1, rfl, ?_⟩
      refine np_go ?_
      refine slA_go ha fun b H1 s1 hb => ⟨_, _, rfl, ?_⟩
      rw [cut1] at hb
      have hW1 := hW.same n1 n2 s1
      have t1 := hT.ext s1
      have hp1 := s1 _ _ hp
      have O : OnC K C CC WC PA PT PS H1 p D E' W c nm F := ⟨hW1, lcs, c0, by rw [gw.cl]; exact c1, hF, t1⟩
      have fr : ∀ {W' : Wd} {H2 : Hp}, WNew K C CC WC PA PT PS H1 p D E' W' H2 → WNew K C CC WC PA PT PS H p D E' W' H2 := fun w2 => ⟨(FRM.en (LamX.ExtN.of s1)).trans w2.1, w2.2⟩
      refine hN _ _ ?_
      clear hN N
      refine teq_no (by rfl) (by decide +kernel) (by decide +kernel) (by decide +kernel) ?_
      refine teq_ret (by rfl) (by decide +kernel) (by decide +kernel) ?_
      refine ⟨_, rfl, p, dx, _, rfl, hp1, fw_no (by decide +kernel), _, rfl, b, _, 0, _, rfl, rfl, st hb, atI_nat (j := 0) rfl, _, rfl, b, _, 1, _, rfl, rfl, st hb, atI_nat (j := 1) rfl, ?_⟩
      refine ⟨p, D, E', W, c, nm, F, rfl, O, lfs, fun e => (qe (onC_no e)).at (by simp) (LamX.ExtN.of s1) t1, fun x hx => ⟨⟨B, 13 * wish x, gw.cp hx, g, sent_wish (gw.cp hx), by have := phi_le hx; omega⟩, fun r H2 w2 hd => ?_⟩⟩
      rw [goC_st hx hF] at q
      exact q (.ref r) H2 (fr w2) hd
    | drop c nm n =>
      obtain ⟨c0, c1, hn, m1⟩ := oc
      obtain ⟨F, hF, g⟩ := gw.get hn
      have ha := t4sisi hca
      refine ⟨_, rfl, a, _, 0, _, rfl, rfl, st ha, atI_nat (j := 0) rfl, _, rfl, 1, rfl, ?_⟩
      refine np_go ?_
      refine slA_go ha fun b H1 s1 hb => ⟨_, _, rfl, ?_⟩
      rw [cut1] at hb
      have hW1 := hW.same n1 n2 s1
      have t1 := hT.ext s1
      have hp1 := s1 _ _ hp
      have O : OnC K C CC WC PA PT PS H1 p D E' W c nm F := ⟨hW1, lcs, c0, by rw [gw.cl]; exact c1, hF, t1⟩
      have fr : ∀ {W' : Wd} {H2 : Hp}, WNew K C CC WC PA PT PS H1 p D E' W' H2 → WNew K C CC WC PA PT PS H p D E' W' H2 := fun w2 => ⟨(FRM.en (LamX.ExtN.of s1)).trans w2.1, w2.2⟩
      refine hN _ _ ?_
      clear hN N
      refine teq_no (by rfl) (by decide +kernel) (by decide +kernel) (by decide +kernel) ?_
      refine teq_no (by rfl) (by decide +kernel) (by decide +kernel) (by decide +kernel) ?_
      refine teq_ret (by rfl) (by decide +kernel) (by decide +kernel) ?_
      refine ⟨_, rfl, p, dx, _, rfl, hp1, fw_no (by decide +kernel), _, rfl, b, _, 0, _, rfl, rfl, st hb, atI_nat (j := 0) rfl, _, rfl, b, _, 1, _, rfl, rfl, st hb, atI_nat (j := 1) rfl, _, rfl, b, _, 2, _, rfl, rfl, st hb, atI_nat (j := 2) rfl, ?_⟩
      refine ⟨p, D, E', W, c, n, nm, F, rfl, O, m1, fun e => (qe (onC_no e)).at (by simp) (LamX.ExtN.of s1) t1, fun k hk => ⟨gw.cp hk, fun e => ?_, fun k' e H2 w2 => ?_⟩⟩
      · rw [goC_dr hk] at qe
        dsimp only at e
        split at e
        · cases e
        · rename_i hn2
          exact (qe (if_neg hn2)).at (by simp) (LamX.ExtN.of s1) t1
      · rw [goC_dr hk] at q
        dsimp only at e
        split at e
        · rename_i hn2
          cases e
          rw [if_pos hn2] at q
          exact q .non H2 (fr w2) .non
        · cases e
    | breaks c nm n =>
      obtain ⟨c0, c1, hn, m3⟩ := oc
      obtain ⟨F, hF, g⟩ := gw.get hn
      have ha := t4sisi hca
      refine ⟨_, rfl, a, _, 0, _, rfl, rfl, st ha, atI_nat (j := 0) rfl, _, rfl, 1, rfl, ?_⟩
      refine np_go ?_
      refine slA_go ha fun b H1 s1 hb => ⟨_, _, rfl, ?_⟩
      rw [cut1] at hb
      have hW1 := hW.same n1 n2 s1
      have t1 := hT.ext s1
      have hp1 := s1 _ _ hp
      have O : OnC K C CC WC PA PT PS H1 p D E' W c nm F := ⟨hW1, lcs, c0, by rw [gw.cl]; exact c1, hF, t1⟩
      have fr : ∀ {W' : Wd} {H2 : Hp}, WNew K C CC WC PA PT PS H1 p D E' W' H2 → WNew K C CC WC PA PT PS H p D E' W' H2 := fun w2 => ⟨(FRM.en (LamX.ExtN.of s1)).trans w2.1, w2.2⟩
      refine hN _ _ ?_
      clear hN N
      refine teq_no (by rfl) (by decide +kernel) (by decide +kernel) (by decide +kernel) ?_
      refine teq_no (by rfl) (by decide +kernel) (by decide +kernel) (by decide +kernel) ?_
      refine teq_no (by rfl) (by decide +kernel) (by decide +kernel) (by decide +kernel) ?_
      refine teq_ret (by rfl) (by decide +kernel) (by decide +kernel) ?_
      refine ⟨_, rfl, p, dx, _, rfl, hp1, fw_no (by decide +kernel), _, rfl, b, _, 0, _, rfl, rfl, st hb, atI_nat (j := 0) rfl, _, rfl, b, _, 1, _, rfl, rfl, st hb, atI_nat (j := 1) rfl, _, rfl, b, _, 2, _, rfl, rfl, st hb, atI_nat (j := 2) rfl, ?_⟩
      refine ⟨p, D, E', W, c, n, nm, F, rfl, O, lfs, fun e => (qe (onC_no e)).at (by simp) (LamX.ExtN.of s1) t1, fun x hx => ⟨⟨B, 13 * wish x, gw.cp hx, g, sent_wish (gw.cp hx), by have := phi_le hx; omega⟩, fun lt H2 e2 t2 => ?_, fun le H2 w2 => ?_⟩⟩
      · rw [goC_br hx hF] at qe
        exact (qe (if_pos lt)).at (by simp) ((LamX.ExtN.of s1).trans e2) t2
      · rw [goC_br hx hF, if_neg (by omega)] at q
        exact q .non H2 (fr w2) .non
    | want c nm n ss =>
      obtain ⟨c0, c1, hn, m1, os⟩ := oc
      obtain ⟨F, hF, g⟩ := gw.get hn
      obtain ⟨x5, ha, h5⟩ := t5sisid hca
      refine ⟨_, rfl, a, _, 0, _, rfl, rfl, st ha, atI_nat (j := 0) rfl, _, rfl, 1, rfl, ?_⟩
      refine np_go ?_
      refine slA_go ha fun b H1 s1 hb => ⟨_, _, rfl, ?_⟩
      rw [cut1] at hb
      have hW1 := hW.same n1 n2 s1
      have t1 := hT.ext s1
      have hp1 := s1 _ _ hp
      have O : OnC K C CC WC PA PT PS H1 p D E' W c nm F := ⟨hW1, lcs, c0, by rw [gw.cl]; exact c1, hF, t1⟩
      have fr : ∀ {W' : Wd} {H2 : Hp}, WNew K C CC WC PA PT PS H1 p D E' W' H2 → WNew K C CC WC PA PT PS H p D E' W' H2 := fun w2 => ⟨(FRM.en (LamX.ExtN.of s1)).trans w2.1, w2.2⟩
      obtain ⟨sa, rfl, hsa⟩ := dv_ss h5
      refine hN _ _ ?_
      clear hN N
      refine teq_no (by rfl) (by decide +kernel) (by decide +kernel) (by decide +kernel) ?_
      refine teq_no (by rfl) (by decide +kernel) (by decide +kernel) (by decide +kernel) ?_
      refine teq_no (by rfl) (by decide +kernel) (by decide +kernel) (by decide +kernel) ?_
      refine teq_no (by rfl) (by decide +kernel) (by decide +kernel) (by decide +kernel) ?_
      refine teq_ret (by rfl) (by decide +kernel) (by decide +kernel) ?_
      refine ⟨_, rfl, p, dx, _, rfl, hp1, fw_no (by decide +kernel), _, rfl, b, _, 0, _, rfl, rfl, st hb, atI_nat (j := 0) rfl, _, rfl, b, _, 1, _, rfl, rfl, st hb, atI_nat (j := 1) rfl, _, rfl, b, _, 2, _, rfl, rfl, st hb, atI_nat (j := 2) rfl, _, rfl, b, _, 3, _, rfl, rfl, st hb, atI_nat (j := 3) rfl, ?_⟩
      refine ⟨p, D, E', sa, W, c, n, nm, F, ss, rfl, O, m1, s1 _ _ hsa, os, fun e => (qe (onC_no e)).at (by simp) (LamX.ExtN.of s1) t1, fun k hk => ⟨gw.cp hk, fun e => ?_, fun k' e H2 w2 => ?_⟩⟩
      · rw [goC_wa hk] at qe
        dsimp only at e
        split at e
        · cases e
        · rename_i hn2
          exact (qe (if_neg hn2)).at (by simp) (LamX.ExtN.of s1) t1
      · rw [goC_wa hk] at q
        dsimp only at e
        split at e
        · rename_i hn2
          cases e
          rw [if_pos hn2] at q
          exact q .non H2 (fr w2) .non
        · cases e
    | make c nm n ss =>
      obtain ⟨c0, c1, hn, m1, os⟩ := oc
      obtain ⟨F, hF, g⟩ := gw.get hn
      obtain ⟨x5, ha, h5⟩ := t5sisid hca
      refine ⟨_, rfl, a, _, 0, _, rfl, rfl, st ha, atI_nat (j := 0) rfl, _, rfl, 1, rfl, ?_⟩
      refine np_go ?_
      refine slA_go ha fun b H1 s1 hb => ⟨_, _, rfl, ?_⟩
      rw [cut1] at hb
      have hW1 := hW.same n1 n2 s1
      have t1 := hT.ext s1
      have hp1 := s1 _ _ hp
      have O : OnC K C CC WC PA PT PS H1 p D E' W c nm F := ⟨hW1, lcs, c0, by rw [gw.cl]; exact c1, hF, t1⟩
      have fr : ∀ {W' : Wd} {H2 : Hp}, WNew K C CC WC PA PT PS H1 p D E' W' H2 → WNew K C CC WC PA PT PS H p D E' W' H2 := fun w2 => ⟨(FRM.en (LamX.ExtN.of s1)).trans w2.1, w2.2⟩
      obtain ⟨sa, rfl, hsa⟩ := dv_ss h5
      refine hN _ _ ?_
      clear hN N
      refine teq_no (by rfl) (by decide +kernel) (by decide +kernel) (by decide +kernel) ?_
      refine teq_no (by rfl) (by decide +kernel) (by decide +kernel) (by decide +kernel) ?_
      refine teq_no (by rfl) (by decide +kernel) (by decide +kernel) (by decide +kernel) ?_
      refine teq_no (by rfl) (by decide +kernel) (by decide +kernel) (by decide +kernel) ?_
      refine teq_no (by rfl) (by decide +kernel) (by decide +kernel) (by decide +kernel) ?_
      refine ⟨_, rfl, p, dx, _, rfl, hp1, fw_no (by decide +kernel), _, rfl, b, _, 0, _, rfl, rfl, st hb, atI_nat (j := 0) rfl, _, rfl, b, _, 1, _, rfl, rfl, st hb, atI_nat (j := 1) rfl, _, rfl, b, _, 2, _, rfl, rfl, st hb, atI_nat (j := 2) rfl, _, rfl, b, _, 3, _, rfl, rfl, st hb, atI_nat (j := 3) rfl, ?_⟩
      refine ⟨p, D, E', sa, W, c, n, nm, F, ss, rfl, O, by omega, s1 _ _ hsa, os, fun k hk => ?_, fun e => (qe (onC_no e)).at (by simp) (LamX.ExtN.of s1) t1, fun k hk => ⟨gw.cp hk, fun e => (by cases e), fun k' e H2 w2 => ?_⟩⟩
      · have := phi_le hk
        have : k.md.length ≤ wish k := Nat.le_add_left _ _
        omega
      · cases e
        rw [goC_mk hk] at q
        exact q .non H2 (fr w2) .non
end
end K1
set_option Elab.async false
set_option linter.all false
set_option maxRecDepth 100000
set_option maxHeartbeats 4000000
/-! try with several except clauses, each with a name or without one -/
namespace L2
open PySem PySem.Spec PyProof.Rows
noncomputable def wManyA (K : PySem.W.Frag) (Wout : WX) (D : Ends) : List (Value × Option Nat × (Addr → Value → Option Addr → TS)) → WX
  | [] => Wout
  | (c, none, ts) :: r => fun cls d σ H => ∃ b, PySem.W.exmOne K cls c = some b ∧ (b = true → ∀ a, H a = none → ts a cls d D σ H) ∧ (b = false → wManyA K Wout D r cls d σ H)
  | (c, some i, ts) :: r => fun cls d σ H => ∃ b, PySem.W.exmOne K cls c = some b ∧ (b = true → i < σ.length → ∀ a, H a = none → ts a cls d { nx := fun σ' H' => D.nx (σ'.set i none) H', rt := D.rt, bk := fun σ' H' => D.bk (σ'.set i none) H', ct := fun σ' H' => D.ct (σ'.set i none) H' } (σ.set i (some (.ref a))) H) ∧
      (b = false → wManyA K Wout D r cls d σ H)
inductive HdsA (X : Cx) : List ExceptHandler → List (Value × Option Nat × (Addr → Value → Option Addr → TS)) → Prop
  | nil : HdsA X [] []
  | plain {x : Str} {c : Value} {ts : Addr → Value → Option Addr → TS} {b₀ : Stmt} {suite : List Stmt} {np pos' : Pos} {hds : List ExceptHandler} {l : List (Value × Option Nat × (Addr → Value → Option Addr → TS))} (hc : Names X x c)
      (hsu : ∀ (a : Addr) (oe : Obj) (cls : Value) (d : Option Addr) (pn : List (Addr × Obj)), Zc cls d oe → (∃ vs, oe.data = .fields vs) → PSs (X.suite a ((a, oe) :: pn)) (b₀ :: suite) (ts a cls d)) (r : HdsA X hds l) :
      HdsA X (.ExceptHandler (some (.Name x np)) none (b₀ :: suite) pos' :: hds) ((c, none, ts) :: l)
  | named {x n : Str} {i : Nat} {c : Value} {ts : Addr → Value → Option Addr → TS} {b₀ : Stmt} {suite : List Stmt} {np pos' : Pos} {hds : List ExceptHandler} {l : List (Value × Option Nat × (Addr → Value → Option Addr → TS))} (hi : X.N[i]? = some n) (hln : X.env.kindOf n = some .local) (hc : Names X x c)
      (hsu : ∀ (a : Addr) (oe : Obj) (cls : Value) (d : Option Addr) (pn : List (Addr × Obj)), Zc cls d oe → (∃ vs, oe.data = .fields vs) → PSs (X.suite a ((a, oe) :: pn)) (b₀ :: suite) (ts a cls d)) (r : HdsA X hds l) :
      HdsA X (.ExceptHandler (some (.Name x np)) (some n) (b₀ :: suite) pos' :: hds) ((c, some i, ts) :: l)
section
variable {X : Cx} {body : List Stmt} {h₀ : ExceptHandler} {hds : List ExceptHandler} {l : List (Value × Option Nat × (Addr → Value → Option Addr → TS))} {pos : Pos} {tb : WX → TS} {Wout : WX}
theorem ps_try_manyA (hs : X.stack = X.env :: X.outer) (hf : X.env.frame = some X.env.locals) (hN : X.N.Nodup) (tk : Takes X Wout)
    (hb : ∀ (W : WX) (pn : List (Addr × Obj)) (xe : Value → Shared → Prop), Takes (X.tr pn xe) W → PassesOwn (model X.prog X.w) X.A X.env xe → PSs (X.tr pn xe) body (tb W))
    (hh : HdsA X (h₀ :: hds) l) : PS X (.Try body (h₀ :: hds) [] [] pos) (fun D σ H => tb (wManyA X.K Wout D l) D σ H) := by
  refine ⟨fun pins s σ H D I h => ?_⟩
  have ok := I.ok
  have hfr : X.A.frames = some (X.env :: X.outer) := by rw [ok.frames, hs]
  refine wpAny_Try_except ?_
  refine wpAny_mono ((hb (wManyA X.K Wout D l) (X.pn ++ pins) (fun e s₁ => wpAny (model X.prog X.w) X.A (noteFrame e X.env) (fun _ s₂ => wpAny (model X.prog X.w) X.A (setFlight e none) (fun _ s₃ =>
    wpAny (model X.prog X.w) X.A (handleBy e X.env (h₀ :: hds)) (SP X pins D) X.xe s₃) X.xe s₂) X.xe s₁) (fun u s' xx => ?_) PassesOwn.looking).run [] s σ H D (I.toTry _) h) (fun f s1 hsp => ?_) (fun e s1 he => he)
  · -- the catch
    obtain ⟨a, B, sI, pins', σ', H', cls, d, rfl, J', nb, up, sky, na, os, ag, w⟩ := xx
    have J : Inv X pins σ' H' sI := J'.ofTry ok
    have sky' : Sky B (X.env :: X.outer) a (Zc cls d) X.env.locals s'.heap := by rw [← hs]; exact sky
    show wpAny (model X.prog X.w) X.A (noteFrame (.ref a) X.env) _ _ _
    refine Sky.land Zc.steady hfr hf sky' fun h3 fl3 up3 => ?_
    have J3 : Inv X pins σ' H' { s' with heap := h3 } := J.landed nb fl3.1 (up.trans up3) os ag
    obtain ⟨oe3, vs3, he3, hz3, hd3⟩ := fl3.there
    have notFr : ∀ {h : Heap} {o : Obj} {vs : Array Value}, h.FunFrames B (X.env :: X.outer) → h.get? a = some o → o.data = .fields vs → a ∉ frs (X.env :: X.outer) := fun {h o vs} ff e dd hm => by
      obtain ⟨_, o', e', hnf⟩ := ff.mem hm
      rw [e] at e'; cases e'
      exact hnf _ dd
    have nfr := notFr fl3.2.2.1 he3 hd3
    have nL : a ≠ X.env.locals := fun z => nfr (List.mem_filterMap.mpr ⟨X.env, List.mem_cons_self, by rw [hf, z]⟩)
    have nF : a ∉ X.fs := fun hm => by
      obtain ⟨e, he, q⟩ := List.mem_filterMap.mp hm
      exact nfr (List.mem_filterMap.mpr ⟨e, List.mem_cons_of_mem _ he, q⟩)
    have S3 := J3.suite he3 hd3 na nL nF
    have LT : PySem.W.Looks (model X.prog X.w) h3 (typeOf (.ref a)) cls := fun A Q E s k q => wpAny_typeOf_ref (k _ _ he3) (by rw [hz3.1]; exact q)
    have test : ∀ {x : Str} {np : Pos} {c : Value} (hc : Names X x c) {Q : Value → Shared → Prop} {E : Value → Shared → Prop}, Q c { s' with heap := h3 } → wpAny (model X.prog X.w) (X.A.mark (some (.ref a))) (eval (.Name x np) X.env) Q E { s' with heap := h3 } := fun {x np c} hc {Q E} q => by
      obtain ⟨hg, hdbg, hm | ⟨hm, hv, hnn⟩⟩ := hc
      · exact ld_glob (X := X.suite a ((a, oe3) :: (X.pn ++ pins))) S3 hg hm q hdbg
      · exact ld_blt (X := X.suite a ((a, oe3) :: (X.pn ++ pins))) S3 hg hm hv q hnn hdbg
    have go : ∀ {hds' : List ExceptHandler} {l' : List (Value × Option Nat × (Addr → Value → Option Addr → TS))}, HdsA X hds' l' → wManyA X.K Wout D l' cls d σ' H' →
        wpAny (model X.prog X.w) X.A (handleBy (.ref a) X.env hds') (SP X pins D) X.xe { s' with heap := h3 } := by
      intro hds' l' hk
      induction hk with
      | nil =>
        intro w
        refine wpAny_handleBy_nil ?_
        obtain ⟨k1, k2, k3, oe, vs, T, oT, ts', he, hz, hd, h1, hr⟩ := id fl3
        unfold PySem.passOn
        refine wpAny_bind (wpAny_field he hd h1 ?_)
        rw [if_neg (show ¬ ((Value.ref T == Value.none) = true) from by simp)]
        have fin : wpAny (model X.prog X.w) X.A (setFlight (.ref a) X.env.frame) (fun _ s4 => wpAny (model X.prog X.w) X.A (throw (.ref a) : Sem Flow) (SP X pins D) X.xe s4) X.xe { s' with heap := h3 } := by
          rw [hf]
          refine HandSPX.setFlight_upZ fl3 fun h4 hh4 up4 => wpAny_throw (tk _ _ ?_)
          exact ⟨a, B, sI, pins, σ', H', cls, d, rfl, J, nb, (up.trans up3).trans up4, .inr (.inr (by rw [hs]; exact hh4)), na, os, ag, w⟩
        first
          | exact wpAny_bind (wpAny_pure (wpAny_bind fin))
          | exact wpAny_bind fin
      | @plain x c ts b₀ suite np pos' hds2 l2 hc hsu r ih =>
        intro w
        obtain ⟨b, hb1, hyes, hno⟩ := w
        refine wpAny_handleBy_cons (codeAny_handlers_test ?_) (by intro q; cases q)
        have LM := PySem.W.exm_one (M := model X.prog X.w) (J3.kIn) LT hb1
        refine test hc (LM.here ?_)
        cases b with
        | true =>
          refine codeAny_handlers_suite ?_
          refine HandSPX.lands_againZ fl3 fun h4 fl4 up4 => ?_
          have J4 : Inv X pins σ' H' { s' with heap := h4 } := J.landed nb fl4.1 ((up.trans up3).trans up4) os ag
          obtain ⟨oe4, vs4, he4, hz4, hd4⟩ := fl4.there
          have S4 := J4.suite he4 hd4 na nL nF
          refine wpAny_mono ((hsu a oe4 cls d (X.pn ++ pins) hz4 ⟨_, hd4⟩).run [] _ _ H' _ S4 (hyes rfl a na)) (fun f s6 hsp => ?_) (fun _ _ z => False.elim z)
          cases f with
          | next =>
            obtain ⟨σ6, H6, S6, q6⟩ := hsp
            exact ⟨_, _, S6.unsuite ok, q6⟩
          | brk =>
            obtain ⟨σ6, H6, S6, q6⟩ := hsp
            exact ⟨_, _, S6.unsuite ok, q6⟩
          | cont =>
            obtain ⟨σ6, H6, S6, q6⟩ := hsp
            exact ⟨_, _, S6.unsuite ok, q6⟩
          | ret u =>
            obtain ⟨v6, σ6, H6, S6, r6, q6⟩ := hsp
            exact ⟨_, _, _, S6.unsuite ok, r6, q6⟩
        | false =>
          show wpAny _ X.A (handleBy (.ref a) X.env hds2) _ _ _
          exact ih (hno rfl)
      | @named x n i c ts b₀ suite np pos' hds2 l2 hi hln hc hsu r ih =>
        intro w
        have hloc : Loc X.env.scope n := .inl hln
        obtain ⟨b, hb1, hyes, hno⟩ := w
        refine wpAny_handleBy_cons (codeAny_handlers_test ?_) (by intro q; cases q)
        have LM := PySem.W.exm_one (M := model X.prog X.w) (J3.kIn) LT hb1
        refine test hc (LM.here ?_)
        cases b with
        | true =>
          refine codeAny_handlers_suite_as ?_
          refine HandSPX.lands_againZ fl3 fun h4 fl4 up4 => ?_
          have J4 : Inv X pins σ' H' { s' with heap := h4 } := J.landed nb fl4.1 ((up.trans up3).trans up4) os ag
          obtain ⟨oe4, vs4, he4, hz4, hd4⟩ := fl4.there
          have S4 := J4.suite he4 hd4 na nL nF
          refine store_ok (X := X.suite a ((a, oe4) :: (X.pn ++ pins))) (v := .ref a) S4 hN hi hloc rfl (fun s5 S5 => ?_) (.inr hln)
          refine wpAny_mono ((hsu a oe4 cls d (X.pn ++ pins) hz4 ⟨_, hd4⟩).run [] s5 _ H' _ S5 (hyes rfl (by rw [J.len]; exact (List.getElem?_eq_some_iff.mp hi).1) a na)) (fun f s6 hsp => ?_) (fun _ _ z => False.elim z)
          have end_ : ∀ {σ6 : St} {H6 : Hp} {Q : Shared → Prop}, Inv (X.suite a ((a, oe4) :: (X.pn ++ pins))) [] σ6 H6 s6 → (∀ s7, Inv X pins (σ6.set i none) H6 s7 → Q s7) →
              wpAny (model X.prog X.w) X.A (do bindName X.env n .none; unbindBehindTheSuite X.env n pos') (fun _ s7 => Q s7) X.xe s6 := fun {σ6 H6 Q} S6 hq => gone_ok (S6.unsuite ok) hN hi hln hq
          cases f with
          | next =>
            obtain ⟨σ6, H6, S6, q6⟩ := hsp
            exact end_ S6 fun s7 J7 => ⟨_, _, J7, q6⟩
          | brk =>
            obtain ⟨σ6, H6, S6, q6⟩ := hsp
            exact end_ S6 fun s7 J7 => ⟨_, _, J7, q6⟩
          | cont =>
            obtain ⟨σ6, H6, S6, q6⟩ := hsp
            exact end_ S6 fun s7 J7 => ⟨_, _, J7, q6⟩
          | ret u =>
            obtain ⟨v6, σ6, H6, S6, r6, q6⟩ := hsp
            exact end_ S6 fun s7 J7 => ⟨_, _, _, J7, r6, q6⟩
        | false =>
          show wpAny _ X.A (handleBy (.ref a) X.env hds2) _ _ _
          exact ih (hno rfl)
    exact go hh w
  · cases f with
    | next =>
      obtain ⟨σ', H', J', q⟩ := hsp
      exact wpAny_execs_nil ⟨σ', H', J'.ofTry ok, q⟩
    | brk =>
      obtain ⟨σ', H', J', q⟩ := hsp
      exact ⟨σ', H', J'.ofTry ok, q⟩
    | cont =>
      obtain ⟨σ', H', J', q⟩ := hsp
      exact ⟨σ', H', J'.ofTry ok, q⟩
    | ret u =>
      obtain ⟨v, σ', H', J', r, q⟩ := hsp
      exact ⟨v, σ', H', J'.ofTry ok, r, q⟩
end
end L2
set_option Elab.async false
set_option linter.all false
set_option maxRecDepth 100000
set_option maxHeartbeats 8000000
/-! The law's call on a world, refused or not. -/
namespace K1
open PySem PySem.Spec PyProof.Rows L2 RZ StX
noncomputable abbrev sDo : Stmt := st__law_done
noncomputable abbrev nDo : List Str := ["_law_world", "_law_call_here"]
theorem scDo : FnScope nDo nDo (defScope sDo) := ⟨rfl, rfl, rfl, by decide +kernel, rfl, by decide +kernel, by decide +kernel⟩
noncomputable def ixC (K : PySem.W.Frag) (k : Int) : TE := tOp (rIxT K) (tVar 1) (tC (.int k))
noncomputable def w0 (K : PySem.W.Frag) (z : Str) : TT := tTest (tOp (rEqD K) (tOp (rIxT K) (tVar 1) (tC (.int 0))) (tC (.str z)))
section
variable {K : PySem.W.Frag} {σ : L2.St} {H : Hp} {D : Ends} {u z : Str} {ts rest : TS} {te tf : TE} {a : Addr} {xs : List V} {Q : VK}
theorem w0_go (h1 : σ[1]? = some (some (.ref a))) (ha : H a = some (.tup (.str u :: xs))) (hu : PyData.strOk u = true) (hz : PyData.strOk z = true) {R : Bool → Hp → Prop} (b : Bool) (e : (u == z) = b) (h : R b H) : w0 K z σ H R := by
  refine ⟨_, h1, a, _, 0, .str u, rfl, rfl, st ha, atI_nat (j := 0) rfl, ?_⟩
  delta tC; dsimp only
  exact eq_str b hu e ⟨b, rfl, h⟩ hz
theorem w0_no (h1 : σ[1]? = some (some (.ref a))) (ha : H a = some (.tup (.str u :: xs))) (hu : PyData.strOk u = true) (hz : PyData.strOk z = true) (e : (u == z) = false) (h : rest D σ H) : tSeq (tIfS (w0 K z) ts tNext) rest D σ H := w0_go h1 ha hu hz false e (itbF rfl h)
theorem w0_yes (h1 : σ[1]? = some (some (.ref a))) (ha : H a = some (.tup (.str u :: xs))) (hu : PyData.strOk u = true) (hz : PyData.strOk z = true) (e : (u == z) = true) (h : te σ H D.rt) : tSeq (tIfS (w0 K z) (tRet te) tNext) rest D σ H := w0_go h1 ha hu hz true e (itbT rfl h)
theorem w0_ifN (h1 : σ[1]? = some (some (.ref a))) (ha : H a = some (.tup (.str u :: xs))) (hu : PyData.strOk u = true) (hz : PyData.strOk z = true) (e : (u == z) = false) (h : tf σ H Q) : tIf (w0 K z) te tf σ H Q := w0_go h1 ha hu hz false e (itbF rfl h)
theorem w0_ifY (h1 : σ[1]? = some (some (.ref a))) (ha : H a = some (.tup (.str u :: xs))) (hu : PyData.strOk u = true) (hz : PyData.strOk z = true) (e : (u == z) = true) (h : te σ H Q) : tIf (w0 K z) te tf σ H Q := w0_go h1 ha hu hz true e (itbT rfl h)
end
section
variable (K : PySem.W.Frag) (C CC WC PA PT PS CB CN CV CD : Addr)
noncomputable def tbD (E : XK) : TS := tSeq (tIfS (w0 K "act") (tRet (tMeth WC "act" (spWAct K C CC WC PA PT PS CD) [] E (tVar 0) (tCons (ixC K 1) (tCons (ixC K 2) tNil)))) tNext)
  (tSeq (tIfS (w0 K "remake") (tRet (tMeth WC "remake" (spWRe K C CC WC PA PT PS) [] E0 (tVar 0) (tCons (ixC K 1) tNil))) tNext)
    (tRet (tIf (w0 K "swap") (tMeth WC "swap" (spWSw K C CC WC PA PT PS CV) [] E (tVar 0) (tCons (ixC K 1) (tCons (ixC K 2) tNil))) (tCall (spOc K C CC WC PA PT PS CB CN CV CD) [] E (tCons (tVar 0) (tCons (tVar 1) tNil))))))
noncomputable def spDo : Sp := fun vs H Q _ => ∃ (p D E' a : Addr) (W : Wd) (ca : Ca) (t B : Nat) (ns : List Str) (cl : Int), vs = [.ref p, .ref a] ∧ WAt K C CC WC H p D E' W ∧ GoodW ns cl t B W ∧ t ≤ 40 ∧ OkN ns ∧ Dv H (.ref a) (caD ca) ∧ OkCa ns cl ca ∧ LamX.Tabs (T3 PA PT PS) H ∧
  ∀ v H', WNew K C CC WC PA PT PS H p D E' (goC W ca).2 H' → Dv H' v (goC W ca).1 → Q v H'
end
theorem goC_ac {W : Wd} {nm : Str} {F : Fo} {d : Dd} (f : lkA W.fs nm = some F) : goC W (.act nm d) = if canB F d = true then (.none, putF W nm (does d F)) else (no, W) := by
  simp only [goC]; rw [f]
theorem goC_sw {W : Wd} {nm ot : Str} {F G : Fo} (f : lkA W.fs nm = some F) (g : lkA W.fs ot = some G) : goC W (.swap nm ot) = if ot = nm then (no, W) else (.none, { W with fs := ptA (ptA W.fs nm G) ot F }) := by
  simp only [goC]; rw [f, g]
section
variable {P : Program} {w : World} {K : PySem.W.Frag} {mg : Str → Option Value} {base : Heap} {C CC WC PA PT PS CB CN CV CD CT : Addr}
set_option maxHeartbeats 32000000 in
theorem ok_do {f : Addr} {fd : FuncData} (n1 : C ≠ WC) (n2 : CC ≠ WC) (t : WcT K mg WC) (gT : mg "TideError" = some (.ref CT)) (hx : ∀ X ∈ [CB, CN, CV, CD], PySem.W.exmOne K (.ref X) (.ref CT) = some true)
    (M_act : MDef P w K mg base (L2.CX P w) 10 WC "act" nWAct (spWAct K C CC WC PA PT PS CD)) (M_re : MDef P w K mg base CX0 5 WC "remake" nWN (spWRe K C CC WC PA PT PS)) (M_sw : MDef P w K mg base (L2.CX P w) 5 WC "swap" pWSw (spWSw K C CC WC PA PT PS CV))
    (D_oc : Def P w K mg base (L2.CX P w) 14 "_law_on_copy" pOc (spOc K C CC WC PA PT PS CB CN CV CD)) (F : Fun K "_law_done" "_law_done" sDo f fd) : FnOk P w K mg base CX0 15 f fd nDo (spDo K C CC WC PA PT PS) := by
  have nd := scDo.nd
  refine F.ok scDo (fun vs H Q E h => ?_) (fun cdv A outer s H vs Q E hr h => ?_)
  · obtain ⟨p, D, E', a, W, ca, tt, B, ns, cl, rfl, _⟩ := h
    rfl
  · obtain ⟨p, D, E', a, W, ca, tt, B, ns, cl, rfl, hW, gw, t40, okn, hca, oc, hT, q⟩ := h
    refine ⟨_, pss_one (ps_try_manyA (tb := fun W D σ H => ∃ Ech : XK, (∀ cls d σ' H', Ech cls d H' → W cls d σ' H') ∧ tbD K C CC WC PA PT PS CB CN CV CD Ech D σ H) rfl rfl nd LamX.takes0 (fun W pn xe tk _ => ?_)
      (.plain (c := .ref CT) ⟨rfl, by decide, .inl gT⟩ (fun a oe cls d pn _ _ => pss_one (ps_ret pe_str)) .nil)), ?_⟩
    · refine ⟨fun pins s' σ H' D I h' => ?_⟩
      obtain ⟨Ech, hW', h⟩ := h'
      have ps : Passes (L2.CX P w) _ Ech := passes_call tk (fun cls d σ H h => hW' cls d σ H h)
      exact (pss_cons (ps_if (pt_cmpR (op_eqDK (K := K) rfl hr.units) (pe_ix (ix_tupK (K := K) rfl) (pv 1) pe_int (fun _ _ => rfl)) pe_str (nomark _))
  (pss_one (ps_ret (pe_mdef M_act t.cl (hr.mono (by decide)) ps (pv 0) (pa_cons (pe_ix (ix_tupK (K := K) rfl) (pv 1) pe_int (fun _ _ => rfl)) (pa_cons (pe_ix (ix_tupK (K := K) rfl) (pv 1) pe_int (fun _ _ => rfl)) pa_nil)))))
  pss_nil)
 (pss_cons (ps_if (pt_cmpR (op_eqDK (K := K) rfl hr.units) (pe_ix (ix_tupK (K := K) rfl) (pv 1) pe_int (fun _ _ => rfl)) pe_str (nomark _))
  (pss_one (ps_ret (pe_mdef M_re t.cl (hr.mono (by decide)) pass0 (pv 0) (pa_cons (pe_ix (ix_tupK (K := K) rfl) (pv 1) pe_int (fun _ _ => rfl)) pa_nil))))
  pss_nil)
 (pss_one (ps_ret (pe_ifExp (pt_cmpR (op_eqDK (K := K) rfl hr.units) (pe_ix (ix_tupK (K := K) rfl) (pv 1) pe_int (fun _ _ => rfl)) pe_str (nomark _))
   (pe_mdef M_sw t.cl (hr.mono (by decide)) ps (pv 0) (pa_cons (pe_ix (ix_tupK (K := K) rfl) (pv 1) pe_int (fun _ _ => rfl)) (pa_cons (pe_ix (ix_tupK (K := K) rfl) (pv 1) pe_int (fun _ _ => rfl)) pa_nil)))
   (pe_def D_oc (hr.mono (by decide)) rfl ps (pa_cons (pv 0) (pa_cons (pv 1) pa_nil)))))))).run pins s' σ H' D I h
    · refine ⟨fun cls d H' => (∃ X ∈ [CB, CN, CV, CD], cls = .ref X) ∧ LamX.ExtN H H' ∧ LamX.Tabs (T3 PA PT PS) H' ∧ goC W ca = (no, W), fun cls d σ' H' hE => ?_, ?_⟩
      · obtain ⟨⟨X, hX, rfl⟩, e1, t1, eg⟩ := hE
        refine ⟨true, hx X hX, fun _ a na => ?_, fun z => by cases z⟩
        rw [eg] at q
        exact q (.str "refused") H' ⟨FRM.en e1, t1, hW.en n1 n2 e1⟩ (.str _)
      · have lfs : W.fs.length ≤ 1000 := by
          have := congrArg List.length gw.ks
          rw [List.length_map] at this
          have := okn.l4
          omega
        have hb := gw.b
        obtain ⟨dx, hp⟩ := hW.at_
        have rf : goC W ca = (no, W) → Ref [CB, CN, CV, CD] (T3 PA PT PS) H (fun cls d H' => (∃ X ∈ [CB, CN, CV, CD], cls = .ref X) ∧ LamX.ExtN H H' ∧ LamX.Tabs (T3 PA PT PS) H' ∧ goC W ca = (no, W)) := fun eg X hX d H' e t => ⟨⟨X, hX, rfl⟩, e, t, eg⟩
        have onc : IsC ca → ∀ {u : Str} {xs : List V}, H a = some (.tup (.str u :: xs)) → PyData.strOk u = true → (u == "act") = false → (u == "remake") = false → (u == "swap") = false →
            tbD K C CC WC PA PT PS CB CN CV CD (fun cls d H' => (∃ X ∈ [CB, CN, CV, CD], cls = .ref X) ∧ LamX.ExtN H H' ∧ LamX.Tabs (T3 PA PT PS) H' ∧ goC W ca = (no, W)) ⟨fun _ H => Q .non H, Q, fun _ _ => False, fun _ _ => False⟩ (L2.start nDo [.ref p, .ref a]) H := by
          intro ic u xs ha hu e1 e2 e3
          refine w0_no (by rfl) ha hu (by decide +kernel) e1 (w0_no (by rfl) ha hu (by decide +kernel) e2 (w0_ifN (by rfl) ha hu (by decide +kernel) e3 ?_))
          exact ⟨_, rfl, _, rfl, p, D, E', a, W, ca, tt, B, ns, cl, rfl, ic, hW, gw, t40, okn, hca, oc, hT, rf, q⟩
        cases ca with
        | act nm d =>
          obtain ⟨hn, od, nd'⟩ := oc
          obtain ⟨F, hF, g⟩ := gw.get hn
          obtain ⟨x3, ha, h3⟩ := t3ssd hca
          obtain ⟨da, rfl, hda⟩ := dd_at h3 od nd'
          refine w0_yes (by rfl) ha (by decide +kernel) (by decide +kernel) (by decide +kernel) ?_
          refine ⟨_, rfl, p, dx, _, rfl, hp, fw_no (by decide +kernel), _, rfl, a, _, 1, _, rfl, rfl, st ha, atI_nat (j := 1) rfl, _, rfl, a, _, 2, _, rfl, rfl, st ha, atI_nat (j := 2) rfl, ?_⟩
          refine ⟨p, D, E', da, W, nm, F, d, rfl, hW, lfs, hF, g.g.wf.mono (by omega), hda, hT, fun hc => (rf (by rw [goC_ac hF, if_neg (by rw [hc]; decide)])).at (by simp) (.refl _) hT, fun hc H2 w2 => ?_⟩
          rw [goC_ac hF, if_pos hc] at q
          exact q .non H2 w2 .non
        | remake nm =>
          obtain ⟨F, hF, g⟩ := gw.get (show nm ∈ ns from oc)
          have ha := t2ss hca
          refine w0_no (by rfl) ha (by decide +kernel) (by decide +kernel) (by decide +kernel) (w0_yes (by rfl) ha (by decide +kernel) (by decide +kernel) (by decide +kernel) ?_)
          refine ⟨_, rfl, p, dx, _, rfl, hp, fw_no (by decide +kernel), _, rfl, a, _, 1, _, rfl, rfl, st ha, atI_nat (j := 1) rfl, ?_⟩
          exact ⟨p, D, E', W, nm, F, rfl, hW, lfs, hF, gw.nx, hT, fun H2 w2 => q .non H2 w2 .non⟩
        | swap nm ot =>
          obtain ⟨m1, m2⟩ := oc
          obtain ⟨F, hF, g⟩ := gw.get m1
          obtain ⟨G, hG, g2⟩ := gw.get m2
          have ha := t3sss hca
          refine w0_no (by rfl) ha (by decide +kernel) (by decide +kernel) (by decide +kernel) (w0_no (by rfl) ha (by decide +kernel) (by decide +kernel) (by decide +kernel) (w0_ifY (by rfl) ha (by decide +kernel) (by decide +kernel) (by decide +kernel) ?_))
          refine ⟨_, rfl, p, dx, _, rfl, hp, fw_no (by decide +kernel), _, rfl, a, _, 1, _, rfl, rfl, st ha, atI_nat (j := 1) rfl, _, rfl, a, _, 2, _, rfl, rfl, st ha, atI_nat (j := 2) rfl, ?_⟩
          refine ⟨p, D, E', W, nm, ot, F, G, rfl, hW, lfs, strOk_of (okn.ok nm m1), strOk_of (okn.ok ot m2), hF, hG, hT, fun e => (rf (by rw [goC_sw hF hG, if_pos e])).at (by simp) (.refl _) hT, fun e H2 w2 => ?_⟩
          rw [goC_sw hF hG, if_neg e] at q
          exact q .non H2 w2 .non
        | fetch c nm => have ⟨xs, ha⟩ : ∃ xs, H a = some (.tup (.str "fetch" :: xs)) := ca_word hca; exact onc trivial (u := "fetch") ha (by decide +kernel) (by decide +kernel) (by decide +kernel) (by decide +kernel)
        | step c nm => have ⟨xs, ha⟩ : ∃ xs, H a = some (.tup (.str "step" :: xs)) := ca_word hca; exact onc trivial (u := "step") ha (by decide +kernel) (by decide +kernel) (by decide +kernel) (by decide +kernel)
        | drop c nm n => have ⟨xs, ha⟩ : ∃ xs, H a = some (.tup (.str "drop" :: xs)) := ca_word hca; exact onc trivial (u := "drop") ha (by decide +kernel) (by decide +kernel) (by decide +kernel) (by decide +kernel)
        | breaks c nm n => have ⟨xs, ha⟩ : ∃ xs, H a = some (.tup (.str "breaks" :: xs)) := ca_word hca; exact onc trivial (u := "breaks") ha (by decide +kernel) (by decide +kernel) (by decide +kernel) (by decide +kernel)
        | want c nm n ss => have ⟨xs, ha⟩ : ∃ xs, H a = some (.tup (.str "want" :: xs)) := ca_word hca; exact onc trivial (u := "want") ha (by decide +kernel) (by decide +kernel) (by decide +kernel) (by decide +kernel)
        | make c nm n ss => have ⟨xs, ha⟩ : ∃ xs, H a = some (.tup (.str "make" :: xs)) := ca_word hca; exact onc trivial (u := "make") ha (by decide +kernel) (by decide +kernel) (by decide +kernel) (by decide +kernel)
end
end K1
set_option Elab.async false
set_option linter.all false
set_option maxRecDepth 100000
set_option maxHeartbeats 8000000
/-! The law's own boxes: calls on the server. -/
namespace K1
open PySem PySem.Spec PyProof.Rows L2 RZ StX
noncomputable def spPX (C PA PT PS CD : Addr) : Sp := fun vs H Q E => ∃ (p h a : Addr) (F : Fo) (d : Dd) (n : Nat), vs = [.ref p, .ref h] ∧ FoAt C H p F ∧ Wf n F ∧ n ≤ 990 ∧ H h = some (.lst [.ref a]) ∧ DdAt H a d ∧ LamX.Tabs (T3 PA PT PS) H ∧
  (canB F d = false → ∀ H' v, LamX.ExtN H H' → LamX.Tabs (T3 PA PT PS) H' → ErrAt CD "at" v H' E) ∧ (canB F d = true → ∀ q H', LamX.ExtN H H' → LamX.Tabs (T3 PA PT PS) H' → FoAt C H' q (does d F) → Q (.ref q) H')
section
variable {P : Program} {w : World} {K : PySem.W.Frag} {mg : Str → Option Value} {base : Heap} {C CC WC PA PT PS CD fD : Addr}
set_option maxHeartbeats 16000000 in
theorem ok_px {f : Addr} {fd : FuncData} (T : Bk mg) (t : ClT K mg C) (iC : C8.InsC K C) (TD : PySem.Tide.TideTxt P K mg "BadDeed" CD fD "at") (D_can : Def P w K mg base CX0 5 "can_be_done" nCan (spCanB C)) (D_done : Def P w K mg base CX0 9 "done" pDone (spDone C PA PT PS)) (F : Fun K "played" "played" sPlayed f fd) : FnOk P w K mg base (L2.CX P w) 10 f fd pPlayed (spPX C PA PT PS CD) := by
  have nd := scPlayed.nd
  refine F.okX scPlayed (fun vs H Q E h => ?_) (fun cdv A outer s H vs Q E hr h => ?_)
  · obtain ⟨p, hh, a, F, d, n, rfl, _⟩ := h
    rfl
  · obtain ⟨p, hh, a, F, d, n, rfl, hF, hw, hn, hh1, hd, hT, qe, q⟩ := h
    refine ⟨_, pss_cons (ps_if (pt_not (pt_val (pe_callB (C8.call_isC iC) (by rfl) T.isinstance PyProof.Rows.boot_isinstance (pa_cons (pv 0) (pa_cons (pe_glob (v := .ref C) rfl t.gC rfl) pa_nil)))))
  pss_any
  pss_nil)
 (pss_cons (ps_if (pt_not (pt_val (pe_callB (call_isiTK (K := K) rfl) (by rfl) T.isinstance PyProof.Rows.boot_isinstance (pa_cons (pv 1) (pa_cons (pe_tup (pa_cons (pe_bltn (v := .ty "list") rfl T.list PyProof.Rows.boot_list rfl) (pa_cons (pe_bltn (v := .ty "tuple") rfl T.tuple PyProof.Rows.boot_tuple rfl) pa_nil))) pa_nil)))))
  pss_any
  pss_nil)
 (C8.pss_cut (ps_for (passes_of rfl) rfl (pi_enumSK (K := K) rfl (by rfl) T.enumerate (pa_cons (pv 1) pa_nil)) (pg_tup rfl (pgs_cons (pg_name (i := 2) nd rfl (Or.inl rfl)) (pgs_cons (pg_name (i := 3) nd rfl (Or.inl rfl)) pgs_nil)))
  (pss_cons (ps_if (pt_not (pt_val (pe_def D_can (hr.mono (by decide)) rfl pass0 (pa_cons (pv 0) (pa_cons (pv 3) pa_nil)))))
  (pss_one (ps_raiseTide rfl TD hr (takes_of rfl rfl rfl rfl) (pa_cons (pv 2) pa_nil)))
  pss_nil)
 (pss_one (ps_set (i := 0) nd rfl (Or.inl rfl) (pe_def D_done (hr.mono (by decide)) rfl pass0 (pa_cons (pv 0) (pa_cons (pv 3) pa_nil)))))))
 (pss_one (ps_ret (pv 0))))), ?_⟩
    obtain ⟨dx, tl, tg, hp, h1, h2⟩ := id hF
    refine ⟨_, rfl, p, dx, _, rfl, hp, _, rfl, itbF rfl ?_⟩
    refine ⟨_, rfl, (by show 2 ≤ sizeLine; decide), fun tp ntp => ?_⟩
    have s1 := same_new (o := .tup [.ty "list", .ty "tuple"]) ntp
    obtain ⟨tn, ty, kit⟩ := SeqH.tyK (K := K) (xs := [.ref a]) (.inl (s1 _ _ hh1))
    refine ⟨.ref hh, tp, [.ty "list", .ty "tuple"], .type tn, [.type "list", .type "tuple"], true, rfl, upd_same, .cons (.ty _) (.cons (.ty _) .nil), ty, kit, _, rfl, itbF rfl ?_⟩
    refine ⟨fun σ G => ∃ q' v2 v3, σ = [some (.ref q'), some (.ref hh), v2, v3] ∧ LamX.ExtN H G ∧ LamX.Tabs (T3 PA PT PS) G ∧ FoAt C G q' (does d F) ∧ canB F d = true, ?_, ?_⟩
    · refine ⟨_, rfl, hh, [.ref a], rfl, for_enumS (K := K) (H0 := fun b => if b = hh then H b else none) (a := hh) (xs := [.ref a]) (.inl (sq (by show (if hh = hh then H hh else none) = _; rw [if_pos rfl]; exact hh1))) (fun i σ G => ∃ q' v2 v3 F', σ = [some (.ref q'), some (.ref hh), v2, v3] ∧ LamX.ExtN H G ∧ LamX.Tabs (T3 PA PT PS) G ∧ FoAt C G q' F' ∧ ((i = 0 ∧ F' = F) ∨ (i = 1 ∧ F' = does d F ∧ canB F d = true))) ?_ ?_ ?_ ?_⟩
      · exact ⟨p, none, none, F, rfl, LamX.ExtN.of s1, hT.ext s1, hF.same s1, .inl ⟨rfl, rfl⟩⟩
      · rintro i σ G ⟨q', v2, v3, F', rfl, eG, _⟩ b o hb
        by_cases c : b = hh
        · subst c
          have hb : (if b = b then H b else none) = some o := hb
          rw [if_pos rfl, hh1] at hb
          cases hb; exact eG _ _ hh1 fun _ z => by cases z
        · have hb : (if b = hh then H b else none) = some o := hb
          rw [if_neg c] at hb
          cases hb
      · rintro i y σ G Tt hy ⟨q', v2, v3, F', rfl, eG, tG, hF', hi⟩ nT
        have i0 : i = 0 := by
          have := lt_of_get hy
          rcases hi with ⟨e, _⟩ | ⟨e, _⟩
          · exact e
          · subst e; simp at this
        subst i0
        obtain rfl : y = .ref a := by simpa using hy.symm
        have eF : F' = F := by
          rcases hi with ⟨_, e⟩ | ⟨e, _⟩
          · exact e
          · cases e
        subst eF
        have sT := same_new (H := G) nT (o := .tup [.int ((0 : Nat) : Int), .ref a])
        refine ⟨Tt, [.int ((0 : Nat) : Int), .ref a], rfl, st upd_same, rfl, .int ((0 : Nat) : Int), [.ref a], rfl, .ref a, [], rfl, rfl, ?_⟩
        have hd1 := (hd.ext eG).same sT
        refine ⟨_, rfl, _, rfl, q', a, F', d, rfl, hF'.same sT, hd1, fun H4 s4 => ⟨_, rfl, ?_⟩⟩
        have eG4 := (eG.trans (LamX.ExtN.of sT)).trans (LamX.ExtN.of s4)
        have tG4 := (tG.ext sT).ext s4
        cases hc : canB F' d with
        | false => exact itbT rfl ⟨_, rfl, _, rfl, (qe hc H4 _ eG4 tG4).go fun _ _ h => h⟩
        | true =>
          refine itbF rfl ?_
          refine ⟨_, rfl, _, rfl, q', a, F', d, rfl, (hF'.same sT).same s4, hw.mono (by omega), hd1.same s4, canB_iff hc, tG4, fun q2 H5 e5 t5 hF5 => ?_⟩
          exact ⟨q2, _, _, does d F', rfl, eG4.trans e5, t5, hF5, .inr ⟨rfl, rfl, rfl⟩⟩
      · rintro σ G ⟨q', v2, v3, F', rfl, eG, tG, hF', hi⟩
        rcases hi with ⟨e, _⟩ | ⟨_, rfl, hc⟩
        · cases e
        · exact ⟨q', v2, v3, rfl, eG, tG, hF', hc⟩
    · rintro σ G ⟨q', v2, v3, rfl, eG, tG, hF', hc⟩
      exact ⟨_, rfl, q hc q' G eG tG hF'⟩
end
/-! ### boxes, sheets, ages -/
structure LAt (K : PySem.W.Frag) (C CC : Addr) (H : Hp) (B S A : Addr) (W : Wd) : Prop where
  f : FD C H B W.fs
  c : CD K CC H S W.cs
  a : H A = some (.lst [.int (W.nx - 1)])
section
variable {K : PySem.W.Frag} {C CC WC PA PT PS B S A q : Addr} {H H' : Hp} {W : Wd}
theorem LAt.en (h : LAt K C CC H B S A W) (n1 : C ≠ WC) (n2 : CC ≠ WC) (s : LamX.ExtN H H') : LAt K C CC H' B S A W :=
  ⟨h.f.tj n1 (TJ.of (TI.en s)) (fun o e => by
    obtain ⟨kvs, k, _⟩ := h.f
    rw [k] at e; cases e
    exact s _ _ k fun _ z => by cases z), h.c.tj n2 (TJ.of (TI.en s)) (fun o e => by
    obtain ⟨kvs, k, _⟩ := h.c
    rw [k] at e; cases e
    exact s _ _ k fun _ z => by cases z), s _ _ h.a fun _ z => by cases z⟩
theorem LAt.same (h : LAt K C CC H B S A W) (n1 : C ≠ WC) (n2 : CC ≠ WC) (s : Same H H') : LAt K C CC H' B S A W := h.en n1 n2 (LamX.ExtN.of s)
theorem LAt.putF {nm : Str} {F : Fo} {kvs : List (L2.Key × V)} (h : LAt K C CC H B S A W) (n2 : CC ≠ WC) (hB : H B = some (.dK kvs)) (hq : FoAt C H q F) : LAt K C CC (upd H B (.dK (putK kvs (encF nm) (.ref q)))) B S A { W with fs := ptA W.fs nm F } := by
  obtain ⟨kv2, hE, hc⟩ := h.c
  have t : TI H (upd H B (.dK (putK kvs (encF nm) (.ref q)))) := TI.mut hB (fun _ z => by cases z) fun _ _ _ z => by cases z
  exact ⟨h.f.put hB hq, h.c.tj n2 (TJ.of t) fun o e => by rw [upd_ne (fun z => by rw [z, hB] at hE; cases hE)]; exact e, by rw [upd_ne (fun z => by have := h.a; rw [z, hB] at this; cases this)]; exact h.a⟩
theorem LAt.putC {k : Int × Str} {c : Cp} {kvs : List (List L2.Key × V)} (h : LAt K C CC H B S A W) (n1 : C ≠ WC) (hE : H S = some (.dT kvs)) (hq : CpAt K CC H q c) : LAt K C CC (upd H S (.dT (putK kvs (encC k) (.ref q)))) B S A { W with cs := ptA W.cs k c } := by
  obtain ⟨kv2, hD, hf⟩ := h.f
  have t : TI H (upd H S (.dT (putK kvs (encC k) (.ref q)))) := TI.mut hE (fun _ z => by cases z) fun _ _ _ z => by cases z
  exact ⟨h.f.tj n1 (TJ.of t) fun o e => by rw [upd_ne (fun z => by rw [z, hE] at hD; cases hD)]; exact e, h.c.put hE hq, by rw [upd_ne (fun z => by have := h.a; rw [z, hE] at this; cases this)]; exact h.a⟩
theorem LAt.putN {n : Int} (h : LAt K C CC H B S A W) (n1 : C ≠ WC) (n2 : CC ≠ WC) : LAt K C CC (upd H A (.lst [.int (n - 1)])) B S A { W with nx := n } := by
  obtain ⟨kv1, hD, hf⟩ := h.f
  obtain ⟨kv2, hE, hc⟩ := h.c
  have t : TI H (upd H A (.lst [.int (n - 1)])) := TI.mut h.a (fun _ z => by cases z) fun _ _ _ z => by cases z
  exact ⟨h.f.tj n1 (TJ.of t) fun o e => by rw [upd_ne (fun z => by have := h.a; rw [← z, hD] at this; cases this)]; exact e, h.c.tj n2 (TJ.of t) fun o e => by rw [upd_ne (fun z => by have := h.a; rw [← z, hE] at this; cases this)]; exact e, upd_same⟩
end
noncomputable def LNew (K : PySem.W.Frag) (C CC PA PT PS : Addr) (H : Hp) (B S A : Addr) (W : Wd) (H' : Hp) : Prop := FRM [B, S, A] H H' ∧ LamX.Tabs (T3 PA PT PS) H' ∧ LAt K C CC H' B S A W
noncomputable abbrev sSv : Stmt := st__law_on_server
noncomputable abbrev nSv : List Str := ["_law_boxes", "_law_ages", "_law_call_here", "_law_word", "_law_name"]
noncomputable abbrev pSv : List Str := ["_law_boxes", "_law_ages", "_law_call_here"]
theorem scSv : FnScope nSv pSv (defScope sSv) := ⟨rfl, rfl, rfl, by decide +kernel, rfl, by decide +kernel, by decide +kernel⟩
noncomputable def tbS (K : PySem.W.Frag) (C PA PT PS CD : Addr) (E : XK) : TS := sDPut (tVar 0) (tVar 4) (tCall (spPX C PA PT PS CD) [] E (tCons (tDGet (tVar 0) (tVar 4)) (tCons (tLst (tCons (tOp (rIxT K) (tVar 2) (tC (.int 2))) tNil)) tNil)))
noncomputable def spSv (K : PySem.W.Frag) (C CC PA PT PS : Addr) : Sp := fun vs H Q _ => ∃ (B S A a : Addr) (W : Wd) (ca : Ca) (t b : Nat) (ns : List Str) (cl : Int), vs = [.ref B, .ref A, .ref a] ∧ ¬ IsC ca ∧ LAt K C CC H B S A W ∧ GoodW ns cl t b W ∧ t ≤ 40 ∧ OkN ns ∧ Dv H (.ref a) (caD ca) ∧ OkCa ns cl ca ∧ LamX.Tabs (T3 PA PT PS) H ∧
  ∀ v H', LNew K C CC PA PT PS H B S A (goC W ca).2 H' → Dv H' v (goC W ca).1 → Q v H'
theorem two_go {K : PySem.W.Frag} {i j k : Nat} {a : Addr} {v0 v1 : V} {xs : List V} {D : Ends} {σ : L2.St} {H : Hp} (hi : σ[i]? = some (some (.ref a))) (ha : H a = some (.tup (v0 :: v1 :: xs))) (q : D.nx ((σ.set j (some v0)).set k (some v1)) H) :
    tPar j k (tCons (tOp (rIxT K) (tVar i) (tC (.int 0))) (tCons (tOp (rIxT K) (tVar i) (tC (.int 1))) tNil)) D σ H :=
  ⟨_, hi, a, _, 0, _, rfl, rfl, st ha, atI_nat (j := 0) rfl, _, hi, a, _, 1, _, rfl, rfl, st ha, atI_nat (j := 1) rfl, _, _, rfl, q⟩
theorem teq_go {K : PySem.W.Frag} {σ : L2.St} {H : Hp} {i : Nat} {u z : Str} (hi : σ[i]? = some (some (.str u))) (hu : PyData.strOk u = true) (hz : PyData.strOk z = true) {R : Bool → Hp → Prop} (b : Bool) (e : (u == z) = b) (h : R b H) : tTest (tOp (rEqD K) (tVar i) (tC (.str z))) σ H R := by
  refine ⟨_, hi, ?_⟩
  delta tC; dsimp only
  exact eq_str b hu e ⟨b, rfl, h⟩ hz
theorem tif_n {tt : TT} {ta tb rest : TS} {D : Ends} {σ : L2.St} {H : Hp} (h : tt σ H fun b H1 => if b = true then ta { D with nx := rest D } σ H1 else tb { D with nx := rest D } σ H1) : tSeq (tIfS tt ta tb) rest D σ H := h
section
variable {P : Program} {w : World} {K : PySem.W.Frag} {mg : Str → Option Value} {base : Heap} {C CC WC PA PT PS CD CT : Addr}
set_option maxHeartbeats 16000000 in
theorem ok_sv {f : Addr} {fd : FuncData} (n1 : C ≠ WC) (n2 : CC ≠ WC) (t : ClT K mg C) (gT : mg "TideError" = some (.ref CT)) (hx : PySem.W.exmOne K (.ref CD) (.ref CT) = some true) (D_new : MkD P w K mg base C)
    (D_px : Def P w K mg base (L2.CX P w) 10 "played" pPlayed (spPX C PA PT PS CD)) (F : Fun K "_law_on_server" "_law_on_server" sSv f fd) : FnOk P w K mg base CX0 11 f fd pSv (spSv K C CC PA PT PS) := by
  have nd := scSv.nd
  refine F.ok scSv (fun vs H Q E h => ?_) (fun cdv A' outer s H vs Q E hr h => ?_)
  · obtain ⟨B, S, A, a, W, ca, tt, b, ns, cl, rfl, _⟩ := h
    rfl
  · obtain ⟨B, S, A, a, W, ca, tt, b, ns, cl, rfl, nc, hL, gw, t40, okn, hca, oc, hT, q⟩ := h
    refine ⟨_, (pss_cons (ps_par (i := 3) (j := 4) (by rfl) nd rfl rfl (by decide) rfl rfl (pa_cons (pe_ix (ix_tupK (K := K) rfl) (pv 2) pe_int (fun _ _ => rfl)) (pa_cons (pe_ix (ix_tupK (K := K) rfl) (pv 2) pe_int (fun _ _ => rfl)) pa_nil)) (by rfl))
 (pss_cons (ps_if (pt_cmpR (op_eqDK (K := K) rfl hr.units) (pv 3) pe_str (nomark _))
  (pss_cons (ps_asg (pe_op op_add (pe_ix (ix_listK (K := K) rfl) (pv 1) pe_int (fun _ _ => rfl)) pe_int) (pg_sub (pv 1) pe_int set_list))
 (pss_one (ps_dput (hu_of hr) (pv 0) (pv 4) (pe_new D_new t.gC (hr.mono (by decide)) rfl (pa_cons (pe_ix (ix_listK (K := K) rfl) (pv 1) pe_int (fun _ _ => rfl)) pa_nil)) rfl)))
  (pss_one (ps_if (pt_cmpR (op_eqDK (K := K) rfl hr.units) (pv 3) pe_str (nomark _))
  (pss_cons (ps_if (pt_cmpR (op_eqDK (K := K) rfl hr.units) (pe_ix (ix_tupK (K := K) rfl) (pv 2) pe_int (fun _ _ => rfl)) (pv 4) (nomark _))
  (pss_one (ps_ret pe_str))
  pss_nil)
 (pss_one (ps_asg (pe_tup (pa_cons (pe_dget (hu_of hr) (pv 0) (pe_ix (ix_tupK (K := K) rfl) (pv 2) pe_int (fun _ _ => rfl)) (fun _ _ => rfl)) (pa_cons (pe_dget (hu_of hr) (pv 0) (pv 4) (fun _ _ => rfl)) pa_nil))) (pg_tup rfl (pgs_cons (pg_sub (pv 0) (pv 4) (set_dict (hu_of hr))) (pgs_cons (pg_sub (pv 0) (pe_ix (ix_tupK (K := K) rfl) (pv 2) pe_int (fun _ _ => rfl)) (set_dict (hu_of hr))) pgs_nil))))))
  (pss_one (ps_try_manyA (tb := fun W D σ H => ∃ Ech : XK, (∀ cls d σ' H', Ech cls d H' → W cls d σ' H') ∧ tbS K C PA PT PS CD Ech D σ H) rfl rfl nd LamX.takes0 (fun W pn xe tk _ => ?_)
      (.plain (c := .ref CT) ⟨rfl, by decide, .inl gT⟩ (fun a oe cls d pn _ _ => pss_one (ps_ret pe_str)) .nil))))))
 (pss_one (ps_ret pe_non)))), ?_⟩
    · refine ⟨fun pins s' σ H' D I h' => ?_⟩
      obtain ⟨Ech, hW', h⟩ := h'
      have ps : Passes (L2.CX P w) _ Ech := passes_call tk (fun cls d σ H h => hW' cls d σ H h)
      exact (pss_one (ps_dput (hu_of hr) (pv 0) (pv 4) (pe_def D_px (hr.mono (by decide)) (by rfl) ps (pa_cons (pe_dget (hu_of hr) (pv 0) (pv 4) (fun _ _ => rfl)) (pa_cons (pe_lst (pa_cons (pe_ix (ix_tupK (K := K) rfl) (pv 2) pe_int (fun _ _ => rfl)) pa_nil)) pa_nil))) (by rfl))).run pins s' σ H' D I h
    have lfs : W.fs.length ≤ 1000 := by
      have := congrArg List.length gw.ks
      rw [List.length_map] at this
      have := okn.l4
      omega
    have hb := gw.b
    obtain ⟨kvs, hB, hk⟩ := id hL.f
    refine seq_opq fun N hN => ?_
    cases ca with
    | act nm d0 =>
      obtain ⟨hn, od, nd'⟩ := oc
      obtain ⟨F, hF, g⟩ := gw.get hn
      obtain ⟨fa, hfa, hg⟩ := hL.f.get hF
      obtain ⟨x3, ha, h3⟩ := t3ssd hca
      obtain ⟨da, rfl, hda⟩ := dd_at h3 od nd'
      refine two_go rfl ha ?_
      refine hN _ _ ?_
      clear hN N
      refine tif_n (teq_go (by rfl) (by decide +kernel) (by decide +kernel) false (by decide +kernel) (itbF rfl ?_))
      refine teq_go (by rfl) (by decide +kernel) (by decide +kernel) false (by decide +kernel) (itbF rfl ?_)
      refine ⟨fun cls d H' => cls = .ref CD ∧ LamX.ExtN H H' ∧ LamX.Tabs (T3 PA PT PS) H' ∧ canB F d0 = false, fun cls d' σ' H' hE => ?_, ?_⟩
      · obtain ⟨rfl, e1, t1, eg⟩ := hE
        refine ⟨true, hx, fun _ a na => ?_, fun z => by cases z⟩
        rw [goC_ac hF, if_neg (by rw [eg]; decide)] at q
        exact q (.str "refused") H' ⟨FRM.en e1, t1, hL.en n1 n2 e1⟩ (.str _)
      · refine ⟨_, rfl, _, rfl, B, _, rfl, hg fun _ h => h, _, rfl, a, _, 2, _, rfl, rfl, st ha, atI_nat (j := 2) rfl, by show 1 ≤ sizeLine; decide, fun l nl => ?_⟩
        have s1 := same_new nl (o := .lst [.ref da])
        refine ⟨fa, l, da, F, d0, b, rfl, hfa.same s1, g.g.wf, by omega, upd_same, hda.same s1, hT.ext s1, fun hc H' v e t => ?_, fun hc q' H2 e2 t2 hq2 => ?_⟩
        · exact fun dd H3 s3 _ => ⟨rfl, ((LamX.ExtN.of s1).trans e).trans (LamX.ExtN.of s3), t.ext s3, hc⟩
        · have e02 := (LamX.ExtN.of s1).trans e2
          have hL2 := hL.en n1 n2 e02
          obtain ⟨kv2, hB2, hk2⟩ := id hL2.f
          rw [goC_ac hF, if_pos hc] at q
          refine ⟨_, rfl, _, rfl, B, _, rfl, DPut.k (k := encF nm) hB2 (lt1 _ (by rw [ka_len hk2]; exact Nat.le_trans (Nat.succ_le_succ lfs) (by decide))), ?_⟩
          exact q .non _ ⟨(FRM.en e02).mut (by simp), tabs_D hB2 t2, hL2.putF n2 hB2 hq2⟩ .non
    | remake nm =>
      obtain ⟨F, hF, g⟩ := gw.get (show nm ∈ ns from oc)
      have ha := t2ss hca
      refine two_go rfl ha ?_
      refine hN _ _ ?_
      clear hN N
      refine tif_n (teq_go (by rfl) (by decide +kernel) (by decide +kernel) true (by decide +kernel) (itbT rfl ?_))
      refine ⟨_, rfl, A, _, 0, .int (W.nx - 1), rfl, rfl, sq hL.a, atI_nat (j := 0) rfl, _, _, rfl, rfl, _, rfl, A, _, 0, 0, rfl, rfl, hL.a, rfl, ?_⟩
      have en : W.nx - 1 + 1 = (W.nx + 1) - 1 := by omega
      have hL1 := hL.putN (n := W.nx + 1) n1 n2
      have f1 : FRM [B, S, A] H (upd H A (.lst [.int (W.nx + 1 - 1)])) := FRM.refl.mut (by simp)
      have t1 : LamX.Tabs (T3 PA PT PS) (upd H A (.lst [.int (W.nx + 1 - 1)])) := tabs_mutO hL.a (fun _ z => by cases z) (fun _ _ z => by cases z) hT
      have eH : upd H A (HO.lst (([V.int (W.nx - 1)] : List V).set 0 ((fun i j => V.int (i + j)) (W.nx - 1) 1))) = upd H A (.lst [.int (W.nx + 1 - 1)]) := by
        show upd H A (.lst [.int (W.nx - 1 + 1)]) = _
        rw [en]
      rw [eH]
      generalize upd H A (.lst [.int (W.nx + 1 - 1)]) = G1 at hL1 f1 t1
      refine ⟨_, rfl, A, _, 0, .int (W.nx + 1 - 1), rfl, rfl, sq hL1.a, atI_nat (j := 0) rfl, fun x ddx nx ndx nxd => newF nx ndx nxd (by have := gw.nx; omega) fun G2 s2 hx2 => ⟨rfl, ?_⟩⟩
      have hL2 := hL1.same n1 n2 s2
      obtain ⟨kv2, hB2, hk2⟩ := id hL2.f
      refine ⟨_, rfl, _, rfl, B, _, rfl, DPut.k (k := encF nm) hB2 (lt1 _ (by rw [ka_len hk2]; exact Nat.le_trans (Nat.succ_le_succ lfs) (by decide))), ?_⟩
      rw [show W.nx + 1 - 1 = W.nx by omega] at hx2
      exact q .non _ ⟨(f1.same s2).mut (by simp), tabs_D hB2 (t1.ext s2), hL2.putF n2 hB2 hx2⟩ .non
    | swap nm ot =>
      obtain ⟨m1, m2⟩ := oc
      obtain ⟨F, hF, g⟩ := gw.get m1
      obtain ⟨G, hG, g2⟩ := gw.get m2
      obtain ⟨fa, hfa, hg⟩ := hL.f.get hF
      obtain ⟨ga, hga, hg2⟩ := hL.f.get hG
      have ha := t3sss hca
      refine two_go rfl ha ?_
      refine hN _ _ ?_
      clear hN N
      refine tif_n (teq_go (by rfl) (by decide +kernel) (by decide +kernel) false (by decide +kernel) (itbF rfl ?_))
      refine teq_go (by rfl) (by decide +kernel) (by decide +kernel) true (by decide +kernel) (itbT rfl ?_)
      refine ⟨_, rfl, a, _, 2, .str ot, rfl, rfl, st ha, atI_nat (j := 2) rfl, _, rfl, ?_⟩
      by_cases e : ot = nm
      · refine eq_str true (strOk_of (okn.ok ot m2)) (beq_iff_eq.mpr e) ⟨_, rfl, itbT rfl ?_⟩ (strOk_of (okn.ok nm m1))
        rw [goC_sw hF hG, if_pos e] at q
        exact q (.str "refused") H ⟨FRM.refl, hT, hL⟩ (.str _)
      · refine eq_str false (strOk_of (okn.ok ot m2)) (beq_eq_false_iff_ne.mpr e) ⟨_, rfl, itbF rfl ?_⟩ (strOk_of (okn.ok nm m1))
        rw [goC_sw hF hG, if_neg e] at q
        refine ⟨_, rfl, _, rfl, a, _, 2, .str ot, rfl, rfl, st ha, atI_nat (j := 2) rfl, B, _, rfl, hg2 fun _ h => h, _, rfl, _, rfl, B, _, rfl, hg fun _ h => h, by show 2 ≤ sizeLine; decide, fun tu ntu => ?_⟩
        have s1 := same_new ntu (o := .tup [.ref ga, .ref fa])
        refine ⟨tu, _, rfl, st upd_same, rfl, _, _, rfl, ?_⟩
        have hL1 := hL.same n1 n2 s1
        have t1 := hT.ext s1
        have hga1 := hga.same s1
        have hfa1 := hfa.same s1
        have ha1 := s1 _ _ ha
        have f1 : FRM [B, S, A] H (upd H tu (.tup [.ref ga, .ref fa])) := FRM.en (LamX.ExtN.of s1)
        generalize upd H tu (.tup [.ref ga, .ref fa]) = G1 at hL1 t1 hga1 hfa1 ha1 f1
        obtain ⟨kv1, hB1, hk1⟩ := id hL1.f
        have u2 : TI G1 (upd G1 B (.dK (putK kv1 (encF nm) (.ref ga)))) := TI.mut hB1 (fun _ z => by cases z) fun _ _ _ z => by cases z
        refine ⟨_, rfl, _, rfl, B, _, rfl, DPut.k (k := encF nm) hB1 (lt1 _ (by rw [ka_len hk1]; exact Nat.le_trans (Nat.succ_le_succ lfs) (by decide))), _, _, rfl, ?_⟩
        have hL2 := hL1.putF (nm := nm) n2 hB1 hga1
        have t2 := tabs_D (u := .dK (putK kv1 (encF nm) (.ref ga))) hB1 t1
        have f2 : FRM [B, S, A] H (upd G1 B (.dK (putK kv1 (encF nm) (.ref ga)))) := f1.mut (by simp)
        have ha2 := u2.t _ _ ha1
        have hfa2 := hfa1.ti u2
        generalize upd G1 B (.dK (putK kv1 (encF nm) (.ref ga))) = G2 at hL2 t2 f2 ha2 hfa2
        obtain ⟨kv2, hB2, hk2⟩ := id hL2.f
        have l2 : (ptA W.fs nm G).length = W.fs.length := by rw [ptA_there hF, List.length_map]
        refine ⟨_, rfl, _, rfl, a, _, 2, .str ot, rfl, rfl, st ha2, atI_nat (j := 2) rfl, B, _, rfl, DPut.k (k := encF ot) hB2 (lt1 _ (by rw [ka_len hk2, l2]; exact Nat.le_trans (Nat.succ_le_succ lfs) (by decide))), rfl, ?_⟩
        exact q .non _ ⟨f2.mut (by simp), tabs_D hB2 t2, hL2.putF n2 hB2 hfa2⟩ .non
    | fetch c nm => exact (nc trivial).elim
    | step c nm => exact (nc trivial).elim
    | drop c nm n => exact (nc trivial).elim
    | breaks c nm n => exact (nc trivial).elim
    | want c nm n ss => exact (nc trivial).elim
    | make c nm n ss => exact (nc trivial).elim
end
end K1
set_option Elab.async false
set_option linter.all false
set_option maxRecDepth 100000
set_option maxHeartbeats 8000000
/-! What the law itself makes of a call. -/
namespace K1
open PySem PySem.Spec PyProof.Rows L2 RZ StX
noncomputable abbrev sDu : Stmt := st__law_due
noncomputable abbrev nDu : List Str := ["_law_boxes", "_law_sheets", "_law_ages", "_law_call_here", "_law_word", "_law_client", "_law_name", "_law_sheet", "_law_after", "_law_box_so", "_law_sent", "_law_missed", "_law_found", "_law_row"]
noncomputable abbrev pDu : List Str := ["_law_boxes", "_law_sheets", "_law_ages", "_law_call_here"]
theorem scDu : FnScope nDu pDu (defScope sDu) := ⟨rfl, rfl, rfl, by decide +kernel, rfl, by decide +kernel, by decide +kernel⟩
theorem wi_act : decide (("act" : Str) ∈ (["act", "remake", "swap"] : List Str)) = true := by decide +kernel
theorem wi_remake : decide (("remake" : Str) ∈ (["act", "remake", "swap"] : List Str)) = true := by decide +kernel
theorem wi_swap : decide (("swap" : Str) ∈ (["act", "remake", "swap"] : List Str)) = true := by decide +kernel
theorem wi_fetch : ¬ decide (("fetch" : Str) ∈ (["act", "remake", "swap"] : List Str)) = true := by decide +kernel
theorem wi_step : ¬ decide (("step" : Str) ∈ (["act", "remake", "swap"] : List Str)) = true := by decide +kernel
theorem wi_drop : ¬ decide (("drop" : Str) ∈ (["act", "remake", "swap"] : List Str)) = true := by decide +kernel
theorem wi_breaks : ¬ decide (("breaks" : Str) ∈ (["act", "remake", "swap"] : List Str)) = true := by decide +kernel
theorem wi_want : ¬ decide (("want" : Str) ∈ (["act", "remake", "swap"] : List Str)) = true := by decide +kernel
theorem wi_make : ¬ decide (("make" : Str) ∈ (["act", "remake", "swap"] : List Str)) = true := by decide +kernel
theorem word_in {ca : Ca} : decide (wordC ca ∈ (["act", "remake", "swap"] : List Str)) = true ↔ ¬ IsC ca := by
  cases ca with
  | act nm d => exact ⟨fun _ h => h, fun _ => wi_act⟩
  | remake nm => exact ⟨fun _ h => h, fun _ => wi_remake⟩
  | swap nm ot => exact ⟨fun _ h => h, fun _ => wi_swap⟩
  | fetch c nm => exact ⟨fun h => absurd h wi_fetch, fun h => (h trivial).elim⟩
  | step c nm => exact ⟨fun h => absurd h wi_step, fun h => (h trivial).elim⟩
  | drop c nm n => exact ⟨fun h => absurd h wi_drop, fun h => (h trivial).elim⟩
  | breaks c nm n => exact ⟨fun h => absurd h wi_breaks, fun h => (h trivial).elim⟩
  | want c nm n ss => exact ⟨fun h => absurd h wi_want, fun h => (h trivial).elim⟩
  | make c nm n ss => exact ⟨fun h => absurd h wi_make, fun h => (h trivial).elim⟩
noncomputable def spDu (K : PySem.W.Frag) (C CC PA PT PS : Addr) : Sp := fun vs H Q _ => ∃ (B S A a : Addr) (W : Wd) (ca : Ca) (t b : Nat) (ns : List Str) (cl : Int), vs = [.ref B, .ref S, .ref A, .ref a] ∧ LAt K C CC H B S A W ∧ GoodW ns cl t b W ∧ t ≤ 40 ∧ OkN ns ∧ Dv H (.ref a) (caD ca) ∧ OkCa ns cl ca ∧ LamX.Tabs (T3 PA PT PS) H ∧
  ∀ v H', LNew K C CC PA PT PS H B S A (goC W ca).2 H' → Dv H' v (goC W ca).1 → Q v H'
theorem three_go {K : PySem.W.Frag} {i j k l : Nat} {a : Addr} {v0 v1 v2 : V} {xs : List V} {D : Ends} {σ : L2.St} {H : Hp} (hi : σ[i]? = some (some (.ref a))) (ha : H a = some (.tup (v0 :: v1 :: v2 :: xs))) (q : D.nx (((σ.set j (some v0)).set k (some v1)).set l (some v2)) H) :
    tPar3 j k l (tCons (tOp (rIxT K) (tVar i) (tC (.int 0))) (tCons (tOp (rIxT K) (tVar i) (tC (.int 1))) (tCons (tOp (rIxT K) (tVar i) (tC (.int 2))) tNil))) D σ H :=
  ⟨_, hi, a, _, 0, _, rfl, rfl, st ha, atI_nat (j := 0) rfl, _, hi, a, _, 1, _, rfl, rfl, st ha, atI_nat (j := 1) rfl, _, hi, a, _, 2, _, rfl, rfl, st ha, atI_nat (j := 2) rfl, _, _, _, rfl, q⟩
theorem stp_go {K : PySem.W.Frag} {C CC PA PT PS x p : Addr} {c : Cp} {F : Fo} {k : Nat} (b : Nat) {H : Hp} {Q : VK} (h1 : CpAt K CC H x c) (h2 : OkCp c) (h3 : CW4 c) (h4 : (sentM c F).length ≤ b) (h5 : FoAt C H p F) (h6 : GA k F) (h7 : k + b ≤ 900) (h8 : LamX.Tabs (T3 PA PT PS) H)
    (q : ∀ r y q' sa la H', LamX.ExtN H H' → LamX.Tabs (T3 PA PT PS) H' → StAt K C CC H' r c F y q' sa la → Q (.ref r) H') : spStp K C CC PA PT PS [.ref x, .ref p] H Q E0 := ⟨x, p, c, F, k, b, rfl, h1, h2, h3, h4, h5, h6, h7, h8, q⟩
theorem told_go {K : PySem.W.Frag} {C CC x p : Addr} {c : Cp} {F : Fo} {k : Nat} {H : Hp} {Q : VK} (h1 : CpAt K CC H x c) (h2 : OkCp c) (h5 : FoAt C H p F) (h6 : GA k F) (h7 : k ≤ 900)
    (q : ∀ r H', Same H H' → Dv H' (.ref r) (toldD c F) → Q (.ref r) H') : spTold K C CC [.ref x, .ref p] H Q E0 := ⟨x, p, c, F, k, rfl, h1, h2, h5, h6, h7, q⟩
theorem pl_go {C PA PT PS p h : Addr} {F : Fo} {xs : List V} {ds : List Dd} (n : Nat) {H : Hp} {Q : VK} (h1 : FoAt C H p F) (h2 : Wf n F) (h3 : n + ds.length ≤ 1000) (h4 : SeqH H h xs) (h5 : DdsAt H xs ds) (h6 : CanL ds F) (h7 : LamX.Tabs (T3 PA PT PS) H)
    (q : ∀ q H', LamX.ExtN H H' → LamX.Tabs (T3 PA PT PS) H' → FoAt C H' q (doesL ds F) → Q (.ref q) H') : spPlayed C PA PT PS [.ref p, .ref h] H Q E0 := ⟨p, h, F, xs, ds, n, rfl, h1, h2, h3, h4, h5, h6, h7, q⟩
theorem mkg_go {K : PySem.W.Frag} {CC p sa : Addr} {b : Int} {c : Cp} {ss : List Str} {H : Hp} {Q : VK} (h1 : CpAt K CC H p c) (h2 : OkCp c) (h3 : 0 ≤ b) (h4 : H sa = some (.tup (ss.map V.str))) (h5 : OkSs ss) (h6 : c.md.length < 900)
    (q : ∀ q H', Same H H' → H q = none → CpAt K CC H' q (cpM c b ss) → Q (.ref q) H') : spMkg K CC [.ref p, .int b, .ref sa] H Q E0 := ⟨p, b, sa, c, ss, rfl, h1, h2, h3, h4, h5, h6, q⟩
theorem wtX_go {K : PySem.W.Frag} {CC CN p sa : Addr} {n : Int} {c : Cp} {ss : List Str} {H : Hp} {Q : VK} {E : XK} (h1 : CpAt K CC H p c) (h2 : OkCp c) (h3 : 1 ≤ n) (h4 : H sa = some (.tup (ss.map V.str))) (h5 : OkSs ss) (hm : n ∈ c.ls.map (·.n))
    (q : ∀ q H', Same H H' → H q = none → CpAt K CC H' q (cpW c n (some ss)) → Q (.ref q) H') : spWtX K CC CN [.ref p, .int n, .ref sa] H Q E := ⟨p, n, sa, c, ss, rfl, h1, h2, h3, h4, h5, fun _ => q, fun h => (h hm).elim⟩
theorem drX_go {K : PySem.W.Frag} {CC CN p : Addr} {n : Int} {c : Cp} {H : Hp} {Q : VK} {E : XK} (h1 : CpAt K CC H p c) (h2 : OkCp c) (h3 : 1 ≤ n) (hm : n ∈ c.ls.map (·.n))
    (q : ∀ q H', Same H H' → H q = none → CpAt K CC H' q (cpW c n none) → Q (.ref q) H') : spDrX K CC CN [.ref p, .int n] H Q E := ⟨p, n, c, rfl, h1, h2, h3, fun _ => q, fun h => (h hm).elim⟩
theorem sv_go {K : PySem.W.Frag} {C CC PA PT PS B S A a : Addr} {W : Wd} {ca : Ca} {t b : Nat} {ns : List Str} {cl : Int} {H : Hp} {Q : VK} (h1 : ¬ IsC ca) (h2 : LAt K C CC H B S A W) (h3 : GoodW ns cl t b W) (h4 : t ≤ 40) (h5 : OkN ns) (h6 : Dv H (.ref a) (caD ca)) (h7 : OkCa ns cl ca) (h8 : LamX.Tabs (T3 PA PT PS) H)
    (q : ∀ v H', LNew K C CC PA PT PS H B S A (goC W ca).2 H' → Dv H' v (goC W ca).1 → Q v H') : spSv K C CC PA PT PS [.ref B, .ref A, .ref a] H Q E0 := ⟨B, S, A, a, W, ca, t, b, ns, cl, rfl, h1, h2, h3, h4, h5, h6, h7, h8, q⟩
theorem nx_go {D : Ends} {σ : L2.St} {H : Hp} (h : D.nx σ H) : tNext D σ H := h
/-- sheets[client, name] = x -/
theorem lput_copy {K : PySem.W.Frag} {C CC WC PA PT PS B S A x : Addr} {H H1 : Hp} {W : Wd} {c : Int} {nm : Str} {k' : Cp} {Q : Hp → Prop} (n1 : C ≠ WC) (n2 : CC ≠ WC) (hL : LAt K C CC H1 B S A W) (l : W.cs.length ≤ 1000) (hT : LamX.Tabs (T3 PA PT PS) H1) (f : FRM [B, S, A] H H1) (hx : CpAt K CC H1 x k') (q : ∀ H', LNew K C CC PA PT PS H B S A { W with cs := ptA W.cs (c, nm) k' } H' → Q H') :
    ∀ b, H1 b = none → ∃ a H4, V.ref S = .ref a ∧ DPut (upd H1 b (.tup [.int c, .str nm])) a (.ref b) (.ref x) H4 ∧ Q H4 := by
  intro b nb
  have s2 := same_new nb (o := .tup [.int c, .str nm])
  have hb : upd H1 b (.tup [.int c, .str nm]) b = some (.tup ([Sum.inl c, Sum.inr nm].map kV)) := upd_same
  have hx := hx.same s2
  have hL2 := hL.same n1 n2 s2
  have t2 := hT.ext s2
  have f2 := f.same s2
  generalize upd H1 b (.tup [.int c, .str nm]) = H2 at hb hx hL2 t2 f2
  obtain ⟨kvs, hE2, hk⟩ := id hL2.c
  refine ⟨S, _, rfl, DPut.t (k := encC (c, nm)) hE2 hb (lt1 _ (by rw [ka_len hk]; exact Nat.le_trans (Nat.succ_le_succ l) (by decide))), ?_⟩
  exact q _ ⟨f2.mut (by simp), tabs_E hE2 t2, hL2.putC n1 hE2 hx⟩
section
variable {P : Program} {w : World} {K : PySem.W.Frag} {mg : Str → Option Value} {base : Heap} {C CC WC PA PT PS CN : Addr}
set_option maxHeartbeats 32000000 in
theorem ok_du {f : Addr} {fd : FuncData} (n1 : C ≠ WC) (n2 : CC ≠ WC) (T : Bk mg) (tc : CcT K mg CC) (D_sv : Def P w K mg base CX0 11 "_law_on_server" pSv (spSv K C CC PA PT PS)) (D_copy_of : Def P w K mg base CX0 6 "copy_of" pCo (spCo K C CC)) (D_stepped : Def P w K mg base CX0 11 "stepped" pStp (spStp K C CC PA PT PS)) (D_he : Def P w K mg base CX0 2 "_law_hearing" pHe (spTold K C CC))
    (D_played : Def P w K mg base CX0 10 "played" pPlayed (spPlayed C PA PT PS)) (M_letters : MDef P w K mg base CX0 1 CC "letters" nSelf (spCLet K CC)) (M_mk : MDef P w K mg base CX0 6 CC "making" nCMk (spMkg K CC)) (M_wt : MDef P w K mg base (L2.CX P w) 7 CC "wanting" nCWt (spWtX K CC CN)) (M_dr : MDef P w K mg base (L2.CX P w) 7 CC "dropping" nCDr (spDrX K CC CN))
    (F : Fun K "_law_due" "_law_due" sDu f fd) : FnOk P w K mg base CX0 13 f fd pDu (spDu K C CC PA PT PS) := by
  have nd := scDu.nd
  refine F.ok scDu (fun vs H Q E h => ?_) (fun cdv A' outer s H vs Q E hr h => ?_)
  · obtain ⟨B, S, A, a, W, ca, tt, b, ns, cl, rfl, _⟩ := h
    rfl
  · obtain ⟨B, S, A, a, W, ca, tt, b, ns, cl, rfl, hL, gw, t40, okn, hca, oc, hT, q⟩ := h
    refine ⟨_, (pss_cons (ps_if (pt_cmpR (op_in_seqK (K := K) rfl) (pe_ix (ix_tupK (K := K) rfl) (pv 3) pe_int (fun _ _ => rfl)) (pe_tup (pa_cons pe_str (pa_cons pe_str (pa_cons pe_str pa_nil)))) (by rfl))
  (pss_one (ps_ret (pe_def D_sv (hr.mono (by decide)) rfl pass0 (pa_cons (pv 0) (pa_cons (pv 2) (pa_cons (pv 3) pa_nil))))))
  pss_nil)
 (pss_cons (ps_par3 (i := 4) (j := 5) (l := 6) (by rfl) nd rfl rfl rfl (by decide) (by decide) (by decide) rfl rfl rfl (pa_cons (pe_ix (ix_tupK (K := K) rfl) (pv 3) pe_int (fun _ _ => rfl)) (pa_cons (pe_ix (ix_tupK (K := K) rfl) (pv 3) pe_int (fun _ _ => rfl)) (pa_cons (pe_ix (ix_tupK (K := K) rfl) (pv 3) pe_int (fun _ _ => rfl)) pa_nil))) (by rfl))
 (pss_cons (ps_if (pt_cmpR (op_eqDK (K := K) rfl hr.units) (pv 4) pe_str (nomark _))
  (pss_cons (ps_dput (hu_of hr) (pv 1) (pe_tup (pa_cons (pv 5) (pa_cons (pv 6) pa_nil))) (pe_def D_copy_of (hr.mono (by decide)) rfl pass0 (pa_cons (pe_dget (hu_of hr) (pv 0) (pv 6) (fun _ _ => rfl)) pa_nil)) rfl)
 (pss_one (ps_ret pe_non)))
  pss_nil)
 (pss_cons (ps_set (i := 7) nd rfl (Or.inl rfl) (pe_dget2 (hu_of hr) (pv 1) (pe_tup (pa_cons (pv 5) (pa_cons (pv 6) pa_nil))) pe_non ⟨rfl, rfl, rfl, rfl⟩))
 (pss_cons (ps_if (pt_cmpR op_isN (pv 7) pe_non (nomark _))
  (pss_one (ps_ret pe_str))
  pss_nil)
 (pss_cons (ps_if (PW.pt (pw_or (pt_cmpR (op_eqDK (K := K) rfl hr.units) (pv 4) pe_str (nomark _)) (pw_or1 (pt_cmpR (op_eqDK (K := K) rfl hr.units) (pv 4) pe_str (nomark _)))))
  (pss_cons (ps_asg (pe_def D_stepped (hr.mono (by decide)) rfl pass0 (pa_cons (pv 7) (pa_cons (pe_dget (hu_of hr) (pv 0) (pv 6) (fun _ _ => rfl)) pa_nil))) (pg_tup rfl (pgs_cons (pg_name (i := 8) nd rfl (Or.inl rfl)) (pgs_cons (pg_name (i := 9) nd rfl (Or.inl rfl)) (pgs_cons (pg_name (i := 10) nd rfl (Or.inl rfl)) (pgs_cons (pg_name (i := 11) nd rfl (Or.inl rfl)) pgs_nil))))))
 (pss_cons (ps_if (pt_cmpR (op_eqDK (K := K) rfl hr.units) (pv 4) pe_str (nomark _))
  (pss_cons (ps_set (i := 12) nd rfl (Or.inl rfl) (pe_tup (pa_cons (pe_def D_he (hr.mono (by decide)) rfl pass0 (pa_cons (pv 7) (pa_cons (pe_dget (hu_of hr) (pv 0) (pv 6) (fun _ _ => rfl)) pa_nil))) (pa_cons (pv 10) (pa_cons (pv 11) pa_nil)))))
 (pss_cons (ps_asg (pe_tup (pa_cons (pv 8) (pa_cons (pv 9) pa_nil))) (pg_tup rfl (pgs_cons (pg_sub (pv 1) (pe_tup (pa_cons (pv 5) (pa_cons (pv 6) pa_nil))) (set_dict (hu_of hr))) (pgs_cons (pg_sub (pv 0) (pv 6) (set_dict (hu_of hr))) pgs_nil))))
 (pss_one (ps_ret (pv 12)))))
  pss_nil)
 (pss_cons (ps_if (pt_cmpR op_gt (pe_ix (ix_tupK (K := K) rfl) (pv 3) pe_int (fun _ _ => rfl)) (pe_callB (call_lenK (K := K) rfl) (by rfl) T.len PySem.boot_len (pa_cons (pv 10) pa_nil)) (nomark _))
  (pss_one (ps_ret pe_str))
  pss_nil)
 (pss_cons (ps_dput (hu_of hr) (pv 0) (pv 6) (pe_def D_played (hr.mono (by decide)) rfl pass0 (pa_cons (pe_dget (hu_of hr) (pv 0) (pv 6) (fun _ _ => rfl)) (pa_cons (pe_slice (sl_tupAK (K := K) rfl) (pv 10) po_none (po_some (pe_ix (ix_tupK (K := K) rfl) (pv 3) pe_int (fun _ _ => rfl)))) pa_nil))) rfl)
 (pss_one (ps_ret pe_non))))))
  pss_nil)
 (pss_cons (ps_if (pt_cmpR (op_eqDK (K := K) rfl hr.units) (pv 4) pe_str (nomark _))
  (pss_cons (ps_dput (hu_of hr) (pv 1) (pe_tup (pa_cons (pv 5) (pa_cons (pv 6) pa_nil))) (pe_mdef M_mk tc.cl (hr.mono (by decide)) pass0 (pv 7) (pa_cons (pe_ix (ix_tupK (K := K) rfl) (pv 3) pe_int (fun _ _ => rfl)) (pa_cons (pe_ix (ix_tupK (K := K) rfl) (pv 3) pe_int (fun _ _ => rfl)) pa_nil))) rfl)
 (pss_one (ps_ret pe_non)))
  pss_nil)
 (pss_cons (ps_if (pt_cmpR (op_notIn_seqK (K := K) rfl) (pe_ix (ix_tupK (K := K) rfl) (pv 3) pe_int (fun _ _ => rfl)) (pe_lc (own := [("_law_row", 13)]) (g := gName 13) (tt := tYes) rfl nd (pi_listK (K := K) rfl (pe_mdef0 M_letters tc.cl (hr.mono (by decide)) pass0 (pv 7))) (blkOk_by (own := [("_law_row", 13)]) (N := nDu) (sc := defScope sDu) (by decide +kernel)) (fun _ _ _ _ _ => pg_name (i := 13) nd rfl (Or.inl rfl)) (fun _ _ _ _ _ => pts_nil) (fun _ _ _ _ _ => (pe_ix (ix_tupK (K := K) rfl) (pv 13) pe_int (fun _ _ => rfl)))) (by rfl))
  (pss_one (ps_ret pe_str))
  pss_nil)
 (pss_cons (ps_dput (hu_of hr) (pv 1) (pe_tup (pa_cons (pv 5) (pa_cons (pv 6) pa_nil))) (pe_ifExp (pt_cmpR (op_eqDK (K := K) rfl hr.units) (pv 4) pe_str (nomark _)) (pe_mdef M_wt tc.cl (hr.mono (by decide)) passN (pv 7) (pa_cons (pe_ix (ix_tupK (K := K) rfl) (pv 3) pe_int (fun _ _ => rfl)) (pa_cons (pe_ix (ix_tupK (K := K) rfl) (pv 3) pe_int (fun _ _ => rfl)) pa_nil))) (pe_mdef M_dr tc.cl (hr.mono (by decide)) passN (pv 7) (pa_cons (pe_ix (ix_tupK (K := K) rfl) (pv 3) pe_int (fun _ _ => rfl)) pa_nil))) rfl)
 (pss_one (ps_ret pe_non))))))))))), ?_⟩
    have lcs : W.cs.length ≤ 1000 := by have := gw.l; omega
    have lfs : W.fs.length ≤ 1000 := by
      have := congrArg List.length gw.ks
      rw [List.length_map] at this
      have := okn.l4
      omega
    have hb := gw.b
    obtain ⟨kvs, hB, hk⟩ := id hL.f
    obtain ⟨ws, haw⟩ := ca_word hca
    refine tif_n ?_
    refine ⟨_, rfl, a, _, 0, _, rfl, rfl, st haw, atI_nat (j := 0) rfl, by show 3 ≤ sizeLine; decide, fun tp ntp => ⟨tp, _, rfl, .inr (st upd_same), rfl, flat_strs ["act", "remake", "swap"], _, rfl, ?_⟩⟩
    show (if inV (.str (wordC ca)) ((["act", "remake", "swap"] : List Str).map V.str) = true then _ else _)
    rw [inV_strs]
    have s1 := same_new ntp (o := .tup [.str "act", .str "remake", .str "swap"])
    have hL1 := hL.same n1 n2 s1
    have t1 := hT.ext s1
    have hca1 := hca.same s1
    by_cases ic : IsC ca
    case neg =>
      rw [show decide (wordC ca ∈ (["act", "remake", "swap"] : List Str)) = true from word_in.mpr ic]
      refine itbT rfl ⟨_, rfl, _, rfl, _, rfl, ?_⟩
      dsimp only [tNil]
      exact sv_go ic hL1 gw t40 okn hca1 oc t1 fun v H2 w2 dv => q v H2 ⟨(FRM.en (LamX.ExtN.of s1)).trans w2.1, w2.2⟩ dv
    rw [show decide (wordC ca ∈ (["act", "remake", "swap"] : List Str)) = false by
      cases hd : decide (wordC ca ∈ (["act", "remake", "swap"] : List Str)) with
      | false => rfl
      | true => exact (word_in.mp hd ic).elim]
    refine itbF rfl ?_
    generalize upd H tp (.tup [.str "act", .str "remake", .str "swap"]) = H1 at s1 hL1 t1 hca1
    clear haw ntp
    refine nx_go ?_
    dsimp only
    refine seq_opq fun N hN => ?_
    cases ca with
    | act nm d => exact ic.elim
    | remake nm => exact ic.elim
    | swap nm ot => exact ic.elim
    | fetch c nm =>
      obtain ⟨c0, c1, hn⟩ := oc
      obtain ⟨F, hF, g⟩ := gw.get hn
      obtain ⟨fa, hfa, hg⟩ := hL1.f.get hF
      have ha := t3sis hca1
      refine three_go rfl ha ?_
      refine hN _ _ ?_
      clear hN N
      first | refine tif_n (teq_go (by rfl) (by decide +kernel) (by decide +kernel) true (by decide +kernel) (itbT rfl ?_)) | (refine nx_go ?_; dsimp only; refine tif_n (teq_go (by rfl) (by decide +kernel) (by decide +kernel) true (by decide +kernel) (itbT rfl ?_)))
      rw [goC_fe hF] at q
      refine ⟨_, rfl, _, rfl, B, _, rfl, hg fun _ h => h, fa, F, b, rfl, hfa, g, by omega, fun x H2 s2 nx hx => ⟨_, rfl, _, rfl, _, rfl, by show 2 ≤ sizeLine; decide, ?_⟩⟩
      exact lput_copy n1 n2 (hL1.same n1 n2 s2) lcs (t1.ext s2) (FRM.en (LamX.ExtN.of (s1.trans s2))) hx fun H3 w3 => q .non H3 w3 .non
    | step c nm =>
      obtain ⟨c0, c1, hn⟩ := oc
      obtain ⟨F, hF, g⟩ := gw.get hn
      obtain ⟨fa, hfa, hg⟩ := hL1.f.get hF
      have ha := t3sis hca1
      refine three_go rfl ha ?_
      refine hN _ _ ?_
      clear hN N
      first | refine tif_n (teq_go (by rfl) (by decide +kernel) (by decide +kernel) false (by decide +kernel) (itbF rfl ?_)) | (refine nx_go ?_; dsimp only; refine tif_n (teq_go (by rfl) (by decide +kernel) (by decide +kernel) false (by decide +kernel) (itbF rfl ?_)))
      first | (refine nx_go ?_; dsimp only; refine seq_opq fun N hN => ?_) | refine seq_opq fun N hN => ?_
      refine ⟨_, rfl, S, rfl, hL1.c.isD, _, rfl, _, rfl, by show 2 ≤ sizeLine; decide, fun kb nkb => ?_⟩
      have s2 := same_new nkb (o := .tup [.int c, .str nm])
      have hL2 := hL1.same n1 n2 s2
      have t2 := t1.ext s2
      have s12 := s1.trans s2
      rcases hL1.c.get (c, nm) with ⟨e, hgc⟩ | ⟨k, x, e, hx1, hgc⟩
      · refine ⟨none, hgc (fun o h => s2 _ _ h) upd_same, ?_⟩
        refine hN _ _ ?_
        clear hN N
        refine ⟨_, rfl, rfl, _, rfl, itbT rfl ?_⟩
        rw [show goC W (.step c nm) = (no, W) from onC_no e] at q
        exact q (.str "refused") _ ⟨FRM.en (LamX.ExtN.of s12), t2, hL2⟩ (.str _)
      refine ⟨some (.ref x), hgc (fun o h => s2 _ _ h) upd_same, ?_⟩
      refine hN _ _ ?_
      clear hN N
      first | (refine nx_go ?_; dsimp only; refine seq_opq fun N hN => ?_) | refine seq_opq fun N hN => ?_
      refine ⟨_, rfl, rfl, _, rfl, itbF rfl ?_⟩
      have hx := hx1.same s2
      have ha2 := s2 _ _ ha
      have hfa2 := hfa.same s2
      have okk := gw.cp e
      have hph := phi_le e
      have hgB : ∀ {J : Hp}, Same H1 J → DGet J B (.str nm) (some (.ref fa)) := fun s => hg fun _ h => s _ _ h
      have hg2 := hgB s2
      generalize upd H1 kb (.tup [.int c, .str nm]) = H2 at s2 hL2 t2 s12 hx ha2 hfa2 hg2
      refine hN _ _ ?_
      clear hN N
      first | refine tif_n (teq_go (by rfl) (by decide +kernel) (by decide +kernel) true (by decide +kernel) (itbT rfl ?_)) | (refine nx_go ?_; dsimp only; refine tif_n (teq_go (by rfl) (by decide +kernel) (by decide +kernel) true (by decide +kernel) (itbT rfl ?_)))
      have ln := sent_wish (F := F) okk
      refine ⟨_, rfl, _, rfl, _, rfl, B, _, rfl, hg2, ?_⟩
      dsimp only [tNil]
      refine stp_go (13 * wish k) hx okk cw4 ln hfa2 g (by omega) t2 fun r z q' sa la H3 e3 t3 hs => ?_
      refine ⟨r, _, rfl, st hs.at_, rfl, _, _, rfl, _, _, rfl, _, _, rfl, _, _, rfl, rfl, ?_⟩
      have e03 : LamX.ExtN H H3 := (LamX.ExtN.of s12).trans e3
      have hL3 := hL2.en n1 n2 e3
      have hx3 := hx.ti (TI.en e3)
      have hfa3 := hfa2.ti (TI.en e3)
      have ha3 := e3 _ _ ha2 fun _ z => by cases z
      obtain ⟨fa3, hfa3', hg3⟩ := hL3.f.get hF
      obtain ⟨xsS, hsa, dsa⟩ := hs.s
      have hsl := hs.l
      have hsy := hs.y
      have hsq := hs.q
      clear hs
      first | refine tif_n (teq_go (by rfl) (by decide +kernel) (by decide +kernel) true (by decide +kernel) (itbT rfl ?_)) | (refine nx_go ?_; dsimp only; refine tif_n (teq_go (by rfl) (by decide +kernel) (by decide +kernel) true (by decide +kernel) (itbT rfl ?_)))
      refine ⟨_, rfl, _, rfl, _, rfl, B, _, rfl, hg3 fun _ h => h, ?_⟩
      dsimp only [tNil]
      refine told_go hx3 okk hfa3' g (by omega) fun tl H4 s4 ht4 => ⟨_, rfl, _, rfl, by show 3 ≤ sizeLine; decide, fun fo nfo => ?_⟩
      have s5 := s4.new nfo (o := .tup [.ref tl, .ref sa, .ref la])
      have hfo : upd H4 fo (.tup [.ref tl, .ref sa, .ref la]) fo = some (.tup [.ref tl, .ref sa, .ref la]) := upd_same
      have htl := ht4.same (same_new nfo (o := .tup [.ref tl, .ref sa, .ref la]))
      generalize upd H4 fo (.tup [.ref tl, .ref sa, .ref la]) = H5 at s5 hfo htl
      refine ⟨_, rfl, _, rfl, by show 2 ≤ sizeLine; decide, fun tu ntu => ?_⟩
      have s6 := s5.new ntu (o := .tup [.ref z, .ref q'])
      have htu : upd H5 tu (.tup [.ref z, .ref q']) tu = some (.tup [.ref z, .ref q']) := upd_same
      have k6 := same_new ntu (o := .tup [.ref z, .ref q'])
      have hfo := k6 _ _ hfo
      have htl := htl.same k6
      generalize upd H5 tu (.tup [.ref z, .ref q']) = H6 at s6 htu hfo htl
      have hdat : Dv H6 (.ref fo) (stepD k F) := .tup hfo (.cons htl (.cons (.tup (s6 _ _ hsa) (dsa.same s6)) (.cons (dv_intsT (s6 _ _ hsl)) .nil)))
      have hsq6 := hsq.same s6
      refine ⟨tu, _, rfl, st htu, rfl, _, _, rfl, _, rfl, _, rfl, _, rfl, by show 2 ≤ sizeLine; decide, ?_⟩
      have f6 : FRM [B, S, A] H H6 := FRM.en (e03.trans (LamX.ExtN.of s6))
      intro kb2 nkb2
      have k7 := same_new nkb2 (o := .tup [.int c, .str nm])
      have hkb : upd H6 kb2 (.tup [.int c, .str nm]) kb2 = some (.tup ([Sum.inl c, Sum.inr nm].map kV)) := upd_same
      have hy7 := (hsy.same s6).same k7
      have hq7 := hsq6.same k7
      have hL7 := (hL3.same n1 n2 s6).same n1 n2 k7
      have t7 := (t3.ext s6).ext k7
      have f7 := f6.same k7
      have hd7 := hdat.tu (TU.same k7) (tO_step k F)
      generalize upd H6 kb2 (.tup [.int c, .str nm]) = H7 at hkb hy7 hq7 hL7 t7 f7 hd7
      obtain ⟨kv7, hE7, hk7⟩ := id hL7.c
      refine ⟨S, _, rfl, DPut.t (k := encC (c, nm)) hE7 hkb (lt1 _ (by rw [ka_len hk7]; exact Nat.le_trans (Nat.succ_le_succ lcs) (by decide))), ?_⟩
      have u8 : TI H7 (upd H7 S (.dT (putK kv7 (encC (c, nm)) (.ref z)))) := TI.mut hE7 (fun _ z => by cases z) fun _ _ _ z => by cases z
      have hL8 := hL7.putC n1 (k := (c, nm)) hE7 hy7
      have t8 := tabs_E (u := .dT (putK kv7 (encC (c, nm)) (.ref z))) hE7 t7
      have f8 : FRM [B, S, A] H (upd H7 S (.dT (putK kv7 (encC (c, nm)) (.ref z)))) := f7.mut (by simp)
      have hq8 := hq7.ti u8
      have hd8 := hd7.tu u8.t (tO_step k F)
      generalize upd H7 S (.dT (putK kv7 (encC (c, nm)) (.ref z))) = H8 at hL8 t8 f8 hq8 hd8
      obtain ⟨kv8, hB8, hk8⟩ := id hL8.f
      refine ⟨_, _, rfl, _, rfl, _, rfl, B, _, rfl, DPut.k (k := encF nm) hB8 (lt1 _ (by rw [ka_len hk8]; exact Nat.le_trans (Nat.succ_le_succ lfs) (by decide))), rfl, ?_⟩
      rw [goC_st e hF] at q
      exact ⟨_, rfl, q (.ref fo) _ ⟨f8.mut (by simp), tabs_D hB8 t8, hL8.putF n2 hB8 hq8⟩ (hd8.tu (TI.mut hB8 (fun _ z => by cases z) fun _ _ _ z => by cases z).t (tO_step k F))⟩
    | breaks c nm n =>
      obtain ⟨c0, c1, hn, m3⟩ := oc
      obtain ⟨F, hF, g⟩ := gw.get hn
      obtain ⟨fa, hfa, hg⟩ := hL1.f.get hF
      have ha := t4sisi hca1
      refine three_go rfl ha ?_
      refine hN _ _ ?_
      clear hN N
      first | refine tif_n (teq_go (by rfl) (by decide +kernel) (by decide +kernel) false (by decide +kernel) (itbF rfl ?_)) | (refine nx_go ?_; dsimp only; refine tif_n (teq_go (by rfl) (by decide +kernel) (by decide +kernel) false (by decide +kernel) (itbF rfl ?_)))
      first | (refine nx_go ?_; dsimp only; refine seq_opq fun N hN => ?_) | refine seq_opq fun N hN => ?_
      refine ⟨_, rfl, S, rfl, hL1.c.isD, _, rfl, _, rfl, by show 2 ≤ sizeLine; decide, fun kb nkb => ?_⟩
      have s2 := same_new nkb (o := .tup [.int c, .str nm])
      have hL2 := hL1.same n1 n2 s2
      have t2 := t1.ext s2
      have s12 := s1.trans s2
      rcases hL1.c.get (c, nm) with ⟨e, hgc⟩ | ⟨k, x, e, hx1, hgc⟩
      · refine ⟨none, hgc (fun o h => s2 _ _ h) upd_same, ?_⟩
        refine hN _ _ ?_
        clear hN N
        refine ⟨_, rfl, rfl, _, rfl, itbT rfl ?_⟩
        rw [show goC W (.breaks c nm n) = (no, W) from onC_no e] at q
        exact q (.str "refused") _ ⟨FRM.en (LamX.ExtN.of s12), t2, hL2⟩ (.str _)
      refine ⟨some (.ref x), hgc (fun o h => s2 _ _ h) upd_same, ?_⟩
      refine hN _ _ ?_
      clear hN N
      first | (refine nx_go ?_; dsimp only; refine seq_opq fun N hN => ?_) | refine seq_opq fun N hN => ?_
      refine ⟨_, rfl, rfl, _, rfl, itbF rfl ?_⟩
      have hx := hx1.same s2
      have ha2 := s2 _ _ ha
      have hfa2 := hfa.same s2
      have okk := gw.cp e
      have hph := phi_le e
      have hgB : ∀ {J : Hp}, Same H1 J → DGet J B (.str nm) (some (.ref fa)) := fun s => hg fun _ h => s _ _ h
      have hg2 := hgB s2
      generalize upd H1 kb (.tup [.int c, .str nm]) = H2 at s2 hL2 t2 s12 hx ha2 hfa2 hg2
      refine hN _ _ ?_
      clear hN N
      refine teq_go (by rfl) (by decide +kernel) (by decide +kernel) false (by decide +kernel) (itbF rfl ?_)
      refine teq_go (by rfl) (by decide +kernel) (by decide +kernel) true (by decide +kernel) (itbT rfl ?_)
      have ln := sent_wish (F := F) okk
      refine ⟨_, rfl, _, rfl, _, rfl, B, _, rfl, hg2, ?_⟩
      dsimp only [tNil]
      refine stp_go (13 * wish k) hx okk cw4 ln hfa2 g (by omega) t2 fun r z q' sa la H3 e3 t3 hs => ?_
      refine ⟨r, _, rfl, st hs.at_, rfl, _, _, rfl, _, _, rfl, _, _, rfl, _, _, rfl, rfl, ?_⟩
      have e03 : LamX.ExtN H H3 := (LamX.ExtN.of s12).trans e3
      have hL3 := hL2.en n1 n2 e3
      have hx3 := hx.ti (TI.en e3)
      have hfa3 := hfa2.ti (TI.en e3)
      have ha3 := e3 _ _ ha2 fun _ z => by cases z
      obtain ⟨fa3, hfa3', hg3⟩ := hL3.f.get hF
      obtain ⟨xsS, hsa, dsa⟩ := hs.s
      have hsl := hs.l
      have hsy := hs.y
      have hsq := hs.q
      clear hs
      first | refine tif_n (teq_go (by rfl) (by decide +kernel) (by decide +kernel) false (by decide +kernel) (itbF rfl ?_)) | (refine nx_go ?_; dsimp only; refine tif_n (teq_go (by rfl) (by decide +kernel) (by decide +kernel) false (by decide +kernel) (itbF rfl ?_)))
      have lx := dsa.len
      rw [List.length_map] at lx
      refine nx_go ?_
      dsimp only
      refine tif_n ?_
      refine ⟨_, rfl, a, _, 3, .int n, rfl, rfl, st ha3, atI_nat (j := 3) rfl, _, rfl, sa, _, rfl, .inr (st hsa), n, xsS.length, rfl, rfl, _, rfl, ?_⟩
      by_cases cn : (sentM k F).length < n
      · rw [decide_eq_true (show ((xsS.length : Nat) : Int) < n by omega)]
        rw [goC_br e hF, if_pos cn] at q
        exact itbT rfl (q (.str "refused") H3 ⟨FRM.en e03, t3, hL3⟩ (.str _))
      · rw [decide_eq_false (show ¬ ((xsS.length : Nat) : Int) < n by omega)]
        rw [goC_br e hF, if_neg cn] at q
        refine itbF rfl ?_
        have kb := hb
        have ol : ((sentM k F).take n).length ≤ 3 := by rw [List.length_take]; omega
        have od : ∀ d ∈ (sentM k F).take n, OkD d ∧ NumD d := fun d hd => ⟨(sent_ok okk cw4 d (List.mem_of_mem_take hd)).1, sent_num okk d (List.mem_of_mem_take hd)⟩
        refine ⟨_, rfl, _, rfl, B, _, rfl, hg3 fun _ h => h, _, rfl, _, rfl, a, _, 3, .int n, rfl, rfl, st ha3, atI_nat (j := 3) rfl, n, rfl, slA_go hsa fun a' H4 s4 h4 => ?_⟩
        rw [cut_take] at h4
        dsimp only [tNil]
        refine pl_go b (hfa3'.same s4) g.g.wf (by omega) (.inr h4) (dds_at ((DvA.take n dsa).same s4) od) (canL_all F (fun d hd => sent_can d (List.mem_of_mem_take hd))) (t3.ext s4) fun q2 H5 e5 t5 hq5 => ?_
        have e05 := (e03.trans (LamX.ExtN.of s4)).trans e5
        have hL5 := (hL3.same n1 n2 s4).en n1 n2 e5
        obtain ⟨kv5, hB5, hk5⟩ := id hL5.f
        refine ⟨_, rfl, _, rfl, B, _, rfl, DPut.k (k := encF nm) hB5 (lt1 _ (by rw [ka_len hk5]; exact Nat.le_trans (Nat.succ_le_succ lfs) (by decide))), ?_⟩
        exact q .non _ ⟨(FRM.en e05).mut (by simp), tabs_D hB5 t5, hL5.putF n2 hB5 hq5⟩ .non
    | drop c nm n =>
      obtain ⟨c0, c1, hn, m1⟩ := oc
      obtain ⟨F, hF, g⟩ := gw.get hn
      obtain ⟨fa, hfa, hg⟩ := hL1.f.get hF
      have ha := t4sisi hca1
      refine three_go rfl ha ?_
      refine hN _ _ ?_
      clear hN N
      first | refine tif_n (teq_go (by rfl) (by decide +kernel) (by decide +kernel) false (by decide +kernel) (itbF rfl ?_)) | (refine nx_go ?_; dsimp only; refine tif_n (teq_go (by rfl) (by decide +kernel) (by decide +kernel) false (by decide +kernel) (itbF rfl ?_)))
      first | (refine nx_go ?_; dsimp only; refine seq_opq fun N hN => ?_) | refine seq_opq fun N hN => ?_
      refine ⟨_, rfl, S, rfl, hL1.c.isD, _, rfl, _, rfl, by show 2 ≤ sizeLine; decide, fun kb nkb => ?_⟩
      have s2 := same_new nkb (o := .tup [.int c, .str nm])
      have hL2 := hL1.same n1 n2 s2
      have t2 := t1.ext s2
      have s12 := s1.trans s2
      rcases hL1.c.get (c, nm) with ⟨e, hgc⟩ | ⟨k, x, e, hx1, hgc⟩
      · refine ⟨none, hgc (fun o h => s2 _ _ h) upd_same, ?_⟩
        refine hN _ _ ?_
        clear hN N
        refine ⟨_, rfl, rfl, _, rfl, itbT rfl ?_⟩
        rw [show goC W (.drop c nm n) = (no, W) from onC_no e] at q
        exact q (.str "refused") _ ⟨FRM.en (LamX.ExtN.of s12), t2, hL2⟩ (.str _)
      refine ⟨some (.ref x), hgc (fun o h => s2 _ _ h) upd_same, ?_⟩
      refine hN _ _ ?_
      clear hN N
      first | (refine nx_go ?_; dsimp only; refine seq_opq fun N hN => ?_) | refine seq_opq fun N hN => ?_
      refine ⟨_, rfl, rfl, _, rfl, itbF rfl ?_⟩
      have hx := hx1.same s2
      have ha2 := s2 _ _ ha
      have hfa2 := hfa.same s2
      have okk := gw.cp e
      have hph := phi_le e
      have hgB : ∀ {J : Hp}, Same H1 J → DGet J B (.str nm) (some (.ref fa)) := fun s => hg fun _ h => s _ _ h
      have hg2 := hgB s2
      generalize upd H1 kb (.tup [.int c, .str nm]) = H2 at s2 hL2 t2 s12 hx ha2 hfa2 hg2
      refine hN _ _ ?_
      clear hN N
      refine teq_go (by rfl) (by decide +kernel) (by decide +kernel) false (by decide +kernel) (itbF rfl ?_)
      refine teq_go (by rfl) (by decide +kernel) (by decide +kernel) false (by decide +kernel) (itbF rfl ?_)
      obtain ⟨dcx, fcs, hxi, nox⟩ := hx.no
      first | refine tif_n (teq_go (by rfl) (by decide +kernel) (by decide +kernel) false (by decide +kernel) (itbF rfl ?_)) | (refine nx_go ?_; dsimp only; refine tif_n (teq_go (by rfl) (by decide +kernel) (by decide +kernel) false (by decide +kernel) (itbF rfl ?_)))
      refine nx_go ?_
      dsimp only
      refine tif_n ?_
      have lc := okk.ls.len
      refine ⟨_, rfl, a, _, 3, .int n, rfl, rfl, st ha2, atI_nat (j := 3) rfl, _, rfl, x, dcx, _, rfl, hxi, nox (by decide +kernel), x, k, rfl, hx, fun l2 xs2 H3 s3 nl2 hl2 dl2 => ⟨l2, rfl, ⟨_, sq hl2⟩, fun M nM => ?_⟩⟩
      have lx2 := dl2.len
      rw [List.length_map] at lx2
      refine lc_sel (walk_list (K := K)) (R := fun y (l : CL) => Dv H3 y (clD l)) (ls := k.ls) (out := fun y (n : Int) => y = V.int n) (a2_of dl2) nM (fun G s => sq (s _ _ hl2)) (by omega) (fun l => some l.n) ?_ ?_
      · rintro y l G2 T S' hy hm s4 hT hS'
        obtain ⟨ta, sa', wv, rfl, hta, hsa', hw⟩ := dv_cl hy
        exact ⟨rfl, tyes ⟨_, rfl, ta, _, 0, .int l.n, rfl, rfl, st (s4 _ _ hta), atI_nat (j := 0) rfl, hT _ l.n G2 (fun _ _ h => h) rfl rfl⟩⟩
      intro H4 acc s4 hacc h4
      rw [h4.vals, fm_map] at hacc
      refine ⟨M, _, rfl, .inl (sq hacc), rfl, flat_ints _, _, rfl, ?_⟩
      show (if (!inV (V.int n) ((k.ls.map (·.n)).map V.int)) = true then _ else _)
      rw [inV_ints]
      have s34 := s3.trans s4
      have s04 := s12.trans s34
      have hL4 := hL2.same n1 n2 s34
      have t4 := t2.ext s34
      by_cases hm : n ∈ k.ls.map (·.n)
      case neg =>
        rw [decide_eq_false hm]
        rw [goC_dr e, if_neg hm] at q
        exact itbT rfl (q (.str "refused") H4 ⟨FRM.en (LamX.ExtN.of s04), t4, hL4⟩ (.str _))
      rw [decide_eq_true hm]
      rw [goC_dr e, if_pos hm] at q
      refine itbF rfl ?_
      refine nx_go ?_
      dsimp only
      refine teq_go (by rfl) (by decide +kernel) (by decide +kernel) false (by decide +kernel) (itbF rfl ?_)
      refine ⟨_, rfl, x, dcx, _, rfl, s34 _ _ hxi, nox (by decide +kernel), _, rfl, a, _, 3, .int n, rfl, rfl, st (s34 _ _ ha2), atI_nat (j := 3) rfl, ?_⟩
      dsimp only [tNil]
      refine drX_go (hx.same s34) okk m1 hm fun y H5 s5 ny hy => ⟨_, rfl, _, rfl, _, rfl, by show 2 ≤ sizeLine; decide, ?_⟩
      exact lput_copy n1 n2 (hL4.same n1 n2 s5) lcs (t4.ext s5) (FRM.en (LamX.ExtN.of (s04.trans s5))) hy fun H6 w6 => q .non H6 w6 .non
    | want c nm n ss =>
      obtain ⟨c0, c1, hn, m1, os⟩ := oc
      obtain ⟨F, hF, g⟩ := gw.get hn
      obtain ⟨fa, hfa, hg⟩ := hL1.f.get hF
      obtain ⟨x5, ha, h5⟩ := t5sisid hca1
      obtain ⟨sa, rfl, hsa⟩ := dv_ss h5
      refine three_go rfl ha ?_
      refine hN _ _ ?_
      clear hN N
      first | refine tif_n (teq_go (by rfl) (by decide +kernel) (by decide +kernel) false (by decide +kernel) (itbF rfl ?_)) | (refine nx_go ?_; dsimp only; refine tif_n (teq_go (by rfl) (by decide +kernel) (by decide +kernel) false (by decide +kernel) (itbF rfl ?_)))
      first | (refine nx_go ?_; dsimp only; refine seq_opq fun N hN => ?_) | refine seq_opq fun N hN => ?_
      refine ⟨_, rfl, S, rfl, hL1.c.isD, _, rfl, _, rfl, by show 2 ≤ sizeLine; decide, fun kb nkb => ?_⟩
      have s2 := same_new nkb (o := .tup [.int c, .str nm])
      have hL2 := hL1.same n1 n2 s2
      have t2 := t1.ext s2
      have s12 := s1.trans s2
      rcases hL1.c.get (c, nm) with ⟨e, hgc⟩ | ⟨k, x, e, hx1, hgc⟩
      · refine ⟨none, hgc (fun o h => s2 _ _ h) upd_same, ?_⟩
        refine hN _ _ ?_
        clear hN N
        refine ⟨_, rfl, rfl, _, rfl, itbT rfl ?_⟩
        rw [show goC W (.want c nm n ss) = (no, W) from onC_no e] at q
        exact q (.str "refused") _ ⟨FRM.en (LamX.ExtN.of s12), t2, hL2⟩ (.str _)
      refine ⟨some (.ref x), hgc (fun o h => s2 _ _ h) upd_same, ?_⟩
      refine hN _ _ ?_
      clear hN N
      first | (refine nx_go ?_; dsimp only; refine seq_opq fun N hN => ?_) | refine seq_opq fun N hN => ?_
      refine ⟨_, rfl, rfl, _, rfl, itbF rfl ?_⟩
      have hx := hx1.same s2
      have ha2 := s2 _ _ ha
      have hfa2 := hfa.same s2
      have okk := gw.cp e
      have hph := phi_le e
      have hgB : ∀ {J : Hp}, Same H1 J → DGet J B (.str nm) (some (.ref fa)) := fun s => hg fun _ h => s _ _ h
      have hg2 := hgB s2
      have hsa2 := s2 _ _ hsa
      generalize upd H1 kb (.tup [.int c, .str nm]) = H2 at s2 hL2 t2 s12 hx ha2 hfa2 hg2 hsa2
      refine hN _ _ ?_
      clear hN N
      refine teq_go (by rfl) (by decide +kernel) (by decide +kernel) false (by decide +kernel) (itbF rfl ?_)
      refine teq_go (by rfl) (by decide +kernel) (by decide +kernel) false (by decide +kernel) (itbF rfl ?_)
      obtain ⟨dcx, fcs, hxi, nox⟩ := hx.no
      first | refine tif_n (teq_go (by rfl) (by decide +kernel) (by decide +kernel) false (by decide +kernel) (itbF rfl ?_)) | (refine nx_go ?_; dsimp only; refine tif_n (teq_go (by rfl) (by decide +kernel) (by decide +kernel) false (by decide +kernel) (itbF rfl ?_)))
      refine nx_go ?_
      dsimp only
      refine tif_n ?_
      have lc := okk.ls.len
      refine ⟨_, rfl, a, _, 3, .int n, rfl, rfl, st ha2, atI_nat (j := 3) rfl, _, rfl, x, dcx, _, rfl, hxi, nox (by decide +kernel), x, k, rfl, hx, fun l2 xs2 H3 s3 nl2 hl2 dl2 => ⟨l2, rfl, ⟨_, sq hl2⟩, fun M nM => ?_⟩⟩
      have lx2 := dl2.len
      rw [List.length_map] at lx2
      refine lc_sel (walk_list (K := K)) (R := fun y (l : CL) => Dv H3 y (clD l)) (ls := k.ls) (out := fun y (n : Int) => y = V.int n) (a2_of dl2) nM (fun G s => sq (s _ _ hl2)) (by omega) (fun l => some l.n) ?_ ?_
      · rintro y l G2 T S' hy hm s4 hT hS'
        obtain ⟨ta, sa', wv, rfl, hta, hsa', hw⟩ := dv_cl hy
        exact ⟨rfl, tyes ⟨_, rfl, ta, _, 0, .int l.n, rfl, rfl, st (s4 _ _ hta), atI_nat (j := 0) rfl, hT _ l.n G2 (fun _ _ h => h) rfl rfl⟩⟩
      intro H4 acc s4 hacc h4
      rw [h4.vals, fm_map] at hacc
      refine ⟨M, _, rfl, .inl (sq hacc), rfl, flat_ints _, _, rfl, ?_⟩
      show (if (!inV (V.int n) ((k.ls.map (·.n)).map V.int)) = true then _ else _)
      rw [inV_ints]
      have s34 := s3.trans s4
      have s04 := s12.trans s34
      have hL4 := hL2.same n1 n2 s34
      have t4 := t2.ext s34
      by_cases hm : n ∈ k.ls.map (·.n)
      case neg =>
        rw [decide_eq_false hm]
        rw [goC_wa e, if_neg hm] at q
        exact itbT rfl (q (.str "refused") H4 ⟨FRM.en (LamX.ExtN.of s04), t4, hL4⟩ (.str _))
      rw [decide_eq_true hm]
      rw [goC_wa e, if_pos hm] at q
      refine itbF rfl ?_
      refine nx_go ?_
      dsimp only
      refine teq_go (by rfl) (by decide +kernel) (by decide +kernel) true (by decide +kernel) (itbT rfl ?_)
      refine ⟨_, rfl, x, dcx, _, rfl, s34 _ _ hxi, nox (by decide +kernel), _, rfl, a, _, 3, .int n, rfl, rfl, st (s34 _ _ ha2), atI_nat (j := 3) rfl, _, rfl, a, _, 4, .ref sa, rfl, rfl, st (s34 _ _ ha2), atI_nat (j := 4) rfl, ?_⟩
      dsimp only [tNil]
      refine wtX_go (hx.same s34) okk m1 (s34 _ _ hsa2) os hm fun y H5 s5 ny hy => ⟨_, rfl, _, rfl, _, rfl, by show 2 ≤ sizeLine; decide, ?_⟩
      exact lput_copy n1 n2 (hL4.same n1 n2 s5) lcs (t4.ext s5) (FRM.en (LamX.ExtN.of (s04.trans s5))) hy fun H6 w6 => q .non H6 w6 .non
    | make c nm n ss =>
      obtain ⟨c0, c1, hn, m1, os⟩ := oc
      obtain ⟨F, hF, g⟩ := gw.get hn
      obtain ⟨fa, hfa, hg⟩ := hL1.f.get hF
      obtain ⟨x5, ha, h5⟩ := t5sisid hca1
      obtain ⟨sa, rfl, hsa⟩ := dv_ss h5
      refine three_go rfl ha ?_
      refine hN _ _ ?_
      clear hN N
      first | refine tif_n (teq_go (by rfl) (by decide +kernel) (by decide +kernel) false (by decide +kernel) (itbF rfl ?_)) | (refine nx_go ?_; dsimp only; refine tif_n (teq_go (by rfl) (by decide +kernel) (by decide +kernel) false (by decide +kernel) (itbF rfl ?_)))
      first | (refine nx_go ?_; dsimp only; refine seq_opq fun N hN => ?_) | refine seq_opq fun N hN => ?_
      refine ⟨_, rfl, S, rfl, hL1.c.isD, _, rfl, _, rfl, by show 2 ≤ sizeLine; decide, fun kb nkb => ?_⟩
      have s2 := same_new nkb (o := .tup [.int c, .str nm])
      have hL2 := hL1.same n1 n2 s2
      have t2 := t1.ext s2
      have s12 := s1.trans s2
      rcases hL1.c.get (c, nm) with ⟨e, hgc⟩ | ⟨k, x, e, hx1, hgc⟩
      · refine ⟨none, hgc (fun o h => s2 _ _ h) upd_same, ?_⟩
        refine hN _ _ ?_
        clear hN N
        refine ⟨_, rfl, rfl, _, rfl, itbT rfl ?_⟩
        rw [show goC W (.make c nm n ss) = (no, W) from onC_no e] at q
        exact q (.str "refused") _ ⟨FRM.en (LamX.ExtN.of s12), t2, hL2⟩ (.str _)
      refine ⟨some (.ref x), hgc (fun o h => s2 _ _ h) upd_same, ?_⟩
      refine hN _ _ ?_
      clear hN N
      first | (refine nx_go ?_; dsimp only; refine seq_opq fun N hN => ?_) | refine seq_opq fun N hN => ?_
      refine ⟨_, rfl, rfl, _, rfl, itbF rfl ?_⟩
      have hx := hx1.same s2
      have ha2 := s2 _ _ ha
      have hfa2 := hfa.same s2
      have okk := gw.cp e
      have hph := phi_le e
      have hgB : ∀ {J : Hp}, Same H1 J → DGet J B (.str nm) (some (.ref fa)) := fun s => hg fun _ h => s _ _ h
      have hg2 := hgB s2
      have hsa2 := s2 _ _ hsa
      generalize upd H1 kb (.tup [.int c, .str nm]) = H2 at s2 hL2 t2 s12 hx ha2 hfa2 hg2 hsa2
      refine hN _ _ ?_
      clear hN N
      refine teq_go (by rfl) (by decide +kernel) (by decide +kernel) false (by decide +kernel) (itbF rfl ?_)
      refine teq_go (by rfl) (by decide +kernel) (by decide +kernel) false (by decide +kernel) (itbF rfl ?_)
      obtain ⟨dcx, fcs, hxi, nox⟩ := hx.no
      first | refine tif_n (teq_go (by rfl) (by decide +kernel) (by decide +kernel) true (by decide +kernel) (itbT rfl ?_)) | (refine nx_go ?_; dsimp only; refine tif_n (teq_go (by rfl) (by decide +kernel) (by decide +kernel) true (by decide +kernel) (itbT rfl ?_)))
      rw [goC_mk e] at q
      have hm : k.md.length ≤ wish k := Nat.le_add_left _ _
      refine ⟨_, rfl, x, dcx, _, rfl, hxi, nox (by decide +kernel), _, rfl, a, _, 3, .int n, rfl, rfl, st ha2, atI_nat (j := 3) rfl, _, rfl, a, _, 4, .ref sa, rfl, rfl, st ha2, atI_nat (j := 4) rfl, ?_⟩
      dsimp only [tNil]
      refine mkg_go hx okk (by omega) hsa2 os (by omega) fun y H5 s5 ny hy => ⟨_, rfl, _, rfl, _, rfl, by show 2 ≤ sizeLine; decide, ?_⟩
      exact lput_copy n1 n2 (hL2.same n1 n2 s5) lcs (t2.ext s5) (FRM.en (LamX.ExtN.of (s12.trans s5))) hy fun H6 w6 => q .non H6 w6 .non
end
end K1
set_option Elab.async false
set_option linter.all false
set_option maxRecDepth 100000
set_option maxHeartbeats 2000000
/-! Folder.__eq__ and what lists that hold folders are equal by. -/
namespace K1
open PySem PySem.Spec PyProof.Rows L2 RZ
noncomputable abbrev sEq : Stmt := mS 1
noncomputable abbrev nEq : List Str := ["self", "other"]
theorem scEq : FnScope nEq nEq (defScope sEq) := ⟨rfl, rfl, rfl, by decide +kernel, rfl, by decide +kernel, by decide +kernel⟩
theorem FoAt.ex {C p : Addr} {H H' : Hp} {F : Fo} (h : FoAt C H p F) (s : L2.Ext H H') : FoAt C H' p F := h.same fun b o hb => s b o hb
/-- the two are folders with the same in them -/
noncomputable def FoEq (C : Addr) (a b : Addr) (H : Hp) : Prop := ∃ F, FoAt C H a F ∧ FoAt C H b F ∧ ∀ l ∈ F.ls, OkSs l.s
theorem lt_lay {l : Lt} (h : OkSs l.s) : PyData.canLay0 (ltD l) = true ∧ PyData.depth (ltD l) ≤ 2 := by
  obtain ⟨h1, h2⟩ := g_lay h.ok
  refine ⟨?_, ?_⟩
  · show (true && (true && (PyData.canLayAll0 (l.s.map PyData.str) && (true && true)))) = true
    rw [h1]; rfl
  · show max 0 (max 0 (max (PyData.depthAll (l.s.map PyData.str) + 1) (max 0 0))) + 1 ≤ 2
    omega
theorem lts_lay : ∀ {ls : List Lt}, (∀ l ∈ ls, OkSs l.s) → PyData.canLayAll0 (ls.map ltD) = true ∧ PyData.depthAll (ls.map ltD) ≤ 2
  | [], _ => ⟨rfl, Nat.zero_le _⟩
  | l :: r, h => by
    obtain ⟨h1, h2⟩ := lts_lay fun x hx => h x (List.mem_cons_of_mem _ hx)
    obtain ⟨g1, g2⟩ := lt_lay (h l List.mem_cons_self)
    refine ⟨?_, ?_⟩
    · show (PyData.canLay0 (ltD l) && PyData.canLayAll0 (r.map ltD)) = true
      rw [g1, h1]; rfl
    · show max (PyData.depth (ltD l)) (PyData.depthAll (r.map ltD)) ≤ 2
      omega
theorem lts_shT {ls : List Lt} (h : ∀ l ∈ ls, OkSs l.s) : SeqAt.shaped (lsD ls) = true := by
  obtain ⟨h1, h2⟩ := lts_lay h
  unfold SeqAt.shaped
  have e1 : PyData.canLay0 (lsD ls) = true := h1
  have e2 : PyData.depth (lsD ls) ≤ 64 := by show PyData.depthAll (ls.map ltD) + 1 ≤ 64; omega
  rw [e1, decide_eq_true e2]; rfl
theorem gos_lay : ∀ (go : List (Int × Int)), PyData.canLayAll0 (go.map goD) = true ∧ PyData.depthAll (go.map goD) ≤ 1
  | [] => ⟨rfl, Nat.zero_le _⟩
  | g :: r => by
    obtain ⟨h1, h2⟩ := gos_lay r
    refine ⟨?_, ?_⟩
    · show ((true && (true && true)) && PyData.canLayAll0 (r.map goD)) = true
      rw [h1]; rfl
    · show max (max 0 (max 0 0) + 1) (PyData.depthAll (r.map goD)) ≤ 1
      omega
theorem gos_sh (go : List (Int × Int)) : SeqAt.shaped (gsD go) = true := by
  obtain ⟨h1, h2⟩ := gos_lay go
  unfold SeqAt.shaped
  have e1 : PyData.canLay0 (gsD go) = true := h1
  have e2 : PyData.depth (gsD go) ≤ 64 := by show PyData.depthAll (go.map goD) + 1 ≤ 64; omega
  rw [e1, decide_eq_true e2]; rfl
theorem lts_nd : ∀ ls : List Lt, noDicA (ls.map ltD) = true
  | [] => rfl
  | l :: r => by
    show ((true && (true && (noDicA (l.s.map PyData.str) && (true && true)))) && noDicA (r.map ltD)) = true
    rw [nd_strs, lts_nd r]; rfl
theorem gos_nd : ∀ go : List (Int × Int), noDicA (go.map goD) = true
  | [] => rfl
  | g :: r => by
    show ((true && (true && true)) && noDicA (r.map goD)) = true
    rw [gos_nd r]; rfl
theorem eqv_same {d : PyData} (h : SeqAt.shaped d = true) : PyData.eqv d d = true := SeqAt.eqv_refl _ (SeqAt.canLay_of_shaped h)
section
variable {P : Program} {w : World} {K : PySem.W.Frag} {mg : Str → Option Value} {base : Heap} {C : Addr}
set_option maxHeartbeats 8000000 in
theorem ok_eq {f : Addr} {fd : FuncData} (T : Bk mg) (t : ClT K mg C) (iC : C8.InsC K C) (F : Fun K "__eq__" "Folder.__eq__" sEq f fd) : FnOk P w K mg base CX0 1 f fd nEq (spEq (FoEq C)) := by
  have nd := scEq.nd
  refine F.ok scEq (fun vs H Q E h => ?_) (fun cdv A outer s H vs Q E hr h => ?_)
  · obtain ⟨a, b, rfl, _⟩ := h
    rfl
  · obtain ⟨a, b, rfl, ⟨F, hA, hB, hs⟩, q⟩ := h
    refine ⟨_, (pss_one (ps_ret (pe_and (pe_callB (C8.call_isC iC) (by rfl) T.isinstance PyProof.Rows.boot_isinstance (pa_cons (pv 1) (pa_cons (pe_glob (v := .ref C) rfl t.gC rfl) pa_nil)))
      (pe_and (pe_cmpR op_eq (pe_fld (pv 0) rfl) (pe_fld (pv 1) rfl) (nomark _)) (pe_and (pe_cmpR (op_eqDK (K := K) rfl hr.units) (pe_fld (pv 0) rfl) (pe_fld (pv 1) rfl) (nomark _)) (pe_and (pe_cmpR op_eq (pe_fld (pv 0) rfl) (pe_fld (pv 1) rfl) (nomark _)) (pe_and (pe_cmpR op_eq (pe_fld (pv 0) rfl) (pe_fld (pv 1) rfl) (nomark _))
       (pe_and (pe_cmpR (op_eqDK (K := K) rfl hr.units) (pe_fld (pv 0) rfl) (pe_fld (pv 1) rfl) (nomark _)) (pe_one (pe_cmpR op_eq (pe_fld (pv 0) rfl) (pe_fld (pv 1) rfl) (nomark _))))))))))), ?_⟩
    obtain ⟨dA, lA, gA, pA, a1, a2⟩ := hA
    obtain ⟨dB, lB, gB, pB, b1, b2⟩ := hB
    have shL := lts_shT hs
    have shG := gos_sh F.go
    refine ⟨_, rfl, b, dB, _, rfl, pB, _, rfl, itbT rfl ?_⟩
    refine ⟨_, rfl, a, C, dA, _, _, rfl, pA, t.cl, t.nA, fl_age, _, rfl, b, C, dB, _, _, rfl, pB, t.cl, t.nA, fl_age, rfl, _, rfl, itbT (decide_eq_true rfl) ?_⟩
    refine ⟨_, rfl, a, C, dA, _, _, rfl, pA, t.cl, t.nL, fl_let, _, rfl, b, C, dB, _, _, rfl, pB, t.cl, t.nL, fl_let, _, _, a1.dp (lts_nd F.ls), b1.dp (lts_nd F.ls), shL, shL, _, rfl, itbT (eqv_same shL) ?_⟩
    refine ⟨_, rfl, a, C, dA, _, _, rfl, pA, t.cl, t.nN, fl_nx, _, rfl, b, C, dB, _, _, rfl, pB, t.cl, t.nN, fl_nx, rfl, _, rfl, itbT (decide_eq_true rfl) ?_⟩
    refine ⟨_, rfl, a, C, dA, _, _, rfl, pA, t.cl, t.nM, fl_mk, _, rfl, b, C, dB, _, _, rfl, pB, t.cl, t.nM, fl_mk, rfl, _, rfl, itbT (decide_eq_true rfl) ?_⟩
    refine ⟨_, rfl, a, C, dA, _, _, rfl, pA, t.cl, t.nG, fl_gone, _, rfl, b, C, dB, _, _, rfl, pB, t.cl, t.nG, fl_gone, _, _, a2.dp (gos_nd F.go), b2.dp (gos_nd F.go), shG, shG, _, rfl, itbT (eqv_same shG) ?_⟩
    refine ⟨_, rfl, a, C, dA, _, _, rfl, pA, t.cl, t.nC, fl_cut, _, rfl, b, C, dB, _, _, rfl, pB, t.cl, t.nC, fl_cut, rfl, ?_⟩
    have fin := q H (fun _ _ h => h)
    rw [show (true : Bool) = decide (V.int F.ct = V.int F.ct) by simp] at fin
    exact fin
end
end K1
set_option Elab.async false
set_option linter.all false
set_option maxRecDepth 100000
set_option maxHeartbeats 2000000
/-! For the law's loop: what is told can be compared; a dict of pairs; folders and copies that are alike. -/
namespace K1
open PySem PySem.Spec PyProof.Rows L2 RZ StX
theorem lay_dd {d : Dd} (o : OkD d) : LayD 2 (ddT d) := by
  cases d with
  | app b ss => exact .tup (.cons (.str (by decide +kernel)) (.cons (.int _) (.cons (lay_ss o.2.ok) .nil)))
  | add ns z => exact .tup (.cons (.str (by decide +kernel)) (.cons (.tup (LayA.map (k := 0) fun n _ => .int n)) (.cons (.str (strOk_of o)) .nil)))
  | take ns z => exact .tup (.cons (.str (by decide +kernel)) (.cons (.tup (LayA.map (k := 0) fun n _ => .int n)) (.cons (.str (strOk_of o)) .nil)))
  | set ns zs => exact .tup (.cons (.str (by decide +kernel)) (.cons (.tup (LayA.map (k := 0) fun n _ => .int n)) (.cons (lay_ss o.ok) .nil)))
  | rem ns => exact .tup (.cons (.str (by decide +kernel)) (.cons (.tup (LayA.map (k := 0) fun n _ => .int n)) .nil))
  | trim m => exact .tup (.cons (.str (by decide +kernel)) (.cons (.int _) .nil))
theorem lay_dds {ds : List Dd} (o : ∀ d ∈ ds, OkD d) : LayD 3 (.tuple (ds.map ddT)) := .tup (LayA.map fun d hd => lay_dd (o d hd))
theorem lay_intsT (ns : List Int) : LayD 1 (intsD ns) := .tup (LayA.map (k := 0) fun n _ => .int n)
theorem toldW_ok (c : Cp) (F : Fo) : PyData.strOk (toldW c F) = true := by
  unfold toldW
  split
  · split <;> decide +kernel
  · decide +kernel
theorem lay_step {c : Cp} {F : Fo} (o : OkCp c) : LayD 4 (stepD c F) :=
  .tup (.cons ((show LayD 2 (toldD c F) from .tup (.cons (.str (toldW_ok c F)) (.cons (lay_intsT _) (.cons (lay_intsT _) .nil)))).mono (by decide)) (.cons (lay_dds fun d hd => (sent_ok o cw4 d hd).1) (.cons ((lay_intsT _).mono (by decide)) .nil)))
theorem lay_no : LayD 4 no := .str (by decide +kernel)
theorem lay_go {ns : List Str} {cl : Int} {t B : Nat} {W : Wd} (h : GoodW ns cl t B W) : ∀ ca : Ca, LayD 4 (goC W ca).1 := by
  intro ca
  have hn : LayD 4 PyData.none := .non
  cases ca with
  | act nm d => simp only [goC]; split; exact lay_no; split; exact hn; exact lay_no
  | remake nm => exact hn
  | swap nm ot => simp only [goC]; split; exact lay_no; split; exact hn; exact lay_no
  | fetch c nm => simp only [goC]; split; exact lay_no; exact hn
  | want c nm n ss => simp only [goC, onC]; split; exact lay_no; split; exact hn; exact lay_no
  | drop c nm n => simp only [goC, onC]; split; exact lay_no; split; exact hn; exact lay_no
  | make c nm n ss => simp only [goC, onC]; split; exact lay_no; exact hn
  | step c nm => simp only [goC, onC]; split; exact lay_no; split; exact lay_no; rename_i k hk _ F hF; exact lay_step (h.cp hk)
  | breaks c nm n => simp only [goC, onC]; split; exact lay_no; split; exact lay_no; split; exact lay_no; exact hn
/-! ### dict of pairs -/
theorem mergeK_app : ∀ (ms acc : List (L2.Key × V)), ((acc ++ ms).map (·.1)).Nodup → mergeK acc ms = acc ++ ms
  | [], acc, _ => by rw [List.append_nil]; rfl
  | m :: r, acc, h => by
    show mergeK (putK acc m.1 m.2) r = _
    have e : putK acc m.1 m.2 = acc ++ [m] := by
      unfold putK
      rw [if_neg]
      intro z
      obtain ⟨x, hx, hx2⟩ := List.any_eq_true.mp z
      rw [List.map_append, List.nodup_append] at h
      exact h.2.2 x.1 (List.mem_map.mpr ⟨x, hx, rfl⟩) m.1 (by rw [List.map_cons]; exact List.mem_cons_self) (of_decide_eq_true hx2)
    rw [e, mergeK_app r (acc ++ [m]) (by rw [List.append_assoc]; exact h), List.append_assoc]; rfl
noncomputable def rDictK : List V → Hp → VK → Prop := fun xs H Q => ∃ (a : Addr) (ys : List V) (kvs : List (L2.Key × V)), xs = [.ref a] ∧ H a = some (.lst ys) ∧ Paired (fun (x : V) (kv : L2.Key × V) => ∃ t, x = .ref t ∧ H t = some (.tup [kV kv.1, kv.2])) ys kvs ∧ (kvs.map (·.1)).Nodup ∧ ∀ p, H p = none → Q (.ref p) (upd H p (.dK kvs))
theorem krK_pair {K : PySem.W.Frag} {H : Hp} : ∀ {ys : List V} {ms : List (L2.Key × V)}, Paired (fun (x : V) (kv : L2.Key × V) => ∃ t, x = .ref t ∧ H t = some (.tup [kV kv.1, kv.2])) ys ms → ∃ ps : List Addr, ys = ps.map V.ref ∧ Paired (fun p (kv : L2.Key × V) => SqT K H p [kV kv.1, kv.2]) ps ms
  | _, _, .nil => ⟨[], rfl, .nil⟩
  | _, _, .cons ⟨t, e, h⟩ r => by
    obtain ⟨ps, e2, hp⟩ := krK_pair (K := K) r
    exact ⟨t :: ps, by rw [e, e2]; rfl, .cons (st h) hp⟩
theorem cr_dictK {X : Cx} (hc : X.calm = true) : CallR X (.type "dict") rDictK := by
  intro pins s σ H xs us Q I r ⟨a, ys, ms, e, ha, hA, hn, q⟩
  obtain ⟨ps, e2, hp⟩ := krK_pair (K := X.K) hA
  refine call_dictP hc pins s σ H xs us Q I r ⟨a, ps, ms, e, by rw [← e2]; exact sq ha, hp, fun p np => ?_⟩
  rw [mergeK_app ms [] hn]
  exact q p np
/-! ### alike -/
noncomputable abbrev FoE (C : Addr) : Addr → Addr → Bool → Hp → Prop := fun a b r H => r = true ∧ FoEq C a b H
section
variable {P : Program} {w : World} {K : PySem.W.Frag} {mg : Str → Option Value} {base : Heap} {C CC : Addr}
theorem eqM_fo {f : Addr} {fd : FuncData} (F : FnOk P w K mg base CX0 1 f fd nEq (spEq (FoEq C))) (h1 : PySem.W.findIn K (.ref C) "__eq__" = some (some (.ref f))) (h2 : PySem.W.isFn K (.ref f) = true) (h3 : Binds K fd nEq [])
    (h4 : PySem.W.findIn K (.ref C) "__ne__" = some (some (.builtin "object.__ne__"))) (h5 : PySem.W.mroIn K C (.type "object") = some true) : EqM P w K mg base 1 C (FoE C) :=
  ⟨⟨f, fd, nEq, F.imp fun vs H Q E h => by
    obtain ⟨a, b, r, e, ⟨rfl, hR⟩, q⟩ := h
    exact ⟨a, b, e, hR, q⟩, h1, h2, h3⟩, h4, h5⟩
end
theorem ne_fo {C a b : Addr} {F : Fo} {H : Hp} {Q : VK} (h1 : FoAt C H a F) (h2 : FoAt C H b F) (os : ∀ l ∈ F.ls, OkSs l.s) (q : ∀ H', Same H H' → Q (.bl false) H') : rNeI C (FoE C) (.ref a) (.ref b) H Q := by
  obtain ⟨dx, _, _, e1, _⟩ := id h1
  obtain ⟨dy, _, _, e2, _⟩ := id h2
  exact ⟨true, ⟨a, b, dx, dy, _, _, rfl, rfl, e1, e2, rfl, F, h1, h2, os⟩, fun H' s => q H' fun b o hb => s b o hb⟩
theorem pe_revLK {X : Cx} {K : PySem.W.Frag} {e : Expr} {te : TE} {k : Nat} {p1 p2 p3 pos : Pos} (h : X.K = K) (he : PE X e te) : PE X (.Subscript e (.Slice none none (some (.UnaryOp .USub (.Constant (.int 1) k p1) p2)) p3) pos) (tRevL K te) := by subst h; exact pe_revL he
end K1
set_option Elab.async false
set_option linter.all false
set_option maxRecDepth 100000
set_option maxHeartbeats 8000000
/-! _law_right. -/
namespace K1
open PySem PySem.Spec PyProof.Rows L2 RZ StX
noncomputable abbrev sRt : Stmt := st__law_right
noncomputable abbrev nRt : List Str := ["_law_well_here", "_law_names", "_law_clients", "_law_ages", "_law_world", "_law_boxes", "_law_sheets", "_law_turn", "_law_call_here", "_law_name", "_law_client", "_law_at"]
noncomputable abbrev pRt : List Str := ["_law_well_here"]
theorem scRt : FnScope nRt pRt (defScope sRt) := ⟨rfl, rfl, rfl, by decide +kernel, rfl, by decide +kernel, by decide +kernel⟩
noncomputable def spRt (PA PT PS : Addr) : Sp := fun vs H Q _ => ∃ p : Addr, vs = [.ref p] ∧ WellAt H p ∧ LamX.Tabs (T3 PA PT PS) H ∧ ∀ H', ENL p H H' → WellAt H' p → LamX.Tabs (T3 PA PT PS) H' → Q (.bl true) H'
noncomputable def n4 : List Str := ["inbox", "old", "a", "zz"]
theorem okN_sub {ns ms : List Str} (h : ns.Sublist ms) (ok : ∀ n ∈ ms, okS n = true) (nd : ms.Nodup) (l1 : 1 ≤ ns.length) (l4 : ns.length ≤ 4) : OkN ns := ⟨fun n hn => ok n (h.subset hn), nd.sublist h, l1, l4⟩
theorem n4_ok : ∀ n ∈ n4, okS n = true := by decide +kernel
theorem n4_nd : n4.Nodup := by decide +kernel
theorem OkN.rev {ns : List Str} (h : OkN ns) : OkN ns.reverse := ⟨fun n hn => h.ok n (List.mem_reverse.mp hn), (List.reverse_perm ns).nodup_iff.mpr h.nd, by rw [List.length_reverse]; exact h.l1, by rw [List.length_reverse]; exact h.l4⟩
theorem ka_keys {κ κ' β : Type} [DecidableEq κ] [DecidableEq κ'] {enc : κ → κ'} {R : V → β → Prop} : ∀ {kvs : List (κ' × V)} {xs : List (κ × β)}, KA enc R kvs xs → kvs.map (·.1) = xs.map (fun x => enc x.1)
  | _, _, .nil => rfl
  | _, _, .cons h r => by rw [List.map_cons, List.map_cons, h.1, ka_keys r]
section
variable {K : PySem.W.Frag} {C CC WC PA PT PS p0 na p D E B S A : Addr} {G G' : Hp} {W : Wd}
theorem WAt.tj (h : WAt K C CC WC G p D E W) (f : FRM [p, D, E] G G') : TJ WC G G' := by
  obtain ⟨dx, hp⟩ := h.at_
  obtain ⟨kv, hD, _⟩ := h.f
  obtain ⟨kw, hE, _⟩ := h.c
  refine ⟨fun b xs hb => f b _ (fun z => ?_) (fun _ z => by cases z) hb, fun b C' dy fs n hb => f b _ (fun z => ?_) (fun _ z => by cases z) hb⟩
  · simp only [List.mem_cons, List.not_mem_nil, or_false] at z
    rcases z with rfl | rfl | rfl
    · rw [hp] at hb; cases hb
    · rw [hD] at hb; cases hb
    · rw [hE] at hb; cases hb
  · simp only [List.mem_cons, List.not_mem_nil, or_false] at z
    rcases z with rfl | rfl | rfl
    · rw [hp] at hb; cases hb; exact n rfl
    · rw [hD] at hb; cases hb
    · rw [hE] at hb; cases hb
theorem LAt.ti (h : LAt K C CC G B S A W) (f : FRM [B, S, A] G G') : TI G G' := by
  obtain ⟨kv, hD, _⟩ := h.f
  obtain ⟨kw, hE, _⟩ := h.c
  have ha := h.a
  refine ⟨fun b xs hb => f b _ (fun z => ?_) (fun _ z => by cases z) hb, fun b C' dy fs hb => f b _ (fun z => ?_) (fun _ z => by cases z) hb⟩ <;>
  · simp only [List.mem_cons, List.not_mem_nil, or_false] at z
    rcases z with rfl | rfl | rfl
    · rw [hD] at hb; cases hb
    · rw [hE] at hb; cases hb
    · rw [ha] at hb; cases hb
/-- all the things are different -/
noncomputable def Df (p0 na p D E B S A : Addr) : Prop := [p0, na, p, D, E, B, S, A].Nodup
theorem LAt.frm (h : LAt K C CC G B S A W) (n1 : C ≠ WC) (n2 : CC ≠ WC) {L : List Addr} (f : FRM L G G') (t : TJ WC G G') (hB : B ∉ L) (hS : S ∉ L) (hA : A ∉ L) : LAt K C CC G' B S A W :=
  ⟨h.f.tj n1 t (fun o e => by
    obtain ⟨kv, hD, _⟩ := h.f
    rw [hD] at e; cases e
    exact f _ _ hB (fun _ z => by cases z) hD), h.c.tj n2 t (fun o e => by
    obtain ⟨kv, hD, _⟩ := h.c
    rw [hD] at e; cases e
    exact f _ _ hS (fun _ z => by cases z) hD), f _ _ hA (fun _ z => by cases z) h.a⟩
theorem WAt.frm (h : WAt K C CC WC G p D E W) (n1 : C ≠ WC) (n2 : CC ≠ WC) {L : List Addr} (f : FRM L G G') (t : TJ WC G G') (hp : p ∉ L) (hD : D ∉ L) (hE : E ∉ L) : WAt K C CC WC G' p D E W :=
  ⟨let ⟨dx, e⟩ := h.at_; ⟨dx, f _ _ hp (fun _ z => by cases z) e⟩, h.f.tj n1 t (fun o e => by
    obtain ⟨kv, hD', _⟩ := h.f
    rw [hD'] at e; cases e
    exact f _ _ hD (fun _ z => by cases z) hD'), h.c.tj n2 t (fun o e => by
    obtain ⟨kv, hE', _⟩ := h.c
    rw [hE'] at e; cases e
    exact f _ _ hE (fun _ z => by cases z) hE')⟩
theorem frm_ext (e : Ext p0 G G') : FRM [p0] G G' := fun b o n _ h => e b o (fun z => n (by rw [z]; simp)) h
/-- between two turns -/
structure Iv (K : PySem.W.Frag) (C CC WC PA PT PS : Addr) (ns : List Str) (cl : Int) (p0 na p D E B S A : Addr) (t : Nat) (G : Hp) : Prop where
  w : WellAt G p0
  T : LamX.Tabs (T3 PA PT PS) G
  n : G na = some (.lst (ns.map V.str))
  x : ∃ W b, WAt K C CC WC G p D E W ∧ LAt K C CC G B S A W ∧ GoodW ns cl t b W
theorem Iv.same {ns : List Str} {cl : Int} {t : Nat} (h : Iv K C CC WC PA PT PS ns cl p0 na p D E B S A t G) (n1 : C ≠ WC) (n2 : CC ≠ WC) (s : Same G G') : Iv K C CC WC PA PT PS ns cl p0 na p D E B S A t G' :=
  ⟨h.w.sm s, h.T.ext s, s _ _ h.n, let ⟨W, b, x, y, z⟩ := h.x; ⟨W, b, x.same n1 n2 s, y.same n1 n2 s, z⟩⟩
end
end K1
set_option Elab.async false
set_option linter.all false
set_option maxRecDepth 100000
set_option maxHeartbeats 8000000
/-! _law_right, the def. -/
namespace K1
open PySem PySem.Spec PyProof.Rows L2 RZ StX
theorem fs0_ga : ∀ (k : Int), 1 ≤ k → ∀ (ns : List Str), ∀ x ∈ fs0 k ns, GA 0 x.2
  | _, _, [], x, h => by cases h
  | k, hk, n :: r, x, h => by
    rcases List.mem_cons.mp h with rfl | h
    · exact ga_new hk
    · exact fs0_ga (k + 1) (by omega) r x h
theorem Iv.ext {K : PySem.W.Frag} {C CC WC PA PT PS p0 na p D E B S A : Addr} {G G' : Hp} {ns : List Str} {cl : Int} {t : Nat} (h : Iv K C CC WC PA PT PS ns cl p0 na p D E B S A t G) (n1 : C ≠ WC) (n2 : CC ≠ WC) (e : Ext p0 G G') (w : WellAt G' p0) (hn : na ≠ p0) (hp : p ≠ p0) (hD : D ≠ p0) (hE : E ≠ p0) (hB : B ≠ p0) (hS : S ≠ p0) (hA : A ≠ p0) : Iv K C CC WC PA PT PS ns cl p0 na p D E B S A t G' := by
  have tj : TJ WC G G' := TJ.of (TI.w h.w e)
  have f := frm_ext e
  have m : ∀ {x : Addr}, x ≠ p0 → x ∉ [p0] := fun n => by simpa using n
  obtain ⟨W, b, x, y, z⟩ := h.x
  exact ⟨w, tabs_w h.w e h.T, e _ _ hn h.n, W, b, x.frm n1 n2 f tj (m hp) (m hD) (m hE), y.frm n1 n2 f tj (m hB) (m hS) (m hA), z⟩
theorem ca_ref {H : Hp} {x : V} {ca : Ca} (h : Dv H x (caD ca)) : ∃ a, x = .ref a := by
  cases ca <;> (cases h; exact ⟨_, rfl⟩)
section
variable {P : Program} {w : World} {K : PySem.W.Frag} {mg : Str → Option Value} {base : Heap} {C CC WC PA PT PS : Addr}
set_option maxHeartbeats 64000000 in
theorem ok_rt {f : Addr} {fd : FuncData} (n1 : C ≠ WC) (n2 : CC ≠ WC) (T : Bk mg) (tf : ClT K mg C) (tw : WcT K mg WC) (D_new : MkD P w K mg base C) (D_W : MkW P w K mg base C CC WC) (EM : EqM P w K mg base 1 CC (CpEq K CC)) (EF : EqM P w K mg base 1 C (FoE C))
    (D_draw : Def P w K mg base CX0 1 "_law_draw" pDraw spDraw) (D_call : Def P w K mg base CX0 5 "_law_call" pLc spLc) (D_done : Def P w K mg base CX0 15 "_law_done" nDo (spDo K C CC WC PA PT PS)) (D_due : Def P w K mg base CX0 13 "_law_due" pDu (spDu K C CC PA PT PS))
    (M_fo : MDef P w K mg base CX0 3 WC "folder" nWN (spWFo K C CC WC)) (M_cp : MDef P w K mg base CX0 3 WC "copy" nWCp (spWCp K C CC WC)) (F : Fun K "_law_right" "_law_right" sRt f fd) : FnOk P w K mg base CX0 16 f fd pRt (spRt PA PT PS) := by
  have nd := scRt.nd
  refine F.ok scRt (fun vs H Q E h => ?_) (fun cdv A' outer s H vs Q E hr h => ?_)
  · obtain ⟨p, rfl, _⟩ := h
    rfl
  · obtain ⟨p0, rfl, hw, hT, q⟩ := h
    refine ⟨_, (pss_cons (ps_set (i := 1) nd rfl (Or.inl rfl) (pe_slice (sl_listK (K := K) rfl) (pe_lst (pa_cons pe_str (pa_cons pe_str (pa_cons pe_str (pa_cons pe_str pa_nil))))) po_none (po_some (pe_op op_add pe_int (pe_def D_draw (hr.mono (by decide)) rfl pass0 (pa_cons (pv 0) (pa_cons pe_int pa_nil)))))))
 (C8.pss_cut (ps_set (i := 1) nd rfl (Or.inl rfl) (pe_ifExp (pt_cmpR op_eq (pe_def D_draw (hr.mono (by decide)) rfl pass0 (pa_cons (pv 0) (pa_cons pe_int pa_nil))) pe_int (nomark _)) (pe_revLK (K := K) rfl (pv 1)) (pv 1)))
 (pss_cons (ps_par (i := 2) (j := 3) (by rfl) nd rfl rfl (by decide) rfl rfl (pa_cons (pe_op op_add pe_int (pe_def D_draw (hr.mono (by decide)) rfl pass0 (pa_cons (pv 0) (pa_cons pe_int pa_nil)))) (pa_cons (pe_lst (pa_cons (pe_callB (call_lenK (K := K) rfl) (by rfl) T.len PySem.boot_len (pa_cons (pv 1) pa_nil)) pa_nil)) pa_nil)) (by rfl))
 (pss_cons (ps_set (i := 4) nd rfl (Or.inl rfl) (pe_newW D_W tw.gC (hr.mono (by decide)) rfl (pa_cons (pv 1) (pa_cons (pv 2) pa_nil))))
 (pss_cons (ps_par (i := 5) (j := 6) (by rfl) nd rfl rfl (by decide) rfl rfl (pa_cons (pe_callTy (cr_dictK rfl) (by rfl) T.dict (by decide +kernel) (pa_cons (pe_lc (own := [("_law_at", 11), ("_law_name", 9)]) (g := gTup K 2 (gCons (gName 11) (gCons (gName 9) gNil))) (tt := tYes) rfl nd (pi_enum (by rfl) T.enumerate (pa_cons (pv 1) pa_nil)) (blkOk_by (own := [("_law_at", 11), ("_law_name", 9)]) (N := nRt) (sc := defScope sRt) (by decide +kernel)) (fun _ _ _ _ _ => pg_tup rfl (pgs_cons (pg_name (i := 11) nd rfl (Or.inl rfl)) (pgs_cons (pg_name (i := 9) nd rfl (Or.inl rfl)) pgs_nil))) (fun _ _ _ _ _ => pts_nil) (fun _ _ _ _ _ => (pe_tup (pa_cons (pv 9) (pa_cons (pe_new D_new tf.gC (hr.mono (by decide)) rfl (pa_cons (pe_op op_add (pv 11) pe_int) pa_nil)) pa_nil))))) pa_nil)) (pa_cons pe_dnewT pa_nil)) (by rfl))
 (C8.pss_cut (ps_for PassesOwn.never rfl (pi_range1 rfl T.range (pa_cons (pe_def D_draw (hr.mono (by decide)) rfl pass0 (pa_cons (pv 0) (pa_cons pe_int pa_nil))) pa_nil)) (pg_name (i := 7) nd rfl (Or.inl rfl))
  (pss_cons (ps_set (i := 8) nd rfl (Or.inl rfl) (pe_def D_call (hr.mono (by decide)) rfl pass0 (pa_cons (pv 0) (pa_cons (pv 1) (pa_cons (pv 2) pa_nil)))))
 (pss_cons (ps_if (pt_cmpR (op_neDK (K := K) rfl hr.units) (pe_def D_done (hr.mono (by decide)) rfl pass0 (pa_cons (pv 4) (pa_cons (pv 8) pa_nil))) (pe_def D_due (hr.mono (by decide)) rfl pass0 (pa_cons (pv 5) (pa_cons (pv 6) (pa_cons (pv 3) (pa_cons (pv 8) pa_nil))))) (nomark _))
  (pss_one (ps_ret pe_bl))
  pss_nil)
 (pss_one (ps_for PassesOwn.never rfl (pi_listK (K := K) rfl (pv 1)) (pg_name (i := 9) nd rfl (Or.inl rfl))
  (pss_cons (ps_if (pt_cmpR (op_neI EF (hr.mono (by decide))) (pe_mdef M_fo tw.cl (hr.mono (by decide)) pass0 (pv 4) (pa_cons (pv 9) pa_nil)) (pe_dget (hu_of hr) (pv 5) (pv 9) (fun _ _ => rfl)) (nomark _))
  (pss_one (ps_ret pe_bl))
  pss_nil)
 (pss_one (ps_for PassesOwn.never rfl (pi_range1 rfl T.range (pa_cons (pv 2) pa_nil)) (pg_name (i := 10) nd rfl (Or.inl rfl))
  (pss_one (ps_if (pt_cmpR (OpR.or (op_neI EM (hr.mono (by decide))) (op_neDK (K := K) rfl hr.units)) (pe_mdef M_cp tw.cl (hr.mono (by decide)) pass0 (pv 4) (pa_cons (pv 10) (pa_cons (pv 9) pa_nil))) (pe_dget2 (hu_of hr) (pv 6) (pe_tup (pa_cons (pv 10) (pa_cons (pv 9) pa_nil))) pe_non ⟨rfl, rfl, rfl, rfl⟩) (nomark _))
  (pss_one (ps_ret pe_bl))
  pss_nil))))))))))
 (pss_one (ps_ret pe_bl)))))))), ?_⟩
    refine seq_opq fun N hN => ?_
    refine ⟨by show 4 ≤ sizeLine; decide, fun l nl => ?_⟩
    have s1 := same_new nl (o := .lst (n4.map V.str))
    have w1 := hw.sm s1
    have hl : upd H l (.lst (n4.map V.str)) l = some (.lst (n4.map V.str)) := upd_same
    have lp := hw.ne nl
    refine ⟨_, rfl, p0, 4, rfl, w1, by decide, by decide, fun x0 H2 x1 x4 e2 w2 => ⟨_, _, rfl, rfl, _, rfl, l, n4.map V.str, rfl, sq (e2 _ _ lp hl), fun na0 nna => ?_⟩⟩
    have em : (1 + x0 : Int) = (((1 + x0).toNat : Nat) : Int) := by omega
    have m1 : 1 ≤ (1 + x0).toNat := by omega
    have m4 : (1 + x0).toNat ≤ 4 := by omega
    have hcut : cutV (n4.map V.str) none (some (1 + x0)) = (n4.take (1 + x0).toNat).map V.str := by
      have h := cut_take (n4.map V.str) (1 + x0).toNat
      rw [← em] at h
      rw [h, List.map_take]
    rw [hcut]
    have ok0 : OkN (n4.take (1 + x0).toNat) := okN_sub (List.take_sublist _ _) n4_ok n4_nd (by rw [List.length_take]; show 1 ≤ min _ 4; omega) (by rw [List.length_take]; show min _ 4 ≤ 4; omega)
    generalize n4.take (1 + x0).toNat = ns0 at ok0
    have s3 := same_new nna (o := .lst (ns0.map V.str))
    have w3 := w2.sm s3
    have e03 : Ext p0 H (upd H2 na0 (.lst (ns0.map V.str))) := ((same_ext s1).trans e2).trans (same_ext s3)
    have hn3 : upd H2 na0 (.lst (ns0.map V.str)) na0 = some (.lst (ns0.map V.str)) := upd_same
    have np3 := w2.ne nna
    generalize upd H2 na0 (.lst (ns0.map V.str)) = H3 at s3 w3 e03 hn3
    refine hN _ _ ?_
    clear hN N
    refine ⟨fun σ G => ∃ na ns, σ = [some (.ref p0), some (.ref na), none, none, none, none, none, none, none, none, none, none] ∧ Ext p0 H G ∧ WellAt G p0 ∧ G na = some (.lst (ns.map V.str)) ∧ na ≠ p0 ∧ OkN ns, ?_, ?_⟩
    · refine ⟨_, rfl, p0, 2, rfl, w3, by decide, by decide, fun y H4 y0 y2 e4 w4 => ⟨rfl, _, rfl, ?_⟩⟩
      have hn4 := e4 _ _ np3 hn3
      refine ite2 (fun _ => ?_) (fun _ => ?_)
      · refine ⟨_, rfl, na0, _, rfl, sq hn4, fun nr nnr => ?_⟩
        exact ⟨nr, ns0.reverse, rfl, (e03.trans e4).trans (same_ext (same_new nnr)), w4.new nnr, by rw [← List.map_reverse]; exact upd_same, w4.ne nnr, ok0.rev⟩
      · exact ⟨_, rfl, na0, ns0, rfl, e03.trans e4, w4, hn4, np3, ok0⟩
    clear hl nl s1 w1 w2 e2 nna s3 w3 e03 hn3 np3 ok0 em m1 m4 hcut lp
    intro σ G hcut
    refine seq_opq fun N hN => ?_
    obtain ⟨na, ns, rfl, eG, wG, hnG, npG, okn⟩ := hcut
    have ln : (ns.map V.str).length = ns.length := List.length_map _
    have l1 := okn.l1
    have l4 := okn.l4
    refine ⟨_, rfl, p0, 4, rfl, wG, by decide, by decide, fun z G1 z0 z4 e1 w1 => ⟨_, _, rfl, rfl, _, rfl, na, _, rfl, .inl (sq (e1 _ _ npG hnG)), by show 1 ≤ sizeLine; decide, fun A nA => ⟨_, _, rfl, ?_⟩⟩⟩
    have hn1 := e1 _ _ npG hnG
    have c1 : 1 ≤ 1 + z := by omega
    have c4 : 1 + z ≤ 4 := by omega
    obtain ⟨cl, hcl⟩ : ∃ cl : Int, 1 + z = cl := ⟨_, rfl⟩
    rw [hcl] at c1 c4
    rw [ln]
    have sA := same_new nA (o := .lst [.int ((ns.length : Nat) : Int)])
    have hA : upd G1 A (.lst [.int ((ns.length : Nat) : Int)]) A = some (.lst [.int ((ns.length : Nat) : Int)]) := upd_same
    have eG2 : Ext p0 H (upd G1 A (.lst [.int ((ns.length : Nat) : Int)])) := (eG.trans e1).trans (same_ext sA)
    have w2 := w1.sm sA
    have hn2 := sA _ _ hn1
    have Ap := w1.ne nA
    have An : A ≠ na := fun e => by rw [e, hn1] at nA; cases nA
    have hAH : H A = none := (eG.trans e1).free nA Ap
    generalize upd G1 A (.lst [.int ((ns.length : Nat) : Int)]) = G2 at sA hA eG2 w2 hn2
    clear sA hn1 nA w1 e1 hnG wG eG
    refine hN _ _ ?_
    clear hN N
    refine seq_opq fun N hN => ?_
    refine ⟨_, rfl, _, rfl, fun p dx np ndx hne => ?_⟩
    have pna : na ≠ p := fun e => by rw [e, np] at hn2; cases hn2
    have pA : A ≠ p := fun e => by rw [e, np] at hA; cases hA
    have pp0 : p ≠ p0 := w2.ne np
    have hpH : H p = none := eG2.free np pp0
    have s2 : Same G2 (upd (upd G2 dx (.own p)) p (.ins WC dx [])) := fun b o hb => by
      rw [upd_ne (fun e => by rw [e, np] at hb; cases hb), upd_ne (fun e => by rw [e, ndx] at hb; cases hb)]; exact hb
    refine ⟨p, na, dx, cl, ns, by rw [← hcl]; rfl, upd_same, .inl (s2 _ _ hn2), pna, okn, c1, c4, fun D E' G3 k3 nD nE hW => ⟨rfl, ?_⟩⟩
    have nD2 := s2.free nD
    have nE2 := s2.free nE
    have s3 : Same G2 G3 := fun b o hb => k3 b o (fun e => by rw [e, np] at hb; cases hb) (s2 _ _ hb)
    have hn3 := s3 _ _ hn2
    have hA3 := s3 _ _ hA
    have w3 := w2.sm s3
    have Dp0 : D ≠ p0 := w2.ne nD2
    have Ep0 : E' ≠ p0 := w2.ne nE2
    have hDH : H D = none := eG2.free nD2 Dp0
    have hEH : H E' = none := eG2.free nE2 Ep0
    have Dn : D ≠ na := fun e => by rw [e, hn2] at nD2; cases nD2
    have En : E' ≠ na := fun e => by rw [e, hn2] at nE2; cases nE2
    have DA : D ≠ A := fun e => by rw [e, hA] at nD2; cases nD2
    have EA : E' ≠ A := fun e => by rw [e, hA] at nE2; cases nE2
    obtain ⟨dxp, hp3⟩ := hW.at_
    obtain ⟨kvD, hD3, hkD⟩ := id hW.f
    obtain ⟨kvE, hE3, hkE⟩ := id hW.c
    have pD : p ≠ D := fun e => by rw [e, hD3] at hp3; cases hp3
    have pE : p ≠ E' := fun e => by rw [e, hE3] at hp3; cases hp3
    have DE : D ≠ E' := fun e => by rw [e, hE3] at hD3; cases hD3
    have eG3 := eG2.trans (same_ext s3)
    clear s2 k3 nD nE nD2 nE2 s3 hn2 hA w2 eG2 np ndx hne
    refine name_go' ?_
    try dsimp only
    refine hN _ _ ?_
    clear hN N
    try dsimp only
    refine seq_opq fun N hN => ?_
    refine ⟨_, rfl, na, _, rfl, sq hn3, fun L nL => ?_⟩
    have Ln : na ≠ L := fun e => by rw [e, nL] at hn3; cases hn3
    refine lc_it (walk_enum (K := K) (a := na) (xs := ns.map V.str)) (fun i G => (∀ b o, b ≠ L → G3 b = some o → G b = some o) ∧ ∃ ys kvs, G L = some (.lst ys) ∧ ys.length = i ∧ Paired (fun (x : V) (kv : L2.Key × V) => ∃ t, x = .ref t ∧ G t = some (.tup [kV kv.1, kv.2])) ys kvs ∧ KA encF (FV C G) kvs (fs0 1 (ns.take i)))
      ⟨fun b o nb h => by rw [upd_ne nb]; exact h, [], [], upd_same, rfl, .nil, .nil⟩ (fun i G _ h => sq (h.1 _ _ Ln hn3)) ?_ ?_
    · rintro i y G G' hi ⟨kp, ys, kvs, hL, hl, hP, hK⟩ ⟨Tt, u, v, rfl, nT, rfl, hu, hv⟩
      cases hu
      have hv : (ns.map V.str)[i]? = some v := hv
      rw [List.getElem?_map] at hv
      obtain ⟨n, hn, rfl⟩ := Option.map_eq_some_iff.mp hv
      have sT := same_new (H := G) nT (o := .tup [.int (i : Nat), .str n])
      refine ⟨Tt, _, rfl, st upd_same, rfl, _, _, rfl, _, _, rfl, rfl, rfl, tyes ?_⟩
      refine ⟨_, rfl, _, rfl, _, _, rfl, rfl, fun x ddx nx ndx nxd => newF nx ndx nxd (by omega) fun G4 s4 hx => ⟨rfl, by show 2 ≤ sizeLine; decide, fun t nt => ?_⟩⟩
      have s5 := same_new nt (o := .tup [.str n, .ref x])
      have sA := (sT.trans s4).trans s5
      have hL5 := sA _ _ hL
      refine ⟨ys, hL5, lt1 _ (by omega), ?_⟩
      have u6 : TI (upd G4 t (.tup [.str n, .ref x])) (upd (upd G4 t (.tup [.str n, .ref x])) L (.lst (ys ++ [.ref t]))) := TI.mut hL5 (fun _ z => by cases z) fun _ _ _ z => by cases z
      have uA : TI G (upd (upd G4 t (.tup [.str n, .ref x])) L (.lst (ys ++ [.ref t]))) := (TI.same sA).trans u6
      have ex : (fNew ((i : Nat) + 1)) = fNew (1 + ((ns.take i).length : Int)) := by
        rw [List.length_take, Nat.min_eq_left (by omega)]
        congr 1
        omega
      refine ⟨fun b o nb h => by rw [upd_ne nb]; exact sA _ _ (kp b o nb h), ys ++ [.ref t], kvs ++ [(encF n, .ref x)], upd_same, by rw [List.length_append, hl]; rfl, Paired.snoc (Paired.mapP hP fun _ _ ⟨t', e, h⟩ => ⟨t', e, uA.t _ _ h⟩) ⟨t, rfl, u6.t _ _ upd_same⟩, ?_⟩
      rw [List.take_add_one, hn]
      show KA encF _ _ (fs0 1 (ns.take i ++ [n]))
      rw [fs0_snoc, ← ex]
      exact Paired.snoc (ka_mono (fun v F ⟨a, e, k⟩ => ⟨a, e, k.ti uA⟩) hK) ⟨rfl, x, rfl, (hx.same s5).ti u6⟩
    rintro G4 ⟨kp, ys, kvs, hL, hl, hP, hK⟩
    rw [ln, List.take_length] at hK
    have s4 : Same G3 G4 := fun b o hb => kp b o (fun e => by rw [e, nL] at hb; cases hb) hb
    have kn : (kvs.map (·.1)).Nodup := by
      have e : (fs0 1 ns).map (fun x => encF x.1) = ((fs0 1 ns).map (·.1)).map encF := by rw [List.map_map]; rfl
      rw [ka_keys hK, e, fs0_keys]
      exact List.pairwise_map.mpr (okn.nd.imp fun {a b} h z => h (inj_F a b z))
    refine ⟨L, ys, kvs, rfl, hL, hP, kn, fun B nB => ?_⟩
    have sB := same_new nB (o := .dK kvs)
    have hB : upd G4 B (.dK kvs) B = some (.dK kvs) := upd_same
    have hK5 := ka_mono (R' := FV C (upd G4 B (.dK kvs))) (fun v F ⟨a, e, k⟩ => ⟨a, e, k.same sB⟩) hK
    have s35 := s4.trans sB
    generalize upd G4 B (.dK kvs) = G5 at hB hK5 s35 sB
    have Bn : B ≠ na := fun e => by have := s4 _ _ hn3; rw [e, this] at nB; cases nB
    have BA : B ≠ A := fun e => by have := s4 _ _ hA3; rw [e, this] at nB; cases nB
    have Bp : B ≠ p := fun e => by have := s4 _ _ hp3; rw [e, this] at nB; cases nB
    have BD : B ≠ D := fun e => by have := s4 _ _ hD3; rw [e, this] at nB; cases nB
    have BE : B ≠ E' := fun e => by have := s4 _ _ hE3; rw [e, this] at nB; cases nB
    have Bp0 : B ≠ p0 := (w3.sm s4).ne nB
    have hBH : H B = none := (eG3.trans (same_ext s4)).free nB Bp0
    intro S nS
    refine ⟨_, _, rfl, ?_⟩
    have sS := same_new nS (o := .dT [])
    have hS : upd G5 S (.dT []) S = some (.dT []) := upd_same
    have Sx : ∀ {x : Addr} {o : HO}, G5 x = some o → S ≠ x := fun h e => by rw [e, h] at nS; cases nS
    have Sn := Sx (s35 _ _ hn3)
    have SA := Sx (s35 _ _ hA3)
    have Sp := Sx (s35 _ _ hp3)
    have SD := Sx (s35 _ _ hD3)
    have SE := Sx (s35 _ _ hE3)
    have SB := Sx hB
    have Sp0 : S ≠ p0 := (w3.sm s35).ne nS
    have hSH : H S = none := (eG3.trans (same_ext s35)).free nS Sp0
    have s36 := s35.trans sS
    have hB6 := sS _ _ hB
    have hK6 := ka_mono (R' := FV C (upd G5 S (.dT []))) (fun v F ⟨a, e, k⟩ => ⟨a, e, k.same sS⟩) hK5
    generalize upd G5 S (.dT []) = G6 at hS s36 hB6 hK6
    have df : Df p0 na p D E' B S A := by
      unfold Df
      simp only [List.nodup_cons, List.mem_cons, List.not_mem_nil, or_false, not_or, List.nodup_nil, and_true, not_false_eq_true]
      exact ⟨⟨npG.symm, pp0.symm, Dp0.symm, Ep0.symm, Bp0.symm, Sp0.symm, Ap.symm⟩, ⟨pna, Dn.symm, En.symm, Bn.symm, Sn.symm, An.symm⟩, ⟨pD, pE, Bp.symm, Sp.symm, pA.symm⟩, ⟨DE, BD.symm, SD.symm, DA⟩, ⟨BE.symm, SE.symm, EA⟩, ⟨SB.symm, BA⟩, SA⟩
    have iv : Iv K C CC WC PA PT PS ns cl p0 na p D E' B S A 0 G6 := ⟨w3.sm s36, (tabs_w hw eG3 hT).ext s36, s36 _ _ hn3, W0 ns cl, 0, hW.same n1 n2 s36, ⟨⟨kvs, hB6, hK6⟩, ⟨[], hS, .nil⟩, by
        have := s36 _ _ hA3
        rw [this]; show some (HO.lst [V.int _]) = some (HO.lst [V.int ((ns.length : Int) + 1 - 1)])
        rw [show (ns.length : Int) + 1 - 1 = ((ns.length : Nat) : Int) by omega]⟩, ⟨fs0_keys 1 ns, rfl, fs0_ga 1 (by decide) ns, (fun x hx => by cases hx), List.nodup_nil, Nat.zero_le _, Nat.zero_le _, by show 1 ≤ (ns.length : Int) + 1; omega⟩⟩
    have fr6 : ENL p0 H G6 := (ENL.of eG3).same s36
    have frm : ∀ {L : List Addr} {G G' : Hp}, (∀ x ∈ L, H x = none) → ENL p0 H G → FRM L G G' → ENL p0 H G' := fun hL e f b o n t h => f b o (fun z => by rw [hL b z] at h; cases h) t (e b o n t h)
    have fW : ∀ x ∈ [p, D, E'], H x = none := fun x hx => by
      simp only [List.mem_cons, List.not_mem_nil, or_false] at hx
      rcases hx with rfl | rfl | rfl <;> assumption
    have fL : ∀ x ∈ [B, S, A], H x = none := fun x hx => by
      simp only [List.mem_cons, List.not_mem_nil, or_false] at hx
      rcases hx with rfl | rfl | rfl <;> assumption
    have BW : B ∉ [p, D, E'] := by simp [Bp, BD, BE]
    have SW : S ∉ [p, D, E'] := by simp [Sp, SD, SE]
    have AW : A ∉ [p, D, E'] := by simp [pA, DA.symm, EA.symm]
    have nW : na ∉ [p, D, E'] := by simp [pna, Dn.symm, En.symm]
    have oW : p0 ∉ [p, D, E'] := by simp [pp0.symm, Dp0.symm, Ep0.symm]
    have pL : p ∉ [B, S, A] := by simp [Bp.symm, Sp.symm, pA.symm]
    have DL : D ∉ [B, S, A] := by simp [BD.symm, SD.symm, DA]
    have EL : E' ∉ [B, S, A] := by simp [BE.symm, SE.symm, EA]
    have nL' : na ∉ [B, S, A] := by simp [Bn.symm, Sn.symm, An.symm]
    have oL : p0 ∉ [B, S, A] := by simp [Bp0.symm, Sp0.symm, Ap.symm]
    clear kn hP hL hl kp nL Ln nB hB hK5 sB nS sS hS hB6 hK6 s35 s4 hK hn3 hA3 w3 hp3 hD3 hE3 hkD hkE hW s36 eG3
    refine hN _ _ ?_
    clear hN N
    refine ⟨fun σ G => (∃ v1 v2 v3 v4 v5 v6 v7 v8 v9 v10 v11, σ = [some (.ref p0), v1, v2, v3, v4, v5, v6, v7, v8, v9, v10, v11]) ∧ ENL p0 H G ∧ WellAt G p0 ∧ LamX.Tabs (T3 PA PT PS) G, ?_, ?_⟩
    · refine ⟨_, rfl, p0, 17, rfl, iv.w, by decide, by decide, fun k G7 k0 k17 e7 w7 => ⟨k, rfl, by omega, by omega, ?_⟩⟩
      have iv7 := iv.ext n1 n2 e7 w7 npG pp0 Dp0 Ep0 Bp0 Sp0 Ap
      have fr7 : ENL p0 H G7 := fr6.trans (ENL.of e7)
      refine for_range (lo := 0) (n := k.toNat) (fun i σ G => (∃ v7 v8 v9 v10 v11, σ = [some (.ref p0), some (.ref na), some (.int cl), some (.ref A), some (.ref p), some (.ref B), some (.ref S), v7, v8, v9, v10, v11]) ∧ ENL p0 H G ∧ Iv K C CC WC PA PT PS ns cl p0 na p D E' B S A i G) ?_ ?_ ?_
      · exact ⟨⟨none, none, none, none, none, by rw [← hcl]; rfl⟩, fr7, iv7⟩
      · intro i σ G hi hcut
        refine seq_opq fun N hN => ?_
        obtain ⟨⟨v7, v8, v9, v10, v11, rfl⟩, fr, iv⟩ := hcut
        refine ⟨_, rfl, _, rfl, _, rfl, p0, na, ns, cl, rfl, iv.w, iv.n, l1, l4, c1, c4, fun x ca G1 e1 w1 dv oc => ?_⟩
        obtain ⟨a, rfl⟩ := ca_ref dv
        have iv1 := iv.ext n1 n2 e1 w1 npG pp0 Dp0 Ep0 Bp0 Sp0 Ap
        have fr1 : ENL p0 H G1 := fr.trans (ENL.of e1)
        refine hN _ _ ?_
        clear hN N
        try dsimp only
        refine seq_opq fun N hN => ?_
        obtain ⟨W, b, hW, hL, gw⟩ := iv1.x
        refine ⟨_, rfl, _, rfl, p, D, E', a, W, ca, i, b, ns, cl, rfl, hW, gw, by omega, okn, dv, oc, iv1.T, fun v2 G2 nw dv2 => ?_⟩
        have tj2 := hW.tj nw.1
        have hL2 := hL.frm n1 n2 nw.1 tj2 BW SW AW
        refine ⟨_, rfl, _, rfl, _, rfl, _, rfl, B, S, A, a, W, ca, i, b, ns, cl, rfl, hL2, gw, by omega, okn, dv.tu tj2.t (tO_ca ca), oc, nw.2.1, fun v3 G3 nl dv3 => ?_⟩
        have ti3 := hL2.ti nl.1
        have hW3 := nw.2.2.frm n1 n2 nl.1 (TJ.of ti3) pL DL EL
        obtain ⟨b', gw'⟩ := good_go gw (by omega) oc
        have fr3 : ENL p0 H G3 := frm fL (frm fW fr1 nw.1) nl.1
        have w3 : WellAt G3 p0 := by
          obtain ⟨c, m, t, h⟩ := iv1.w
          exact ⟨c, m, t, nl.1 _ _ oL (fun _ z => by cases z) (nw.1 _ _ oW (fun _ z => by cases z) h)⟩
        have hn3 : G3 na = some (.lst (ns.map V.str)) := nl.1 _ _ nL' (fun _ z => by cases z) (nw.1 _ _ nW (fun _ z => by cases z) iv1.n)
        have iv3 : Iv K C CC WC PA PT PS ns cl p0 na p D E' B S A (i + 1) G3 := ⟨w3, nl.2.1, hn3, _, b', hW3, nl.2.2, gw'⟩
        refine ne_same (lay_go gw ca) (dv2.tu ti3.t (tO_go W ca)) dv3 ⟨_, rfl, itbF rfl ?_⟩
        have hL3 := nl.2.2
        generalize (goC W ca).2 = W' at hW3 gw' hL3
        clear dv dv2 dv3 nw nl tj2 ti3 hL2 hL hW
        refine hN _ _ ?_
        clear hN N
        have hb := gw'.b
        refine ⟨_, rfl, na, rfl, ⟨_, sq hn3⟩, for_list (K := K) (a := na) (xs := ns.map V.str) (fun j σ G => (∃ v7 v8 v9 v10 v11, σ = [some (.ref p0), some (.ref na), some (.int cl), some (.ref A), some (.ref p), some (.ref B), some (.ref S), v7, v8, v9, v10, v11]) ∧ Same G3 G) ?_ ?_ ?_ ?_⟩
        · exact ⟨⟨_, _, _, _, _, rfl⟩, fun _ _ h => h⟩
        · rintro j σ G _ ⟨_, sG⟩
          exact sq (sG _ _ hn3)
        · intro j y σ G hy hcut
          refine seq_opq fun N hN => ?_
          obtain ⟨⟨v7, v8, v9, v10, v11, rfl⟩, sG⟩ := hcut
          rw [List.getElem?_map] at hy
          obtain ⟨n, hn, rfl⟩ := Option.map_eq_some_iff.mp hy
          obtain ⟨F, hF, g⟩ := gw'.get (List.mem_of_getElem? hn)
          have hWG := hW3.same n1 n2 sG
          have hLG := hL3.same n1 n2 sG
          obtain ⟨dxp, hp⟩ := hWG.at_
          obtain ⟨fb, hfb, hgB⟩ := hLG.f.get hF
          refine ⟨_, rfl, p, dxp, _, rfl, hp, fw_no (by decide +kernel), _, rfl, p, D, E', W', n, F, rfl, hWG, hF, fun fa hfa => ?_⟩
          refine ⟨_, rfl, _, rfl, B, _, rfl, hgB fun _ h => h, ne_fo hfa hfb g.g.wf.sg fun G5 s5 => ⟨_, rfl, itbF rfl ?_⟩⟩
          have sG5 := sG.trans s5
          refine hN _ _ ?_
          clear hN N
          refine ⟨_, rfl, cl, rfl, by omega, by omega, for_range (lo := 0) (n := cl.toNat) (fun k σ G => (∃ v7 v8 v10 v11, σ = [some (.ref p0), some (.ref na), some (.int cl), some (.ref A), some (.ref p), some (.ref B), some (.ref S), v7, v8, some (.str n), v10, v11]) ∧ Same G3 G) ?_ ?_ ?_⟩
          · exact ⟨⟨_, _, _, _, rfl⟩, sG5⟩
          · rintro kk σ G6 hk ⟨⟨v7, v8, v10, v11, rfl⟩, s6⟩
            have hW6 := hW3.same n1 n2 s6
            have hL6 := hL3.same n1 n2 s6
            obtain ⟨dx6, hp6⟩ := hW6.at_
            refine ⟨_, rfl, p, dx6, _, rfl, hp6, fw_no (by decide +kernel), _, rfl, _, rfl, p, D, E', W', 0 + (kk : Int), n, F, rfl, hW6, by omega, by rw [gw'.cl]; omega, hF, ?_⟩
            rcases hL6.c.get (0 + (kk : Int), n) with ⟨e, hgc⟩ | ⟨c, x2, e, hx2, hgc⟩
            · rw [e]
              intro G8 s8
              refine ⟨_, rfl, S, rfl, (hL6.same n1 n2 s8).c.isD, _, rfl, _, rfl, by show 2 ≤ sizeLine; decide, fun kb nkb => ?_⟩
              have s9 := same_new nkb (o := .tup [.int (0 + (kk : Int)), .str n])
              refine ⟨none, hgc (fun o h => s9 _ _ (s8 _ _ h)) upd_same, .inr (ne_same (k := 0) LayD.non .non .non ⟨_, rfl, itbF rfl ?_⟩)⟩
              exact ⟨⟨_, _, _, _, rfl⟩, (s6.trans s8).trans s9⟩
            · rw [e]
              intro G8 x8 s8 hx8
              refine ⟨_, rfl, S, rfl, (hL6.same n1 n2 s8).c.isD, _, rfl, _, rfl, by show 2 ≤ sizeLine; decide, fun kb nkb => ?_⟩
              have s9 := same_new nkb (o := .tup [.int (0 + (kk : Int)), .str n])
              refine ⟨some (.ref x2), hgc (fun o h => s9 _ _ (s8 _ _ h)) upd_same, .inl (ne_cp (hx8.same s9) (hx2.same (s8.trans s9)) (gw'.cp e) (gw'.cp e) fun G10 s10 => ?_)⟩
              rw [decide_eq_true rfl]
              exact ⟨_, rfl, itbF rfl ⟨⟨_, _, _, _, rfl⟩, ((s6.trans s8).trans s9).trans s10⟩⟩
          · rintro σ G6 ⟨⟨v7, v8, v10, v11, rfl⟩, s6⟩
            exact ⟨⟨_, _, _, _, _, rfl⟩, s6⟩
        · rintro σ G6 ⟨⟨v7, v8, v9, v10, v11, rfl⟩, s6⟩
          exact ⟨⟨_, _, _, _, _, rfl⟩, (frm (L := []) (fun x hx => by cases hx) fr3 (FRM.en (LamX.ExtN.of s6))), iv3.same n1 n2 s6⟩
      · rintro σ G ⟨⟨v7, v8, v9, v10, v11, rfl⟩, fr, iv⟩
        exact ⟨⟨_, _, _, _, _, _, _, _, _, _, _, rfl⟩, fr, iv.w, iv.T⟩
    rintro σ G ⟨⟨v1, v2, v3, v4, v5, v6, v7, v8, v9, v10, v11, rfl⟩, fr, wG, tG⟩
    exact q G fr wG tG
end
end K1
set_option Elab.async false
set_option linter.all false
set_option maxRecDepth 100000
set_option maxHeartbeats 8000000
/-! For the law's end: literal data; calls on a known world. -/
namespace K1
open PySem PySem.Spec PyProof.Rows L2 RZ StX
noncomputable def Gs (te : TE) (σ : L2.St) (d : PyData) : Prop := ∀ (G : Hp) (Q : VK), (∀ v J, Same G J → Dv J v d → Q v J) → te σ G Q
noncomputable def GsA (ta : TA) (σ : L2.St) (ds : List PyData) : Prop := ∀ (G : Hp) (Q : List V → Hp → Prop), (∀ vs J, Same G J → DvA J vs ds → Q vs J) → ta σ G Q
section
variable {σ : L2.St} {te : TE} {ta : TA} {d : PyData} {ds : List PyData}
theorem gs_str (z : Str) : Gs (tC (.str z)) σ (.str z) := fun G Q q => q _ G (fun _ _ h => h) (.str z)
theorem gs_int (z : Int) : Gs (tC (.int z)) σ (.int z) := fun G Q q => q _ G (fun _ _ h => h) (.int z)
theorem gs_nil : GsA tNil σ [] := fun G Q q => q [] G (fun _ _ h => h) .nil
theorem gs_cons (h : Gs te σ d) (k : GsA ta σ ds) : GsA (tCons te ta) σ (d :: ds) := fun G Q q => h G _ fun v J s dv => k J _ fun vs J2 s2 da => q (v :: vs) J2 (s.trans s2) (.cons (dv.same s2) da)
theorem gs_tup (h : GsA ta σ ds) (hl : ds.length ≤ 1000 := by decide) : Gs (tTup ta) σ (.tuple ds) := fun G Q q => h G _ fun vs J s da => ⟨Nat.le_trans (by rw [da.len]; exact hl) (by decide), fun b nb => q _ _ (s.new nb) (.tup upd_same (da.same (same_new nb)))⟩
theorem gs_lst (h : GsA ta σ ds) (hl : ds.length ≤ 1000 := by decide) : Gs (tLst ta) σ (.list ds) := fun G Q q => h G _ fun vs J s da => ⟨Nat.le_trans (by rw [da.len]; exact hl) (by decide), fun b nb => q _ _ (s.new nb) (.lst upd_same (da.same (same_new nb)))⟩
end
/-- a known world -/
structure Kw (K : PySem.W.Frag) (C CC WC PA PT PS : Addr) (G : Hp) (p : Addr) (ns : List Str) (t : Nat) (W : Wd) : Prop where
  T : LamX.Tabs (T3 PA PT PS) G
  x : ∃ D E b, WAt K C CC WC G p D E W ∧ GoodW ns 1 t b W
  ok : OkN ns
  t4 : t ≤ 20
section
variable {K : PySem.W.Frag} {C CC WC PA PT PS p : Addr} {G G' : Hp} {ns : List Str} {t : Nat} {W : Wd}
theorem Kw.same (h : Kw K C CC WC PA PT PS G p ns t W) (n1 : C ≠ WC) (n2 : CC ≠ WC) (s : Same G G') : Kw K C CC WC PA PT PS G' p ns t W := ⟨h.T.ext s, let ⟨D, E, b, x, y⟩ := h.x; ⟨D, E, b, x.same n1 n2 s, y⟩, h.ok, h.t4⟩
theorem Kw.lfs (h : Kw K C CC WC PA PT PS G p ns t W) : W.fs.length ≤ 1000 := by
  obtain ⟨_, _, _, _, g⟩ := h.x
  have := congrArg List.length g.ks
  rw [List.length_map] at this
  have := h.ok.l4
  omega
theorem Kw.ins (h : Kw K C CC WC PA PT PS G p ns t W) : ∃ dx fs, G p = some (.ins WC dx fs) ∧ ∀ {z : Str}, (["_folders", "_next_age", "_clients", "_copies"] : List Str).all (fun y => !(z == y)) = true → fs.lookup z = none := by
  obtain ⟨D, E, b, x, _⟩ := h.x
  obtain ⟨dx, e⟩ := x.at_
  exact ⟨dx, _, e, fw_no⟩
/-- lists and tuples stay -/
structure LT (G G' : Hp) : Prop where
  l : ∀ b xs, G b = some (.lst xs) → G' b = some (.lst xs)
  t : TU G G'
theorem LT.of {D E : Addr} (h : WAt K C CC WC G p D E W) (f : FRM [p, D, E] G G') : LT G G' := by
  refine ⟨fun b xs hb => f b _ (fun z => ?_) (fun _ z => by cases z) hb, (h.tj f).t⟩
  obtain ⟨dx, hp⟩ := h.at_
  obtain ⟨kv, hD, _⟩ := h.f
  obtain ⟨kw, hE, _⟩ := h.c
  simp only [List.mem_cons, List.not_mem_nil, or_false] at z
  rcases z with rfl | rfl | rfl
  · rw [hp] at hb; cases hb
  · rw [hD] at hb; cases hb
  · rw [hE] at hb; cases hb
theorem LT.same (s : Same G G') : LT G G' := ⟨fun b xs h => s _ _ h, TU.same s⟩
theorem LT.trans {G2 : Hp} (a : LT G G') (b : LT G' G2) : LT G G2 := ⟨fun x xs h => b.l _ _ (a.l _ _ h), a.t.trans b.t⟩
theorem good_w0 {ns : List Str} {cl : Int} : GoodW ns cl 0 0 (W0 ns cl) := ⟨fs0_keys 1 ns, rfl, fs0_ga 1 (by decide) ns, (fun x hx => by cases hx), List.nodup_nil, Nat.zero_le _, Nat.zero_le _, by show 1 ≤ (ns.length : Int) + 1; omega⟩
theorem kw_act {Q : VK} {E : XK} {CD a : Addr} {nm : Str} {d : Dd} (h : Kw K C CC WC PA PT PS G p ns t W) (ht : t + 1 ≤ 20) (hn : nm ∈ ns) (hd : DdAt G a d) (o : OkD d) (nd : NumD d) (hc : ∀ F, canB F d = true) (q : ∀ G', LT G G' → Kw K C CC WC PA PT PS G' p ns (t + 1) (goC W (.act nm d)).2 → Q .non G') : spWAct K C CC WC PA PT PS CD [.ref p, .str nm, .ref a] G Q E := by
  obtain ⟨D, E', b, x, g⟩ := h.x
  obtain ⟨F, hF, ga⟩ := g.get hn
  have hb := g.b
  have t4 := h.t4
  obtain ⟨b', g'⟩ := good_go (ca := .act nm d) g (by omega) ⟨hn, o, nd⟩
  refine ⟨p, D, E', a, W, nm, F, d, rfl, x, h.lfs, hF, ga.g.wf.mono (by omega), hd, h.T, fun e => (by rw [hc] at e; cases e), fun _ G' w => q G' (LT.of x w.1) ⟨w.2.1, ⟨D, E', b', ?_, g'⟩, h.ok, ht⟩⟩
  rw [goC_ac hF, if_pos (hc F)]
  exact w.2.2
theorem kw_re {Q : VK} {E : XK} {nm : Str} (h : Kw K C CC WC PA PT PS G p ns t W) (ht : t + 1 ≤ 20) (hn : nm ∈ ns) (q : ∀ G', Kw K C CC WC PA PT PS G' p ns (t + 1) (goC W (.remake nm)).2 → Q .non G') : spWRe K C CC WC PA PT PS [.ref p, .str nm] G Q E := by
  obtain ⟨D, E', b, x, g⟩ := h.x
  obtain ⟨F, hF, ga⟩ := g.get hn
  have t4 := h.t4
  obtain ⟨b', g'⟩ := good_go (ca := .remake nm) g (by omega) hn
  exact ⟨p, D, E', W, nm, F, rfl, x, h.lfs, hF, g.nx, h.T, fun G' w => q G' ⟨w.2.1, ⟨D, E', b', w.2.2, g'⟩, h.ok, ht⟩⟩
theorem kw_sw {Q : VK} {E : XK} {CV : Addr} {nm ot : Str} (h : Kw K C CC WC PA PT PS G p ns t W) (ht : t + 1 ≤ 20) (hn : nm ∈ ns) (ho : ot ∈ ns) (ne : ot ≠ nm) (q : ∀ G', Kw K C CC WC PA PT PS G' p ns (t + 1) (goC W (.swap nm ot)).2 → Q .non G') : spWSw K C CC WC PA PT PS CV [.ref p, .str nm, .str ot] G Q E := by
  obtain ⟨D, E', b, x, g⟩ := h.x
  obtain ⟨F, hF, ga⟩ := g.get hn
  obtain ⟨F2, hG, ga2⟩ := g.get ho
  have t4 := h.t4
  obtain ⟨b', g'⟩ := good_go (ca := .swap nm ot) g (by omega) ⟨hn, ho⟩
  refine ⟨p, D, E', W, nm, ot, F, F2, rfl, x, h.lfs, strOk_of (h.ok.ok nm hn), strOk_of (h.ok.ok ot ho), hF, hG, h.T, fun e => (ne e).elim, fun _ G' w => q G' ⟨w.2.1, ⟨D, E', b', ?_, g'⟩, h.ok, ht⟩⟩
  rw [goC_sw hF hG, if_neg ne]
  exact w.2.2
theorem kw_fe {Q : VK} {E : XK} {nm : Str} (h : Kw K C CC WC PA PT PS G p ns t W) (ht : t + 1 ≤ 20) (hn : nm ∈ ns) (q : ∀ G', Kw K C CC WC PA PT PS G' p ns (t + 1) (goC W (.fetch 0 nm)).2 → Q .non G') : spWFe K C CC WC PA PT PS [.ref p, .int 0, .str nm] G Q E := by
  obtain ⟨D, E', b, x, g⟩ := h.x
  obtain ⟨F, hF, ga⟩ := g.get hn
  have hb := g.b
  have t4 := h.t4
  have hl := g.l
  obtain ⟨b', g'⟩ := good_go (ca := .fetch 0 nm) g (by omega) ⟨by decide, by decide, hn⟩
  refine ⟨p, D, E', W, 0, nm, F, b, rfl, x, by omega, by decide, by rw [g.cl]; decide, hF, ga, by omega, h.T, fun G' w => q G' ⟨w.2.1, ⟨D, E', b', ?_, g'⟩, h.ok, ht⟩⟩
  rw [goC_fe hF]
  exact w.2.2
theorem Kw.onC {nm : Str} {D E' : Addr} {b : Nat} {F : Fo} (h : Kw K C CC WC PA PT PS G p ns t W) (x : WAt K C CC WC G p D E' W) (g : GoodW ns 1 t b W) (hF : lkA W.fs nm = some F) : OnC K C CC WC PA PT PS G p D E' W 0 nm F :=
  ⟨x, by have := g.l; have := h.t4; omega, by decide, by rw [g.cl]; decide, hF, h.T⟩
noncomputable def isNon : PyData → Bool
  | .none => true
  | _ => false
theorem kw_wa {Q : VK} {E : XK} {CB CN sa : Addr} {nm : Str} {n : Int} {ss : List Str} (h : Kw K C CC WC PA PT PS G p ns t W) (ht : t + 1 ≤ 20) (hn : nm ∈ ns) (n1 : 1 ≤ n) (hs : G sa = some (.tup (ss.map V.str))) (os : OkSs ss) (no_ : isNon (goC W (.want 0 nm n ss)).1 = true) (q : ∀ G', Kw K C CC WC PA PT PS G' p ns (t + 1) (goC W (.want 0 nm n ss)).2 → Q .non G') : spWWa K C CC WC PA PT PS CB CN [.ref p, .int 0, .str nm, .int n, .ref sa] G Q E := by
  obtain ⟨D, E', b, x, g⟩ := h.x
  obtain ⟨F, hF, ga⟩ := g.get hn
  have t4 := h.t4
  obtain ⟨b', g'⟩ := good_go (ca := .want 0 nm n ss) g (by omega) ⟨by decide, by decide, hn, n1, os⟩
  refine ⟨p, D, E', sa, W, 0, n, nm, F, ss, rfl, h.onC x g hF, n1, hs, os, fun e => ?_, fun k hk => ⟨g.cp hk, fun e => ?_, fun k' e G' w => q G' ⟨w.2.1, ⟨D, E', b', ?_, g'⟩, h.ok, ht⟩⟩⟩
  · rw [show goC W (.want 0 nm n ss) = (no, W) from onC_no e] at no_; cases no_
  · rw [goC_wa hk] at no_
    dsimp only at e
    split at e
    · cases e
    · rename_i hm; rw [if_neg hm] at no_; cases no_
  · dsimp only at e
    split at e
    · rename_i hm; cases e; rw [goC_wa hk, if_pos hm]; exact w.2.2
    · cases e
theorem kw_st {Q : VK} {E : XK} {CB : Addr} {nm : Str} {d : PyData} (h : Kw K C CC WC PA PT PS G p ns t W) (ht : t + 1 ≤ 20) (hn : nm ∈ ns) (hs : (lkA W.cs (0, nm)).isSome = true) (q : ∀ r G', Kw K C CC WC PA PT PS G' p ns (t + 1) (goC W (.step 0 nm)).2 → Dv G' (.ref r) (goC W (.step 0 nm)).1 → LayD 4 (goC W (.step 0 nm)).1 → Q (.ref r) G') : spWSt K C CC WC PA PT PS CB [.ref p, .int 0, .str nm] G Q E := by
  obtain ⟨D, E', b, x, g⟩ := h.x
  obtain ⟨F, hF, ga⟩ := g.get hn
  have t4 := h.t4
  have hb := g.b
  obtain ⟨b', g'⟩ := good_go (ca := .step 0 nm) g (by omega) ⟨by decide, by decide, hn⟩
  refine ⟨p, D, E', W, 0, nm, F, rfl, h.onC x g hF, h.lfs, fun e => (by rw [e] at hs; cases hs), fun k hk => ⟨⟨b, 13 * wish k, g.cp hk, ga, sent_wish (g.cp hk), by have := phi_le hk; omega⟩, fun r G' w dv => q r G' ⟨w.2.1, ⟨D, E', b', ?_, g'⟩, h.ok, ht⟩ ?_ (lay_go g _)⟩⟩
  · rw [goC_st hk hF]; exact w.2.2
  · rw [goC_st hk hF]; exact dv
theorem kw_fo {Q : VK} {E : XK} {nm : Str} {F : Fo} (h : Kw K C CC WC PA PT PS G p ns t W) (hF : lkA W.fs nm = some F) (q : ∀ a, FoAt C G a F → Q (.ref a) G) : spWFo K C CC WC [.ref p, .str nm] G Q E := by
  obtain ⟨D, E', b, x, g⟩ := h.x
  exact ⟨p, D, E', W, nm, F, rfl, x, hF, q⟩
end
/-! ### the worlds of the law's end -/
noncomputable def v0 : Wd := W0 ["a"] 1
noncomputable def d1 : Dd := .app 1 ["a", "b", "c", "d", "e", "f"]
noncomputable def d2 : Dd := .add [1] "g"
noncomputable def d3 : Dd := .set [1] ["answered"]
noncomputable def d4 : Dd := .add [1] "z"
noncomputable def d5 : Dd := .add [1] "seen"
noncomputable def v1 : Wd := (goC v0 (.act "a" d1)).2
noncomputable def v2 : Wd := (goC v1 (.act "a" d2)).2
noncomputable def v3 : Wd := (goC v2 (.act "a" d3)).2
noncomputable def v4 : Wd := (goC v3 (.act "a" d4)).2
noncomputable def v5 : Wd := (goC v4 (.act "a" d5)).2
noncomputable def u0 : Wd := W0 ["a", "b"] 1
noncomputable def u1 : Wd := (goC u0 (.act "a" (.app 4 []))).2
noncomputable def u2 : Wd := (goC u1 (.fetch 0 "a")).2
noncomputable def u3 : Wd := (goC u2 (.want 0 "a" 1 ["seen"])).2
noncomputable def u4 : Wd := (goC u3 (.swap "a" "b")).2
noncomputable def u5 : Wd := (goC u4 (.swap "b" "a")).2
noncomputable def u6 : Wd := (goC u5 (.step 0 "a")).2
noncomputable def u7 : Wd := (goC u6 (.want 0 "a" 1 [])).2
noncomputable def u8 : Wd := (goC u7 (.swap "a" "b")).2
noncomputable def u9 : Wd := (goC u8 (.step 0 "a")).2
noncomputable def u10 : Wd := (goC u9 (.remake "a")).2
theorem v2_mr : ((lkA v2.fs "a").map (·.mr)) = some 1 := by decide +kernel
theorem v5_ls : ((lkA v5.fs "a").map fun F => F.ls.map ltD) = some [.tuple [.int 1, .int 1, .tuple [.str "answered", .str "seen", .str "z"], .int 4]] := by rfl
theorem u2_w : isNon (goC u2 (.want 0 "a" 1 ["seen"])).1 = true := by decide +kernel
theorem u6_w : isNon (goC u6 (.want 0 "a" 1 [])).1 = true := by decide +kernel
theorem u5_s : (lkA u5.cs (0, "a")).isSome = true := by decide +kernel
theorem u8_s : (lkA u8.cs (0, "a")).isSome = true := by decide +kernel
theorem u10_s : (lkA u10.cs (0, "a")).isSome = true := by decide +kernel
theorem u5_d : (goC u5 (.step 0 "a")).1 = .tuple [.tuple [.str "log", .tuple [], .tuple []], .tuple [.tuple [.str "add", .tuple [.int 1], .str "seen"]], .tuple []] := by rfl
theorem u8_d : (goC u8 (.step 0 "a")).1 = .tuple [.tuple [.str "anew", .tuple [], .tuple []], .tuple [], .tuple [.int 1]] := by rfl
theorem u10_d : (goC u10 (.step 0 "a")).1 = .tuple [.tuple [.str "anew", .tuple [], .tuple []], .tuple [], .tuple []] := by rfl
theorem u10_a : ((lkA u10.fs "a").map (·.age)) = some 3 := by decide +kernel
theorem u10_b : ((lkA u10.fs "b").map (·.age)) = some 1 := by decide +kernel
noncomputable def dds : List Dd := [d3, d4, d5]
noncomputable def vv : Nat → Wd
  | 0 => v2
  | 1 => v3
  | 2 => v4
  | _ => v5
theorem vv_go : ∀ i d, dds[i]? = some d → vv (i + 1) = (goC (vv i) (.act "a" d)).2 ∧ OkD d ∧ NumD d ∧ ∀ F, canB F d = true := by
  intro i d h
  have one : (∀ n ∈ ([1] : List Int), 1 ≤ n) ∧ ([1] : List Int).length ≤ 1000 := ⟨by decide, by decide⟩
  match i, h with
  | 0, h => cases h; exact ⟨rfl, okSs_iff.mp (by decide +kernel), one, fun _ => rfl⟩
  | 1, h => cases h; exact ⟨rfl, (show okS "z" = true by decide +kernel), one, fun _ => rfl⟩
  | 2, h => cases h; exact ⟨rfl, (show okS "seen" = true by decide +kernel), one, fun _ => rfl⟩
  | n + 3, h => cases h
theorem okA : OkN ["a"] := ⟨by decide +kernel, by decide +kernel, by decide, by decide⟩
theorem okAB : OkN ["a", "b"] := ⟨by decide +kernel, by decide +kernel, by decide, by decide⟩
end K1
set_option Elab.async false
set_option linter.all false
set_option maxRecDepth 100000
set_option maxHeartbeats 8000000
/-! law. -/
namespace K1
open PySem PySem.Spec PyProof.Rows L2 RZ StX
noncomputable abbrev sLaw : Stmt := st_law
noncomputable abbrev nLaw : List Str := ["_law_script", "_law_cell", "_law_well_here", "_law_turn", "_law_world", "_law_deed_here"]
noncomputable abbrev pLaw : List Str := ["_law_script"]
theorem scLaw : FnScope nLaw pLaw (defScope sLaw) := ⟨rfl, rfl, rfl, by decide +kernel, rfl, by decide +kernel, by decide +kernel⟩
noncomputable def spLaw (K : PySem.W.Frag) (PA PT PS : Addr) : Sp := fun vs H Q _ => ∃ (a : Addr) (xs : List Int), vs = [.ref a] ∧ SqL K H a (xs.map V.int) ∧ xs.length ≤ 63 ∧ LamX.Tabs (T3 PA PT PS) H ∧ ∀ H', Q (.bl true) H'
theorem ENL.en' {p : Addr} {H H' G : Hp} (a : ENL p H' G) (s : Same H H') (n : H p = none) : LamX.ExtN H G := fun b o hb ht => a b o (fun z => by rw [z, n] at hb; cases hb) ht (s b o hb)
theorem forL_go {K : PySem.W.Frag} {te : TE} {g : TG} {tb : TS} {D : Ends} {σ : L2.St} {H : Hp} (h : te σ H fun x H1 => ∃ a, x = .ref a ∧ (∃ xs, SqL K H1 a xs) ∧ ∃ W : Nat → Nat → L2.St → Hp → Prop, (∃ m, W 0 m σ H1) ∧ ∀ i m σ H, W i m σ H → ((Itl K a).stop i H ∧ D.nx σ H) ∨ ((Itl K a).go i H ∧ ∃ N : L2.St → Hp → Prop, (∀ σ' H', N σ' H' → ∃ m', m' < m ∧ W (i + 1) m' σ' H') ∧ ∀ x H', (Itl K a).yld i H x H' → g x σ H' fun σ2 H2 => tb { D with nx := N, ct := N, bk := D.nx } σ2 H2)) : tFor (iList K te) g tb D σ H := h
section
variable {P : Program} {w : World} {K : PySem.W.Frag} {mg : Str → Option Value} {base : Heap} {C CC WC PA PT PS CB CN CV CD : Addr}
set_option maxHeartbeats 64000000 in
theorem ok_law {f : Addr} {fd : FuncData} (n1 : C ≠ WC) (n2 : CC ≠ WC) (T : Bk mg) (tf : ClT K mg C) (tw : WcT K mg WC) (D_W : MkW P w K mg base C CC WC) (D_well : Def P w K mg base CX0 1 "_law_well" nWell spWell) (D_right : Def P w K mg base CX0 16 "_law_right" pRt (spRt PA PT PS))
    (M_act : MDef P w K mg base (L2.CX P w) 10 WC "act" nWAct (spWAct K C CC WC PA PT PS CD)) (M_re : MDef P w K mg base CX0 5 WC "remake" nWN (spWRe K C CC WC PA PT PS)) (M_sw : MDef P w K mg base (L2.CX P w) 5 WC "swap" pWSw (spWSw K C CC WC PA PT PS CV)) (M_fe : MDef P w K mg base CX0 7 WC "fetch" nWCp (spWFe K C CC WC PA PT PS))
    (M_wa : MDef P w K mg base (L2.CX P w) 8 WC "want" nWWa (spWWa K C CC WC PA PT PS CB CN)) (M_st : MDef P w K mg base (L2.CX P w) 12 WC "step" nWCp (spWSt K C CC WC PA PT PS CB)) (M_fo : MDef P w K mg base CX0 3 WC "folder" nWN (spWFo K C CC WC))
    (N_mark : MDef P w K mg base CX0 1 C "mark" nSelf (spMark C)) (N_age : MDef P w K mg base CX0 1 C "age" nSelf (spAge C)) (N_letters : MDef P w K mg base CX0 1 C "letters" nSelf (spLetters C)) (F : Fun K "law" "law" sLaw f fd) : FnOk P w K mg base CX0 17 f fd pLaw (spLaw K PA PT PS) := by
  have nd := scLaw.nd
  refine F.ok scLaw (fun vs H Q E h => ?_) (fun cdv A outer s H vs Q E hr h => ?_)
  · obtain ⟨a, xs, rfl, _⟩ := h
    rfl
  · obtain ⟨a, xs, rfl, hS, hl, hT, q⟩ := h
    refine ⟨_, (C8.pss_cut (ps_for PassesOwn.never rfl (pi_listK (K := K) rfl (pe_op op_cat (pe_slice (sl_listK (K := K) rfl) (pv 0) po_none (po_some pe_int)) (pe_lst (pa_cons pe_int pa_nil)))) (pg_name (i := 1) nd rfl (Or.inl rfl))
  (pss_cons (ps_set (i := 2) nd rfl (Or.inl rfl) (pe_def D_well (hr.mono (by decide)) rfl pass0 (pa_cons (pv 1) pa_nil)))
 (pss_one (ps_for PassesOwn.never rfl (pi_range1 rfl T.range (pa_cons pe_int pa_nil)) (pg_name (i := 3) nd rfl (Or.inl rfl))
  (pss_one (ps_if (pt_not (pt_val (pe_def D_right (hr.mono (by decide)) rfl pass0 (pa_cons (pv 2) pa_nil))))
  pss_any
  pss_nil))))))
 (pss_cons (ps_set (i := 4) nd rfl (Or.inl rfl) (pe_newW D_W tw.gC (hr.mono (by decide)) rfl (pa_cons (pe_lst (pa_cons pe_str pa_nil)) (pa_cons pe_int pa_nil))))
 (pss_cons (ps_expr (pe_mdef M_act tw.cl (hr.mono (by decide)) passN (pv 4) (pa_cons pe_str (pa_cons (pe_tup (pa_cons pe_str (pa_cons pe_int (pa_cons (pe_tup (pa_cons pe_str (pa_cons pe_str (pa_cons pe_str (pa_cons pe_str (pa_cons pe_str (pa_cons pe_str pa_nil))))))) pa_nil)))) pa_nil))))
 (pss_cons (ps_expr (pe_mdef M_act tw.cl (hr.mono (by decide)) passN (pv 4) (pa_cons pe_str (pa_cons (pe_tup (pa_cons pe_str (pa_cons (pe_tup (pa_cons pe_int pa_nil)) (pa_cons pe_str pa_nil)))) pa_nil))))
 (pss_cons (ps_if (pt_cmpR op_ne (pe_mdef0 N_mark tf.cl (hr.mono (by decide)) pass0 (pe_mdef M_fo tw.cl (hr.mono (by decide)) pass0 (pv 4) (pa_cons pe_str pa_nil))) pe_int (nomark _))
  (pss_one (ps_ret pe_bl))
  pss_nil)
 (C8.pss_cut (ps_for PassesOwn.never rfl (pi_listK (K := K) rfl (pe_lst (pa_cons (pe_tup (pa_cons pe_str (pa_cons (pe_tup (pa_cons pe_int pa_nil)) (pa_cons (pe_tup (pa_cons pe_str pa_nil)) pa_nil)))) (pa_cons (pe_tup (pa_cons pe_str (pa_cons (pe_tup (pa_cons pe_int pa_nil)) (pa_cons pe_str pa_nil)))) (pa_cons (pe_tup (pa_cons pe_str (pa_cons (pe_tup (pa_cons pe_int pa_nil)) (pa_cons pe_str pa_nil)))) pa_nil))))) (pg_name (i := 5) nd rfl (Or.inl rfl))
  (pss_one (ps_expr (pe_mdef M_act tw.cl (hr.mono (by decide)) passN (pv 4) (pa_cons pe_str (pa_cons (pv 5) pa_nil))))))
 (pss_cons (ps_if (pt_cmpR (op_neDK (K := K) rfl hr.units) (pe_mdef0 N_letters tf.cl (hr.mono (by decide)) pass0 (pe_mdef M_fo tw.cl (hr.mono (by decide)) pass0 (pv 4) (pa_cons pe_str pa_nil))) (pe_lst (pa_cons (pe_tup (pa_cons pe_int (pa_cons pe_int (pa_cons (pe_tup (pa_cons pe_str (pa_cons pe_str (pa_cons pe_str pa_nil)))) (pa_cons pe_int pa_nil))))) pa_nil)) (nomark _))
  (pss_one (ps_ret pe_bl))
  pss_nil)
 (pss_cons (ps_set (i := 4) nd rfl (Or.inl rfl) (pe_newW D_W tw.gC (hr.mono (by decide)) rfl (pa_cons (pe_tup (pa_cons pe_str (pa_cons pe_str pa_nil))) (pa_cons pe_int pa_nil))))
 (pss_cons (ps_expr (pe_mdef M_act tw.cl (hr.mono (by decide)) passN (pv 4) (pa_cons pe_str (pa_cons (pe_tup (pa_cons pe_str (pa_cons pe_int (pa_cons (pe_tup pa_nil) pa_nil)))) pa_nil))))
 (pss_cons (ps_expr (pe_mdef M_fe tw.cl (hr.mono (by decide)) pass0 (pv 4) (pa_cons pe_int (pa_cons pe_str pa_nil))))
 (pss_cons (ps_expr (pe_mdef M_wa tw.cl (hr.mono (by decide)) passN (pv 4) (pa_cons pe_int (pa_cons pe_str (pa_cons pe_int (pa_cons (pe_tup (pa_cons pe_str pa_nil)) pa_nil))))))
 (pss_cons (ps_expr (pe_mdef M_sw tw.cl (hr.mono (by decide)) passN (pv 4) (pa_cons pe_str (pa_cons pe_str pa_nil))))
 (pss_cons (ps_expr (pe_mdef M_sw tw.cl (hr.mono (by decide)) passN (pv 4) (pa_cons pe_str (pa_cons pe_str pa_nil))))
 (pss_cons (ps_if (pt_cmpR (op_neDK (K := K) rfl hr.units) (pe_mdef M_st tw.cl (hr.mono (by decide)) passN (pv 4) (pa_cons pe_int (pa_cons pe_str pa_nil))) (pe_tup (pa_cons (pe_tup (pa_cons pe_str (pa_cons (pe_tup pa_nil) (pa_cons (pe_tup pa_nil) pa_nil)))) (pa_cons (pe_tup (pa_cons (pe_tup (pa_cons pe_str (pa_cons (pe_tup (pa_cons pe_int pa_nil)) (pa_cons pe_str pa_nil)))) pa_nil)) (pa_cons (pe_tup pa_nil) pa_nil)))) (nomark _))
  (pss_one (ps_ret pe_bl))
  pss_nil)
 (pss_cons (ps_expr (pe_mdef M_wa tw.cl (hr.mono (by decide)) passN (pv 4) (pa_cons pe_int (pa_cons pe_str (pa_cons pe_int (pa_cons (pe_tup pa_nil) pa_nil))))))
 (pss_cons (ps_expr (pe_mdef M_sw tw.cl (hr.mono (by decide)) passN (pv 4) (pa_cons pe_str (pa_cons pe_str pa_nil))))
 (pss_cons (ps_if (pt_cmpR (op_neDK (K := K) rfl hr.units) (pe_mdef M_st tw.cl (hr.mono (by decide)) passN (pv 4) (pa_cons pe_int (pa_cons pe_str pa_nil))) (pe_tup (pa_cons (pe_tup (pa_cons pe_str (pa_cons (pe_tup pa_nil) (pa_cons (pe_tup pa_nil) pa_nil)))) (pa_cons (pe_tup pa_nil) (pa_cons (pe_tup (pa_cons pe_int pa_nil)) pa_nil)))) (nomark _))
  (pss_one (ps_ret pe_bl))
  pss_nil)
 (pss_cons (ps_expr (pe_mdef M_re tw.cl (hr.mono (by decide)) pass0 (pv 4) (pa_cons pe_str pa_nil)))
 (pss_one (ps_ret (pe_and (pe_cmpR op_eq (pe_mdef0 N_age tf.cl (hr.mono (by decide)) pass0 (pe_mdef M_fo tw.cl (hr.mono (by decide)) pass0 (pv 4) (pa_cons pe_str pa_nil))) pe_int (nomark _)) (pe_and (pe_cmpR op_eq (pe_mdef0 N_age tf.cl (hr.mono (by decide)) pass0 (pe_mdef M_fo tw.cl (hr.mono (by decide)) pass0 (pv 4) (pa_cons pe_str pa_nil))) pe_int (nomark _)) (pe_one (pe_cmpR (op_eqDK (K := K) rfl hr.units) (pe_ix (ix_tupK (K := K) rfl) (pe_mdef M_st tw.cl (hr.mono (by decide)) passN (pv 4) (pa_cons pe_int (pa_cons pe_str pa_nil))) pe_int (fun _ _ => rfl)) (pe_tup (pa_cons pe_str (pa_cons (pe_tup pa_nil) (pa_cons (pe_tup pa_nil) pa_nil)))) (nomark _))))))))))))))))))))))))), ?_⟩
    refine ⟨fun σ G => (∃ v1 v2 v3, σ = [some (.ref a), v1, v2, v3, none, none]) ∧ LamX.Tabs (T3 PA PT PS) G, ?_, ?_⟩
    · refine ⟨_, rfl, 4, rfl, a, _, rfl, hS, fun b nb => ⟨by show 1 ≤ sizeLine; decide, fun c nc => ?_⟩⟩
      have ec : cutV (xs.map V.int) none (some 4) = (xs.take 4).map V.int := by
        have h := cut_take (xs.map V.int) 4
        rw [show cutV (xs.map V.int) none (some 4) = _ from h, List.map_take]
      have s1 := same_new nb (o := .lst (cutV (xs.map V.int) none (some 4)))
      have s2 := same_new nc (o := .lst [.int 0])
      have hb : upd H b (.lst (cutV (xs.map V.int) none (some 4))) b = _ := upd_same
      have hb2 := s2 _ _ hb
      have lb : (cutV (xs.map V.int) none (some 4)).length ≤ 4 := by rw [ec, List.length_map, List.length_take]; omega
      refine ⟨b, c, _, _, rfl, rfl, hb2, upd_same, lt1 _ (by simp only [List.length_cons, List.length_nil]; omega), fun l nl => ?_⟩
      have s3 := same_new nl (o := .lst (cutV (xs.map V.int) none (some 4) ++ [.int 0]))
      have e03 : LamX.ExtN H _ := LamX.ExtN.of ((s1.trans s2).trans s3)
      have hl3 : upd (upd (upd H b (.lst (cutV (xs.map V.int) none (some 4)))) c (.lst [.int 0])) l (.lst (cutV (xs.map V.int) none (some 4) ++ [.int 0])) l = some (.lst ((xs.take 4 ++ [0]).map V.int)) := by
        rw [upd_same, ec, List.map_append]; rfl
      have t3 := ((hT.ext s1).ext s2).ext s3
      generalize upd (upd (upd H b (.lst (cutV (xs.map V.int) none (some 4)))) c (.lst [.int 0])) l (.lst (cutV (xs.map V.int) none (some 4) ++ [.int 0])) = H3 at e03 hl3 t3
      refine ⟨l, rfl, ⟨_, sq hl3⟩, for_list (K := K) (a := l) (xs := (xs.take 4 ++ [0]).map V.int) (fun i σ G => (∃ v1 v2 v3, σ = [some (.ref a), v1, v2, v3, none, none]) ∧ LamX.ExtN H3 G ∧ LamX.Tabs (T3 PA PT PS) G) ?_ ?_ ?_ ?_⟩
      · exact ⟨⟨_, _, _, rfl⟩, LamX.ExtN.refl _, t3⟩
      · rintro i σ G _ ⟨_, eG, _⟩
        exact sq (eG _ _ hl3 fun _ z => by cases z)
      · rintro i y σ G hy ⟨⟨v1, v2, v3, rfl⟩, eG, tG⟩
        rw [List.getElem?_map] at hy
        obtain ⟨cc, hc, rfl⟩ := Option.map_eq_some_iff.mp hy
        refine ⟨_, rfl, cc, rfl, fun W H4 nW s4 w4 => ?_⟩
        refine ⟨4, rfl, by decide, by decide, for_range (lo := 0) (n := 4) (fun j σ G2 => (∃ v3, σ = [some (.ref a), some (.int cc), some (.ref W), v3, none, none]) ∧ ENL W H4 G2 ∧ WellAt G2 W ∧ LamX.Tabs (T3 PA PT PS) G2) ⟨⟨_, rfl⟩, fun _ _ _ _ h => h, w4, tG.ext s4⟩ ?_ ?_⟩
        · rintro j σ G2 hj ⟨⟨v3, rfl⟩, e2, w5, t5⟩
          exact ⟨_, rfl, W, rfl, w5, t5, fun G3 e6 w6 t6 => ⟨_, rfl, itbF rfl ⟨⟨_, rfl⟩, fun b o n t h => e6 b o n t (e2 b o n t h), w6, t6⟩⟩⟩
        · rintro σ G2 ⟨⟨v3, rfl⟩, e2, w5, t5⟩
          exact ⟨⟨_, _, _, rfl⟩, eG.trans (e2.en' s4 nW), t5⟩
      · rintro σ G ⟨hσ, eG, tG⟩
        exact ⟨hσ, tG⟩
    rintro σ G0 ⟨⟨x1, x2, x3, rfl⟩, tG⟩
    refine ⟨by show 1 ≤ sizeLine; decide, fun nl nnl => ?_⟩
    have s1 := same_new nnl (o := .lst [.str "a"])
    have hnl : upd G0 nl (.lst [.str "a"]) nl = some (.lst ((["a"] : List Str).map V.str)) := upd_same
    have t1 := tG.ext s1
    generalize upd G0 nl (.lst [.str "a"]) = G1 at s1 hnl t1
    refine fun p dx np ndx hne => ?_
    have s2 : Same G1 (upd (upd G1 dx (.own p)) p (.ins WC dx [])) := fun b o hb => by
      rw [upd_ne (fun e => by rw [e, np] at hb; cases hb), upd_ne (fun e => by rw [e, ndx] at hb; cases hb)]; exact hb
    refine ⟨p, nl, dx, 1, ["a"], rfl, upd_same, .inl (s2 _ _ hnl), fun e => (by rw [e, np] at hnl; cases hnl), okA, by decide, by decide, fun D E' G3 k3 nD nE hW => ⟨rfl, ?_⟩⟩
    have s3 : Same G1 G3 := fun b o hb => k3 b o (fun e => by rw [e, np] at hb; cases hb) (s2 _ _ hb)
    have kw0 : Kw K C CC WC PA PT PS G3 p ["a"] 0 v0 := ⟨t1.ext s3, ⟨D, E', 0, hW, good_w0⟩, okA, by decide⟩
    clear hW k3 nD nE s3 s2 np ndx hne hnl t1 s1
    obtain ⟨dx, fs, hp, hno⟩ := kw0.ins
    try dsimp only
    try refine seq_opq fun N hN => ?_
    refine ⟨_, rfl, p, dx, fs, rfl, hp, hno (by decide +kernel), ?_⟩
    refine gs_cons (gs_str "a") (gs_cons (gs_tup (gs_cons (gs_str "append") (gs_cons (gs_int 1) (gs_cons (gs_tup (gs_cons (gs_str "a") (gs_cons (gs_str "b") (gs_cons (gs_str "c") (gs_cons (gs_str "d") (gs_cons (gs_str "e") (gs_cons (gs_str "f") gs_nil))))))) gs_nil)))) gs_nil) _ _ fun vs J s da => ?_
    obtain ⟨x2, rfl, h2⟩ := a2sd da
    clear da
    obtain ⟨a1, rfl, hd⟩ := dd_at (d := d1) h2 ⟨by decide, okSs_iff.mp (by decide +kernel)⟩ trivial
    refine kw_act (d := d1) (kw0.same n1 n2 s) (by decide) (by decide) hd ⟨by decide, okSs_iff.mp (by decide +kernel)⟩ trivial (fun _ => rfl) fun G4 _ kw1 => ?_
    first | refine hN _ _ ?_ | skip
    try clear hN N
    clear kw0 hp hno hd h2 s
    obtain ⟨dx, fs, hp, hno⟩ := kw1.ins
    try dsimp only
    try refine seq_opq fun N hN => ?_
    refine ⟨_, rfl, p, dx, fs, rfl, hp, hno (by decide +kernel), ?_⟩
    refine gs_cons (gs_str "a") (gs_cons (gs_tup (gs_cons (gs_str "add") (gs_cons (gs_tup (gs_cons (gs_int 1) gs_nil)) (gs_cons (gs_str "g") gs_nil)))) gs_nil) _ _ fun vs J s da => ?_
    obtain ⟨x2, rfl, h2⟩ := a2sd da
    clear da
    have one : (∀ n ∈ ([1] : List Int), 1 ≤ n) ∧ ([1] : List Int).length ≤ 1000 := ⟨by decide, by decide⟩
    obtain ⟨a1, rfl, hd⟩ := dd_at (d := d2) h2 (show okS "g" = true by decide +kernel) one
    refine kw_act (d := d2) (kw1.same n1 n2 s) (by decide) (by decide) hd (show okS "g" = true by decide +kernel) one (fun _ => rfl) fun G5 _ kw2 => ?_
    first | refine hN _ _ ?_ | skip
    try clear hN N
    clear kw1 hp hno hd h2 s
    have kw2 : Kw K C CC WC PA PT PS G5 p ["a"] 2 v2 := kw2
    obtain ⟨F2, hF2, hm2⟩ := Option.map_eq_some_iff.mp v2_mr
    obtain ⟨dx, fs, hp, hno⟩ := kw2.ins
    try dsimp only
    try refine seq_opq fun N hN => ?_
    refine ⟨_, rfl, p, dx, fs, rfl, hp, hno (by decide +kernel), ?_⟩
    refine gs_cons (gs_str "a") gs_nil _ _ fun vs J s da => ?_
    obtain rfl := a1s da
    clear da
    refine kw_fo (kw2.same n1 n2 s) hF2 fun fa hfa => ?_
    obtain ⟨dxf, tl, tg, hfi, _⟩ := id hfa
    refine ⟨fa, dxf, _, rfl, hfi, fl_no (by decide +kernel), fa, F2, rfl, hfa, rfl, ?_⟩
    refine ⟨_, rfl, itbF (by rw [hm2]; decide) ?_⟩
    first | refine hN _ _ ?_ | skip
    try clear hN N
    have kw2 := kw2.same n1 n2 s
    clear hp hno s hfi hfa
    -- three deeds
    refine ⟨fun σ G => (∃ v1 v2 v3 v5, σ = [some (.ref a), v1, v2, v3, some (.ref p), v5]) ∧ Kw K C CC WC PA PT PS G p ["a"] 5 v5, ?_, ?_⟩
    · refine forL_go ?_
      refine gs_lst (ds := dds.map ddT) (gs_cons (gs_tup (gs_cons (gs_str "set") (gs_cons (gs_tup (gs_cons (gs_int 1) gs_nil)) (gs_cons (gs_tup (gs_cons (gs_str "answered") gs_nil)) gs_nil)))) (gs_cons (gs_tup (gs_cons (gs_str "add") (gs_cons (gs_tup (gs_cons (gs_int 1) gs_nil)) (gs_cons (gs_str "z") gs_nil)))) (gs_cons (gs_tup (gs_cons (gs_str "add") (gs_cons (gs_tup (gs_cons (gs_int 1) gs_nil)) (gs_cons (gs_str "seen") gs_nil)))) gs_nil))) (by decide) _ _ fun v J1 s1 dv => ?_
      obtain ⟨l, zs, rfl, hl, dzs⟩ : ∃ l zs, v = .ref l ∧ J1 l = some (.lst zs) ∧ DvA J1 zs (dds.map ddT) := by
        cases dv with
        | lst e r => exact ⟨_, _, rfl, e, r⟩
      have lz := dzs.len
      refine ⟨l, rfl, ⟨_, sq hl⟩, for_list (K := K) (a := l) (xs := zs) (fun i σ G => (∃ v1 v2 v3 v5, σ = [some (.ref a), v1, v2, v3, some (.ref p), v5]) ∧ LT J1 G ∧ i ≤ 3 ∧ Kw K C CC WC PA PT PS G p ["a"] (2 + i) (vv i)) ?_ ?_ ?_ ?_⟩
      · exact ⟨⟨_, _, _, _, rfl⟩, LT.same fun _ _ h => h, by decide, kw2.same n1 n2 s1⟩
      · rintro i σ G _ ⟨_, lt, _⟩
        exact sq (lt.l _ _ hl)
      · rintro i y σ G hy ⟨⟨v1, v2, v3, v5, rfl⟩, lt, i3, kwi⟩
        obtain ⟨d, hd, hv⟩ := dzs.getD' hy
        obtain ⟨eg, od, nd', hc⟩ := vv_go i d hd
        have il := lt_of_get hd
        have il3 : i < 3 := il
        obtain ⟨da, rfl, hda⟩ := dd_at (hv.tu lt.t (tO_dd d)) od nd'
        obtain ⟨dx, fs, hp, hno⟩ := kwi.ins
        refine ⟨_, rfl, p, dx, fs, rfl, hp, hno (by decide +kernel), _, rfl, ?_⟩
        dsimp only [tNil]
        refine kw_act (nm := "a") (d := d) kwi (by omega) (by decide) hda od nd' hc fun G4 lt4 kw4 => ?_
        rw [← eg] at kw4
        exact ⟨⟨_, _, _, _, rfl⟩, lt.trans lt4, by omega, kw4⟩
      · rintro σ G ⟨hσ, lt, i3, kwi⟩
        rw [show zs.length = 3 from lz] at kwi
        exact ⟨hσ, kwi⟩
    rintro σ G6 ⟨⟨y1, y2, y3, y5, rfl⟩, kw5⟩
    obtain ⟨F5, hF5, hm5⟩ := Option.map_eq_some_iff.mp v5_ls
    obtain ⟨dx, fs, hp, hno⟩ := kw5.ins
    try dsimp only
    try refine seq_opq fun N hN => ?_
    refine ⟨_, rfl, p, dx, fs, rfl, hp, hno (by decide +kernel), ?_⟩
    refine gs_cons (gs_str "a") gs_nil _ _ fun vs J s da => ?_
    obtain rfl := a1s da
    clear da
    refine kw_fo (kw5.same n1 n2 s) hF5 fun fa hfa => ?_
    obtain ⟨dxf, tl, tg, hfi, _⟩ := id hfa
    refine ⟨fa, dxf, _, rfl, hfi, fl_no (by decide +kernel), fa, F5, rfl, hfa, fun l G7 s7 nl hL => ?_⟩
    rw [hm5] at hL
    refine gs_lst (gs_cons (gs_tup (gs_cons (gs_int 1) (gs_cons (gs_int 1) (gs_cons (gs_tup (gs_cons (gs_str "answered") (gs_cons (gs_str "seen") (gs_cons (gs_str "z") gs_nil)))) (gs_cons (gs_int 4) gs_nil))))) gs_nil) (by decide) _ _ fun v J2 s8 dv => ?_
    have lay : LayD 3 (.list [.tuple [.int 1, .int 1, .tuple [.str "answered", .str "seen", .str "z"], .int 4]]) := ⟨by decide +kernel, by decide +kernel, by decide +kernel⟩
    refine ne_same lay (hL.same s8) dv ⟨_, rfl, itbF rfl ?_⟩
    first | refine hN _ _ ?_ | skip
    try clear hN N
    have tG := ((kw5.same n1 n2 s).T.ext s7).ext s8
    clear hL dv s8 s7 nl hfi hfa hp hno s kw5 hF5 hm5
    refine ⟨by show 2 ≤ sizeLine; decide, fun nl nnl => ?_⟩
    have s1 := same_new nnl (o := .tup [.str "a", .str "b"])
    have hnl : upd J2 nl (.tup [.str "a", .str "b"]) nl = some (.tup ((["a", "b"] : List Str).map V.str)) := upd_same
    have t1 := tG.ext s1
    generalize upd J2 nl (.tup [.str "a", .str "b"]) = G1 at s1 hnl t1
    clear tG
    refine fun p dx np ndx hne => ?_
    have s2 : Same G1 (upd (upd G1 dx (.own p)) p (.ins WC dx [])) := fun b o hb => by
      rw [upd_ne (fun e => by rw [e, np] at hb; cases hb), upd_ne (fun e => by rw [e, ndx] at hb; cases hb)]; exact hb
    refine ⟨p, nl, dx, 1, ["a", "b"], rfl, upd_same, .inr (s2 _ _ hnl), fun e => (by rw [e, np] at hnl; cases hnl), okAB, by decide, by decide, fun D E' G3 k3 nD nE hW => ⟨rfl, ?_⟩⟩
    have s3 : Same G1 G3 := fun b o hb => k3 b o (fun e => by rw [e, np] at hb; cases hb) (s2 _ _ hb)
    have k0 : Kw K C CC WC PA PT PS G3 p ["a", "b"] 0 u0 := ⟨t1.ext s3, ⟨D, E', 0, hW, good_w0⟩, okAB, by decide⟩
    clear hW k3 nD nE s3 s2 np ndx hne hnl t1 s1
    obtain ⟨dx, fs, hp, hno⟩ := k0.ins
    try dsimp only
    try refine seq_opq fun N hN => ?_
    refine ⟨_, rfl, p, dx, fs, rfl, hp, hno (by decide +kernel), ?_⟩
    refine gs_cons (gs_str "a") (gs_cons (gs_tup (gs_cons (gs_str "append") (gs_cons (gs_int 4) (gs_cons (gs_tup gs_nil) gs_nil)))) gs_nil) _ _ fun vs J s da => ?_
    obtain ⟨x2, rfl, h2⟩ := a2sd da
    clear da
    obtain ⟨a1, rfl, hd⟩ := dd_at (d := .app 4 []) h2 ⟨by decide, okSs_iff.mp (by decide +kernel)⟩ trivial
    refine kw_act (nm := "a") (d := .app 4 []) (k0.same n1 n2 s) (by decide) (by decide) hd ⟨by decide, okSs_iff.mp (by decide +kernel)⟩ trivial (fun _ => rfl) fun G4 _ k1 => ?_
    first | refine hN _ _ ?_ | skip
    try clear hN N
    clear k0 hp hno hd h2 s
    obtain ⟨dx, fs, hp, hno⟩ := k1.ins
    try dsimp only
    try refine seq_opq fun N hN => ?_
    refine ⟨_, rfl, p, dx, fs, rfl, hp, hno (by decide +kernel), ?_⟩
    refine gs_cons (gs_int 0) (gs_cons (gs_str "a") gs_nil) _ _ fun vs J s da => ?_
    obtain rfl := a2is da
    clear da
    refine kw_fe (nm := "a") (k1.same n1 n2 s) (by decide) (by decide) fun G5 k2 => ?_
    first | refine hN _ _ ?_ | skip
    try clear hN N
    clear k1 hp hno s
    obtain ⟨dx, fs, hp, hno⟩ := k2.ins
    try dsimp only
    try refine seq_opq fun N hN => ?_
    refine ⟨_, rfl, p, dx, fs, rfl, hp, hno (by decide +kernel), ?_⟩
    refine gs_cons (gs_int 0) (gs_cons (gs_str "a") (gs_cons (gs_int 1) (gs_cons (gs_tup (gs_cons (gs_str "seen") gs_nil)) gs_nil))) _ _ fun vs J s da => ?_
    obtain ⟨x4, rfl, h4⟩ := a4isid da
    clear da
    obtain ⟨sa, rfl, hsa⟩ := dv_ss (ss := ["seen"]) h4
    refine kw_wa (nm := "a") (n := 1) (ss := ["seen"]) (k2.same n1 n2 s) (by decide) (by decide) (by decide) hsa (okSs_iff.mp (by decide +kernel)) u2_w fun G6 k3 => ?_
    first | refine hN _ _ ?_ | skip
    try clear hN N
    clear k2 hp hno s h4 hsa
    obtain ⟨dx, fs, hp, hno⟩ := k3.ins
    try dsimp only
    try refine seq_opq fun N hN => ?_
    refine ⟨_, rfl, p, dx, fs, rfl, hp, hno (by decide +kernel), ?_⟩
    refine gs_cons (gs_str "a") (gs_cons (gs_str "b") gs_nil) _ _ fun vs J s da => ?_
    obtain rfl := a2ss da
    clear da
    refine kw_sw (nm := "a") (ot := "b") (k3.same n1 n2 s) (by decide) (by decide) (by decide) (by decide) fun G7 k4 => ?_
    first | refine hN _ _ ?_ | skip
    try clear hN N
    clear k3 hp hno s
    obtain ⟨dx, fs, hp, hno⟩ := k4.ins
    try dsimp only
    try refine seq_opq fun N hN => ?_
    refine ⟨_, rfl, p, dx, fs, rfl, hp, hno (by decide +kernel), ?_⟩
    refine gs_cons (gs_str "b") (gs_cons (gs_str "a") gs_nil) _ _ fun vs J s da => ?_
    obtain rfl := a2ss da
    clear da
    refine kw_sw (nm := "b") (ot := "a") (k4.same n1 n2 s) (by decide) (by decide) (by decide) (by decide) fun G8 k5 => ?_
    first | refine hN _ _ ?_ | skip
    try clear hN N
    clear k4 hp hno s
    have k5 : Kw K C CC WC PA PT PS G8 p ["a", "b"] 5 u5 := k5
    obtain ⟨dx, fs, hp, hno⟩ := k5.ins
    try dsimp only
    try refine seq_opq fun N hN => ?_
    refine ⟨_, rfl, p, dx, fs, rfl, hp, hno (by decide +kernel), ?_⟩
    refine gs_cons (gs_int 0) (gs_cons (gs_str "a") gs_nil) _ _ fun vs J s da => ?_
    obtain rfl := a2is da
    clear da
    refine kw_st (nm := "a") (d := .none) (k5.same n1 n2 s) (by decide) (by decide) u5_s fun r G9 k6 dv lay => ?_
    have k6 : Kw K C CC WC PA PT PS G9 p ["a", "b"] 6 u6 := k6
    rw [u5_d] at dv lay
    clear k5 hp hno s
    refine gs_tup (gs_cons (gs_tup (gs_cons (gs_str "log") (gs_cons (gs_tup gs_nil) (gs_cons (gs_tup gs_nil) gs_nil)))) (gs_cons (gs_tup (gs_cons (gs_tup (gs_cons (gs_str "add") (gs_cons (gs_tup (gs_cons (gs_int 1) gs_nil)) (gs_cons (gs_str "seen") gs_nil)))) gs_nil)) (gs_cons (gs_tup gs_nil) gs_nil))) (by decide) _ _ fun v J3 s3 dv2 => ?_
    refine ne_same lay (dv.tu (TU.same s3) (by rfl)) dv2 ⟨_, rfl, itbF rfl ?_⟩
    first | refine hN _ _ ?_ | skip
    try clear hN N
    have k6 := k6.same n1 n2 s3
    clear dv lay dv2 s3
    obtain ⟨dx, fs, hp, hno⟩ := k6.ins
    try dsimp only
    try refine seq_opq fun N hN => ?_
    refine ⟨_, rfl, p, dx, fs, rfl, hp, hno (by decide +kernel), ?_⟩
    refine gs_cons (gs_int 0) (gs_cons (gs_str "a") (gs_cons (gs_int 1) (gs_cons (gs_tup gs_nil) gs_nil))) _ _ fun vs J s da => ?_
    obtain ⟨x4, rfl, h4⟩ := a4isid da
    clear da
    obtain ⟨sa, rfl, hsa⟩ := dv_ss (ss := []) h4
    refine kw_wa (nm := "a") (n := 1) (ss := []) (k6.same n1 n2 s) (by decide) (by decide) (by decide) hsa (okSs_iff.mp (by decide +kernel)) u6_w fun G10 k7 => ?_
    first | refine hN _ _ ?_ | skip
    try clear hN N
    clear k6 hp hno s h4 hsa
    obtain ⟨dx, fs, hp, hno⟩ := k7.ins
    try dsimp only
    try refine seq_opq fun N hN => ?_
    refine ⟨_, rfl, p, dx, fs, rfl, hp, hno (by decide +kernel), ?_⟩
    refine gs_cons (gs_str "a") (gs_cons (gs_str "b") gs_nil) _ _ fun vs J s da => ?_
    obtain rfl := a2ss da
    clear da
    refine kw_sw (nm := "a") (ot := "b") (k7.same n1 n2 s) (by decide) (by decide) (by decide) (by decide) fun G11 k8 => ?_
    first | refine hN _ _ ?_ | skip
    try clear hN N
    clear k7 hp hno s
    have k8 : Kw K C CC WC PA PT PS G11 p ["a", "b"] 8 u8 := k8
    obtain ⟨dx, fs, hp, hno⟩ := k8.ins
    try dsimp only
    try refine seq_opq fun N hN => ?_
    refine ⟨_, rfl, p, dx, fs, rfl, hp, hno (by decide +kernel), ?_⟩
    refine gs_cons (gs_int 0) (gs_cons (gs_str "a") gs_nil) _ _ fun vs J s da => ?_
    obtain rfl := a2is da
    clear da
    refine kw_st (nm := "a") (d := .none) (k8.same n1 n2 s) (by decide) (by decide) u8_s fun r G12 k9 dv lay => ?_
    rw [u8_d] at dv lay
    clear k8 hp hno s
    refine gs_tup (gs_cons (gs_tup (gs_cons (gs_str "anew") (gs_cons (gs_tup gs_nil) (gs_cons (gs_tup gs_nil) gs_nil)))) (gs_cons (gs_tup gs_nil) (gs_cons (gs_tup (gs_cons (gs_int 1) gs_nil)) gs_nil))) (by decide) _ _ fun v J4 s4 dv2 => ?_
    refine ne_same lay (dv.tu (TU.same s4) (by rfl)) dv2 ⟨_, rfl, itbF rfl ?_⟩
    first | refine hN _ _ ?_ | skip
    try clear hN N
    have k9 : Kw K C CC WC PA PT PS J4 p ["a", "b"] 9 u9 := k9.same n1 n2 s4
    clear dv lay dv2 s4
    obtain ⟨dx, fs, hp, hno⟩ := k9.ins
    try dsimp only
    try refine seq_opq fun N hN => ?_
    refine ⟨_, rfl, p, dx, fs, rfl, hp, hno (by decide +kernel), ?_⟩
    refine gs_cons (gs_str "a") gs_nil _ _ fun vs J s da => ?_
    obtain rfl := a1s da
    clear da
    refine kw_re (nm := "a") (k9.same n1 n2 s) (by decide) (by decide) fun G13 k10 => ?_
    first | refine hN _ _ ?_ | skip
    try clear hN N
    clear k9 hp hno s
    have k10 : Kw K C CC WC PA PT PS G13 p ["a", "b"] 10 u10 := k10
    obtain ⟨Fa, hFa, ha3⟩ := Option.map_eq_some_iff.mp u10_a
    obtain ⟨Fb, hFb, hb1⟩ := Option.map_eq_some_iff.mp u10_b
    obtain ⟨dx, fs, hp, hno⟩ := k10.ins
    try dsimp only
    try refine seq_opq fun N hN => ?_
    refine ⟨_, rfl, p, dx, fs, rfl, hp, hno (by decide +kernel), ?_⟩
    refine gs_cons (gs_str "a") gs_nil _ _ fun vs J s da => ?_
    obtain rfl := a1s da
    clear da
    refine kw_fo (k10.same n1 n2 s) hFa fun fa hfa => ?_
    obtain ⟨dxf, tl, tg, hfi, _⟩ := id hfa
    refine ⟨fa, dxf, _, rfl, hfi, fl_no (by decide +kernel), fa, Fa, rfl, hfa, rfl, ?_⟩
    rw [ha3]
    refine ⟨_, rfl, itbT (by decide) ?_⟩
    have k10 := k10.same n1 n2 s
    clear hp hno s hfa hfi
    obtain ⟨dx, fs, hp, hno⟩ := k10.ins
    try dsimp only
    try refine seq_opq fun N hN => ?_
    refine ⟨_, rfl, p, dx, fs, rfl, hp, hno (by decide +kernel), ?_⟩
    refine gs_cons (gs_str "b") gs_nil _ _ fun vs J s da => ?_
    obtain rfl := a1s da
    clear da
    refine kw_fo (k10.same n1 n2 s) hFb fun fb hfb => ?_
    obtain ⟨dxf, tl, tg, hfi, _⟩ := id hfb
    refine ⟨fb, dxf, _, rfl, hfi, fl_no (by decide +kernel), fb, Fb, rfl, hfb, rfl, ?_⟩
    rw [hb1]
    refine ⟨_, rfl, itbT (by decide) ?_⟩
    have k10 := k10.same n1 n2 s
    clear hp hno s hfb hfi
    obtain ⟨dx, fs, hp, hno⟩ := k10.ins
    try dsimp only
    try refine seq_opq fun N hN => ?_
    refine ⟨_, rfl, p, dx, fs, rfl, hp, hno (by decide +kernel), ?_⟩
    refine gs_cons (gs_int 0) (gs_cons (gs_str "a") gs_nil) _ _ fun vs J s da => ?_
    obtain rfl := a2is da
    clear da
    refine kw_st (nm := "a") (d := .none) (k10.same n1 n2 s) (by decide) (by decide) u10_s fun r G14 k11 dv lay => ?_
    rw [u10_d] at dv lay
    obtain ⟨rs, hr', drs⟩ := dv.tups
    cases drs with | cons g1 drs =>
    cases drs with | cons g2 drs =>
    cases drs with | cons g3 drs =>
    cases drs
    refine ⟨r, _, 0, _, rfl, rfl, st hr', atI_nat (j := 0) rfl, ?_⟩
    refine gs_tup (gs_cons (gs_str "anew") (gs_cons (gs_tup gs_nil) (gs_cons (gs_tup gs_nil) gs_nil))) (by decide) _ _ fun v J5 s5 dv2 => ?_
    have layA : LayD 2 (.tuple [.str "anew", .tuple [], .tuple []]) := ⟨by decide +kernel, by decide +kernel, by decide +kernel⟩
    refine ⟨_, _, (g1.tu (TU.same s5) (by rfl)).dp layA.nd, dv2.dp layA.nd, layA.sh, layA.sh, ?_⟩
    rw [eqv_same' layA]
    exact q _
end
end K1
set_option Elab.async false
set_option linter.all false
set_option maxRecDepth 100000
set_option maxHeartbeats 4000000
/-! For the end: own errors, defs whose lambdas stand in a table (taken from k31's F11 and F15). -/
namespace K1
open PySem PySem.Spec PyProof.Rows L2
section
variable {K : PySem.W.Frag} {h : Heap} {mg : Str → Option Value}
theorem exm_own {S : Addr} (h1 : PySem.W.subIn K (.ref S) (.type "BaseException") = some true) (h2 : PySem.W.isClsIn K S = true) (h3 : PySem.W.typeIn K (.ref S) = some (.type "type")) (h4 : PySem.W.subIn K (.ref S) (.ref S) = some true) :
    PySem.W.exmOne K (.ref S) (.ref S) = some true := by
  unfold PySem.W.exmOne
  unfold PySem.W.kitCls
  unfold PySem.W.isClsIn at h2
  simp only [h1, h2, h3, h4]
  simp
theorem tide_mk {prog : Program} {x fl qual tx : Str} {C fI cda cc : Addr} {nm q : Str} {N : Addr} {bs BM : List Value} {sn : List Str} {sub : List Value} {ab : Bool} {col : Option Bool} {dd : Option Addr} {m0 m1 m2 m3 m5 : Option Value}
    {oc doc pm ct ccl cl : Value} {od an cdd cld : Option Addr} {osl ccs csl : Array (Option Value)} {j : Nat} {p1 p2 q1 q2 q3 q4 q5 q6 q7 q8 q9 q10 : Pos} {vs : Array Value} {file : Str} {tf : Tok} (X : K.In h) (G : h.Ns mainGlobals mg) (ok : PySem.Tide.FlOk fl)
    (ci : PySem.Tide.CallIs tx j q1 q2 q3 q4 q5) (htop : (prog.main.scope.names.lookup ("super" : Str)).isSome = false)
    (aC : PySem.W.nsIn K mainGlobals x = some (some (.ref C))) (xL : K.lookup C = some (PySem.excClassObj nm q C N bs BM true sn sub ab col dd m0 m1 m2 m3 m5 "ValueError.__new__")) (bm : PySem.HandSPX.refsVE BM = true)
    (sa : PySem.W.findIn K (.ref C) "__setattr__" = some (some (.builtin "object.__setattr__"))) (ga : PySem.W.findIn K (.ref C) "__getattribute__" = some (some (.builtin "BaseException.__getattribute__"))) (gg : PySem.W.findIn K (.ref C) "__getattr__" = some none) (nb : PySem.W.findIn K (.ref C) fl = some none)
    (a1 : PySem.W.findIn K (.ref C) "__init__" = some (some (.ref fI))) (t1 : PySem.W.typeIn K (.ref fI) = some (.type "function"))
    (l1 : K.lookup fI = some ⟨oc, od, .func (PySem.W.ksFn "__init__" qual (PySem.Tide.iA fl p1 p2) (PySem.Tide.iB fl tx j q1 q2 q3 q4 q5 q6 q7 q8 q9 q10) (PySem.Tide.iS fl) .none .none doc pm an (.ref cda) ct cc), osl⟩) (c1 : PySem.W.codeIn K (.ref cda) qual = true)
    (n1 : K.lookup cda = some ⟨ccl, cdd, .fields vs, ccs⟩) (n2 : vs[2]? = some (.str file tf)) (n3 : ((prog.main.file : Str) == file) = true) (n4 : K.lookup cc = some ⟨cl, cld, .cell (some (.ref C)), csl⟩)
    (kC : PySem.W.keepIn K (.ref C) = true) (eC : PySem.W.subIn K (.ref C) (.type "BaseException") = some true) (tC : PySem.W.typeIn K (.ref C) = some (.type "type")) (hC : PySem.W.hasDictIn K C = true) (iC : PySem.W.isClsIn K C = true) (sC : PySem.W.subIn K (.ref C) (.ref C) = some true)
    (su : PySem.W.ks_superIn K C C "__init__" = some (some (.builtin "ValueError.__init__"))) (vC : PySem.W.subIn K (.ref C) (.type "ValueError") = some true) (mC : PySem.W.mroIn K C (.ref C) = some true) (tpa : PySem.W.nsIn K PySem.cStatics "thirdparty.any" = some none)
    (ns : PySem.W.nsIn K mainGlobals "super" = some none) : PySem.Tide.TideTxt prog K mg x C fI fl :=
  { gC := PySem.W.mg_of X G aC, ok := ok, cls := ⟨nm, q, N, bs, BM, sn, sub, ab, col, dd, m0, m1, m2, m3, m5, xL, bm⟩, sa := sa, ga := ga, gg := gg, noN := nb, iC := a1, tC := t1, kC := kC, exC := eC, tyC := tC, hdC := hC, te := exm_own eC iC tC sC, sup := su, isV := vC, self_ := mC, tpa := tpa,
    nsu := PySem.W.mg_none_of X G ns, htop := htop,
    fn := ⟨oc, od, doc, pm, ct, an, osl, qual, tx, j, p1, p2, q1, q2, q3, q4, q5, q6, q7, q8, q9, q10, cda, cc, l1, c1, ci, ⟨ccl, cdd, vs, ccs, file, tf, n1, n2, n3⟩, ⟨cl, cld, csl, n4⟩⟩ }
end
end K1
set_option Elab.async false
set_option linter.all false
set_option maxRecDepth 100000
set_option maxHeartbeats 4000000
namespace K1
open PySem PySem.Spec PyProof.Rows L2 RZ StX
theorem len1 {α : Type _} {us : List α} (h : us.length = 1) : ∃ x0, us = [x0] := match us, h with | [x0], _ => ⟨_, rfl⟩
theorem len2 {α : Type _} {us : List α} (h : us.length = 2) : ∃ x0 x1, us = [x0, x1] := match us, h with | [x0, x1], _ => ⟨_, _, rfl⟩
theorem len3 {α : Type _} {us : List α} (h : us.length = 3) : ∃ x0 x1 x2, us = [x0, x1, x2] := match us, h with | [x0, x1, x2], _ => ⟨_, _, _, rfl⟩
theorem len4 {α : Type _} {us : List α} (h : us.length = 4) : ∃ x0 x1 x2 x3, us = [x0, x1, x2, x3] := match us, h with | [x0, x1, x2, x3], _ => ⟨_, _, _, _, rfl⟩
theorem len5 {α : Type _} {us : List α} (h : us.length = 5) : ∃ x0 x1 x2 x3 x4, us = [x0, x1, x2, x3, x4] := match us, h with | [x0, x1, x2, x3, x4], _ => ⟨_, _, _, _, _, rfl⟩
/-! ### the end -/
noncomputable def AtM (K : PySem.W.Frag) (C : Addr) (m q : Str) (st : Stmt) : Prop := ∃ (f : Addr) (fd : FuncData), Meth K C m f ∧ Fun K m q st f fd
noncomputable def AtMC (K : PySem.W.Frag) (C : Addr) (m q : Str) (st : Stmt) (c : Addr) : Prop := ∃ (f : Addr) (oc : Value) (od : Option Addr) (kV doc pm : Value) (an : Option Addr) (ct : Value) (osl : Array (Option Value)),
  Meth K C m f ∧ K.lookup f = some ⟨oc, od, .func (PySem.W.fnOf m q (defArgs st) (defBody st) (defScope st) .none kV doc pm an (.ref c) ct), osl⟩ ∧ PySem.W.codeIn K (.ref c) q = true
section
variable {K : PySem.W.Frag} {h : Heap} {mg : Str → Option Value}
theorem cs_mk {x : Str} {n : Int} {t : Tok} {v : Value} (X : K.In h) (G : h.Ns mainGlobals mg) (a : PySem.W.nsIn K mainGlobals x = some (some v)) (e : v = .int n t) : ∃ t, mg x = some (.int n t) := ⟨t, by rw [PySem.W.mg_of X G a, e]⟩
theorem at_mk {x : Str} {st : Stmt} {f : Addr} {oc : Value} {od an : Option Addr} {osl : Array (Option Value)} {kV doc pm cdv ct : Value} (X : K.In h) (G : h.Ns mainGlobals mg) (a : PySem.W.nsIn K mainGlobals x = some (some (.ref f)))
    (l : K.lookup f = some ⟨oc, od, .func (PySem.W.fnOf x x (defArgs st) (defBody st) (defScope st) .none kV doc pm an cdv ct), osl⟩) (c : PySem.W.codeIn K cdv x = true) (k : PySem.W.keepIn K (.ref f) = true) : At K mg x st :=
  ⟨f, _, PySem.W.mg_of X G a, fun_mk l c k⟩
theorem atM_mk {C : Addr} {m q : Str} {st : Stmt} {f : Addr} {oc : Value} {od an : Option Addr} {osl : Array (Option Value)} {kV doc pm cdv ct : Value} (a : PySem.W.findIn K (.ref C) m = some (some (.ref f))) (n : PySem.W.isFn K (.ref f) = true)
    (l : K.lookup f = some ⟨oc, od, .func (PySem.W.fnOf m q (defArgs st) (defBody st) (defScope st) .none kV doc pm an cdv ct), osl⟩) (c : PySem.W.codeIn K cdv q = true) (k : PySem.W.keepIn K (.ref f) = true) : AtM K C m q st :=
  ⟨f, _, ⟨a, n, k⟩, fun_mk l c k⟩
theorem atMC_mk {C : Addr} {m q : Str} {st : Stmt} {f co : Addr} {oc : Value} {od an : Option Addr} {osl : Array (Option Value)} {kV doc pm ct : Value} (a : PySem.W.findIn K (.ref C) m = some (some (.ref f))) (n : PySem.W.isFn K (.ref f) = true)
    (l : K.lookup f = some ⟨oc, od, .func (PySem.W.fnOf m q (defArgs st) (defBody st) (defScope st) .none kV doc pm an (.ref co) ct), osl⟩) (c : PySem.W.codeIn K (.ref co) q = true) (k : PySem.W.keepIn K (.ref f) = true) : AtMC K C m q st co :=
  ⟨f, oc, od, kV, doc, pm, an, ct, osl, ⟨a, n, k⟩, l, c⟩
theorem AtM.mdef {P : Program} {w : World} {base : Heap} {CX : CXT} {k : Nat} {C : Addr} {m q : Str} {ps : List Str} {sp : Sp} {st : Stmt} (a : AtM K C m q st)
    (hb : ∀ (kV doc pm : Value) (an : Option Addr) (cdv ct : Value) (us : List Value), us.length = ps.length → bindArgs (PySem.W.fnOf m q (defArgs st) (defBody st) (defScope st) .none kV doc pm an cdv ct) ⟨us, []⟩ = pure (ps.zip us))
    (ok : ∀ (f : Addr) (fd : FuncData), Fun K m q st f fd → FnOk P w K mg base CX k f fd ps sp) : MDef P w K mg base CX k C m ps sp := by
  obtain ⟨f, fd, hm, F⟩ := a
  refine ⟨f, fd, hm, ?_, ok f fd F⟩
  obtain ⟨oc, od, kV, doc, pm, an, cdv, ct, osl, rfl, lk, hcd⟩ := F.ex
  exact F.binds hb
theorem AtMC.mdef {P : Program} {w : World} {base : Heap} {CX : CXT} {k : Nat} {C c : Addr} {m q : Str} {ps : List Str} {sp : Sp} {st : Stmt} (a : AtMC K C m q st c)
    (hb : ∀ (kV doc pm : Value) (an : Option Addr) (cdv ct : Value) (us : List Value), us.length = ps.length → bindArgs (PySem.W.fnOf m q (defArgs st) (defBody st) (defScope st) .none kV doc pm an cdv ct) ⟨us, []⟩ = pure (ps.zip us))
    (ok : ∀ {f : Addr} {oc : Value} {od : Option Addr} {kV doc pm : Value} {an : Option Addr} {ct : Value} {osl : Array (Option Value)}, K.lookup f = some ⟨oc, od, .func (PySem.W.fnOf m q (defArgs st) (defBody st) (defScope st) .none kV doc pm an (.ref c) ct), osl⟩ → PySem.W.codeIn K (.ref c) q = true → FnOk P w K mg base CX k f (PySem.W.fnOf m q (defArgs st) (defBody st) (defScope st) .none kV doc pm an (.ref c) ct) ps sp) : MDef P w K mg base CX k C m ps sp := by
  obtain ⟨f, oc, od, kV, doc, pm, an, ct, osl, hm, lk, hcd⟩ := a
  have F : Fun K m q st f _ := ⟨⟨oc, od, kV, doc, pm, an, .ref c, ct, osl, rfl, lk, hcd⟩, hm.kp⟩
  exact ⟨f, _, hm, F.binds hb, ok lk hcd⟩
end
noncomputable def AtQ (K : PySem.W.Frag) (mg : Str → Option Value) (x q : Str) (st : Stmt) : Prop := ∃ (f : Addr) (fd : FuncData), mg x = some (.ref f) ∧ Fun K q q st f fd
theorem AtQ.def {P : Program} {w : World} {K : PySem.W.Frag} {mg : Str → Option Value} {base : Heap} {CX : CXT} {k : Nat} {x q : Str} {ps : List Str} {sp : Sp} {st : Stmt} (a : AtQ K mg x q st)
    (hb : ∀ (kV doc pm : Value) (an : Option Addr) (cdv ct : Value) (us : List Value), us.length = ps.length → bindArgs (PySem.W.fnOf q q (defArgs st) (defBody st) (defScope st) .none kV doc pm an cdv ct) ⟨us, []⟩ = pure (ps.zip us))
    (h : ∀ f fd, Fun K q q st f fd → FnOk P w K mg base CX k f fd ps sp) : Def P w K mg base CX k x ps sp := by
  obtain ⟨f, fd, hm, F⟩ := a
  exact ⟨f, fd, hm, F.kp, F.binds hb, h f fd F⟩
noncomputable def CiF (K : PySem.W.Frag) (CC E0' : Addr) : Prop := ∃ (f : Addr) (fd : FuncData), L2.Mk K CC f ∧ FunD K "__init__" "Copy.__init__" (defArgs sCI) (defBody sCI) (defScope sCI) [.ref E0'] [] f fd
noncomputable def CeF (K : PySem.W.Frag) (CC : Addr) : Prop := (∃ (f : Addr) (fd : FuncData), PySem.W.findIn K (.ref CC) "__eq__" = some (some (.ref f)) ∧ PySem.W.isFn K (.ref f) = true ∧ Fun K "__eq__" "Copy.__eq__" sCE f fd) ∧ PySem.W.findIn K (.ref CC) "__ne__" = some (some (.builtin "object.__ne__")) ∧ PySem.W.mroIn K CC (.type "object") = some true
theorem kemp_mk {K : PySem.W.Frag} {a : Addr} {od : Option Addr} {n : Nat} {sl : Array (Option Value)} (h : K.lookup a = some ⟨.type "tuple", od, .seq #[] n, sl⟩) : KEmp K a := ⟨_, n, h, rfl, rfl⟩
theorem ci_mk {K : PySem.W.Frag} {f CC tp E0' : Addr} {oc oc2 : Value} {od od2 an : Option Addr} {osl sl2 : Array (Option Value)} {kV doc pm cdv ct : Value} {n : Nat} (mk : L2.Mk K CC f)
    (l : K.lookup f = some ⟨oc, od, .func (PySem.W.fnOf "__init__" "Copy.__init__" (defArgs sCI) (defBody sCI) (defScope sCI) (.ref tp) kV doc pm an cdv ct), osl⟩) (lT : K.lookup tp = some ⟨oc2, od2, .seq #[.ref E0'] n, sl2⟩) (c : PySem.W.codeIn K cdv "Copy.__init__" = true) (k : PySem.W.keepIn K (.ref f) = true) : CiF K CC E0' :=
  ⟨f, _, mk, ⟨_, _, _, _, _, _, _, _, _, _, rfl, l, c, .inr ⟨by simp, tp, _, [.ref E0'], n, rfl, lT, rfl, .cons rfl .nil⟩, .inl rfl⟩, k⟩
theorem ce_mk {K : PySem.W.Frag} {f CC : Addr} {oc : Value} {od an : Option Addr} {osl : Array (Option Value)} {kV doc pm cdv ct : Value} (a : PySem.W.findIn K (.ref CC) "__eq__" = some (some (.ref f))) (n : PySem.W.isFn K (.ref f) = true)
    (l : K.lookup f = some ⟨oc, od, .func (PySem.W.fnOf "__eq__" "Copy.__eq__" (defArgs sCE) (defBody sCE) (defScope sCE) .none kV doc pm an cdv ct), osl⟩) (c : PySem.W.codeIn K cdv "Copy.__eq__" = true) (k : PySem.W.keepIn K (.ref f) = true)
    (ne : PySem.W.findIn K (.ref CC) "__ne__" = some (some (.builtin "object.__ne__"))) (ob : PySem.W.mroIn K CC (.type "object") = some true) : CeF K CC := ⟨⟨f, _, a, n, fun_mk l c k⟩, ne, ob⟩
noncomputable def WiF (K : PySem.W.Frag) (WC : Addr) : Prop := ∃ (f : Addr) (fd : FuncData), L2.Mk K WC f ∧ Fun K "__init__" "World.__init__" sWIn f fd
theorem wi_mk {K : PySem.W.Frag} {f WC : Addr} {oc : Value} {od an : Option Addr} {osl : Array (Option Value)} {kV doc pm cdv ct : Value} (mk : L2.Mk K WC f)
    (l : K.lookup f = some ⟨oc, od, .func (PySem.W.fnOf "__init__" "World.__init__" (defArgs sWIn) (defBody sWIn) (defScope sWIn) .none kV doc pm an cdv ct), osl⟩) (c : PySem.W.codeIn K cdv "World.__init__" = true) (k : PySem.W.keepIn K (.ref f) = true) : WiF K WC := ⟨f, _, mk, fun_mk l c k⟩
theorem exm_sub {K : PySem.W.Frag} {R S : Addr} (h1 : PySem.W.subIn K (.ref S) (.type "BaseException") = some true) (h2 : PySem.W.isClsIn K S = true) (h3 : PySem.W.typeIn K (.ref S) = some (.type "type")) (h4 : PySem.W.subIn K (.ref R) (.ref S) = some true) :
    PySem.W.exmOne K (.ref R) (.ref S) = some true := by
  unfold PySem.W.exmOne
  unfold PySem.W.kitCls
  unfold PySem.W.isClsIn at h2
  simp only [h1, h2, h3, h4]
  simp
theorem all_mk {l : PySem.W.OpenLaw} {w : World} {K : PySem.W.Frag} {h : Heap} {mg : Str → Option Value} {fa f E0' CC WC CT CB CN CV CD fB fN fV fD C fI c0 P0 c1 P1 c2 P2 : Addr} {oc kV dc pm cdv ct oI kI dI pI cI tI : Value} {od an oD aI : Option Addr} {sl sI : Array (Option Value)} (X : K.In h) (G : h.Ns mainGlobals mg) (hfa : mg "law" = some (.ref fa))
    (T : Bk mg) (Co : Cs mg) (Cw : WCs mg) (t : ClT K mg C) (iC : C8.InsC K C) (mk : L2.Mk K C fI)
    (tc : CcT K mg CC) (iC2 : C8.InsC K CC) (kE : KEmp K E0') (ci : CiF K CC E0') (ce : CeF K CC) (tw : WcT K mg WC) (wi : WiF K WC) (n1 : C ≠ WC) (n2 : CC ≠ WC)
    (fne : PySem.W.findIn K (.ref C) "__ne__" = some (some (.builtin "object.__ne__")) ∧ PySem.W.mroIn K C (.type "object") = some true)
    (TB : PySem.Tide.TideTxt l.prog K mg "BadCopy" CB fB "value") (TN : PySem.Tide.TideTxt l.prog K mg "BadNumber" CN fN "value") (TV : PySem.Tide.TideTxt l.prog K mg "BadValue" CV fV "why") (TD : PySem.Tide.TideTxt l.prog K mg "BadDeed" CD fD "at")
    (gT : mg "TideError" = some (.ref CT)) (xB : PySem.W.exmOne K (.ref CB) (.ref CT) = some true) (xN : PySem.W.exmOne K (.ref CN) (.ref CT) = some true) (xV : PySem.W.exmOne K (.ref CV) (.ref CT) = some true) (xD : PySem.W.exmOne K (.ref CD) (.ref CT) = some true)
    (q0 : AtM K CC "age" "Copy.age" sCAge)
    (q1 : AtM K CC "mark" "Copy.mark" sCMark)
    (q2 : AtM K CC "letters" "Copy.letters" sCLet)
    (q3 : AtM K CC "made" "Copy.made" sCMade)
    (q4 : AtM K CC "_check_number" "Copy._check_number" sCCk)
    (q5 : AtM K CC "_with_wanted" "Copy._with_wanted" sCWW)
    (q6 : AtM K CC "wanting" "Copy.wanting" sCWt)
    (q7 : AtM K CC "dropping" "Copy.dropping" sCDr)
    (q8 : AtM K CC "making" "Copy.making" sCMk)
    (q9 : AtM K WC "_is_name" "World._is_name" sWIs)
    (q10 : AtM K WC "_check_name" "World._check_name" sWCn)
    (q11 : AtM K WC "_check_client" "World._check_client" sWCc)
    (q12 : AtM K WC "folder" "World.folder" sWFo)
    (q13 : AtM K WC "copy" "World.copy" sWCp)
    (q14 : AtM K WC "_copy" "World._copy" sW_c)
    (q15 : AtM K WC "act" "World.act" sWAct)
    (q16 : AtM K WC "remake" "World.remake" sWRe)
    (q17 : AtM K WC "swap" "World.swap" sWSw)
    (q18 : AtM K WC "fetch" "World.fetch" sWFe)
    (q19 : AtM K WC "want" "World.want" sWWa)
    (q20 : AtM K WC "drop" "World.drop" sWDr)
    (q21 : AtM K WC "make" "World.make" sWMk)
    (q22 : AtM K WC "step" "World.step" sWSt)
    (q23 : AtM K WC "_sent" "World._sent" sW_s)
    (q24 : AtM K WC "breaks" "World.breaks" sWBr)
    (lI : K.lookup fI = some ⟨oI, oD, .func (PySem.W.fnOf "__init__" "Folder.__init__" (defArgs sInit) (defBody sInit) (defScope sInit) .none kI dI pI aI cI tI), sI⟩) (gI : PySem.W.codeIn K cI "Folder.__init__" = true) (hI : PySem.W.keepIn K (.ref fI) = true)
    (a0 : At K mg "is_integer" sIsInt)
    (a1 : At K mg "is_number" sIsNum)
    (a2 : At K mg "is_body" sIsBody)
    (a3 : At K mg "is_mark" sIsMark)
    (a4 : At K mg "is_sign" sIsSign)
    (a5 : At K mg "is_signs" sIsSigns)
    (a6 : At K mg "is_numbers" sIsNums)
    (a7 : At K mg "is_ascending" sIsAsc)
    (a8 : At K mg "_check_numbers" sCkNums)
    (a9 : At K mg "_with_sign" sWith)
    (a10 : At K mg "_without_sign" sWout)
    (a11 : At K mg "is_deed" sIsDeed)
    (a12 : At K mg "can_be_done" sCan)
    (a13 : At K mg "done" sDone)
    (a14 : At K mg "played" sPlayed)
    (a15 : At K mg "_are_letters" sAl)
    (a16 : At K mg "_are_made" sAm)
    (a17 : At K mg "_check_folder" sCf)
    (a18 : At K mg "copy_of" sCo)
    (a19 : At K mg "_check_copy" sKc)
    (a20 : At K mg "_sent" sSe)
    (a21 : At K mg "stepped" sStp)
    (a22 : At K mg "_told" sTold)
    (a23 : At K mg "_are_names" sAreN)
    (a24 : At K mg "_law_well" sWell)
    (a25 : At K mg "_law_draw" sDraw)
    (a26 : At K mg "_law_one" sOne)
    (a27 : At K mg "_law_signs" sSg)
    (a28 : At K mg "_law_deed" sLd)
    (a29 : At K mg "_law_call" sLc)
    (a30 : At K mg "_law_on_copy" sOc)
    (a31 : At K mg "_law_done" sDo)
    (a32 : At K mg "_law_hearing" sHe)
    (a33 : At K mg "_law_on_server" sSv)
    (a34 : At K mg "_law_due" sDu)
    (a35 : At K mg "_law_right" sRt)
    (m0 : AtM K C "letters" "Folder.letters" sLetters)
    (m1 : AtM K C "mark" "Folder.mark" sMark)
    (m2 : AtM K C "age" "Folder.age" sAge)
    (m3 : AtM K C "appended" "Folder.appended" sApp)
    (m4 : AtM K C "_copied" "Folder._copied" sCopied)
    (m5 : AtM K C "removed" "Folder.removed" sRem)
    (m6 : AtM K C "trimmed" "Folder.trimmed" sTrim)
    (m7 : AtM K C "_signed" "Folder._signed" sSig)
    (m8 : AtM K C "__eq__" "Folder.__eq__" sEq)
    (m9 : AtM K C "cut" "Folder.cut" sCut)
    (b0 : AtMC K C "added" "Folder.added" sAdd c0)
    (b1 : AtMC K C "taken" "Folder.taken" sTake c1)
    (b2 : AtMC K C "set_to" "Folder.set_to" sSet c2)
    (aL : PySem.W.nsIn K mainGlobals "law" = some (some (.ref f))) (lL : K.lookup f = some ⟨oc, od, .func (PySem.W.fnOf "law" "law" (defArgs sLaw) (defBody sLaw) (defScope sLaw) .none kV dc pm an cdv ct), sl⟩) (cL' : PySem.W.codeIn K cdv "law" = true) (kL : PySem.W.keepIn K (.ref f) = true)
    (hP : ∀ p ∈ ([(c0, P0), (c1, P1), (c2, P2)] : List (Addr × Addr)), h.get? p.2 = some { cls := .none, data := .fields #[] }) (nP : ∀ p ∈ ([(c0, P0), (c1, P1), (c2, P2)] : List (Addr × Addr)), K.lookup p.2 = none) (hC : ∀ p ∈ ([(c0, P0), (c1, P1), (c2, P2)] : List (Addr × Addr)), PySem.W.CodeHd h p.1 p.2) (ap : Ap P0 P1 P2) :
    LamX.LawAtS l w K CX0 17 63 "_law_script" mg fa h := by
  have e := hfa.symm.trans (PySem.W.mg_of X G aL)
  cases e
  refine ⟨PySem.W.fnOf "law" "law" (defArgs sLaw) (defBody sLaw) (defScope sLaw) .none kV dc pm an cdv ct, [(c0, P0), (c1, P1), (c2, P2)], spLaw K P0 P1 P2, hP, nP, hC, fun s u => .of_eq rfl,
    fun H a ns hl _ hH hS => ⟨a, ns, rfl, hS, hl, fun p hp => ?_, fun _ => rfl⟩, fun base hb _ hTB => ?_⟩
  · simp only [T3, List.mem_cons, List.not_mem_nil, or_false] at hp
    rcases hp with rfl | rfl | rfl
    · exact LamX.TabS.nil (hH (c0, P0) (by simp))
    · exact LamX.TabS.nil (hH (c1, P1) (by simp))
    · exact LamX.TabS.nil (hH (c2, P2) (by simp))
  have TS0 := hTB (c0, P0) (by simp)
  have TS1 := hTB (c1, P1) (by simp)
  have TS2 := hTB (c2, P2) (by simp)
  have d_is_integer : Def l.prog w K mg base CX0 1 "is_integer" pV spInt := a0.def (fun _ _ _ _ _ _ us hl => by obtain ⟨x0, rfl⟩ := len1 hl; rfl) fun f fd F => ok_isInt T F
  have d_is_number : Def l.prog w K mg base CX0 2 "is_number" pV spNum := a1.def (fun _ _ _ _ _ _ us hl => by obtain ⟨x0, rfl⟩ := len1 hl; rfl) fun f fd F => ok_isNum d_is_integer F
  have d_is_body : Def l.prog w K mg base CX0 2 "is_body" pV spBody := a2.def (fun _ _ _ _ _ _ us hl => by obtain ⟨x0, rfl⟩ := len1 hl; rfl) fun f fd F => ok_isBody d_is_integer F
  have d_is_mark : Def l.prog w K mg base CX0 2 "is_mark" pV spBody := a3.def (fun _ _ _ _ _ _ us hl => by obtain ⟨x0, rfl⟩ := len1 hl; rfl) fun f fd F => ok_isMark d_is_integer F
  have d_is_sign : Def l.prog w K mg base CX0 1 "is_sign" pV spSign := a4.def (fun _ _ _ _ _ _ us hl => by obtain ⟨x0, rfl⟩ := len1 hl; rfl) fun f fd F => ok_isSign T Co F
  have d_is_signs : Def l.prog w K mg base CX0 2 "is_signs" pV spSigns := a5.def (fun _ _ _ _ _ _ us hl => by obtain ⟨x0, rfl⟩ := len1 hl; rfl) fun f fd F => ok_isSigns T Co d_is_sign F
  have d_is_numbers : Def l.prog w K mg base CX0 3 "is_numbers" pV spNums := a6.def (fun _ _ _ _ _ _ us hl => by obtain ⟨x0, rfl⟩ := len1 hl; rfl) fun f fd F => ok_isNums T d_is_number F
  have d_is_ascending : Def l.prog w K mg base CX0 1 "is_ascending" pIsAsc spIsAsc := a7.def (fun _ _ _ _ _ _ us hl => by obtain ⟨x0, rfl⟩ := len1 hl; rfl) fun f fd F => ok_isAsc T F
  have d_check_numbers : Def l.prog w K mg base CX0 4 "_check_numbers" nCkNums spCkNums := a8.def (fun _ _ _ _ _ _ us hl => by obtain ⟨x0, rfl⟩ := len1 hl; rfl) fun f fd F => ok_ckNums d_is_numbers F
  have d_with_sign : Def l.prog w K mg base CX0 1 "_with_sign" nWith spWith := a9.def (fun _ _ _ _ _ _ us hl => by obtain ⟨x0, x1, rfl⟩ := len2 hl; rfl) fun f fd F => ok_with T Co F
  have d_without_sign : Def l.prog w K mg base CX0 1 "_without_sign" nWith spWout := a10.def (fun _ _ _ _ _ _ us hl => by obtain ⟨x0, x1, rfl⟩ := len2 hl; rfl) fun f fd F => ok_wout T F
  have dNew : MkD l.prog w K mg base C := by
    have F : Fun K "__init__" "Folder.__init__" sInit fI _ := fun_mk lI gI hI
    exact ⟨fI, _, mk, F.binds (fun _ _ _ _ _ _ us hl => by obtain ⟨x0, x1, rfl⟩ := len2 hl; rfl), ok_init t d_is_number F⟩
  have m_letters : MDef l.prog w K mg base CX0 1 C "letters" nSelf (spLetters C) := m0.mdef (fun _ _ _ _ _ _ us hl => by obtain ⟨x0, rfl⟩ := len1 hl; rfl) fun f fd F => ok_letters T t F
  have m_mark : MDef l.prog w K mg base CX0 1 C "mark" nSelf (spMark C) := m1.mdef (fun _ _ _ _ _ _ us hl => by obtain ⟨x0, rfl⟩ := len1 hl; rfl) fun f fd F => ok_mark t F
  have m_age : MDef l.prog w K mg base CX0 1 C "age" nSelf (spAge C) := m2.mdef (fun _ _ _ _ _ _ us hl => by obtain ⟨x0, rfl⟩ := len1 hl; rfl) fun f fd F => ok_age t F
  have m_copied : MDef l.prog w K mg base CX0 5 C "_copied" nSelf (spCopied C) := m4.mdef (fun _ _ _ _ _ _ us hl => by obtain ⟨x0, rfl⟩ := len1 hl; rfl) fun f fd F => ok_copied t dNew F
  have m_appended : MDef l.prog w K mg base CX0 6 C "appended" pApp (spApp C) := m3.mdef (fun _ _ _ _ _ _ us hl => by obtain ⟨x0, x1, x2, rfl⟩ := len3 hl; rfl) fun f fd F => ok_app t d_is_body d_is_signs m_copied F
  have m_removed : MDef l.prog w K mg base CX0 6 C "removed" pRem (spRem C) := m5.mdef (fun _ _ _ _ _ _ us hl => by obtain ⟨x0, x1, rfl⟩ := len2 hl; rfl) fun f fd F => ok_rem T t d_check_numbers m_copied F
  have m_trimmed : MDef l.prog w K mg base CX0 6 C "trimmed" pTrim (spTrim C) := m6.mdef (fun _ _ _ _ _ _ us hl => by obtain ⟨x0, x1, rfl⟩ := len2 hl; rfl) fun f fd F => ok_trim T t d_is_mark m_copied F
  have DS : SgD K C := ⟨m7⟩
  have m_added : MDef l.prog w K mg base CX0 8 C "added" nAdd (spSgn C P0 P1 P2 (fun z ss => wG ss z)) := b0.mdef (fun _ _ _ _ _ _ us hl => by obtain ⟨x0, x1, x2, rfl⟩ := len3 hl; rfl) fun lk hcd => ok_add T t ap DS TS0 d_check_numbers d_is_sign d_with_sign m_copied lk hcd
  have m_taken : MDef l.prog w K mg base CX0 8 C "taken" nAdd (spSgn C P0 P1 P2 (fun z ss => nS ss z)) := b1.mdef (fun _ _ _ _ _ _ us hl => by obtain ⟨x0, x1, x2, rfl⟩ := len3 hl; rfl) fun lk hcd => ok_take T t ap DS TS1 d_check_numbers d_is_sign d_without_sign m_copied lk hcd
  have m_set_to : MDef l.prog w K mg base CX0 8 C "set_to" nSet (spSet C P0 P1 P2) := b2.mdef (fun _ _ _ _ _ _ us hl => by obtain ⟨x0, x1, x2, rfl⟩ := len3 hl; rfl) fun lk hcd => ok_set T t ap DS TS2 d_check_numbers d_is_signs m_copied lk hcd
  have m_cut : MDef l.prog w K mg base CX0 1 C "cut" nSelf (spCut C) := m9.mdef (fun _ _ _ _ _ _ us hl => by obtain ⟨x0, rfl⟩ := len1 hl; rfl) fun f fd F => ok_cut t F
  have m_eq : MDef l.prog w K mg base CX0 1 C "__eq__" nEq (spEq (FoEq C)) := m8.mdef (fun _ _ _ _ _ _ us hl => by obtain ⟨x0, x1, rfl⟩ := len2 hl; rfl) fun f fd F => ok_eq T t iC F
  have EF : EqM l.prog w K mg base 1 C (FoE C) := by
    obtain ⟨f, fd, hm, F⟩ := m8
    exact eqM_fo (ok_eq T t iC F) hm.1 hm.2 (F.binds (fun _ _ _ _ _ _ us hl => by obtain ⟨x0, x1, rfl⟩ := len2 hl; rfl)) fne.1 fne.2
  have d_is_deed : Def l.prog w K mg base CX0 4 "is_deed" pV spIsDeed := a11.def (fun _ _ _ _ _ _ us hl => by obtain ⟨x0, rfl⟩ := len1 hl; rfl) fun f fd F => ok_isDeed T d_is_body d_is_sign d_is_signs d_is_numbers d_is_mark F
  have d_can_be_done : Def l.prog w K mg base CX0 5 "can_be_done" nCan (spCan C) := a12.def (fun _ _ _ _ _ _ us hl => by obtain ⟨x0, x1, rfl⟩ := len2 hl; rfl) fun f fd F => ok_can t m_mark d_is_deed F
  have dB_can : Def l.prog w K mg base CX0 5 "can_be_done" nCan (spCanB C) := a12.def (fun _ _ _ _ _ _ us hl => by obtain ⟨x0, x1, rfl⟩ := len2 hl; rfl) fun f fd F => ok_canB t m_mark d_is_deed F
  have d_done : Def l.prog w K mg base CX0 9 "done" pDone (spDone C P0 P1 P2) := a13.def (fun _ _ _ _ _ _ us hl => by obtain ⟨x0, x1, rfl⟩ := len2 hl; rfl) fun f fd F => ok_done t m_appended m_added m_taken m_set_to m_removed m_trimmed F
  have d_played : Def l.prog w K mg base CX0 10 "played" pPlayed (spPlayed C P0 P1 P2) := a14.def (fun _ _ _ _ _ _ us hl => by obtain ⟨x0, x1, rfl⟩ := len2 hl; rfl) fun f fd F => ok_played T t iC d_can_be_done d_done F
  have dX_played : Def l.prog w K mg base (L2.CX l.prog w) 10 "played" pPlayed (spPX C P0 P1 P2 CD) := a14.def (fun _ _ _ _ _ _ us hl => by obtain ⟨x0, x1, rfl⟩ := len2 hl; rfl) fun f fd F => ok_px T t iC TD dB_can d_done F
  have d_are_letters : Def l.prog w K mg base CX0 3 "_are_letters" pV (spAl K) := a15.def (fun _ _ _ _ _ _ us hl => by obtain ⟨x0, rfl⟩ := len1 hl; rfl) fun f fd F => ok_al T d_is_number d_is_body d_is_signs d_is_ascending F
  have d_are_made : Def l.prog w K mg base CX0 3 "_are_made" pV (spAm K) := a16.def (fun _ _ _ _ _ _ us hl => by obtain ⟨x0, rfl⟩ := len1 hl; rfl) fun f fd F => ok_am T d_is_body d_is_signs F
  have d_check_folder : Def l.prog w K mg base CX0 1 "_check_folder" pCo (spCf C) := a17.def (fun _ _ _ _ _ _ us hl => by obtain ⟨x0, rfl⟩ := len1 hl; rfl) fun f fd F => ok_cf T t iC F
  have cNew : MkCc l.prog w K mg base CC E0' := by
    obtain ⟨f, fd, hm, F⟩ := ci
    obtain ⟨d0, v0, b0⟩ := F.binds1 (ps := nCI) 5 1 (by simp) rfl (fun T kV doc pm an cdv ct us its hl hl2 => match us, its, hl, hl2 with | [_, _, _, _, _], [_], _, _ => ⟨_, rfl, rfl⟩)
    obtain ⟨d1, v1, b1⟩ := F.binds1 (ps := nCI) 4 0 (by simp) rfl (fun T kV doc pm an cdv ct us its hl hl2 => match us, its, hl, hl2 with | [_, _, _, _], [_], _, _ => ⟨_, rfl, rfl⟩)
    have e : d0 = [] := by
      cases v0; rfl
    rw [e] at b0
    exact ⟨⟨f, fd, d1, hm, b0, b1, v1, ok_ci T tc d_is_number d_is_mark d_are_letters d_are_made F⟩, kE⟩
  have EM : EqM l.prog w K mg base 1 CC (CpEq K CC) := by
    obtain ⟨⟨f, fd, h1, h2, F⟩, h3, h4⟩ := ce
    exact ⟨⟨f, fd, nCE, ok_ce T tc iC2 F, h1, h2, F.binds (fun _ _ _ _ _ _ us hl => by obtain ⟨x0, x1, rfl⟩ := len2 hl; rfl)⟩, h3, h4⟩
  have n_age : MDef l.prog w K mg base CX0 1 CC "age" nSelf (spCAge K CC) := q0.mdef (fun _ _ _ _ _ _ us hl => by obtain ⟨x0, rfl⟩ := len1 hl; rfl) fun f fd F => ok_cage tc F
  have n_mark : MDef l.prog w K mg base CX0 1 CC "mark" nSelf (spCMark K CC) := q1.mdef (fun _ _ _ _ _ _ us hl => by obtain ⟨x0, rfl⟩ := len1 hl; rfl) fun f fd F => ok_cmark tc F
  have n_letters : MDef l.prog w K mg base CX0 1 CC "letters" nSelf (spCLet K CC) := q2.mdef (fun _ _ _ _ _ _ us hl => by obtain ⟨x0, rfl⟩ := len1 hl; rfl) fun f fd F => ok_clet T tc F
  have n_made : MDef l.prog w K mg base CX0 1 CC "made" nSelf (spCMade K CC) := q3.mdef (fun _ _ _ _ _ _ us hl => by obtain ⟨x0, rfl⟩ := len1 hl; rfl) fun f fd F => ok_cmade T tc F
  have n_check_number : MDef l.prog w K mg base (L2.CX l.prog w) 3 CC "_check_number" nCDr (spCkX K CC CN) := q4.mdef (fun _ _ _ _ _ _ us hl => by obtain ⟨x0, x1, rfl⟩ := len2 hl; rfl) fun f fd F => ok_ckX tc TN d_is_number F
  have n_with_wanted : MDef l.prog w K mg base CX0 6 CC "_with_wanted" pCWW (spWW K CC) := q5.mdef (fun _ _ _ _ _ _ us hl => by obtain ⟨x0, x1, x2, rfl⟩ := len3 hl; rfl) fun f fd F => ok_ww T tc cNew F
  have n_wanting : MDef l.prog w K mg base (L2.CX l.prog w) 7 CC "wanting" nCWt (spWtX K CC CN) := q6.mdef (fun _ _ _ _ _ _ us hl => by obtain ⟨x0, x1, x2, rfl⟩ := len3 hl; rfl) fun f fd F => ok_wtX tc n_check_number d_is_signs n_with_wanted F
  have n_dropping : MDef l.prog w K mg base (L2.CX l.prog w) 7 CC "dropping" nCDr (spDrX K CC CN) := q7.mdef (fun _ _ _ _ _ _ us hl => by obtain ⟨x0, x1, rfl⟩ := len2 hl; rfl) fun f fd F => ok_drX tc n_check_number n_with_wanted F
  have n_making : MDef l.prog w K mg base CX0 6 CC "making" nCMk (spMkg K CC) := q8.mdef (fun _ _ _ _ _ _ us hl => by obtain ⟨x0, x1, x2, rfl⟩ := len3 hl; rfl) fun f fd F => ok_mkg tc cNew d_is_body d_is_signs F
  have d_copy_of : Def l.prog w K mg base CX0 6 "copy_of" pCo (spCo K C CC) := a18.def (fun _ _ _ _ _ _ us hl => by obtain ⟨x0, rfl⟩ := len1 hl; rfl) fun f fd F => ok_co T t tc cNew d_check_folder m_letters m_age m_mark F
  have d_check_copy : Def l.prog w K mg base CX0 1 "_check_copy" pKc (spKc K CC) := a19.def (fun _ _ _ _ _ _ us hl => by obtain ⟨x0, rfl⟩ := len1 hl; rfl) fun f fd F => ok_kc T tc iC2 F
  have d_sent : Def l.prog w K mg base CX0 2 "_sent" pSe (spSe K C CC) := a20.def (fun _ _ _ _ _ _ us hl => by obtain ⟨x0, x1, rfl⟩ := len2 hl; rfl) fun f fd F => ok_se T t tc n_age n_letters n_made m_age m_letters F
  have d_stepped : Def l.prog w K mg base CX0 11 "stepped" pStp (spStp K C CC P0 P1 P2) := a21.def (fun _ _ _ _ _ _ us hl => by obtain ⟨x0, x1, rfl⟩ := len2 hl; rfl) fun f fd F => ok_stp T t tc n_age n_letters m_age m_letters d_check_copy d_check_folder d_sent d_played d_copy_of F
  have d_told : Def l.prog w K mg base CX0 2 "_told" pTold (spTold K C CC) := a22.def (fun _ _ _ _ _ _ us hl => by obtain ⟨x0, x1, rfl⟩ := len2 hl; rfl) fun f fd F => ok_told T t tc n_age n_mark n_letters m_age m_cut m_letters F
  have d_are_names : Def l.prog w K mg base CX0 2 "_are_names" pV spAreN := a23.def (fun _ _ _ _ _ _ us hl => by obtain ⟨x0, rfl⟩ := len1 hl; rfl) fun f fd F => ok_arn T Cw d_is_sign F
  have dWorld : MkW l.prog w K mg base C CC WC := by
    obtain ⟨f, fd, hm, F⟩ := wi
    exact ⟨f, fd, hm, F.binds (fun _ _ _ _ _ _ us hl => by obtain ⟨x0, x1, x2, rfl⟩ := len3 hl; rfl), ok_wi n1 n2 T Cw tw t d_are_names d_is_integer dNew F⟩
  have w_is_name : MDef l.prog w K mg base CX0 1 WC "_is_name" nWIs (spWIs K C CC WC) := q9.mdef (fun _ _ _ _ _ _ us hl => by obtain ⟨x0, x1, rfl⟩ := len2 hl; rfl) fun f fd F => ok_wis T tw F
  have w_check_name : MDef l.prog w K mg base CX0 2 WC "_check_name" nWN (spWCn K C CC WC) := q10.mdef (fun _ _ _ _ _ _ us hl => by obtain ⟨x0, x1, rfl⟩ := len2 hl; rfl) fun f fd F => ok_wcn tw w_is_name F
  have w_check_client : MDef l.prog w K mg base CX0 2 WC "_check_client" nWCc (spWCc K C CC WC) := q11.mdef (fun _ _ _ _ _ _ us hl => by obtain ⟨x0, x1, rfl⟩ := len2 hl; rfl) fun f fd F => ok_wcc tw d_is_integer F
  have w_folder : MDef l.prog w K mg base CX0 3 WC "folder" nWN (spWFo K C CC WC) := q12.mdef (fun _ _ _ _ _ _ us hl => by obtain ⟨x0, x1, rfl⟩ := len2 hl; rfl) fun f fd F => ok_wfo tw w_check_name F
  have w_copy : MDef l.prog w K mg base CX0 3 WC "copy" nWCp (spWCp K C CC WC) := q13.mdef (fun _ _ _ _ _ _ us hl => by obtain ⟨x0, x1, x2, rfl⟩ := len3 hl; rfl) fun f fd F => ok_wcp n1 n2 tw w_check_client w_check_name F
  have w_own_copy : MDef l.prog w K mg base (L2.CX l.prog w) 4 WC "_copy" nWCp (spW_c K C CC WC CB) := q14.mdef (fun _ _ _ _ _ _ us hl => by obtain ⟨x0, x1, x2, rfl⟩ := len3 hl; rfl) fun f fd F => ok_w_c tw TB w_copy F
  have w_act : MDef l.prog w K mg base (L2.CX l.prog w) 10 WC "act" nWAct (spWAct K C CC WC P0 P1 P2 CD) := q15.mdef (fun _ _ _ _ _ _ us hl => by obtain ⟨x0, x1, x2, rfl⟩ := len3 hl; rfl) fun f fd F => ok_wact n1 n2 tw TD w_check_name dB_can d_done F
  have w_remake : MDef l.prog w K mg base CX0 5 WC "remake" nWN (spWRe K C CC WC P0 P1 P2) := q16.mdef (fun _ _ _ _ _ _ us hl => by obtain ⟨x0, x1, rfl⟩ := len2 hl; rfl) fun f fd F => ok_wre n1 n2 tw t w_check_name dNew F
  have w_swap : MDef l.prog w K mg base (L2.CX l.prog w) 5 WC "swap" pWSw (spWSw K C CC WC P0 P1 P2 CV) := q17.mdef (fun _ _ _ _ _ _ us hl => by obtain ⟨x0, x1, x2, rfl⟩ := len3 hl; rfl) fun f fd F => ok_wsw n1 n2 tw TV w_check_name w_is_name F
  have w_fetch : MDef l.prog w K mg base CX0 7 WC "fetch" nWCp (spWFe K C CC WC P0 P1 P2) := q18.mdef (fun _ _ _ _ _ _ us hl => by obtain ⟨x0, x1, x2, rfl⟩ := len3 hl; rfl) fun f fd F => ok_wfe n1 n2 tw w_check_client w_check_name d_copy_of F
  have w_want : MDef l.prog w K mg base (L2.CX l.prog w) 8 WC "want" nWWa (spWWa K C CC WC P0 P1 P2 CB CN) := q19.mdef (fun _ _ _ _ _ _ us hl => by obtain ⟨x0, x1, x2, x3, x4, rfl⟩ := len5 hl; rfl) fun f fd F => ok_wwa n1 n2 tw tc w_own_copy n_wanting F
  have w_drop : MDef l.prog w K mg base (L2.CX l.prog w) 8 WC "drop" nWDr (spWDr K C CC WC P0 P1 P2 CB CN) := q20.mdef (fun _ _ _ _ _ _ us hl => by obtain ⟨x0, x1, x2, x3, rfl⟩ := len4 hl; rfl) fun f fd F => ok_wdr n1 n2 tw tc w_own_copy n_dropping F
  have w_make : MDef l.prog w K mg base (L2.CX l.prog w) 8 WC "make" nWMk (spWMk K C CC WC P0 P1 P2 CB) := q21.mdef (fun _ _ _ _ _ _ us hl => by obtain ⟨x0, x1, x2, x3, x4, rfl⟩ := len5 hl; rfl) fun f fd F => ok_wmk n1 n2 tw tc w_own_copy n_making F
  have w_step : MDef l.prog w K mg base (L2.CX l.prog w) 12 WC "step" nWCp (spWSt K C CC WC P0 P1 P2 CB) := q22.mdef (fun _ _ _ _ _ _ us hl => by obtain ⟨x0, x1, x2, rfl⟩ := len3 hl; rfl) fun f fd F => ok_wst n1 n2 tw w_own_copy d_stepped d_told F
  have w_own_sent : MDef l.prog w K mg base (L2.CX l.prog w) 12 WC "_sent" pWBr (spW_s K C CC WC P0 P1 P2 CB CV) := q23.mdef (fun _ _ _ _ _ _ us hl => by obtain ⟨x0, x1, x2, x3, rfl⟩ := len4 hl; rfl) fun f fd F => ok_w_s n1 n2 T tw TV w_own_copy d_stepped d_is_integer F
  have w_breaks : MDef l.prog w K mg base (L2.CX l.prog w) 13 WC "breaks" pWBr (spWBr K C CC WC P0 P1 P2 CB CV) := q24.mdef (fun _ _ _ _ _ _ us hl => by obtain ⟨x0, x1, x2, x3, rfl⟩ := len4 hl; rfl) fun f fd F => ok_wbr n1 n2 tw w_own_sent d_played F
  have d_law_well : Def l.prog w K mg base CX0 1 "_law_well" nWell spWell := a24.def (fun _ _ _ _ _ _ us hl => by obtain ⟨x0, rfl⟩ := len1 hl; rfl) fun f fd F => ok_well T F
  have d_law_draw : Def l.prog w K mg base CX0 1 "_law_draw" pDraw spDraw := a25.def (fun _ _ _ _ _ _ us hl => by obtain ⟨x0, x1, rfl⟩ := len2 hl; rfl) fun f fd F => ok_draw T F
  have d_law_one : Def l.prog w K mg base CX0 2 "_law_one" nOne1 spOneS := a26.def (fun _ _ _ _ _ _ us hl => by obtain ⟨x0, x1, rfl⟩ := len2 hl; rfl) fun f fd F => ok_one T d_law_draw F
  have d_law_signs : Def l.prog w K mg base CX0 3 "_law_signs" nSg spSg := a27.def (fun _ _ _ _ _ _ us hl => by obtain ⟨x0, rfl⟩ := len1 hl; rfl) fun f fd F => ok_sg T d_law_one F
  have d_law_deed : Def l.prog w K mg base CX0 4 "_law_deed" pLd spLd := a28.def (fun _ _ _ _ _ _ us hl => by obtain ⟨x0, rfl⟩ := len1 hl; rfl) fun f fd F => ok_ld T d_law_draw d_law_one d_law_signs F
  have d_law_call : Def l.prog w K mg base CX0 5 "_law_call" pLc spLc := a29.def (fun _ _ _ _ _ _ us hl => by obtain ⟨x0, x1, x2, rfl⟩ := len3 hl; rfl) fun f fd F => ok_lc T d_law_draw d_law_one d_law_signs d_law_deed F
  have o_law_on_copy : Def l.prog w K mg base (L2.CX l.prog w) 14 "_law_on_copy" pOc (spOc K C CC WC P0 P1 P2 CB CN CV CD) := a30.def (fun _ _ _ _ _ _ us hl => by obtain ⟨x0, x1, rfl⟩ := len2 hl; rfl) fun f fd F => ok_oc n1 n2 tw w_fetch w_step w_drop w_breaks w_want w_make F
  have d_law_done : Def l.prog w K mg base CX0 15 "_law_done" nDo (spDo K C CC WC P0 P1 P2) := a31.def (fun _ _ _ _ _ _ us hl => by obtain ⟨x0, x1, rfl⟩ := len2 hl; rfl) fun f fd F => ok_do n1 n2 tw gT (List.forall_mem_cons.mpr ⟨xB, List.forall_mem_cons.mpr ⟨xN, List.forall_mem_cons.mpr ⟨xV, List.forall_mem_cons.mpr ⟨xD, fun _ z => nomatch z⟩⟩⟩⟩) w_act w_remake w_swap o_law_on_copy F
  have d_law_hearing : Def l.prog w K mg base CX0 2 "_law_hearing" pHe (spTold K C CC) := a32.def (fun _ _ _ _ _ _ us hl => by obtain ⟨x0, x1, rfl⟩ := len2 hl; rfl) fun f fd F => ok_he T t tc n_age n_mark n_letters m_age m_cut m_letters F
  have d_law_on_server : Def l.prog w K mg base CX0 11 "_law_on_server" pSv (spSv K C CC P0 P1 P2) := a33.def (fun _ _ _ _ _ _ us hl => by obtain ⟨x0, x1, x2, rfl⟩ := len3 hl; rfl) fun f fd F => ok_sv n1 n2 t gT xD dNew dX_played F
  have d_law_due : Def l.prog w K mg base CX0 13 "_law_due" pDu (spDu K C CC P0 P1 P2) := a34.def (fun _ _ _ _ _ _ us hl => by obtain ⟨x0, x1, x2, x3, rfl⟩ := len4 hl; rfl) fun f fd F => ok_du n1 n2 T tc d_law_on_server d_copy_of d_stepped d_law_hearing d_played n_letters n_making n_wanting n_dropping F
  have d_law_right : Def l.prog w K mg base CX0 16 "_law_right" pRt (spRt P0 P1 P2) := a35.def (fun _ _ _ _ _ _ us hl => by obtain ⟨x0, rfl⟩ := len1 hl; rfl) fun f fd F => ok_rt n1 n2 T t tw dNew dWorld EM EF d_law_draw d_law_call d_law_done d_law_due w_folder w_copy F
  exact ok_law n1 n2 T t tw dWorld d_law_well d_law_right w_act w_remake w_swap w_fetch w_want w_step w_folder m_mark m_age m_letters (fun_mk lL cL' kL)
theorem walk_tops {l : PySem.W.OpenLaw} {n k : Nat} {q : Program} {loose : List Str} {XP : (Str → Option Value) → Heap → Prop} {YP : World → Heap → Prop} {d : DefRec} {K : Params → PySem.W.Frag} {x : Str}
    (hn : l.most = some n) (hn2 : n ≤ sizeLine) (hdf : d.params.defaults = []) (hr : Room k callerA) (hY : ∀ (w : World) (h : Heap), YP w h → (K w.params).In h)
    (F : ∀ (w : World) (s : Shared) (mg mb : Str → Option Value) (fa : Addr) (h : Heap), (K w.params).In h → YP w h → PyProof.Rows.Top q (PySem.W.looseW q loose) (ExcName.means s.heap) mg mb h → mg d.name = some (.ref fa) → LamX.LawAtS l w (K w.params) CX0 k n x mg fa h) :
    PySem.W.WalkO q loose XP YP l.row.toRowW d [] (fun f vs => PySem.call f vs) := by
  refine Att.attach_callB hn hdf fun w s0 s1 mg mb fa o pm cd doc a vs ns G Y ho hd hcd hmg hobj hints hlen hbits hg => ?_
  have KX := hY w _ Y
  obtain ⟨fd, cs, sp, hT, nT, C, hb, hsp, hF⟩ := F w s0 mg mb fa _ KX Y G.T hmg
  exact LamX.law_callTs KX G.T.g G.T.b G.T.builtins G.T.nolimit hg hT nT C G.T.bmain hobj hints (Nat.le_trans hlen hn2) hr hF hb (fun H hH hS => hsp H a ns hlen hbits hH hS) fun _ _ _ z => z
end K1
open PySem PySem.W PyProof.Rows
set_option Elab.async false
set_option linter.all false
set_option maxRecDepth 100000 in
set_option maxHeartbeats 0 in
theorem PySem.Challenge.cw_mailtide_k71_whole_worlds_by_steps_holds : PySem.Challenge.rw_mailtide_k71_whole_worlds_by_steps.Holds := by
  w_on; o_law; k_head; (case hw => w_witness2)
  k_fill
  refine K1.walk_tops (l := PySem.Challenge.rw_mailtide_k71_whole_worlds_by_steps) (n := 63) (k := 17) (x := "_law_script") rfl (by decide) rfl ⟨rfl, by decide, by decide⟩ (fun w h Y => PySem.W.km_in_of Y) ?F
  intro w s mg mb fa h KX Y G hmg
  have hTab := PySem.W.km_tabs_of Y
  refine' K1.all_mk (c0 := 286) (P0 := 282) (c1 := 293) (P1 := 289) (c2 := 300) (P2 := 296) KX G.g hmg ?T ?Co ?Cw ?t ?iC ?mk ?tc ?iC2 ?kE ?ci ?ce ?tw ?wi ?hn1 ?hn2 ?fne ?TB ?TN ?TV ?TD ?gT ?xB ?xN ?xV ?xD ?q0 ?q1 ?q2 ?q3 ?q4 ?q5 ?q6 ?q7 ?q8 ?q9 ?q10 ?q11 ?q12 ?q13 ?q14 ?q15 ?q16 ?q17 ?q18 ?q19 ?q20 ?q21 ?q22 ?q23 ?q24 ?lI ?gI ?hI ?a0 ?a1 ?a2 ?a3 ?a4 ?a5 ?a6 ?a7 ?a8 ?a9 ?a10 ?a11 ?a12 ?a13 ?a14 ?a15 ?a16 ?a17 ?a18 ?a19 ?a20 ?a21 ?a22 ?a23 ?a24 ?a25 ?a26 ?a27 ?a28 ?a29 ?a30 ?a31 ?a32 ?a33 ?a34 ?a35 ?m0 ?m1 ?m2 ?m3 ?m4 ?m5 ?m6 ?m7 ?m8 ?m9 ?b0 ?b1 ?b2 ?aL ?lL ?cL ?kL (List.forall_mem_cons.mpr ⟨hTab _ (by simp), (List.forall_mem_cons.mpr ⟨hTab _ (by simp), (List.forall_mem_cons.mpr ⟨hTab _ (by simp), fun _ z => nomatch z⟩)⟩)⟩) (List.forall_mem_cons.mpr ⟨?n0N, (List.forall_mem_cons.mpr ⟨?n1N, (List.forall_mem_cons.mpr ⟨?n2N, fun _ z => nomatch z⟩)⟩)⟩) (List.forall_mem_cons.mpr ⟨PySem.W.codeHd_of_K KX ?h0H, (List.forall_mem_cons.mpr ⟨PySem.W.codeHd_of_K KX ?h1H, (List.forall_mem_cons.mpr ⟨PySem.W.codeHd_of_K KX ?h2H, fun _ z => nomatch z⟩)⟩)⟩) ⟨by decide, by decide, by decide⟩
  case T =>
    refine' ⟨⟨⟨PySem.W.mg_none_of KX G.g ?z0, PySem.W.mg_none_of KX G.g ?z1, PySem.W.mg_none_of KX G.g ?z2, PySem.W.mg_none_of KX G.g ?z3, PySem.W.mg_none_of KX G.g ?z4, PySem.W.mg_none_of KX G.g ?z5, PySem.W.mg_none_of KX G.g ?z6, PySem.W.mg_none_of KX G.g ?z7, PySem.W.mg_none_of KX G.g ?z8, PySem.W.mg_none_of KX G.g ?z9, PySem.W.mg_none_of KX G.g ?z10, PySem.W.mg_none_of KX G.g ?z11⟩, PySem.W.mg_none_of KX G.g ?z12, PySem.W.mg_none_of KX G.g ?z13⟩, PySem.W.mg_none_of KX G.g ?z14, PySem.W.mg_none_of KX G.g ?z15⟩
    (case z0 => k_is); (case z1 => k_is); (case z2 => k_is); (case z3 => k_is); (case z4 => k_is); (case z5 => k_is); (case z6 => k_is); (case z7 => k_is); (case z8 => k_is); (case z9 => k_is); (case z10 => k_is); (case z11 => k_is); (case z12 => k_is); (case z13 => k_is); (case z14 => k_is); (case z15 => k_is)
  case Co =>
    refine' ⟨K1.cs_mk KX G.g ?v0 ?w0, K1.cs_mk KX G.g ?v1 ?w1⟩
    (case v0 => k_is); (case w0 => rfl); (case v1 => k_is); (case w1 => rfl)
  case Cw =>
    refine' ⟨K1.cs_mk KX G.g ?v0 ?w0, K1.cs_mk KX G.g ?v1 ?w1⟩
    (case v0 => k_is); (case w0 => rfl); (case v1 => k_is); (case w1 => rfl)
  case t =>
    refine' ⟨⟨?c0, ?c1, ?c2, ?c3⟩, PySem.W.mg_of KX G.g ?c4, ?n0, ?n1, ?n2, ?n3, ?n4, ?n5⟩
    (case c4 => k_is); (case c0 => k_is); (case c1 => k_is); (case c2 => k_is); (case c3 => k_is)
    (case n0 => show PySem.W.findIn _ _ _ = some none; k_is); (case n1 => show PySem.W.findIn _ _ _ = some none; k_is); (case n2 => show PySem.W.findIn _ _ _ = some none; k_is); (case n3 => show PySem.W.findIn _ _ _ = some none; k_is); (case n4 => show PySem.W.findIn _ _ _ = some none; k_is); (case n5 => show PySem.W.findIn _ _ _ = some none; k_is)
  case iC =>
    refine' ⟨⟨?c0, ?c1, ?c2, ?c3⟩, ?d0, ?d1, ?d2, ?d3, ?d4⟩
    (case c0 => k_is); (case c1 => k_is); (case c2 => k_is); (case c3 => k_is)
    (case d0 => k_is); (case d1 => k_is); (case d2 => k_is); (case d3 => k_is); (case d4 => first | k_is | rfl | kernel_rfl)
  case mk =>
    refine' ⟨?e0, ?e1, ?e2, ?e3⟩
    (case e0 => k_is); (case e1 => k_is); (case e2 => k_is); (case e3 => k_is)
  (case lI => k_is); (case gI => k_is); (case hI => k_is)
  case tc =>
    refine' ⟨⟨?c0, ?c1, ?c2, ?c3⟩, PySem.W.mg_of KX G.g ?c4, ?n0, ?n1, ?n2, ?n3⟩
    (case c4 => k_is); (case c0 => k_is); (case c1 => k_is); (case c2 => k_is); (case c3 => k_is)
    (case n0 => show PySem.W.findIn _ _ _ = some none; k_is); (case n1 => show PySem.W.findIn _ _ _ = some none; k_is); (case n2 => show PySem.W.findIn _ _ _ = some none; k_is); (case n3 => show PySem.W.findIn _ _ _ = some none; k_is)
  case iC2 =>
    refine' ⟨⟨?c0, ?c1, ?c2, ?c3⟩, ?d0, ?d1, ?d2, ?d3, ?d4⟩
    (case c0 => k_is); (case c1 => k_is); (case c2 => k_is); (case c3 => k_is)
    (case d0 => k_is); (case d1 => k_is); (case d2 => k_is); (case d3 => k_is); (case d4 => first | k_is | rfl | kernel_rfl)
  case ci =>
    refine' K1.ci_mk ⟨?e0, ?e1, ?e2, ?e3⟩ ?l ?lT ?c ?k
    (case e0 => k_is); (case e1 => k_is); (case e2 => k_is); (case e3 => k_is)
    (case l => k_is); (case lT => k_is); (case c => k_is); (case k => k_is)
  case kE =>
    refine' K1.kemp_mk ?x0
    (case x0 => k_is)
  case ce =>
    refine' K1.ce_mk ?b ?n ?l ?c ?k ?ne ?ob
    (case b => k_is); (case n => k_is); (case l => k_is); (case c => k_is); (case k => k_is); (case ne => k_is); (case ob => k_is)
  case tw =>
    refine' ⟨⟨?c0, ?c1, ?c2, ?c3⟩, PySem.W.mg_of KX G.g ?c4, ?n0, ?n1, ?n2, ?n3⟩
    (case c4 => k_is); (case c0 => k_is); (case c1 => k_is); (case c2 => k_is); (case c3 => k_is)
    (case n0 => show PySem.W.findIn _ _ _ = some none; k_is); (case n1 => show PySem.W.findIn _ _ _ = some none; k_is); (case n2 => show PySem.W.findIn _ _ _ = some none; k_is); (case n3 => show PySem.W.findIn _ _ _ = some none; k_is)
  case wi =>
    refine' K1.wi_mk ⟨?e0, ?e1, ?e2, ?e3⟩ ?l ?c ?k
    (case e0 => k_is); (case e1 => k_is); (case e2 => k_is); (case e3 => k_is)
    (case l => k_is); (case c => k_is); (case k => k_is)
  (case hn1 => decide)
  (case hn2 => decide)
  case fne =>
    refine' ⟨?x1, ?x2⟩
    (case x1 => k_is); (case x2 => k_is)
  case TB =>
    refine' K1.tide_mk (tx := "no copy, or no part of one") (j := 0) (p1 := ⟨29, 17, 29, 21⟩) (p2 := ⟨29, 23, 29, 28⟩) (q1 := ⟨30, 8, 30, 13⟩) (q2 := ⟨30, 8, 30, 15⟩) (q3 := ⟨30, 8, 30, 24⟩) (q4 := ⟨30, 25, 30, 53⟩) (q5 := ⟨30, 8, 30, 54⟩) (q6 := ⟨30, 8, 30, 54⟩) (q7 := ⟨31, 8, 31, 12⟩) (q8 := ⟨31, 8, 31, 18⟩) (q9 := ⟨31, 21, 31, 26⟩) (q10 := ⟨31, 8, 31, 26⟩) KX G.g PySem.Tide.ok_value ⟨_, fun env => by rfl⟩ (by decide +kernel) ?tbaC ?tbxL ?tbbm ?tbsa ?tbga ?tbgg ?tbnb ?tba1 ?tbt1 ?tbl1 ?tbc1 ?tbn1 ?tbn2 ?tbn3 ?tbn4 ?tbkC ?tbeC ?tbtC ?tbhC ?tbiC ?tbsC ?tbsu ?tbvC ?tbmC ?tbtpa ?tbns
    (case tbaC => k_is)
    (case tbxL => k_is)
    (case tbbm => decide +kernel)
    (case tbsa => k_is)
    (case tbga => k_is)
    (case tbgg => k_is)
    (case tbnb => k_is)
    (case tba1 => k_is)
    (case tbt1 => k_is)
    (case tbl1 => k_is)
    (case tbc1 => k_is)
    (case tbn1 => k_is)
    (case tbn2 => rfl)
    (case tbn3 => decide +kernel)
    (case tbn4 => k_is)
    (case tbkC => k_is)
    (case tbeC => k_is)
    (case tbtC => k_is)
    (case tbhC => k_is)
    (case tbiC => k_is)
    (case tbsC => k_is)
    (case tbsu => ks_is)
    (case tbvC => k_is)
    (case tbmC => k_is)
    (case tbtpa => k_is)
    (case tbns => k_is)
  case TN =>
    refine' K1.tide_mk (tx := "no number that can stand here") (j := 0) (p1 := ⟨14, 17, 14, 21⟩) (p2 := ⟨14, 23, 14, 28⟩) (q1 := ⟨15, 8, 15, 13⟩) (q2 := ⟨15, 8, 15, 15⟩) (q3 := ⟨15, 8, 15, 24⟩) (q4 := ⟨15, 25, 15, 56⟩) (q5 := ⟨15, 8, 15, 57⟩) (q6 := ⟨15, 8, 15, 57⟩) (q7 := ⟨16, 8, 16, 12⟩) (q8 := ⟨16, 8, 16, 18⟩) (q9 := ⟨16, 21, 16, 26⟩) (q10 := ⟨16, 8, 16, 26⟩) KX G.g PySem.Tide.ok_value ⟨_, fun env => by rfl⟩ (by decide +kernel) ?tnaC ?tnxL ?tnbm ?tnsa ?tnga ?tngg ?tnnb ?tna1 ?tnt1 ?tnl1 ?tnc1 ?tnn1 ?tnn2 ?tnn3 ?tnn4 ?tnkC ?tneC ?tntC ?tnhC ?tniC ?tnsC ?tnsu ?tnvC ?tnmC ?tntpa ?tnns
    (case tnaC => k_is)
    (case tnxL => k_is)
    (case tnbm => decide +kernel)
    (case tnsa => k_is)
    (case tnga => k_is)
    (case tngg => k_is)
    (case tnnb => k_is)
    (case tna1 => k_is)
    (case tnt1 => k_is)
    (case tnl1 => k_is)
    (case tnc1 => k_is)
    (case tnn1 => k_is)
    (case tnn2 => rfl)
    (case tnn3 => decide +kernel)
    (case tnn4 => k_is)
    (case tnkC => k_is)
    (case tneC => k_is)
    (case tntC => k_is)
    (case tnhC => k_is)
    (case tniC => k_is)
    (case tnsC => k_is)
    (case tnsu => ks_is)
    (case tnvC => k_is)
    (case tnmC => k_is)
    (case tntpa => k_is)
    (case tnns => k_is)
  case TV =>
    refine' K1.tide_mk (tx := "a wrong value") (j := 0) (p1 := ⟨34, 17, 34, 21⟩) (p2 := ⟨34, 23, 34, 26⟩) (q1 := ⟨35, 8, 35, 13⟩) (q2 := ⟨35, 8, 35, 15⟩) (q3 := ⟨35, 8, 35, 24⟩) (q4 := ⟨35, 25, 35, 40⟩) (q5 := ⟨35, 8, 35, 41⟩) (q6 := ⟨35, 8, 35, 41⟩) (q7 := ⟨36, 8, 36, 12⟩) (q8 := ⟨36, 8, 36, 16⟩) (q9 := ⟨36, 19, 36, 22⟩) (q10 := ⟨36, 8, 36, 22⟩) KX G.g PySem.Tide.ok_why ⟨_, fun env => by rfl⟩ (by decide +kernel) ?tvaC ?tvxL ?tvbm ?tvsa ?tvga ?tvgg ?tvnb ?tva1 ?tvt1 ?tvl1 ?tvc1 ?tvn1 ?tvn2 ?tvn3 ?tvn4 ?tvkC ?tveC ?tvtC ?tvhC ?tviC ?tvsC ?tvsu ?tvvC ?tvmC ?tvtpa ?tvns
    (case tvaC => k_is)
    (case tvxL => k_is)
    (case tvbm => decide +kernel)
    (case tvsa => k_is)
    (case tvga => k_is)
    (case tvgg => k_is)
    (case tvnb => k_is)
    (case tva1 => k_is)
    (case tvt1 => k_is)
    (case tvl1 => k_is)
    (case tvc1 => k_is)
    (case tvn1 => k_is)
    (case tvn2 => rfl)
    (case tvn3 => decide +kernel)
    (case tvn4 => k_is)
    (case tvkC => k_is)
    (case tveC => k_is)
    (case tvtC => k_is)
    (case tvhC => k_is)
    (case tviC => k_is)
    (case tvsC => k_is)
    (case tvsu => ks_is)
    (case tvvC => k_is)
    (case tvmC => k_is)
    (case tvtpa => k_is)
    (case tvns => k_is)
  case TD =>
    refine' K1.tide_mk (tx := "no deed") (j := 0) (p1 := ⟨24, 17, 24, 21⟩) (p2 := ⟨24, 23, 24, 25⟩) (q1 := ⟨25, 8, 25, 13⟩) (q2 := ⟨25, 8, 25, 15⟩) (q3 := ⟨25, 8, 25, 24⟩) (q4 := ⟨25, 25, 25, 34⟩) (q5 := ⟨25, 8, 25, 35⟩) (q6 := ⟨25, 8, 25, 35⟩) (q7 := ⟨26, 8, 26, 12⟩) (q8 := ⟨26, 8, 26, 15⟩) (q9 := ⟨26, 18, 26, 20⟩) (q10 := ⟨26, 8, 26, 20⟩) KX G.g PySem.Tide.ok_at ⟨_, fun env => by rfl⟩ (by decide +kernel) ?tdaC ?tdxL ?tdbm ?tdsa ?tdga ?tdgg ?tdnb ?tda1 ?tdt1 ?tdl1 ?tdc1 ?tdn1 ?tdn2 ?tdn3 ?tdn4 ?tdkC ?tdeC ?tdtC ?tdhC ?tdiC ?tdsC ?tdsu ?tdvC ?tdmC ?tdtpa ?tdns
    (case tdaC => k_is)
    (case tdxL => k_is)
    (case tdbm => decide +kernel)
    (case tdsa => k_is)
    (case tdga => k_is)
    (case tdgg => k_is)
    (case tdnb => k_is)
    (case tda1 => k_is)
    (case tdt1 => k_is)
    (case tdl1 => k_is)
    (case tdc1 => k_is)
    (case tdn1 => k_is)
    (case tdn2 => rfl)
    (case tdn3 => decide +kernel)
    (case tdn4 => k_is)
    (case tdkC => k_is)
    (case tdeC => k_is)
    (case tdtC => k_is)
    (case tdhC => k_is)
    (case tdiC => k_is)
    (case tdsC => k_is)
    (case tdsu => ks_is)
    (case tdvC => k_is)
    (case tdmC => k_is)
    (case tdtpa => k_is)
    (case tdns => k_is)
  case gT =>
    refine' PySem.W.mg_of KX G.g ?z0
    (case z0 => k_is)
  case xB =>
    refine' K1.exm_sub ?xBx1 ?xBx2 ?xBx3 ?xBx4
    (case xBx1 => k_is); (case xBx2 => k_is); (case xBx3 => k_is); (case xBx4 => k_is)
  case xN =>
    refine' K1.exm_sub ?xNx1 ?xNx2 ?xNx3 ?xNx4
    (case xNx1 => k_is); (case xNx2 => k_is); (case xNx3 => k_is); (case xNx4 => k_is)
  case xV =>
    refine' K1.exm_sub ?xVx1 ?xVx2 ?xVx3 ?xVx4
    (case xVx1 => k_is); (case xVx2 => k_is); (case xVx3 => k_is); (case xVx4 => k_is)
  case xD =>
    refine' K1.exm_sub ?xDx1 ?xDx2 ?xDx3 ?xDx4
    (case xDx1 => k_is); (case xDx2 => k_is); (case xDx3 => k_is); (case xDx4 => k_is)
  case q0 =>
    refine' K1.atM_mk ?b ?n ?l ?c ?k
    (case b => k_is); (case n => k_is); (case l => k_is); (case c => k_is); (case k => k_is)
  case q1 =>
    refine' K1.atM_mk ?b ?n ?l ?c ?k
    (case b => k_is); (case n => k_is); (case l => k_is); (case c => k_is); (case k => k_is)
  case q2 =>
    refine' K1.atM_mk ?b ?n ?l ?c ?k
    (case b => k_is); (case n => k_is); (case l => k_is); (case c => k_is); (case k => k_is)
  case q3 =>
    refine' K1.atM_mk ?b ?n ?l ?c ?k
    (case b => k_is); (case n => k_is); (case l => k_is); (case c => k_is); (case k => k_is)
  case q4 =>
    refine' K1.atM_mk ?b ?n ?l ?c ?k
    (case b => k_is); (case n => k_is); (case l => k_is); (case c => k_is); (case k => k_is)
  case q5 =>
    refine' K1.atM_mk ?b ?n ?l ?c ?k
    (case b => k_is); (case n => k_is); (case l => k_is); (case c => k_is); (case k => k_is)
  case q6 =>
    refine' K1.atM_mk ?b ?n ?l ?c ?k
    (case b => k_is); (case n => k_is); (case l => k_is); (case c => k_is); (case k => k_is)
  case q7 =>
    refine' K1.atM_mk ?b ?n ?l ?c ?k
    (case b => k_is); (case n => k_is); (case l => k_is); (case c => k_is); (case k => k_is)
  case q8 =>
    refine' K1.atM_mk ?b ?n ?l ?c ?k
    (case b => k_is); (case n => k_is); (case l => k_is); (case c => k_is); (case k => k_is)
  case q9 =>
    refine' K1.atM_mk ?b ?n ?l ?c ?k
    (case b => k_is); (case n => k_is); (case l => k_is); (case c => k_is); (case k => k_is)
  case q10 =>
    refine' K1.atM_mk ?b ?n ?l ?c ?k
    (case b => k_is); (case n => k_is); (case l => k_is); (case c => k_is); (case k => k_is)
  case q11 =>
    refine' K1.atM_mk ?b ?n ?l ?c ?k
    (case b => k_is); (case n => k_is); (case l => k_is); (case c => k_is); (case k => k_is)
  case q12 =>
    refine' K1.atM_mk ?b ?n ?l ?c ?k
    (case b => k_is); (case n => k_is); (case l => k_is); (case c => k_is); (case k => k_is)
  case q13 =>
    refine' K1.atM_mk ?b ?n ?l ?c ?k
    (case b => k_is); (case n => k_is); (case l => k_is); (case c => k_is); (case k => k_is)
  case q14 =>
    refine' K1.atM_mk ?b ?n ?l ?c ?k
    (case b => k_is); (case n => k_is); (case l => k_is); (case c => k_is); (case k => k_is)
  case q15 =>
    refine' K1.atM_mk ?b ?n ?l ?c ?k
    (case b => k_is); (case n => k_is); (case l => k_is); (case c => k_is); (case k => k_is)
  case q16 =>
    refine' K1.atM_mk ?b ?n ?l ?c ?k
    (case b => k_is); (case n => k_is); (case l => k_is); (case c => k_is); (case k => k_is)
  case q17 =>
    refine' K1.atM_mk ?b ?n ?l ?c ?k
    (case b => k_is); (case n => k_is); (case l => k_is); (case c => k_is); (case k => k_is)
  case q18 =>
    refine' K1.atM_mk ?b ?n ?l ?c ?k
    (case b => k_is); (case n => k_is); (case l => k_is); (case c => k_is); (case k => k_is)
  case q19 =>
    refine' K1.atM_mk ?b ?n ?l ?c ?k
    (case b => k_is); (case n => k_is); (case l => k_is); (case c => k_is); (case k => k_is)
  case q20 =>
    refine' K1.atM_mk ?b ?n ?l ?c ?k
    (case b => k_is); (case n => k_is); (case l => k_is); (case c => k_is); (case k => k_is)
  case q21 =>
    refine' K1.atM_mk ?b ?n ?l ?c ?k
    (case b => k_is); (case n => k_is); (case l => k_is); (case c => k_is); (case k => k_is)
  case q22 =>
    refine' K1.atM_mk ?b ?n ?l ?c ?k
    (case b => k_is); (case n => k_is); (case l => k_is); (case c => k_is); (case k => k_is)
  case q23 =>
    refine' K1.atM_mk ?b ?n ?l ?c ?k
    (case b => k_is); (case n => k_is); (case l => k_is); (case c => k_is); (case k => k_is)
  case q24 =>
    refine' K1.atM_mk ?b ?n ?l ?c ?k
    (case b => k_is); (case n => k_is); (case l => k_is); (case c => k_is); (case k => k_is)
  case a0 =>
    refine' K1.at_mk KX G.g ?b ?l ?c ?k
    (case b => k_is); (case l => k_is); (case c => k_is); (case k => k_is)
  case a1 =>
    refine' K1.at_mk KX G.g ?b ?l ?c ?k
    (case b => k_is); (case l => k_is); (case c => k_is); (case k => k_is)
  case a2 =>
    refine' K1.at_mk KX G.g ?b ?l ?c ?k
    (case b => k_is); (case l => k_is); (case c => k_is); (case k => k_is)
  case a3 =>
    refine' K1.at_mk KX G.g ?b ?l ?c ?k
    (case b => k_is); (case l => k_is); (case c => k_is); (case k => k_is)
  case a4 =>
    refine' K1.at_mk KX G.g ?b ?l ?c ?k
    (case b => k_is); (case l => k_is); (case c => k_is); (case k => k_is)
  case a5 =>
    refine' K1.at_mk KX G.g ?b ?l ?c ?k
    (case b => k_is); (case l => k_is); (case c => k_is); (case k => k_is)
  case a6 =>
    refine' K1.at_mk KX G.g ?b ?l ?c ?k
    (case b => k_is); (case l => k_is); (case c => k_is); (case k => k_is)
  case a7 =>
    refine' K1.at_mk KX G.g ?b ?l ?c ?k
    (case b => k_is); (case l => k_is); (case c => k_is); (case k => k_is)
  case a8 =>
    refine' K1.at_mk KX G.g ?b ?l ?c ?k
    (case b => k_is); (case l => k_is); (case c => k_is); (case k => k_is)
  case a9 =>
    refine' K1.at_mk KX G.g ?b ?l ?c ?k
    (case b => k_is); (case l => k_is); (case c => k_is); (case k => k_is)
  case a10 =>
    refine' K1.at_mk KX G.g ?b ?l ?c ?k
    (case b => k_is); (case l => k_is); (case c => k_is); (case k => k_is)
  case a11 =>
    refine' K1.at_mk KX G.g ?b ?l ?c ?k
    (case b => k_is); (case l => k_is); (case c => k_is); (case k => k_is)
  case a12 =>
    refine' K1.at_mk KX G.g ?b ?l ?c ?k
    (case b => k_is); (case l => k_is); (case c => k_is); (case k => k_is)
  case a13 =>
    refine' K1.at_mk KX G.g ?b ?l ?c ?k
    (case b => k_is); (case l => k_is); (case c => k_is); (case k => k_is)
  case a14 =>
    refine' K1.at_mk KX G.g ?b ?l ?c ?k
    (case b => k_is); (case l => k_is); (case c => k_is); (case k => k_is)
  case a15 =>
    refine' K1.at_mk KX G.g ?b ?l ?c ?k
    (case b => k_is); (case l => k_is); (case c => k_is); (case k => k_is)
  case a16 =>
    refine' K1.at_mk KX G.g ?b ?l ?c ?k
    (case b => k_is); (case l => k_is); (case c => k_is); (case k => k_is)
  case a17 =>
    refine' K1.at_mk KX G.g ?b ?l ?c ?k
    (case b => k_is); (case l => k_is); (case c => k_is); (case k => k_is)
  case a18 =>
    refine' K1.at_mk KX G.g ?b ?l ?c ?k
    (case b => k_is); (case l => k_is); (case c => k_is); (case k => k_is)
  case a19 =>
    refine' K1.at_mk KX G.g ?b ?l ?c ?k
    (case b => k_is); (case l => k_is); (case c => k_is); (case k => k_is)
  case a20 =>
    refine' K1.at_mk KX G.g ?b ?l ?c ?k
    (case b => k_is); (case l => k_is); (case c => k_is); (case k => k_is)
  case a21 =>
    refine' K1.at_mk KX G.g ?b ?l ?c ?k
    (case b => k_is); (case l => k_is); (case c => k_is); (case k => k_is)
  case a22 =>
    refine' K1.at_mk KX G.g ?b ?l ?c ?k
    (case b => k_is); (case l => k_is); (case c => k_is); (case k => k_is)
  case a23 =>
    refine' K1.at_mk KX G.g ?b ?l ?c ?k
    (case b => k_is); (case l => k_is); (case c => k_is); (case k => k_is)
  case a24 =>
    refine' K1.at_mk KX G.g ?b ?l ?c ?k
    (case b => k_is); (case l => k_is); (case c => k_is); (case k => k_is)
  case a25 =>
    refine' K1.at_mk KX G.g ?b ?l ?c ?k
    (case b => k_is); (case l => k_is); (case c => k_is); (case k => k_is)
  case a26 =>
    refine' K1.at_mk KX G.g ?b ?l ?c ?k
    (case b => k_is); (case l => k_is); (case c => k_is); (case k => k_is)
  case a27 =>
    refine' K1.at_mk KX G.g ?b ?l ?c ?k
    (case b => k_is); (case l => k_is); (case c => k_is); (case k => k_is)
  case a28 =>
    refine' K1.at_mk KX G.g ?b ?l ?c ?k
    (case b => k_is); (case l => k_is); (case c => k_is); (case k => k_is)
  case a29 =>
    refine' K1.at_mk KX G.g ?b ?l ?c ?k
    (case b => k_is); (case l => k_is); (case c => k_is); (case k => k_is)
  case a30 =>
    refine' K1.at_mk KX G.g ?b ?l ?c ?k
    (case b => k_is); (case l => k_is); (case c => k_is); (case k => k_is)
  case a31 =>
    refine' K1.at_mk KX G.g ?b ?l ?c ?k
    (case b => k_is); (case l => k_is); (case c => k_is); (case k => k_is)
  case a32 =>
    refine' K1.at_mk KX G.g ?b ?l ?c ?k
    (case b => k_is); (case l => k_is); (case c => k_is); (case k => k_is)
  case a33 =>
    refine' K1.at_mk KX G.g ?b ?l ?c ?k
    (case b => k_is); (case l => k_is); (case c => k_is); (case k => k_is)
  case a34 =>
    refine' K1.at_mk KX G.g ?b ?l ?c ?k
    (case b => k_is); (case l => k_is); (case c => k_is); (case k => k_is)
  case a35 =>
    refine' K1.at_mk KX G.g ?b ?l ?c ?k
    (case b => k_is); (case l => k_is); (case c => k_is); (case k => k_is)
  case m0 =>
    refine' K1.atM_mk ?b ?n ?l ?c ?k
    (case b => k_is); (case n => k_is); (case l => k_is); (case c => k_is); (case k => k_is)
  case m1 =>
    refine' K1.atM_mk ?b ?n ?l ?c ?k
    (case b => k_is); (case n => k_is); (case l => k_is); (case c => k_is); (case k => k_is)
  case m2 =>
    refine' K1.atM_mk ?b ?n ?l ?c ?k
    (case b => k_is); (case n => k_is); (case l => k_is); (case c => k_is); (case k => k_is)
  case m3 =>
    refine' K1.atM_mk ?b ?n ?l ?c ?k
    (case b => k_is); (case n => k_is); (case l => k_is); (case c => k_is); (case k => k_is)
  case m4 =>
    refine' K1.atM_mk ?b ?n ?l ?c ?k
    (case b => k_is); (case n => k_is); (case l => k_is); (case c => k_is); (case k => k_is)
  case m5 =>
    refine' K1.atM_mk ?b ?n ?l ?c ?k
    (case b => k_is); (case n => k_is); (case l => k_is); (case c => k_is); (case k => k_is)
  case m6 =>
    refine' K1.atM_mk ?b ?n ?l ?c ?k
    (case b => k_is); (case n => k_is); (case l => k_is); (case c => k_is); (case k => k_is)
  case m7 =>
    refine' K1.atM_mk ?b ?n ?l ?c ?k
    (case b => k_is); (case n => k_is); (case l => k_is); (case c => k_is); (case k => k_is)
  case m8 =>
    refine' K1.atM_mk ?b ?n ?l ?c ?k
    (case b => k_is); (case n => k_is); (case l => k_is); (case c => k_is); (case k => k_is)
  case m9 =>
    refine' K1.atM_mk ?b ?n ?l ?c ?k
    (case b => k_is); (case n => k_is); (case l => k_is); (case c => k_is); (case k => k_is)
  case b0 =>
    refine' K1.atMC_mk ?b ?n ?l ?c ?k
    (case b => k_is); (case n => k_is); (case l => k_is); (case c => k_is); (case k => k_is)
  case b1 =>
    refine' K1.atMC_mk ?b ?n ?l ?c ?k
    (case b => k_is); (case n => k_is); (case l => k_is); (case c => k_is); (case k => k_is)
  case b2 =>
    refine' K1.atMC_mk ?b ?n ?l ?c ?k
    (case b => k_is); (case n => k_is); (case l => k_is); (case c => k_is); (case k => k_is)
  (case aL => k_is); (case lL => k_is); (case cL => k_is); (case kL => k_is)
  (case n0N => first | kernel_rfl | rfl)
  (case n1N => first | kernel_rfl | rfl)
  (case n2N => first | kernel_rfl | rfl)
  (case h0H => first | kernel_rfl | rfl)
  (case h1H => first | kernel_rfl | rfl)
  (case h2H => first | kernel_rfl | rfl)
