import PyProof.Rows.All
import Wide.All
import OpenK.AllK
import Wide.FinOn
import PySem.Challenge.RW_mailtide_k01_whole_texts_and_what_they_m
import HandS.ForMost
import HandS.Exc
import HandS.TryOnly
import HandS.TryMany
import HandS.Lambda
import HandS.EndTab
import HandS.IsInst
import HandS.SortRule
import HandS.SortInts
import HandS.StrMore
import HandS.Conv
import HandS.Wide
import HandS.Flow
import HandS.Walk
import HandS.TupAny
import HandS.ListEq
import HandS.DeepEq
import KE.KExcSuper
import KE.GoesMore
import PyProof.Draws
import HandS.ForExc
import PyProof.StrOps2
set_option Elab.async false
set_option linter.all false
set_option maxRecDepth 100000
namespace K1
open PySem PySem.Spec PyProof.Rows L2
def topS (i : Nat) : Stmt := PySem.Challenge.pw_mailtide_k01_whole_texts_and_what_they_m.main.body.getD i (.Pass ⟨0, 0, 0, 0⟩)
abbrev st_TideError : Stmt := topS 1
abbrev st_BadSet : Stmt := topS 2
abbrev st_BadRow : Stmt := topS 3
abbrev st_is_integer : Stmt := topS 5
abbrev st_is_number : Stmt := topS 6
abbrev st_meant : Stmt := topS 12
abbrev st_items_of : Stmt := topS 13
abbrev st_is_set_text : Stmt := topS 14
abbrev st_found_among : Stmt := topS 15
abbrev st_check_row : Stmt := topS 16
abbrev st__end_of : Stmt := topS 17
abbrev st__span : Stmt := topS 18
abbrev st__merged : Stmt := topS 19
abbrev st__covered : Stmt := topS 20
abbrev st__law_draw : Stmt := topS 22
abbrev st__law_one : Stmt := topS 23
abbrev st__law_well : Stmt := topS 24
abbrev st__law_there : Stmt := topS 25
abbrev st__law_ends : Stmt := topS 26
abbrev st__law_text : Stmt := topS 27
abbrev st__law_due : Stmt := topS 28
abbrev st__law_said : Stmt := topS 29
abbrev st__law_refused_right : Stmt := topS 30
abbrev st_law : Stmt := topS 31
end K1


set_option Elab.async false
set_option linter.all false
set_option maxRecDepth 100000
set_option maxHeartbeats 4000000
namespace K1
open PySem PySem.Spec PyProof.Rows L2
/-! ### a def by its name -/
structure Def (P : Program) (w : World) (K : PySem.W.Frag) (mg : Str → Option Value) (base : Heap) (CX : CXT) (k : Nat) (x : Str) (ps : List Str) (sp : Sp) : Prop where
  ex : ∃ (f : Addr) (fd : FuncData), mg x = some (.ref f) ∧ PySem.W.keepIn K (.ref f) = true ∧ Binds K fd ps [] ∧ FnOk P w K mg base CX k f fd ps sp
section
variable {X : Cx} {CX : CXT} {k : Nat} {ps : List Str} {sp : Sp} {E : XK} {x : Str} {p pos : Pos} {e : Expr} {es : List Expr} {t : TA}
theorem pe_def (D : Def X.prog X.w X.K X.mg X.base CX k x ps sp) (hr : Room k X.A) (hg : Gl X x) (hx : Passes CX X E)
    (ha : PA X (e :: es) t) (hdb : (x == ("__debug__" : Str)) = false := by decide) (he : starEach (e :: es) X.env = (false, eval e X.env) :: starEach es X.env := by rfl) (hpl : (backTo pos (starEach es X.env)).any (·.1) = false := by rfl) :
    PE X (.Call (.Name x p) (e :: es) [] pos) (tCall sp [] E t) := by
  obtain ⟨f, fd, hm, hk, hb, F⟩ := D.ex
  exact pe_call F hr hg hm hk hb .nil hx ha hdb he hpl
theorem pe_def0 (D : Def X.prog X.w X.K X.mg X.base CX k x ps sp) (hr : Room k X.A) (hg : Gl X x) (hx : Passes CX X E)
    (hdb : (x == ("__debug__" : Str)) = false := by decide) : PE X (.Call (.Name x p) [] [] pos) (tCall sp [] E tNil) := by
  obtain ⟨f, fd, hm, hk, hb, F⟩ := D.ex
  exact pe_call0 F hr hg hm hk hb .nil hx hdb
end
/-! ### heaps: all that is tracked but p stays -/
def Ext (p : Addr) (H H' : Hp) : Prop := ∀ b o, b ≠ p → H b = some o → H' b = some o
theorem Ext.refl {p : Addr} (H : Hp) : Ext p H H := fun _ _ _ h => h
theorem Ext.trans {p : Addr} {H H1 H2 : Hp} (a : Ext p H H1) (b : Ext p H1 H2) : Ext p H H2 := fun c o n h => b c o n (a c o n h)
theorem Ext.self {p : Addr} {H H' : Hp} {o : HO} (a : Ext p H H') : Ext p H (upd H' p o) := fun c u n h => by rw [upd_ne n]; exact a c u n h
theorem Ext.new {p q : Addr} {H H' : Hp} {o : HO} (a : Ext p H H') (h : H' q = none) : Ext p H (upd H' q o) := fun c u n e => by
  have e' := a c u n e
  rw [upd_ne (ne_of_none e' h)]; exact e'
theorem Ext.mut {p q : Addr} {H H' : Hp} {o : HO} (a : Ext p H H') (h : H q = none) : Ext p H (upd H' q o) := fun c u n e => by
  rw [upd_ne (ne_of_none e h)]; exact a c u n e
theorem Ext.free {p q : Addr} {H H' : Hp} (a : Ext p H H') (h : H' q = none) (n : q ≠ p) : H q = none := by
  cases e : H q with
  | none => rfl
  | some o => rw [a q o n e] at h; cases h
theorem same_ext {p : Addr} {H H' : Hp} (a : Same H H') : Ext p H H' := fun b o _ h => a b o h
theorem same_new {q : Addr} {H : Hp} {o : HO} (h : H q = none) : Same H (upd H q o) := fun c u e => by
  rw [upd_ne (ne_of_none e h)]; exact e
theorem _root_.L2.Same.new {q : Addr} {H H' : Hp} {o : HO} (a : Same H H') (h : H' q = none) : Same H (upd H' q o) := a.trans (same_new h)
theorem _root_.L2.Same.mut {q : Addr} {H H' : Hp} {o : HO} (a : Same H H') (h : H q = none) : Same H (upd H' q o) := fun c u e => by
  rw [upd_ne (ne_of_none e h)]; exact a c u e
theorem lt1 (n : Nat) (h : n ≤ 100000) : n ≤ sizeLine := Nat.le_trans h (by decide)
theorem lt2 (n : Nat) (h : n ≤ 100000) : n < sizeLine := Nat.lt_of_le_of_lt h (by decide)
/-- a well: three ints -/
def WellAt (H : Hp) (p : Addr) : Prop := ∃ c m t : Int, H p = some (.lst [.int c, .int m, .int t])
theorem WellAt.new {H : Hp} {p q : Addr} {o : HO} (w : WellAt H p) (h : H q = none) : WellAt (upd H q o) p := by
  obtain ⟨c, m, t, e⟩ := w
  exact ⟨c, m, t, by rw [upd_ne (ne_of_none e h)]; exact e⟩
theorem WellAt.ne {H : Hp} {p q : Addr} (w : WellAt H p) (h : H q = none) : q ≠ p := by
  obtain ⟨c, m, t, e⟩ := w
  exact (ne_of_none e h).symm
theorem WellAt.upd {H : Hp} {p q : Addr} {o : HO} (w : WellAt H p) (h : q ≠ p) : WellAt (upd H q o) p := by
  obtain ⟨c, m, t, e⟩ := w
  exact ⟨c, m, t, by rw [upd_ne h.symm]; exact e⟩
theorem sq {K : PySem.W.Frag} {H : Hp} {a : Addr} {xs : List V} (h : H a = some (.lst xs)) : SqL K H a xs := .inl (.inl h)
theorem st {K : PySem.W.Frag} {H : Hp} {a : Addr} {xs : List V} (h : H a = some (.tup xs)) : SqT K H a xs := .inl (.inl h)
/-- names that the top leaves to the built-ins -/
structure Bi (mg : Str → Option Value) : Prop where
  int : mg "int" = none
  len : mg "len" = none
  str : mg "str" = none
  range : mg "range" = none
  max : mg "max" = none
  min : mg "min" = none
  sorted : mg "sorted" = none
  tuple : mg "tuple" = none
  list : mg "list" = none
  enumerate : mg "enumerate" = none
  isinstance : mg "isinstance" = none
  bool : mg "bool" = none
end K1
namespace K1
open PySem PySem.Spec PyProof.Rows L2
/-- a def of the text stands at its name -/
def At (K : PySem.W.Frag) (mg : Str → Option Value) (x : Str) (st : Stmt) : Prop := ∃ (f : Addr) (fd : FuncData), mg x = some (.ref f) ∧ Fun K x x st f fd
theorem At.def {P : Program} {w : World} {K : PySem.W.Frag} {mg : Str → Option Value} {base : Heap} {CX : CXT} {k : Nat} {x : Str} {ps : List Str} {sp : Sp} {st : Stmt} (a : At K mg x st)
    (hb : ∀ (kV doc pm : Value) (an : Option Addr) (cdv ct : Value) (us : List Value), us.length = ps.length → bindArgs (PySem.W.fnOf x x (defArgs st) (defBody st) (defScope st) .none kV doc pm an cdv ct) ⟨us, []⟩ = pure (ps.zip us))
    (h : ∀ f fd, Fun K x x st f fd → FnOk P w K mg base CX k f fd ps sp) : Def P w K mg base CX k x ps sp := by
  obtain ⟨f, fd, hm, F⟩ := a
  exact ⟨f, fd, hm, F.kp, F.binds hb, h f fd F⟩
end K1
namespace K1
open PySem PySem.Spec PyProof.Rows L2
def G : Int := 999999999999999999999999999999
/-- numbers that are there -/
structure There (ns : List Int) : Prop where
  asc : ns.Pairwise (· < ·)
  rng : ∀ n ∈ ns, 1 ≤ n ∧ n ≤ G
  len : ns.length ≤ 200
theorem getD_map {ns : List Int} {i : Nat} {y : V} (h : (ns.map V.int)[i]? = some y) : ∃ z, ns[i]? = some z ∧ y = .int z := by
  rw [List.getElem?_map] at h
  cases e : ns[i]? with
  | none => rw [e] at h; cases h
  | some z => rw [e] at h; exact ⟨z, rfl, (Option.some.inj h).symm⟩
theorem take_more {α : Type} {l : List α} {i : Nat} {x : α} (h : l[i]? = some x) : l.take (i + 1) = l.take i ++ [x] := by
  rw [List.take_add_one, h]; rfl
theorem lt_of_get {α : Type} {l : List α} {i : Nat} {x : α} (h : l[i]? = some x) : i < l.length := (List.getElem?_eq_some_iff.mp h).1
end K1
namespace K1
open PySem PySem.Spec PyProof.Rows L2
/-- a comprehension without a test -/
theorem tyes {σ : L2.St} {H : Hp} {A B : Hp → Prop} (h : A H) : tYes σ H (fun b H3 => if b = true then A H3 else B H3) := by
  show (if true = true then A H else B H)
  rw [if_pos rfl]
  exact h
/-- a test whose answer is known -/
theorem itbT {c : Bool} {A B : Prop} (hc : c = true) (h : A) : if c = true then A else B := by
  rw [if_pos hc]
  exact h
theorem itbF {c : Bool} {A B : Prop} (hc : c = false) (h : B) : if c = true then A else B := by
  rw [hc, if_neg Bool.false_ne_true]
  exact h
end K1
namespace K1
open PySem PySem.Spec PyProof.Rows L2
/-! ### rules with the written part by its name (for blocks) -/
section
variable {X : Cx} {K : PySem.W.Frag}
theorem call_lenK (h : X.K = K) : CallR X (.builtin "len") (fun xs H Q => ∃ p ys, xs = [.ref p] ∧ (SqL K H p ys ∨ SqT K H p ys) ∧ Q (.int ys.length) H) := by
  subst h; exact call_len_seq
theorem ix_listK (h : X.K = K) : IxR X (rIxL K) := by subst h; exact ix_list
theorem ix_tupK (h : X.K = K) : IxR X (rIxT K) := by subst h; exact ix_tup
theorem op_in_seqK (h : X.K = K) : OpR X (compareOp .In) (rIn K false) := by subst h; exact op_in_seq
theorem op_notIn_seqK (h : X.K = K) : OpR X (compareOp .NotIn) (rIn K true) := by subst h; exact op_notIn_seq
theorem op_eqDK (h : X.K = K) (hu : X.A.units + 64 < cLine) : OpR X (compareOp .Eq) (rEqD K) := by subst h; exact op_eqD hu
theorem op_neDK (h : X.K = K) (hu : X.A.units + 64 < cLine) : OpR X (compareOp .NotEq) (rNeD K) := by subst h; exact op_neD hu
theorem pi_listK {tg l : Expr} {tl : TE} (h : X.K = K) (hl : PE X l tl) : PI X tg l (iList K tl) := by subst h; exact pi_list hl
theorem pi_tupK {tg l : Expr} {tl : TE} (h : X.K = K) (hl : PE X l tl) : PI X tg l (iTup K tl) := by subst h; exact pi_tup hl
theorem call_list_ofK (h : X.K = K) : CallR X (.type "list") (fun xs H Q => ∃ p ys, xs = [.ref p] ∧ (SqL K H p ys ∨ SqT K H p ys) ∧ ∀ l, H l = none → Q (.ref l) (upd H l (.lst ys))) := by
  subst h; exact call_list_of
theorem call_tuple_ofK (h : X.K = K) : CallR X (.type "tuple") (fun xs H Q => ∃ p ys, xs = [.ref p] ∧ ((SqL K H p ys ∧ ∀ l, H l = none → Q (.ref l) (upd H l (.tup ys))) ∨ (SqT K H p ys ∧ Q (.ref p) H))) := by
  subst h; exact call_tuple_of
theorem pe_joinK {o e : Expr} {to te : TE} {apos pos : Pos} (h : X.K = K) (ho : PE X o to) (he : PE X e te) (hs : starEach [e] X.env = [(false, eval e X.env)] := by rfl) (hbase : attributeBase o "join" X.env (eval o X.env) = eval o X.env := by rfl) (hline : (apos.endLine == pos.line) = true := by rfl) :
    PE X (.Call (.Attribute o "join" apos) [e] [] pos) (tM1 (fun x xs H Q => ∃ a p, ∃ ys : List Str, x = .str a ∧ xs = [.ref p] ∧ (SqL K H p (ys.map V.str) ∨ SqT K H p (ys.map V.str)) ∧
      (ys.map (·.length)).sum + ys.length * a.length ≤ 16777216 ∧ Q (.str (Txt.join a ys)) H) to te) := by
  subst h; exact pe_join ho he hs hbase hline
end
end K1
namespace K1
open PySem PySem.Spec PyProof.Rows L2
section
variable {X : Cx} {K : PySem.W.Frag}
theorem cr_minK (h : X.K = K) (hc : X.calm = true) : CallR X (.builtin "min") (rMin K) := by subst h; exact cr_min hc
theorem cr_maxK (h : X.K = K) (hc : X.calm = true) : CallR X (.builtin "max") (rMax K) := by subst h; exact cr_max hc
end
/-! ### data that are compared -/
theorem dp_ints {K : PySem.W.Frag} {H : Hp} : ∀ ns : List Int, DpAll K H (ns.map V.int) (ns.map PyData.int)
  | [] => .nil
  | n :: r => .cons (.int n) (dp_ints r)
theorem dp_list {K : PySem.W.Frag} {H : Hp} {a : Addr} {ns : List Int} (h : SqL K H a (ns.map V.int)) : Dp K H (.ref a) (.list (ns.map PyData.int)) := .lst h (dp_ints ns)
theorem lay_ints : ∀ ns : List Int, PyData.canLayAll0 (ns.map PyData.int) = true
  | [] => by rfl
  | n :: r => by
    show (PyData.canLay0 (.int n) && PyData.canLayAll0 (r.map PyData.int)) = true
    rw [lay_ints r]; rfl
theorem depth_ints : ∀ ns : List Int, PyData.depthAll (ns.map PyData.int) = 0
  | [] => by rfl
  | n :: r => by
    show max (PyData.depth (.int n)) (PyData.depthAll (r.map PyData.int)) = 0
    rw [depth_ints r]; rfl
theorem shaped_ints (ns : List Int) : SeqAt.shaped (.list (ns.map PyData.int)) = true := by
  unfold SeqAt.shaped
  have h1 : PyData.canLay0 (.list (ns.map PyData.int)) = true := lay_ints ns
  have h2 : PyData.depth (.list (ns.map PyData.int)) = 1 := by
    show PyData.depthAll (ns.map PyData.int) + 1 = 1
    rw [depth_ints]
  rw [h1, h2]; rfl
theorem eqv_ints : ∀ xs ys : List Int, PyData.eqv (.list (xs.map PyData.int)) (.list (ys.map PyData.int)) = decide (xs = ys) := by
  have h : ∀ xs ys : List Int, PyData.eqvAll (xs.map PyData.int) (ys.map PyData.int) = decide (xs = ys) := by
    intro xs
    induction xs with
    | nil => intro ys; cases ys <;> simp [PyData.eqvAll]
    | cons x r ih =>
      intro ys
      cases ys with
      | nil => simp [PyData.eqvAll]
      | cons y t =>
        show (PyData.eqv (.int x) (.int y) && PyData.eqvAll (r.map PyData.int) (t.map PyData.int)) = decide (x :: r = y :: t)
        rw [ih, show PyData.eqv (.int x) (.int y) = (x == y) by simp [PyData.eqv]]
        by_cases e : x = y <;> by_cases e2 : r = t <;> simp [e, e2]
  intro xs ys
  show PyData.eqvAll (xs.map PyData.int) (ys.map PyData.int) = _
  exact h xs ys
theorem inV_ints (n : Int) : ∀ ns : List Int, inV (.int n) (ns.map V.int) = decide (n ∈ ns)
  | [] => by simp [inV]
  | m :: r => by
    have ih := inV_ints n r
    unfold inV at ih ⊢
    rw [List.map_cons, List.any_cons, ih]
    by_cases e : m = n
    · subst e; simp [eqV]
    · have e' : ¬ n = m := fun h => e h.symm
      simp [eqV, e, e']
theorem flat_ints : ∀ ns : List Int, (ns.map V.int).all flatV = true
  | [] => rfl
  | m :: r => by rw [List.map_cons, List.all_cons, flat_ints r]; rfl
/-- a list by a filter -/
def FiltBy (ns : List Int) (P : Int → Prop) (rs : List Int) : Prop := ∃ p : Int → Bool, (∀ n ∈ ns, (p n = true ↔ P n)) ∧ rs = ns.filter p
theorem FiltBy.eq {ns rs ts : List Int} {P R : Int → Prop} (h1 : FiltBy ns P rs) (h2 : FiltBy ns R ts) (h : ∀ n ∈ ns, (P n ↔ R n)) : rs = ts := by
  obtain ⟨p, hp, rfl⟩ := h1
  obtain ⟨q, hq, rfl⟩ := h2
  refine List.filter_congr fun n hn => ?_
  have a := hp n hn
  have b := hq n hn
  have c := h n hn
  cases e : p n <;> cases e2 : q n <;> simp_all
end K1


set_option Elab.async false
set_option linter.all false
set_option maxRecDepth 100000
set_option maxHeartbeats 4000000
namespace K1
open PySem PySem.Spec PyProof.Rows L2
/-! ### the draws -/
abbrev sDraw : Stmt := st__law_draw
abbrev sOne : Stmt := st__law_one
abbrev sWell : Stmt := st__law_well
theorem scDraw : FnScope ["_law_well_here", "_law_below", "_law_found", "_law_mixed"] ["_law_well_here", "_law_below"] (defScope sDraw) := ⟨rfl, rfl, rfl, by decide +kernel, rfl, by decide +kernel, by decide +kernel⟩
theorem scOne : FnScope ["_law_well_here", "_law_things"] ["_law_well_here", "_law_things"] (defScope sOne) := ⟨rfl, rfl, rfl, by decide +kernel, rfl, by decide +kernel, by decide +kernel⟩
theorem scWell : FnScope ["_law_script", "_law_k", "_law_cell"] ["_law_script", "_law_k"] (defScope sWell) := ⟨rfl, rfl, rfl, by decide +kernel, rfl, by decide +kernel, by decide +kernel⟩
def spDraw : Sp := fun vs H Q _ => ∃ (p : Addr) (b : Int), vs = [.ref p, .int b] ∧ WellAt H p ∧ 0 < b ∧ b < 1073741824 ∧
  ∀ (d : Int) (H' : Hp), 0 ≤ d → d < b → Ext p H H' → WellAt H' p → Q (.int d) H'
def spOne : Sp := fun vs H Q _ => ∃ (p a : Addr) (xs : List V), vs = [.ref p, .ref a] ∧ WellAt H p ∧ H a = some (.lst xs) ∧ 0 < xs.length ∧ xs.length < 1073741824 ∧ a ≠ p ∧
  ∀ (i : Nat) (x : V) (H' : Hp), xs[i]? = some x → Ext p H H' → WellAt H' p → Q x H'
def spWell (K : PySem.W.Frag) : Sp := fun vs H Q _ => ∃ (a : Addr) (ns : List Int) (k : Int), vs = [.ref a, .int k] ∧ SqL K H a (ns.map V.int) ∧ ns.length ≤ 63 ∧ 0 ≤ k ∧ k < 1000 ∧
  ∀ (p : Addr) (H' : Hp), H p = none → Same H H' → WellAt H' p → Q (.ref p) H'
section
variable {P : Program} {w : World} {K : PySem.W.Frag} {mg : Str → Option Value} {base : Heap}
theorem ok_draw {f : Addr} {fd : FuncData} (T : Bi mg) (F : Fun K "_law_draw" "_law_draw" sDraw f fd) : FnOk P w K mg base CX0 1 f fd ["_law_well_here", "_law_below"] spDraw := by
  have mi := T.int
  refine F.ok scDraw (fun vs H Q E h => ?_) (fun cdv A outer s H vs Q E hr h => ?_)
  · obtain ⟨p, b, rfl, _⟩ := h
    rfl
  · obtain ⟨p, b, rfl, ⟨c, m, t, hp⟩, hb0, hb1, q'⟩ := h
    have q : ∀ (d c m t : Int), 0 ≤ d → d < b → Q (.int d) (upd H p (.lst [.int c, .int m, .int t])) := fun d c m t h1 h2 => q' d _ h1 h2 (Ext.refl H).self ⟨c, m, t, upd_same⟩
    refine ⟨_, pss_cons (ps_if (pt_cmpR op_ge (pe_ix ix_list (pv 0) pe_int (fun _ _ => rfl)) (pe_op op_pow pe_int pe_int) (nomark _))
        (pss_cons (ps_set (i := 2) scDraw.nd rfl (Or.inl rfl) (pe_op op_mod (pe_callTy call_int1 (by rfl) mi PyProof.Rows.boot_int (pa_cons (pe_ix ix_list (pv 0) pe_int (fun _ _ => rfl)) pa_nil)) (pv 1)))
        (pss_cons (ps_asg (pe_op op_fdiv (pe_ix ix_list (pv 0) pe_int (fun _ _ => rfl)) (pv 1)) (pg_sub (pv 0) pe_int set_list))
        (pss_one (ps_ret (pv 2)))))
        pss_nil)
      (pss_cons (ps_asg (pe_op op_add (pe_ix ix_list (pv 0) pe_int (fun _ _ => rfl)) pe_int) (pg_sub (pv 0) pe_int set_list))
      (pss_cons (ps_set (i := 3) scDraw.nd rfl (Or.inl rfl) (pe_op op_mod (pe_callTy call_int1 (by rfl) mi PyProof.Rows.boot_int (pa_cons
          (pe_op op_mul (pe_op op_add (pe_op op_add (pe_ix ix_list (pv 0) pe_int (fun _ _ => rfl)) (pe_op op_mul pe_int (pe_ix ix_list (pv 0) pe_int (fun _ _ => rfl)))) pe_int) pe_int) pa_nil)) pe_int))
      (pss_cons (ps_set (i := 3) scDraw.nd rfl (Or.inl rfl) (pe_op op_mod (pe_callTy call_int1 (by rfl) mi PyProof.Rows.boot_int (pa_cons
          (pe_op op_mul (pv 3) (pe_op op_add (pe_op op_fdiv (pv 3) pe_int) pe_int)) pa_nil)) pe_int))
      (pss_one (ps_ret (pe_op op_mod (pe_callTy call_int1 (by rfl) mi PyProof.Rows.boot_int (pa_cons
          (pe_op op_fdiv (pe_op op_mod (pe_callTy call_int1 (by rfl) mi PyProof.Rows.boot_int (pa_cons (pe_op op_mul (pv 3) (pe_op op_add (pe_op op_fdiv (pv 3) pe_int) pe_int)) pa_nil)) pe_int) pe_int) pa_nil)) (pv 1))))))), ?_⟩
    have r0 : ∀ x y z : Int, SqL K (upd H p (.lst [.int x, .int y, .int z])) p [.int x, .int y, .int z] := fun x y z => .inl (.inl upd_same)
    have hS : SqL K H p [.int c, .int m, .int t] := .inl (.inl hp)
    have rg : ∀ z : Int, 0 ≤ z % b ∧ z % b < b := fun z => ⟨Int.emod_nonneg _ (by omega), Int.emod_lt_of_pos _ hb0⟩
    refine ⟨.ref p, rfl, p, _, 0, .int c, rfl, rfl, hS, atI_nat (j := 0) rfl, _, _, rfl, rfl, ⟨by decide, by decide, by decide⟩, _, _, rfl, rfl, _, rfl, ?_⟩
    refine ite2 (fun _ => ?_) (fun _ => ?_)
    · refine ⟨.ref p, rfl, p, _, 0, .int c, rfl, rfl, hS, atI_nat (j := 0) rfl, .inl ⟨c, rfl, _, rfl, c, b, rfl, rfl, hb0, ?_⟩⟩
      refine ⟨.ref p, rfl, p, _, 0, .int c, rfl, rfl, hS, atI_nat (j := 0) rfl, _, rfl, c, b, rfl, rfl, ⟨hb0, hb1⟩, ?_⟩
      refine ⟨.ref p, rfl, p, _, 0, 0, rfl, rfl, hp, rfl, ?_⟩
      exact ⟨_, rfl, q (c % b) (c / b) m t (rg c).1 (rg c).2⟩
    · refine ⟨.ref p, rfl, p, _, 2, .int t, rfl, rfl, hS, atI_nat (j := 2) rfl, _, _, rfl, rfl, ?_⟩
      refine ⟨.ref p, rfl, p, _, 2, 2, rfl, rfl, hp, rfl, ?_⟩
      refine ⟨.ref p, rfl, p, _, 1, .int m, rfl, rfl, r0 c m (t + 1), atI_nat (j := 1) rfl, ?_⟩
      refine ⟨.ref p, rfl, p, _, 2, .int (t + 1), rfl, rfl, r0 c m (t + 1), atI_nat (j := 2) rfl, _, _, rfl, rfl, .inl ⟨by decide, by decide⟩, ?_⟩
      refine ⟨_, _, rfl, rfl, _, _, rfl, rfl, _, _, rfl, rfl, .inr ⟨by decide, by decide⟩, .inl ⟨_, rfl, _, _, rfl, rfl, (by show (0 : Int) < _; decide), ?_⟩⟩
      generalize he : (m + 7919 * (t + 1) + 1) * 48271 % 2147483647 = e
      have e0 : 0 ≤ e ∧ e < 2147483647 := by rw [← he]; exact ⟨Int.emod_nonneg _ (by decide), Int.emod_lt_of_pos _ (by decide)⟩
      refine ⟨_, rfl, _, rfl, _, _, rfl, rfl, ⟨by decide, by decide⟩, _, _, rfl, rfl, _, _, rfl, rfl, .inl ⟨by omega, by omega⟩, .inl ⟨_, rfl, _, _, rfl, rfl, (by show (0 : Int) < _; decide), ?_⟩⟩
      generalize hg : e * (e / 1009 + 69621) % 2147483629 = g
      have g0 : 0 ≤ g ∧ g < 2147483629 := by rw [← hg]; exact ⟨Int.emod_nonneg _ (by decide), Int.emod_lt_of_pos _ (by decide)⟩
      refine ⟨_, rfl, _, rfl, _, _, rfl, rfl, ⟨by decide, by decide⟩, _, _, rfl, rfl, _, _, rfl, rfl, .inl ⟨by omega, by omega⟩, .inl ⟨_, rfl, _, _, rfl, rfl, (by show (0 : Int) < _; decide), _, _, rfl, rfl, ⟨by decide, by decide⟩, .inl ⟨_, rfl, _, rfl, _, _, rfl, rfl, hb0, ?_⟩⟩⟩
      exact q _ c m (t + 1) (rg _).1 (rg _).2
theorem def_draw (T : Bi mg) (a : At K mg "_law_draw" sDraw) : Def P w K mg base CX0 1 "_law_draw" ["_law_well_here", "_law_below"] spDraw :=
  a.def (fun _ _ _ _ _ _ us hl => match us, hl with | [_, _], _ => rfl) fun f fd F => ok_draw T F
theorem ok_one {f : Addr} {fd : FuncData} (T : Bi mg) (D_draw : Def P w K mg base CX0 1 "_law_draw" ["_law_well_here", "_law_below"] spDraw) (F : Fun K "_law_one" "_law_one" sOne f fd) : FnOk P w K mg base CX0 2 f fd ["_law_well_here", "_law_things"] spOne := by
  refine F.ok scOne (fun vs H Q E h => ?_) (fun cdv A outer s H vs Q E hr h => ?_)
  · obtain ⟨p, a, xs, rfl, _⟩ := h
    rfl
  · obtain ⟨p, a, xs, rfl, hw, ha, h0, h1, nap, q⟩ := h
    refine ⟨_, (pss_one (ps_ret (pe_ix ix_list (pv 1) (pe_def D_draw (hr.mono (by decide)) rfl pass0 (pa_cons (pv 0) (pa_cons (pe_callB call_len_seq (by rfl) T.len PySem.boot_len (pa_cons (pv 1) pa_nil)) pa_nil))) (fun _ _ => rfl)))), ?_⟩
    refine ⟨_, rfl, _, rfl, _, rfl, a, xs, rfl, .inl (sq ha), ?_⟩
    refine ⟨p, xs.length, rfl, hw, by omega, by omega, fun d H' d0 d1 hx hw' => ?_⟩
    have hi : d.toNat < xs.length := by omega
    have hg : xs[d.toNat]? = some xs[d.toNat] := List.getElem?_eq_getElem hi
    exact ⟨a, xs, d, _, rfl, rfl, sq (hx _ _ nap ha), at_of (j := d.toNat) (by omega) hg, q _ _ _ hg hx hw'⟩
theorem def_one (T : Bi mg) (D_draw : Def P w K mg base CX0 1 "_law_draw" ["_law_well_here", "_law_below"] spDraw) (a : At K mg "_law_one" sOne) : Def P w K mg base CX0 2 "_law_one" ["_law_well_here", "_law_things"] spOne :=
  a.def (fun _ _ _ _ _ _ us hl => match us, hl with | [_, _], _ => rfl) fun f fd F => ok_one T D_draw F
theorem ok_well {f : Addr} {fd : FuncData} (T : Bi mg) (F : Fun K "_law_well" "_law_well" sWell f fd) : FnOk P w K mg base CX0 1 f fd ["_law_script", "_law_k"] (spWell K) := by
  have nd := scWell.nd
  refine F.ok scWell (fun vs H Q E h => ?_) (fun cdv A outer s H vs Q E hr h => ?_)
  · obtain ⟨a, ns, k, rfl, _⟩ := h
    rfl
  · obtain ⟨a, ns, k, rfl, hS, hl, k0, k1, q⟩ := h
    refine ⟨_, (pss_cons (ps_set (i := 2) nd rfl (Or.inl rfl) (pe_ifExp (pt_cmpR op_lt (pv 1) (pe_callB call_len_seq (by rfl) T.len PySem.boot_len (pa_cons (pv 0) pa_nil)) (nomark _)) (pe_ix ix_list (pv 0) (pv 1) (fun _ _ => rfl)) (pe_op op_mul pe_int (pv 1))))
     (pss_one (ps_ret (pe_lst (pa_cons (pv 2) (pa_cons (pe_op op_mod (pe_callTy call_int1 (by rfl) T.int PyProof.Rows.boot_int (pa_cons (pv 2) pa_nil)) pe_int) (pa_cons pe_int pa_nil))))))), ?_⟩
    have fin : ∀ c : Int, (tRet (tLst (tCons (tVar 2) (tCons (tOp (rI (fun _ j => 0 < j) fun i j => .int (i % j)) (tCB (fun xs H Q => (∃ i, xs = [.int i] ∧ Q (.int i) H) ∨ ∃ k, xs = [.bl k] ∧ Q (.int (if k then 1 else 0)) H) (tCons (tVar 2) tNil)) (tC (.int 2147483629))) (tCons (tC (.int 0)) tNil)))))
        { nx := fun _ H' => Q .non H', rt := Q } [some (.ref a), some (.int k), some (.int c)] H := fun c => by
      refine ⟨_, rfl, _, rfl, .inl ⟨c, rfl, _, _, rfl, rfl, (by show (0 : Int) < _; decide), (by show 3 ≤ sizeLine; decide), fun p np => ?_⟩⟩
      exact q p _ np (same_new np) ⟨_, _, _, upd_same⟩
    refine ⟨_, rfl, _, rfl, a, _, rfl, .inl hS, _, _, rfl, rfl, _, rfl, ite2 (fun c => ?_) (fun c => ?_)⟩
    · have c' : k < ns.length := by simpa using c
      have hi : k.toNat < ns.length := by omega
      refine ⟨_, rfl, _, rfl, a, _, k, .int ns[k.toNat], rfl, rfl, hS, at_of (j := k.toNat) (by omega) (by simp [hi]), fin _⟩
    · exact ⟨_, rfl, _, _, rfl, rfl, .inl ⟨by decide, by decide⟩, fin _⟩
theorem def_well (T : Bi mg) (a : At K mg "_law_well" sWell) : Def P w K mg base CX0 1 "_law_well" ["_law_script", "_law_k"] (spWell K) :=
  a.def (fun _ _ _ _ _ _ us hl => match us, hl with | [_, _], _ => rfl) fun f fd F => ok_well T F
end
end K1


set_option Elab.async false
set_option linter.all false
set_option maxRecDepth 100000
set_option maxHeartbeats 4000000
namespace K1
open PySem PySem.Spec PyProof.Rows L2
abbrev sThere : Stmt := st__law_there
abbrev nThere : List Str := ["_law_well_here", "_law_last", "_law_numbers", "_law_turn", "_law_number"]
abbrev pThere : List Str := ["_law_well_here"]
theorem scThere : FnScope nThere pThere (defScope sThere) := ⟨rfl, rfl, rfl, by decide +kernel, rfl, by decide +kernel, by decide +kernel⟩
def spThere : Sp := fun vs H Q _ => ∃ (p : Addr), vs = [.ref p] ∧ WellAt H p ∧
  ∀ (a : Addr) (ns : List Int) (H' : Hp), H a = none → a ≠ p → H' a = some (.lst (ns.map V.int)) → There ns → Ext p H H' → WellAt H' p → Q (.ref a) H'
/-- what the list is ahead of the cut -/
structure There1 (ns : List Int) : Prop where
  asc : ns.Pairwise (· < ·)
  rng : ∀ n ∈ ns, 1 ≤ n ∧ n ≤ G
  len : ns.length ≤ 201
theorem pairwise_snoc {l : List Int} {x : Int} (h : l.Pairwise (· < ·)) (h2 : ∀ y ∈ l, y < x) : (l ++ [x]).Pairwise (· < ·) := by
  rw [List.pairwise_append]
  exact ⟨h, List.pairwise_singleton _ _, fun a ha b hb => by rw [List.mem_singleton.mp hb]; exact h2 a ha⟩
/-- the last 200 -/
theorem cut_there {ns : List Int} (h : There1 ns) : ∃ ms : List Int, cutV (ns.map V.int) (some (-200)) none = ms.map V.int ∧ There ms := by
  refine ⟨(ns.drop (HT.sIx (ns.map V.int).length 0 (some (-200)))).take ((ns.map V.int).length - HT.sIx (ns.map V.int).length 0 (some (-200))), ?_, ?_⟩
  · unfold cutV
    rw [HT.sIx_none, List.map_take, List.map_drop]
  · refine ⟨(h.asc.sublist (List.drop_sublist _ _)).sublist (List.take_sublist _ _), fun n hn => h.rng n (List.mem_of_mem_drop (List.mem_of_mem_take hn)), ?_⟩
    rw [List.length_take, List.length_drop, List.length_map]
    have hl := h.len
    have e : HT.sIx ns.length 0 (some (-200)) = ns.length - 200 := by
      have e2 := HT.clip_eq (-200) ns.length 0
      rw [if_pos (by decide)] at e2
      omega
    rw [e]
    omega
def far : List Int := (List.range 200).map fun (i : Nat) => 3 * (i : Int) + 1
theorem far_lt : ∀ n ∈ far, 1 ≤ n ∧ n < 1000 := fun n hn => by
  unfold far at hn
  rw [List.mem_map] at hn
  obtain ⟨i, hi, rfl⟩ := hn
  have := List.mem_range.mp hi
  omega
theorem far_ok : There1 far := by
  refine ⟨?_, fun n hn => ?_, by unfold far; simp⟩
  · unfold far
    rw [List.pairwise_map]
    exact List.pairwise_lt_range.imp fun {a b} h => by omega
  · have := far_lt n hn
    unfold G
    omega
section
variable {P : Program} {w : World} {K : PySem.W.Frag} {mg : Str → Option Value} {base : Heap}
theorem ok_there {f : Addr} {fd : FuncData} (T : Bi mg) (D_draw : Def P w K mg base CX0 1 "_law_draw" ["_law_well_here", "_law_below"] spDraw)
    (D_one : Def P w K mg base CX0 2 "_law_one" ["_law_well_here", "_law_things"] spOne) (F : Fun K "_law_there" "_law_there" sThere f fd) : FnOk P w K mg base CX0 3 f fd ["_law_well_here"] spThere := by
  have nd := scThere.nd
  refine F.ok scThere (fun vs H Q E h => ?_) (fun cdv A outer s H vs Q E hr h => ?_)
  · obtain ⟨p, rfl, _⟩ := h
    rfl
  · obtain ⟨p, rfl, hw, q⟩ := h
    refine ⟨_, (pss_cons (ps_par (i := 1) (j := 2) (by rfl) nd rfl rfl (by decide) rfl rfl (pa_cons pe_int (pa_cons (pe_lst pa_nil) pa_nil)) (by rfl))
 (C8.pss_cut (ps_for PassesOwn.never rfl (pi_range1 rfl T.range (pa_cons (pe_def D_draw (hr.mono (by decide)) rfl pass0 (pa_cons (pv 0) (pa_cons pe_int pa_nil))) pa_nil)) (pg_name (i := 3) nd rfl (Or.inl rfl))
  (pss_cons (ps_set (i := 1) nd rfl (Or.inl rfl) (pe_op op_add (pe_op op_add (pv 1) pe_int) (pe_def D_one (hr.mono (by decide)) rfl pass0 (pa_cons (pv 0) (pa_cons (pe_lst (pa_cons pe_int (pa_cons pe_int (pa_cons pe_int (pa_cons pe_int (pa_cons (pe_def D_draw (hr.mono (by decide)) rfl pass0 (pa_cons (pv 0) (pa_cons pe_int pa_nil))) (pa_cons (pe_def D_draw (hr.mono (by decide)) rfl pass0 (pa_cons (pv 0) (pa_cons (pe_op op_pow pe_int pe_int) pa_nil))) pa_nil))))))) pa_nil)))))
 (pss_one (ps_expr (pe_bm PySem.F.plainAttrs_list PySem.F.slot_list_append PySem.F.type_list_append mt_append (pv 2) (pa_cons (pv 1) pa_nil))))))
 (C8.pss_cut (ps_if (pt_cmpR op_eq (pe_def D_draw (hr.mono (by decide)) rfl pass0 (pa_cons (pv 0) (pa_cons pe_int pa_nil))) pe_int (nomark _))
  (pss_one (ps_setLc (i := 2) (own := [("_law_number", 4)]) (g := gName 4) (tt := tYes) rfl nd rfl rfl (sw_true rfl rfl rfl (by decide +kernel)) (pi_range1 rfl T.range (pa_cons pe_int pa_nil)) (blkOk_by (own := [("_law_number", 4)]) (N := nThere) (sc := defScope sThere) (by decide +kernel)) (fun _ _ _ _ _ => pg_name (i := 4) nd rfl (Or.inl rfl)) (fun _ _ _ _ _ => pts_nil) (fun _ _ _ _ _ => (pe_op op_add (pe_op op_mul pe_int (pv 4)) pe_int))))
  pss_nil)
 (C8.pss_cut (ps_if (pt_cmpR op_eq (pe_def D_draw (hr.mono (by decide)) rfl pass0 (pa_cons (pv 0) (pa_cons pe_int pa_nil))) pe_int (nomark _))
  (pss_one (ps_set (i := 2) nd rfl (Or.inl rfl) (pe_op op_cat (pe_lc (own := [("_law_number", 4)]) (g := gName 4) rfl nd (pi_list (pv 2)) (blkOk_by (own := [("_law_number", 4)]) (N := nThere) (sc := defScope sThere) (by decide +kernel)) (fun _ _ _ _ _ => pg_name (i := 4) nd rfl (Or.inl rfl)) (fun _ _ _ _ _ => pts_one (pt_cmpR op_lt (pv 4) (pe_op op_pow pe_int pe_int) (nomark _))) (fun _ _ _ _ _ => (pv 4))) (pe_lst (pa_cons (pe_op op_sub (pe_op op_pow pe_int pe_int) pe_int) pa_nil)))))
  pss_nil)
 (pss_one (ps_ret (pe_slice sl_list (pv 2) (po_some (pe_un un_neg pe_int)) po_none))))))), ?_⟩
    refine ⟨Nat.zero_le _, fun l nl => ⟨_, _, rfl, ?_⟩⟩
    have nlp : l ≠ p := hw.ne nl
    -- the loop
    refine ⟨fun σ H1 => ∃ (last : Int) (ns : List Int) (v3 v4 : Option V), σ = [some (.ref p), some (.int last), some (.ref l), v3, v4] ∧ Ext p H H1 ∧ WellAt H1 p ∧ H1 l = some (.lst (ns.map V.int)) ∧ ns.length ≤ 9 ∧ There1 ns ∧ (∀ n ∈ ns, n < 100000000000000000000), ?_, ?_⟩
    · refine ⟨_, rfl, p, 10, rfl, hw.new nl, by decide, by decide, fun d H1 d0 d1 hx hw1 => ⟨d, rfl, by omega, by omega, for_range (lo := 0) (n := d.toNat) (fun i σ H2 => ∃ (last : Int) (ns : List Int) (v3 v4 : Option V), σ = [some (.ref p), some (.int last), some (.ref l), v3, v4] ∧ Ext p H H2 ∧ WellAt H2 p ∧ H2 l = some (.lst (ns.map V.int)) ∧
          ns.length = i ∧ ns.Pairwise (· < ·) ∧ (∀ n ∈ ns, 1 ≤ n ∧ n ≤ last) ∧ 0 ≤ last ∧ last ≤ (i : Int) * 1000000001) ?_ ?_ ?_⟩⟩
      · exact ⟨0, [], none, none, rfl, ((Ext.refl H).new nl).trans hx, hw1, hx l _ nlp upd_same, rfl, List.Pairwise.nil, fun n hn => by simp at hn, Int.le_refl 0, by omega⟩
      · rintro i σ H2 hi ⟨last, ns, v3, v4, rfl, e2, w2, l2, len, asc, rng, z0, z1⟩
        refine ⟨_, rfl, _, _, rfl, rfl, _, rfl, _, rfl, p, 40, rfl, w2, by decide, by decide, fun d1 H3 a0 a1 e3 w3 => ?_⟩
        refine ⟨_, rfl, _, _, rfl, rfl, ⟨by decide, by decide, by decide⟩, p, 10 ^ 9, rfl, w3, by decide, by decide, fun d2 H4 b0 b1 e4 w4 => ?_⟩
        refine ⟨(by show 6 ≤ sizeLine; decide), fun m nm => ?_⟩
        refine ⟨p, m, _, rfl, w4.new nm, upd_same, (by show 0 < 6; decide), (by show 6 < 1073741824; decide), w4.ne nm, fun j x H5 hj e5 w5 => ?_⟩
        obtain ⟨y, rfl, y0, y1⟩ : ∃ y, x = .int y ∧ 0 ≤ y ∧ y ≤ 1000000000 := by
          have hm := List.mem_of_getElem? hj
          simp only [List.mem_cons, List.not_mem_nil, or_false] at hm
          rcases hm with rfl | rfl | rfl | rfl | rfl | rfl <;> refine ⟨_, rfl, ?_, ?_⟩ <;> first | decide | omega
        have e6 : Ext p H2 H5 := (e3.trans (e4.new nm)).trans e5
        have l5 := e6 l _ nlp l2
        refine ⟨_, _, rfl, rfl, _, rfl, .inl ⟨rfl, _, sq l5⟩, _, rfl, l, _, _, rfl, rfl, l5, lt2 _ (by rw [List.length_map]; omega), ?_⟩
        refine ⟨last + 1 + y, ns ++ [last + 1 + y], _, _, rfl, (e2.trans e6).mut nl, w5.upd nlp, ?_, ?_, ?_, ?_, by omega, ?_⟩
        · rw [upd_same, List.map_append]; rfl
        · rw [List.length_append, len]; rfl
        · exact pairwise_snoc asc fun n hn => by have := rng n hn; omega
        · intro n hn
          rcases List.mem_append.mp hn with hn | hn
          · have := rng n hn; omega
          · rw [List.mem_singleton.mp hn]; omega
        · push_cast; omega
      · rintro σ H2 ⟨last, ns, v3, v4, rfl, e2, w2, l2, len, asc, rng, z0, z1⟩
        have hd : (d.toNat : Int) ≤ 9 := by omega
        exact ⟨last, ns, v3, v4, rfl, e2, w2, l2, by omega, ⟨asc, fun n hn => by have := rng n hn; unfold G; omega, by omega⟩, fun n hn => by have := rng n hn; omega⟩
    · rintro σ H1 ⟨last, ns, v3, v4, rfl, e1, w1, l1, len, th, sm⟩
      -- if draw == 0
      refine ⟨fun σ H2 => ∃ (l' : Addr) (ns : List Int) (v1 v3 v4 : Option V), σ = [some (.ref p), v1, some (.ref l'), v3, v4] ∧ Ext p H H2 ∧ WellAt H2 p ∧ H2 l' = some (.lst (ns.map V.int)) ∧ H l' = none ∧ l' ≠ p ∧ ns.length ≤ 200 ∧ There1 ns ∧ (∀ n ∈ ns, n < 100000000000000000000), ?_, ?_⟩
      · refine ⟨_, rfl, p, 12, rfl, w1, by decide, by decide, fun d H2 d0 d1 e2 w2 => ⟨rfl, _, rfl, ite2 (fun c => ?_) (fun c => ?_)⟩⟩
        · refine ⟨200, rfl, by decide, by decide, fun D hD => ?_⟩
          have nD : D ≠ p := w2.ne hD
          have hDn : H D = none := (e1.trans e2).free hD nD
          refine lc_range (lo := 0) (n := 200) (fun i H3 => Ext p H H3 ∧ WellAt H3 p ∧ H3 D = some (.lst ((far.take i).map V.int))) ⟨(e1.trans e2).new hD, w2.new hD, upd_same⟩ ?_ ?_
          · rintro i H3 hi ⟨e3, w3, hD3⟩
            refine ⟨rfl, tyes ⟨_, rfl, _, _, rfl, rfl, .inl ⟨by decide, by decide⟩, _, _, rfl, rfl, _, hD3, ?_, e3.mut hDn, w3.upd nD, ?_⟩⟩
            · rw [List.length_map, List.length_take]; exact lt2 _ (by omega)
            · have hf : far[i]? = some (3 * (i : Int) + 1) := by
                unfold far
                rw [List.getElem?_map, List.getElem?_range hi]; rfl
              rw [upd_same, take_more hf, List.map_append]
              simp
          · rintro H3 ⟨e3, w3, hD3⟩
            have hl : far.length = 200 := by unfold far; simp
            rw [List.take_of_length_le (Nat.le_of_eq hl)] at hD3
            exact ⟨D, far, _, _, _, rfl, e3, w3, hD3, hDn, nD, by omega, far_ok, fun n hn => by have := far_lt n hn; omega⟩
        · exact ⟨l, ns, _, v3, v4, rfl, e1.trans e2, w2, e2 _ _ nlp l1, nl, nlp, by omega, th, sm⟩
      · rintro σ H2 ⟨l', ns, v1, v3, v4, rfl, e2, w2, l2, nl', nlp', len, th, sm⟩
        refine ⟨fun σ H3 => ∃ (l' : Addr) (ns : List Int) (v1 v3 v4 : Option V), σ = [some (.ref p), v1, some (.ref l'), v3, v4] ∧ Ext p H H3 ∧ WellAt H3 p ∧ H3 l' = some (.lst (ns.map V.int)) ∧ H l' = none ∧ l' ≠ p ∧ There1 ns, ?_, ?_⟩
        · refine ⟨_, rfl, p, 6, rfl, w2, by decide, by decide, fun d H3 d0 d1 e3 w3 => ⟨rfl, _, rfl, ite2 (fun c => ?_) (fun c => ?_)⟩⟩
          · have l3 := e3 _ _ nlp' l2
            refine ⟨_, rfl, l', rfl, ⟨_, sq l3⟩, fun D hD => ?_⟩
            have nD : D ≠ p := w3.ne hD
            have nDl : D ≠ l' := (ne_of_none l3 hD).symm
            have hDn : H D = none := (e2.trans e3).free hD nD
            refine lc_list (K := K) (a := l') (xs := ns.map V.int) (fun i H4 => Ext p H H4 ∧ WellAt H4 p ∧ H4 l' = some (.lst (ns.map V.int)) ∧ H4 D = some (.lst ((ns.take i).map V.int))) ⟨(e2.trans e3).new hD, w3.new hD, by rw [upd_ne nDl.symm]; exact l3, upd_same⟩ (fun i H4 _ h4 => sq h4.2.2.1) ?_ ?_
            · rintro i y H4 hy ⟨e4, w4, l4, hD4⟩
              obtain ⟨z, hz, rfl⟩ := getD_map hy
              have hzl := sm z (List.mem_of_getElem? hz)
              refine ⟨rfl, _, rfl, _, _, rfl, rfl, ⟨by decide, by decide, by decide⟩, _, _, rfl, rfl, _, rfl, ?_⟩
              refine itbT (decide_eq_true (show z < 10 ^ (20 : Int).toNat from hzl)) ?_
              refine ⟨_, rfl, _, hD4, ?_, e4.mut hDn, w4.upd nD, ?_, ?_⟩
              · rw [List.length_map, List.length_take]; exact lt2 _ (by omega)
              · rw [upd_ne nDl.symm]; exact l4
              · rw [upd_same, take_more hz, List.map_append]; rfl
            · rintro H4 ⟨e4, w4, l4, hD4⟩
              rw [List.length_map, List.take_length] at hD4
              refine ⟨_, _, rfl, rfl, ⟨by decide, by decide, by decide⟩, _, _, rfl, rfl, (by show 1 ≤ sizeLine; decide), fun m nm => ?_⟩
              have nmp : m ≠ p := w4.ne nm
              have hDm : (upd H4 m (.lst [.int G])) D = some (.lst (ns.map V.int)) := by rw [upd_ne (ne_of_none hD4 nm)]; exact hD4
              refine ⟨_, _, _, _, rfl, rfl, hDm, upd_same, ?_, fun q nq => ?_⟩
              · exact lt1 _ (by rw [List.length_map]; show ns.length + 1 ≤ 100000; omega)
              · have nqp : q ≠ p := (w4.new nm).ne nq
                have nqH : H q = none := (e4.new nm).free nq nqp
                refine ⟨q, ns ++ [G], _, _, _, rfl, (e4.new nm).new nq, (w4.new nm).new nq, ?_, nqH, nqp, ?_⟩
                · rw [upd_same, List.map_append]; rfl
                · refine ⟨pairwise_snoc th.asc fun n hn => ?_, fun n hn => ?_, ?_⟩
                  · have := sm n hn; unfold G; omega
                  · rcases List.mem_append.mp hn with hn | hn
                    · exact th.rng n hn
                    · rw [List.mem_singleton.mp hn]; unfold G; omega
                  · rw [List.length_append]; show ns.length + 1 ≤ 201; omega
          · exact ⟨l', ns, v1, v3, v4, rfl, e2.trans e3, w3, e3 _ _ nlp' l2, nl', nlp', th⟩
        · rintro σ H3 ⟨l3, ms, v1, v3, v4, rfl, e3, w3, hl3, nl3, np3, th⟩
          obtain ⟨ms', hc, hth⟩ := cut_there th
          refine ⟨_, rfl, _, rfl, _, rfl, l3, _, rfl, sq hl3, fun r nr => ?_⟩
          have nrp : r ≠ p := w3.ne nr
          refine q r ms' _ (e3.free nr nrp) nrp ?_ hth (e3.new nr) (w3.new nr)
          rw [upd_same, ← hc]
theorem def_there (T : Bi mg) (D_draw : Def P w K mg base CX0 1 "_law_draw" ["_law_well_here", "_law_below"] spDraw)
    (D_one : Def P w K mg base CX0 2 "_law_one" ["_law_well_here", "_law_things"] spOne) (a : At K mg "_law_there" sThere) : Def P w K mg base CX0 3 "_law_there" pThere spThere :=
  a.def (fun _ _ _ _ _ _ us hl => match us, hl with | [_], _ => rfl) fun f fd F => ok_there T D_draw D_one F
end
end K1


set_option Elab.async false
set_option linter.all false
set_option maxRecDepth 100000
set_option maxHeartbeats 4000000
namespace K1
open PySem PySem.Spec PyProof.Rows L2
abbrev sEnds : Stmt := st__law_ends
abbrev nEnds : List Str := ["_law_well_here", "_law_numbers", "_law_near", "_law_number", "_law_some", "_law_turn"]
abbrev pEnds : List Str := ["_law_well_here", "_law_numbers"]
theorem scEnds : FnScope nEnds pEnds (defScope sEnds) := ⟨rfl, rfl, rfl, by decide +kernel, rfl, by decide +kernel, by decide +kernel⟩
/-- an end: a star or a number -/
abbrev En := Option Int
def eV : En → V
  | none => .non
  | some n => .int n
def OkE (e : En) : Prop := ∀ n, e = some n → 1 ≤ n ∧ n ≤ G
def spEnds : Sp := fun vs H Q _ => ∃ (p a : Addr) (ns : List Int), vs = [.ref p, .ref a] ∧ WellAt H p ∧ H a = some (.lst (ns.map V.int)) ∧ a ≠ p ∧ There ns ∧
  ∀ (b : Addr) (es : List En) (H' : Hp), H b = none → b ≠ p → H' b = some (.lst (es.map eV)) → 1 ≤ es.length → es.length ≤ 2 → (∀ e ∈ es, OkE e) → Ext p H H' → WellAt H' p → Q (.ref b) H'
section
variable {P : Program} {w : World} {K : PySem.W.Frag} {mg : Str → Option Value} {base : Heap}
theorem ok_ends {f : Addr} {fd : FuncData} (T : Bi mg) (D_draw : Def P w K mg base CX0 1 "_law_draw" ["_law_well_here", "_law_below"] spDraw)
    (D_one : Def P w K mg base CX0 2 "_law_one" ["_law_well_here", "_law_things"] spOne) (F : Fun K "_law_ends" "_law_ends" sEnds f fd) : FnOk P w K mg base CX0 3 f fd pEnds spEnds := by
  have nd := scEnds.nd
  refine F.ok scEnds (fun vs H Q E h => ?_) (fun cdv A outer s H vs Q E hr h => ?_)
  · obtain ⟨p, a, ns, rfl, _⟩ := h
    rfl
  · obtain ⟨p, a, ns, rfl, hw, ha, nap, th, q⟩ := h
    refine ⟨_, (pss_cons (ps_set (i := 2) nd rfl (Or.inr rfl) (pe_lst (pa_cons pe_int (pa_cons (pe_op op_sub (pe_op op_pow pe_int pe_int) pe_int) (pa_cons (pe_op op_add pe_int (pe_def D_draw (hr.mono (by decide)) rfl pass0 (pa_cons (pv 0) (pa_cons (pe_op op_pow pe_int pe_int) pa_nil)))) pa_nil)))))
 (C8.pss_cut (ps_for PassesOwn.never rfl (pi_list (pv 1)) (pg_name (i := 3) nd rfl (Or.inl rfl))
  (pss_one (ps_set (i := 2) nd rfl (Or.inr rfl) (pe_op op_cat (pv 2) (pe_lst (pa_cons (pv 3) (pa_cons (pe_op op_sub (pe_op op_add (pv 3) pe_int) (pe_callTy call_int1 (by rfl) T.int PyProof.Rows.boot_int (pa_cons (pe_cmpR op_eq (pv 3) (pe_op op_sub (pe_op op_pow pe_int pe_int) pe_int) (nomark _)) pa_nil))) (pa_cons (pe_callB (call_max2 rfl) (by rfl) T.max PyProof.Rows.boot_max (pa_cons pe_int (pa_cons (pe_op op_sub (pv 3) pe_int) pa_nil))) pa_nil))))))))
 (C8.pss_cut (ps_setLc (i := 4) (own := [("_law_turn", 5)]) (g := gName 5) (tt := tYes) rfl nd rfl rfl (sw_true rfl rfl rfl (by decide +kernel)) (pi_range1 rfl T.range (pa_cons pe_int pa_nil)) (blkOk_by (own := [("_law_turn", 5)]) (N := nEnds) (sc := defScope sEnds) (by decide +kernel)) (fun _ _ _ _ _ => pg_name (i := 5) nd rfl (Or.inl rfl)) (fun _ _ _ _ _ => pts_nil) (fun _ _ _ _ _ => (pe_def D_one (hr.mono (by decide)) rfl pass0 (pa_cons (pv 0) (pa_cons (pe_op op_cat (pv 2) (pe_op op_rep (pe_lst (pa_cons pe_non pa_nil)) (pe_op op_add pe_int (pe_op op_fdiv (pe_callB (call_lenK (K := K) rfl) (by rfl) T.len PySem.boot_len (pa_cons (pv 2) pa_nil)) pe_int)))) pa_nil)))))
 (pss_one (ps_ret (pe_slice sl_list (pv 4) po_none (po_some (pe_op op_add pe_int (pe_def D_draw (hr.mono (by decide)) rfl pass0 (pa_cons (pv 0) (pa_cons pe_int pa_nil)))))))))))
, ?_⟩
    refine ⟨_, _, rfl, rfl, ⟨by decide, by decide, by decide⟩, _, _, rfl, rfl, ?_⟩
    refine ⟨_, rfl, _, _, rfl, rfl, ⟨by decide, by decide, by decide⟩, p, 10 ^ 3, rfl, hw, by decide, by decide, fun d H1 d0 d1 e1 w1 => ?_⟩
    refine ⟨_, _, rfl, rfl, (by show 3 ≤ sizeLine; decide), fun l nl => ?_⟩
    have nlp : l ≠ p := w1.ne nl
    have nlH : H l = none := e1.free nl nlp
    have ha1 := e1 a _ nap ha
    have nla : l ≠ a := (ne_of_none ha1 nl).symm
    -- the near numbers
    refine ⟨fun σ H2 => ∃ (l : Addr) (near : List Int) (v3 : Option V), σ = [some (.ref p), some (.ref a), some (.ref l), v3, none, none] ∧ Ext p H H2 ∧ WellAt H2 p ∧ H2 l = some (.lst (near.map V.int)) ∧ H l = none ∧ l ≠ p ∧ near.length ≤ 603 ∧ 0 < near.length ∧ (∀ n ∈ near, 1 ≤ n ∧ n ≤ G), ?_, ?_⟩
    · refine ⟨_, rfl, a, rfl, ⟨_, sq (by rw [upd_ne nla.symm]; exact ha1)⟩, for_list (K := K) (a := a) (xs := ns.map V.int) (fun i σ H2 => ∃ (l : Addr) (near : List Int) (v3 : Option V), σ = [some (.ref p), some (.ref a), some (.ref l), v3, none, none] ∧ Ext p H H2 ∧ WellAt H2 p ∧
          H2 a = some (.lst (ns.map V.int)) ∧ H2 l = some (.lst (near.map V.int)) ∧ H l = none ∧ l ≠ p ∧ near.length = 3 + 3 * i ∧ (∀ n ∈ near, 1 ≤ n ∧ n ≤ G)) ?_ ?_ ?_ ?_⟩
      · refine ⟨l, [1, G, 1 + d], none, rfl, e1.new nl, w1.new nl, by rw [upd_ne nla.symm]; exact ha1, upd_same, nlH, nlp, rfl, ?_⟩
        intro n hn
        have hd : d < 1000 := d1
        simp only [List.mem_cons, List.not_mem_nil, or_false] at hn
        rcases hn with rfl | rfl | rfl <;> unfold G <;> omega
      · rintro i σ H2 _ ⟨l, near, v3, rfl, e2, w2, ha2, l2, _⟩
        exact sq ha2
      · rintro i y σ H2 hy ⟨l, near, v3, rfl, e2, w2, ha2, l2, nl, nlp, len, rng⟩
        obtain ⟨z, hz, rfl⟩ := getD_map hy
        have hzr := th.rng z (List.mem_of_getElem? hz)
        have hi : i < 200 := Nat.lt_of_lt_of_le (lt_of_get hz) th.len
        refine ⟨_, rfl, _, rfl, _, rfl, _, _, rfl, rfl, _, rfl, _, _, rfl, rfl, ⟨by decide, by decide, by decide⟩, _, _, rfl, rfl, rfl, .inr ⟨_, rfl, _, _, rfl, rfl, ?_⟩⟩
        refine ⟨_, rfl, _, _, rfl, rfl, _, _, rfl, (by show 3 ≤ sizeLine; decide), fun m nm => ?_⟩
        have hlm : ∀ o, (upd H2 m o) l = some (.lst (near.map V.int)) := fun o => by rw [upd_ne (ne_of_none l2 nm)]; exact l2
        refine ⟨_, _, _, _, rfl, rfl, hlm _, upd_same, lt1 _ (by rw [List.length_map]; show near.length + 3 ≤ 100000; omega), fun r nr => ?_⟩
        have el : (upd (upd H2 m (.lst [.int z, .int (z + 1 - if (decide (V.int z = V.int (10 ^ (30 : Int).toNat - 1))) = true then 1 else 0), .int (if z - 1 > 1 then z - 1 else 1)])) r
            (.lst (near.map V.int ++ [.int z, .int (z + 1 - if (decide (V.int z = V.int (10 ^ (30 : Int).toNat - 1))) = true then 1 else 0), .int (if z - 1 > 1 then z - 1 else 1)]))) r
            = some (.lst ((near ++ [z, z + 1 - if (decide (V.int z = V.int (10 ^ (30 : Int).toNat - 1))) = true then 1 else 0, if z - 1 > 1 then z - 1 else 1]).map V.int)) := by
          rw [upd_same, List.map_append]; rfl
        have nrp : r ≠ p := (w2.new nm).ne nr
        have nar : ∀ o, (upd (upd H2 m o) r o) a = some (.lst (ns.map V.int)) := fun o => by
          rw [upd_ne, upd_ne (ne_of_none ha2 nm)]
          · exact ha2
          · have h1 : (upd H2 m o) a = some (.lst (ns.map V.int)) := by rw [upd_ne (ne_of_none ha2 nm)]; exact ha2
            intro e
            subst e
            have h2 := (same_new (o := .lst [.int z, .int (z + 1 - if (decide (V.int z = V.int (10 ^ (30 : Int).toNat - 1))) = true then 1 else 0), .int (if z - 1 > 1 then z - 1 else 1)]) nm) _ _ ha2
            rw [h2] at nr
            cases nr
        refine ⟨r, _, _, rfl, (e2.new nm).new nr, (w2.new nm).new nr, (((same_new nm).new nr)) _ _ ha2, el, (e2.new nm).free nr nrp, nrp, ?_, ?_⟩
        · rw [List.length_append, len]; show 3 + 3 * i + 3 = 3 + 3 * (i + 1); omega
        · intro n hn
          rcases List.mem_append.mp hn with hn | hn
          · exact rng n hn
          · simp only [List.mem_cons, List.not_mem_nil, or_false] at hn
            have hG : (10 : Int) ^ (30 : Int).toNat - 1 = G := rfl
            rw [hG] at hn
            rcases hn with rfl | rfl | rfl
            · exact hzr
            · by_cases c : z = G
              · subst c
                simp only [decide_true, if_true]
                unfold G
                omega
              · have c' : ¬ V.int z = V.int G := fun e => c (V.int.inj e)
                rw [decide_eq_false c', if_neg Bool.false_ne_true]
                omega
            · split <;> omega
      · rintro σ H2 ⟨l, near, v3, rfl, e2, w2, ha2, l2, nl, nlp, len, rng⟩
        rw [List.length_map] at len
        have := th.len
        exact ⟨l, near, v3, rfl, e2, w2, l2, nl, nlp, by omega, by omega, rng⟩
    · rintro σ H2 ⟨l, near, v3, rfl, e2, w2, l2, nl, nlp, len, pos, rng⟩
      refine ⟨fun σ H3 => ∃ (l c : Addr) (es : List En) (v3 v5 : Option V), σ = [some (.ref p), some (.ref a), some (.ref l), v3, some (.ref c), v5] ∧ Ext p H H3 ∧ WellAt H3 p ∧ H3 c = some (.lst (es.map eV)) ∧ H c = none ∧ c ≠ p ∧ es.length = 2 ∧ (∀ e ∈ es, OkE e), ?_, ?_⟩
      · refine ⟨2, rfl, by decide, by decide, fun D hD => ?_⟩
        have nD : D ≠ p := w2.ne hD
        have hDn : H D = none := e2.free hD nD
        have nDl : D ≠ l := (ne_of_none l2 hD).symm
        refine lc_range (lo := 0) (n := 2) (fun i H3 => ∃ es : List En, Ext p H H3 ∧ WellAt H3 p ∧ H3 l = some (.lst (near.map V.int)) ∧ H3 D = some (.lst (es.map eV)) ∧ es.length = i ∧ (∀ e ∈ es, OkE e)) ⟨[], e2.new hD, w2.new hD, by rw [upd_ne nDl.symm]; exact l2, upd_same, rfl, fun e he => by simp at he⟩ ?_ ?_
        · rintro i H3 hi ⟨es, e3, w3, l3, hD3, hes, ok⟩
          refine ⟨rfl, tyes ⟨_, rfl, _, rfl, (by show 1 ≤ sizeLine; decide), fun m nm => ?_⟩⟩
          refine ⟨_, rfl, _, _, rfl, .inl (sq (by rw [upd_ne (ne_of_none l3 nm)]; exact l3)), _, _, rfl, rfl, ⟨by decide, by decide⟩, _, _, rfl, rfl, ?_⟩
          generalize hk : (1 : Int) + ((near.map V.int).length : Int) / 4 = k
          rw [List.length_map] at hk
          have hk1 : k ≤ 151 := by omega
          have hk0 : 1 ≤ k := by omega
          refine ⟨m, k, _, rfl, by rw [← hk, List.length_map], upd_same, by omega, by omega, lt1 _ (by show 1 * k.toNat ≤ 100000; omega), fun r nr => ?_⟩
          have lm : (upd H3 m (.lst [.non])) l = some (.lst (near.map V.int)) := by rw [upd_ne (ne_of_none l3 nm)]; exact l3
          have lr : ∀ o, (upd (upd H3 m (.lst [.non])) r o) l = some (.lst (near.map V.int)) := fun o => by rw [upd_ne (ne_of_none lm nr)]; exact lm
          have rl : ((List.replicate k.toNat [V.non]).flatten).length = k.toNat := by simp
          refine ⟨l, r, _, _, rfl, rfl, lr _, upd_same, lt1 _ (by rw [List.length_map, rl]; omega), fun u nu => ?_⟩
          have wu := ((w3.new nm).new nr).new nu (o := .lst (near.map V.int ++ (List.replicate k.toNat [V.non]).flatten))
          have eu := ((e3.new nm).new nr).new nu (o := .lst (near.map V.int ++ (List.replicate k.toNat [V.non]).flatten))
          have su := (((same_new (o := .lst [.non]) nm).new nr (o := .lst (List.replicate k.toNat [V.non]).flatten)).new nu (o := .lst (near.map V.int ++ (List.replicate k.toNat [V.non]).flatten)))
          refine ⟨p, u, _, rfl, wu, upd_same, by rw [List.length_append, List.length_map]; omega, by rw [List.length_append, List.length_map, rl]; omega, ((w3.new nm).new nr).ne nu, fun j x H4 hj e4 w4 => ?_⟩
          obtain ⟨e, rfl, oe⟩ : ∃ e : En, x = eV e ∧ OkE e := by
            rcases List.mem_append.mp (List.mem_of_getElem? hj) with hm | hm
            · rw [List.mem_map] at hm
              obtain ⟨n, hn, rfl⟩ := hm
              exact ⟨some n, rfl, fun n' h => by cases h; exact rng _ hn⟩
            · rw [List.mem_flatten] at hm
              obtain ⟨t, ht, hx⟩ := hm
              rw [List.mem_replicate] at ht
              rw [ht.2, List.mem_singleton] at hx
              exact ⟨none, hx, fun n' h => by cases h⟩
          have D4 := e4 D _ nD (su _ _ hD3)
          have lp : l ≠ p := nlp
          refine ⟨_, D4, lt2 _ (by rw [List.length_map]; omega), es ++ [e], (eu.trans e4).mut hDn, w4.upd nD, ?_, ?_, ?_, ?_⟩
          · rw [upd_ne nDl.symm]; exact e4 l _ lp (su _ _ l3)
          · rw [upd_same, List.map_append]; rfl
          · rw [List.length_append, hes]; rfl
          · intro e' he'
            rcases List.mem_append.mp he' with h | h
            · exact ok _ h
            · rw [List.mem_singleton.mp h]; exact oe
        · rintro H3 ⟨es, e3, w3, l3, hD3, hes, ok⟩
          exact ⟨l, D, es, _, _, rfl, e3, w3, hD3, hDn, nD, hes, ok⟩
      · rintro σ H3 ⟨l, c, es, v3, v5, rfl, e3, w3, c3, nc, ncp, hes, ok⟩
        refine ⟨_, rfl, _, rfl, p, 2, rfl, w3, by decide, by decide, fun d H4 d0 d1 e4 w4 => ?_⟩
        refine ⟨_, _, rfl, rfl, _, rfl, c, _, rfl, sq (e4 c _ ncp c3), fun r nr => ?_⟩
        have nrp : r ≠ p := w4.ne nr
        have hx : HT.sIx (es.map eV).length (es.map eV).length (some (1 + d)) = 1 + d.toNat := by
          rw [List.length_map, hes]
          have := HT.sIx_nat 2 2 (1 + d.toNat)
          rw [show ((1 + d.toNat : Nat) : Int) = 1 + d by omega] at this
          rw [this]
          omega
        refine q r (es.take (1 + d.toNat)) _ ((e3.trans e4).free nr nrp) nrp ?_ ?_ ?_ (fun e he => ok e (List.mem_of_mem_take he)) ((e3.trans e4).new nr) (w4.new nr)
        · rw [upd_same]
          unfold cutV
          rw [hx, HT.sIx_none, List.drop_zero, List.map_take]
          rfl
        · rw [List.length_take, hes]; omega
        · rw [List.length_take, hes]; omega
theorem def_ends (T : Bi mg) (D_draw : Def P w K mg base CX0 1 "_law_draw" ["_law_well_here", "_law_below"] spDraw)
    (D_one : Def P w K mg base CX0 2 "_law_one" ["_law_well_here", "_law_things"] spOne) (a : At K mg "_law_ends" sEnds) : Def P w K mg base CX0 3 "_law_ends" pEnds spEnds :=
  a.def (fun _ _ _ _ _ _ us hl => match us, hl with | [_, _], _ => rfl) fun f fd F => ok_ends T D_draw D_one F
end
end K1


set_option Elab.async false
set_option linter.all false
set_option maxRecDepth 100000
set_option maxHeartbeats 4000000
namespace K1
open PySem PySem.Spec PyProof.Rows L2 TL
abbrev sText : Stmt := st__law_text
abbrev nText : List Str := ["_law_ends_so", "_law_end"]
abbrev pText : List Str := ["_law_ends_so"]
theorem scText : FnScope nText pText (defScope sText) := ⟨rfl, rfl, rfl, by decide +kernel, rfl, by decide +kernel, by decide +kernel⟩
/-- the text of an end, of an item -/
def txE : En → Str
  | none => "*"
  | some n => Str.ofString (toString n)
def txI (es : List En) : Str := Txt.join ":" (es.map txE)
theorem txE_tl {n : Int} (h : 0 ≤ n) : tl (txE (some n)) = numL n.toNat := by
  have e : n = ((n.toNat : Nat) : Int) := by omega
  show tl (Str.ofString (toString n)) = _
  rw [e]
  exact tl_num _
theorem txE_len {e : En} (h : OkE e) : (txE e).length ≤ 30 := by
  cases e with
  | none => exact (by decide +kernel : (txE none).length ≤ 30)
  | some n =>
    have hn := h n rfl
    rw [len_tl, txE_tl (by omega)]
    refine numL_len (by decide) ?_
    have : n < 1000000000000000000000000000000 := by have := hn.2; unfold G at this; omega
    have e2 : (10 : Nat) ^ 30 = 1000000000000000000000000000000 := by decide
    omega
theorem sum_len {l : List Str} {k : Nat} (h : ∀ x ∈ l, x.length ≤ k) : (l.map (·.length)).sum ≤ l.length * k := by
  induction l with
  | nil => simp
  | cons x r ih =>
    have h1 := h x (List.mem_cons_self ..)
    have h2 := ih fun y hy => h y (List.mem_cons_of_mem _ hy)
    simp only [List.map_cons, List.sum_cons, List.length_cons, Nat.succ_mul]
    omega
theorem log2_ok {n : Int} (h : 1 ≤ n ∧ n ≤ G) : n.natAbs.log2 < 1920 := by
  refine (Nat.log2_lt (by omega)).mpr ?_
  have h2 := h.2
  unfold G at h2
  have e : (2 : Nat) ^ 1920 ≥ 2 ^ 100 := Nat.pow_le_pow_right (by decide) (by decide)
  have e2 : (2 : Nat) ^ 100 = 1267650600228229401496703205376 := by decide
  omega
def spText : Sp := fun vs H Q _ => ∃ (a : Addr) (es : List En), vs = [.ref a] ∧ H a = some (.lst (es.map eV)) ∧ es.length ≤ 2 ∧ (∀ e ∈ es, OkE e) ∧ ∀ H', Same H H' → Q (.str (txI es)) H'
section
variable {P : Program} {w : World} {K : PySem.W.Frag} {mg : Str → Option Value} {base : Heap}
theorem ok_text {f : Addr} {fd : FuncData} (T : Bi mg) (F : Fun K "_law_text" "_law_text" sText f fd) : FnOk P w K mg base CX0 1 f fd pText spText := by
  have nd := scText.nd
  refine F.ok scText (fun vs H Q E h => ?_) (fun cdv A outer s H vs Q E hr h => ?_)
  · obtain ⟨a, es, rfl, _⟩ := h
    rfl
  · obtain ⟨a, es, rfl, ha, hl, ok, q⟩ := h
    refine ⟨_, (pss_one (ps_ret (pe_joinK (K := K) rfl pe_str (pe_lc (own := [("_law_end", 1)]) (g := gName 1) (tt := tYes) rfl nd (pi_listK (K := K) rfl (pv 0)) (blkOk_by (own := [("_law_end", 1)]) (N := nText) (sc := defScope sText) (by decide +kernel)) (fun _ _ _ _ _ => pg_name (i := 1) nd rfl (Or.inl rfl)) (fun _ _ _ _ _ => pts_nil) (fun _ _ _ _ _ => (pe_ifExp (pt_cmpR op_isN (pv 1) pe_non (nomark _)) pe_str (pe_callTy call_str_int (by rfl) T.str PyProof.Rows.boot_str (pa_cons (pv 1) pa_nil))))))))
, ?_⟩
    refine ⟨⟨_, rfl⟩, _, rfl, a, rfl, ⟨_, sq ha⟩, fun D hD => ?_⟩
    refine lc_list (K := K) (a := a) (xs := es.map eV) (fun i H1 => Same H H1 ∧ H1 D = some (.lst (((es.take i).map txE).map V.str))) ⟨same_new hD, upd_same⟩ (fun i H1 _ h => sq (h.1 _ _ ha)) ?_ ?_
    · rintro i y H1 hy ⟨s1, hD1⟩
      obtain ⟨e, he, rfl⟩ : ∃ e, es[i]? = some e ∧ y = eV e := by
        rw [List.getElem?_map] at hy
        cases e : es[i]? with
        | none => rw [e] at hy; cases hy
        | some z => rw [e] at hy; exact ⟨z, rfl, (Option.some.inj hy).symm⟩
      have oe := ok e (List.mem_of_getElem? he)
      have hi := lt_of_get he
      have fin : ∃ acc, H1 D = some (.lst acc) ∧ acc.length < sizeLine ∧ (Same H (upd H1 D (.lst (acc ++ [V.str (txE e)]))) ∧ (upd H1 D (.lst (acc ++ [V.str (txE e)]))) D = some (.lst (((es.take (i + 1)).map txE).map V.str))) := by
        refine ⟨_, hD1, lt2 _ (by rw [List.length_map, List.length_map, List.length_take]; omega), s1.mut hD, ?_⟩
        rw [upd_same, take_more he, List.map_append, List.map_append]; rfl
      refine ⟨rfl, tyes ⟨_, rfl, rfl, _, rfl, ?_⟩⟩
      cases e with
      | none => exact itbT (by decide) fin
      | some n => exact itbF (decide_eq_false fun h => nomatch h) ⟨_, rfl, n, rfl, log2_ok (oe n rfl), fin⟩
    · rintro H1 ⟨s1, hD1⟩
      rw [List.length_map, List.take_length] at hD1
      refine ⟨_, D, es.map txE, rfl, rfl, .inl (sq hD1), ?_, q H1 s1⟩
      have h1 := sum_len (l := es.map txE) (k := 30) fun x hx => by
        rw [List.mem_map] at hx
        obtain ⟨e, he, rfl⟩ := hx
        exact txE_len (ok e he)
      rw [List.length_map] at h1 ⊢
      have h2 : ((":" : Str)).length = 1 := by decide +kernel
      rw [h2]
      omega
theorem def_text (T : Bi mg) (a : At K mg "_law_text" sText) : Def P w K mg base CX0 1 "_law_text" pText spText :=
  a.def (fun _ _ _ _ _ _ us hl => match us, hl with | [_], _ => rfl) fun f fd F => ok_text T F
end
end K1


set_option Elab.async false
set_option linter.all false
set_option maxRecDepth 100000
set_option maxHeartbeats 4000000
namespace K1
open PySem PySem.Spec PyProof.Rows L2
abbrev sDue : Stmt := st__law_due
abbrev nDue : List Str := ["_law_items_so", "_law_numbers", "_law_chosen", "_law_ends_so", "_law_row", "_law_end", "_law_number"]
abbrev pDue : List Str := ["_law_items_so", "_law_numbers"]
theorem scDue : FnScope nDue pDue (defScope sDue) := ⟨rfl, rfl, rfl, by decide +kernel, rfl, by decide +kernel, by decide +kernel⟩
/-! ### what items mean -/
def rowOf (m : Int) (es : List En) : List Int := es.map fun (e : Option Int) => e.getD m
def pIn (row : List Int) (n : Int) : Bool := row.any (fun x => decide (x ≤ n)) && row.any (fun y => decide (n ≤ y))
theorem pIn_iff {row : List Int} {n : Int} : pIn row n = true ↔ (∃ x ∈ row, x ≤ n) ∧ ∃ y ∈ row, n ≤ y := by
  unfold pIn; simp
def InAny (its : List (List En)) (ns : List Int) (n : Int) : Prop := ∃ es ∈ its, pIn (rowOf (ns.getLastD 0) es) n = true
/-- a list of items -/
def ItemsAt (N : Addr → Prop) (H : Hp) (a : Addr) (its : List (List En)) : Prop := N a ∧ ∃ ads : List Addr, H a = some (.lst (ads.map V.ref)) ∧ ads.length = its.length ∧ ∀ (i : Nat) (d : Addr) (es : List En), ads[i]? = some d → its[i]? = some es → N d ∧ H d = some (.lst (es.map eV))
theorem ItemsAt.same {N : Addr → Prop} {H H' : Hp} {a : Addr} {its : List (List En)} (h : ItemsAt N H a its) (s : Same H H') : ItemsAt N H' a its := by
  obtain ⟨n, ads, h1, h2, h3⟩ := h
  exact ⟨n, ads, s _ _ h1, h2, fun i d es e1 e2 => ⟨(h3 i d es e1 e2).1, s _ _ (h3 i d es e1 e2).2⟩⟩
theorem get_eV {es : List En} {i : Nat} {y : V} (hy : (es.map eV)[i]? = some y) : ∃ e, es[i]? = some e ∧ y = eV e := by
  rw [List.getElem?_map] at hy
  cases e : es[i]? with
  | none => rw [e] at hy; cases hy
  | some z => rw [e] at hy; exact ⟨z, rfl, (Option.some.inj hy).symm⟩
def spDue (K : PySem.W.Frag) : Sp := fun vs H Q _ => ∃ (a b : Addr) (its : List (List En)) (ns : List Int), vs = [.ref a, .ref b] ∧ ItemsAt (fun _ => True) H a its ∧ H b = some (.lst (ns.map V.int)) ∧ ns.length ≤ 200 ∧ its.length ≤ 10 ∧ (∀ es ∈ its, es ≠ [] ∧ es.length ≤ 2) ∧
  ∀ (c : Addr) (rs : List Int) (H' : Hp), H c = none → Same H H' → H' c = some (.lst (rs.map V.int)) → FiltBy ns (InAny its ns) rs → Q (.ref c) H'
section
variable {P : Program} {w : World} {K : PySem.W.Frag} {mg : Str → Option Value} {base : Heap}
theorem ok_due {f : Addr} {fd : FuncData} (T : Bi mg) (F : Fun K "_law_due" "_law_due" sDue f fd) : FnOk P w K mg base CX0 1 f fd pDue (spDue K) := by
  have nd := scDue.nd
  refine F.ok scDue (fun vs H Q E h => ?_) (fun cdv A outer s H vs Q E hr h => ?_)
  · obtain ⟨a, b, its, ns, rfl, _⟩ := h
    rfl
  · obtain ⟨a, b, its, ns, rfl, hI, hb, hns, hits, hes, q⟩ := h
    refine ⟨_, (pss_cons (ps_set (i := 2) nd rfl (Or.inr rfl) (pe_lst pa_nil))
 (C8.pss_cut (ps_for PassesOwn.never rfl (pi_listK (K := K) rfl (pe_ifExp (pt_cmpR (op_neDK (K := K) rfl hr.units) (pv 1) (pe_lst pa_nil) (nomark _)) (pv 0) (pe_lst pa_nil))) (pg_name (i := 3) nd rfl (Or.inl rfl))
  (pss_cons (ps_set (i := 4) nd rfl (Or.inr rfl) (pe_lc (own := [("_law_end", 5)]) (g := gName 5) (tt := tYes) rfl nd (pi_listK (K := K) rfl (pv 3)) (blkOk_by (own := [("_law_end", 5)]) (N := nDue) (sc := defScope sDue) (by decide +kernel)) (fun _ _ _ _ _ => pg_name (i := 5) nd rfl (Or.inl rfl)) (fun _ _ _ _ _ => pts_nil) (fun _ _ _ _ _ => (pe_ifExp (pt_cmpR op_isN (pv 5) pe_non (nomark _)) (pe_ix (ix_listK (K := K) rfl) (pv 1) (pe_un un_neg pe_int) (fun _ _ => rfl)) (pv 5)))))
 (pss_one (ps_set (i := 2) nd rfl (Or.inr rfl) (pe_op op_cat (pv 2) (pe_lc (own := [("_law_number", 6)]) (g := gName 6) rfl nd (pi_listK (K := K) rfl (pv 1)) (blkOk_by (own := [("_law_number", 6)]) (N := nDue) (sc := defScope sDue) (by decide +kernel)) (fun _ _ _ _ _ => pg_name (i := 6) nd rfl (Or.inl rfl)) (fun _ _ _ _ _ => pts_one (PW.pt (pw_or (pt_cmpR (op_in_seqK (K := K) rfl) (pv 6) (pv 4) (by rfl)) (pw_or1 (pt_chain op_lt op_lt (pe_callB (cr_minK (K := K) rfl rfl) (by rfl) T.min PyProof.Rows.boot_min (pa_cons (pv 4) pa_nil)) (pv 6) (pe_callB (cr_maxK (K := K) rfl rfl) (by rfl) T.max PyProof.Rows.boot_max (pa_cons (pv 4) pa_nil))))))) (fun _ _ _ _ _ => (pv 6))))))))
 (pss_one (ps_ret (pe_lc (own := [("_law_number", 6)]) (g := gName 6) rfl nd (pi_listK (K := K) rfl (pv 1)) (blkOk_by (own := [("_law_number", 6)]) (N := nDue) (sc := defScope sDue) (by decide +kernel)) (fun _ _ _ _ _ => pg_name (i := 6) nd rfl (Or.inl rfl)) (fun _ _ _ _ _ => pts_one (pt_cmpR (op_in_seqK (K := K) rfl) (pv 6) (pv 2) (by rfl))) (fun _ _ _ _ _ => (pv 6)))))))
, ?_⟩
    refine ⟨Nat.zero_le _, fun l nl => ?_⟩
    have s1 : Same H (upd H l (.lst [])) := same_new nl
    have nlb : l ≠ b := (ne_of_none hb nl).symm
    have hb1 := s1 _ _ hb
    refine ⟨fun σ H1 => ∃ (l : Addr) (cs : List Int) (v3 v4 v5 v6 : Option V), σ = [some (.ref a), some (.ref b), some (.ref l), v3, v4, v5, v6] ∧ Same H H1 ∧ H1 l = some (.lst (cs.map V.int)) ∧ (∀ n ∈ ns, (n ∈ cs ↔ InAny its ns n)), ?_, ?_⟩
    · refine ⟨_, rfl, Nat.zero_le _, fun m nm => ?_⟩
      have s2 : Same H (upd (upd H l (.lst [])) m (.lst [])) := s1.new nm
      have l2 : (upd (upd H l (.lst [])) m (.lst [])) l = some (.lst (([] : List Int).map V.int)) := same_new nm _ _ upd_same
      have nml : m ≠ l := (ne_of_none (show (upd H l (.lst [])) l = some (.lst []) from upd_same) nm).symm
      refine ⟨.list (ns.map PyData.int), .list (([] : List Int).map PyData.int), dp_list (sq (s2 _ _ hb)), .lst (sq upd_same) .nil, shaped_ints ns, shaped_ints [], _, rfl, ?_⟩
      rw [eqv_ints]
      by_cases c : ns = []
      · subst c
        refine itbF (by simp) ⟨Nat.zero_le _, fun r nr => ?_⟩
        refine ⟨r, rfl, ⟨_, sq upd_same⟩, for_list (K := K) (a := r) (xs := []) (fun i σ H1 => ∃ (v3 : Option V), σ = [some (.ref a), some (.ref b), some (.ref l), v3, none, none, none] ∧ Same H H1 ∧ H1 l = some (.lst (([] : List Int).map V.int)) ∧ H1 r = some (.lst [])) ?_ ?_ ?_ ?_⟩
        · exact ⟨none, rfl, s2.new nr, same_new nr _ _ l2, upd_same⟩
        · rintro i σ H1 _ ⟨v3, rfl, _, _, h⟩
          exact sq h
        · intro i y σ H1 hy
          simp at hy
        · rintro σ H1 ⟨v3, rfl, s3, l3, _⟩
          exact ⟨l, [], v3, none, none, none, rfl, s3, l3, fun n hn => by simp at hn⟩
      · obtain ⟨_, ads, ha, hal, had⟩ := hI
        obtain ⟨mx, hmx⟩ : ∃ mx, ns.getLastD 0 = mx := ⟨_, rfl⟩
        have hsp : ns = ns.dropLast ++ [mx] := by
          have h1 := (List.dropLast_concat_getLast c).symm
          have h2 : ns.getLastD 0 = ns.getLast c := by
            cases ns with
            | nil => exact absurd rfl c
            | cons x r => simp [List.getLastD, List.getLast]
          rw [h2] at hmx
          rw [← hmx]
          exact h1
        have hat : atI (ns.map V.int) (-1) = some (.int mx) := by
          rw [hsp, List.map_append]
          exact atI_last _ _
        refine itbT (by simp [c]) ⟨_, rfl, a, rfl, ⟨_, sq (s2 _ _ ha)⟩, for_list (K := K) (a := a) (xs := ads.map V.ref) (fun i σ H1 => ∃ (l : Addr) (v3 v4 : Option V), σ = [some (.ref a), some (.ref b), some (.ref l), v3, v4, none, none] ∧ Same H H1 ∧
            H1 l = some (.lst (((its.take i).flatMap fun es => ns.filter (pIn (rowOf mx es))).map V.int)) ∧ ((its.take i).flatMap fun es => ns.filter (pIn (rowOf mx es))).length ≤ 200 * i) ?_ ?_ ?_ ?_⟩
        · exact ⟨l, none, none, rfl, s2, l2, Nat.zero_le _⟩
        · rintro i σ H1 _ ⟨l, v3, v4, rfl, s3, _⟩
          exact sq (s3 _ _ ha)
        · rintro i y σ H1 hy ⟨l, v3, v4, rfl, s3, l3, len⟩
          obtain ⟨d, hd, rfl⟩ : ∃ d, ads[i]? = some d ∧ y = .ref d := by
            rw [List.getElem?_map] at hy
            cases e : ads[i]? with
            | none => rw [e] at hy; cases hy
            | some z => rw [e] at hy; exact ⟨z, rfl, (Option.some.inj hy).symm⟩
          have hi : i < its.length := by rw [← hal]; exact lt_of_get hd
          obtain ⟨es, he⟩ : ∃ es, its[i]? = some es := ⟨_, List.getElem?_eq_getElem hi⟩
          have hde := (had i d es hd he).2
          obtain ⟨en, el⟩ := hes es (List.mem_of_getElem? he)
          -- row
          refine ⟨_, rfl, d, rfl, ⟨_, sq (s3 _ _ hde)⟩, fun D hD => ?_⟩
          have nDl : D ≠ l := (ne_of_none l3 hD).symm
          have hDn : H D = none := s3.free hD
          refine lc_list (K := K) (a := d) (xs := es.map eV) (fun j H2 => Same H H2 ∧ H2 l = some (.lst (((its.take i).flatMap fun es => ns.filter (pIn (rowOf mx es))).map V.int)) ∧ H2 D = some (.lst ((rowOf mx (es.take j)).map V.int)))
            ⟨s3.new hD, same_new hD _ _ l3, upd_same⟩ (fun j H2 _ h => sq (h.1 _ _ hde)) ?_ ?_
          · rintro j z H2 hz ⟨s4, l4, hD4⟩
            obtain ⟨e, hej, rfl⟩ := get_eV hz
            have fin : ∃ acc, H2 D = some (.lst acc) ∧ acc.length < sizeLine ∧ (Same H (upd H2 D (.lst (acc ++ [V.int ((e : Option Int).getD mx)]))) ∧ (upd H2 D (.lst (acc ++ [V.int ((e : Option Int).getD mx)]))) l = some (.lst (((its.take i).flatMap fun es => ns.filter (pIn (rowOf mx es))).map V.int)) ∧
                (upd H2 D (.lst (acc ++ [V.int ((e : Option Int).getD mx)]))) D = some (.lst ((rowOf mx (es.take (j + 1))).map V.int))) := by
              refine ⟨_, hD4, lt2 _ ?_, s4.mut hDn, by rw [upd_ne nDl.symm]; exact l4, ?_⟩
              · unfold rowOf
                rw [List.length_map, List.length_map, List.length_take]; omega
              · rw [upd_same, take_more hej]
                unfold rowOf
                rw [List.map_append, List.map_append]; rfl
            refine ⟨rfl, tyes ⟨_, rfl, rfl, _, rfl, ?_⟩⟩
            cases e with
            | none => exact itbT (by decide) ⟨_, rfl, 1, rfl, b, _, -1, .int mx, rfl, rfl, sq (s4 _ _ hb), hat, fin⟩
            | some n => exact itbF (decide_eq_false fun h => nomatch h) ⟨_, rfl, fin⟩
          · rintro H2 ⟨s4, l4, hD4⟩
            rw [List.length_map, List.take_length] at hD4
            -- chosen = chosen + [..]
            refine ⟨_, rfl, _, rfl, b, rfl, ⟨_, sq (s4 _ _ hb)⟩, fun D2 hD2 => ?_⟩
            have n2l : D2 ≠ l := (ne_of_none l4 hD2).symm
            have n2D : D2 ≠ D := (ne_of_none hD4 hD2).symm
            have h2n : H D2 = none := s4.free hD2
            refine lc_list (K := K) (a := b) (xs := ns.map V.int) (fun j H3 => Same H H3 ∧ H3 l = some (.lst (((its.take i).flatMap fun es => ns.filter (pIn (rowOf mx es))).map V.int)) ∧ H3 D = some (.lst ((rowOf mx es).map V.int)) ∧
                H3 D2 = some (.lst (((ns.take j).filter (pIn (rowOf mx es))).map V.int)))
              ⟨s4.new hD2, same_new hD2 _ _ l4, same_new hD2 _ _ hD4, upd_same⟩ (fun j H3 _ h => sq (h.1 _ _ hb)) ?_ ?_
            · rintro j z H3 hz ⟨s5, l5, hD5, hD25⟩
              obtain ⟨n, hn, rfl⟩ := getD_map hz
              have finT : pIn (rowOf mx es) n = true → ∃ acc, H3 D2 = some (.lst acc) ∧ acc.length < sizeLine ∧ (Same H (upd H3 D2 (.lst (acc ++ [V.int n]))) ∧ (upd H3 D2 (.lst (acc ++ [V.int n]))) l = some (.lst (((its.take i).flatMap fun es => ns.filter (pIn (rowOf mx es))).map V.int)) ∧
                  (upd H3 D2 (.lst (acc ++ [V.int n]))) D = some (.lst ((rowOf mx es).map V.int)) ∧ (upd H3 D2 (.lst (acc ++ [V.int n]))) D2 = some (.lst (((ns.take (j + 1)).filter (pIn (rowOf mx es))).map V.int))) := fun hp => by
                refine ⟨_, hD25, lt2 _ ?_, s5.mut h2n, by rw [upd_ne n2l.symm]; exact l5, by rw [upd_ne n2D.symm]; exact hD5, ?_⟩
                · rw [List.length_map]
                  exact Nat.le_trans (List.length_filter_le _ _) (by rw [List.length_take]; omega)
                · rw [upd_same, take_more hn, List.filter_append, List.map_append]
                  simp [hp]
              have finF : pIn (rowOf mx es) n = false → Same H H3 ∧ H3 l = some (.lst (((its.take i).flatMap fun es => ns.filter (pIn (rowOf mx es))).map V.int)) ∧
                  H3 D = some (.lst ((rowOf mx es).map V.int)) ∧ H3 D2 = some (.lst (((ns.take (j + 1)).filter (pIn (rowOf mx es))).map V.int)) := fun hp => by
                refine ⟨s5, l5, hD5, ?_⟩
                rw [take_more hn, List.filter_append, hD25]
                simp [hp]
              have rl : 0 < (rowOf mx es).length := by
                unfold rowOf
                rw [List.length_map]
                exact List.length_pos_iff.mpr en
              refine ⟨rfl, _, rfl, _, rfl, D, _, rfl, .inl (sq hD5), rfl, flat_ints _, _, rfl, ?_⟩
              show (if inV (.int n) ((rowOf mx es).map V.int) = true then _ else _)
              rw [inV_ints]
              by_cases cin : n ∈ rowOf mx es
              · refine itbT (decide_eq_true cin) ?_
                exact itbT rfl ⟨_, rfl, finT (pIn_iff.mpr ⟨⟨n, cin, Int.le_refl _⟩, n, cin, Int.le_refl _⟩)⟩
              · refine itbF (decide_eq_false cin) ?_
                refine ⟨_, rfl, D, rowOf mx es, rfl, sq hD5, rl, fun mn hmn mna => ?_⟩
                refine ⟨_, rfl, _, _, rfl, rfl, _, rfl, ?_⟩
                by_cases c1 : mn < n
                · refine itbT (decide_eq_true c1) ?_
                  refine ⟨_, rfl, D, rowOf mx es, rfl, sq hD5, rl, fun mm hmm mma => ?_⟩
                  refine ⟨_, _, rfl, rfl, _, rfl, ?_⟩
                  by_cases c2 : n < mm
                  · exact itbT (decide_eq_true c2) ⟨_, rfl, finT (pIn_iff.mpr ⟨⟨mn, hmn, by omega⟩, mm, hmm, by omega⟩)⟩
                  · refine itbF (decide_eq_false c2) (finF ?_)
                    refine Bool.eq_false_iff.mpr fun h => ?_
                    obtain ⟨_, y, hy1, hy2⟩ := pIn_iff.mp h
                    have := mma y hy1
                    exact cin (by rw [show n = y by omega]; exact hy1)
                · refine itbF (decide_eq_false c1) ⟨_, rfl, itbF rfl (finF ?_)⟩
                  refine Bool.eq_false_iff.mpr fun h => ?_
                  obtain ⟨⟨y, hy1, hy2⟩, _⟩ := pIn_iff.mp h
                  have := mna y hy1
                  exact cin (by rw [show n = y by omega]; exact hy1)
            · rintro H3 ⟨s5, l5, hD5, hD25⟩
              rw [List.length_map, List.take_length] at hD25
              have fl : (ns.filter (pIn (rowOf mx es))).length ≤ 200 := Nat.le_trans (List.length_filter_le _ _) hns
              refine ⟨l, D2, _, _, rfl, rfl, l5, hD25, lt1 _ (by rw [List.length_map, List.length_map]; omega), fun r nr => ?_⟩
              refine ⟨r, _, _, rfl, s5.new nr, ?_, ?_⟩
              · rw [upd_same, take_more he, List.flatMap_append, List.map_append]
                simp
              · rw [take_more he, List.flatMap_append, List.length_append]
                simp only [List.flatMap_cons, List.flatMap_nil, List.append_nil]
                omega
        · rintro σ H1 ⟨l, v3, v4, rfl, s3, l3, len⟩
          rw [List.length_map, hal, List.take_length] at l3
          refine ⟨l, _, _, _, _, _, rfl, s3, l3, fun n hn => ?_⟩
          unfold InAny
          rw [hmx, List.mem_flatMap]
          constructor
          · rintro ⟨es, he, h⟩
            exact ⟨es, he, (List.mem_filter.mp h).2⟩
          · rintro ⟨es, he, h⟩
            exact ⟨es, he, List.mem_filter.mpr ⟨hn, h⟩⟩
    · rintro σ H1 ⟨l, cs, v3, v4, v5, v6, rfl, s3, l3, hcs⟩
      refine ⟨_, rfl, b, rfl, ⟨_, sq (s3 _ _ hb)⟩, fun D hD => ?_⟩
      have nDl : D ≠ l := (ne_of_none l3 hD).symm
      have hDn : H D = none := s3.free hD
      refine lc_list (K := K) (a := b) (xs := ns.map V.int) (fun j H2 => Same H H2 ∧ H2 l = some (.lst (cs.map V.int)) ∧ H2 D = some (.lst (((ns.take j).filter fun n => decide (n ∈ cs)).map V.int)))
        ⟨s3.new hD, same_new hD _ _ l3, upd_same⟩ (fun j H2 _ h => sq (h.1 _ _ hb)) ?_ ?_
      · rintro j z H2 hz ⟨s4, l4, hD4⟩
        obtain ⟨n, hn, rfl⟩ := getD_map hz
        refine ⟨rfl, _, rfl, _, rfl, l, _, rfl, .inl (sq l4), rfl, flat_ints _, _, rfl, ?_⟩
        show (if inV (.int n) (cs.map V.int) = true then _ else _)
        rw [inV_ints]
        by_cases cin : n ∈ cs
        · refine itbT (decide_eq_true cin) ⟨_, rfl, _, hD4, lt2 _ ?_, s4.mut hDn, by rw [upd_ne nDl.symm]; exact l4, ?_⟩
          · rw [List.length_map]
            exact Nat.le_trans (List.length_filter_le _ _) (by rw [List.length_take]; omega)
          · rw [upd_same, take_more hn, List.filter_append, List.map_append]
            simp [cin]
        · refine itbF (decide_eq_false cin) ⟨s4, l4, ?_⟩
          rw [take_more hn, List.filter_append, hD4]
          simp [cin]
      · rintro H2 ⟨s4, l4, hD4⟩
        rw [List.length_map, List.take_length] at hD4
        exact q D _ H2 hDn s4 hD4 ⟨fun n => decide (n ∈ cs), fun n hn => by rw [decide_eq_true_iff]; exact hcs n hn, rfl⟩
theorem def_due (T : Bi mg) (a : At K mg "_law_due" sDue) : Def P w K mg base CX0 1 "_law_due" pDue (spDue K) :=
  a.def (fun _ _ _ _ _ _ us hl => match us, hl with | [_, _], _ => rfl) fun f fd F => ok_due T F
end
end K1


set_option Elab.async false
set_option linter.all false
set_option maxRecDepth 100000
set_option maxHeartbeats 4000000
namespace K1
open PySem PySem.Spec PyProof.Rows L2
section
variable {X : Cx} {K : PySem.W.Frag}
theorem cr_sortedIK (h : X.K = K) : CallR X (.builtin "sorted") (rSortedI K) := by subst h; exact cr_sortedI
theorem cr_sortedPOK (h : X.K = K) : CallR X (.builtin "sorted") (rSortedPO K) := by subst h; exact cr_sortedPO
theorem pe_const {x : Str} {pos : Pos} {n : Int} (hm : ∃ t, X.mg x = some (.int n t)) (hg : Gl X x) (hd : (x == ("__debug__" : Str)) = false := by decide) : PE X (.Name x pos) (tC (.int n)) := by
  obtain ⟨t, e⟩ := hm
  exact pe_glob hg e ⟨_, rfl⟩ hd
end
structure Cs (mg : Str → Option Value) : Prop where
  MOST_FIGURES : ∃ t, mg "MOST_FIGURES" = some (.int 30 t)
  GREATEST : ∃ t, mg "GREATEST" = some (.int G t)
  MOST_THERE : ∃ t, mg "MOST_THERE" = some (.int 200 t)
  STAR : ∃ t, mg "STAR" = some (.int 0 t)
abbrev sSpan : Stmt := st__span
abbrev nSpan : List Str := ["item", "greatest", "ends", "end"]
abbrev pSpan : List Str := ["item", "greatest"]
theorem scSpan : FnScope nSpan pSpan (defScope sSpan) := ⟨rfl, rfl, rfl, by decide +kernel, rfl, by decide +kernel, by decide +kernel⟩
def stV (g x : Int) : Int := if x = 0 then g else x
def spSpan : Sp := fun vs H Q _ => ∃ (t : Addr) (x y g : Int), vs = [.ref t, .int g] ∧ H t = some (.tup [.int x, .int y]) ∧
  ∀ (r : Addr) (u v : Int) (H' : Hp), H r = none → Same H H' → H' r = some (.tup [.int u, .int v]) → u ≤ v → (∀ n, (u ≤ n ∧ n ≤ v) ↔ pIn [stV g x, stV g y] n = true) → Q (.ref r) H'
theorem two_perm {l : List Int} {x y : Int} (h : l.Perm [x, y]) (hs : l.Pairwise (· ≤ ·)) : ∃ u v, l = [u, v] ∧ u ≤ v ∧ ∀ n, (u ≤ n ∧ n ≤ v) ↔ pIn [x, y] n = true := by
  have hl := h.length_eq
  match l, hl with
  | [u, v], _ =>
    have huv : u ≤ v := by
      have := List.pairwise_cons.mp hs
      exact this.1 v (by simp)
    refine ⟨u, v, rfl, huv, fun n => ?_⟩
    have hu := h.mem_iff (a := u)
    have hv := h.mem_iff (a := v)
    have hx := h.mem_iff (a := x)
    have hy := h.mem_iff (a := y)
    simp only [List.mem_cons, List.not_mem_nil, or_false, true_or, or_true, true_iff, iff_true] at hu hv hx hy
    rw [pIn_iff]
    simp only [List.mem_cons, List.not_mem_nil, or_false, exists_eq_or_imp, exists_eq_left]
    omega
section
variable {P : Program} {w : World} {K : PySem.W.Frag} {mg : Str → Option Value} {base : Heap}
theorem ok_span {f : Addr} {fd : FuncData} (T : Bi mg) (C : Cs mg) (F : Fun K "_span" "_span" sSpan f fd) : FnOk P w K mg base CX0 1 f fd pSpan spSpan := by
  have nd := scSpan.nd
  refine F.ok scSpan (fun vs H Q E h => ?_) (fun cdv A outer s H vs Q E hr h => ?_)
  · obtain ⟨t, x, y, g, rfl, _⟩ := h
    rfl
  · obtain ⟨t, x, y, g, rfl, ht, q⟩ := h
    refine ⟨_, (pss_cons (ps_set (i := 2) nd rfl (Or.inl rfl) (pe_callB (cr_sortedIK (K := K) rfl) (by rfl) T.sorted PyProof.Rows.boot_sorted (pa_cons (pe_lc (own := [("end", 3)]) (g := gName 3) (tt := tYes) rfl nd (pi_tupK (K := K) rfl (pv 0)) (blkOk_by (own := [("end", 3)]) (N := nSpan) (sc := defScope sSpan) (by decide +kernel)) (fun _ _ _ _ _ => pg_name (i := 3) nd rfl (Or.inl rfl)) (fun _ _ _ _ _ => pts_nil) (fun _ _ _ _ _ => (pe_ifExp (pt_cmpR op_eq (pv 3) (pe_const C.STAR rfl) (nomark _)) (pv 1) (pv 3)))) pa_nil)))
 (pss_one (ps_ret (pe_tup (pa_cons (pe_ix (ix_listK (K := K) rfl) (pv 2) pe_int (fun _ _ => rfl)) (pa_cons (pe_ix (ix_listK (K := K) rfl) (pv 2) pe_int (fun _ _ => rfl)) pa_nil)))))), ?_⟩
    refine ⟨_, rfl, t, rfl, ⟨_, st ht⟩, fun D hD => ?_⟩
    refine lc_tup (K := K) (a := t) (xs := [.int x, .int y]) (fun i H1 => Same H H1 ∧ H1 D = some (.lst ((([x, y].take i).map (stV g)).map V.int))) ⟨same_new hD, upd_same⟩ (fun i H1 _ h => st (h.1 _ _ ht)) ?_ ?_
    · rintro i z H1 hz ⟨s1, hD1⟩
      obtain ⟨n, hn, rfl⟩ := getD_map (ns := [x, y]) hz
      have hi : i < 2 := lt_of_get hn
      have fin : ∃ acc, H1 D = some (.lst acc) ∧ acc.length < sizeLine ∧ (Same H (upd H1 D (.lst (acc ++ [V.int (stV g n)]))) ∧ (upd H1 D (.lst (acc ++ [V.int (stV g n)]))) D = some (.lst ((([x, y].take (i + 1)).map (stV g)).map V.int))) := by
        refine ⟨_, hD1, lt2 _ (by rw [List.length_map, List.length_map, List.length_take]; omega), s1.mut hD, ?_⟩
        rw [upd_same, take_more hn, List.map_append, List.map_append]; rfl
      refine ⟨rfl, tyes ⟨_, rfl, rfl, _, rfl, ?_⟩⟩
      by_cases c : n = 0
      · refine itbT (by rw [c]; rfl) ⟨_, rfl, ?_⟩
        rw [show stV g n = g from if_pos c] at fin
        exact fin
      · refine itbF (decide_eq_false fun h => c (V.int.inj h)) ⟨_, rfl, ?_⟩
        rw [show stV g n = n from if_neg c] at fin
        exact fin
    · rintro H1 ⟨s1, hD1⟩
      refine ⟨D, _, rfl, sq hD1, fun ns' r hp hs hr' => ?_⟩
      obtain ⟨u, v, rfl, huv, hc⟩ := two_perm (x := stV g x) (y := stV g y) hp hs
      refine ⟨_, rfl, r, _, 0, .int u, rfl, rfl, sq upd_same, rfl, _, rfl, r, _, 1, .int v, rfl, rfl, sq upd_same, rfl, (by show 2 ≤ sizeLine; decide), fun o no => ?_⟩
      exact q o u v _ (s1.free ((same_new hr').free no)) ((s1.new hr').new no) upd_same huv hc
theorem def_span (T : Bi mg) (C : Cs mg) (a : At K mg "_span" sSpan) : Def P w K mg base CX0 1 "_span" pSpan spSpan :=
  a.def (fun _ _ _ _ _ _ us hl => match us, hl with | [_, _], _ => rfl) fun f fd F => ok_span T C F
end
end K1


set_option Elab.async false
set_option linter.all false
set_option maxRecDepth 100000
set_option maxHeartbeats 4000000
namespace K1
open PySem PySem.Spec PyProof.Rows L2
abbrev sMerged : Stmt := st__merged
abbrev nMerged : List Str := ["spans", "rows", "least", "last"]
abbrev pMerged : List Str := ["spans"]
theorem scMerged : FnScope nMerged pMerged (defScope sMerged) := ⟨rfl, rfl, rfl, by decide +kernel, rfl, by decide +kernel, by decide +kernel⟩
/-- a list of pairs -/
def SpansAt (H : Hp) (a : Addr) (sps : List (Int × Int)) : Prop := ∃ ads : List Addr, H a = some (.lst (ads.map V.ref)) ∧ ads.length = sps.length ∧ ∀ (i : Nat) (d : Addr) (s : Int × Int), ads[i]? = some d → sps[i]? = some s → H d = some (.tup [.int s.1, .int s.2])
theorem SpansAt.same {H H' : Hp} {a : Addr} {sps : List (Int × Int)} (h : SpansAt H a sps) (s : Same H H') : SpansAt H' a sps := by
  obtain ⟨ads, h1, h2, h3⟩ := h
  exact ⟨ads, s _ _ h1, h2, fun i d x e1 e2 => s _ _ (h3 i d x e1 e2)⟩
def Cov (sps : List (Int × Int)) (n : Int) : Prop := ∃ s ∈ sps, s.1 ≤ n ∧ n ≤ s.2
/-- apart, ascending -/
structure Apart (rs : List (Int × Int)) : Prop where
  asc : rs.Pairwise (fun s t => s.2 + 1 < t.1)
  ok : ∀ s ∈ rs, s.1 ≤ s.2
def spMerged : Sp := fun vs H Q _ => ∃ (a : Addr) (sps : List (Int × Int)), vs = [.ref a] ∧ SpansAt H a sps ∧ sps.length ≤ 20000 ∧ (∀ s ∈ sps, s.1 ≤ s.2) ∧
  ∀ (r : Addr) (rs : List (Int × Int)) (H' : Hp), H r = none → Same H H' → SpansAt H' r rs → rs.length ≤ sps.length → Apart rs → (∀ n, Cov rs n ↔ Cov sps n) → Q (.ref r) H'
/-- the list of a SpansAt grows by a new pair -/
theorem SpansAt.snoc {H H' : Hp} {l o : Addr} {rs : List (Int × Int)} {ads : List Addr} {s : Int × Int} (h2 : ads.length = rs.length) (h3 : ∀ (i : Nat) (d : Addr) (s : Int × Int), ads[i]? = some d → rs[i]? = some s → H d = some (.tup [.int s.1, .int s.2]))
    (hs : ∀ d u, H d = some (.tup u) → H' d = some (.tup u)) (hl : H' l = some (.lst (ads.map V.ref ++ [.ref o]))) (ho : H' o = some (.tup [.int s.1, .int s.2])) : SpansAt H' l (rs ++ [s]) := by
  refine ⟨ads ++ [o], by rw [hl, List.map_append]; rfl, by rw [List.length_append, List.length_append, h2]; rfl, fun i d x e1 e2 => ?_⟩
  by_cases hi : i < ads.length
  · rw [List.getElem?_append_left hi] at e1
    rw [List.getElem?_append_left (by rw [← h2]; exact hi)] at e2
    exact hs _ _ (h3 i d x e1 e2)
  · have hlt := lt_of_get e1
    rw [List.length_append] at hlt
    have hi' : i = ads.length := by
      have : i < ads.length + 1 := hlt
      omega
    subst hi'
    rw [List.getElem?_append_right (Nat.le_refl _), Nat.sub_self] at e1
    rw [h2, List.getElem?_append_right (Nat.le_refl _), Nat.sub_self] at e2
    cases e1
    cases e2
    exact ho
theorem last_of {α : Type} {l : List α} {n : Nat} (h : l.length = n + 1) : ∃ r z, l = r ++ [z] ∧ r.length = n := by
  have hne : l ≠ [] := fun e => by rw [e] at h; simp at h
  refine ⟨l.dropLast, l.getLast hne, (List.dropLast_concat_getLast hne).symm, ?_⟩
  rw [List.length_dropLast, h]; rfl
theorem ixN_last (n : Nat) : ixN (n + 1) (-1) = some n := by
  unfold ixN
  rw [if_neg (by decide), if_pos (by omega)]
  congr 1
  omega
theorem cov_app {a b : List (Int × Int)} {n : Int} : Cov (a ++ b) n ↔ Cov a n ∨ Cov b n := by
  unfold Cov
  constructor
  · rintro ⟨s, hs, h⟩
    rcases List.mem_append.mp hs with h1 | h1
    · exact .inl ⟨s, h1, h⟩
    · exact .inr ⟨s, h1, h⟩
  · rintro (⟨s, hs, h⟩ | ⟨s, hs, h⟩)
    · exact ⟨s, List.mem_append_left _ hs, h⟩
    · exact ⟨s, List.mem_append_right _ hs, h⟩
theorem cov_one {s : Int × Int} {n : Int} : Cov [s] n ↔ s.1 ≤ n ∧ n ≤ s.2 := by
  unfold Cov; simp
/-- one more span behind the last one -/
theorem apart_snoc {rs : List (Int × Int)} {l s : Int × Int} (h : Apart (rs ++ [l])) (hs : s.1 ≤ s.2) (hl : l.2 + 1 < s.1) : Apart (rs ++ [l] ++ [s]) := by
  refine ⟨?_, fun t ht => ?_⟩
  · rw [List.pairwise_append]
    refine ⟨h.asc, List.pairwise_singleton _ _, fun a ha b hb => ?_⟩
    rw [List.mem_singleton.mp hb]
    rcases List.mem_append.mp ha with ha | ha
    · have h1 := (List.pairwise_append.mp h.asc).2.2 a ha l (List.mem_singleton.mpr rfl)
      have h2 := h.ok l (List.mem_append_right _ (List.mem_singleton.mpr rfl))
      omega
    · rw [List.mem_singleton.mp ha]; exact hl
  · rcases List.mem_append.mp ht with ht | ht
    · exact h.ok t ht
    · rw [List.mem_singleton.mp ht]; exact hs
/-- the last span grows -/
theorem apart_grow {rs : List (Int × Int)} {l : Int × Int} {m : Int} (h : Apart (rs ++ [l])) (hm : l.2 ≤ m) : Apart (rs ++ [(l.1, m)]) := by
  have h2 := h.ok l (List.mem_append_right _ (List.mem_singleton.mpr rfl))
  refine ⟨?_, fun t ht => ?_⟩
  · have h1 := List.pairwise_append.mp h.asc
    rw [List.pairwise_append]
    refine ⟨h1.1, List.pairwise_singleton _ _, fun a ha b hb => ?_⟩
    rw [List.mem_singleton.mp hb]
    exact h1.2.2 a ha l (List.mem_singleton.mpr rfl)
  · rcases List.mem_append.mp ht with ht | ht
    · exact h.ok t (List.mem_append_left _ ht)
    · rw [List.mem_singleton.mp ht]; show l.1 ≤ m; omega
section
variable {P : Program} {w : World} {K : PySem.W.Frag} {mg : Str → Option Value} {base : Heap}
theorem ok_merged {f : Addr} {fd : FuncData} (T : Bi mg) (F : Fun K "_merged" "_merged" sMerged f fd) : FnOk P w K mg base CX0 1 f fd pMerged spMerged := by
  have nd := scMerged.nd
  refine F.ok scMerged (fun vs H Q E h => ?_) (fun cdv A outer s H vs Q E hr h => ?_)
  · obtain ⟨a, sps, rfl, _⟩ := h
    rfl
  · obtain ⟨a, sps, rfl, hS, hlen, hok, q⟩ := h
    refine ⟨_, (pss_cons (ps_set (i := 1) nd rfl (Or.inl rfl) (pe_lst pa_nil))
 (pss_cons (ps_for PassesOwn.never rfl (pi_listK (K := K) rfl (pe_callB (cr_sortedPOK (K := K) rfl) (by rfl) T.sorted PyProof.Rows.boot_sorted (pa_cons (pv 0) pa_nil))) (pg_tup rfl (pgs_cons (pg_name (i := 2) nd rfl (Or.inl rfl)) (pgs_cons (pg_name (i := 3) nd rfl (Or.inl rfl)) pgs_nil)))
  (pss_one (ps_if (PW.pt (pw_and (pt_truth (pv 1) (by intro _; rfl)) (pw_and1 (pt_cmpR op_le (pv 2) (pe_op op_add (pe_ix (ix_tupK (K := K) rfl) (pe_ix (ix_listK (K := K) rfl) (pv 1) (pe_un un_neg pe_int) (fun _ _ => rfl)) pe_int (fun _ _ => rfl)) pe_int) (nomark _)))))
  (pss_one (ps_asg (pe_tup (pa_cons (pe_ix (ix_tupK (K := K) rfl) (pe_ix (ix_listK (K := K) rfl) (pv 1) (pe_un un_neg pe_int) (fun _ _ => rfl)) pe_int (fun _ _ => rfl)) (pa_cons (pe_callB (call_max2 rfl) (by rfl) T.max PyProof.Rows.boot_max (pa_cons (pe_ix (ix_tupK (K := K) rfl) (pe_ix (ix_listK (K := K) rfl) (pv 1) (pe_un un_neg pe_int) (fun _ _ => rfl)) pe_int (fun _ _ => rfl)) (pa_cons (pv 3) pa_nil))) pa_nil))) (pg_sub (pv 1) (pe_un un_neg pe_int) set_list)))
  (pss_one (ps_expr (pe_bm PySem.F.plainAttrs_list PySem.F.slot_list_append PySem.F.type_list_append mt_append (pv 1) (pa_cons (pe_tup (pa_cons (pv 2) (pa_cons (pv 3) pa_nil))) pa_nil)))))))
 (pss_one (ps_ret (pv 1))))), ?_⟩
    refine ⟨Nat.zero_le _, fun l nl => ?_⟩
    have s1 : Same H (upd H l (.lst [])) := same_new nl
    obtain ⟨ads, ha, hal, had⟩ := hS.same s1
    -- the key
    obtain ⟨k, hk⟩ : ∃ k : V → Int × Int, ∀ (i : Nat) (d : Addr) (s : Int × Int), ads[i]? = some d → sps[i]? = some s → k (.ref d) = s := by
      refine ⟨fun v => match v with | .ref d => (match (upd H l (.lst [])) d with | some (.tup [.int x, .int y]) => (x, y) | _ => (0, 0)) | _ => (0, 0), fun i d s e1 e2 => ?_⟩
      show (match (upd H l (.lst [])) d with | some (.tup [.int x, .int y]) => (x, y) | _ => (0, 0)) = s
      rw [had i d s e1 e2]
    have hx : ∀ x ∈ ads.map V.ref, ∃ t, x = V.ref t ∧ (upd H l (.lst [])) t = some (.tup [.int (k x).1, .int (k x).2]) ∧ k x ∈ sps := by
      intro x hx
      rw [List.mem_map] at hx
      obtain ⟨d, hd, rfl⟩ := hx
      obtain ⟨i, hi⟩ := List.getElem?_of_mem hd
      have hil : i < sps.length := by rw [← hal]; exact lt_of_get hi
      have hs := List.getElem?_eq_getElem hil
      refine ⟨d, rfl, ?_, ?_⟩
      · rw [hk i d _ hi hs]; exact had i d _ hi hs
      · rw [hk i d _ hi hs]; exact List.mem_of_getElem? hs
    refine ⟨_, rfl, a, ads.map V.ref, k, rfl, sq ha, fun x h => ⟨(hx x h).choose, (hx x h).choose_spec.1, (hx x h).choose_spec.2.1⟩, fun ys r hsrt hstb nr => ?_⟩
    have hperm := hstb.perm
    have s2 := s1.new nr (o := .lst ys)
    have s12 : Same (upd H l (.lst [])) (upd (upd H l (.lst [])) r (.lst ys)) := same_new nr
    have nrl : r ≠ l := (ne_of_none (show (upd H l (.lst [])) l = some (.lst []) from upd_same) nr).symm
    have hyl : ys.length = sps.length := by rw [hperm.length_eq, List.length_map, hal]
    have hy : ∀ x ∈ ys, ∃ t, x = V.ref t ∧ (upd (upd H l (.lst [])) r (.lst ys)) t = some (.tup [.int (k x).1, .int (k x).2]) ∧ k x ∈ sps := fun x h => by
      obtain ⟨t, e1, e2, e3⟩ := hx x (hperm.mem_iff.mp h)
      exact ⟨t, e1, s12 _ _ e2, e3⟩
    have hcov : ∀ n, Cov (ys.map k) n ↔ Cov sps n := fun n => by
      constructor
      · rintro ⟨s, hs, h⟩
        rw [List.mem_map] at hs
        obtain ⟨x, hx', rfl⟩ := hs
        obtain ⟨t, _, _, e3⟩ := hy x hx'
        exact ⟨_, e3, h⟩
      · rintro ⟨s, hs, h⟩
        obtain ⟨i, hi⟩ := List.getElem?_of_mem hs
        have hil : i < ads.length := by rw [hal]; exact lt_of_get hi
        have hd := List.getElem?_eq_getElem hil
        refine ⟨s, List.mem_map.mpr ⟨.ref ads[i], ?_, hk i _ s hd hi⟩, h⟩
        exact hperm.mem_iff.mpr (List.mem_map.mpr ⟨_, List.mem_of_getElem? hd, rfl⟩)
    have hle : ∀ x ∈ ys, (k x).1 ≤ (k x).2 := fun x h => by
      obtain ⟨t, _, _, e3⟩ := hy x h
      exact hok _ e3
    refine ⟨r, rfl, ⟨_, sq upd_same⟩, for_list (K := K) (a := r) (xs := ys) (fun i σ H1 => ∃ (rs : List (Int × Int)) (v2 v3 : Option V), σ = [some (.ref a), some (.ref l), v2, v3] ∧ Same H H1 ∧ Same (upd (upd H l (.lst [])) r (.lst ys)) (upd H1 l (.lst [])) ∧ SpansAt H1 l rs ∧
        H1 r = some (.lst ys) ∧ rs.length ≤ i ∧ Apart rs ∧ (∀ n, Cov rs n ↔ Cov ((ys.take i).map k) n) ∧ (∀ s ∈ rs, ∀ y ∈ ys.drop i, s.1 ≤ (k y).1)) ?_ ?_ ?_ ?_⟩
    · refine ⟨[], none, none, rfl, s2, ?_, ⟨[], by rw [upd_ne nrl.symm]; exact upd_same, rfl, fun i d s e => by simp at e⟩, upd_same, Nat.zero_le _, ⟨List.Pairwise.nil, fun s hs => by simp at hs⟩, fun n => Iff.rfl, fun s hs => by simp at hs⟩
      intro b o e
      by_cases hb : b = l
      · subst hb
        rw [upd_ne nrl.symm, upd_same] at e
        rw [upd_same]; exact e
      · rw [upd_ne hb]; exact e
    · rintro i σ H1 _ ⟨rs, v2, v3, rfl, _, _, _, hr1, _⟩
      exact sq hr1
    · rintro i y σ H1 hyi ⟨rs, v2, v3, rfl, s3, s4, hrs, hr1, hlr, hap, hc, hfst⟩
      have hil := lt_of_get hyi
      obtain ⟨t, rfl, ht, hkm⟩ := hy y (List.mem_of_getElem? hyi)
      obtain ⟨⟨u, v⟩, hkv⟩ : ∃ s, k (.ref t) = s := ⟨_, rfl⟩
      rw [hkv] at ht hkm
      have huv : u ≤ v := hok _ hkm
      have ntl : t ≠ l := fun e => by
        have h1 := s4 _ _ ht
        rw [e, upd_same] at h1
        cases h1
      have ht1 : H1 t = some (.tup [.int u, .int v]) := by
        have h1 := s4 _ _ ht
        rw [upd_ne ntl] at h1
        exact h1
      have hdrop : ∀ z ∈ ys.drop (i + 1), u ≤ (k z).1 := fun z hz => by
        have h0 : ys.drop i = .ref t :: ys.drop (i + 1) := by
          rw [List.drop_eq_getElem_cons hil]
          congr 1
          exact Option.some.inj ((List.getElem?_eq_getElem hil).symm.trans hyi)
        have h1 := (hsrt.sublist (List.drop_sublist i ys))
        rw [h0] at h1
        have h2 := SrtO.srtd_head h1 z hz
        have h3 : ¬ SrtO.lexB (k z) (k (.ref t)) = true := by rw [show SrtO.lexB (k z) (k (.ref t)) = false from h2]; exact Bool.false_ne_true
        rw [SrtO.lexB_iff, hkv] at h3
        have h4 : ¬ (k z).1 < u := fun h => h3 (.inl h)
        omega
      have htake : (ys.take (i + 1)).map k = (ys.take i).map k ++ [(u, v)] := by
        rw [take_more hyi, List.map_append, List.map_cons, hkv]; rfl
      refine ⟨t, [.int u, .int v], rfl, st ht1, rfl, .int u, [.int v], rfl, .int v, [], rfl, rfl, ?_⟩
      obtain ⟨ad2, h2l, h2n, h2d⟩ := hrs
      -- what follows, with the new spans
      have fin : ∀ (rs' : List (Int × Int)) (H2 : Hp), Same H H2 → (∀ b o, b ≠ l → H1 b = some o → H2 b = some o) → SpansAt H2 l rs' → rs'.length ≤ i + 1 → Apart rs' → (∀ n, Cov rs' n ↔ Cov rs n ∨ (u ≤ n ∧ n ≤ v)) → (∀ s ∈ rs', s.1 ≤ u) →
          ∃ (rs : List (Int × Int)) (v2 v3 : Option V), [some (.ref a), some (.ref l), some (.int u), some (.int v)] = [some (.ref a), some (.ref l), v2, v3] ∧ Same H H2 ∧ Same (upd (upd H l (.lst [])) r (.lst ys)) (upd H2 l (.lst [])) ∧ SpansAt H2 l rs ∧
            H2 r = some (.lst ys) ∧ rs.length ≤ i + 1 ∧ Apart rs ∧ (∀ n, Cov rs n ↔ Cov ((ys.take (i + 1)).map k) n) ∧ (∀ s ∈ rs, ∀ y ∈ ys.drop (i + 1), s.1 ≤ (k y).1) := by
        intro rs' H2 e1 e2 e3 e4 e5 e6 e7
        refine ⟨rs', _, _, rfl, e1, fun b o e => ?_, e3, e2 _ _ nrl hr1, e4, e5, fun n => ?_, fun s hs z hz => Int.le_trans (e7 s hs) (hdrop z hz)⟩
        · have h1 := s4 b o e
          by_cases hb : b = l
          · subst hb
            rw [upd_same] at h1 ⊢
            exact h1
          · rw [upd_ne hb] at h1 ⊢
            exact e2 _ _ hb h1
        · rw [e6 n, htake, cov_app, hc n, cov_one]
      -- the new pair behind the others
      have grow : (rs = [] ∨ ∃ rs' z, rs = rs' ++ [z] ∧ z.2 + 1 < u) → ∀ o, H1 o = none → ∃ (rs : List (Int × Int)) (v2 v3 : Option V), [some (.ref a), some (.ref l), some (.int u), some (.int v)] = [some (.ref a), some (.ref l), v2, v3] ∧
            Same H (upd (upd H1 o (.tup [.int u, .int v])) l (.lst (ad2.map V.ref ++ [.ref o]))) ∧ Same (upd (upd H l (.lst [])) r (.lst ys)) (upd (upd (upd H1 o (.tup [.int u, .int v])) l (.lst (ad2.map V.ref ++ [.ref o]))) l (.lst [])) ∧ SpansAt (upd (upd H1 o (.tup [.int u, .int v])) l (.lst (ad2.map V.ref ++ [.ref o]))) l rs ∧
            (upd (upd H1 o (.tup [.int u, .int v])) l (.lst (ad2.map V.ref ++ [.ref o]))) r = some (.lst ys) ∧ rs.length ≤ i + 1 ∧ Apart rs ∧ (∀ n, Cov rs n ↔ Cov ((ys.take (i + 1)).map k) n) ∧ (∀ s ∈ rs, ∀ y ∈ ys.drop (i + 1), s.1 ≤ (k y).1) := by
        intro hcase o no
        have nol : o ≠ l := (ne_of_none h2l no).symm
        refine fin (rs ++ [(u, v)]) _ ((s3.new no).mut nl) (fun b x hb e => by rw [upd_ne hb]; exact same_new no _ _ e) ?_ (by rw [List.length_append]; show rs.length + 1 ≤ i + 1; omega) ?_ (fun n => by rw [cov_app, cov_one]) ?_
        · refine SpansAt.snoc h2n h2d (fun d x e => ?_) upd_same (by rw [upd_ne nol]; exact upd_same)
          have hdl : d ≠ l := fun e' => by rw [e', h2l] at e; cases e
          rw [upd_ne hdl]; exact same_new no _ _ e
        · rcases hcase with rfl | ⟨rs', z, rfl, hz⟩
          · exact ⟨List.pairwise_singleton _ _, fun s hs => by rw [List.mem_singleton.mp hs]; exact huv⟩
          · exact apart_snoc hap huv hz
        · intro s hs
          rcases List.mem_append.mp hs with hs | hs
          · have := hfst s hs (.ref t) (by
              rw [List.drop_eq_getElem_cons hil]
              have := Option.some.inj ((List.getElem?_eq_getElem hil).symm.trans hyi)
              rw [this]; exact List.mem_cons_self ..)
            rw [hkv] at this
            exact this
          · rw [List.mem_singleton.mp hs]; exact Int.le_refl _
      refine ⟨_, rfl, _, .inl ⟨_, sq h2l, rfl⟩, ?_⟩
      by_cases hrs0 : rs = []
      · have h0 : ad2 = [] := List.eq_nil_of_length_eq_zero (by rw [h2n, hrs0]; rfl)
        refine itbF (by rw [h0]; rfl) ?_
        refine itbF rfl ?_
        refine ⟨_, rfl, .inl ⟨rfl, _, sq h2l⟩, _, rfl, _, rfl, (by show 2 ≤ sizeLine; decide), fun o no => ?_⟩
        exact ⟨l, _, _, rfl, rfl, same_new no _ _ h2l, lt2 _ (by rw [List.length_map, h2n]; omega), grow (.inl hrs0) o no⟩
      · obtain ⟨rs', z, hz, hzl⟩ := last_of (l := rs) (n := rs.length - 1) (by have := List.length_pos_iff.mpr hrs0; omega)
        obtain ⟨ad', dz, hdz, hdl⟩ := last_of (l := ad2) (n := rs.length - 1) (by have := List.length_pos_iff.mpr hrs0; omega)
        have htz : H1 dz = some (.tup [.int z.1, .int z.2]) := h2d (rs.length - 1) dz z (by rw [hdz, List.getElem?_append_right (by omega), hdl, Nat.sub_self]; rfl) (by rw [hz, List.getElem?_append_right (by rw [hz] at hzl; omega)]; rw [hz] at hzl; rw [hzl, Nat.sub_self]; rfl)
        have hat : atI (ad2.map V.ref) (-1) = some (.ref dz) := by
          rw [hdz, List.map_append]
          exact atI_last _ _
        refine itbT (by rw [hdz]; simp) ?_
        refine ⟨_, rfl, _, rfl, 1, rfl, l, _, -1, .ref dz, rfl, rfl, sq h2l, hat, dz, _, 1, .int z.2, rfl, rfl, st htz, rfl, _, _, rfl, rfl, _, _, rfl, rfl, _, rfl, ?_⟩
        by_cases c : u ≤ z.2 + 1
        · refine itbT (decide_eq_true c) ?_
          refine ⟨_, rfl, 1, rfl, l, _, -1, .ref dz, rfl, rfl, sq h2l, hat, dz, _, 0, .int z.1, rfl, rfl, st htz, rfl, ?_⟩
          refine ⟨_, rfl, 1, rfl, l, _, -1, .ref dz, rfl, rfl, sq h2l, hat, dz, _, 1, .int z.2, rfl, rfl, st htz, rfl, _, rfl, _, _, rfl, (by show 2 ≤ sizeLine; decide), fun o no => ?_⟩
          have nol : o ≠ l := (ne_of_none h2l no).symm
          refine ⟨_, rfl, 1, rfl, l, _, -1, rs.length - 1, rfl, rfl, same_new no _ _ h2l, ?_, ?_⟩
          · rw [List.length_map, h2n]
            have := ixN_last (rs.length - 1)
            rw [show rs.length - 1 + 1 = rs.length by have := List.length_pos_iff.mpr hrs0; omega] at this
            exact this
          · have hset : (ad2.map V.ref).set (rs.length - 1) (.ref o) = ad'.map V.ref ++ [.ref o] := by
              rw [hdz, List.map_append, List.set_append_right _ _ (by rw [List.length_map, hdl]; exact Nat.le_refl _), List.length_map, hdl, Nat.sub_self]
              rfl
            rw [hset]
            have hap' := hap
            rw [hz] at hap'
            refine fin (rs' ++ [(z.1, if v > z.2 then v else z.2)]) _ ((s3.new no).mut nl) (fun b x hb e => by rw [upd_ne hb]; exact same_new no _ _ e) ?_ (by rw [List.length_append]; show rs'.length + 1 ≤ i + 1; omega) (apart_grow hap' (by split <;> omega)) (fun n => ?_) ?_
            · refine SpansAt.snoc (H := H1) (ads := ad') (by rw [hdl, hzl]) (fun j d x e1 e2 => h2d j d x ?_ ?_) (fun d x e => ?_) upd_same (by rw [upd_ne nol]; exact upd_same)
              · rw [hdz, List.getElem?_append_left (lt_of_get e1)]; exact e1
              · rw [hz, List.getElem?_append_left (lt_of_get e2)]; exact e2
              · have hdl : d ≠ l := fun e' => by rw [e', h2l] at e; cases e
                rw [upd_ne hdl]; exact same_new no _ _ e
            · have hzu := hfst z (by rw [hz]; exact List.mem_append_right _ (List.mem_singleton.mpr rfl)) (.ref t) (by
                rw [List.drop_eq_getElem_cons hil]
                have := Option.some.inj ((List.getElem?_eq_getElem hil).symm.trans hyi)
                rw [this]; exact List.mem_cons_self ..)
              rw [hkv] at hzu
              have hzu : z.1 ≤ u := hzu
              have hz2 := hap.ok z (by rw [hz]; exact List.mem_append_right _ (List.mem_singleton.mpr rfl))
              rw [hz, cov_app, cov_app, cov_one, cov_one, or_assoc]
              refine or_congr Iff.rfl ?_
              show z.1 ≤ n ∧ n ≤ (if v > z.2 then v else z.2) ↔ _
              split <;> omega
            · intro s hs
              rcases List.mem_append.mp hs with hs | hs
              · have := hfst s (by rw [hz]; exact List.mem_append_left _ hs) (.ref t) (by
                  rw [List.drop_eq_getElem_cons hil]
                  have := Option.some.inj ((List.getElem?_eq_getElem hil).symm.trans hyi)
                  rw [this]; exact List.mem_cons_self ..)
                rw [hkv] at this
                exact this
              · have := hfst z (by rw [hz]; exact List.mem_append_right _ (List.mem_singleton.mpr rfl)) (.ref t) (by
                  rw [List.drop_eq_getElem_cons hil]
                  have := Option.some.inj ((List.getElem?_eq_getElem hil).symm.trans hyi)
                  rw [this]; exact List.mem_cons_self ..)
                rw [hkv] at this
                rw [List.mem_singleton.mp hs]; exact this
        · refine itbF (decide_eq_false c) ?_
          refine ⟨_, rfl, .inl ⟨rfl, _, sq h2l⟩, _, rfl, _, rfl, (by show 2 ≤ sizeLine; decide), fun o no => ?_⟩
          exact ⟨l, _, _, rfl, rfl, same_new no _ _ h2l, lt2 _ (by rw [List.length_map, h2n]; omega), grow (.inr ⟨rs', z, hz, by omega⟩) o no⟩
    · rintro σ H1 ⟨rs, v2, v3, rfl, s3, s4, hrs, hr1, hlr, hap, hc, hfst⟩
      refine ⟨_, rfl, q l rs H1 nl s3 hrs (by omega) hap fun n => ?_⟩
      rw [hc n, List.take_length]
      exact hcov n
theorem def_merged (T : Bi mg) (a : At K mg "_merged" sMerged) : Def P w K mg base CX0 1 "_merged" pMerged spMerged :=
  a.def (fun _ _ _ _ _ _ us hl => match us, hl with | [_], _ => rfl) fun f fd F => ok_merged T F
end
end K1


set_option Elab.async false
set_option linter.all false
set_option maxRecDepth 100000
set_option maxHeartbeats 4000000
namespace K1
open PySem PySem.Spec PyProof.Rows L2
/-! ### a list or a tuple walked -/
def SqA (K : PySem.W.Frag) (H : Hp) (a : Addr) (xs : List V) : Prop := SqL K H a xs ∨ SqT K H a xs
def iSeq (K : PySem.W.Frag) (tl : TE) : TI := fun σ H R => tl σ H fun x H1 => ∃ a, x = .ref a ∧ (((∃ xs, SqL K H1 a xs) ∧ R (Itl K a) H1) ∨ ((∃ xs, SqT K H1 a xs) ∧ R (Itt K a) H1))
theorem pi_seq {X : Cx} {tg l : Expr} {tl : TE} (hl : PE X l tl) : PI X tg l (iSeq X.K tl) := by
  refine ⟨fun pins s σ H R I h => ?_⟩
  refine thn (hl.run pins s σ H _ I h) fun v s1 ⟨x, H1, I1, r1, q1⟩ => ?_
  obtain ⟨a, e, q⟩ := q1
  subst e
  cases r1
  rcases q with ⟨⟨xs, hq⟩, q⟩ | ⟨⟨xs, hq⟩, q⟩
  · obtain ⟨its, rv, p, hz⟩ := I1.list hq
    refine wpAny_pyIter_list p.isList ?_
    refine ⟨s1.heap.objs.size, [s1.heap.objs.size], _, _, H1, rfl, I1.kept (t' := s1.toks) fun b o e => Heap.get?_push_of_some _ e, turn_list a _, ⟨_, Heap.get?_push_size _ rfl, rfl, rfl⟩, fun b hb => ?_, q⟩
    have e : b = s1.heap.objs.size := by simpa using hb
    subst e
    exact I1.fpOk (Nat.le_refl _) (I1.hok.fresh (Nat.le_refl _))
  · obtain ⟨its, rv, p, hz⟩ := I1.tuple hq
    refine wpAny_pyIter_tuple (show s1.heap.IsTuple a its.toArray from p) ?_
    refine ⟨s1.heap.objs.size, [s1.heap.objs.size], _, _, H1, rfl, I1.kept (t' := s1.toks) fun b o e => Heap.get?_push_of_some _ e, turn_tuple a _, ⟨_, Heap.get?_push_size _ rfl, rfl, rfl⟩, fun b hb => ?_, q⟩
    have e : b = s1.heap.objs.size := by simpa using hb
    subst e
    exact I1.fpOk (Nat.le_refl _) (I1.hok.fresh (Nat.le_refl _))
theorem pi_seqK {X : Cx} {K : PySem.W.Frag} {tg l : Expr} {tl : TE} (h : X.K = K) (hl : PE X l tl) : PI X tg l (iSeq K tl) := by subst h; exact pi_seq hl
theorem _root_.L2.Same.tup {K : PySem.W.Frag} {H H' : Hp} {a : Addr} {xs : List V} (e : Same H H') (h : SqT K H a xs) : SqT K H' a xs := by
  rcases h with (h | ⟨o, h⟩) | h
  · exact .inl (.inl (e _ _ h))
  · exact .inl (.inr ⟨o, e _ _ h⟩)
  · exact .inr h
theorem SqA.same {K : PySem.W.Frag} {H H' : Hp} {a : Addr} {xs : List V} (h : SqA K H a xs) (e : Same H H') : SqA K H' a xs := h.elim (fun h => .inl (e.seq h)) fun h => .inr (e.tup h)
/-- a for over either, Pv by the turn -/
theorem for_seq {K : PySem.W.Frag} {a : Addr} {xs : List V} {g : TG} {tb : TS} {D : Ends} {σ : L2.St} {H0 H : Hp} (hq : SqA K H0 a xs) (Pv : Nat → L2.St → Hp → Prop) (h0 : Pv 0 σ H) (hm : ∀ i σ' H', Pv i σ' H' → Same H0 H')
    (hs : ∀ i x σ H, xs[i]? = some x → Pv i σ H → g x σ H fun σ2 H2 => tb { D with nx := Pv (i + 1), ct := Pv (i + 1), bk := D.nx } σ2 H2) (hd : ∀ σ H, Pv xs.length σ H → D.nx σ H) :
    (((∃ xs, SqL K H a xs) ∧ ∃ W : Nat → Nat → L2.St → Hp → Prop, (∃ m, W 0 m σ H) ∧ ∀ i m σ H, W i m σ H →
      ((Itl K a).stop i H ∧ D.nx σ H) ∨ ((Itl K a).go i H ∧ ∃ N : L2.St → Hp → Prop, (∀ σ' H', N σ' H' → ∃ m', m' < m ∧ W (i + 1) m' σ' H') ∧ ∀ x H', (Itl K a).yld i H x H' → g x σ H' fun σ2 H2 => tb { D with nx := N, ct := N, bk := D.nx } σ2 H2)) ∨
     ((∃ xs, SqT K H a xs) ∧ ∃ W : Nat → Nat → L2.St → Hp → Prop, (∃ m, W 0 m σ H) ∧ ∀ i m σ H, W i m σ H →
      ((Itt K a).stop i H ∧ D.nx σ H) ∨ ((Itt K a).go i H ∧ ∃ N : L2.St → Hp → Prop, (∀ σ' H', N σ' H' → ∃ m', m' < m ∧ W (i + 1) m' σ' H') ∧ ∀ x H', (Itt K a).yld i H x H' → g x σ H' fun σ2 H2 => tb { D with nx := N, ct := N, bk := D.nx } σ2 H2))) := by
  rcases hq with h | h
  · exact .inl ⟨⟨_, (hm _ _ _ h0).seq h⟩, for_list Pv h0 (fun i σ' H' _ p => (hm i σ' H' p).seq h) hs hd⟩
  · exact .inr ⟨⟨_, (hm _ _ _ h0).tup h⟩, for_tup Pv h0 (fun i σ' H' _ p => (hm i σ' H' p).tup h) hs hd⟩
abbrev sCovered : Stmt := st__covered
abbrev nCovered : List Str := ["numbers", "spans", "found", "at", "number"]
abbrev pCovered : List Str := ["numbers", "spans"]
theorem scCovered : FnScope nCovered pCovered (defScope sCovered) := ⟨rfl, rfl, rfl, by decide +kernel, rfl, by decide +kernel, by decide +kernel⟩
def spCovered (K : PySem.W.Frag) : Sp := fun vs H Q _ => ∃ (a b : Addr) (ns : List Int) (rs : List (Int × Int)), vs = [.ref a, .ref b] ∧ SqA K H a (ns.map V.int) ∧ SpansAt H b rs ∧ ns.length ≤ 1000 ∧ rs.length ≤ 20000 ∧ ns.Pairwise (· < ·) ∧ Apart rs ∧
  ∀ (r : Addr) (ts : List Int) (H' : Hp), H r = none → Same H H' → H' r = some (.lst (ts.map V.int)) → FiltBy ns (Cov rs) ts → Q (.ref r) H'
/-- the first span that ends at or behind n tells whether n is in one -/
theorem cov_at {rs : List (Int × Int)} (h : Apart rs) {at' : Nat} {n : Int} (h1 : ∀ i s, i < at' → rs[i]? = some s → s.2 < n) {s : Int × Int} (h2 : rs[at']? = some s) (h3 : n ≤ s.2) : Cov rs n ↔ s.1 ≤ n := by
  constructor
  · rintro ⟨t, ht, h4, h5⟩
    obtain ⟨j, hj⟩ := List.getElem?_of_mem ht
    rcases Nat.lt_trichotomy j at' with c | c | c
    · have := h1 j t c hj; omega
    · subst c; rw [h2] at hj; cases hj; exact h4
    · obtain ⟨e1, e2⟩ := List.getElem?_eq_some_iff.mp hj
      obtain ⟨e3, e4⟩ := List.getElem?_eq_some_iff.mp h2
      have := (List.pairwise_iff_getElem.mp h.asc) at' j e3 e1 c
      rw [e2, e4] at this
      omega
  · intro h4
    exact ⟨s, List.mem_of_getElem? h2, h4, h3⟩
theorem cov_none {rs : List (Int × Int)} {at' : Nat} {n : Int} (h1 : ∀ i s, i < at' → rs[i]? = some s → s.2 < n) (h2 : rs.length ≤ at') : ¬ Cov rs n := by
  rintro ⟨t, ht, h4, h5⟩
  obtain ⟨j, hj⟩ := List.getElem?_of_mem ht
  have := h1 j t (Nat.lt_of_lt_of_le (lt_of_get hj) h2) hj
  omega
section
variable {P : Program} {w : World} {K : PySem.W.Frag} {mg : Str → Option Value} {base : Heap}
theorem ok_covered {f : Addr} {fd : FuncData} (T : Bi mg) (F : Fun K "_covered" "_covered" sCovered f fd) : FnOk P w K mg base CX0 1 f fd pCovered (spCovered K) := by
  have nd := scCovered.nd
  refine F.ok scCovered (fun vs H Q E h => ?_) (fun cdv A outer s H vs Q E hr h => ?_)
  · obtain ⟨a, b, ns, rs, rfl, _⟩ := h
    rfl
  · obtain ⟨a, b, ns, rs, rfl, hA, hB, hns, hrs, hasc, hap, q⟩ := h
    refine ⟨_, (pss_cons (ps_set (i := 2) nd rfl (Or.inl rfl) (pe_lst pa_nil))
 (pss_cons (ps_set (i := 3) nd rfl (Or.inl rfl) pe_int)
 (pss_cons (ps_for PassesOwn.never rfl (pi_seqK (K := K) rfl (pv 0)) (pg_name (i := 4) nd rfl (Or.inl rfl))
  (C8.pss_cut (ps_while PassesOwn.never (PW.pt (pw_and (pt_cmpR op_lt (pv 3) (pe_callB (call_lenK (K := K) rfl) (by rfl) T.len PySem.boot_len (pa_cons (pv 1) pa_nil)) (nomark _)) (pw_and1 (pt_cmpR op_lt (pe_ix (ix_tupK (K := K) rfl) (pe_ix (ix_listK (K := K) rfl) (pv 1) (pv 3) (fun _ _ => rfl)) pe_int (fun _ _ => rfl)) (pv 4) (nomark _)))))
  (pss_one (ps_aug (i := 3) nd rfl (Or.inl rfl) pe_int ip_add)))
 (pss_one (ps_if (PW.pt (pw_and (pt_cmpR op_lt (pv 3) (pe_callB (call_lenK (K := K) rfl) (by rfl) T.len PySem.boot_len (pa_cons (pv 1) pa_nil)) (nomark _)) (pw_and1 (pt_cmpR op_le (pe_ix (ix_tupK (K := K) rfl) (pe_ix (ix_listK (K := K) rfl) (pv 1) (pv 3) (fun _ _ => rfl)) pe_int (fun _ _ => rfl)) (pv 4) (nomark _)))))
  (pss_one (ps_expr (pe_bm PySem.F.plainAttrs_list PySem.F.slot_list_append PySem.F.type_list_append mt_append (pv 2) (pa_cons (pv 4) pa_nil))))
  pss_nil))))
 (pss_one (ps_ret (pv 2)))))), ?_⟩
    refine ⟨Nat.zero_le _, fun l nl => ?_⟩
    have s1 : Same H (upd H l (.lst [])) := same_new nl
    obtain ⟨p, hp⟩ : ∃ p : Int → Bool, ∀ n, p n = true ↔ Cov rs n := ⟨fun n => rs.any fun s => decide (s.1 ≤ n) && decide (n ≤ s.2), fun n => by unfold Cov; simp⟩
    refine ⟨_, rfl, a, rfl, for_seq hA (fun i σ H1 => ∃ (k : Nat) (v4 : Option V), σ = [some (.ref a), some (.ref b), some (.ref l), some (.int (k : Int)), v4] ∧ Same H H1 ∧ Same (upd H l (.lst [])) (upd H1 l (.lst [])) ∧ H1 l = some (.lst (((ns.take i).filter p).map V.int)) ∧ k ≤ rs.length ∧
        (∀ j s, j < k → rs[j]? = some s → ∀ n ∈ ns.drop i, s.2 < n)) ?_ ?_ ?_ ?_⟩
    · exact ⟨0, none, rfl, s1, fun b o e => by
        by_cases hb : b = l
        · subst hb; rw [upd_same] at e ⊢; exact e
        · rw [upd_ne hb] at e ⊢; rw [upd_ne hb]; exact e, by rw [upd_same]; rfl, Nat.zero_le _, fun j s hj => absurd hj (Nat.not_lt_zero _)⟩
    · rintro i σ H1 ⟨k, v4, rfl, s2, s3, l2, _⟩
      exact s2
    · rintro i y σ H1 hy ⟨k, v4, rfl, s2, s3, l2, hk, hlt⟩
      obtain ⟨n, hn, rfl⟩ := getD_map hy
      have hil := lt_of_get hn
      have hdr : ns.drop i = n :: ns.drop (i + 1) := by
        rw [List.drop_eq_getElem_cons hil]
        congr 1
        exact Option.some.inj ((List.getElem?_eq_getElem hil).symm.trans hn)
      have hgt : ∀ m ∈ ns.drop (i + 1), n < m := fun m hm => by
        have h1 := hasc.sublist (List.drop_sublist i ns)
        rw [hdr] at h1
        exact (List.pairwise_cons.mp h1).1 m hm
      obtain ⟨ads, hb, hal, had⟩ := hB.same s2
      -- the while
      refine ⟨fun σ H2 => ∃ k : Nat, σ = [some (.ref a), some (.ref b), some (.ref l), some (.int (k : Int)), some (.int n)] ∧ H2 = H1 ∧ k ≤ rs.length ∧ (∀ j s, j < k → rs[j]? = some s → s.2 < n) ∧ (∀ s, rs[k]? = some s → n ≤ s.2), ?_, ?_⟩
      · refine ⟨fun m σ H2 => ∃ k : Nat, m = rs.length - k ∧ σ = [some (.ref a), some (.ref b), some (.ref l), some (.int (k : Int)), some (.int n)] ∧ H2 = H1 ∧ k ≤ rs.length ∧ (∀ j s, j < k → rs[j]? = some s → s.2 < n),
          ⟨_, k, rfl, rfl, rfl, hk, fun j s hj e => hlt j s hj e n (by rw [hdr]; exact List.mem_cons_self ..)⟩, ?_⟩
        rintro m σ H2 ⟨k, rfl, rfl, rfl, hk, hlt⟩
        refine ⟨_, rfl, _, rfl, b, _, rfl, .inl (sq hb), _, _, rfl, rfl, _, rfl, ?_⟩
        rw [List.length_map, hal]
        by_cases c : (k : Int) < (rs.length : Int)
        · refine itbT (decide_eq_true c) ?_
          have hkl : k < rs.length := by omega
          have hs := List.getElem?_eq_getElem hkl
          have hd : ads[k]? = some ads[k] := List.getElem?_eq_getElem (by rw [hal]; exact hkl)
          have ht := had k _ _ hd hs
          refine ⟨_, rfl, _, rfl, b, _, (k : Int), .ref ads[k], rfl, rfl, sq hb, atI_nat (by rw [List.getElem?_map, hd]; rfl), ads[k], _, 1, .int rs[k].2, rfl, rfl, st ht, rfl, _, rfl, _, _, rfl, rfl, _, rfl, ?_⟩
          by_cases c2 : rs[k].2 < n
          · refine itbT (decide_eq_true c2) ⟨fun σ' H' => ∃ k' : Nat, k' = k + 1 ∧ σ' = [some (.ref a), some (.ref b), some (.ref l), some (.int (k' : Int)), some (.int n)] ∧ H' = H2, ?_, ?_⟩
            · rintro σ' H' ⟨k', rfl, rfl, rfl⟩
              refine ⟨_, by omega, k + 1, rfl, rfl, rfl, hkl, fun j s hj e => ?_⟩
              by_cases hjk : j < k
              · exact hlt j s hjk e
              · have : j = k := by omega
                subst this
                rw [hs] at e; cases e; exact c2
            · exact ⟨_, rfl, _, _, rfl, rfl, k + 1, rfl, by push_cast; rfl, rfl⟩
          · refine itbF (decide_eq_false c2) ⟨k, rfl, rfl, hk, hlt, fun s e => ?_⟩
            rw [hs] at e; cases e; omega
        · refine itbF (decide_eq_false c) (itbF rfl ⟨k, rfl, rfl, hk, hlt, fun s e => ?_⟩)
          have := lt_of_get e
          omega
      · rintro σ H2 ⟨k, rfl, rfl, hk, hlt, hge⟩
        have nxt : ∀ j s, j < k → rs[j]? = some s → ∀ m ∈ ns.drop (i + 1), s.2 < m := fun j s hj e m hm => by
          have h1 := hlt j s hj e
          have h2 := hgt m hm
          omega
        refine ⟨_, rfl, _, rfl, b, _, rfl, .inl (sq hb), _, _, rfl, rfl, _, rfl, ?_⟩
        rw [List.length_map, hal]
        by_cases c : (k : Int) < (rs.length : Int)
        · refine itbT (decide_eq_true c) ?_
          have hkl : k < rs.length := by omega
          have hs := List.getElem?_eq_getElem hkl
          have hd : ads[k]? = some ads[k] := List.getElem?_eq_getElem (by rw [hal]; exact hkl)
          have ht := had k _ _ hd hs
          have hcv := cov_at hap hlt hs (hge _ hs)
          refine ⟨_, rfl, _, rfl, b, _, (k : Int), .ref ads[k], rfl, rfl, sq hb, atI_nat (by rw [List.getElem?_map, hd]; rfl), ads[k], _, 0, .int rs[k].1, rfl, rfl, st ht, rfl, _, rfl, _, _, rfl, rfl, _, rfl, ?_⟩
          by_cases c2 : rs[k].1 ≤ n
          · have hpn : p n = true := (hp n).mpr (hcv.mpr c2)
            refine itbT (decide_eq_true c2) ⟨_, rfl, .inl ⟨rfl, _, sq l2⟩, _, rfl, l, _, _, rfl, rfl, l2, lt2 _ ?_, ?_⟩
            · rw [List.length_map]
              exact Nat.le_trans (List.length_filter_le _ _) (by rw [List.length_take]; omega)
            · refine ⟨k, _, rfl, s2.mut nl, ?_, ?_, hk, nxt⟩
              · intro b o e
                have h1 := s3 b o e
                by_cases hb : b = l
                · subst hb; rw [upd_same] at h1 ⊢; exact h1
                · rw [upd_ne hb] at h1 ⊢; rw [upd_ne hb]; exact h1
              · rw [upd_same, take_more hn, List.filter_append, List.map_append]
                simp [hpn]
          · have hpn : p n = false := Bool.eq_false_iff.mpr fun h => c2 (hcv.mp ((hp n).mp h))
            refine itbF (decide_eq_false c2) ⟨k, _, rfl, s2, s3, ?_, hk, nxt⟩
            rw [take_more hn, List.filter_append, l2]
            simp [hpn]
        · have hpn : p n = false := Bool.eq_false_iff.mpr fun h => cov_none hlt (by omega) ((hp n).mp h)
          refine itbF (decide_eq_false c) (itbF rfl ⟨k, _, rfl, s2, s3, ?_, hk, nxt⟩)
          rw [take_more hn, List.filter_append, l2]
          simp [hpn]
    · rintro σ H1 ⟨k, v4, rfl, s2, s3, l2, hk, hlt⟩
      rw [List.length_map, List.take_length] at l2
      exact ⟨_, rfl, q l _ H1 nl s2 l2 ⟨p, fun n _ => hp n, rfl⟩⟩
theorem def_covered (T : Bi mg) (a : At K mg "_covered" sCovered) : Def P w K mg base CX0 1 "_covered" pCovered (spCovered K) :=
  a.def (fun _ _ _ _ _ _ us hl => match us, hl with | [_, _], _ => rfl) fun f fd F => ok_covered T F
end
end K1


set_option Elab.async false
set_option linter.all false
set_option maxRecDepth 100000
set_option maxHeartbeats 4000000
namespace K1
open PySem PySem.Spec PyProof.Rows L2 TL
abbrev sEndOf : Stmt := st__end_of
abbrev nEndOf : List Str := ["word"]
abbrev pEndOf : List Str := ["word"]
theorem scEndOf : FnScope nEndOf pEndOf (defScope sEndOf) := ⟨rfl, rfl, rfl, by decide +kernel, rfl, by decide +kernel, by decide +kernel⟩
theorem dig_ascii : ∀ c, c < 128 → Unicode.isDigit c = (decide (48 ≤ c) && decide (c ≤ 57)) := by decide +kernel
def dig (c : Nat) : Bool := decide (48 ≤ c) && decide (c ≤ 57)
/-- the end that a word tells -/
def endL (l : List Nat) : Option Int :=
  if l = [42] then some 0 else if (l.isEmpty || !l.all dig) = true then none else if (l.head? == some 48 || decide (30 < l.length)) = true then none else some (NumText.digitsVal l : Nat)
def optV : Option Int → V
  | none => .non
  | some n => .int n
theorem word_dig (w : Str) : (Txt.isascii w && Txt.isdigit w) = !((tl w).isEmpty || !(tl w).all dig) := by
  unfold Txt.isascii Txt.isdigit
  rw [len_tl]
  have h1 : w.cps.all (fun c => decide (c < 128)) = (tl w).all fun c => decide (c < 128) := by simp [tl]
  have h2 : w.cps.all Unicode.isDigit = (tl w).all Unicode.isDigit := by simp [tl]
  rw [show (w.cps.all (· < 128)) = (tl w).all fun c => decide (c < 128) from h1, h2]
  generalize tl w = l
  cases l with
  | nil => rfl
  | cons c r =>
    have key : ∀ l : List Nat, (l.all (fun c => decide (c < 128)) && l.all Unicode.isDigit) = l.all dig := by
      intro l
      induction l with
      | nil => rfl
      | cons a t ih =>
        rw [List.all_cons, List.all_cons, List.all_cons, ← ih]
        by_cases c1 : a < 128
        · rw [dig_ascii a c1]
          unfold dig
          cases decide (48 ≤ a) <;> cases decide (a ≤ 57) <;> cases List.all t (fun c => decide (c < 128)) <;> cases List.all t Unicode.isDigit <;> simp [c1]
        · have : dig a = false := by unfold dig; simp; omega
          simp [c1, this]
    have hpos : decide ((c :: r).length > 0) = true := by simp
    rw [hpos, Bool.true_and, key]
    simp
def spEndOf : Sp := fun vs H Q _ => ∃ (w : Str), vs = [.str w] ∧ w.length ≤ 10000 ∧ Q (optV (endL (tl w))) H
theorem str_eq_star (w : Str) : decide (V.str w = V.str "*") = decide (tl w = [42]) := by
  have h : tl ("*" : Str) = [42] := by decide +kernel
  rw [Bool.eq_iff_iff, decide_eq_true_iff, decide_eq_true_iff]
  constructor
  · intro e
    rw [V.str.inj e, h]
  · intro e
    rw [ext_tl (e.trans h.symm)]
section
variable {P : Program} {w : World} {K : PySem.W.Frag} {mg : Str → Option Value} {base : Heap}
theorem ok_endOf {f : Addr} {fd : FuncData} (T : Bi mg) (C : Cs mg) (F : Fun K "_end_of" "_end_of" sEndOf f fd) : FnOk P w K mg base CX0 1 f fd pEndOf spEndOf := by
  have nd := scEndOf.nd
  refine F.ok scEndOf (fun vs H Q E h => ?_) (fun cdv A outer s H vs Q E hr h => ?_)
  · obtain ⟨t, rfl, _⟩ := h
    rfl
  · obtain ⟨t, rfl, hl, q⟩ := h
    refine ⟨_, (pss_cons (ps_if (pt_cmpR op_eq (pv 0) pe_str (nomark _))
  (pss_one (ps_ret (pe_const C.STAR rfl)))
  pss_nil)
 (pss_cons (ps_if (PW.pt (pw_or (pt_not (pt_val (pe_m0 PySem.F.slot_str_isascii PySem.F.type_str_isascii mt_isascii (pv 0)))) (pw_or1 (pt_not (pt_val (pe_m0 PySem.F.slot_str_isdigit PySem.F.type_str_isdigit mt_isdigit (pv 0)))))))
  (pss_one (ps_ret pe_non))
  pss_nil)
 (pss_cons (ps_if (PW.pt (pw_or (pt_cmpR op_eq (pe_ix ix_str (pv 0) pe_int (fun _ _ => rfl)) pe_str (nomark _)) (pw_or1 (pt_cmpR op_gt (pe_callB call_len_str (by rfl) T.len PySem.boot_len (pa_cons (pv 0) pa_nil)) (pe_const C.MOST_FIGURES rfl) (nomark _)))))
  (pss_one (ps_ret pe_non))
  pss_nil)
 (pss_one (ps_ret (pe_callTy call_int_str (by rfl) T.int PyProof.Rows.boot_int (pa_cons (pv 0) pa_nil))))))), ?_⟩
    refine ⟨_, rfl, rfl, _, rfl, ?_⟩
    rw [str_eq_star]
    unfold endL at q
    by_cases c1 : tl t = [42]
    · rw [if_pos c1] at q
      exact itbT (decide_eq_true c1) q
    · rw [if_neg c1] at q
      refine itbF (decide_eq_false c1) ?_
      have hw := word_dig t
      refine ⟨_, rfl, ⟨_, rfl⟩, _, rfl, rfl, trivial, _, rfl, ?_⟩
      have bad : ((tl t).isEmpty || !(tl t).all dig) = true → Q .non H := fun h => by
        rw [if_pos h] at q; exact q
      cases ha : Txt.isascii t with
      | false =>
        refine itbT rfl (itbT rfl (bad ?_))
        rw [ha, Bool.false_and] at hw
        cases h : ((tl t).isEmpty || !(tl t).all dig) with
        | true => rfl
        | false => rw [h] at hw; cases hw
      | true =>
        refine itbF rfl ⟨_, rfl, ⟨_, rfl⟩, _, rfl, rfl, trivial, _, rfl, ?_⟩
        rw [ha, Bool.true_and] at hw
        cases hd : Txt.isdigit t with
        | false =>
          refine itbT rfl (bad ?_)
          rw [hd] at hw
          cases h : ((tl t).isEmpty || !(tl t).all dig) with
          | true => rfl
          | false => rw [h] at hw; cases hw
        | true =>
          refine itbF rfl ?_
          rw [hd] at hw
          have hg : ((tl t).isEmpty || !(tl t).all dig) = false := by
            cases h : ((tl t).isEmpty || !(tl t).all dig) with
            | true => rw [h] at hw; cases hw
            | false => rfl
          rw [if_neg (by rw [hg]; exact Bool.false_ne_true)] at q
          rw [Bool.or_eq_false_iff] at hg
          obtain ⟨hne, hall⟩ := hg
          obtain ⟨c, r, hcr⟩ : ∃ c r, tl t = c :: r := by
            cases h : tl t with
            | nil => rw [h] at hne; cases hne
            | cons c r => exact ⟨c, r, rfl⟩
          refine ⟨_, rfl, t, 0, c, rfl, rfl, lt1 _ (by omega), ?_, rfl, _, rfl, ?_⟩
          · show atI (tl t) 0 = some c
            rw [hcr]; exact atI_nat (j := 0) rfl
          have hc48 : decide (V.str ⟨#[c]⟩ = V.str "0") = ((tl t).head? == some 48) := by
            rw [hcr, Bool.eq_iff_iff, decide_eq_true_iff]
            have h0 : ("0" : Str) = ⟨#[48]⟩ := by decide +kernel
            rw [h0]
            simp
          rw [hc48]
          cases h48 : ((tl t).head? == some 48) with
          | true =>
            rw [h48, Bool.true_or, if_pos rfl] at q
            exact itbT rfl (itbT rfl q)
          | false =>
            rw [h48, Bool.false_or] at q
            refine itbF rfl ⟨_, rfl, _, rfl, lt1 _ (by omega), _, _, rfl, rfl, _, rfl, ?_⟩
            have hlen : decide ((30 : Int) < (t.length : Int)) = decide (30 < (tl t).length) := by
              rw [← len_tl, Bool.eq_iff_iff, decide_eq_true_iff, decide_eq_true_iff]
              omega
            rw [hlen]
            cases h30 : decide (30 < (tl t).length) with
            | true =>
              rw [h30, if_pos rfl] at q
              exact itbT rfl q
            | false =>
              rw [h30, if_neg Bool.false_ne_true] at q
              refine itbF rfl ⟨_, rfl, t, _, rfl, intText_digits (x := t) ?_ ?_ ?_, ?_, q⟩
              · intro d hd
                have hall' : (tl t).all dig = true := by simpa using hall
                have := List.all_eq_true.mp hall' d hd
                unfold dig at this
                simp at this
                omega
              · rw [show t.cps.toList = tl t from rfl, hcr]; simp
              · have := of_decide_eq_false h30
                rw [len_tl]; omega
              · have := of_decide_eq_false h30
                rw [len_tl]; omega
theorem def_endOf (T : Bi mg) (C : Cs mg) (a : At K mg "_end_of" sEndOf) : Def P w K mg base CX0 1 "_end_of" pEndOf spEndOf :=
  a.def (fun _ _ _ _ _ _ us hl => match us, hl with | [_], _ => rfl) fun f fd F => ok_endOf T C F
end
end K1


set_option Elab.async false
set_option linter.all false
set_option maxRecDepth 100000
set_option maxHeartbeats 4000000
namespace K1
open PySem PySem.Spec PyProof.Rows L2 TL
section
variable {X : Cx} {K : PySem.W.Frag}
theorem call_isiK1 (h : X.K = K) : CallR X (.builtin "isinstance") (rIsi K) := by subst h; exact call_isi
theorem call_isiTK (h : X.K = K) : CallR X (.builtin "isinstance") (rIsiT K) := by subst h; exact call_isiT
end
abbrev sIsInt : Stmt := st_is_integer
abbrev sIsNum : Stmt := st_is_number
abbrev nIsInt : List Str := ["value"]
abbrev pIsInt : List Str := ["value"]
theorem scIsInt : FnScope nIsInt pIsInt (defScope sIsInt) := ⟨rfl, rfl, rfl, by decide +kernel, rfl, by decide +kernel, by decide +kernel⟩
abbrev nIsNum : List Str := ["value"]
abbrev pIsNum : List Str := ["value"]
theorem scIsNum : FnScope nIsNum pIsNum (defScope sIsNum) := ⟨rfl, rfl, rfl, by decide +kernel, rfl, by decide +kernel, by decide +kernel⟩
def spIsInt (K : PySem.W.Frag) : Sp := fun vs H Q _ => ∃ (x : V) (t : String) (b1 b2 : Bool), vs = [x] ∧ TyX K H x (.type t) ∧ kitB t "int" = some b1 ∧ kitB t "bool" = some b2 ∧ Q (.bl (b1 && !b2)) H
/-- what is no int: a bool among it -/
def NoInt (K : PySem.W.Frag) (H : Hp) (x : V) : Prop := ∃ (t : String) (b1 b2 : Bool), TyX K H x (.type t) ∧ kitB t "int" = some b1 ∧ kitB t "bool" = some b2 ∧ (b1 && !b2) = false
def spIsNum (K : PySem.W.Frag) : Sp := fun vs H Q _ => ∃ (x : V), vs = [x] ∧ ((∃ n, x = .int n ∧ Q (.bl (decide (1 ≤ n))) H) ∨ (NoInt K H x ∧ Q (.bl false) H))
section
variable {P : Program} {w : World} {K : PySem.W.Frag} {mg : Str → Option Value} {base : Heap}
theorem ok_isInt {f : Addr} {fd : FuncData} (T : Bi mg) (F : Fun K "is_integer" "is_integer" sIsInt f fd) : FnOk P w K mg base CX0 1 f fd pIsInt (spIsInt K) := by
  refine F.ok scIsInt (fun vs H Q E h => ?_) (fun cdv A outer s H vs Q E hr h => ?_)
  · obtain ⟨x, t, b1, b2, rfl, _⟩ := h
    rfl
  · obtain ⟨x, t, b1, b2, rfl, ty, h1, h2, q⟩ := h
    refine ⟨_, (pss_one (ps_ret (pe_and (pe_callB (call_isiK1 (K := K) rfl) (by rfl) T.isinstance PyProof.Rows.boot_isinstance (pa_cons (pv 0) (pa_cons (pe_bltn (v := .ty "int") rfl T.int PyProof.Rows.boot_int rfl) pa_nil))) (pe_one (pe_not (pe_callB (call_isiK1 (K := K) rfl) (by rfl) T.isinstance PyProof.Rows.boot_isinstance (pa_cons (pv 0) (pa_cons (pe_bltn (v := .ty "bool") rfl T.bool PyProof.Rows.boot_bool rfl) pa_nil)))))))), ?_⟩
    refine ⟨_, rfl, x, .ty "int", .type t, .type "int", b1, rfl, .ty _, ty, kit_ty h1, _, rfl, ?_⟩
    cases b1 with
    | true => exact itbT rfl ⟨_, rfl, x, .ty "bool", .type t, .type "bool", b2, rfl, .ty _, ty, kit_ty h2, _, rfl, q⟩
    | false => exact itbF rfl q
theorem def_isInt (T : Bi mg) (a : At K mg "is_integer" sIsInt) : Def P w K mg base CX0 1 "is_integer" pIsInt (spIsInt K) :=
  a.def (fun _ _ _ _ _ _ us hl => match us, hl with | [_], _ => rfl) fun f fd F => ok_isInt T F
theorem ok_isNum {f : Addr} {fd : FuncData} (T : Bi mg) (D_is_integer : Def P w K mg base CX0 1 "is_integer" pIsInt (spIsInt K)) (F : Fun K "is_number" "is_number" sIsNum f fd) : FnOk P w K mg base CX0 2 f fd pIsNum (spIsNum K) := by
  refine F.ok scIsNum (fun vs H Q E h => ?_) (fun cdv A outer s H vs Q E hr h => ?_)
  · obtain ⟨x, rfl, _⟩ := h
    rfl
  · obtain ⟨x, rfl, h⟩ := h
    refine ⟨_, (pss_one (ps_ret (pe_and (pe_def D_is_integer (hr.mono (by decide)) rfl pass0 (pa_cons (pv 0) pa_nil)) (pe_one (pe_cmpR op_ge (pv 0) pe_int (nomark _)))))), ?_⟩
    rcases h with ⟨n, rfl, q⟩ | ⟨⟨t, b1, b2, ty, h1, h2, hb⟩, q⟩
    · exact ⟨_, rfl, .int n, "int", true, false, rfl, .base (.int n), by decide +kernel, by decide +kernel, _, rfl, itbT rfl ⟨_, rfl, _, _, rfl, rfl, q⟩⟩
    · exact ⟨_, rfl, x, t, b1, b2, rfl, ty, h1, h2, _, rfl, itbF hb q⟩
theorem def_isNum (T : Bi mg) (D_is_integer : Def P w K mg base CX0 1 "is_integer" pIsInt (spIsInt K)) (a : At K mg "is_number" sIsNum) : Def P w K mg base CX0 2 "is_number" pIsNum (spIsNum K) :=
  a.def (fun _ _ _ _ _ _ us hl => match us, hl with | [_], _ => rfl) fun f fd F => ok_isNum T D_is_integer F
end
end K1


set_option Elab.async false
set_option linter.all false
set_option maxRecDepth 100000
set_option maxHeartbeats 4000000
/-! Own errors below an own error below ValueError, whose __init__ says super().__init__(a text) and then stores its one argument. -/
namespace PySem
namespace Tide
open PySem.W PySem.Calls PyProof.Rows PySem.HandSPX
def iA (fl : Str) (p1 p2 : Pos) : Arguments := { posonlyargs := [], args := [{ arg := "self", annotation := none, pos := p1 }, { arg := fl, annotation := none, pos := p2 }], vararg := none, kwonlyargs := [], kw_defaults := [], kwarg := none, defaults := [] }
def iB (fl tx : Str) (j : Nat) (q1 q2 q3 q4 q5 q6 q7 q8 q9 q10 : Pos) : List Stmt :=
  [.Expr (.Call (.Attribute (.Call (.Name "super" q1) [] [] q2) "__init__" q3) [.Constant (.str tx) j q4] [] q5) q6, .Assign [.Attribute (.Name "self" q7) fl q8] (.Name fl q9) q10]
def iS (fl : Str) : Scope := { kind := .function, names := [(PySem.Str.ofString "self", .local), (fl, .local), (PySem.Str.ofString "__class__", .free), (PySem.Str.ofString "super", .globalImplicit)], isGenerator := false, isCoroutine := false, more := [] }
/-- how the call of super().__init__ is run (shown at the text's own places) -/
def CallIs (tx : Str) (j : Nat) (q1 q2 q3 q4 q5 : Pos) : Prop := ∃ pl : Sem Bool, ∀ env : Env, eval (.Call (.Attribute (.Call (.Name "super" q1) [] [] q2) "__init__" q3) [.Constant (.str tx) j q4] [] q5) env = (do
      let ov ← attributeBase (.Call (.Name "super" q1) [] [] q2) "__init__" env (eval (.Call (.Name "super" q1) [] [] q2) env)
      standAt q3.atName
      let (f, first) ← holding [ov] (getMethod ov "__init__" pl)
      callWith q5 f first (backTo q5 (starEach [.Constant (.str tx) j q4] env)) [])
example : CallIs "no set text" 0 ⟨7, 8, 7, 13⟩ ⟨7, 8, 7, 15⟩ ⟨7, 8, 7, 24⟩ ⟨7, 25, 7, 38⟩ ⟨7, 8, 7, 39⟩ := ⟨_, fun env => by rfl⟩
/-- the fields' names -/
def FlOk (fl : Str) : Prop := ¬ fl = ("self" : Str) ∧ ¬ fl = ("__class__" : Str) ∧ ¬ fl = ("super" : Str) ∧ (fl == ("__debug__" : Str)) = false ∧
  ∀ (qual : Str) (body : List Stmt) (p1 p2 : Pos) (doc pm ct cd : Value) (an : Option Addr) (cc : Addr) (a b : Value), bindArgs (ksFn "__init__" qual (iA fl p1 p2) body (iS fl) .none .none doc pm an cd ct cc) ⟨[a, b], []⟩ = pure [(("self" : Str), a), (fl, b)]
theorem ok_value : FlOk "value" := ⟨by decide +kernel, by decide +kernel, by decide +kernel, by decide +kernel, fun _ _ _ _ _ _ _ _ _ _ _ _ => rfl⟩
theorem ok_at : FlOk "at" := ⟨by decide +kernel, by decide +kernel, by decide +kernel, by decide +kernel, fun _ _ _ _ _ _ _ _ _ _ _ _ => rfl⟩
theorem ok_why : FlOk "why" := ⟨by decide +kernel, by decide +kernel, by decide +kernel, by decide +kernel, fun _ _ _ _ _ _ _ _ _ _ _ _ => rfl⟩
theorem ok_limit : FlOk "limit" := ⟨by decide +kernel, by decide +kernel, by decide +kernel, by decide +kernel, fun _ _ _ _ _ _ _ _ _ _ _ _ => rfl⟩
/-- what the written part says of the class at C, of its __init__ at fI -/
structure TideTxt (prog : Program) (K : Frag) (mg : Str → Option Value) (x : Str) (C fI : Addr) (fl : Str) : Prop where
  gC : mg x = some (.ref C)
  ok : FlOk fl
  cls : ∃ nm q N bs bm sn sub ab col dd k0 k1 k2 k3 k5, K.lookup C = some (excClassObj nm q C N bs bm true sn sub ab col dd k0 k1 k2 k3 k5 "ValueError.__new__") ∧ refsVE bm = true
  sa : findIn K (.ref C) "__setattr__" = some (some (.builtin "object.__setattr__"))
  ga : findIn K (.ref C) "__getattribute__" = some (some (.builtin "BaseException.__getattribute__"))
  gg : findIn K (.ref C) "__getattr__" = some none
  noN : findIn K (.ref C) fl = some none
  iC : findIn K (.ref C) "__init__" = some (some (.ref fI))
  tC : typeIn K (.ref fI) = some (.type "function")
  kC : keepIn K (.ref C) = true
  exC : subIn K (.ref C) (.type "BaseException") = some true
  tyC : typeIn K (.ref C) = some (.type "type")
  hdC : hasDictIn K C = true
  te : exmOne K (.ref C) (.ref C) = some true
  sup : ks_superIn K C C "__init__" = some (some (.builtin "ValueError.__init__"))
  isV : subIn K (.ref C) (.type "ValueError") = some true
  self_ : mroIn K C (.ref C) = some true
  tpa : nsIn K cStatics "thirdparty.any" = some none
  nsu : mg "super" = none
  htop : (prog.main.scope.names.lookup ("super" : Str)).isSome = false
  fn : ∃ (oc : Value) (od : Option Addr) (doc pm ct : Value) (an : Option Addr) (osl : Array (Option Value)) (qual tx : Str) (j : Nat) (p1 p2 q1 q2 q3 q4 q5 q6 q7 q8 q9 q10 : Pos) (cda cc : Addr),
    K.lookup fI = some ⟨oc, od, .func (ksFn "__init__" qual (iA fl p1 p2) (iB fl tx j q1 q2 q3 q4 q5 q6 q7 q8 q9 q10) (iS fl) .none .none doc pm an (.ref cda) ct cc), osl⟩ ∧ codeIn K (.ref cda) qual = true ∧ CallIs tx j q1 q2 q3 q4 q5 ∧
    (∃ ccl cdd vs ccs file tf, K.lookup cda = some ⟨ccl, cdd, .fields vs, ccs⟩ ∧ vs[2]? = some (.str file tf) ∧ ((prog.main.file : Str) == file) = true) ∧ ∃ cl cld csl, K.lookup cc = some ⟨cl, cld, .cell (some (.ref C)), csl⟩
section
variable {fl : Str}
theorem lkT {β : Type} {a b : Str} {v : β} {l : List (Str × β)} (h : (a == b) = true) : List.lookup a ((b, v) :: l) = some v := by
  rw [List.lookup_cons, h]
theorem lkF {β : Type} {a b : Str} {v : β} {l : List (Str × β)} (h : (a == b) = false) : List.lookup a ((b, v) :: l) = List.lookup a l := by
  rw [List.lookup_cons, h]
theorem neB {a b : Str} (h : ¬ a = b) : (a == b) = false := beq_eq_false_iff_ne.mpr h
theorem lk_self : (iS fl).names.lookup ("self" : Str) = some .local := lkT (by decide +kernel)
theorem lk_fl (ok : FlOk fl) : (iS fl).names.lookup fl = some .local := (lkF (neB ok.1)).trans (lkT (beq_self_eq_true _))
theorem lk_cls (ok : FlOk fl) : (iS fl).names.lookup ("__class__" : Str) = some .free := (lkF (by decide +kernel)).trans ((lkF (neB fun h => ok.2.1 h.symm)).trans (lkT (by decide +kernel)))
theorem lk_super (ok : FlOk fl) : (iS fl).names.lookup ("super" : Str) = some .globalImplicit :=
  (lkF (by decide +kernel)).trans ((lkF (neB fun h => ok.2.2.1 h.symm)).trans ((lkF (by decide +kernel)).trans (lkT (by decide +kernel))))
end
theorem one_size (v : Value) : [v].length ≤ sizeLine := by
  rw [sizeLine_eq]
  exact (by decide : 1 ≤ 16777216)
/-- what __init__ leaves of a fresh exception at x -/
structure InitEnd (fl : Str) (h h' : Heap) (x C dx t1 : Addr) (v : Value) : Prop where
  keep : ∀ b o, b ≠ x → h.get? b = some o → h'.get? b = some o
  obj : h'.get? x = some { cls := .ref C, dict := some dx, data := .fields #[.ref t1, .none, .none, .none, .bool false, .none] }
  dbig : h.objs.size ≤ dx
  dne : dx ≠ x
  ns : h'.Ns1 dx (fun y => if y = fl then some v else none)
/-- a made one -/
structure OwnMade (fl : Str) (h h' : Heap) (e C d : Addr) (v : Value) : Prop where
  keep : ∀ b o, h.get? b = some o → h'.get? b = some o
  new : h.objs.size ≤ e
  obj : ∃ oe vs, h'.get? e = some oe ∧ oe.cls = .ref C ∧ oe.dict = some d ∧ oe.data = .fields vs ∧ vs[1]? = some .none
  dbig : h.objs.size ≤ d
  dne : d ≠ e
  ns : h'.Ns1 d (fun y => if y = fl then some v else none)
section
variable {prog : Program} {w : World} {A : Around} {E : Value → Shared → Prop} {R : Result → Shared → Prop} {s : Shared} {K : Frag} {mg mb : Str → Option Value} {C fI : Addr} {fl xn : Str}
theorem ldC {M : Model} {s : Shared} {env : Env} {m : Str → Option Value} {x : Str} {pos : Pos} {v : Value} {Q : Value → Shared → Prop} {A : Around} {E : Value → Shared → Prop} (hn : s.heap.Ns env.locals m) (hv : m x = some v) (h : Q v s)
    (hk : env.scope.kind = .function) (hl : env.kindOf x = some .local) (hd : (x == ("__debug__" : Str)) = false) :
    wpAny M A (eval (.Name x pos) env) Q E s := wpAny_Name (wpAny_loadName_local hk hl hn hv h) hd
/-- the built-in __init__ bound to the object, called -/
theorem call_mw {u e t0 : Addr} {rest : List Value} {Q : Value → Shared → Prop} {nm q : Str} {N : Addr} {bs bm : List Value} {hdct : Bool} {sn : List Str} {sub : List Value} {ab : Bool} {col : Option Bool} {dd : Option Addr} {k0 k1 k2 k3 k5 : Option Value}
    (hC : s.heap.get? C = some (excClassObj nm q C N bs bm hdct sn sub ab col dd k0 k1 k2 k3 k5 "ValueError.__new__")) (he : s.heap.get? e = some (excO C t0)) (hu : s.heap.get? u = some (kxs_mw "ValueError.__init__" e)) (hrest : rest.length ≤ sizeLine)
    (hq : ∀ h', (∀ b o, b ≠ e → s.heap.get? b = some o → h'.get? b = some o) → h'.get? e = some (excO C s.heap.objs.size) → Q .none { s with heap := h' }) :
    wpAny (model prog w) A (call (.ref u) rest) Q E s := by
  have FB := F.excBase_ValueError
  obtain ⟨hh, g, d, tk, os⟩ := s
  refine wpAny_call (codeAny_of_tree ?_)
  show wpAny _ A.in1 (callAny (.ref u) ⟨rest, []⟩) _ _ _
  simp only [callAny]
  refine wpAny_bind (wpAny_load hu ?_)
  simp only [kxs_mw, show (Value.type "method-wrapper" == Value.type "method" || Value.type "method-wrapper" == Value.type "builtin_function_or_method" || Value.type "method-wrapper" == Value.type "method-wrapper") = true by decide, if_true]
  refine KFB.if_so (by decide) ?_
  refine wpAny_bind (check_bound_init FB.toExcCallFacts hC he rfl ?_)
  refine wpAny_bind (wpAny_pure (wpAny_pure ?_))
  refine ⟨plainId_quiet FB.init.plain _, codeAny_builtin FB.initEntry ?_⟩
  exact exc_init_tree (cls := .ref C) (t0 := t0) (dv := none) (c2 := .none) (c3 := .none) (b4 := .bool false) he hrest fun h' k e' _ => hq h' k e'
theorem tide_init (T : TideTxt prog K mg xn C fI fl) {x t0 : Addr} {v : Value} (X : K.In s.heap) (hG : s.heap.Ns mainGlobals mg) (hB : s.heap.Ns builtinsNs mb) (hmb : mb "super" = some (.type "super")) (hlim : s.heap.NoLimit) (hx : s.heap.get? x = some (excO C t0)) (hnx : K.lookup x = none) (hroom : A.depth < recursionLimit)
    (hq : ∀ h' tk dx t1, InitEnd fl s.heap h' x C dx t1 v → R (.ok (.ret .none)) { s with heap := h', toks := tk }) :
    codeAny (model prog w) A (.call (.ref fI) ⟨[.ref x, v], []⟩) R s := by
  obtain ⟨oc, od, doc, pm, ct, an, osl, qual, tx, j, p1, p2, q1, q2, q3, q4, q5, q6, q7, q8, q9, q10, cda, cc, ho, hcd, ⟨pl, hpl⟩, ⟨ccl, cdd, vs, ccs, file, tf, hcda, hvs, hfile⟩, cl, cld, csl, hcell⟩ := T.fn
  obtain ⟨nm, q, N, bs, bm, sn, sub, ab, col, dd, k0, k1, k2, k3, k5, hC, hbm⟩ := T.cls
  obtain ⟨n1, n2, n3, n4, n5⟩ := T.ok
  have hcl : clsIn K C = some { name := nm, bases := bs, mro := .ref C :: bm, ns := N, qualname := q, hasDict := true, slotNames := sn, subclasses := sub, abstract := ab, collection := col, hasDel := false } := by unfold clsIn; rw [hC] <;> rfl
  have e1 : (("self" : Str) == fl) = false := by rw [beq_eq_false_iff_ne]; exact fun h => n1 h.symm
  have e1' : (fl == ("self" : Str)) = false := by rw [beq_eq_false_iff_ne]; exact n1
  have X₀ := X
  refine ks_codeAny_call_defAt (fd := ksFn "__init__" qual (iA fl p1 p2) (iB fl tx j q1 q2 q3 q4 q5 q6 q7 q8 q9 q10) (iS fl) .none .none doc pm an (.ref cda) ct cc) (body := iB fl tx j q1 q2 q3 q4 q5 q6 q7 q8 q9 q10) (binds := [("self", .ref x), (fl, v)]) hroom (X _ _ ho) rfl hlim (codeRec_of X hcd) rfl (BindsTo.of_eq ?_) ?_ ?_ (fun h₁ hns k => ?_) rfl rfl rfl
  · exact n5 _ _ _ _ _ _ _ _ _ _ _ _
  · intro y hy
    have hy : y ∈ [(PySem.Str.ofString "self", NameKind.local), (fl, .local), (PySem.Str.ofString "__class__", .free), (PySem.Str.ofString "super", .globalImplicit)] := hy
    simp only [List.mem_cons, List.not_mem_nil, or_false] at hy
    rcases hy with rfl | rfl | rfl | rfl <;> exact fun h => nomatch h
  · intro y hy
    simp only [List.mem_cons, List.not_mem_nil, or_false] at hy
    rcases hy with rfl | rfl
    · exact lk_self
    · exact lk_fl T.ok
  · have hxL : s.heap.objs.size ≠ x := Nat.ne_of_gt (Heap.lt_size hx)
    have X₁ : K.In h₁ := X.keeps k
    have hx₁ := k _ _ hx
    have I : InstAt h₁ x (excO C t0) C none := ⟨hx₁, rfl, rfl, trivial⟩
    refine ks_wpAt_execs_cons (ks_wpAt_Expr_any (ks_wpAt_MethodCall (ks_wpAt_super_base (f := fI) (cc := cda) (lk_super T.ok) (lk_cls T.ok) (by decide) rfl (X₁ _ _ ho) rfl rfl rfl (X₁ _ _ hcda) rfl hvs hfile T.htop ?_) (hpl _)))
    refine ks_loadName_global rfl (lk_super T.ok) (loadGlobal_builtin (hG.keeps k) T.nsu (hB.keeps k) hmb ⟨rfl, ?_⟩)
    refine wpAny_loadName_free rfl (lk_cls T.ok) rfl ⟨_, X₁ _ _ hcell, rfl⟩ ?_
    refine wpAny_loadName_local (v := .ref x) rfl lk_self hns ?_ ?_
    · exact (lkF (neB fun h => T.ok.1 h.symm)).trans (lkT (by decide +kernel))
    refine ks_wpAny_isType_cls (X₁ _ _ hC) rfl ⟨rfl, ?_⟩
    refine ks_wpAny_call_super (X₁ _ _ hC) rfl I.at_ I.cls (fun c e => by cases e) (looks_mroIn X₁ T.self_) (fun h₂ e₂ k₂ => ?_)
    have X₂ : K.In h₂ := X₁.keeps k₂
    have I₂ : InstAt h₂ x (excO C t0) C none := ⟨k₂ _ _ hx₁, rfl, rfl, trivial⟩
    have hsup : alongIn K "__init__" (((.ref C :: bm).dropWhile (· != .ref C)).drop 1) = some (some (.builtin "ValueError.__init__")) := by
      have h := T.sup
      unfold ks_superIn at h
      rw [hcl] at h
      exact h
    have hxC : x ≠ C := ks_ne X₂ I₂ hcl
    have hI : Looks (model prog w) h₂ (isInstance (.ref x) (.type "ValueError")) true := I₂.type.andThen (looks_subIn X₂ T.isV)
    refine kxs_getMethod kxs_ValueError e₂ (looks_opaque X₂ T.tpa) (l₀ := .ref C :: bm) (fun A Q E s k q => wpAny_bind ((looks_clsIn X₂ hcl) A _ E s k (wpAny_pure q))) rfl X₂ hsup hI hxC (by decide) ?_
    refine kxs_callWith (i := "ValueError.__init__") (x := x) rfl (evalArgs_plain ?_)
    show wpAny _ _ (spliced ((false, eval (.Constant (.str tx) j q4) _) :: backTo q5 (starEach [] _))) _ _ _
    refine Calls.spliced_cons ?_
    refine Calls.Constant_str (Calls.spliced_nil ⟨?_, ?_⟩)
    · exact Heap.get?_push_at rfl rfl
    refine call_mw (C := C) (t0 := t0) (Heap.get?_push_of_some _ (X₂ _ _ hC)) (Heap.get?_push_of_some _ I₂.at_) (Heap.get?_push_at rfl rfl) (one_size _) (fun h₃ k₃ e₃ => ?_)
    -- self.fl = fl
    have keep : ∀ b o, b ≠ x → s.heap.get? b = some o → h₃.get? b = some o := fun b o hb e => k₃ b o hb (Heap.get?_push_of_some _ (k₂ _ _ (k _ _ e)))
    have keep1 : ∀ b o, b ≠ x → h₁.get? b = some o → h₃.get? b = some o := fun b o hb e => k₃ b o hb (Heap.get?_push_of_some _ (k₂ _ _ e))
    have X₃ : K.In h₃ := fun a o e => keep a o (fun z => by rw [z, hnx] at e; cases e) (X a o e)
    have hns₃ : h₃.Ns s.heap.objs.size (fun y => [(("self" : Str), Value.ref x), (fl, v)].reverse.lookup y) := by
      obtain ⟨oL, es, ep, hL, r⟩ := hns
      exact ⟨oL, es, ep, keep1 _ _ hxL hL, r⟩
    show wpAt _ _ _ (execs _ _) _ _ _
    refine wpAt_of_wpAny (wpAny_execs_cons (plainObj_wpAny_Assign_Attribute ?_))
    refine ldC (v := v) hns₃ ?_ (ldC (v := .ref x) hns₃ ?_ ?_ rfl lk_self (by decide)) rfl (lk_fl T.ok) T.ok.2.2.2.1
    · exact lkT (beq_self_eq_true _)
    · exact (lkF (neB fun h => T.ok.1 h.symm)).trans (lkT (by decide +kernel))
    refine set_plain X₃ (ox := excO C _) (od := none) ⟨e₃, rfl, rfl, trivial⟩ T.sa ?_
    refine exc_osa X₃ e₃ hcl (show refsVE (.ref C :: bm) = true from hbm) rfl T.noN (fun h₄ tk₄ dx k₄ dn dne hx₄ hn₄ => ?_)
    show wpAny _ _ (execs _ _) _ _ _
    have z : s.heap.objs.size ≤ h₃.objs.size := by
      exact Nat.le_of_lt hns₃.lt
    refine wpAny_execs_nil (hq h₄ tk₄ dx _ ⟨fun b o hb e => k₄ b o hb (keep b o hb e), hx₄, Nat.le_trans z dn, dne, hn₄⟩)
theorem tide_made (T : TideTxt prog K mg xn C fI fl) {v : Value} (X : K.In s.heap) (hG : s.heap.Ns mainGlobals mg) (hB : s.heap.Ns builtinsNs mb) (hmb : mb "super" = some (.type "super")) (hlim : s.heap.NoLimit) (hroom : A.depth + 1 < recursionLimit)
    (hq : ∀ h' tk e d, OwnMade fl s.heap h' e C d v → R (.ok (.ret (.ref e))) { s with heap := h', toks := tk }) :
    codeAny (model prog w) A (.call (.ref C) ⟨[v], []⟩) R s := by
  obtain ⟨nm, q, N, bs, bm, sn, sub, ab, col, dd, k0, k1, k2, k3, k5, hC, hbm⟩ := T.cls
  obtain ⟨hp, g, dr, tk, os⟩ := s
  have k : ∀ b o, hp.get? b = some o → ((hp.push (kdv_tup [v])).push (excO C hp.objs.size)).get? b = some o := fun b o e => Heap.get?_push_of_some _ (Heap.get?_push_of_some _ e)
  have hget : ((hp.push (kdv_tup [v])).push (excO C hp.objs.size)).get? (hp.objs.size + 1) = some (excO C hp.objs.size) := by heap_get
  have hnx : K.lookup (hp.objs.size + 1) = none := by
    cases e : K.lookup (hp.objs.size + 1) with
    | none => rfl
    | some o =>
      have z : hp.get? (hp.objs.size + 1) = some o := X _ _ e
      exact absurd (Nat.lt_of_succ_lt (Heap.lt_size z)) (Nat.lt_irrefl _)
  refine call_own F.excBase_ValueError (fun X => refsVE_contains X bm hbm) (X _ _ hC) (looks_findIn X T.iC) (fun self => bind_fn X self T.tC) (one_size v) ?_
  refine tide_init (s := ⟨(hp.push (kdv_tup [v])).push (excO C hp.objs.size), g, dr, tk, os⟩) T (X.keeps k) (hG.keeps k) (hB.keeps k) hmb (hlim.keeps k) hget hnx ?_ fun h' tk' dx t1 ⟨k', hx, dn, dne, hns⟩ => ?_
  · show A.depth + 1 < recursionLimit
    exact hroom
  · have old : ∀ b o, hp.get? b = some o → h'.get? b = some o := fun b o e => k' b o (Nat.ne_of_lt (Nat.lt_succ_of_lt (Heap.lt_size e))) (k b o e)
    have z : hp.objs.size + 1 + 1 ≤ dx := by
      first
        | (simpa only [Heap.size_push] using dn)
        | exact dn
        | (have q := dn; rw [Heap.size_push, Heap.size_push] at q; exact q)
    exact ⟨rfl, hq h' tk' (hp.objs.size + 1) dx ⟨old, Nat.le_succ _, ⟨_, _, hx, rfl, rfl, rfl, rfl⟩, Nat.le_trans (Nat.le_trans (Nat.le_succ _) (Nat.le_succ _)) z, dne, hns⟩⟩
end
end Tide
end PySem
namespace L2
open PySem PySem.Spec PyProof.Rows
theorem relO_tide {fl : Str} {v : V} {v' : Value} (r : RelV v v') (f : Str) : RelO (List.lookup f [(fl, v)]) (if f = fl then some v' else none) := by
  by_cases hw : f = fl
  · subst hw
    rw [if_pos rfl]
    have q : List.lookup f [(f, v)] = some v := by simp [List.lookup]
    rw [q]
    exact r
  · rw [if_neg hw]
    have qw : (f == fl) = false := by simpa using hw
    have q2 : List.lookup f [(fl, v)] = none := by simp [List.lookup, qw]
    rw [q2]
    trivial
section
variable {X : Cx} {C fI : Addr} {fl xn : Str}
/-- E(e) -/
def tMkTide (C : Addr) (fl : Str) (ta : TA) : St → Hp → XK → Prop := fun σ H Q => ta σ H fun vs H1 => ∃ v, vs = [v] ∧ ∀ d, H1 d = none → Q (.ref C) (some d) (upd H1 d (.xd [(fl, v)]))
theorem pmk_tide {a : Expr} {ta : TA} {p pos : Pos} {k : Nat} (T : PySem.Tide.TideTxt X.prog X.K X.mg xn C fI fl) (hr : Room k X.A) (ha : PA X [a] ta) (hg : Gl X xn := by rfl) (hdb : (xn == ("__debug__" : Str)) = false := by decide)
    (he : starEach (a :: []) X.env = (false, eval a X.env) :: starEach [] X.env := by rfl) (hpl : (backTo pos (starEach [] X.env)).any (·.1) = false := by rfl) :
    PMk X (.Call (.Name xn p) [a] [] pos) (tMkTide C fl ta) := by
  intro pins s σ H Q I h
  refine wpAny_Call_Name_kw (ld_glob I hg T.gC ?_ hdb)
  refine PySem.W.callWith_K (h₀ := X.base) I.ok.mod.kin T.kC (thn (ha.run pos pins s σ H _ I h) fun us s1 hh => ?_) he hpl
  obtain ⟨vs, H1, I1, r1, v, ev, q1⟩ := hh
  subst ev
  refine ⟨I1.kIn, ?_⟩
  cases r1 with
  | cons rv rn =>
    rename_i v' us'
    cases rn
    show wpAny _ _ (call (.ref C) [v']) _ _ _
    have hlim := I1.nolimit
    have hG := I1.mod.glob.keeps I1.bk
    obtain ⟨mb, hB0, hmb0⟩ := I1.mod.blt
    have hB := hB0.keeps I1.bk
    have hmb : mb "super" = some (.type "super") := (hmb0 _ (by decide +kernel)).trans (by decide +kernel)
    obtain ⟨hp, g, dr, tk, os⟩ := s1
    refine wpAny_call (PySem.Tide.tide_made T I1.kIn hG hB hmb hlim (by have := hr.dp; omega) fun h' tk' e d M => ?_)
    show MkP X pins σ Q (.ref e) ⟨h', g, dr, tk', os⟩
    obtain ⟨oe, fv, hoe, hc, hd, hdat, h1⟩ := M.obj
    have hns := M.ns
    obtain ⟨G', g1, g2⟩ := restrict h' fun b => decide (b ≠ e)
    have gk : ∀ b, b ≠ e → G'.get? b = h'.get? b := fun b hb => g1 b (decide_eq_true hb)
    have ge : G'.get? e = none := g2 e (by simp)
    have old : ∀ b o, hp.get? b = some o → G'.get? b = some o := fun b o q => (gk b (Nat.ne_of_lt (Nat.lt_of_lt_of_le (Heap.lt_size q) M.new))).trans (M.keep b o q)
    have ob : ObjOk X.prog X.w (upd H1 d (.xd [(fl, v)])) G' d (.xd [(fl, v)]) :=
      ⟨_, hns.at (fun o q => (gk d M.dne).trans q), fun f => relO_tide rv f⟩
    have J : Inv X pins σ (upd H1 d (.xd [(fl, v)])) ⟨G', g, dr, tk', os⟩ := I1.laid (t' := tk') old M.dbig ob
    refine ⟨e, oe, fv, ⟨G', g, dr, tk', os⟩, _, .ref C, some d, rfl, J, fun b o q => ?_, ge, hoe, ⟨hc, hd⟩, hdat, h1, ?_, rfl, I1.bare, raises_own T.exC T.tyC, q1 d (I1.hok.fresh M.dbig)⟩
    · by_cases hb : b = e
      · have q' : G'.get? b = some o := q
        rw [hb, ge] at q'; cases q'
      · exact (gk b hb).symm.trans q
    · rw [upd_ne (Ne.symm M.dne)]
      exact I1.hok.fresh M.new
/-- raise E(e) -/
def tRaiseTide (C : Addr) (fl : Str) (W : WX) (ta : TA) : TS := fun _ σ H => tMkTide C fl ta σ H fun cls d H' => W cls d σ H'
theorem ps_raiseTide {a : Expr} {ta : TA} {W : WX} {p pos pos2 : Pos} {k : Nat} (hc : X.calm = true) (T : PySem.Tide.TideTxt X.prog X.K X.mg xn C fI fl) (hr : Room k X.A) (tk : Takes X W) (ha : PA X [a] ta) (hg : Gl X xn := by rfl) (hdb : (xn == ("__debug__" : Str)) = false := by decide)
    (he : starEach (a :: []) X.env = (false, eval a X.env) :: starEach [] X.env := by rfl) (hpl : (backTo pos (starEach [] X.env)).any (·.1) = false := by rfl) :
    PS X (.Raise (some (.Call (.Name xn p) [a] [] pos)) none pos2) (tRaiseTide C fl W ta) := ps_raise hc tk (pmk_tide T hr ha hg hdb he hpl)
/-- e.fl, e the exception that the suite holds (at a; its class cls, its dict d) -/
def tByTide (C : Addr) (fl : Str) (a : Addr) (cls : Value) (d : Option Addr) (te : TE) : TE := fun σ H Q => te σ H fun x H1 => x = .ref a ∧ cls = .ref C ∧ ∃ (dd : Addr) (v : V), d = some dd ∧ H1 dd = some (.xd [(fl, v)]) ∧ Q v H1
theorem pe_byTide {a : Addr} {oe : Obj} {cls : Value} {d : Option Addr} {pn : List (Addr × Obj)} {e : Expr} {te : TE} {pos : Pos} (T : PySem.Tide.TideTxt X.prog X.K X.mg xn C fI fl) (hz : Zc cls d oe) (hf : ∃ vs, oe.data = .fields vs) (he : PE (X.suite a ((a, oe) :: pn)) e te)
    (hb : attributeBase e fl X.env (eval e X.env) = eval e X.env) :
    PE (X.suite a ((a, oe) :: pn)) (.Attribute e fl pos) (tByTide C fl a cls d te) := by
  refine ⟨fun pins s σ H Q I h => ?_⟩
  refine attr_of hb (thn (he.run pins s σ H _ I h) fun u s1 hh => ?_)
  obtain ⟨x, H1, I1, rx, ex, ec, dd, v, ed, ea, q⟩ := hh
  subst ex
  obtain rfl : u = Value.ref a := rx
  subst ec
  subst ed
  obtain ⟨ha, _⟩ := I1.pin (a, oe) (List.mem_append_left _ List.mem_cons_self)
  obtain ⟨vs, hd⟩ := hf
  have hx : ObjOk X.prog X.w H1 s1.heap dd (.xd [(fl, v)]) := I1.hok dd _ ea
  obtain ⟨mA, hns, hr⟩ := hx
  obtain ⟨od, ho, hl⟩ := lookIn_ns hns
  have l : List.lookup fl [(fl, v)] = some v := by simp [List.lookup]
  obtain ⟨u, hu, ru⟩ := RelO.some_of (v := v) (o := mA fl) (by rw [← l]; exact hr fl)
  have J : PySem.W.InstAt s1.heap a oe C (some od) := ⟨ha, hz.1, by unfold PySem.W.notCls; rw [hd] <;> rfl, by rw [hz.2]; exact ho⟩
  exact HandSPX.exc_get I1.kIn J T.ga T.gg T.exC (PySem.W.findObj_own T.hdC T.noN rfl (by rw [hl, hu])) (handed_of ru) ⟨v, H1, I1.tok _, ru, q⟩
end
end L2


set_option Elab.async false
set_option linter.all false
set_option maxRecDepth 100000
set_option maxHeartbeats 4000000
/-! enumerate over a list or a tuple -/
namespace PySem
open Sem (wp)
open AutoSeq1 (wpAny_loadPart')
theorem my_enumerate_newT (l : Addr) (items : Array Value) (n : Nat) (dct : Option Addr) (sl : Array (Option Value)) :
    Meets (Builtin.«enumerate.__new__» ⟨[.type "enumerate", .ref l], []⟩) (fun _ R s => s.heap.get? l = some { cls := .type "tuple", dict := dct, data := .seq items n, slots := sl } ∧
      R (.ok (.ret (.ref (s.heap.push { cls := .type "tuple_iterator", data := .fields #[.ref l, .int 0 0] }).objs.size)))
        { s with heap := (s.heap.push { cls := .type "tuple_iterator", data := .fields #[.ref l, .int 0 0] }).push { cls := .type "enumerate", data := .fields #[.none, .bool false, .ref s.heap.objs.size, rawInt 0, .none, .none] } }) :=
  .of_wp fun prog w A R s h => by
    obtain ⟨hp, g, d, tk, os⟩ := s; obtain ⟨hl, h⟩ := h
    have hsub := sub_enumerate
    have hL : Heap.IsTuple (Shared.heap ⟨hp, g, d, tk, os⟩) l items := ⟨_, hl, rfl, n, rfl⟩
    wp_walk using wpAny_loadPart' hl
    refine wpAny_stack_any fun st => wpAny_pure ?_
    split
    · rename_i c _ _ _ _ _
      cases (c == Value.type "enumerate")
      · wp_walk using wpAny_loadPart' hl, wpAny_pyIter_tuple hL
        exact ⟨_, rfl, h⟩
      · wp_walk using wpAny_loadPart' hl, wpAny_pyIter_tuple hL
        exact ⟨_, rfl, h⟩
    · wp_walk using wpAny_loadPart' hl, wpAny_pyIter_tuple hL
      exact ⟨_, rfl, h⟩
section
variable {prog : Program} {w : World} {A : Around} {E : Value → Shared → Prop} {s : Shared}
theorem my_enumerate_tuple {l : Addr} {items : Array Value} {Q : Value → Shared → Prop} (hL : s.heap.IsTuple l items)
    (h : ∀ h', IsEnum h' (s.heap.objs.size + 1) s.heap.objs.size 0 .none → h'.IsTupleIter s.heap.objs.size l 0 → h'.objs.size = s.heap.objs.size + 2 →
      (∀ b o, s.heap.get? b = some o → h'.get? b = some o) → Q (.ref (s.heap.objs.size + 1)) { s with heap := h' }) :
    wpAny (model prog w) A (call (.type "enumerate") [.ref l]) Q E s := by
  obtain ⟨⟨c, dct, dt, sl⟩, hl, hc, n, hd⟩ := hL
  replace hc : c = .type "tuple" := hc
  replace hd : dt = .seq items n := hd
  subst hc hd
  refine callType_new F.called_enumerate (by decide) (F.typeCall_enumerate_1 _) (F.newCall_enumerate_1 _) (fun obj => F.args_object_init_2 obj _) F.entry_enumerate_new
    (my_enumerate_newT l items n dct sl) ⟨hl, ?_⟩
  have hz : (s.heap.push { cls := .type "tuple_iterator", data := .fields #[.ref l, .int 0 0] }).objs.size = s.heap.objs.size + 1 := Heap.size_push ..
  show _ ∧ _
  rw [hz]
  have he : IsEnum ((s.heap.push { cls := .type "tuple_iterator", data := .fields #[.ref l, .int 0 0] }).push
      { cls := .type "enumerate", data := .fields #[.none, .bool false, .ref s.heap.objs.size, rawInt 0, .none, .none] }) (s.heap.objs.size + 1) s.heap.objs.size 0 .none := by
    have := Heap.get?_push_size (s.heap.push { cls := .type "tuple_iterator", data := .fields #[.ref l, .int 0 0] })
      (o := { cls := .type "enumerate", data := .fields #[.none, .bool false, .ref s.heap.objs.size, rawInt 0, .none, .none] }) rfl
    rw [hz] at this; exact this
  refine ⟨⟨_, he, rfl⟩, h _ he ⟨_, Heap.get?_push_of_some _ (Heap.get?_push_size _ rfl), rfl, rfl⟩ (by rw [Heap.size_push, hz]) fun b o x => Heap.get?_push_of_some _ (Heap.get?_push_of_some _ x)⟩
end
end PySem
namespace L2
open PySem PySem.Spec PyProof.Rows
def IteT (K : PySem.W.Frag) (a : Addr) : It :=
  ⟨fun i H => ∃ (xs : List V) (x : V), SqT K H a xs ∧ xs[i]? = some x, fun i H v H' => ∃ T x, v = .ref T ∧ H T = none ∧ H' = upd H T (.tup [.int (i : Nat), x]) ∧ ∀ xs, SqT K H a xs → xs[i]? = some x, fun i H => ∃ xs : List V, SqT K H a xs ∧ i = xs.length⟩
theorem turn_enumT {P : Program} {w : World} {K : PySem.W.Frag} {elts : List Expr} {kk : Nat} {tpos : Pos} (a e it : Addr) :
    Turn P w K (.Tuple elts kk tpos) (IteT K a) [e, it] e (fun i h => (∃ old, IsEnum h e it ((i : Nat) : Int) old) ∧ h.IsTupleIter it a i ∧ e ≠ it ∧ e ≠ a ∧ it ≠ a) where
  mem := by simp
  obj := fun i h st b hb => by
    obtain ⟨⟨old, he⟩, ⟨o, ho, hc, hd⟩, _⟩ := st
    have e' : b = e ∨ b = it := by simpa using hb
    rcases e' with z | z
    · rw [z]; exact ⟨_, he, fun v q => nomatch q⟩
    · rw [z]; exact ⟨o, ho, fun v q => by rw [hd] at q; cases q⟩
  keep := fun i h h' st k => let ⟨⟨old, he⟩, hi, hne⟩ := st; ⟨⟨old, k e (by simp) _ he⟩, hi.at fun o q => k it (by simp) o q, hne⟩
  item := by
    intro X hP hw hK hc i pins s σ H E I hf st hg
    subst hP hw hK
    obtain ⟨⟨old, he⟩, hit, hne, hea, hia⟩ := st
    obtain ⟨xs, x, hq, hx⟩ := hg
    obtain ⟨its, rv, p, hz⟩ := I.tuple hq
    have p' : s.heap.IsTuple a its.toArray := p
    obtain ⟨u, hu, ru⟩ := rv.get hx
    have hel : e < s.heap.objs.size := Heap.lt_size he
    have hil : it < s.heap.objs.size := by obtain ⟨_, q, _⟩ := hit; exact Heap.lt_size q
    have D := Draws.tuple (prog := X.prog) (w := X.w) (A := X.A.in1) (I.ok.hd hc) it a hia.symm its.toArray
    refine wpAny_pyNext_enum_itemD D he ⟨hit, p'⟩ (by have := (List.getElem?_eq_some_iff.mp hu).1; simpa using this) hne (by simp [hne, hea]) fun x' h' tk hx' ho hit' hT hsz hk => ?_
    have hxu : x' = u := by
      have e1 : its[i]? = some x' := by simpa using hx'
      rw [hu] at e1
      exact (Option.some.inj e1).symm
    subst hxu
    obtain ⟨hit', _⟩ := hit'
    refine ⟨_, rfl, wpAny_letOwnedTupleGo_enum (s := { s with heap := h', toks := tk + 1 }) ho fun h'' he' sb => ?_⟩
    have hT2 : h''.get? s.heap.objs.size = some { cls := .type "tuple", data := .seq #[.int i tk, x'] } := (sb.2 _ (Nat.ne_of_gt hel)).trans hT
    have new : ObjOk X.prog X.w (upd H s.heap.objs.size (.tup [.int (i : Nat), x])) h'' s.heap.objs.size (.tup [.int (i : Nat), x]) :=
      ⟨by show 2 ≤ sizeLine; decide, [.int i tk, x'], .cons ⟨_, rfl⟩ (.cons ru .nil), ⟨_, hT2, rfl, _, rfl⟩⟩
    have I1 : Inv X pins σ (upd H s.heap.objs.size (.tup [.int (i : Nat), x])) { s with heap := h'', toks := tk + 1 } :=
      I.turnedNew (ch := [e, it]) (fun b ob hb q => (sb.2 b (fun z => hb (by simp [z]))).trans (hk b ob (fun z => hb (by simp [z])) (fun z => hb (by simp [z])) q)) hf (Nat.le_refl _) new
    refine ⟨.ref s.heap.objs.size, _, I1, rfl, ⟨_, x, rfl, I.hok.fresh (Nat.le_refl _), rfl, fun ys hy => by rw [I.tuple_inj hy hq]; exact hx⟩, ⟨⟨x', ?_⟩, hit'.at fun o q => (sb.2 it (Ne.symm hne)).trans q, hne, hea, hia⟩, fun b hb => ?_⟩
    · have e1 : ((i + 1 : Nat) : Int) = (i : Int) + 1 := by omega
      rw [e1]; exact he'
    · have hb' : b < s.heap.objs.size := by
        have e' : b = e ∨ b = it := by simpa using hb
        rcases e' with z | z
        · rw [z]; exact hel
        · rw [z]; exact hil
      rw [upd_ne (Nat.ne_of_lt hb')]
      exact (hf b hb).1
  done := by
    intro X hP hw hK hc i pins s σ H E I hf st hg
    subst hP hw hK
    obtain ⟨⟨old, he⟩, hit, hne, hea, hia⟩ := st
    obtain ⟨xs, hq, hx⟩ := hg
    obtain ⟨its, rv, p, hz⟩ := I.tuple hq
    have p' : s.heap.IsTuple a its.toArray := p
    obtain ⟨f0, f1, f2, f3, f4, f5⟩ := hf it (by simp)
    have hl := rv.length
    have D := Draws.tuple (prog := X.prog) (w := X.w) (A := X.A.in1) (I.ok.hd hc) it a hia.symm its.toArray
    have hn : i = its.toArray.size := by rw [hx, hl]; simp
    refine wpAny_pyNext_enum_endD D he ⟨hn ▸ hit, p'⟩ fun h' eb => ⟨rfl, I.turned (t' := s.toks) (fun b o hb q => eb b o hb q) f0 f1 f3 f4 f5⟩
  self := fun A i s Q E st h => let ⟨⟨_, he⟩, _⟩ := st; wpAny_pyIter_enum he h
/-- enumerate(list | tuple) -/
def iEnumS (K : PySem.W.Frag) (ta : TA) : TI := fun σ H R => ta σ H fun vs H1 => ∃ a xs, vs = [.ref a] ∧ ((SqL K H1 a xs ∧ R (Ite K a) H1) ∨ (SqT K H1 a xs ∧ R (IteT K a) H1))
theorem pi_enumS {X : Cx} {e : Expr} {ta : TA} {p pos tpos : Pos} {elts : List Expr} {kk : Nat} (hg : Gl X "enumerate") (hm : X.mg "enumerate" = none) (ha : PA X [e] ta) (hs : starEach [e] X.env = [(false, eval e X.env)] := by rfl) :
    PI X (.Tuple elts kk tpos) (.Call (.Name "enumerate" p) [e] [] pos) (iEnumS X.K ta) := by
  refine ⟨fun pins s σ H R I h => ?_⟩
  refine Call_ (ld_blt I hg hm boot_enumerate (PyProof.Rows.callWith_type1 (thn (ha.run pos pins s σ H _ I h) fun us s1 ⟨vs, H1, I1, r1, q1⟩ => ?_) hs rfl))
  obtain ⟨a, xs, ex, q1⟩ := q1
  subst ex
  cases r1 with
  | cons r rr =>
    cases rr
    cases r
    have fpk : ∀ b ∈ [s1.heap.objs.size + 1, s1.heap.objs.size], FpOk X pins H1 b := fun b hb => by
      have e' : b = s1.heap.objs.size + 1 ∨ b = s1.heap.objs.size := by simpa using hb
      have hle : s1.heap.objs.size ≤ b := by
        rcases e' with z | z
        · rw [z]; exact Nat.le_add_right _ _
        · rw [z]; exact Nat.le_refl _
      exact I1.fpOk hle (I1.hok.fresh hle)
    rcases q1 with ⟨hq, q⟩ | ⟨hq, q⟩
    · obtain ⟨its, rv, p', hz⟩ := I1.list hq
      refine call_enumerate_list p'.isList fun h' he hit hsz hk => wpAny_pyIter_enum he ?_
      have I2 : Inv X pins σ H1 { s1 with heap := h' } := I1.kept (t' := s1.toks) hk
      exact ⟨s1.heap.objs.size + 1, [s1.heap.objs.size + 1, s1.heap.objs.size], _, _, H1, rfl, I2, turn_enum a (s1.heap.objs.size + 1) s1.heap.objs.size, ⟨⟨.none, he⟩, hit, Nat.succ_ne_self _⟩, fpk, q⟩
    · obtain ⟨its, rv, p', hz⟩ := I1.tuple hq
      have hla : a < s1.heap.objs.size := by obtain ⟨o, ho, _⟩ := p'; exact Heap.lt_size ho
      refine my_enumerate_tuple (show s1.heap.IsTuple a its.toArray from p') fun h' he hit hsz hk => wpAny_pyIter_enum he ?_
      have I2 : Inv X pins σ H1 { s1 with heap := h' } := I1.kept (t' := s1.toks) hk
      exact ⟨s1.heap.objs.size + 1, [s1.heap.objs.size + 1, s1.heap.objs.size], _, _, H1, rfl, I2, turn_enumT a (s1.heap.objs.size + 1) s1.heap.objs.size, ⟨⟨.none, he⟩, hit, Nat.succ_ne_self _, Nat.ne_of_gt (Nat.lt_succ_of_lt hla), Nat.ne_of_gt hla⟩, fpk, q⟩
theorem pi_enumSK {X : Cx} {K : PySem.W.Frag} {e : Expr} {ta : TA} {p pos tpos : Pos} {elts : List Expr} {kk : Nat} (h : X.K = K) (hg : Gl X "enumerate") (hm : X.mg "enumerate" = none) (ha : PA X [e] ta) (hs : starEach [e] X.env = [(false, eval e X.env)] := by rfl) :
    PI X (.Tuple elts kk tpos) (.Call (.Name "enumerate" p) [e] [] pos) (iEnumS K ta) := by subst h; exact pi_enumS hg hm ha hs
/-- a for over it: the pair's own tuple is new; Pv by the turn -/
theorem for_enumS {K : PySem.W.Frag} {a : Addr} {xs : List V} {g : TG} {tb : TS} {D : Ends} {σ : St} {H0 H : Hp} (hq : SqL K H0 a xs ∨ SqT K H0 a xs) (Pv : Nat → St → Hp → Prop) (h0 : Pv 0 σ H) (hm : ∀ i σ' H', Pv i σ' H' → ∀ b o, H0 b = some o → H' b = some o)
    (hs : ∀ i x σ H T, xs[i]? = some x → Pv i σ H → H T = none → g (.ref T) σ (upd H T (.tup [.int (i : Nat), x])) fun σ2 H2 => tb { D with nx := Pv (i + 1), ct := Pv (i + 1), bk := D.nx } σ2 H2) (hd : ∀ σ H, Pv xs.length σ H → D.nx σ H) :
    ((SqL K H a xs ∧ ∃ W : Nat → Nat → St → Hp → Prop, (∃ m, W 0 m σ H) ∧ ∀ i m σ H, W i m σ H →
      ((Ite K a).stop i H ∧ D.nx σ H) ∨ ((Ite K a).go i H ∧ ∃ N : St → Hp → Prop, (∀ σ' H', N σ' H' → ∃ m', m' < m ∧ W (i + 1) m' σ' H') ∧ ∀ x H', (Ite K a).yld i H x H' → g x σ H' fun σ2 H2 => tb { D with nx := N, ct := N, bk := D.nx } σ2 H2)) ∨
     (SqT K H a xs ∧ ∃ W : Nat → Nat → St → Hp → Prop, (∃ m, W 0 m σ H) ∧ ∀ i m σ H, W i m σ H →
      ((IteT K a).stop i H ∧ D.nx σ H) ∨ ((IteT K a).go i H ∧ ∃ N : St → Hp → Prop, (∀ σ' H', N σ' H' → ∃ m', m' < m ∧ W (i + 1) m' σ' H') ∧ ∀ x H', (IteT K a).yld i H x H' → g x σ H' fun σ2 H2 => tb { D with nx := N, ct := N, bk := D.nx } σ2 H2))) := by
  have mL : ∀ {i σ' H'}, SqL K H0 a xs → Pv i σ' H' → SqL K H' a xs := fun {i σ' H'} h p => by
    have k := hm i σ' H' p
    rcases h with (h | ⟨o, h⟩) | h
    · exact .inl (.inl (k _ _ h))
    · exact .inl (.inr ⟨o, k _ _ h⟩)
    · exact .inr h
  have mT : ∀ {i σ' H'}, SqT K H0 a xs → Pv i σ' H' → SqT K H' a xs := fun {i σ' H'} h p => by
    have k := hm i σ' H' p
    rcases h with (h | ⟨o, h⟩) | h
    · exact .inl (.inl (k _ _ h))
    · exact .inl (.inr ⟨o, k _ _ h⟩)
    · exact .inr h
  rcases hq with h | h
  · refine .inl ⟨mL h h0, fun i m σ H => m = xs.length - i ∧ i ≤ xs.length ∧ Pv i σ H, ⟨xs.length, by simp, Nat.zero_le _, h0⟩, ?_⟩
    rintro i m σ H ⟨rfl, hi, p⟩
    have q := mL h p
    by_cases hlt : i < xs.length
    · refine .inr ⟨⟨xs, xs[i], q, by simp [hlt]⟩, Pv (i + 1), fun σ' H' p' => ⟨xs.length - (i + 1), by omega, rfl, hlt, p'⟩, fun x H' y => ?_⟩
      obtain ⟨T, z, rfl, nT, rfl, hz⟩ := y
      exact hs i z σ H T (hz xs q) p nT
    · have e : i = xs.length := by omega
      subst e
      exact .inl ⟨⟨xs, q, Nat.le_refl _⟩, hd σ H p⟩
  · refine .inr ⟨mT h h0, fun i m σ H => m = xs.length - i ∧ i ≤ xs.length ∧ Pv i σ H, ⟨xs.length, by simp, Nat.zero_le _, h0⟩, ?_⟩
    rintro i m σ H ⟨rfl, hi, p⟩
    have q := mT h p
    by_cases hlt : i < xs.length
    · refine .inr ⟨⟨xs, xs[i], q, by simp [hlt]⟩, Pv (i + 1), fun σ' H' p' => ⟨xs.length - (i + 1), by omega, rfl, hlt, p'⟩, fun x H' y => ?_⟩
      obtain ⟨T, z, rfl, nT, rfl, hz⟩ := y
      exact hs i z σ H T (hz xs q) p nT
    · have e : i = xs.length := by omega
      subst e
      exact .inl ⟨⟨xs, q, rfl⟩, hd σ H p⟩
end L2


set_option Elab.async false
set_option linter.all false
set_option maxRecDepth 100000
set_option maxHeartbeats 4000000
namespace K1
open PySem PySem.Spec PyProof.Rows L2 TL
abbrev sCheck : Stmt := st_check_row
abbrev nCheck : List Str := ["row", "ahead", "at", "number"]
abbrev pCheck : List Str := ["row"]
theorem scCheck : FnScope nCheck pCheck (defScope sCheck) := ⟨rfl, rfl, rfl, by decide +kernel, rfl, by decide +kernel, by decide +kernel⟩
/-- a list or a tuple, by its kind too -/
def SeqIs (K : PySem.W.Frag) (H : Hp) (a : Addr) (xs : List V) : Prop := (SqL K H a xs ∧ TyX K H (.ref a) (.type "list")) ∨ (SqT K H a xs ∧ TyX K H (.ref a) (.type "tuple"))
theorem SeqIs.sq {K : PySem.W.Frag} {H : Hp} {a : Addr} {xs : List V} (h : SeqIs K H a xs) : SqA K H a xs := h.elim (fun h => .inl h.1) fun h => .inr h.1
def NoSeq (K : PySem.W.Frag) (H : Hp) (x : V) : Prop := ∃ t : String, TyX K H x (.type t) ∧ kitB t "list" = some false ∧ kitB t "tuple" = some false
/-- the errors at, value -/
def ErrAt (C : Addr) (fl : Str) (v : V) (H : Hp) (E : XK) : Prop := ∀ (d : Addr) (H' : Hp), Same H H' → H' d = some (.xd [(fl, v)]) → E (.ref C) (some d) H'
/-- what stands behind the good ones is none -/
def BadItem (K : PySem.W.Frag) (H : Hp) (ns : List Int) (y : V) : Prop := ns.length = 200 ∨ (∃ m, y = .int m ∧ ¬ (ns.getLastD 0 < m ∧ m ≤ G)) ∨ NoInt K H y
structure Asc (ns : List Int) : Prop where
  asc : ns.Pairwise (· < ·)
  rng : ∀ n ∈ ns, 1 ≤ n ∧ n ≤ G
def spCheck (K : PySem.W.Frag) (C : Addr) : Sp := fun vs H Q E => ∃ (x : V), vs = [x] ∧
  ((∃ (a : Addr) (ns : List Int), x = .ref a ∧ SeqIs K H a (ns.map V.int) ∧ Asc ns ∧ ns.length ≤ 200 ∧ ∀ H', Same H H' → Q .non H') ∨
   (NoSeq K H x ∧ ErrAt C "at" (.int (-1)) H E) ∨
   (∃ (a : Addr) (ns : List Int) (y : V) (zs : List V), x = .ref a ∧ SeqIs K H a (ns.map V.int ++ y :: zs) ∧ Asc ns ∧ ns.length ≤ 200 ∧ BadItem K H ns y ∧ ErrAt C "at" (.int ns.length) H E))
theorem ty_same {K : PySem.W.Frag} {H H' : Hp} {x : V} {t : String} (ty : TyX K H x (.type t)) (s : Same H H') : TyX K H' x (.type t) := by
  generalize hE : Value.type t = tv at ty
  cases ty with
  | base h =>
    cases h with
    | non => exact .base .non
    | bl x => exact .base (.bl x)
    | int x => exact .base (.int x)
    | str x => exact .base (.str x)
    | flt x => exact .base (.flt x)
    | lst e => exact .base (.lst (s _ _ e))
    | frz e => exact .base (.frz (s _ _ e))
    | tup e => exact .base (.tup (s _ _ e))
    | dK e => exact .base (.dK (s _ _ e))
    | dT e => exact .base (.dT (s _ _ e))
    | ins _ _ _ _ _ _ => cases hE
  | byt b => exact .byt b
  | set e => exact .set (s _ _ e)
  | kList e c => exact .kList e c
  | kTuple e c => exact .kTuple e c
  | kDict e c => exact .kDict e c
  | fTuple e => exact .fTuple (s _ _ e)
  | fDict e => exact .fDict (s _ _ e)
theorem NoInt.same {K : PySem.W.Frag} {H H' : Hp} {x : V} (h : NoInt K H x) (s : Same H H') : NoInt K H' x := by
  obtain ⟨t, b1, b2, ty, h1, h2, h3⟩ := h
  exact ⟨t, b1, b2, ty_same ty s, h1, h2, h3⟩
theorem last_take {ns : List Int} {i : Nat} {n : Int} (h : ns[i]? = some n) : (ns.take (i + 1)).getLastD 0 = n := by
  rw [take_more h]; simp
theorem asc_ahead {ns : List Int} (h : Asc ns) {i : Nat} {n : Int} (hn : ns[i]? = some n) : (ns.take i).getLastD 0 < n := by
  cases i with
  | zero => simp; have := h.rng n (List.mem_of_getElem? hn); omega
  | succ j =>
    have hj : j < ns.length := by have := lt_of_get hn; omega
    have hg := List.getElem?_eq_getElem hj
    rw [last_take hg]
    obtain ⟨h1, h2⟩ := List.getElem?_eq_some_iff.mp hn
    rw [← h2]
    exact (List.pairwise_iff_getElem.mp h.asc) j (j + 1) hj h1 (by omega)
theorem ahead_nn {ns : List Int} (h : Asc ns) : 0 ≤ ns.getLastD 0 := by
  cases e : ns.getLast? with
  | none => rw [List.getLastD_eq_getLast?, e]; exact Int.le_refl _
  | some z =>
    rw [List.getLastD_eq_getLast?, e]
    have := h.rng z (List.mem_of_getLast? e)
    show 0 ≤ z
    omega
section
variable {P : Program} {w : World} {K : PySem.W.Frag} {mg : Str → Option Value} {base : Heap} {CR fR : Addr}
theorem ok_check {f : Addr} {fd : FuncData} (T : Bi mg) (C : Cs mg) (TR : PySem.Tide.TideTxt P K mg "BadRow" CR fR "at") (D_is_number : Def P w K mg base CX0 2 "is_number" pIsNum (spIsNum K)) (F : Fun K "check_row" "check_row" sCheck f fd) :
    FnOk P w K mg base (L2.CX P w) 3 f fd pCheck (spCheck K CR) := by
  have nd := scCheck.nd
  refine F.okX scCheck (fun vs H Q E h => ?_) (fun cdv A outer s H vs Q E hr h => ?_)
  · obtain ⟨x, rfl, _⟩ := h
    rfl
  · obtain ⟨x, rfl, h⟩ := h
    refine ⟨_, (pss_cons (ps_if (pt_not (pt_val (pe_callB (call_isiTK (K := K) rfl) (by rfl) T.isinstance PyProof.Rows.boot_isinstance (pa_cons (pv 0) (pa_cons (pe_tup (pa_cons (pe_bltn (v := .ty "list") rfl T.list PyProof.Rows.boot_list rfl) (pa_cons (pe_bltn (v := .ty "tuple") rfl T.tuple PyProof.Rows.boot_tuple rfl) pa_nil))) pa_nil)))))
  (pss_one (ps_raiseTide rfl TR hr (takes_of rfl rfl rfl rfl) (pa_cons (pe_un un_neg pe_int) pa_nil)))
  pss_nil)
 (pss_cons (ps_set (i := 1) nd rfl (Or.inl rfl) pe_int)
 (pss_one (ps_for (passes_of rfl) rfl (pi_enumSK (K := K) rfl (by rfl) T.enumerate (pa_cons (pv 0) pa_nil)) (pg_tup rfl (pgs_cons (pg_name (i := 2) nd rfl (Or.inl rfl)) (pgs_cons (pg_name (i := 3) nd rfl (Or.inl rfl)) pgs_nil)))
  (pss_cons (ps_if (PW.pt (pw_or (pt_cmpR op_eq (pv 2) (pe_const C.MOST_THERE rfl) (nomark _)) (pw_or (pt_not (pt_val (pe_def D_is_number (hr.mono (by decide)) rfl pass0 (pa_cons (pv 3) pa_nil)))) (pw_or1 (pt_not (pt_chain op_lt op_le (pv 1) (pv 3) (pe_const C.GREATEST rfl)))))))
  (pss_one (ps_raiseTide rfl TR hr (takes_of rfl rfl rfl rfl) (pa_cons (pv 2) pa_nil)))
  pss_nil)
 (pss_one (ps_set (i := 1) nd rfl (Or.inl rfl) (pv 3)))))))), ?_⟩
    have kt : ∀ {H1 : Hp} {t : String} {b1 b2 : Bool} {x : V}, TyX K H1 x (.type t) → kitB t "list" = some b1 → kitB t "tuple" = some b2 → PySem.W.kitAny K (.type t) [.type "list", .type "tuple"] = some (b1 || b2) := fun {H1 t b1 b2 x} ty h1 h2 =>
      kitAny_cons (b := b1) (kit_ty h1) (fun e => by subst e; exact kitAny_cons (b := b2) (kit_ty h2) (fun e => by subst e; exact kitAny_nil) fun e => by subst e; rfl) fun e => by subst e; rfl
    have hcases : (NoSeq K H x ∧ ErrAt CR "at" (.int (-1)) H E) ∨ (∃ (a : Addr) (ns : List Int) (tl : List V), x = .ref a ∧ SeqIs K H a (ns.map V.int ++ tl) ∧ Asc ns ∧ ns.length ≤ 200 ∧ (tl = [] → ∀ H', Same H H' → Q .non H') ∧ ∀ y zs, tl = y :: zs → BadItem K H ns y ∧ ErrAt CR "at" (.int ns.length) H E) := by
      rcases h with ⟨a, ns, rfl, h1, h2, h3, h4⟩ | h | ⟨a, ns, y, zs, rfl, h1, h2, h3, h4, h5⟩
      · exact .inr ⟨a, ns, [], rfl, (by rw [List.append_nil]; exact h1), h2, h3, (fun _ => h4), (fun y zs e => by cases e)⟩
      · exact .inl h
      · exact .inr ⟨a, ns, y :: zs, rfl, h1, h2, h3, (fun e => by cases e), (fun y' zs' e => by cases e; exact ⟨h4, h5⟩)⟩
    rcases hcases with ⟨⟨t, ty, h1, h2⟩, er⟩ | ⟨a, ns, tl, rfl, hS, hA, hl, kQ, kE⟩
    · refine ⟨_, rfl, (by show 2 ≤ sizeLine; decide), fun tp ntp => ?_⟩
      refine ⟨x, tp, [.ty "list", .ty "tuple"], .type t, [.type "list", .type "tuple"], false, rfl, upd_same, .cons (.ty _) (.cons (.ty _) .nil), ty_same ty (same_new ntp), kt ty h1 h2, _, rfl, ?_⟩
      refine itbT rfl ⟨1, rfl, _, rfl, fun d nd => ?_⟩
      exact er d _ ((same_new ntp).new nd) upd_same
    · refine ⟨_, rfl, (by show 2 ≤ sizeLine; decide), fun tp ntp => ?_⟩
      obtain ⟨t, ty, hk⟩ : ∃ t : String, TyX K H (.ref a) (.type t) ∧ PySem.W.kitAny K (.type t) [.type "list", .type "tuple"] = some true := by
        rcases hS with ⟨_, ty⟩ | ⟨_, ty⟩
        · exact ⟨_, ty, kt (b1 := true) (b2 := false) ty (by decide +kernel) (by decide +kernel)⟩
        · exact ⟨_, ty, kt (b1 := false) (b2 := true) ty (by decide +kernel) (by decide +kernel)⟩
      refine ⟨.ref a, tp, [.ty "list", .ty "tuple"], .type t, [.type "list", .type "tuple"], true, rfl, upd_same, .cons (.ty _) (.cons (.ty _) .nil), ty_same ty (same_new ntp), hk, _, rfl, ?_⟩
      refine itbF rfl ?_
      refine ⟨_, rfl, a, ns.map V.int ++ tl, rfl, for_enumS (H0 := H) hS.sq (fun i σ H1 => ∃ (v2 v3 : Option V), σ = [some (.ref a), some (.int ((ns.take i).getLastD 0)), v2, v3] ∧ Same H H1 ∧ i ≤ ns.length) ?_ ?_ ?_ ?_⟩
      · exact ⟨none, none, rfl, same_new ntp, Nat.zero_le _⟩
      · rintro i σ' H' ⟨v2, v3, rfl, s1, _⟩
        exact s1
      · rintro i y σ H1 Tt hy ⟨v2, v3, rfl, s1, hi⟩ nT
        refine ⟨Tt, [.int (i : Nat), y], rfl, st upd_same, rfl, .int (i : Nat), [y], rfl, y, [], rfl, rfl, ?_⟩
        have s2 := s1.new nT (o := .tup [.int (i : Nat), y])
        by_cases c : i < ns.length
        · have hn := List.getElem?_eq_getElem c
          have hyn : y = .int ns[i] := by
            rw [List.getElem?_append_left (by rw [List.length_map]; exact c), List.getElem?_map, hn] at hy
            exact (Option.some.inj hy).symm
          subst hyn
          have hr := hA.rng _ (List.getElem_mem c)
          have hah := asc_ahead hA hn
          refine ⟨_, rfl, rfl, _, rfl, itbF (decide_eq_false fun h => ?_) ?_⟩
          · have := V.int.inj h; omega
          refine ⟨_, rfl, .int ns[i], rfl, .inl ⟨_, rfl, _, rfl, ?_⟩⟩
          refine itbF (by rw [decide_eq_true hr.1]; rfl) ?_
          refine ⟨_, rfl, _, rfl, _, _, rfl, rfl, _, rfl, ?_⟩
          refine itbT (decide_eq_true hah) ⟨_, _, rfl, rfl, _, rfl, ?_⟩
          refine itbF (by rw [decide_eq_true hr.2]; rfl) ?_
          refine ⟨_, rfl, some (V.int (i : Nat)), some (V.int ns[i]), ?_, s2, c⟩
          rw [last_take hn]; rfl
        · have hin : i = ns.length := by omega
          subst hin
          rw [List.getElem?_append_right (by rw [List.length_map]; exact Nat.le_refl _), List.length_map, Nat.sub_self] at hy
          obtain ⟨zs, rfl⟩ : ∃ zs, tl = y :: zs := by
            cases tl with
            | nil => simp at hy
            | cons z zs =>
              simp at hy
              exact ⟨zs, by rw [hy]⟩
          obtain ⟨hb, er⟩ := kE y zs rfl
          rw [List.take_length]
          have hnn := ahead_nn hA
          refine ⟨_, rfl, rfl, _, rfl, ?_⟩
          by_cases c2 : ns.length = 200
          · refine itbT (by rw [c2]; rfl) (itbT rfl ⟨_, rfl, _, rfl, fun d nd => ?_⟩)
            exact er d _ (s2.new nd) upd_same
          · refine itbF (decide_eq_false fun h => c2 (by have := V.int.inj h; omega)) ?_
            rcases hb with hb | ⟨m, rfl, hm⟩ | hb
            · exact absurd hb c2
            · refine ⟨_, rfl, .int m, rfl, .inl ⟨m, rfl, _, rfl, ?_⟩⟩
              by_cases c3 : 1 ≤ m
              · refine itbF (by rw [decide_eq_true c3]; rfl) ?_
                refine ⟨_, rfl, _, rfl, _, _, rfl, rfl, _, rfl, ?_⟩
                by_cases c4 : ns.getLastD 0 < m
                · refine itbT (decide_eq_true c4) ⟨_, _, rfl, rfl, _, rfl, ?_⟩
                  have c5 : ¬ m ≤ G := fun h => hm ⟨c4, h⟩
                  refine itbT (by rw [decide_eq_false c5]; rfl) ⟨_, rfl, _, rfl, fun d nd => ?_⟩
                  exact er d _ (s2.new nd) upd_same
                · refine itbF (decide_eq_false c4) ⟨_, rfl, itbT rfl ⟨_, rfl, _, rfl, fun d nd => ?_⟩⟩
                  exact er d _ (s2.new nd) upd_same
              · refine itbT (by rw [decide_eq_false c3]; rfl) (itbT rfl ⟨_, rfl, _, rfl, fun d nd => ?_⟩)
                exact er d _ (s2.new nd) upd_same
            · refine ⟨_, rfl, y, rfl, .inr ⟨hb.same s2, _, rfl, itbT rfl (itbT rfl ⟨_, rfl, _, rfl, fun d nd => ?_⟩)⟩⟩
              exact er d _ (s2.new nd) upd_same
      · rintro σ H1 ⟨v2, v3, rfl, s1, hi⟩
        refine kQ ?_ H1 s1
        rw [List.length_append, List.length_map] at hi
        exact List.eq_nil_of_length_eq_zero (by omega)
theorem def_check (T : Bi mg) (C : Cs mg) (TR : PySem.Tide.TideTxt P K mg "BadRow" CR fR "at") (D_is_number : Def P w K mg base CX0 2 "is_number" pIsNum (spIsNum K)) (a : At K mg "check_row" sCheck) :
    Def P w K mg base (L2.CX P w) 3 "check_row" pCheck (spCheck K CR) :=
  a.def (fun _ _ _ _ _ _ us hl => match us, hl with | [_], _ => rfl) fun f fd F => ok_check T C TR D_is_number F
end
end K1


set_option Elab.async false
set_option linter.all false
set_option maxRecDepth 100000
set_option maxHeartbeats 4000000
namespace K1
open PySem PySem.Spec PyProof.Rows L2 TL
abbrev sItemsOf : Stmt := st_items_of
abbrev nItemsOf : List Str := ["text", "items", "item", "word", "ends"]
abbrev pItemsOf : List Str := ["text"]
theorem scItemsOf : FnScope nItemsOf pItemsOf (defScope sItemsOf) := ⟨rfl, rfl, rfl, by decide +kernel, rfl, by decide +kernel, by decide +kernel⟩
abbrev sIsSet : Stmt := st_is_set_text
abbrev nIsSet : List Str := ["value", "item", "ends", "word"]
abbrev pIsSet : List Str := ["value"]
theorem scIsSet : FnScope nIsSet pIsSet (defScope sIsSet) := ⟨rfl, rfl, rfl, by decide +kernel, rfl, by decide +kernel, by decide +kernel⟩
def scOf : Stmt → Scope
  | .Assign _ (.ListComp _ _ sc _) _ => sc
  | _ => defScope sItemsOf
abbrev scItem : Scope := scOf ((defBody sItemsOf).getD 1 (.Pass ⟨0, 0, 0, 0⟩))
/-! ### what a text means as a set text -/
def endsOf (it : Str) : List (Option Int) := (Txt.split it ":").map fun w => endL (tl w)
def okEnds (l : List (Option Int)) : Bool := decide (l.length ≤ 2) && !(l.any fun e => e.isNone)
def pairOf (l : List (Option Int)) : Int × Int := ((l.headD none).getD 0, (l.getLastD none).getD 0)
def good (t : Str) : Bool := (Txt.split t ",").all fun it => okEnds (endsOf it)
def pairs (t : Str) : List (Int × Int) := (Txt.split t ",").map fun it => pairOf (endsOf it)
theorem spl_len {S : List Nat} : ∀ (l : List Nat) (k : Nat) (acc : List Nat), (spl S k acc l).length ≤ l.length + 1
  | [], k, acc => by rw [spl_nil]; exact Nat.le_refl _
  | c :: r, 0, acc => by
    unfold spl
    split
    · have := spl_len (S := S) r (S.length - 1) []
      simp only [List.length_cons]; omega
    · have := spl_len (S := S) r 0 (acc ++ [c])
      simp only [List.length_cons]; omega
  | c :: r, k + 1, acc => by
    show (spl S k acc r).length ≤ _
    have := spl_len (S := S) r k acc
    simp only [List.length_cons]; omega
theorem spl_ne {S : List Nat} : ∀ (l : List Nat) (k : Nat) (acc : List Nat), spl S k acc l ≠ []
  | [], k, acc => by rw [spl_nil]; simp
  | c :: r, 0, acc => by
    unfold spl
    split
    · simp
    · exact spl_ne r 0 (acc ++ [c])
  | c :: r, k + 1, acc => by
    show spl S k acc r ≠ _
    exact spl_ne r k acc
theorem spl_piece {S : List Nat} : ∀ (l : List Nat) (k : Nat) (acc p : List Nat), p ∈ spl S k acc l → p.length ≤ acc.length + l.length
  | [], k, acc, p, h => by rw [spl_nil, List.mem_singleton] at h; rw [h]; simp
  | c :: r, 0, acc, p, h => by
    unfold spl at h
    split at h
    · rcases List.mem_cons.mp h with rfl | h
      · omega
      · have := spl_piece r (S.length - 1) [] p h
        simp only [List.length_cons, List.length_nil] at this ⊢; omega
    · have := spl_piece r 0 (acc ++ [c]) p h
      rw [List.length_append] at this
      simp only [List.length_cons, List.length_nil] at this ⊢; omega
  | c :: r, k + 1, acc, p, h => by
    have := spl_piece r k acc p h
    simp only [List.length_cons]; omega
theorem comma_tl : tl ("," : Str) = [44] := by decide +kernel
theorem colon_tl : tl (":" : Str) = [58] := by decide +kernel
theorem split_comma (t : Str) : (Txt.split t ",").map tl = spl [44] 0 [] (tl t) := by
  rw [split_spl t "," (by rw [comma_tl]; simp) (kind_ok (by decide +kernel)), comma_tl]
theorem split_colon (t : Str) : (Txt.split t ":").map tl = spl [58] 0 [] (tl t) := by
  rw [split_spl t ":" (by rw [colon_tl]; simp) (kind_ok (by decide +kernel)), colon_tl]
theorem split_facts {t sep : Str} {S : List Nat} (h : (Txt.split t sep).map tl = spl S 0 [] (tl t)) : (Txt.split t sep).length ≤ t.length + 1 ∧ Txt.split t sep ≠ [] ∧ ∀ p ∈ Txt.split t sep, p.length ≤ t.length := by
  refine ⟨?_, fun e => ?_, fun p hp => ?_⟩
  · have := spl_len (S := S) (tl t) 0 []
    rw [← h, List.length_map] at this
    rw [len_tl]; exact this
  · rw [e] at h
    exact spl_ne _ _ _ h.symm
  · have hm : tl p ∈ spl S 0 [] (tl t) := by rw [← h]; exact List.mem_map_of_mem hp
    have := spl_piece _ _ _ _ hm
    rw [len_tl, len_tl]; simpa using this
theorem inV_none : ∀ l : List (Option Int), inV .non (l.map optV) = l.any fun e => e.isNone
  | [] => rfl
  | none :: r => by unfold inV; simp [optV, eqV]
  | some n :: r => by
    have ih := inV_none r
    unfold inV at ih ⊢
    rw [List.map_cons, List.any_cons, List.any_cons, ih]
    rfl
theorem flat_opt : ∀ l : List (Option Int), (l.map optV).all flatV = true
  | [] => rfl
  | none :: r => by rw [List.map_cons, List.all_cons, flat_opt r]; rfl
  | some n :: r => by rw [List.map_cons, List.all_cons, flat_opt r]; rfl
def NoStr (K : PySem.W.Frag) (H : Hp) (x : V) : Prop := ∃ t : String, TyX K H x (.type t) ∧ kitB t "str" = some false
def spItemsOf (K : PySem.W.Frag) (C : Addr) : Sp := fun vs H Q E => ∃ (x : V), vs = [x] ∧
  ((∃ t : Str, x = .str t ∧ t.length ≤ 10000 ∧ (good t = true → ∀ (r : Addr) (H' : Hp), H r = none → Same H H' → SpansAt H' r (pairs t) → Q (.ref r) H') ∧ (good t = false → ErrAt C "value" (.str t) H E)) ∨
   (NoStr K H x ∧ ErrAt C "value" x H E))
def spIsSet (K : PySem.W.Frag) : Sp := fun vs H Q _ => ∃ (x : V), vs = [x] ∧ ((∃ t : Str, x = .str t ∧ t.length ≤ 10000 ∧ ∀ H', Same H H' → Q (.bl (good t)) H') ∨ (NoStr K H x ∧ Q (.bl false) H))
section
variable {P : Program} {w : World} {K : PySem.W.Frag} {mg : Str → Option Value} {base : Heap} {CS fS : Addr}
theorem ok_isSet {f : Addr} {fd : FuncData} (T : Bi mg) (D_end_of : Def P w K mg base CX0 1 "_end_of" pEndOf spEndOf) (F : Fun K "is_set_text" "is_set_text" sIsSet f fd) : FnOk P w K mg base CX0 2 f fd pIsSet (spIsSet K) := by
  have nd := scIsSet.nd
  refine F.ok scIsSet (fun vs H Q E h => ?_) (fun cdv A outer s H vs Q E hr h => ?_)
  · obtain ⟨x, rfl, _⟩ := h
    rfl
  · obtain ⟨x, rfl, h⟩ := h
    refine ⟨_, (pss_cons (ps_if (pt_not (pt_val (pe_callB (call_isiK1 (K := K) rfl) (by rfl) T.isinstance PyProof.Rows.boot_isinstance (pa_cons (pv 0) (pa_cons (pe_bltn (v := .ty "str") rfl T.str PyProof.Rows.boot_str rfl) pa_nil)))))
  (pss_one (ps_ret pe_bl))
  pss_nil)
 (pss_cons (ps_for PassesOwn.never rfl (pi_listK (K := K) rfl (pe_split (pv 0) pe_str)) (pg_name (i := 1) nd rfl (Or.inl rfl))
  (pss_cons (ps_setLc (i := 2) (own := [("word", 3)]) (g := gName 3) (tt := tYes) rfl nd rfl rfl (sw_true rfl rfl rfl (by decide +kernel)) (pi_listK (K := K) rfl (pe_split (pv 1) pe_str)) (blkOk_by (own := [("word", 3)]) (N := nIsSet) (sc := defScope sIsSet) (by decide +kernel)) (fun _ _ _ _ _ => pg_name (i := 3) nd rfl (Or.inl rfl)) (fun _ _ _ _ _ => pts_nil) (fun _ _ _ _ _ => (pe_def D_end_of (hr.mono (by decide)) rfl pass0 (pa_cons (pv 3) pa_nil))))
 (pss_one (ps_if (PW.pt (pw_or (pt_cmpR op_gt (pe_callB (call_lenK (K := K) rfl) (by rfl) T.len PySem.boot_len (pa_cons (pv 2) pa_nil)) pe_int (nomark _)) (pw_or1 (pt_cmpR (op_in_seqK (K := K) rfl) pe_non (pv 2) (by rfl)))))
  (pss_one (ps_ret pe_bl))
  pss_nil))))
 (pss_one (ps_ret pe_bl)))), ?_⟩
    rcases h with ⟨t, rfl, htl, k⟩ | ⟨⟨t, ty, h1⟩, k⟩
    · refine ⟨_, rfl, .str t, .ty "str", .type "str", .type "str", true, rfl, .ty _, .base (.str t), kit_ty (by decide +kernel), _, rfl, itbF rfl ?_⟩
      obtain ⟨hn1, hn2, hn3⟩ := split_facts (split_comma t)
      refine ⟨_, rfl, ⟨_, rfl⟩, t, ",", rfl, rfl, by decide +kernel, lt1 _ (by omega), fun p np => ?_⟩
      refine ⟨p, rfl, ⟨_, sq upd_same⟩, for_list (K := K) (a := p) (xs := (Txt.split t ",").map V.str) (fun i σ H1 => ∃ (v2 v3 v4 : Option V), σ = [some (.str t), v2, v3, v4] ∧ Same H H1 ∧ H1 p = some (.lst ((Txt.split t ",").map V.str)) ∧
          ((Txt.split t ",").take i).all (fun it => okEnds (endsOf it)) = true) ?_ ?_ ?_ ?_⟩
      · exact ⟨none, none, none, rfl, same_new np, upd_same, rfl⟩
      · rintro i σ H1 _ ⟨v2, v3, v4, rfl, _, hp, _⟩
        exact sq hp
      · rintro i y σ H1 hy ⟨v2, v3, v4, rfl, s1, hp, hall⟩
        obtain ⟨it, hit, rfl⟩ : ∃ it, (Txt.split t ",")[i]? = some it ∧ y = .str it := by
          rw [List.getElem?_map] at hy
          cases e : (Txt.split t ",")[i]? with
          | none => rw [e] at hy; cases hy
          | some z => rw [e] at hy; exact ⟨z, rfl, (Option.some.inj hy).symm⟩
        have hil := lt_of_get hit
        have hitl := hn3 it (List.mem_of_getElem? hit)
        obtain ⟨hm1, hm2, hm3⟩ := split_facts (split_colon it)
        refine ⟨_, rfl, ⟨_, rfl⟩, it, ":", rfl, rfl, by decide +kernel, lt1 _ (by omega), fun u nu => ?_⟩
        refine ⟨u, rfl, ⟨_, sq upd_same⟩, fun D hD => ?_⟩
        have bad : okEnds (endsOf it) = false → good t = false := fun h => by
          unfold good
          rw [List.all_eq_false]
          exact ⟨it, List.mem_of_getElem? hit, by rw [h]; exact Bool.false_ne_true⟩
        have nDu : D ≠ u := (ne_of_none (show (upd H1 u (.lst ((Txt.split it ":").map V.str))) u = _ from upd_same) hD).symm
        have hD1 : H1 D = none := (same_new nu).free hD
        have hel : (endsOf it).length ≤ 10001 := by unfold endsOf; rw [List.length_map]; omega
        refine lc_list (K := K) (a := u) (xs := (Txt.split it ":").map V.str) (fun k G => Same H1 G ∧ G u = some (.lst ((Txt.split it ":").map V.str)) ∧ G D = some (.lst (((endsOf it).take k).map optV)))
          ⟨(same_new nu).new hD, same_new hD _ _ upd_same, by rw [upd_same]; rfl⟩ (fun k G _ h => sq h.2.1) ?_ ?_
        · rintro k z G hz ⟨sk, huk, hDk⟩
          obtain ⟨wd, hw, rfl⟩ : ∃ wd, (Txt.split it ":")[k]? = some wd ∧ z = .str wd := by
            rw [List.getElem?_map] at hz
            cases e : (Txt.split it ":")[k]? with
            | none => rw [e] at hz; cases hz
            | some z => rw [e] at hz; exact ⟨z, rfl, (Option.some.inj hz).symm⟩
          have hwl := hm3 wd (List.mem_of_getElem? hw)
          have he : (endsOf it)[k]? = some (endL (tl wd)) := by
            unfold endsOf
            rw [List.getElem?_map, hw]; rfl
          refine ⟨rfl, tyes ⟨_, rfl, wd, rfl, by omega, _, hDk, lt2 _ ?_, sk.mut hD1, by rw [upd_ne nDu.symm]; exact huk, ?_⟩⟩
          · rw [List.length_map, List.length_take]; omega
          · rw [upd_same, take_more he, List.map_append]; rfl
        rintro H2 ⟨s2, hu2, hD2⟩
        have hDl : (((Txt.split it ":").map V.str).length) = (endsOf it).length := by unfold endsOf; rw [List.length_map, List.length_map]
        rw [hDl, List.take_length] at hD2
        have s12 := s1.trans s2
        refine ⟨_, rfl, D, _, rfl, .inl (sq hD2), _, _, rfl, rfl, _, rfl, ?_⟩
        rw [List.length_map]
        by_cases c : (endsOf it).length ≤ 2
        · refine itbF (decide_eq_false (by omega)) ⟨_, rfl, D, _, rfl, .inl (sq hD2), rfl, flat_opt _, _, rfl, ?_⟩
          show (if (inV .non ((endsOf it).map optV)) = true then _ else _)
          rw [inV_none]
          cases ha : (endsOf it).any fun e => e.isNone with
          | true =>
            have e := k H2 s12
            rw [bad (by unfold okEnds; rw [ha]; simp)] at e
            exact itbT rfl e
          | false =>
            refine itbF rfl ⟨_, _, _, rfl, s12, s2 _ _ hp, ?_⟩
            have hok : okEnds (endsOf it) = true := by unfold okEnds; rw [ha, decide_eq_true c]; rfl
            rw [take_more hit, List.all_append, hall]
            simp [hok]
        · have e := k H2 s12
          rw [bad (by unfold okEnds; rw [decide_eq_false c]; rfl)] at e
          exact itbT (decide_eq_true (by omega)) (itbT rfl e)
      · rintro σ H1 ⟨v2, v3, v4, rfl, s1, hp, hall⟩
        rw [List.length_map, List.take_length] at hall
        have e := k H1 s1
        rw [show good t = true from hall] at e
        exact e
    · exact ⟨_, rfl, x, .ty "str", .type t, .type "str", false, rfl, .ty _, ty, kit_ty h1, _, rfl, itbT rfl k⟩
theorem def_isSet (T : Bi mg) (D_end_of : Def P w K mg base CX0 1 "_end_of" pEndOf spEndOf) (a : At K mg "is_set_text" sIsSet) : Def P w K mg base CX0 2 "is_set_text" pIsSet (spIsSet K) :=
  a.def (fun _ _ _ _ _ _ us hl => match us, hl with | [_], _ => rfl) fun f fd F => ok_isSet T D_end_of F
theorem ok_itemsOf {f : Addr} {fd : FuncData} (T : Bi mg) (TS : PySem.Tide.TideTxt P K mg "BadSet" CS fS "value") (D_end_of : Def P w K mg base CX0 1 "_end_of" pEndOf spEndOf) (D_is_set_text : Def P w K mg base CX0 2 "is_set_text" pIsSet (spIsSet K)) (F : Fun K "items_of" "items_of" sItemsOf f fd) :
    FnOk P w K mg base (L2.CX P w) 3 f fd pItemsOf (spItemsOf K CS) := by
  have nd := scItemsOf.nd
  refine F.okX scItemsOf (fun vs H Q E h => ?_) (fun cdv A outer s H vs Q E hr h => ?_)
  · obtain ⟨x, rfl, _⟩ := h
    rfl
  · obtain ⟨x, rfl, h⟩ := h
    refine ⟨_, (pss_cons (ps_if (pt_not (pt_val (pe_def D_is_set_text (hr.mono (by decide)) rfl pass0 (pa_cons (pv 0) pa_nil))))
  (pss_one (ps_raiseTide rfl TS hr (takes_of rfl rfl rfl rfl) (pa_cons (pv 0) pa_nil)))
  pss_nil)
 (pss_cons (ps_setLc (i := 1) (own := [("item", 2)]) (g := gName 2) (tt := tYes) rfl nd rfl rfl (sw_true rfl rfl rfl (by decide +kernel)) (pi_listK (K := K) rfl (pe_split (pv 0) pe_str)) (blkOk_by (own := [("item", 2)]) (N := nItemsOf) (sc := defScope sItemsOf) (by decide +kernel)) (fun _ _ _ _ _ => pg_name (i := 2) nd rfl (Or.inl rfl)) (fun _ _ _ _ _ => pts_nil) (fun _ _ _ _ _ => (pe_lc (own := [("word", 3)]) (g := gName 3) (tt := tYes) rfl nd (pi_listK (K := K) rfl (pe_split (pv 2) pe_str)) (blkOk_by (own := [("word", 3)]) (N := nItemsOf) (sc := scItem) (by decide +kernel)) (fun _ _ _ _ _ => pg_name (i := 3) nd rfl (Or.inl rfl)) (fun _ _ _ _ _ => pts_nil) (fun _ _ _ _ _ => (pe_def D_end_of (hr.mono (by decide)) rfl pass0 (pa_cons (pv 3) pa_nil))))))
 (pss_one (ps_ret (pe_lc (own := [("ends", 4)]) (g := gName 4) (tt := tYes) rfl nd (pi_listK (K := K) rfl (pv 1)) (blkOk_by (own := [("ends", 4)]) (N := nItemsOf) (sc := defScope sItemsOf) (by decide +kernel)) (fun _ _ _ _ _ => pg_name (i := 4) nd rfl (Or.inl rfl)) (fun _ _ _ _ _ => pts_nil) (fun _ _ _ _ _ => (pe_tup (pa_cons (pe_ix (ix_listK (K := K) rfl) (pv 4) pe_int (fun _ _ => rfl)) (pa_cons (pe_ix (ix_listK (K := K) rfl) (pv 4) (pe_un un_neg pe_int) (fun _ _ => rfl)) pa_nil))))))))), ?_⟩
    rcases h with ⟨t, rfl, htl, kG, kB⟩ | ⟨hno, er⟩
    rotate_left
    · exact ⟨_, rfl, x, rfl, .inr ⟨hno, _, rfl, itbT rfl ⟨_, rfl, _, rfl, fun d nd => er d _ (same_new nd) upd_same⟩⟩⟩
    refine ⟨_, rfl, .str t, rfl, .inl ⟨t, rfl, htl, fun H1 s1 => ⟨_, rfl, ?_⟩⟩⟩
    by_cases hg : good t = true
    rotate_left
    · have hg' : good t = false := by simpa using hg
      exact itbT (by rw [hg']; rfl) ⟨_, rfl, _, rfl, fun d nd => kB hg' d _ (s1.new nd) upd_same⟩
    refine itbF (by rw [hg]; rfl) ?_
    obtain ⟨hn1, hn2, hn3⟩ := split_facts (split_comma t)
    refine ⟨_, rfl, ⟨_, rfl⟩, t, ",", rfl, rfl, by decide +kernel, lt1 _ (by omega), fun p np => ?_⟩
    refine ⟨p, rfl, ⟨_, sq upd_same⟩, fun D hD => ?_⟩
    have nDp : D ≠ p := (ne_of_none (show (upd H1 p (.lst ((Txt.split t ",").map V.str))) p = _ from upd_same) hD).symm
    have hDH : H D = none := (s1.new np).free hD
    refine lc_list (K := K) (a := p) (xs := (Txt.split t ",").map V.str) (fun j H2 => Same H H2 ∧ H2 p = some (.lst ((Txt.split t ",").map V.str)) ∧ ∃ ads : List Addr, H2 D = some (.lst (ads.map V.ref)) ∧ ads.length = j ∧ ∀ (i : Nat) (d : Addr) (it : Str), ads[i]? = some d → (Txt.split t ",")[i]? = some it → H2 d = some (.lst ((endsOf it).map optV)))
      ⟨(s1.new np).new hD, same_new hD _ _ upd_same, [], upd_same, rfl, fun i d it e => by simp at e⟩ (fun j H2 _ h => sq h.2.1) ?_ ?_
    · rintro j y H2 hy ⟨s2, hp2, ads, hD2, hal, had⟩
      obtain ⟨it, hit, rfl⟩ : ∃ it, (Txt.split t ",")[j]? = some it ∧ y = .str it := by
        rw [List.getElem?_map] at hy
        cases e : (Txt.split t ",")[j]? with
        | none => rw [e] at hy; cases hy
        | some z => rw [e] at hy; exact ⟨z, rfl, (Option.some.inj hy).symm⟩
      have hil := lt_of_get hit
      have hitl := hn3 it (List.mem_of_getElem? hit)
      obtain ⟨hm1, hm2, hm3⟩ := split_facts (split_colon it)
      refine ⟨rfl, tyes ⟨_, rfl, ⟨_, rfl⟩, it, ":", rfl, rfl, by decide +kernel, lt1 _ (by omega), fun u nu => ⟨u, rfl, ⟨_, sq upd_same⟩, fun D2 hD2' => ?_⟩⟩⟩
      have nDu : D2 ≠ u := (ne_of_none (show (upd H2 u (.lst ((Txt.split it ":").map V.str))) u = _ from upd_same) hD2').symm
      have hD1 : H2 D2 = none := (same_new nu).free hD2'
      have hel : (endsOf it).length ≤ 10001 := by unfold endsOf; rw [List.length_map]; omega
      refine lc_list (K := K) (a := u) (xs := (Txt.split it ":").map V.str) (fun k G => Same H2 G ∧ G u = some (.lst ((Txt.split it ":").map V.str)) ∧ G D2 = some (.lst (((endsOf it).take k).map optV)))
        ⟨(same_new nu).new hD2', same_new hD2' _ _ upd_same, by rw [upd_same]; rfl⟩ (fun k G _ h => sq h.2.1) ?_ ?_
      · rintro k z G hz ⟨sk, huk, hDk⟩
        obtain ⟨wd, hw, rfl⟩ : ∃ wd, (Txt.split it ":")[k]? = some wd ∧ z = .str wd := by
          rw [List.getElem?_map] at hz
          cases e : (Txt.split it ":")[k]? with
          | none => rw [e] at hz; cases hz
          | some z => rw [e] at hz; exact ⟨z, rfl, (Option.some.inj hz).symm⟩
        have hwl := hm3 wd (List.mem_of_getElem? hw)
        have he : (endsOf it)[k]? = some (endL (tl wd)) := by
          unfold endsOf
          rw [List.getElem?_map, hw]; rfl
        refine ⟨rfl, tyes ⟨_, rfl, wd, rfl, by omega, _, hDk, lt2 _ ?_, sk.mut hD1, by rw [upd_ne nDu.symm]; exact huk, ?_⟩⟩
        · rw [List.length_map, List.length_take]; omega
        · rw [upd_same, take_more he, List.map_append]; rfl
      rintro H3 ⟨s3, hu2, hE⟩
      have hDl : (((Txt.split it ":").map V.str).length) = (endsOf it).length := by unfold endsOf; rw [List.length_map, List.length_map]
      rw [hDl, List.take_length] at hE
      have n2 : D2 ≠ D := by
        have e := same_new (o := .lst ((Txt.split it ":").map V.str)) nu _ _ hD2
        exact (ne_of_none e hD2').symm
      have hD3 := s3 _ _ hD2
      refine ⟨_, hD3, lt2 _ (by rw [List.length_map]; omega), (s2.trans s3).mut hDH, by rw [upd_ne nDp.symm]; exact s3 _ _ hp2, ads ++ [D2], by rw [upd_same, List.map_append]; rfl, by rw [List.length_append, hal]; rfl, fun i d it' e1 e2 => ?_⟩
      by_cases hi : i < ads.length
      · rw [List.getElem?_append_left hi] at e1
        have old := had i d it' e1 e2
        have nd' : d ≠ D := fun z => by
          rw [z, hD2] at old
          have e3 := HO.lst.inj (Option.some.inj old)
          have l1 : ads.length = (endsOf it').length := by simpa using congrArg List.length e3
          have he : (endsOf it')[0]? = none ∨ ∃ e, (endsOf it')[0]? = some e := by cases (endsOf it')[0]? <;> simp
          rcases he with he | ⟨e, he⟩
          · have : (endsOf it').length = 0 := by simpa using he
            omega
          · have e4 := congrArg (fun l : List V => l[0]?) e3
            simp only [List.getElem?_map, he, Option.map_some] at e4
            have : 0 < ads.length := by omega
            rw [List.getElem?_eq_getElem this] at e4
            cases e <;> simp [optV] at e4
        rw [upd_ne nd']; exact s3 _ _ old
      · have ei : i = ads.length := by
          have := lt_of_get e1
          rw [List.length_append] at this
          simp at this; omega
        subst ei
        rw [List.getElem?_append_right (Nat.le_refl _), Nat.sub_self] at e1
        have : D2 = d := by simpa using e1
        subst this
        rw [hal, hit] at e2
        obtain rfl : it = it' := Option.some.inj e2
        rw [upd_ne n2]; exact hE
    · rintro H2 ⟨s2, hp2, ads, hD2, hal, had⟩
      rw [List.length_map] at hal
      refine ⟨_, rfl, D, rfl, ⟨_, sq hD2⟩, fun L hL => ?_⟩
      have hLH : H L = none := s2.free hL
      have nLD : L ≠ D := (ne_of_none hD2 hL).symm
      refine lc_list (K := K) (a := D) (xs := ads.map V.ref) (fun j H3 => Same H H3 ∧ H3 D = some (.lst (ads.map V.ref)) ∧ (∀ (i : Nat) (d : Addr) (it : Str), ads[i]? = some d → (Txt.split t ",")[i]? = some it → H3 d = some (.lst ((endsOf it).map optV))) ∧ SpansAt H3 L (((Txt.split t ",").take j).map fun it => pairOf (endsOf it)))
        ⟨s2.new hL, same_new hL _ _ hD2, fun i d it e1 e2 => same_new hL _ _ (had i d it e1 e2), [], upd_same, rfl, fun i d s e => by simp at e⟩ (fun j H3 _ h => sq h.2.1) ?_ ?_
      · rintro j y H3 hy ⟨s3, hD3, had3, sps, hS, hsl, hsd⟩
        obtain ⟨d, hd, rfl⟩ : ∃ d, ads[j]? = some d ∧ y = .ref d := by
          rw [List.getElem?_map] at hy
          cases e : ads[j]? with
          | none => rw [e] at hy; cases hy
          | some z => rw [e] at hy; exact ⟨z, rfl, (Option.some.inj hy).symm⟩
        have hjl : j < (Txt.split t ",").length := by rw [← hal]; exact lt_of_get hd
        have hit := List.getElem?_eq_getElem hjl
        generalize (Txt.split t ",")[j] = it at hit
        have hE := had3 j d it hd hit
        have hok : okEnds (endsOf it) = true := List.all_eq_true.mp hg it (List.mem_of_getElem? hit)
        obtain ⟨hm1, hm2, hm3⟩ := split_facts (split_colon it)
        have hne : endsOf it ≠ [] := by
          unfold endsOf
          intro e
          exact hm2 (List.map_eq_nil_iff.mp e)
        unfold okEnds at hok
        rw [Bool.and_eq_true] at hok
        have ha : ((endsOf it).any fun e => e.isNone) = false := by simpa using hok.2
        obtain ⟨fst, rest, hfr⟩ : ∃ fst rest, endsOf it = fst :: rest := by
          cases h : endsOf it with
          | nil => exact absurd h hne
          | cons a r => exact ⟨a, r, rfl⟩
        obtain ⟨init, lst, hil2, _⟩ := last_of (l := endsOf it) (n := (endsOf it).length - 1) (by have := List.length_pos_iff.mpr hne; omega)
        have hnon : ∀ e ∈ endsOf it, ∃ n, e = some n := fun e he => by
          cases e with
          | some n => exact ⟨n, rfl⟩
          | none =>
            have := List.any_eq_false.mp ha none he
            simp at this
        obtain ⟨n1, hn1'⟩ := hnon fst (by rw [hfr]; exact List.mem_cons_self ..)
        obtain ⟨n2, hn2'⟩ := hnon lst (by rw [hil2]; exact List.mem_append_right _ (List.mem_singleton.mpr rfl))
        have hpair : pairOf (endsOf it) = (n1, n2) := by
          unfold pairOf
          have e1 : (endsOf it).headD none = some n1 := by rw [hfr, hn1']; rfl
          have e2 : (endsOf it).getLastD none = some n2 := by rw [hil2, hn2']; simp
          rw [e1, e2]; rfl
        have at0 : atI ((endsOf it).map optV) 0 = some (.int n1) := by rw [hfr, hn1']; exact atI_nat (j := 0) rfl
        have at1 : atI ((endsOf it).map optV) (-1) = some (.int n2) := by rw [hil2, hn2', List.map_append]; exact atI_last _ _
        refine ⟨rfl, tyes ⟨_, rfl, d, _, 0, _, rfl, rfl, sq hE, at0, _, rfl, 1, rfl, d, _, -1, _, rfl, rfl, sq hE, at1, (by show 2 ≤ sizeLine; decide), fun o no => ?_⟩⟩
        have noL : o ≠ L := (ne_of_none hS no).symm
        rw [List.length_map, List.length_take] at hsl
        refine ⟨_, same_new no _ _ hS, lt2 _ (by rw [List.length_map]; omega), (s3.new no).mut hLH, by rw [upd_ne nLD.symm]; exact same_new no _ _ hD3, fun i d' it' e1 e2 => ?_, ?_⟩
        · have old := had3 i d' it' e1 e2
          have nd' : d' ≠ L := fun z => by
            have h0 := had i d' it' e1 e2
            rw [z, hL] at h0; cases h0
          rw [upd_ne nd']; exact same_new no _ _ old
        · rw [take_more hit, List.map_append, List.map_cons, hpair]
          refine SpansAt.snoc (H := H3) (ads := sps) (by rw [List.length_map, List.length_take]; exact hsl) hsd (fun d' x e => ?_) upd_same (by rw [upd_ne noL]; exact upd_same)
          have nd' : d' ≠ L := fun e' => by rw [e', hS] at e; cases e
          rw [upd_ne nd']; exact same_new no _ _ e
      · rintro H3 ⟨s3, hD3, had3, hS⟩
        rw [List.length_map, hal, List.take_length] at hS
        exact kG hg L H3 hLH s3 hS
theorem def_itemsOf (T : Bi mg) (TS : PySem.Tide.TideTxt P K mg "BadSet" CS fS "value") (D_end_of : Def P w K mg base CX0 1 "_end_of" pEndOf spEndOf) (D_is_set_text : Def P w K mg base CX0 2 "is_set_text" pIsSet (spIsSet K)) (a : At K mg "items_of" sItemsOf) :
    Def P w K mg base (L2.CX P w) 3 "items_of" pItemsOf (spItemsOf K CS) :=
  a.def (fun _ _ _ _ _ _ us hl => match us, hl with | [_], _ => rfl) fun f fd F => ok_itemsOf T TS D_end_of D_is_set_text F
end
end K1


set_option Elab.async false
set_option linter.all false
set_option maxRecDepth 100000
set_option maxHeartbeats 4000000
namespace K1
open PySem PySem.Spec PyProof.Rows L2 TL
theorem ix_seqK {X : Cx} {K : PySem.W.Frag} (h : X.K = K) : IxR X (rIx K) := by subst h; exact ix_seq
abbrev sMeant : Stmt := st_meant
abbrev nMeant : List Str := ["text", "there", "items"]
abbrev pMeant : List Str := ["text", "there"]
theorem scMeant : FnScope nMeant pMeant (defScope sMeant) := ⟨rfl, rfl, rfl, by decide +kernel, rfl, by decide +kernel, by decide +kernel⟩
abbrev sFound : Stmt := st_found_among
abbrev nFound : List Str := ["items", "there", "item"]
abbrev pFound : List Str := ["items", "there"]
theorem scFound : FnScope nFound pFound (defScope sFound) := ⟨rfl, rfl, rfl, by decide +kernel, rfl, by decide +kernel, by decide +kernel⟩
theorem SeqIs.same {K : PySem.W.Frag} {H H' : Hp} {a : Addr} {xs : List V} (h : SeqIs K H a xs) (s : Same H H') : SeqIs K H' a xs :=
  h.elim (fun h => .inl ⟨s.seq h.1, ty_same h.2 s⟩) fun h => .inr ⟨s.tup h.1, ty_same h.2 s⟩
theorem NoSeq.same {K : PySem.W.Frag} {H H' : Hp} {x : V} (h : NoSeq K H x) (s : Same H H') : NoSeq K H' x := let ⟨t, a, b, c⟩ := h; ⟨t, ty_same a s, b, c⟩
theorem BadItem.same {K : PySem.W.Frag} {H H' : Hp} {ns : List Int} {y : V} (h : BadItem K H ns y) (s : Same H H') : BadItem K H' ns y := h.elim .inl fun h => .inr (h.elim .inl fun h => .inr (h.same s))
theorem ErrAt.same {C : Addr} {fl : Str} {v : V} {H H1 : Hp} {E : XK} (h : ErrAt C fl v H E) (s : Same H H1) : ErrAt C fl v H1 E := fun d H' s' e => h d H' (s.trans s') e
def Mean (ps : List (Int × Int)) (ns : List Int) (n : Int) : Prop := ∃ p ∈ ps, pIn [stV (ns.getLastD 0) p.1, stV (ns.getLastD 0) p.2] n = true
/-- what is no set text -/
def BadT (K : PySem.W.Frag) (H : Hp) (x : V) : Prop := (∃ t : Str, x = .str t ∧ t.length ≤ 10000 ∧ good t = false) ∨ NoStr K H x
/-- what is no row: the field of the error -/
def BadR (K : PySem.W.Frag) (H : Hp) (y : V) (at' : Int) : Prop := (NoSeq K H y ∧ at' = -1) ∨ ∃ (a : Addr) (ns : List Int) (z : V) (zs : List V), y = .ref a ∧ SeqIs K H a (ns.map V.int ++ z :: zs) ∧ Asc ns ∧ ns.length ≤ 200 ∧ BadItem K H ns z ∧ at' = ns.length
def spMeant (K : PySem.W.Frag) (CS CR : Addr) : Sp := fun vs H Q E => ∃ (x y : V), vs = [x, y] ∧
  ((BadT K H x ∧ ErrAt CS "value" x H E) ∨ (∃ t : Str, x = .str t ∧ t.length ≤ 10000 ∧ good t = true ∧
    ((∃ at' : Int, BadR K H y at' ∧ ErrAt CR "at" (.int at') H E) ∨
     ∃ (b : Addr) (ns : List Int), y = .ref b ∧ SeqIs K H b (ns.map V.int) ∧ Asc ns ∧ ns.length ≤ 200 ∧
      ∀ (r : Addr) (rs : List Int) (H' : Hp), H r = none → Same H H' → H' r = some (.lst (rs.map V.int)) → FiltBy ns (Mean (pairs t) ns) rs → Q (.ref r) H')))
def spFound (K : PySem.W.Frag) : Sp := fun vs H Q _ => ∃ (r b : Addr) (ps : List (Int × Int)) (ns : List Int), vs = [.ref r, .ref b] ∧ SpansAt H r ps ∧ ps.length ≤ 10001 ∧ SeqIs K H b (ns.map V.int) ∧ Asc ns ∧ ns.length ≤ 200 ∧
  ∀ (l : Addr) (rs : List Int) (H' : Hp), H l = none → Same H H' → H' l = some (.lst (rs.map V.int)) → FiltBy ns (Mean ps ns) rs → Q (.ref l) H'
section
variable {P : Program} {w : World} {K : PySem.W.Frag} {mg : Str → Option Value} {base : Heap} {CS CR : Addr}
theorem ok_found {f : Addr} {fd : FuncData} (T : Bi mg) (D_span : Def P w K mg base CX0 1 "_span" pSpan spSpan) (D_merged : Def P w K mg base CX0 1 "_merged" pMerged spMerged) (D_covered : Def P w K mg base CX0 1 "_covered" pCovered (spCovered K))
    (F : Fun K "found_among" "found_among" sFound f fd) : FnOk P w K mg base CX0 2 f fd pFound (spFound K) := by
  have nd := scFound.nd
  refine F.ok scFound (fun vs H Q E h => ?_) (fun cdv A outer s H vs Q E hr h => ?_)
  · obtain ⟨r, b, ps, ns, rfl, _⟩ := h
    rfl
  · obtain ⟨r, b, ps, ns, rfl, hP, hPl, hS, hA, hl, q⟩ := h
    refine ⟨_, (pss_cons (ps_if (pt_not (pt_truth (pv 1) (by intro _; rfl)))
  (pss_one (ps_ret (pe_lst pa_nil)))
  pss_nil)
 (pss_one (ps_ret (pe_def D_covered (hr.mono (by decide)) rfl pass0 (pa_cons (pv 1) (pa_cons (pe_def D_merged (hr.mono (by decide)) rfl pass0 (pa_cons (pe_lc (own := [("item", 2)]) (g := gName 2) (tt := tYes) rfl nd (pi_listK (K := K) rfl (pv 0)) (blkOk_by (own := [("item", 2)]) (N := nFound) (sc := defScope sFound) (by decide +kernel)) (fun _ _ _ _ _ => pg_name (i := 2) nd rfl (Or.inl rfl)) (fun _ _ _ _ _ => pts_nil) (fun _ _ _ _ _ => (pe_def D_span (hr.mono (by decide)) rfl pass0 (pa_cons (pv 2) (pa_cons (pe_ix (ix_seqK (K := K) rfl) (pv 1) (pe_un un_neg pe_int) (fun _ _ => rfl)) pa_nil))))) pa_nil)) pa_nil)))))), ?_⟩
    refine ⟨_, rfl, !(ns.map V.int).isEmpty, ?_, ?_⟩
    · rcases hS.sq with h | h
      · exact .inl ⟨_, h, rfl⟩
      · exact .inr (.inl ⟨_, h, rfl⟩)
    · cases hns : ns with
      | nil =>
        refine itbT rfl ⟨Nat.zero_le _, fun l nl => ?_⟩
        exact q l [] _ nl (same_new nl) upd_same ⟨fun _ => true, by rw [hns]; exact fun n hn => by simp at hn, by rw [hns]; rfl⟩
      | cons n0 nr0 =>
        rw [← hns]
        refine itbF (by rw [hns]; rfl) ?_
        have hne : ns ≠ [] := by rw [hns]; simp
        obtain ⟨init, mx, hsp, _⟩ := last_of (l := ns) (n := ns.length - 1) (by have := List.length_pos_iff.mpr hne; omega)
        have hmx : ns.getLastD 0 = mx := by rw [hsp]; simp
        have hat : atI (ns.map V.int) (-1) = some (.int mx) := by rw [hsp, List.map_append]; exact atI_last _ _
        obtain ⟨ads, hr, hal, had⟩ := hP
        refine ⟨_, rfl, _, rfl, r, rfl, ⟨_, sq hr⟩, fun D hD => ?_⟩
        have nDr : D ≠ r := (ne_of_none hr hD).symm
        refine lc_list (K := K) (a := r) (xs := ads.map V.ref) (fun j H3 => Same H H3 ∧ ∃ (sps : List (Int × Int)) (ad3 : List Addr), H3 D = some (.lst (ad3.map V.ref)) ∧ ad3.length = sps.length ∧ (∀ (i : Nat) (d : Addr) (s : Int × Int), ad3[i]? = some d → sps[i]? = some s → H3 d = some (.tup [.int s.1, .int s.2])) ∧
            sps.length = j ∧ (∀ s ∈ sps, s.1 ≤ s.2) ∧ ∀ n, Cov sps n ↔ ∃ p ∈ ps.take j, pIn [stV mx p.1, stV mx p.2] n = true)
          ⟨same_new hD, [], [], upd_same, rfl, fun i d s e => by simp at e, rfl, fun s hs => by simp at hs, fun n => by unfold Cov; simp⟩ (fun j H3 _ h => sq (h.1 _ _ hr)) ?_ ?_
        · rintro j z H3 hz ⟨s3, sps, ad3, hD3, ha3, hd3, hj, hok, hc⟩
          obtain ⟨d, hd, rfl⟩ : ∃ d, ads[j]? = some d ∧ z = .ref d := by
            rw [List.getElem?_map] at hz
            cases e : ads[j]? with
            | none => rw [e] at hz; cases hz
            | some z => rw [e] at hz; exact ⟨z, rfl, (Option.some.inj hz).symm⟩
          have hjl : j < ps.length := by rw [← hal]; exact lt_of_get hd
          have hp := List.getElem?_eq_getElem hjl
          have ht := s3 _ _ (had j d _ hd hp)
          have hS3 := hS.same s3
          refine ⟨rfl, tyes ⟨_, rfl, _, rfl, 1, rfl, ?_⟩⟩
          have fin : ∀ (o : Addr) (u v : Int) (H' : Hp), H3 o = none → Same H3 H' → H' o = some (.tup [.int u, .int v]) → u ≤ v → (∀ n, (u ≤ n ∧ n ≤ v) ↔ pIn [stV mx ps[j].1, stV mx ps[j].2] n = true) →
              ∃ acc, H' D = some (.lst acc) ∧ acc.length < sizeLine ∧ (Same H (upd H' D (.lst (acc ++ [V.ref o]))) ∧ ∃ (sps : List (Int × Int)) (ad3 : List Addr), (upd H' D (.lst (acc ++ [V.ref o]))) D = some (.lst (ad3.map V.ref)) ∧ ad3.length = sps.length ∧
                (∀ (i : Nat) (d : Addr) (s : Int × Int), ad3[i]? = some d → sps[i]? = some s → (upd H' D (.lst (acc ++ [V.ref o]))) d = some (.tup [.int s.1, .int s.2])) ∧ sps.length = j + 1 ∧ (∀ s ∈ sps, s.1 ≤ s.2) ∧ ∀ n, Cov sps n ↔ ∃ p ∈ ps.take (j + 1), pIn [stV mx p.1, stV mx p.2] n = true) := by
            intro o u v H' no s4 ho huv hiff
            have hD4 := s4 _ _ hD3
            have noD : o ≠ D := (ne_of_none hD3 no).symm
            refine ⟨_, hD4, lt2 _ (by rw [List.length_map]; omega), (s3.trans s4).mut hD, ?_⟩
            have hsn : SpansAt (upd H' D (.lst (ad3.map V.ref ++ [V.ref o]))) D (sps ++ [(u, v)]) := by
              refine SpansAt.snoc (H := H3) (ads := ad3) ha3 hd3 (fun d x e => ?_) upd_same (by rw [upd_ne noD]; exact ho)
              have hdD : d ≠ D := fun e' => by rw [e', hD3] at e; cases e
              rw [upd_ne hdD]; exact s4 _ _ e
            obtain ⟨ad4, g1, g2, g3⟩ := hsn
            refine ⟨sps ++ [(u, v)], ad4, g1, g2, g3, by rw [List.length_append, hj]; rfl, ?_, fun n => ?_⟩
            · intro s hs
              rcases List.mem_append.mp hs with hs | hs
              · exact hok s hs
              · rw [List.mem_singleton.mp hs]; exact huv
            · rw [cov_app, cov_one, hc n, take_more hp]
              show _ ∨ (u ≤ n ∧ n ≤ v) ↔ _
              rw [hiff n]
              simp only [List.mem_append, List.mem_singleton]
              constructor
              · rintro (⟨p, h1, h2⟩ | h)
                · exact ⟨p, .inl h1, h2⟩
                · exact ⟨_, .inr rfl, h⟩
              · rintro ⟨p, h1 | rfl, h2⟩
                · exact .inl ⟨p, h1, h2⟩
                · exact .inr h2
          rcases hS3.sq with h | h
          · exact .inl ⟨b, _, -1, .int mx, rfl, rfl, h, hat, d, _, _, mx, rfl, ht, fin⟩
          · exact .inr (.inl ⟨b, _, -1, .int mx, rfl, rfl, h, hat, d, _, _, mx, rfl, ht, fin⟩)
        · rintro H3 ⟨s3, sps, ad3, hD3, ha3, hd3, hj, hok, hc⟩
          rw [List.length_map, hal] at hj
          rw [List.length_map, hal, List.take_length] at hc
          refine ⟨D, sps, rfl, ⟨ad3, hD3, ha3, hd3⟩, by omega, hok, fun m rs H4 nm s4 hR hrl hap hcv => ?_⟩
          have s34 := s3.trans s4
          refine ⟨b, m, ns, rs, rfl, (hS.same s34).sq, hR, by omega, by omega, hA.asc, hap, fun c ts H5 nc s5 hts hf => ?_⟩
          refine q c ts H5 ((s34.free nc)) ((s34.trans s5)) hts ?_
          obtain ⟨p, hp, rfl⟩ := hf
          refine ⟨p, fun n hn => ?_, rfl⟩
          rw [hp n hn, hcv n, hc n]
          unfold Mean
          rw [hmx]
theorem def_found (T : Bi mg) (D_span : Def P w K mg base CX0 1 "_span" pSpan spSpan) (D_merged : Def P w K mg base CX0 1 "_merged" pMerged spMerged) (D_covered : Def P w K mg base CX0 1 "_covered" pCovered (spCovered K)) (a : At K mg "found_among" sFound) :
    Def P w K mg base CX0 2 "found_among" pFound (spFound K) :=
  a.def (fun _ _ _ _ _ _ us hl => match us, hl with | [_, _], _ => rfl) fun f fd F => ok_found T D_span D_merged D_covered F
theorem ok_meant {f : Addr} {fd : FuncData} (T : Bi mg) (D_items_of : Def P w K mg base (L2.CX P w) 3 "items_of" pItemsOf (spItemsOf K CS)) (D_check_row : Def P w K mg base (L2.CX P w) 3 "check_row" pCheck (spCheck K CR))
    (D_found_among : Def P w K mg base CX0 2 "found_among" pFound (spFound K)) (F : Fun K "meant" "meant" sMeant f fd) : FnOk P w K mg base (L2.CX P w) 4 f fd pMeant (spMeant K CS CR) := by
  have nd := scMeant.nd
  refine F.okX scMeant (fun vs H Q E h => ?_) (fun cdv A outer s H vs Q E hr h => ?_)
  · obtain ⟨x, y, rfl, _⟩ := h
    rfl
  · obtain ⟨x, y, rfl, h⟩ := h
    refine ⟨_, (pss_cons (ps_set (i := 2) nd rfl (Or.inl rfl) (pe_def D_items_of (hr.mono (by decide)) rfl (passes_call (takes_of rfl rfl rfl rfl) (fun _ _ _ _ h => h)) (pa_cons (pv 0) pa_nil)))
 (pss_cons (ps_expr (pe_def D_check_row (hr.mono (by decide)) rfl (passes_call (takes_of rfl rfl rfl rfl) (fun _ _ _ _ h => h)) (pa_cons (pv 1) pa_nil)))
 (pss_one (ps_ret (pe_def D_found_among (hr.mono (by decide)) rfl pass0 (pa_cons (pv 2) (pa_cons (pv 1) pa_nil))))))), ?_⟩
    rcases h with ⟨hx, er⟩ | ⟨t, rfl, htl, hg, h⟩
    · rcases hx with ⟨t, rfl, h1, h2⟩ | hx
      · exact ⟨_, rfl, .str t, rfl, .inl ⟨t, rfl, h1, (fun h => by rw [h2] at h; cases h), fun _ => er⟩⟩
      · exact ⟨_, rfl, x, rfl, .inr ⟨hx, er⟩⟩
    · refine ⟨_, rfl, .str t, rfl, .inl ⟨t, rfl, htl, (fun _ r H1 nr s1 hP => ?_), fun h => by rw [hg] at h; cases h⟩⟩
      rcases h with ⟨at', hy, er⟩ | ⟨b, ns, rfl, hS, hA, hl, q⟩
      · rcases hy with ⟨hy, rfl⟩ | ⟨a, ns, z, zs, rfl, h1, h2, h3, h4, rfl⟩
        · exact ⟨_, rfl, y, rfl, .inr (.inl ⟨hy.same s1, er.same s1⟩)⟩
        · exact ⟨_, rfl, .ref a, rfl, .inr (.inr ⟨a, ns, z, zs, rfl, h1.same s1, h2, h3, h4.same s1, er.same s1⟩)⟩
      · refine ⟨_, rfl, .ref b, rfl, .inl ⟨b, ns, rfl, hS.same s1, hA, hl, fun H2 s2 => ?_⟩⟩
        have s12 := s1.trans s2
        refine ⟨_, rfl, _, rfl, r, b, pairs t, ns, rfl, hP.same s2, ?_, hS.same s12, hA, hl, fun l rs H3 nl s3 hl3 hf => q l rs H3 (s12.free nl) (s12.trans s3) hl3 hf⟩
        unfold pairs
        rw [List.length_map]
        have := (split_facts (split_comma t)).1
        omega
theorem def_meant (T : Bi mg) (D_items_of : Def P w K mg base (L2.CX P w) 3 "items_of" pItemsOf (spItemsOf K CS)) (D_check_row : Def P w K mg base (L2.CX P w) 3 "check_row" pCheck (spCheck K CR))
    (D_found_among : Def P w K mg base CX0 2 "found_among" pFound (spFound K)) (a : At K mg "meant" sMeant) : Def P w K mg base (L2.CX P w) 4 "meant" pMeant (spMeant K CS CR) :=
  a.def (fun _ _ _ _ _ _ us hl => match us, hl with | [_, _], _ => rfl) fun f fd F => ok_meant T D_items_of D_check_row D_found_among F
end
end K1


set_option Elab.async false
set_option linter.all false
set_option maxRecDepth 100000
set_option maxHeartbeats 4000000
/-! try with several except clauses, each with a name or without one -/
namespace L2
open PySem PySem.Spec PyProof.Rows
def wManyA (K : PySem.W.Frag) (Wout : WX) (D : Ends) : List (Value × Option Nat × (Addr → Value → Option Addr → TS)) → WX
  | [] => Wout
  | (c, none, ts) :: r => fun cls d σ H => ∃ b, PySem.W.exmOne K cls c = some b ∧ (b = true → ∀ a, H a = none → ts a cls d D σ H) ∧ (b = false → wManyA K Wout D r cls d σ H)
  | (c, some i, ts) :: r => fun cls d σ H => ∃ b, PySem.W.exmOne K cls c = some b ∧ (b = true → i < σ.length → ∀ a, H a = none → ts a cls d { nx := fun σ' H' => D.nx (σ'.set i none) H', rt := D.rt, bk := fun σ' H' => D.bk (σ'.set i none) H', ct := fun σ' H' => D.ct (σ'.set i none) H' } (σ.set i (some (.ref a))) H) ∧
      (b = false → wManyA K Wout D r cls d σ H)
inductive HdsA (X : Cx) : List ExceptHandler → List (Value × Option Nat × (Addr → Value → Option Addr → TS)) → Prop
  | nil : HdsA X [] []
  | plain {x : Str} {c : Value} {ts : Addr → Value → Option Addr → TS} {b₀ : Stmt} {suite : List Stmt} {np pos' : Pos} {hds : List ExceptHandler} {l : List (Value × Option Nat × (Addr → Value → Option Addr → TS))} (hc : Names X x c)
      (hsu : ∀ (a : Addr) (oe : Obj) (cls : Value) (d : Option Addr) (pn : List (Addr × Obj)), Zc cls d oe → (∃ vs, oe.data = .fields vs) → PSs (X.suite a ((a, oe) :: pn)) (b₀ :: suite) (ts a cls d)) (r : HdsA X hds l) :
      HdsA X (.ExceptHandler (some (.Name x np)) none (b₀ :: suite) pos' :: hds) ((c, none, ts) :: l)
  | named {x n : Str} {i : Nat} {c : Value} {ts : Addr → Value → Option Addr → TS} {b₀ : Stmt} {suite : List Stmt} {np pos' : Pos} {hds : List ExceptHandler} {l : List (Value × Option Nat × (Addr → Value → Option Addr → TS))} (hi : X.N[i]? = some n) (hln : X.env.kindOf n = some .local) (hc : Names X x c)
      (hsu : ∀ (a : Addr) (oe : Obj) (cls : Value) (d : Option Addr) (pn : List (Addr × Obj)), Zc cls d oe → (∃ vs, oe.data = .fields vs) → PSs (X.suite a ((a, oe) :: pn)) (b₀ :: suite) (ts a cls d)) (r : HdsA X hds l) :
      HdsA X (.ExceptHandler (some (.Name x np)) (some n) (b₀ :: suite) pos' :: hds) ((c, some i, ts) :: l)
section
variable {X : Cx} {body : List Stmt} {h₀ : ExceptHandler} {hds : List ExceptHandler} {l : List (Value × Option Nat × (Addr → Value → Option Addr → TS))} {pos : Pos} {tb : WX → TS} {Wout : WX}
theorem ps_try_manyA (hs : X.stack = X.env :: X.outer) (hf : X.env.frame = some X.env.locals) (hN : X.N.Nodup) (tk : Takes X Wout)
    (hb : ∀ (W : WX) (pn : List (Addr × Obj)) (xe : Value → Shared → Prop), Takes (X.tr pn xe) W → PassesOwn (model X.prog X.w) X.A X.env xe → PSs (X.tr pn xe) body (tb W))
    (hh : HdsA X (h₀ :: hds) l) : PS X (.Try body (h₀ :: hds) [] [] pos) (fun D σ H => tb (wManyA X.K Wout D l) D σ H) := by
  refine ⟨fun pins s σ H D I h => ?_⟩
  have ok := I.ok
  have hfr : X.A.frames = some (X.env :: X.outer) := by rw [ok.frames, hs]
  refine wpAny_Try_except ?_
  refine wpAny_mono ((hb (wManyA X.K Wout D l) (X.pn ++ pins) (fun e s₁ => wpAny (model X.prog X.w) X.A (noteFrame e X.env) (fun _ s₂ => wpAny (model X.prog X.w) X.A (setFlight e none) (fun _ s₃ =>
    wpAny (model X.prog X.w) X.A (handleBy e X.env (h₀ :: hds)) (SP X pins D) X.xe s₃) X.xe s₂) X.xe s₁) (fun u s' xx => ?_) PassesOwn.looking).run [] s σ H D (I.toTry _) h) (fun f s1 hsp => ?_) (fun e s1 he => he)
  · -- the catch
    obtain ⟨a, B, sI, pins', σ', H', cls, d, rfl, J', nb, up, sky, na, os, ag, w⟩ := xx
    have J : Inv X pins σ' H' sI := J'.ofTry ok
    have sky' : Sky B (X.env :: X.outer) a (Zc cls d) X.env.locals s'.heap := by rw [← hs]; exact sky
    show wpAny (model X.prog X.w) X.A (noteFrame (.ref a) X.env) _ _ _
    refine Sky.land Zc.steady hfr hf sky' fun h3 fl3 up3 => ?_
    have J3 : Inv X pins σ' H' { s' with heap := h3 } := J.landed nb fl3.1 (up.trans up3) os ag
    obtain ⟨oe3, vs3, he3, hz3, hd3⟩ := fl3.there
    have notFr : ∀ {h : Heap} {o : Obj} {vs : Array Value}, h.FunFrames B (X.env :: X.outer) → h.get? a = some o → o.data = .fields vs → a ∉ frs (X.env :: X.outer) := fun {h o vs} ff e dd hm => by
      obtain ⟨_, o', e', hnf⟩ := ff.mem hm
      rw [e] at e'; cases e'
      exact hnf _ dd
    have nfr := notFr fl3.2.2.1 he3 hd3
    have nL : a ≠ X.env.locals := fun z => nfr (List.mem_filterMap.mpr ⟨X.env, List.mem_cons_self, by rw [hf, z]⟩)
    have nF : a ∉ X.fs := fun hm => by
      obtain ⟨e, he, q⟩ := List.mem_filterMap.mp hm
      exact nfr (List.mem_filterMap.mpr ⟨e, List.mem_cons_of_mem _ he, q⟩)
    have S3 := J3.suite he3 hd3 na nL nF
    have LT : PySem.W.Looks (model X.prog X.w) h3 (typeOf (.ref a)) cls := fun A Q E s k q => wpAny_typeOf_ref (k _ _ he3) (by rw [hz3.1]; exact q)
    have test : ∀ {x : Str} {np : Pos} {c : Value} (hc : Names X x c) {Q : Value → Shared → Prop} {E : Value → Shared → Prop}, Q c { s' with heap := h3 } → wpAny (model X.prog X.w) (X.A.mark (some (.ref a))) (eval (.Name x np) X.env) Q E { s' with heap := h3 } := fun {x np c} hc {Q E} q => by
      obtain ⟨hg, hdbg, hm | ⟨hm, hv, hnn⟩⟩ := hc
      · exact ld_glob (X := X.suite a ((a, oe3) :: (X.pn ++ pins))) S3 hg hm q hdbg
      · exact ld_blt (X := X.suite a ((a, oe3) :: (X.pn ++ pins))) S3 hg hm hv q hnn hdbg
    have go : ∀ {hds' : List ExceptHandler} {l' : List (Value × Option Nat × (Addr → Value → Option Addr → TS))}, HdsA X hds' l' → wManyA X.K Wout D l' cls d σ' H' →
        wpAny (model X.prog X.w) X.A (handleBy (.ref a) X.env hds') (SP X pins D) X.xe { s' with heap := h3 } := by
      intro hds' l' hk
      induction hk with
      | nil =>
        intro w
        refine wpAny_handleBy_nil ?_
        obtain ⟨k1, k2, k3, oe, vs, T, oT, ts', he, hz, hd, h1, hr⟩ := id fl3
        unfold PySem.passOn
        refine wpAny_bind (wpAny_field he hd h1 ?_)
        rw [if_neg (show ¬ ((Value.ref T == Value.none) = true) from by simp)]
        have fin : wpAny (model X.prog X.w) X.A (setFlight (.ref a) X.env.frame) (fun _ s4 => wpAny (model X.prog X.w) X.A (throw (.ref a) : Sem Flow) (SP X pins D) X.xe s4) X.xe { s' with heap := h3 } := by
          rw [hf]
          refine HandSPX.setFlight_upZ fl3 fun h4 hh4 up4 => wpAny_throw (tk _ _ ?_)
          exact ⟨a, B, sI, pins, σ', H', cls, d, rfl, J, nb, (up.trans up3).trans up4, .inr (.inr (by rw [hs]; exact hh4)), na, os, ag, w⟩
        first
          | exact wpAny_bind (wpAny_pure (wpAny_bind fin))
          | exact wpAny_bind fin
      | @plain x c ts b₀ suite np pos' hds2 l2 hc hsu r ih =>
        intro w
        obtain ⟨b, hb1, hyes, hno⟩ := w
        refine wpAny_handleBy_cons (codeAny_handlers_test ?_) (by intro q; cases q)
        have LM := PySem.W.exm_one (M := model X.prog X.w) (J3.kIn) LT hb1
        refine test hc (LM.here ?_)
        cases b with
        | true =>
          refine codeAny_handlers_suite ?_
          refine HandSPX.lands_againZ fl3 fun h4 fl4 up4 => ?_
          have J4 : Inv X pins σ' H' { s' with heap := h4 } := J.landed nb fl4.1 ((up.trans up3).trans up4) os ag
          obtain ⟨oe4, vs4, he4, hz4, hd4⟩ := fl4.there
          have S4 := J4.suite he4 hd4 na nL nF
          refine wpAny_mono ((hsu a oe4 cls d (X.pn ++ pins) hz4 ⟨_, hd4⟩).run [] _ _ H' _ S4 (hyes rfl a na)) (fun f s6 hsp => ?_) (fun _ _ z => False.elim z)
          cases f with
          | next =>
            obtain ⟨σ6, H6, S6, q6⟩ := hsp
            exact ⟨_, _, S6.unsuite ok, q6⟩
          | brk =>
            obtain ⟨σ6, H6, S6, q6⟩ := hsp
            exact ⟨_, _, S6.unsuite ok, q6⟩
          | cont =>
            obtain ⟨σ6, H6, S6, q6⟩ := hsp
            exact ⟨_, _, S6.unsuite ok, q6⟩
          | ret u =>
            obtain ⟨v6, σ6, H6, S6, r6, q6⟩ := hsp
            exact ⟨_, _, _, S6.unsuite ok, r6, q6⟩
        | false =>
          show wpAny _ X.A (handleBy (.ref a) X.env hds2) _ _ _
          exact ih (hno rfl)
      | @named x n i c ts b₀ suite np pos' hds2 l2 hi hln hc hsu r ih =>
        intro w
        have hloc : Loc X.env.scope n := .inl hln
        obtain ⟨b, hb1, hyes, hno⟩ := w
        refine wpAny_handleBy_cons (codeAny_handlers_test ?_) (by intro q; cases q)
        have LM := PySem.W.exm_one (M := model X.prog X.w) (J3.kIn) LT hb1
        refine test hc (LM.here ?_)
        cases b with
        | true =>
          refine codeAny_handlers_suite_as ?_
          refine HandSPX.lands_againZ fl3 fun h4 fl4 up4 => ?_
          have J4 : Inv X pins σ' H' { s' with heap := h4 } := J.landed nb fl4.1 ((up.trans up3).trans up4) os ag
          obtain ⟨oe4, vs4, he4, hz4, hd4⟩ := fl4.there
          have S4 := J4.suite he4 hd4 na nL nF
          refine store_ok (X := X.suite a ((a, oe4) :: (X.pn ++ pins))) (v := .ref a) S4 hN hi hloc rfl (fun s5 S5 => ?_) (.inr hln)
          refine wpAny_mono ((hsu a oe4 cls d (X.pn ++ pins) hz4 ⟨_, hd4⟩).run [] s5 _ H' _ S5 (hyes rfl (by rw [J.len]; exact (List.getElem?_eq_some_iff.mp hi).1) a na)) (fun f s6 hsp => ?_) (fun _ _ z => False.elim z)
          have end_ : ∀ {σ6 : St} {H6 : Hp} {Q : Shared → Prop}, Inv (X.suite a ((a, oe4) :: (X.pn ++ pins))) [] σ6 H6 s6 → (∀ s7, Inv X pins (σ6.set i none) H6 s7 → Q s7) →
              wpAny (model X.prog X.w) X.A (do bindName X.env n .none; unbindBehindTheSuite X.env n pos') (fun _ s7 => Q s7) X.xe s6 := fun {σ6 H6 Q} S6 hq => gone_ok (S6.unsuite ok) hN hi hln hq
          cases f with
          | next =>
            obtain ⟨σ6, H6, S6, q6⟩ := hsp
            exact end_ S6 fun s7 J7 => ⟨_, _, J7, q6⟩
          | brk =>
            obtain ⟨σ6, H6, S6, q6⟩ := hsp
            exact end_ S6 fun s7 J7 => ⟨_, _, J7, q6⟩
          | cont =>
            obtain ⟨σ6, H6, S6, q6⟩ := hsp
            exact end_ S6 fun s7 J7 => ⟨_, _, J7, q6⟩
          | ret u =>
            obtain ⟨v6, σ6, H6, S6, r6, q6⟩ := hsp
            exact end_ S6 fun s7 J7 => ⟨_, _, _, J7, r6, q6⟩
        | false =>
          show wpAny _ X.A (handleBy (.ref a) X.env hds2) _ _ _
          exact ih (hno rfl)
    exact go hh w
  · cases f with
    | next =>
      obtain ⟨σ', H', J', q⟩ := hsp
      exact wpAny_execs_nil ⟨σ', H', J'.ofTry ok, q⟩
    | brk =>
      obtain ⟨σ', H', J', q⟩ := hsp
      exact ⟨σ', H', J'.ofTry ok, q⟩
    | cont =>
      obtain ⟨σ', H', J', q⟩ := hsp
      exact ⟨σ', H', J'.ofTry ok, q⟩
    | ret u =>
      obtain ⟨v, σ', H', J', r, q⟩ := hsp
      exact ⟨v, σ', H', J'.ofTry ok, r, q⟩
end
end L2


set_option Elab.async false
set_option linter.all false
set_option maxRecDepth 100000
set_option maxHeartbeats 4000000
namespace K1
open PySem PySem.Spec PyProof.Rows L2 TL
abbrev sSaid : Stmt := st__law_said
abbrev nSaid : List Str := ["_law_ask", "e"]
abbrev pSaid : List Str := ["_law_ask"]
theorem scSaid : FnScope nSaid pSaid (defScope sSaid) := ⟨rfl, rfl, rfl, by decide +kernel, rfl, by decide +kernel, by decide +kernel⟩
/-- what said makes of what it calls -/
def TSaid (CS CR : Addr) : (XK → Hp → VK → Prop) → Hp → VK → Prop := fun tl H Q =>
  tl (fun cls d H' => (cls = .ref CS ∧ ∃ (dd : Addr) (v : V), d = some dd ∧ H' dd = some (.xd [("value", v)]) ∧ ∀ p, H' p = none → Q (.ref p) (upd H' p (.tup [.str "set", v]))) ∨
    (cls = .ref CR ∧ ∃ (dd : Addr) (v : V), d = some dd ∧ H' dd = some (.xd [("at", v)]) ∧ ∀ p, H' p = none → Q (.ref p) (upd H' p (.tup [.str "row", v])))) H Q
theorem said_gives {X : Cx} {q : Str} {g CS CR CT fS fR : Addr} {cdg : Value} (TS : PySem.Tide.TideTxt X.prog X.K X.mg "BadSet" CS fS "value") (TR : PySem.Tide.TideTxt X.prog X.K X.mg "BadRow" CR fR "at") (gT : X.mg "TideError" = some (.ref CT))
    (hSR : PySem.W.exmOne X.K (.ref CR) (.ref CS) = some false) :
    LamX.GivesTo X nSaid "_law_said" (defScope sSaid) g cdg (defBody sSaid) "_law_ask" q (TSaid CS CR) := by
  intro f c' s H Q tl act hc h
  refine ⟨_, pss_one (ps_try_manyA (X := (cxOf C8.CX0 X.prog X.w X.K X.mg X.base nSaid "_law_said" (defScope sSaid) g cdg X.A X.stack s H C8.E0).nox)
      (tb := fun W D σ H => ∃ Ech : XK, (∀ cls d σ' H', Ech cls d H' → W cls d σ' H') ∧ σ[0]? = some (some (.ref f)) ∧ H c' = some (LamX.CodeO c' q) ∧ tl Ech H D.rt)
      rfl rfl scSaid.nd takes0 (fun W pn xe tk _ => ?_)
      (.named (i := 1) (c := .ref CS) rfl rfl ⟨rfl, by decide, .inl TS.gC⟩ (fun a oe cls d pn hz hf => pss_one (ps_ret (pe_tup (pa_cons pe_str (pa_cons (pe_byTide TS hz hf (pv 1) rfl) pa_nil)))))
      (.named (i := 1) (c := .ref CR) rfl rfl ⟨rfl, by decide, .inl TR.gC⟩ (fun a oe cls d pn hz hf => pss_one (ps_ret (pe_tup (pa_cons pe_str (pa_cons (pe_byTide TR hz hf (pv 1) rfl) pa_nil)))))
      (.plain (c := .ref CT) ⟨rfl, by decide, .inl gT⟩ (fun a oe cls d pn _ _ => pss_one (ps_ret pe_str)) .nil)))), ?_⟩
  · refine ⟨fun pins s' σ H' D I h' => ?_⟩
    obtain ⟨Ech, hW, h1, h2, h3⟩ := h'
    exact (pss_one (ps_ret (act W pn xe Ech _ _ tk hW))).run pins s' σ H' D I ⟨h1, h2, h3⟩
  · refine ⟨_, fun cls d σ' H' hE => ?_, rfl, hc, h⟩
    rcases hE with ⟨rfl, dd, v, rfl, hd, hq⟩ | ⟨rfl, dd, v, rfl, hd, hq⟩
    · refine ⟨true, TS.te, fun _ hl a na => ?_, fun z => by cases z⟩
      exact ⟨_, List.getElem?_set_self hl, rfl, rfl, dd, v, rfl, hd, (by show 2 ≤ sizeLine; decide), hq⟩
    · refine ⟨false, hSR, (fun z => by cases z), fun _ => ⟨true, TR.te, fun _ hl a na => ?_, fun z => by cases z⟩⟩
      exact ⟨_, List.getElem?_set_self hl, rfl, rfl, dd, v, rfl, hd, (by show 2 ≤ sizeLine; decide), hq⟩
end K1


set_option Elab.async false
set_option linter.all false
set_option maxRecDepth 100000
set_option maxHeartbeats 4000000
namespace K1
open PySem PySem.Spec PyProof.Rows L2 TL
section
variable {X : Cx}
def repS (z : Str) (n : Int) : Str := ⟨(List.replicate n.toNat z.cps).foldl (· ++ ·) #[]⟩
/-- a text many times -/
theorem op_repS : OpR X (binaryOp .Mult) (fun x y H Q => ∃ z n, x = .str z ∧ y = .int n ∧ 1 < n ∧ n ≤ 1000 ∧ z.length = 1 ∧ (repS z n).length ≤ 100000 ∧ Q (.str (repS z n)) H) := by
  intro pins s σ H x y v u Q I rx ry h
  obtain ⟨z, n, rfl, rfl, h1, h2, h3, h5, q⟩ := h
  obtain ⟨t, rfl⟩ := rx
  obtain ⟨t', rfl⟩ := ry
  refine P.mul_str (by
      have a : ¬ n < -(2 ^ 63 : Int) := by omega
      have b : ¬ n ≥ 2 ^ 63 := by omega
      rw [decide_eq_false a, decide_eq_false b]; rfl) (fun _ _ => ?_) (fun _ _ => ?_) ?_
  · rw [h3]
    intro h
    have : (2 ^ 63 - 1) / n ≥ 1 := Int.le_ediv_of_mul_le (by omega) (by omega)
    omega
  · rw [h3]
    unfold Builtin.Str.tooLong
    refine decide_eq_false ?_
    have := lt1 n.toNat (by omega)
    omega
  · rw [if_neg (by omega)]
    have a : (n == 1 || z.length == 0) = false := by
      have b : ¬ n = 1 := by omega
      rw [h3]; simp [b]
    rw [a, if_neg Bool.false_ne_true]
    exact ⟨lt1 _ h5, .str (repS z n), H, I.tok _, ⟨_, rfl⟩, q⟩
end
/-- all but p and the tables stay -/
def FrN (p : Addr) (H H' : Hp) : Prop := ∀ b o, b ≠ p → H b = some o → (∀ ps, o ≠ .tbl ps) → H' b = some o
theorem FrN.refl {p : Addr} (H : Hp) : FrN p H H := fun _ _ _ h _ => h
theorem FrN.trans {p : Addr} {H H1 H2 : Hp} (a : FrN p H H1) (b : FrN p H1 H2) : FrN p H H2 := fun c o n h t => b c o n (a c o n h t) t
theorem FrN.ext {p : Addr} {H H1 : Hp} (a : Ext p H H1) : FrN p H H1 := fun c o n h t => a c o n h
theorem FrN.lam {p : Addr} {H H1 : Hp} (a : LamX.ExtN H H1) : FrN p H H1 := fun c o n h t => a c o h t
theorem FrN.same {p : Addr} {H H1 : Hp} (a : Same H H1) : FrN p H H1 := fun c o n h t => a c o h
/-- the making and the asking of a lambda -/
structure SaidK (P : Program) (K : PySem.W.Frag) (mg : Str → Option Value) (CS CR : Addr) : Prop where
  at_ : At K mg "_law_said" sSaid
  TS : ∃ f, PySem.Tide.TideTxt P K mg "BadSet" CS f "value"
  TR : ∃ f, PySem.Tide.TideTxt P K mg "BadRow" CR f "at"
  TT : ∃ C, mg "TideError" = some (.ref C)
  sr : PySem.W.exmOne K (.ref CR) (.ref CS) = some false
theorem pe_said {X : Cx} {CS CR c P : Addr} {T : List (Addr × Str)} {k : Nat} {params : Arguments} {body : Expr} {scope : Scope} {t : XK → TE} {p lpos pos : Pos} (D : SaidK X.prog X.K X.mg CS CR) (hg : Gl X "_law_said")
    (TB : LamX.TabB X.base X.mg c P) (hcode : X.env.code = .ref c) (hmT : (P, X.env.qual ++ "<lambda>") ∈ T) (hu : ∀ p ∈ T, p.1 = P → p.2 = X.env.qual ++ "<lambda>") (hr : Room (k + 2) X.A) (L : LamX.LamS X.env.scope scope) (hdef : defaultsOf params X.env = ([], []))
    (hbind : ∀ (q : Str) (cl : List (Str × Addr)) (pm cv ctv : Value), bindArgs (PySem.W.kla_fn "<lambda>" q params body scope cl pm cv ctv) ⟨[], []⟩ = pure [])
    (hbody : ∀ (A : Around) (outer : List Env) (s : Shared) (H : Hp) (E : XK) (f c' : Addr), Room k (A.deeper (LamX.lamEnv X scope s.heap.objs.size f c')) → PE (LamX.lamCx X A outer s H E scope f c') body (t E)) :
    PE X (.Call (.Name "_law_said" p) [.Lambda params body scope lpos] [] pos) (LamX.tLam T (TSaid CS CR) t) := by
  obtain ⟨⟨g, fd, hm, F⟩, ⟨fS, TS⟩, ⟨fR, TR⟩, ⟨CT, gT⟩, sr⟩ := D
  obtain ⟨oc, od, kV, doc, pm, an, cdv, ct, osl, rfl, lk, hcd⟩ := F.ex
  exact LamX.pe_lamcall (a := "_law_ask") hg hm F.kp lk hcd (F.binds (ps := ["_law_ask"]) fun _ _ _ _ _ _ us hl => match us, hl with | [_], _ => rfl) scSaid rfl (.inl rfl) (said_gives TS TR gT sr) TB hcode hmT hu hr L hdef hbind hbody
end K1


set_option Elab.async false
set_option linter.all false
set_option maxRecDepth 100000
set_option maxHeartbeats 4000000
namespace K1
open PySem PySem.Spec PyProof.Rows L2 TL
/-! ### texts: what is good -/
def okP (p : List Nat) : Bool := okEnds ((spl [58] 0 [] p).map endL)
def goodL (l : List Nat) : Bool := (spl [44] 0 [] l).all okP
theorem endsOf_eq (it : Str) : endsOf it = (spl [58] 0 [] (tl it)).map endL := by
  unfold endsOf
  rw [← split_colon, List.map_map]; rfl
theorem good_eq (t : Str) : good t = goodL (tl t) := by
  unfold good goodL
  rw [← split_comma, List.all_map]
  congr 1
  funext it
  show okEnds (endsOf it) = okP (tl it)
  rw [endsOf_eq]; rfl
theorem spl1 {s c : Nat} {acc r : List Nat} : spl [s] 0 acc (c :: r) = if c = s then acc :: spl [s] 0 [] r else spl [s] 0 (acc ++ [c]) r := by
  show (if pre [s] (c :: r) = true then acc :: spl [s] 0 [] r else spl [s] 0 (acc ++ [c]) r) = _
  have e : pre [s] (c :: r) = decide (c = s) := by unfold pre; by_cases h : c = s <;> simp [h]
  rw [e]
  by_cases h : c = s <;> simp [h]
theorem spl_acc {s : Nat} : ∀ (l acc : List Nat), ∃ p ps, spl [s] 0 acc l = p :: ps ∧ ∃ q, p = acc ++ q
  | [], acc => ⟨acc, [], spl_nil _ _ _, [], by simp⟩
  | c :: r, acc => by
    rw [spl1]
    by_cases h : c = s
    · rw [if_pos h]; exact ⟨acc, _, rfl, [], by simp⟩
    · rw [if_neg h]
      obtain ⟨p, ps, e, q, e2⟩ := spl_acc (s := s) r (acc ++ [c])
      exact ⟨p, ps, e, c :: q, by rw [e2]; simp⟩
/-- each other sign stands in a piece -/
theorem spl_has {s x : Nat} (hx : x ≠ s) : ∀ (l acc : List Nat), x ∈ l → ∃ p ∈ spl [s] 0 acc l, x ∈ p
  | [], acc, h => by simp at h
  | c :: r, acc, h => by
    rw [spl1]
    by_cases e : c = s
    · rw [if_pos e]
      have h' : x ∈ r := (List.mem_cons.mp h).resolve_left fun z => hx (z.trans e)
      obtain ⟨p, hp, hxp⟩ := spl_has hx r [] h'
      exact ⟨p, List.mem_cons_of_mem _ hp, hxp⟩
    · rw [if_neg e]
      rcases List.mem_cons.mp h with rfl | h'
      · obtain ⟨p, ps, e1, q, e2⟩ := spl_acc (s := s) r (acc ++ [x])
        exact ⟨p, by rw [e1]; exact List.mem_cons_self .., by rw [e2]; simp⟩
      · exact spl_has hx r _ h'
/-- a separator last: an empty piece -/
theorem spl_end {s : Nat} : ∀ (l acc : List Nat), [] ∈ spl [s] 0 acc (l ++ [s])
  | [], acc => by
    show [] ∈ spl [s] 0 acc (s :: [])
    rw [spl1, if_pos rfl, spl_nil]; simp
  | c :: r, acc => by
    show [] ∈ spl [s] 0 acc (c :: (r ++ [s]))
    rw [spl1]
    by_cases e : c = s
    · rw [if_pos e]; exact List.mem_cons_of_mem _ (spl_end r [])
    · rw [if_neg e]; exact spl_end r _
/-- another sign last stands last in a piece -/
theorem spl_tail {s x : Nat} (hx : x ≠ s) : ∀ (l acc : List Nat), ∃ q, q ++ [x] ∈ spl [s] 0 acc (l ++ [x])
  | [], acc => by
    show ∃ q, q ++ [x] ∈ spl [s] 0 acc (x :: [])
    rw [spl1, if_neg hx, spl_nil]
    exact ⟨acc, by simp⟩
  | c :: r, acc => by
    show ∃ q, q ++ [x] ∈ spl [s] 0 acc (c :: (r ++ [x]))
    rw [spl1]
    by_cases e : c = s
    · rw [if_pos e]
      obtain ⟨q, h⟩ := spl_tail hx r []
      exact ⟨q, List.mem_cons_of_mem _ h⟩
    · rw [if_neg e]; exact spl_tail hx r _
theorem okEnds_bad {l : List (List Nat)} {p : List Nat} (hp : p ∈ l) (h : endL p = none) : okEnds (l.map endL) = false := by
  unfold okEnds
  have : ((l.map endL).any fun e => e.isNone) = true := List.any_eq_true.mpr ⟨none, by rw [← h]; exact List.mem_map_of_mem hp, rfl⟩
  rw [this]; simp
theorem goodL_bad {l p : List Nat} (hp : p ∈ spl [44] 0 [] l) (h : okP p = false) : goodL l = false := by
  unfold goodL
  cases e : (spl [44] 0 [] l).all okP with
  | false => rfl
  | true =>
    have := List.all_eq_true.mp e p hp
    rw [h] at this; cases this
theorem okP_nil : okP [] = false := by decide +kernel
theorem bad_end (l : List Nat) : goodL (l ++ [44]) = false := goodL_bad (spl_end l []) okP_nil
theorem bad_first (l : List Nat) : goodL (44 :: l) = false := goodL_bad (p := []) (by rw [spl1, if_pos rfl]; exact List.mem_cons_self ..) okP_nil
theorem bad_colon (l : List Nat) : goodL (l ++ [58]) = false := by
  obtain ⟨q, h⟩ := spl_tail (s := 44) (x := 58) (by decide) l []
  exact goodL_bad h (okEnds_bad (p := []) (spl_end q []) (by decide +kernel))
def sign (c : Nat) : Bool := dig c || c == 42 || c == 44 || c == 58
theorem bad_sign {l : List Nat} {c : Nat} (hc : c ∈ l) (h : sign c = false) : goodL l = false := by
  unfold sign at h
  simp only [Bool.or_eq_false_iff, beq_eq_false_iff_ne] at h
  obtain ⟨⟨⟨h1, h2⟩, h3⟩, h4⟩ := h
  obtain ⟨p, hp, hcp⟩ := spl_has h3 l [] hc
  obtain ⟨e, he, hce⟩ := spl_has h4 p [] hcp
  refine goodL_bad hp (okEnds_bad he ?_)
  unfold endL
  rw [if_neg (fun z => by rw [z] at hce; exact h2 (List.mem_singleton.mp hce))]
  have : (e.isEmpty || !e.all dig) = true := by
    cases ha : e.all dig with
    | false => simp
    | true =>
      have := List.all_eq_true.mp ha c hce
      rw [h1] at this; cases this
  rw [if_pos this]
/-! ### the drawn texts -/
def stL : En → List Nat
  | none => [42]
  | some n => numL n.toNat
theorem stL_tl {e : En} (h : OkE e) : tl (txE e) = stL e := by
  cases e with
  | none => exact (by decide +kernel : tl (txE none) = [42])
  | some n => exact txE_tl (by have := h n rfl; omega)
def enZ : En → Int
  | none => 0
  | some n => n
theorem numL_dig (n : Nat) : (numL n).all dig = true := by
  rw [List.all_eq_true]
  intro c hc
  cases e : dig c with
  | true => rfl
  | false =>
    have h : c < 48 ∨ 57 < c := by
      unfold dig at e
      simp at e
      omega
    exact absurd hc (numL_free h)
theorem numL_head : ∀ (k n : Nat), n ≤ k → 0 < n → ∃ c r, numL n = c :: r ∧ c ≠ 48
  | 0, n, h, h0 => by omega
  | k + 1, n, h, h0 => by
    by_cases e : n < 10
    · exact ⟨48 + n, [], numL_lt e, by omega⟩
    · obtain ⟨c, r, e1, e2⟩ := numL_head k (n / 10) (by omega) (by omega)
      exact ⟨c, r ++ [48 + n % 10], by rw [numL_step (by omega), e1]; rfl, e2⟩
theorem endL_st {e : En} (h : OkE e) : endL (stL e) = some (enZ e) := by
  cases e with
  | none => rfl
  | some n =>
    have hn := h n rfl
    obtain ⟨c, r, e1, e2⟩ := numL_head n.toNat n.toNat (Nat.le_refl _) (by omega)
    have hd := numL_dig n.toNat
    have hl : (numL n.toNat).length ≤ 30 := by
      refine numL_len (by decide) ?_
      have : n < 1000000000000000000000000000000 := by have := hn.2; unfold G at this; omega
      have e2 : (10 : Nat) ^ 30 = 1000000000000000000000000000000 := by decide
      omega
    have hv := numL_val n.toNat
    show endL (numL n.toNat) = some n
    unfold endL
    rw [hd]
    rw [if_neg (fun z => by rw [z] at hd; exact absurd hd (by decide)), hv]
    have a : ((numL n.toNat).isEmpty || !true) = false := by rw [e1]; rfl
    have b : ((numL n.toNat).head? == some 48 || decide (30 < (numL n.toNat).length)) = false := by
      rw [e1] at hl ⊢
      simp only [List.head?_cons, Bool.or_eq_false_iff, decide_eq_false_iff_not]
      refine ⟨?_, by omega⟩
      simp [e2]
    rw [a, b, if_neg Bool.false_ne_true, if_neg Bool.false_ne_true]
    congr 1
    omega
theorem stL_free {e : En} (h : OkE e) {s : Nat} (hs : s = 44 ∨ s = 58) : s ∉ stL e := by
  cases e with
  | none => show s ∉ [42]; rcases hs with rfl | rfl <;> decide
  | some n => exact numL_free (by omega)
theorem joinL_free {s x : Nat} (hx : x ≠ s) : ∀ {ps : List (List Nat)}, (∀ p ∈ ps, x ∉ p) → x ∉ joinL [s] ps
  | [], _ => by simp [joinL]
  | [p], h => h p (List.mem_cons_self ..)
  | p :: q :: r, h => by
    show x ∉ p ++ ([s] ++ joinL [s] (q :: r))
    intro z
    rcases List.mem_append.mp z with z | z
    · exact h p (List.mem_cons_self ..) z
    · rcases List.mem_append.mp z with z | z
      · exact hx (List.mem_singleton.mp z)
      · exact joinL_free hx (fun y hy => h y (List.mem_cons_of_mem _ hy)) z
theorem txI_tl {es : List En} (h : ∀ e ∈ es, OkE e) : tl (txI es) = joinL [58] (es.map stL) := by
  unfold txI
  rw [join_eq, tl_join, colon_tl, List.map_map]
  congr 1
  exact List.map_congr_left fun e he => stL_tl (h e he)
theorem txI_ends {es : List En} (h : ∀ e ∈ es, OkE e) (hne : es ≠ []) : (spl [58] 0 [] (tl (txI es))).map endL = es.map fun e => some (enZ e) := by
  rw [txI_tl h, spl_join (by simpa using hne) (fun p hp => by
    obtain ⟨e, he, rfl⟩ := List.mem_map.mp hp
    exact stL_free (h e he) (.inr rfl)), List.map_map]
  exact List.map_congr_left fun e he => endL_st (h e he)
theorem txI_free {es : List En} (h : ∀ e ∈ es, OkE e) : 44 ∉ tl (txI es) := by
  rw [txI_tl h]
  exact joinL_free (by decide) fun p hp => by
    obtain ⟨e, he, rfl⟩ := List.mem_map.mp hp
    exact stL_free (h e he) (.inl rfl)
/-- the text of items -/
def txT (its : List (List En)) : Str := Txt.join "," (its.map txI)
def prE (es : List En) : Int × Int := (enZ (es.headD none), enZ (es.getLastD none))
structure OkI (its : List (List En)) : Prop where
  ne : its ≠ []
  it : ∀ es ∈ its, es ≠ [] ∧ es.length ≤ 2 ∧ ∀ e ∈ es, OkE e
theorem txT_split {its : List (List En)} (h : OkI its) : Txt.split (txT its) "," = its.map txI := by
  unfold txT
  refine split_join comma_tl (by decide +kernel) (by simpa using h.ne) fun p hp => ?_
  obtain ⟨es, he, rfl⟩ := List.mem_map.mp hp
  exact txI_free (h.it es he).2.2
theorem txT_good {its : List (List En)} (h : OkI its) : good (txT its) = true := by
  unfold good
  rw [txT_split h, List.all_map, List.all_eq_true]
  intro es he
  obtain ⟨h1, h2, h3⟩ := h.it es he
  show okEnds (endsOf (txI es)) = true
  rw [endsOf_eq, txI_ends h3 h1]
  unfold okEnds
  rw [List.length_map, decide_eq_true h2]
  simp
theorem txT_pairs {its : List (List En)} (h : OkI its) : pairs (txT its) = its.map prE := by
  unfold pairs
  rw [txT_split h, List.map_map]
  refine List.map_congr_left fun es he => ?_
  obtain ⟨h1, h2, h3⟩ := h.it es he
  show pairOf (endsOf (txI es)) = prE es
  rw [endsOf_eq, txI_ends h3 h1]
  match es, h1, h2 with
  | [a], _, _ => rfl
  | [a, b], _, _ => rfl
theorem txI_len {es : List En} (h : ∀ e ∈ es, OkE e) (h2 : es.length ≤ 2) (hne : es ≠ []) : (txI es).length ≤ 61 := by
  have a : ∀ e ∈ es, (stL e).length ≤ 30 := fun e he => by
    rw [← stL_tl (h e he), ← len_tl]; exact txE_len (h e he)
  rw [len_tl, txI_tl h]
  match es, hne, h2 with
  | [x], _, _ =>
    have := a x (by simp)
    show (stL x).length ≤ 61
    omega
  | [x, y], _, _ =>
    have h1 := a x (by simp)
    have h3 := a y (by simp)
    show (stL x ++ ([58] ++ stL y)).length ≤ 61
    simp only [List.length_append, List.length_cons, List.length_nil]
    omega
theorem joinL_len {s k : Nat} : ∀ {ps : List (List Nat)}, (∀ p ∈ ps, p.length ≤ k) → (joinL [s] ps).length ≤ ps.length * (k + 1)
  | [], _ => by simp [joinL]
  | [p], h => by
    have := h p (List.mem_cons_self ..)
    show p.length ≤ 1 * (k + 1)
    omega
  | p :: q :: r, h => by
    have h1 := h p (List.mem_cons_self ..)
    have h2 := joinL_len (s := s) (ps := q :: r) fun y hy => h y (List.mem_cons_of_mem _ hy)
    show (p ++ ([s] ++ joinL [s] (q :: r))).length ≤ (r.length + 1 + 1) * (k + 1)
    simp only [List.length_append, List.length_cons, List.length_nil] at h2 ⊢
    rw [Nat.add_mul (r.length + 1) 1 (k + 1)]
    omega
theorem txT_len {its : List (List En)} (h : OkI its) (hl : its.length ≤ 10) : (txT its).length ≤ 620 := by
  unfold txT
  rw [len_tl, join_eq, tl_join, comma_tl, List.map_map]
  have := joinL_len (s := 44) (k := 61) (ps := its.map (tl ∘ txI)) fun p hp => by
    obtain ⟨es, he, rfl⟩ := List.mem_map.mp hp
    obtain ⟨h1, h2, h3⟩ := h.it es he
    have := txI_len h3 h2 h1
    rw [len_tl] at this; exact this
  rw [List.length_map] at this
  omega
end K1


set_option Elab.async false
set_option linter.all false
set_option maxRecDepth 100000
set_option maxHeartbeats 4000000
namespace K1
open PySem PySem.Spec PyProof.Rows L2 TL
theorem sl_listK {X : Cx} {K : PySem.W.Frag} (h : X.K = K) : SlR X (rSlL K) := by subst h; exact sl_list
abbrev sRef : Stmt := st__law_refused_right
abbrev nRef : List Str := ["_law_well_here", "_law_told", "_law_numbers", "_law_spot", "_law_odds", "_law_odd", "_law_at", "_law_ahead", "_law_sign"]
abbrev pRef : List Str := ["_law_well_here", "_law_told", "_law_numbers"]
theorem scRef : FnScope nRef pRef (defScope sRef) := ⟨rfl, rfl, rfl, by decide +kernel, rfl, by decide +kernel, by decide +kernel⟩
abbrev lamQ : Str := "_law_refused_right" ++ ".<locals>." ++ "<lambda>"
/-- a def at its name, with its code object -/
def AtC (K : PySem.W.Frag) (mg : Str → Option Value) (x : Str) (st : Stmt) (c : Addr) : Prop := ∃ (f : Addr) (oc : Value) (od : Option Addr) (kV doc pm : Value) (an : Option Addr) (ct : Value) (osl : Array (Option Value)),
  mg x = some (.ref f) ∧ PySem.W.keepIn K (.ref f) = true ∧ K.lookup f = some ⟨oc, od, .func (PySem.W.fnOf x x (defArgs st) (defBody st) (defScope st) .none kV doc pm an (.ref c) ct), osl⟩ ∧ PySem.W.codeIn K (.ref c) x = true
def spRef (PT : Addr) : Sp := fun vs H Q _ => ∃ (p b : Addr) (t : Str) (ns : List Int), vs = [.ref p, .str t, .ref b] ∧ WellAt H p ∧ b ≠ p ∧ H b = some (.lst (ns.map V.int)) ∧ There ns ∧ t.length ≤ 1000 ∧ good t = true ∧ LamX.Tabs [(PT, lamQ)] H ∧
  ∀ H', FrN p H H' → LamX.Tabs [(PT, lamQ)] H' → Q (.bl true) H'
/-! ### what is no text -/
def smallS (t : Str) : Bool := t.cps.all (· < 0x110000)
theorem smallS_tl (t : Str) : smallS t = (tl t).all fun c => decide (c < 0x110000) := by
  unfold smallS
  simp [tl]
theorem good_small {t : Str} (h : good t = true) : smallS t = true := by
  rw [smallS_tl, List.all_eq_true]
  intro c hc
  cases e : sign c with
  | false =>
    have := bad_sign hc e
    rw [← good_eq, h] at this; cases this
  | true =>
    unfold sign dig at e
    simp at e ⊢
    omega
theorem small_app {x y : Str} (hx : smallS x = true) (hy : smallS y = true) : smallS (x ++ y) = true := by
  rw [smallS_tl] at hx hy ⊢
  rw [tl_append, List.all_append, hx, hy]; rfl
theorem small_cut {x : Str} (hx : smallS x = true) (lo hi : Option Int) : smallS (cutS x lo hi) = true := by
  rw [smallS_tl] at hx ⊢
  rw [List.all_eq_true] at hx ⊢
  intro c hc
  refine hx c ?_
  have hc' : c ∈ ((x.cps.toList.drop (HT.sIx x.length 0 lo)).take (HT.sIx x.length x.length hi - HT.sIx x.length 0 lo)) := by
    simpa [tl, cutS] using hc
  exact List.mem_of_mem_drop (List.mem_of_mem_take hc')
inductive OddV (H : Hp) : V → Prop
  | txt {t : Str} (h1 : t.length ≤ 10000) (h2 : good t = false) (h3 : smallS t = true) : OddV H (.str t)
  | non : OddV H .non
  | int (n : Int) : OddV H (.int n)
  | bl (b : Bool) : OddV H (.bl b)
  | lst {a : Addr} {z : Str} (e : H a = some (.lst [.str z])) (h3 : smallS z = true) : OddV H (.ref a)
  | tup {a : Addr} {z : Str} (e : H a = some (.tup [.str z])) (h3 : smallS z = true) : OddV H (.ref a)
theorem OddV.ext {H H' : Hp} {x : V} (h : OddV H x) (e : LamX.ExtN H H') : OddV H' x := by
  cases h with
  | txt h1 h2 h3 => exact .txt h1 h2 h3
  | non => exact .non
  | int n => exact .int n
  | bl b => exact .bl b
  | lst e' h => exact .lst (e _ _ e' fun ps z => by cases z) h
  | tup e' h => exact .tup (e _ _ e' fun ps z => by cases z) h
theorem OddV.bad {K : PySem.W.Frag} {H : Hp} {x : V} (h : OddV H x) : BadT K H x := by
  cases h with
  | txt h1 h2 h3 => exact .inl ⟨_, rfl, h1, h2⟩
  | non => exact .inr ⟨_, .base .non, by decide +kernel⟩
  | int n => exact .inr ⟨_, .base (.int n), by decide +kernel⟩
  | bl b => exact .inr ⟨_, .base (.bl b), by decide +kernel⟩
  | lst e h => exact .inr ⟨_, .base (.lst e), by decide +kernel⟩
  | tup e h => exact .inr ⟨_, .base (.tup e), by decide +kernel⟩
theorem OddV.dp {K : PySem.W.Frag} {H : Hp} {x : V} (h : OddV H x) : ∃ d, Dp K H x d ∧ d.canLay0 = true ∧ d.depth ≤ 1 := by
  cases h with
  | txt h1 h2 h3 => exact ⟨_, .str _, h3, Nat.zero_le _⟩
  | non => exact ⟨_, .non, rfl, by decide⟩
  | int n => exact ⟨_, .int n, rfl, Nat.zero_le _⟩
  | bl b => exact ⟨_, .bl b, rfl, Nat.zero_le _⟩
  | lst e h => exact ⟨_, .lst (sq e) (.cons (.str _) .nil), (by show (smallS _ && true) = true; rw [h]; rfl), Nat.le_refl 1⟩
  | tup e h => exact ⟨_, .tup (st e) (.cons (.str _) .nil), (by show (smallS _ && true) = true; rw [h]; rfl), Nat.le_refl 1⟩
/-- two pairs of a word and the same -/
theorem shaped_pair {z : Str} {d : PyData} (hz : smallS z = true) (h1 : d.canLay0 = true) (h2 : d.depth ≤ 1) : SeqAt.shaped (.tuple [.str z, d]) = true := by
  unfold SeqAt.shaped
  have a : PyData.canLay0 (.tuple [.str z, d]) = true := by
    show (smallS z && (d.canLay0 && true)) = true
    rw [hz, h1]; rfl
  have b : PyData.depth (.tuple [.str z, d]) = max 0 (max d.depth 0) + 1 := rfl
  rw [a, b]
  have : max 0 (max d.depth 0) + 1 ≤ 64 := by omega
  rw [decide_eq_true this]; rfl
theorem dp_pair {K : PySem.W.Frag} {H : Hp} {a : Addr} {z : Str} {x : V} {d : PyData} (h : H a = some (.tup [.str z, x])) (hd : Dp K H x d) : Dp K H (.ref a) (.tuple [.str z, d]) := .tup (st h) (.cons (.str _) (.cons hd .nil))
/-! ### what is no row -/
inductive OddN (ah : Int) (H : Hp) : V → Prop
  | int {m : Int} (h : ¬ (ah < m ∧ m ≤ G)) : OddN ah H (.int m)
  | non : OddN ah H .non
  | str (z : Str) : OddN ah H (.str z)
  | bl (b : Bool) : OddN ah H (.bl b)
  | lst {a : Addr} {xs : List V} (e : H a = some (.lst xs)) : OddN ah H (.ref a)
  | tup {a : Addr} {xs : List V} (e : H a = some (.tup xs)) : OddN ah H (.ref a)
theorem OddN.ext {ah : Int} {H H' : Hp} {x : V} (h : OddN ah H x) (e : LamX.ExtN H H') : OddN ah H' x := by
  cases h with
  | int h => exact .int h
  | non => exact .non
  | str z => exact .str z
  | bl b => exact .bl b
  | lst e' => exact .lst (e _ _ e' fun ps z => by cases z)
  | tup e' => exact .tup (e _ _ e' fun ps z => by cases z)
theorem OddN.bad {K : PySem.W.Frag} {ah : Int} {H : Hp} {x : V} {ns : List Int} (h : OddN ah H x) (e : ns.getLastD 0 = ah) : BadItem K H ns x := by
  cases h with
  | int h => exact .inr (.inl ⟨_, rfl, by rw [e]; exact h⟩)
  | non => exact .inr (.inr ⟨"NoneType", false, false, .base .non, by decide +kernel, by decide +kernel, rfl⟩)
  | str z => exact .inr (.inr ⟨"str", false, false, .base (.str z), by decide +kernel, by decide +kernel, rfl⟩)
  | bl b => exact .inr (.inr ⟨"bool", true, true, .base (.bl b), by decide +kernel, by decide +kernel, rfl⟩)
  | lst e' => exact .inr (.inr ⟨"list", false, false, .base (.lst e'), by decide +kernel, by decide +kernel, rfl⟩)
  | tup e' => exact .inr (.inr ⟨"tuple", false, false, .base (.tup e'), by decide +kernel, by decide +kernel, rfl⟩)
inductive OddS (H : Hp) : V → Prop
  | int (m : Int) : OddS H (.int m)
  | non : OddS H .non
  | str (z : Str) : OddS H (.str z)
  | bl (b : Bool) : OddS H (.bl b)
  | dic {a : Addr} (e : H a = some (.dK [])) : OddS H (.ref a)
theorem OddS.ext {H H' : Hp} {x : V} (h : OddS H x) (e : LamX.ExtN H H') : OddS H' x := by
  cases h with
  | int m => exact .int m
  | non => exact .non
  | str z => exact .str z
  | bl b => exact .bl b
  | dic e' => exact .dic (e _ _ e' fun ps z => by cases z)
theorem OddS.no {K : PySem.W.Frag} {H : Hp} {x : V} (h : OddS H x) : NoSeq K H x := by
  cases h with
  | int m => exact ⟨"int", .base (.int m), by decide +kernel, by decide +kernel⟩
  | non => exact ⟨"NoneType", .base .non, by decide +kernel, by decide +kernel⟩
  | str z => exact ⟨"str", .base (.str z), by decide +kernel, by decide +kernel⟩
  | bl b => exact ⟨"bool", .base (.bl b), by decide +kernel, by decide +kernel⟩
  | dic e => exact ⟨"dict", .base (.dK e), by decide +kernel, by decide +kernel⟩
def two : List Int := (List.range 200).map fun (i : Nat) => 1 + (i : Int)
theorem rg_two : rgV 1 203 = two.map V.int ++ [.int 201, .int 202] := by
  unfold rgV two
  rw [show ((203 : Int) - 1).toNat = 202 by rfl, List.range_succ, List.range_succ, List.map_append, List.map_append, List.map_map, List.append_assoc]
  rfl
theorem two_asc : Asc two := by
  refine ⟨?_, fun n hn => ?_⟩
  · unfold two
    rw [List.pairwise_map]
    exact List.pairwise_lt_range.imp fun {a b} h => by omega
  · unfold two at hn
    rw [List.mem_map] at hn
    obtain ⟨i, hi, rfl⟩ := hn
    have := List.mem_range.mp hi
    unfold G; omega
theorem two_len : two.length = 200 := by unfold two; simp
theorem take_asc {ns : List Int} (h : There ns) (k : Nat) : Asc (ns.take k) := ⟨h.asc.sublist (List.take_sublist _ _), fun n hn => h.rng n (List.mem_of_mem_take hn)⟩
theorem tabs_ext {T : List (Addr × Str)} {p : Addr} {H H' : Hp} (hw : WellAt H p) (e : Ext p H H') (hT : LamX.Tabs T H) : LamX.Tabs T H' := fun x hx => by
  obtain ⟨ps, h1, h2, h3⟩ := hT x hx
  have np : ∀ a, (∃ ps, H a = some (.tbl ps)) → a ≠ p := fun a ⟨ps, h⟩ z => by
    obtain ⟨c, m, t, e⟩ := hw
    rw [z, e] at h; cases h
  refine ⟨ps, e _ _ (np _ ⟨ps, h1⟩) h1, h2, fun pos cv hc => ?_⟩
  obtain ⟨c', g1, g2⟩ := h3 pos cv hc
  refine ⟨c', g1, e _ _ (fun z => ?_) g2⟩
  obtain ⟨c, m, t, e⟩ := hw
  rw [z, e] at g2; cases g2
theorem signs_odd : ∀ c ∈ (".-+ aA\n\t" : Str).cps.toList, sign c = false ∧ c < 0x110000 := by decide +kernel
end K1


set_option Elab.async false
set_option linter.all false
set_option maxRecDepth 100000
set_option maxHeartbeats 4000000
namespace K1
open PySem PySem.Spec PyProof.Rows L2 TL
section
variable {P : Program} {w : World} {K : PySem.W.Frag} {mg : Str → Option Value} {base : Heap} {CS CR c PT : Addr}
theorem ok_ref {f : Addr} {oc : Value} {od : Option Addr} {kV doc pm : Value} {an : Option Addr} {ct : Value} {osl : Array (Option Value)} (T : Bi mg) (D_draw : Def P w K mg base CX0 1 "_law_draw" ["_law_well_here", "_law_below"] spDraw)
    (D_meant : Def P w K mg base (L2.CX P w) 4 "meant" pMeant (spMeant K CS CR)) (DS : SaidK P K mg CS CR) (TB : LamX.TabB base mg c PT)
    (lk : K.lookup f = some ⟨oc, od, .func (PySem.W.fnOf "_law_refused_right" "_law_refused_right" (defArgs sRef) (defBody sRef) (defScope sRef) .none kV doc pm an (.ref c) ct), osl⟩) (hcd : PySem.W.codeIn K (.ref c) "_law_refused_right" = true) :
    FnOk P w K mg base CX0 7 f (PySem.W.fnOf "_law_refused_right" "_law_refused_right" (defArgs sRef) (defBody sRef) (defScope sRef) .none kV doc pm an (.ref c) ct) pRef (spRef PT) := by
  have nd := scRef.nd
  have hu1 : ∀ p ∈ [(PT, lamQ)], p.1 = PT → p.2 = lamQ := fun p hp _ => by rw [List.mem_singleton.mp hp]
  refine fn_of lk hcd scRef (fun vs H Q E h => ?_) (fun A outer s H vs Q E hr h => ?_)
  · obtain ⟨p, b, t, ns, rfl, _⟩ := h
    rfl
  · obtain ⟨p, b, t, ns, rfl, hw, nbp, hb, th, htl, hg, hT, q⟩ := h
    refine ⟨_, PSs.nox (pss_cons (ps_set (i := 3) nd rfl (Or.inr rfl) (pe_def D_draw (hr.mono (by decide)) rfl pass0 (pa_cons (pv 0) (pa_cons (pe_op op_add (pe_callB call_len_str (by rfl) T.len PySem.boot_len (pa_cons (pv 1) pa_nil)) pe_int) pa_nil))))
 (pss_cons (ps_set (i := 4) nd rfl (Or.inl rfl) (pe_lst (pa_cons pe_str (pa_cons pe_str (pa_cons (pe_op op_add_str (pv 1) pe_str) (pa_cons (pe_op op_add_str pe_str (pv 1)) (pa_cons (pe_op op_add_str (pv 1) pe_str) (pa_cons pe_str (pa_cons pe_str (pa_cons pe_str (pa_cons (pe_op op_add_str pe_str (pv 1)) (pa_cons (pe_op op_add_str (pv 1) pe_str) (pa_cons pe_str (pa_cons pe_str pa_nil))))))))))))))
 (pss_cons (ps_set (i := 4) nd rfl (Or.inl rfl) (pe_op op_cat (pv 4) (pe_lst (pa_cons (pe_op op_add_str (pv 1) pe_str) (pa_cons (pe_op op_add_str pe_str (pv 1)) pa_nil)))))
 (pss_cons (ps_set (i := 4) nd rfl (Or.inl rfl) (pe_op op_cat (pv 4) (pe_lc (own := [("_law_sign", 8)]) (g := gName 8) (tt := tYes) rfl nd (pi_str pe_str) (blkOk_by (own := [("_law_sign", 8)]) (N := nRef) (sc := defScope sRef) (by decide +kernel)) (fun _ _ _ _ _ => pg_name (i := 8) nd rfl (Or.inl rfl)) (fun _ _ _ _ _ => pts_nil) (fun _ _ _ _ _ => (pe_op op_add_str (pe_op op_add_str (pe_slice sl_str (pv 1) po_none (po_some (pv 3))) (pv 8)) (pe_slice sl_str (pv 1) (po_some (pv 3)) po_none))))))
 (C8.pss_cut (ps_set (i := 4) nd rfl (Or.inl rfl) (pe_op op_cat (pv 4) (pe_lst (pa_cons (pe_op op_repS pe_str pe_int) (pa_cons pe_non (pa_cons pe_int (pa_cons (pe_lst (pa_cons pe_str pa_nil)) (pa_cons (pe_tup (pa_cons pe_str pa_nil)) (pa_cons pe_bl pa_nil)))))))))
 (C8.pss_cut (ps_for PassesOwn.never rfl (pi_listK (K := K) rfl (pv 4)) (pg_name (i := 5) nd rfl (Or.inr rfl))
  (pss_one (ps_if (pt_cmpR (op_neDK (K := K) rfl hr.units) (pe_said (k := 4) (T := [(PT, lamQ)]) DS rfl TB rfl (List.mem_singleton.mpr rfl) hu1 hr (LamX.lamS_by (by rfl)) rfl (fun _ _ _ _ _ => rfl) (fun _ _ _ _ _ _ _ hr2 => (pe_def D_meant hr2 rfl (passes_call (takes_of rfl rfl rfl rfl) (fun _ _ _ _ h => h)) (pa_cons (pv 5) (pa_cons pe_non pa_nil))))) (pe_tup (pa_cons pe_str (pa_cons (pv 5) pa_nil))) (nomark _))
  (pss_one (ps_ret pe_bl))
  pss_nil)))
 (pss_cons (ps_set (i := 6) nd rfl (Or.inr rfl) (pe_def D_draw (hr.mono (by decide)) rfl pass0 (pa_cons (pv 0) (pa_cons (pe_op op_add (pe_callB (call_lenK (K := K) rfl) (by rfl) T.len PySem.boot_len (pa_cons (pv 2) pa_nil)) pe_int) pa_nil))))
 (C8.pss_cut (ps_set (i := 7) nd rfl (Or.inl rfl) (pe_ifExp (pt_cmpR op_gt (pv 6) pe_int (nomark _)) (pe_ix (ix_listK (K := K) rfl) (pv 2) (pe_op op_sub (pv 6) pe_int) (fun _ _ => rfl)) pe_int))
 (C8.pss_cut (ps_for PassesOwn.never rfl (pi_listK (K := K) rfl (pe_lst (pa_cons pe_int (pa_cons (pe_un un_neg pe_int) (pa_cons (pv 7) (pa_cons (pe_callB (call_max2 rfl) (by rfl) T.max PyProof.Rows.boot_max (pa_cons pe_int (pa_cons (pe_op op_sub (pv 7) pe_int) pa_nil))) (pa_cons pe_non (pa_cons pe_str (pa_cons pe_bl (pa_cons (pe_tup (pa_cons pe_int pa_nil)) (pa_cons (pe_op op_pow pe_int pe_int) (pa_cons (pe_lst (pa_cons pe_int pa_nil)) pa_nil)))))))))))) (pg_name (i := 5) nd rfl (Or.inr rfl))
  (pss_one (ps_if (pt_cmpR (op_neDK (K := K) rfl hr.units) (pe_said (k := 4) (T := [(PT, lamQ)]) DS rfl TB rfl (List.mem_singleton.mpr rfl) hu1 hr (LamX.lamS_by (by rfl)) rfl (fun _ _ _ _ _ => rfl) (fun _ _ _ _ _ _ _ hr2 => (pe_def D_meant hr2 rfl (passes_call (takes_of rfl rfl rfl rfl) (fun _ _ _ _ h => h)) (pa_cons (pv 1) (pa_cons (pe_op op_cat (pe_op op_cat (pe_slice (sl_listK (K := K) rfl) (pv 2) po_none (po_some (pv 6))) (pe_lst (pa_cons (pv 5) pa_nil))) (pe_slice (sl_listK (K := K) rfl) (pv 2) (po_some (pv 6)) po_none)) pa_nil))))) (pe_tup (pa_cons pe_str (pa_cons (pe_callB (call_min2 rfl) (by rfl) T.min PyProof.Rows.boot_min (pa_cons (pv 6) (pa_cons pe_int pa_nil))) pa_nil))) (nomark _))
  (pss_one (ps_ret pe_bl))
  pss_nil)))
 (C8.pss_cut (ps_for PassesOwn.never rfl (pi_tupK (K := K) rfl (pe_tup (pa_cons pe_non (pa_cons pe_int (pa_cons pe_str (pa_cons pe_dnewK (pa_cons pe_bl pa_nil))))))) (pg_name (i := 5) nd rfl (Or.inr rfl))
  (pss_one (ps_if (pt_cmpR (op_neDK (K := K) rfl hr.units) (pe_said (k := 4) (T := [(PT, lamQ)]) DS rfl TB rfl (List.mem_singleton.mpr rfl) hu1 hr (LamX.lamS_by (by rfl)) rfl (fun _ _ _ _ _ => rfl) (fun _ _ _ _ _ _ _ hr2 => (pe_def D_meant hr2 rfl (passes_call (takes_of rfl rfl rfl rfl) (fun _ _ _ _ h => h)) (pa_cons (pv 1) (pa_cons (pv 5) pa_nil))))) (pe_tup (pa_cons pe_str (pa_cons (pe_un un_neg pe_int) pa_nil))) (nomark _))
  (pss_one (ps_ret pe_bl))
  pss_nil)))
 (pss_one (ps_ret (pe_cmpR (op_eqDK (K := K) rfl hr.units) (pe_said (k := 4) (T := [(PT, lamQ)]) DS rfl TB rfl (List.mem_singleton.mpr rfl) hu1 hr (LamX.lamS_by (by rfl)) rfl (fun _ _ _ _ _ => rfl) (fun _ _ _ _ _ _ _ hr2 => (pe_def D_meant hr2 rfl (passes_call (takes_of rfl rfl rfl rfl) (fun _ _ _ _ h => h)) (pa_cons (pv 1) (pa_cons (pe_listRg rfl rfl T.list (prg_2 rfl T.range pe_int pe_int)) pa_nil))))) (pe_tup (pa_cons pe_str (pa_cons pe_int pa_nil))) (nomark _)))))))))))))), ?_⟩
    have hL : ∀ n, n ≤ 100000 → n ≤ sizeLine := lt1
    refine ⟨.ref p, rfl, .str t, rfl, t, rfl, hL _ (by omega), t.length, 1, rfl, rfl, p, _, rfl, hw, by omega, by omega, fun d H1 d0 d1 e1 w1 => ?_⟩
    refine ⟨.str t, rfl, t, ",", rfl, rfl, hL _ (by show t.length + 1 ≤ 100000; omega), .str t, rfl, ",", t, rfl, rfl, hL _ (by show 1 + t.length ≤ 100000; omega), .str t, rfl, t, ":", rfl, rfl, hL _ (by show t.length + 1 ≤ 100000; omega), ?_⟩
    refine ⟨.str t, rfl, " ", t, rfl, rfl, hL _ (by show 1 + t.length ≤ 100000; omega), .str t, rfl, t, " ", rfl, rfl, hL _ (by show t.length + 1 ≤ 100000; omega), (by show 12 ≤ sizeLine; decide), fun l1 nl1 => ?_⟩
    have goods : ∀ (z : Str), z.length ≤ 10000 → goodL (tl z) = false → smallS z = true → ∀ H : Hp, OddV H (.str z) := fun z h1 h2 h3 H => .txt h1 (by rw [good_eq]; exact h2) h3
    have ts := good_small hg
    have tg := hg
    rw [good_eq] at tg
    have hO1 : ∀ (H : Hp), ∀ x ∈ [V.str "", V.str ",", V.str (t ++ ","), V.str ("," ++ t), V.str (t ++ ":"), V.str "0", V.str "01", V.str "1:2:3", V.str (" " ++ t), V.str (t ++ " "), V.str "1-2", V.str "**"], OddV H x := by
      intro H x hx
      simp only [List.mem_cons, List.not_mem_nil, or_false] at hx
      have lc : ∀ (a b : Str), (a ++ b).length = a.length + b.length := fun a b => by rw [len_tl, tl_append, List.length_append, ← len_tl, ← len_tl]
      rcases hx with rfl | rfl | rfl | rfl | rfl | rfl | rfl | rfl | rfl | rfl | rfl | rfl
      · exact goods _ (by decide +kernel) (by decide +kernel) (by decide +kernel) H
      · exact goods _ (by decide +kernel) (by decide +kernel) (by decide +kernel) H
      · exact goods _ (by rw [lc]; show t.length + 1 ≤ 10000; omega) (by rw [tl_append]; exact bad_end _) (small_app ts (by decide +kernel)) H
      · exact goods _ (by rw [lc]; show 1 + t.length ≤ 10000; omega) (by rw [tl_append]; exact bad_first _) (small_app (by decide +kernel) ts) H
      · exact goods _ (by rw [lc]; show t.length + 1 ≤ 10000; omega) (by rw [tl_append]; exact bad_colon _) (small_app ts (by decide +kernel)) H
      · exact goods _ (by decide +kernel) (by decide +kernel) (by decide +kernel) H
      · exact goods _ (by decide +kernel) (by decide +kernel) (by decide +kernel) H
      · exact goods _ (by decide +kernel) (by decide +kernel) (by decide +kernel) H
      · exact goods _ (by rw [lc]; show 1 + t.length ≤ 10000; omega) (by rw [tl_append]; exact bad_sign (c := 32) (List.mem_append_left _ (by decide +kernel)) rfl) (small_app (by decide +kernel) ts) H
      · exact goods _ (by rw [lc]; show t.length + 1 ≤ 10000; omega) (by rw [tl_append]; exact bad_sign (c := 32) (List.mem_append_right _ (by decide +kernel)) rfl) (small_app ts (by decide +kernel)) H
      · exact goods _ (by decide +kernel) (by decide +kernel) (by decide +kernel) H
      · exact goods _ (by decide +kernel) (by decide +kernel) (by decide +kernel) H
    have nl1p := w1.ne nl1
    have e2 := e1.new nl1 (o := .lst [V.str "", V.str ",", V.str (t ++ ","), V.str ("," ++ t), V.str (t ++ ":"), V.str "0", V.str "01", V.str "1:2:3", V.str (" " ++ t), V.str (t ++ " "), V.str "1-2", V.str "**"])
    refine ⟨.ref l1, rfl, .str t, rfl, t, "\n", rfl, rfl, hL _ (by show t.length + 1 ≤ 100000; omega), .str t, rfl, "\n", t, rfl, rfl, hL _ (by show 1 + t.length ≤ 100000; omega), (by show 2 ≤ sizeLine; decide), fun l2 nl2 => ?_⟩
    refine ⟨l1, l2, _, _, rfl, rfl, (by rw [upd_ne (ne_of_none upd_same nl2)]; exact upd_same), upd_same, (by show 14 ≤ sizeLine; decide), fun l3 nl3 => ?_⟩
    have lc : ∀ (a b : Str), (a ++ b).length = a.length + b.length := fun a b => by rw [len_tl, tl_append, List.length_append, ← len_tl, ← len_tl]
    have hO2 : ∀ (H : Hp), ∀ x ∈ [V.str (t ++ "\n"), V.str ("\n" ++ t)], OddV H x := by
      intro H x hx
      simp only [List.mem_cons, List.not_mem_nil, or_false] at hx
      rcases hx with rfl | rfl
      · exact goods _ (by rw [lc]; show t.length + 1 ≤ 10000; omega) (by rw [tl_append]; exact bad_sign (c := 10) (List.mem_append_right _ (by decide +kernel)) rfl) (small_app ts (by decide +kernel)) H
      · exact goods _ (by rw [lc]; show 1 + t.length ≤ 10000; omega) (by rw [tl_append]; exact bad_sign (c := 10) (List.mem_append_left _ (by decide +kernel)) rfl) (small_app (by decide +kernel) ts) H
    have w2 := w1.new nl1 (o := .lst [V.str "", V.str ",", V.str (t ++ ","), V.str ("," ++ t), V.str (t ++ ":"), V.str "0", V.str "01", V.str "1:2:3", V.str (" " ++ t), V.str (t ++ " "), V.str "1-2", V.str "**"])
    have e3 := (e2.new nl2 (o := .lst [V.str (t ++ "\n"), V.str ("\n" ++ t)])).new nl3 (o := .lst ([V.str "", V.str ",", V.str (t ++ ","), V.str ("," ++ t), V.str (t ++ ":"), V.str "0", V.str "01", V.str "1:2:3", V.str (" " ++ t), V.str (t ++ " "), V.str "1-2", V.str "**"] ++ [V.str (t ++ "\n"), V.str ("\n" ++ t)]))
    have w3 := (w2.new nl2 (o := .lst [V.str (t ++ "\n"), V.str ("\n" ++ t)])).new nl3 (o := .lst ([V.str "", V.str ",", V.str (t ++ ","), V.str ("," ++ t), V.str (t ++ ":"), V.str "0", V.str "01", V.str "1:2:3", V.str (" " ++ t), V.str (t ++ " "), V.str "1-2", V.str "**"] ++ [V.str (t ++ "\n"), V.str ("\n" ++ t)]))
    have hl3 : ∀ o, (upd (upd (upd H1 l1 (.lst [V.str "", V.str ",", V.str (t ++ ","), V.str ("," ++ t), V.str (t ++ ":"), V.str "0", V.str "01", V.str "1:2:3", V.str (" " ++ t), V.str (t ++ " "), V.str "1-2", V.str "**"])) l2 (.lst [V.str (t ++ "\n"), V.str ("\n" ++ t)])) l3 o) l3 = some o := fun o => upd_same
    generalize hO : ([V.str "", V.str ",", V.str (t ++ ","), V.str ("," ++ t), V.str (t ++ ":"), V.str "0", V.str "01", V.str "1:2:3", V.str (" " ++ t), V.str (t ++ " "), V.str "1-2", V.str "**"] ++ [V.str (t ++ "\n"), V.str ("\n" ++ t)]) = O at e3 w3
    have hOl : O.length = 14 := by rw [← hO]; rfl
    have hO3 : ∀ (H : Hp), ∀ x ∈ O, OddV H x := fun H x hx => by
      rw [← hO] at hx
      exact (List.mem_append.mp hx).elim (hO1 H x) (hO2 H x)
    have hl3 := hl3 (.lst O)
    generalize hH3 : upd (upd (upd H1 l1 (.lst [V.str "", V.str ",", V.str (t ++ ","), V.str ("," ++ t), V.str (t ++ ":"), V.str "0", V.str "01", V.str "1:2:3", V.str (" " ++ t), V.str (t ++ " "), V.str "1-2", V.str "**"])) l2 (.lst [V.str (t ++ "\n"), V.str ("\n" ++ t)])) l3 (.lst O) = H3 at e3 w3 hl3
    have dl : d ≤ 1000 := by omega
    clear hO hH3 hO1 hO2
    refine ⟨.ref l3, rfl, ".-+ aA\n\t", rfl, fun D hD => ?_⟩
    refine lc_it walk_str (fun i H4 => Same H3 H4 ∧ ∃ zs : List Str, H4 D = some (.lst (zs.map V.str)) ∧ zs.length = i ∧ ∀ z ∈ zs, z.length ≤ 10000 ∧ goodL (tl z) = false ∧ smallS z = true) ⟨same_new hD, [], upd_same, rfl, fun z hz => by simp at hz⟩ (fun _ _ _ _ => True.intro) ?_ ?_
    · rintro i x H4 H4' hi ⟨s4, zs, h4, hzl, hz⟩ ⟨rfl, c, hc, rfl⟩
      have hcs := signs_odd c (Array.mem_toList_iff.mpr (Array.mem_of_getElem? hc))
      refine ⟨rfl, tyes ?_⟩
      have hi8 : i < 8 := hi
      have c1 := cutS_length t none (some d)
      have c2 := cutS_length t (some d) none
      have lz : (cutS t none (some d) ++ (⟨#[c]⟩ : Str) ++ cutS t (some d) none).length = (cutS t none (some d)).length + 1 + (cutS t (some d) none).length := by rw [lc, lc]; rfl
      refine ⟨_, rfl, _, rfl, d, rfl, t, rfl, hL _ (by omega), _, rfl, _, _, rfl, rfl, hL _ (by show _ + 1 ≤ 100000; omega), ?_⟩
      refine ⟨_, rfl, _, rfl, d, rfl, t, rfl, hL _ (by omega), _, _, rfl, rfl, hL _ (by rw [lc]; show _ + 1 + _ ≤ 100000; omega), ?_⟩
      refine ⟨_, h4, lt2 _ (by rw [List.length_map]; omega), s4.mut hD, zs ++ [cutS t none (some d) ++ (⟨#[c]⟩ : Str) ++ cutS t (some d) none], by rw [upd_same, List.map_append]; rfl, by rw [List.length_append, hzl]; rfl, ?_⟩
      intro z hz'
      rcases List.mem_append.mp hz' with hz' | hz'
      · exact hz z hz'
      · rw [List.mem_singleton.mp hz']
        refine ⟨by rw [lz]; omega, ?_, small_app (small_app (small_cut ts _ _) ?_) (small_cut ts _ _)⟩
        · rw [tl_append, tl_append]
          exact bad_sign (c := c) (List.mem_append_left _ (List.mem_append_right _ (List.mem_singleton.mpr rfl))) hcs.1
        · rw [smallS_tl]; show (decide (c < 0x110000) && true) = true; rw [decide_eq_true hcs.2]; rfl
    · rintro H4 ⟨s4, zs, h4, hzl, hz⟩
      have hz8 : zs.length = 8 := hzl
      have e4 : Ext p H H4 := e3.trans (same_ext s4)
      have w4 : WellAt H4 p := let ⟨x, y, z, e⟩ := w3; ⟨x, y, z, s4 _ _ e⟩
      refine ⟨l3, D, O, zs.map V.str, rfl, rfl, s4 _ _ hl3, h4, hL _ (by rw [hOl, List.length_map, hz8]; omega), fun l5 nl5 => ?_⟩
      have e5 := e4.new nl5 (o := .lst (O ++ zs.map V.str))
      have w5 := w4.new nl5 (o := .lst (O ++ zs.map V.str))
      have h5 : (upd H4 l5 (.lst (O ++ zs.map V.str))) l5 = some (.lst (O ++ zs.map V.str)) := upd_same
      have hO5 : ∀ (H : Hp), ∀ x ∈ O ++ zs.map V.str, OddV H x := fun H x hx => by
        rcases List.mem_append.mp hx with hx | hx
        · exact hO3 H x hx
        · obtain ⟨z, hzm, rfl⟩ := List.mem_map.mp hx
          have := hz z hzm
          exact goods z this.1 this.2.1 this.2.2 H
      have hl5 : (O ++ zs.map V.str).length = 22 := by rw [List.length_append, hOl, List.length_map, hz8]
      generalize (O ++ zs.map V.str) = O5 at e5 w5 h5 hO5 hl5
      generalize upd H4 l5 (.lst O5) = H5 at e5 w5 h5
      refine ⟨fun σ H6 => ∃ (l : Addr) (O : List V), σ = [some (.ref p), some (.str t), some (.ref b), some (.int d), some (.ref l), none, none, none, none] ∧ Ext p H H6 ∧ WellAt H6 p ∧ H6 l = some (.lst O) ∧ O.length ≤ 100 ∧ ∀ x ∈ O, OddV H6 x, ?_, ?_⟩
      · refine ⟨_, rfl, "1", 31, rfl, rfl, by decide, by decide, rfl, (by decide +kernel), (by show 1 ≤ sizeLine; decide), fun u nu => ⟨(by show 1 ≤ sizeLine; decide), fun v nv => ⟨(by show 6 ≤ sizeLine; decide), fun m nm => ?_⟩⟩⟩
        have s6 : Same H5 (upd (upd (upd H5 u (.lst [.str "1"])) v (.tup [.str "1"])) m (.lst [.str (repS "1" 31), .non, .int 5, .ref u, .ref v, .bl true])) := ((same_new nu).new nv).new nm
        refine ⟨l5, m, O5, _, rfl, rfl, s6 _ _ h5, upd_same, hL _ (by rw [hl5]; show 22 + 6 ≤ 100000; decide), fun r nr => ?_⟩
        have s7 := s6.new nr (o := .lst (O5 ++ [.str (repS "1" 31), .non, .int 5, .ref u, .ref v, .bl true]))
        have hu1 : (upd (upd (upd H5 u (.lst [.str "1"])) v (.tup [.str "1"])) m (.lst [.str (repS "1" 31), .non, .int 5, .ref u, .ref v, .bl true])) u = some (.lst [.str "1"]) := same_new nm _ _ (same_new nv _ _ upd_same)
        have hv1 : (upd (upd (upd H5 u (.lst [.str "1"])) v (.tup [.str "1"])) m (.lst [.str (repS "1" 31), .non, .int 5, .ref u, .ref v, .bl true])) v = some (.tup [.str "1"]) := same_new nm _ _ upd_same
        refine ⟨r, _, rfl, e5.trans (same_ext s7), ?_, upd_same, by rw [List.length_append, hl5]; show 22 + 6 ≤ 100; decide, fun x hx => ?_⟩
        · obtain ⟨x, y, z, e⟩ := w5
          exact ⟨x, y, z, s7 _ _ e⟩
        · rcases List.mem_append.mp hx with hx | hx
          · exact hO5 _ x hx
          · simp only [List.mem_cons, List.not_mem_nil, or_false] at hx
            rcases hx with rfl | rfl | rfl | rfl | rfl | rfl
            · exact goods _ (by decide +kernel) (by decide +kernel) (by decide +kernel) _
            · exact .non
            · exact .int 5
            · exact .lst (same_new nr _ _ hu1) (by decide +kernel)
            · exact .tup (same_new nr _ _ hv1) (by decide +kernel)
            · exact .bl true
      · clear hO5 h5 w5 e5 hl5 nl5 w4 e4 hz h4 s4 hz8 hzl hD hl3 e3 w3 hOl hO3
        rintro σ H6 ⟨l, O, rfl, e6, w6, h6, hOl, hO⟩
        have hb6 : H6 b = some (.lst (ns.map V.int)) := e6 b _ nbp hb
        have T6 : LamX.Tabs [(PT, lamQ)] H6 := fun x hx => by
          obtain ⟨ps, h1, h2, h3⟩ := hT x hx
          have np : ∀ a, (∃ ps, H a = some (.tbl ps)) → a ≠ p := fun a ⟨ps, h⟩ z => by
            obtain ⟨c, m, t, e⟩ := hw
            rw [z, e] at h; cases h
          refine ⟨ps, e6 _ _ (np _ ⟨ps, h1⟩) h1, h2, fun pos cv hc => ?_⟩
          obtain ⟨c', g1, g2⟩ := h3 pos cv hc
          refine ⟨c', g1, e6 _ _ (fun z => ?_) g2⟩
          obtain ⟨c, m, t, e⟩ := hw
          rw [z, e] at g2; cases g2
        refine ⟨fun σ H7 => ∃ v5, σ = [some (.ref p), some (.str t), some (.ref b), some (.int d), some (.ref l), v5, none, none, none] ∧ LamX.ExtN H6 H7 ∧ LamX.Tabs [(PT, lamQ)] H7, ?_, ?_⟩
        · refine ⟨_, rfl, l, rfl, ⟨_, sq h6⟩, for_list (K := K) (a := l) (xs := O) (fun i σ H7 => ∃ v5, σ = [some (.ref p), some (.str t), some (.ref b), some (.int d), some (.ref l), v5, none, none, none] ∧ LamX.ExtN H6 H7 ∧ LamX.Tabs [(PT, lamQ)] H7) ⟨none, rfl, LamX.ExtN.refl _, T6⟩ ?_ ?_ ?_⟩
          · rintro i σ H7 _ ⟨v5, rfl, eN, T7⟩
            exact sq (eN _ _ h6 fun ps z => by cases z)
          · rintro i x σ H7 hx ⟨v5, rfl, eN, T7⟩
            have hox := hO x (List.mem_of_getElem? hx)
            refine ⟨T7, fun H8 eN8 T8 => ⟨x, rfl, x, .non, rfl, .inl ⟨(hox.ext (eN.trans eN8)).bad, fun d' H9 s9 hd' => .inl ⟨rfl, d', x, rfl, hd', fun r nr => ?_⟩⟩⟩⟩
            refine ⟨x, rfl, (by show 2 ≤ sizeLine; decide), fun m nm => ?_⟩
            have sA := (s9.new nr (o := .tup [.str "set", x])).new nm (o := .tup [.str "set", x])
            have eA : LamX.ExtN H6 (upd (upd H9 r (.tup [.str "set", x])) m (.tup [.str "set", x])) := (eN.trans eN8).trans (LamX.ExtN.of sA)
            obtain ⟨dx, hdx, c1, c2⟩ := (hox.ext eA).dp (K := K)
            have hs := shaped_pair (z := "set") (by decide +kernel) c1 c2
            refine ⟨_, _, dp_pair (same_new nm _ _ upd_same) hdx, dp_pair upd_same hdx, hs, hs, _, rfl, itbF (by rw [SeqAt.eqv_refl _ (SeqAt.canLay_of_shaped hs)]; rfl) ?_⟩
            exact ⟨_, rfl, eA, T8.ext sA⟩
          · rintro σ H7 h
            exact h
        · clear hOl hO h6 nl3 nl2 nl1
          rintro σ H7 ⟨v5, rfl, eN, T7⟩
          have hb7 : H7 b = some (.lst (ns.map V.int)) := eN _ _ hb6 fun ps z => by cases z
          have w7 : WellAt H7 p := let ⟨x, y, z, e⟩ := w6; ⟨x, y, z, eN _ _ e fun ps z => by cases z⟩
          have hnl := th.len
          refine ⟨.ref p, rfl, .ref b, rfl, b, ns.map V.int, rfl, .inl (sq hb7), _, _, rfl, rfl, p, _, rfl, w7, by omega, by rw [List.length_map]; omega, fun at0 H8 a0 a1 e8 w8 => ?_⟩
          rw [List.length_map] at a1
          have hb8 : H8 b = some (.lst (ns.map V.int)) := e8 b _ nbp hb7
          have T8 : LamX.Tabs [(PT, lamQ)] H8 := tabs_ext w7 e8 T7
          have fr8 : FrN p H H8 := (FrN.ext e6).trans ((FrN.lam eN).trans (FrN.ext e8))
          refine ⟨fun σ H9 => H9 = H8 ∧ ∃ ah, ah = (ns.take at0.toNat).getLastD 0 ∧ σ = [some (.ref p), some (.str t), some (.ref b), some (.int d), some (.ref l), v5, some (.int at0), some (.int ah), none], ?_, ?_⟩
          · refine ⟨_, rfl, _, _, rfl, rfl, _, rfl, ite2 (fun c => ?_) (fun c => ?_)⟩
            · have c' : 0 < at0 := by simpa using c
              have hi : (at0 - 1).toNat < ns.length := by omega
              refine ⟨_, rfl, _, rfl, _, _, rfl, rfl, b, _, at0 - 1, .int ns[(at0 - 1).toNat], rfl, rfl, sq hb8, at_of (j := (at0 - 1).toNat) (by omega) (by simp [hi]), rfl, _, ?_, rfl⟩
              have e : at0.toNat = (at0 - 1).toNat + 1 := by omega
              have e2 : ns.take at0.toNat = ns.take (at0 - 1).toNat ++ [ns[(at0 - 1).toNat]] := by rw [e]; exact take_more (List.getElem?_eq_getElem hi)
              rw [e2]
              exact (List.getLastD_concat ..).symm
            · have c' : at0 = 0 := by
                have : ¬ 0 < at0 := by simpa using c
                omega
              exact ⟨rfl, 0, by rw [c']; rfl, rfl⟩
          · rintro σ H9 ⟨rfl, ah, hah, rfl⟩
            have hah1 : ah ≤ G ∧ 0 ≤ ah := by
              rw [hah]
              cases hh : ns.take at0.toNat with
              | nil => simp [G]
              | cons y ys =>
                have hm : (y :: ys).getLastD 0 ∈ ns.take at0.toNat := by rw [hh, List.getLastD_cons]; exact List.getLastD_mem_cons ..
                have := th.rng _ (List.mem_of_mem_take hm)
                omega
            refine ⟨fun σ H10 => ∃ v5, σ = [some (.ref p), some (.str t), some (.ref b), some (.int d), some (.ref l), v5, some (.int at0), some (.int ah), none] ∧ LamX.ExtN H9 H10 ∧ LamX.Tabs [(PT, lamQ)] H10, ?_, ?_⟩
            · refine ⟨_, rfl, .int ah, rfl, .int ah, rfl, _, _, rfl, rfl, _, _, rfl, ?_⟩
              refine ⟨(by show 1 ≤ sizeLine; decide), fun u nu => ⟨_, _, rfl, rfl, ⟨by decide, by decide, by decide⟩, (by show 1 ≤ sizeLine; decide), fun v nv => ⟨(by show 10 ≤ sizeLine; decide), fun m nm => ?_⟩⟩⟩
              have sm := ((same_new (o := .tup [.int 7]) nu).new nv (o := .lst [.int 9])).new nm (o := .lst [.int 0, .int (-1), .int ah, .int (if ah - 1 > 0 then ah - 1 else 0), .non, .str "5", .bl true, .ref u, .int (10 ^ (30 : Int).toNat), .ref v])
              have hx : ∀ x ∈ [V.int 0, .int (-1), .int ah, .int (if ah - 1 > 0 then ah - 1 else 0), .non, .str "5", .bl true, .ref u, .int (10 ^ (30 : Int).toNat), .ref v], OddN ah (upd (upd (upd H9 u (.tup [.int 7])) v (.lst [.int 9])) m (.lst [.int 0, .int (-1), .int ah, .int (if ah - 1 > 0 then ah - 1 else 0), .non, .str "5", .bl true, .ref u, .int (10 ^ (30 : Int).toNat), .ref v])) x := by
                intro x hx
                simp only [List.mem_cons, List.not_mem_nil, or_false] at hx
                rcases hx with rfl | rfl | rfl | rfl | rfl | rfl | rfl | rfl | rfl | rfl
                · exact .int (by omega)
                · exact .int (by omega)
                · exact .int (by omega)
                · exact .int (by split <;> omega)
                · exact .non
                · exact .str _
                · exact .bl _
                · exact .tup (same_new nm _ _ (same_new nv _ _ upd_same))
                · exact .int (by have : (10 : Int) ^ (30 : Int).toNat = G + 1 := rfl
                                 omega)
                · exact .lst (same_new nm _ _ upd_same)
              refine ⟨m, rfl, ⟨_, sq upd_same⟩, ?_⟩
              generalize hLl : [V.int 0, .int (-1), .int ah, .int (if ah - 1 > 0 then ah - 1 else 0), .non, .str "5", .bl true, .ref u, .int (10 ^ (30 : Int).toNat), .ref v] = L at hx sm ⊢
              have hm : (upd (upd (upd H9 u (.tup [.int 7])) v (.lst [.int 9])) m (.lst L)) m = some (.lst L) := upd_same
              generalize upd (upd (upd H9 u (.tup [.int 7])) v (.lst [.int 9])) m (.lst L) = Hm at hx sm hm ⊢
              have hbm : Hm b = some (.lst (ns.map V.int)) := sm _ _ hb8
              have hk : at0.toNat ≤ ns.length := by omega
              have ek : (at0.toNat : Int) = at0 := by omega
              have c1 : cutV (ns.map V.int) none (some at0) = (ns.take at0.toNat).map V.int := by
                unfold cutV
                rw [← ek, HT.sIx_nat, HT.sIx_none, List.drop_zero, List.map_take, List.length_map, Nat.sub_zero]
                congr 1
                omega
              have c2 : cutV (ns.map V.int) (some at0) none = (ns.drop at0.toNat).map V.int := by
                unfold cutV
                rw [← ek, HT.sIx_nat, HT.sIx_none, List.map_drop, List.length_map]
                rw [Int.toNat_natCast, show min at0.toNat ns.length = at0.toNat by omega]
                exact List.take_of_length_le (by rw [List.length_drop, List.length_map]; omega)
              have tk1 : (ns.take at0.toNat).length = at0.toNat := by rw [List.length_take]; omega
              refine for_list (K := K) (a := m) (xs := L) (fun i σ H10 => ∃ v5, σ = [some (.ref p), some (.str t), some (.ref b), some (.int d), some (.ref l), v5, some (.int at0), some (.int ah), none] ∧ LamX.ExtN Hm H10 ∧ LamX.Tabs [(PT, lamQ)] H10) ⟨v5, rfl, LamX.ExtN.refl _, T8.ext sm⟩ ?_ ?_ ?_
              · rintro i σ H10 _ ⟨v5, rfl, eN, T10⟩
                exact sq (eN _ _ hm fun ps z => by cases z)
              · rintro i x σ H10 hxi ⟨v5, rfl, eN, T10⟩
                have hox := hx x (List.mem_of_getElem? hxi)
                refine ⟨T10, fun H11 eN11 T11 => ?_⟩
                have hb11 : H11 b = some (.lst (ns.map V.int)) := (eN.trans eN11) _ _ hbm fun ps z => by cases z
                refine ⟨.str t, rfl, .ref b, rfl, .int at0, rfl, at0, rfl, b, _, rfl, sq hb11, fun q1 n1 => ⟨x, rfl, (by show 1 ≤ sizeLine; decide), fun q2 n2 => ⟨q1, q2, _, _, rfl, rfl, same_new n2 _ _ upd_same, upd_same, hL _ (by rw [c1, List.length_map, tk1]; show at0.toNat + 1 ≤ 100000; omega), fun q3 n3 => ?_⟩⟩⟩
                rw [c1] at n2 n3 ⊢
                have s3 := (((same_new n1 (o := .lst ((ns.take at0.toNat).map V.int))).new n2 (o := .lst [x])).new n3 (o := .lst ((ns.take at0.toNat).map V.int ++ [x])))
                have h3 : (upd (upd (upd H11 q1 (.lst ((ns.take at0.toNat).map V.int))) q2 (.lst [x])) q3 (.lst ((ns.take at0.toNat).map V.int ++ [x]))) q3 = some (.lst ((ns.take at0.toNat).map V.int ++ [x])) := upd_same
                generalize upd (upd (upd H11 q1 (.lst ((ns.take at0.toNat).map V.int))) q2 (.lst [x])) q3 (.lst ((ns.take at0.toNat).map V.int ++ [x])) = H12 at s3 h3 ⊢
                refine ⟨.ref b, rfl, .int at0, rfl, at0, rfl, b, _, rfl, sq (s3 _ _ hb11), fun q4 n4 => ⟨q3, q4, _, _, rfl, rfl, same_new n4 _ _ h3, upd_same, hL _ (by rw [c2, List.length_append, List.length_map, List.length_map, tk1, List.length_drop]; show at0.toNat + 1 + _ ≤ 100000; omega), fun q5 n5 => ?_⟩⟩
                rw [c2] at n5 ⊢
                have s5 := (s3.new n4 (o := .lst ((ns.drop at0.toNat).map V.int))).new n5 (o := .lst ((ns.take at0.toNat).map V.int ++ [x] ++ (ns.drop at0.toNat).map V.int))
                have h5 : (upd (upd H12 q4 (.lst ((ns.drop at0.toNat).map V.int))) q5 (.lst ((ns.take at0.toNat).map V.int ++ [x] ++ (ns.drop at0.toNat).map V.int))) q5 = some (.lst ((ns.take at0.toNat).map V.int ++ x :: (ns.drop at0.toNat).map V.int)) := by
                  rw [upd_same, List.append_assoc]; rfl
                generalize upd (upd H12 q4 (.lst ((ns.drop at0.toNat).map V.int))) q5 (.lst ((ns.take at0.toNat).map V.int ++ [x] ++ (ns.drop at0.toNat).map V.int)) = H13 at s5 h5 ⊢
                have e13 : LamX.ExtN Hm H13 := (eN.trans eN11).trans (LamX.ExtN.of s5)
                refine ⟨.str t, .ref q5, rfl, .inr ⟨t, rfl, by omega, hg, .inl ⟨at0, .inr ⟨q5, ns.take at0.toNat, x, _, rfl, .inl ⟨sq h5, .base (.lst h5)⟩, take_asc th _, by omega, (hox.ext e13).bad hah.symm, by rw [tk1, ek]⟩, fun d' H14 s14 hd' => .inr ⟨rfl, d', .int at0, rfl, hd', fun r nr => ?_⟩⟩⟩⟩
                refine ⟨.int at0, rfl, at0, 200, rfl, (by show 2 ≤ sizeLine; decide), fun m2 nm2 => ?_⟩
                rw [if_neg (show ¬ (200 : Int) < at0 by omega)]
                have sA := (s14.new nr (o := .tup [.str "row", .int at0])).new nm2 (o := .tup [.str "row", .int at0])
                have hs := shaped_pair (z := "row") (d := .int at0) (by decide +kernel) rfl (Nat.zero_le _)
                refine ⟨_, _, dp_pair (same_new nm2 _ _ upd_same) (.int at0), dp_pair upd_same (.int at0), hs, hs, _, rfl, itbF (by rw [SeqAt.eqv_refl _ (SeqAt.canLay_of_shaped hs)]; rfl) ?_⟩
                exact ⟨_, rfl, e13.trans (LamX.ExtN.of sA), T11.ext (s5.trans sA)⟩
              · rintro σ H10 ⟨v5, rfl, eN, T10⟩
                exact ⟨v5, rfl, (LamX.ExtN.of sm).trans eN, T10⟩
            · rintro σ H10 ⟨v5, rfl, eN, T10⟩
              have fr10 : FrN p H H10 := fr8.trans (FrN.lam eN)
              refine ⟨fun σ H11 => ∃ v5, σ = [some (.ref p), some (.str t), some (.ref b), some (.int d), some (.ref l), v5, some (.int at0), some (.int ah), none] ∧ LamX.ExtN H10 H11 ∧ LamX.Tabs [(PT, lamQ)] H11, ?_, ?_⟩
              · refine fun u nu => ⟨(by show 5 ≤ sizeLine; decide), fun m nm => ?_⟩
                have sm := (same_new (o := .dK []) nu).new nm (o := .tup [.non, .int 5, .str "12", .ref u, .bl true])
                have hx : ∀ x ∈ [V.non, .int 5, .str "12", .ref u, .bl true], OddS (upd (upd H10 u (.dK [])) m (.tup [.non, .int 5, .str "12", .ref u, .bl true])) x := by
                  intro x hx
                  simp only [List.mem_cons, List.not_mem_nil, or_false] at hx
                  rcases hx with rfl | rfl | rfl | rfl | rfl
                  · exact .non
                  · exact .int _
                  · exact .str _
                  · exact .dic (same_new nm _ _ upd_same)
                  · exact .bl _
                refine ⟨m, rfl, ⟨_, st upd_same⟩, ?_⟩
                have hm : (upd (upd H10 u (.dK [])) m (.tup [.non, .int 5, .str "12", .ref u, .bl true])) m = some (.tup [.non, .int 5, .str "12", .ref u, .bl true]) := upd_same
                generalize upd (upd H10 u (.dK [])) m (.tup [.non, .int 5, .str "12", .ref u, .bl true]) = Hm at hx sm hm ⊢
                refine for_tup (K := K) (a := m) (xs := [.non, .int 5, .str "12", .ref u, .bl true]) (fun i σ H11 => ∃ v5, σ = [some (.ref p), some (.str t), some (.ref b), some (.int d), some (.ref l), v5, some (.int at0), some (.int ah), none] ∧ LamX.ExtN Hm H11 ∧ LamX.Tabs [(PT, lamQ)] H11) ⟨v5, rfl, LamX.ExtN.refl _, T10.ext sm⟩ ?_ ?_ ?_
                · rintro i σ H11 _ ⟨v5, rfl, eN, T11⟩
                  exact st (eN _ _ hm fun ps z => by cases z)
                · rintro i x σ H11 hxi ⟨v5, rfl, eN, T11⟩
                  have hox := hx x (List.mem_of_getElem? hxi)
                  refine ⟨T11, fun H12 eN12 T12 => ⟨.str t, rfl, x, rfl, .str t, x, rfl, .inr ⟨t, rfl, by omega, hg, .inl ⟨-1, .inl ⟨(hox.ext (eN.trans eN12)).no, rfl⟩, fun d' H14 s14 hd' => .inr ⟨rfl, d', .int (-1), rfl, hd', fun r nr => ?_⟩⟩⟩⟩⟩
                  refine ⟨_, rfl, (by show 2 ≤ sizeLine; decide), fun m2 nm2 => ?_⟩
                  have sA := (s14.new nr (o := .tup [.str "row", .int (-1)])).new nm2 (o := .tup [.str "row", .int (-1)])
                  have hs := shaped_pair (z := "row") (d := .int (-1)) (by decide +kernel) rfl (Nat.zero_le _)
                  refine ⟨_, _, dp_pair (same_new nm2 _ _ upd_same) (.int (-1)), dp_pair upd_same (.int (-1)), hs, hs, _, rfl, itbF (by rw [SeqAt.eqv_refl _ (SeqAt.canLay_of_shaped hs)]; rfl) ?_⟩
                  exact ⟨_, rfl, (eN.trans eN12).trans (LamX.ExtN.of sA), T12.ext sA⟩
                · rintro σ H11 ⟨v5, rfl, eN, T11⟩
                  exact ⟨v5, rfl, (LamX.ExtN.of sm).trans eN, T11⟩
              · rintro σ H11 ⟨v5, rfl, eN, T11⟩
                refine ⟨T11, fun H12 eN12 T12 => ⟨.str t, rfl, 1, 203, rfl, rfl, RgOk.of_le (by decide) (by decide) (by decide) (by decide), fun q1 n1 => ?_⟩⟩
                rw [rg_two]
                have h1 : (upd H12 q1 (.lst (two.map V.int ++ [.int 201, .int 202]))) q1 = some (.lst (two.map V.int ++ .int 201 :: [.int 202])) := upd_same
                have s1 := same_new n1 (o := .lst (two.map V.int ++ [.int 201, .int 202]))
                refine ⟨.str t, .ref q1, rfl, .inr ⟨t, rfl, by omega, hg, .inl ⟨200, .inr ⟨q1, two, .int 201, _, rfl, .inl ⟨sq h1, .base (.lst h1)⟩, two_asc, by rw [two_len]; decide, .inl two_len, by rw [two_len]; rfl⟩, fun d' H14 s14 hd' => .inr ⟨rfl, d', .int 200, rfl, hd', fun r nr => ?_⟩⟩⟩⟩
                refine ⟨(by show 2 ≤ sizeLine; decide), fun m2 nm2 => ?_⟩
                have sA := (s14.new nr (o := .tup [.str "row", .int 200])).new nm2 (o := .tup [.str "row", .int 200])
                have hs := shaped_pair (z := "row") (d := .int 200) (by decide +kernel) rfl (Nat.zero_le _)
                refine ⟨_, _, dp_pair (same_new nm2 _ _ upd_same) (.int 200), dp_pair upd_same (.int 200), hs, hs, ?_⟩
                rw [SeqAt.eqv_refl _ (SeqAt.canLay_of_shaped hs)]
                refine q _ (fr10.trans ((FrN.lam (eN.trans eN12)).trans (FrN.same (s1.trans sA)))) (T12.ext (s1.trans sA))
theorem def_ref (T : Bi mg) (D_draw : Def P w K mg base CX0 1 "_law_draw" ["_law_well_here", "_law_below"] spDraw)
    (D_meant : Def P w K mg base (L2.CX P w) 4 "meant" pMeant (spMeant K CS CR)) (DS : SaidK P K mg CS CR) (TB : LamX.TabB base mg c PT) (a : AtC K mg "_law_refused_right" sRef c) : Def P w K mg base CX0 7 "_law_refused_right" pRef (spRef PT) := by
  obtain ⟨f, oc, od, kV, doc, pm, an, ct, osl, hm, hk, lk, hcd⟩ := a
  have F : Fun K "_law_refused_right" "_law_refused_right" sRef f _ := ⟨⟨oc, od, kV, doc, pm, an, .ref c, ct, osl, rfl, lk, hcd⟩, hk⟩
  exact ⟨f, _, hm, hk, F.binds (fun _ _ _ _ _ _ us hl => match us, hl with | [_, _, _], _ => rfl), ok_ref T D_draw D_meant DS TB lk hcd⟩
end
end K1


set_option Elab.async false
set_option linter.all false
set_option maxRecDepth 100000
set_option maxHeartbeats 4000000
namespace K1
open PySem PySem.Spec PyProof.Rows L2 TL
abbrev sLaw : Stmt := st_law
abbrev nLaw : List Str := ["_law_script", "_law_k", "_law_well_here", "_law_turn", "_law_numbers", "_law_items_so", "_law_row", "_law_due_here", "_law_turn_so", "_law_ends_so"]
abbrev pLaw : List Str := ["_law_script"]
theorem scLaw : FnScope nLaw pLaw (defScope sLaw) := ⟨rfl, rfl, rfl, by decide +kernel, rfl, by decide +kernel, by decide +kernel⟩
theorem sqN {K : PySem.W.Frag} {H H' : Hp} {a : Addr} {xs : List V} (h : SqL K H a xs) (e : LamX.ExtN H H') : SqL K H' a xs := by
  rcases h with (h | ⟨o, h⟩) | h
  · exact .inl (.inl (e _ _ h fun ps z => by cases z))
  · exact .inl (.inr ⟨o, e _ _ h fun ps z => by cases z⟩)
  · exact .inr h
theorem get_snoc {α : Type} {l : List α} {x y : α} {i : Nat} (h : (l ++ [x])[i]? = some y) : l[i]? = some y ∨ (i = l.length ∧ y = x) := by
  by_cases hi : i < l.length
  · rw [List.getElem?_append_left hi] at h; exact .inl h
  · rw [List.getElem?_append_right (by omega)] at h
    have e : i - l.length = 0 := by
      cases hh : i - l.length with
      | zero => rfl
      | succ n => rw [hh] at h; simp at h
    rw [e] at h
    exact .inr ⟨by omega, by simpa using h.symm⟩
theorem mean_iff {its : List (List En)} {ns : List Int} {n : Int} (h : OkI its) : Mean (pairs (txT its)) ns n ↔ InAny its ns n := by
  have key : ∀ es ∈ its, pIn [stV (ns.getLastD 0) (prE es).1, stV (ns.getLastD 0) (prE es).2] n = pIn (rowOf (ns.getLastD 0) es) n := by
    intro es he
    obtain ⟨h1, h2, h3⟩ := h.it es he
    have hv : ∀ e ∈ es, stV (ns.getLastD 0) (enZ e) = Option.getD (e : Option Int) (ns.getLastD 0) := by
      intro e hm
      cases e with
      | none => rfl
      | some m =>
        have := h3 _ hm m rfl
        show stV _ m = m
        unfold stV
        rw [if_neg (by omega)]
    match es, h1, h2, hv with
    | [x], _, _, hv =>
      show pIn [stV (ns.getLastD 0) (enZ x), stV (ns.getLastD 0) (enZ x)] n = pIn [Option.getD (x : Option Int) (ns.getLastD 0)] n
      rw [hv x (by simp)]
      simp [pIn]
    | [x, y], _, _, hv =>
      show pIn [stV (ns.getLastD 0) (enZ x), stV (ns.getLastD 0) (enZ y)] n = pIn [Option.getD (x : Option Int) (ns.getLastD 0), Option.getD (y : Option Int) (ns.getLastD 0)] n
      rw [hv x (by simp), hv y (by simp)]
  unfold Mean InAny
  rw [txT_pairs h]
  constructor
  · rintro ⟨q, hq, hp⟩
    obtain ⟨es, he, rfl⟩ := List.mem_map.mp hq
    exact ⟨es, he, by rw [← key es he]; exact hp⟩
  · rintro ⟨es, he, hp⟩
    exact ⟨_, List.mem_map_of_mem he, by rw [key es he]; exact hp⟩
def meanB (ps : List (Int × Int)) (ns : List Int) : List Int := ns.filter fun n => ps.any fun q => pIn [stV (ns.getLastD 0) q.1, stV (ns.getLastD 0) q.2] n
theorem mean_known {ps : List (Int × Int)} {ns rs : List Int} (h : FiltBy ns (Mean ps ns) rs) : rs = meanB ps ns := by
  refine FiltBy.eq h ⟨fun n => ps.any fun q => pIn [stV (ns.getLastD 0) q.1, stV (ns.getLastD 0) q.2] n, fun n _ => Iff.rfl, rfl⟩ fun n _ => ?_
  unfold Mean
  rw [List.any_eq_true]
def spLaw (K : PySem.W.Frag) (PT : Addr) : Sp := fun vs H Q _ => ∃ (a : Addr) (xs : List Int), vs = [.ref a] ∧ SqL K H a (xs.map V.int) ∧ xs.length ≤ 63 ∧ LamX.Tabs [(PT, lamQ)] H ∧ ∀ H', Q (.bl true) H'
section
variable {P : Program} {w : World} {K : PySem.W.Frag} {mg : Str → Option Value} {base : Heap} {CS CR c PT : Addr}
theorem ok_law {f : Addr} {fd : FuncData} (T : Bi mg) (D_draw : Def P w K mg base CX0 1 "_law_draw" ["_law_well_here", "_law_below"] spDraw)
    (D_well : Def P w K mg base CX0 1 "_law_well" ["_law_script", "_law_k"] (spWell K)) (D_there : Def P w K mg base CX0 3 "_law_there" pThere spThere) (D_ends : Def P w K mg base CX0 3 "_law_ends" pEnds spEnds)
    (D_text : Def P w K mg base CX0 1 "_law_text" pText spText) (D_due : Def P w K mg base CX0 1 "_law_due" pDue (spDue K))
    (D_meant : Def P w K mg base (L2.CX P w) 4 "meant" pMeant (spMeant K CS CR)) (D_refused_right : Def P w K mg base CX0 7 "_law_refused_right" pRef (spRef PT)) (F : Fun K "law" "law" sLaw f fd) : FnOk P w K mg base CX0 8 f fd pLaw (spLaw K PT) := by
  have nd := scLaw.nd
  refine F.ok scLaw (fun vs H Q E h => ?_) (fun cdv A outer s H vs Q E hr h => ?_)
  · obtain ⟨a, xs, rfl, _⟩ := h
    rfl
  · obtain ⟨a, xs, rfl, hS, hxl, hT, q⟩ := h
    refine ⟨_, (C8.pss_cut (ps_for PassesOwn.never rfl (pi_range1 rfl T.range (pa_cons (pe_callB (call_max2 rfl) (by rfl) T.max PyProof.Rows.boot_max (pa_cons pe_int (pa_cons (pe_callB (call_min2 rfl) (by rfl) T.min PyProof.Rows.boot_min (pa_cons pe_int (pa_cons (pe_callB (call_lenK (K := K) rfl) (by rfl) T.len PySem.boot_len (pa_cons (pv 0) pa_nil)) pa_nil))) pa_nil))) pa_nil)) (pg_name (i := 1) nd rfl (Or.inl rfl))
  (pss_cons (ps_set (i := 2) nd rfl (Or.inr rfl) (pe_def D_well (hr.mono (by decide)) rfl pass0 (pa_cons (pv 0) (pa_cons (pv 1) pa_nil))))
 (C8.pss_cut (ps_for PassesOwn.never rfl (pi_range1 rfl T.range (pa_cons pe_int pa_nil)) (pg_name (i := 3) nd rfl (Or.inl rfl))
  (pss_cons (ps_set (i := 4) nd rfl (Or.inr rfl) (pe_def D_there (hr.mono (by decide)) rfl pass0 (pa_cons (pv 2) pa_nil)))
 (C8.pss_cut (ps_setLc (i := 5) (own := [("_law_turn_so", 8)]) (g := gName 8) (tt := tYes) rfl nd rfl rfl (sw_true rfl rfl rfl (by decide +kernel)) (pi_range1 rfl T.range (pa_cons (pe_op op_add pe_int (pe_def D_draw (hr.mono (by decide)) rfl pass0 (pa_cons (pv 2) (pa_cons pe_int pa_nil)))) pa_nil)) (blkOk_by (own := [("_law_turn_so", 8)]) (N := nLaw) (sc := defScope sLaw) (by decide +kernel)) (fun _ _ _ _ _ => pg_name (i := 8) nd rfl (Or.inl rfl)) (fun _ _ _ _ _ => pts_nil) (fun _ _ _ _ _ => (pe_def D_ends (hr.mono (by decide)) rfl pass0 (pa_cons (pv 2) (pa_cons (pv 4) pa_nil)))))
 (C8.pss_cut (ps_set (i := 6) nd rfl (Or.inl rfl) (pe_joinK (K := K) rfl pe_str (pe_lc (own := [("_law_ends_so", 9)]) (g := gName 9) (tt := tYes) rfl nd (pi_listK (K := K) rfl (pv 5)) (blkOk_by (own := [("_law_ends_so", 9)]) (N := nLaw) (sc := defScope sLaw) (by decide +kernel)) (fun _ _ _ _ _ => pg_name (i := 9) nd rfl (Or.inl rfl)) (fun _ _ _ _ _ => pts_nil) (fun _ _ _ _ _ => (pe_def D_text (hr.mono (by decide)) rfl pass0 (pa_cons (pv 9) pa_nil))))))
 (C8.pss_cut (ps_set (i := 7) nd rfl (Or.inl rfl) (pe_def D_due (hr.mono (by decide)) rfl pass0 (pa_cons (pv 5) (pa_cons (pv 4) pa_nil))))
 (C8.pss_cut (ps_if (pt_cmpR (op_neDK (K := K) rfl hr.units) (pe_def D_meant (hr.mono (by decide)) rfl passL (pa_cons (pv 6) (pa_cons (pe_callTy (call_tuple_ofK (K := K) rfl) (by rfl) T.tuple PyProof.Rows.boot_tuple (pa_cons (pv 4) pa_nil)) pa_nil))) (pv 7) (nomark _))
  (pss_one (ps_ret pe_bl))
  pss_nil)
 (C8.pss_cut (ps_expr (pe_bm PySem.F.plainAttrs_list PySem.F.slot_list_append PySem.F.type_list_append mt_append (pe_def D_meant (hr.mono (by decide)) rfl passL (pa_cons (pv 6) (pa_cons (pe_callTy (call_tuple_ofK (K := K) rfl) (by rfl) T.tuple PyProof.Rows.boot_tuple (pa_cons (pv 4) pa_nil)) pa_nil))) (pa_cons pe_int pa_nil)))
 (pss_one (ps_if (PW.pt (pw_or (pt_cmpR (op_neDK (K := K) rfl hr.units) (pe_def D_meant (hr.mono (by decide)) rfl passL (pa_cons (pv 6) (pa_cons (pv 4) pa_nil))) (pv 7) (nomark _)) (pw_or1 (pt_cmpR (op_neDK (K := K) rfl hr.units) (pe_def D_meant (hr.mono (by decide)) rfl passL (pa_cons (pv 6) (pa_cons (pe_callTy (call_tuple_ofK (K := K) rfl) (by rfl) T.tuple PyProof.Rows.boot_tuple (pa_cons (pv 4) pa_nil)) pa_nil))) (pv 7) (nomark _)))))
  (pss_one (ps_ret pe_bl))
  pss_nil)))))))))
 (pss_one (ps_if (pt_not (pt_truth (pe_def D_refused_right (hr.mono (by decide)) rfl pass0 (pa_cons (pv 2) (pa_cons (pv 6) (pa_cons (pv 4) pa_nil)))) (by intro _; rfl)))
  (pss_one (ps_ret pe_bl))
  pss_nil)))))
 (pss_one (ps_ret (pe_and (pe_cmpR (op_eqDK (K := K) rfl hr.units) (pe_def D_meant (hr.mono (by decide)) rfl passL (pa_cons pe_str (pa_cons (pe_tup (pa_cons pe_int (pa_cons pe_int pa_nil))) pa_nil))) (pe_lst (pa_cons pe_int pa_nil)) (nomark _)) (pe_and (pe_cmpR (op_eqDK (K := K) rfl hr.units) (pe_def D_meant (hr.mono (by decide)) rfl passL (pa_cons pe_str (pa_cons (pe_lst (pa_cons pe_int (pa_cons pe_int pa_nil))) pa_nil))) (pe_lst (pa_cons pe_int pa_nil)) (nomark _)) (pe_one (pe_cmpR (op_eqDK (K := K) rfl hr.units) (pe_def D_meant (hr.mono (by decide)) rfl passL (pa_cons pe_str (pa_cons (pe_tup pa_nil) pa_nil))) (pe_lst pa_nil) (nomark _)))))))), ?_⟩
    refine ⟨fun σ H1 => True, ?_, ?_⟩
    · refine ⟨.ref a, rfl, a, _, rfl, .inl hS, 5, _, rfl, 1, _, rfl, _, rfl, ?_⟩
      generalize hn : (if (if ((xs.map V.int).length : Int) < 5 then ((xs.map V.int).length : Int) else 5) > 1 then (if ((xs.map V.int).length : Int) < 5 then ((xs.map V.int).length : Int) else 5) else 1) = n
      have hn5 : 1 ≤ n ∧ n ≤ 5 := by rw [← hn]; split <;> split <;> omega
      refine ⟨by omega, by omega, for_range (lo := 0) (n := n.toNat) (fun i σ H2 => ∃ v1 v2 v3 v4 v5 v6 v7, σ = [some (.ref a), v1, v2, v3, v4, v5, v6, v7, none, none] ∧ SqL K H2 a (xs.map V.int) ∧ LamX.Tabs [(PT, lamQ)] H2) ⟨none, none, none, none, none, none, none, rfl, hS, hT⟩ ?_ ?_⟩
      · rintro i σ H2 hi ⟨v1, v2, v3, v4, v5, v6, v7, rfl, hS2, hT2⟩
        refine ⟨_, rfl, _, rfl, a, xs, _, rfl, hS2, hxl, by omega, by omega, fun p H3 np s3 w3 => ?_⟩
        refine ⟨fun σ H4 => ∃ v3 v5 v7 b t ns, σ = [some (.ref a), some (.int (0 + (i : Int))), some (.ref p), v3, some (.ref b), v5, some (.str t), v7, none, none] ∧ Ext p H3 H4 ∧ WellAt H4 p ∧ b ≠ p ∧ H4 b = some (.lst (ns.map V.int)) ∧ There ns ∧ t.length ≤ 1000 ∧ good t = true, ?_, ?_⟩
        · refine ⟨_, rfl, by decide, by decide, for_range (lo := 0) (n := 6) (fun j σ H4 => ∃ v3 v4 v5 v6 v7, σ = [some (.ref a), some (.int (0 + (i : Int))), some (.ref p), v3, v4, v5, v6, v7, none, none] ∧ Ext p H3 H4 ∧ WellAt H4 p ∧ (0 < j → ∃ b t ns, v4 = some (.ref b) ∧ v6 = some (.str t) ∧ b ≠ p ∧ H4 b = some (.lst (ns.map V.int)) ∧ There ns ∧ t.length ≤ 1000 ∧ good t = true)) ⟨v3, v4, v5, v6, v7, rfl, Ext.refl _, w3, fun h => absurd h (by decide)⟩ ?_ ?_⟩
          · rintro j σ H4 hj ⟨v3, v4, v5, v6, v7, rfl, e4, w4, _⟩
            refine ⟨_, rfl, p, rfl, w4, fun b ns H5 nb nbp hb th e5 w5 => ?_⟩
            refine ⟨fun σ H6 => ∃ (D : Addr) (its : List (List En)), σ = [some (.ref a), some (.int (0 + (i : Int))), some (.ref p), some (.int (0 + (j : Int))), some (.ref b), some (.ref D), v6, v7, none, none] ∧ Ext p H3 H6 ∧ WellAt H6 p ∧ H6 b = some (.lst (ns.map V.int)) ∧ ItemsAt (fun d => d ≠ p) H6 D its ∧ OkI its ∧ its.length ≤ 6, ?_, ?_⟩
            · refine ⟨_, rfl, p, 6, rfl, w5, by decide, by decide, fun d H6 d0 d1 e6 w6 => ⟨_, _, rfl, rfl, _, rfl, by omega, by omega, fun D hD => ?_⟩⟩
              have nDp : D ≠ p := w6.ne hD
              have hb6 := e6 b _ nbp hb
              have nDb : b ≠ D := ne_of_none hb6 hD
              refine lc_range (lo := 0) (n := (1 + d).toNat) (fun i H7 => Ext p H6 H7 ∧ WellAt H7 p ∧ H7 b = some (.lst (ns.map V.int)) ∧ ∃ (its : List (List En)) (ads : List Addr), H7 D = some (.lst (ads.map V.ref)) ∧ ads.length = i ∧ its.length = i ∧
                (∀ (i : Nat) (d : Addr) (es : List En), ads[i]? = some d → its[i]? = some es → d ≠ p ∧ d ≠ D ∧ H7 d = some (.lst (es.map eV))) ∧ ∀ es ∈ its, es ≠ [] ∧ es.length ≤ 2 ∧ ∀ e ∈ es, OkE e)
                ⟨(Ext.refl _).new hD, w6.new hD, by rw [upd_ne nDb]; exact hb6, [], [], upd_same, rfl, rfl, fun i d es h => by simp at h, fun es h => by simp at h⟩ ?_ ?_
              · rintro i H7 hi ⟨e7, w7, hb7, its, ads, h7, al, il, hd7, ok⟩
                refine ⟨rfl, tyes ⟨_, rfl, _, rfl, p, b, ns, rfl, w7, hb7, nbp, th, fun r es H8 nr nrp hr l1 l2 oke e8 w8 => ?_⟩⟩
                have nrD : r ≠ D := (ne_of_none h7 nr).symm
                have h8 := e8 D _ nDp h7
                refine ⟨_, h8, lt2 _ (by rw [List.length_map]; omega), (e7.trans e8).mut hD, w8.upd nDp, by rw [upd_ne nDb]; exact e8 b _ nbp hb7, its ++ [es], ads ++ [r], by rw [upd_same, List.map_append]; rfl, by rw [List.length_append, al]; rfl, by rw [List.length_append, il]; rfl, ?_, ?_⟩
                · intro j d' es' hj1 hj2
                  rcases get_snoc hj1 with hj1 | ⟨hj, rfl⟩
                  · rcases get_snoc hj2 with hj2 | ⟨hj, rfl⟩
                    · obtain ⟨g1, g2, g3⟩ := hd7 j d' es' hj1 hj2
                      exact ⟨g1, g2, by rw [upd_ne g2]; exact e8 _ _ g1 g3⟩
                    · have := lt_of_get hj1; omega
                  · rcases get_snoc hj2 with hj2 | ⟨hj, rfl⟩
                    · have := lt_of_get hj2; omega
                    · exact ⟨nrp, nrD, by rw [upd_ne nrD]; exact hr⟩
                · intro es' he
                  rcases List.mem_append.mp he with he | he
                  · exact ok es' he
                  · rw [List.mem_singleton.mp he]
                    exact ⟨fun z => by rw [z] at l1; simp at l1, l2, oke⟩
              · rintro H7 ⟨e7, w7, hb7, its, ads, h7, al, il, hd7, ok⟩
                exact ⟨D, its, rfl, e4.trans (e5.trans (e6.trans e7)), w7, hb7, ⟨nDp, ads, h7, by omega, fun i d es h1 h2 => let ⟨a, b, c⟩ := hd7 i d es h1 h2; ⟨a, c⟩⟩, ⟨fun z => by rw [z] at il; simp at il; omega, ok⟩, by omega⟩
            · rintro σ H6 ⟨D, its, rfl, e6, w6, hb6, hI, oI, il⟩
              obtain ⟨nDp, ads, hD6, al, hd6⟩ := hI
              refine ⟨fun σ H7 => σ = [some (.ref a), some (.int (0 + (i : Int))), some (.ref p), some (.int (0 + (j : Int))), some (.ref b), some (.ref D), some (.str (txT its)), v7, none, none] ∧ Same H6 H7, ?_, ?_⟩
              · refine ⟨⟨_, rfl⟩, _, rfl, D, rfl, ⟨_, sq hD6⟩, fun D2 hD2 => ?_⟩
                refine lc_list (K := K) (a := D) (xs := ads.map V.ref) (fun i H7 => Same H6 H7 ∧ H7 D2 = some (.lst (((its.take i).map txI).map V.str))) ⟨same_new hD2, upd_same⟩ (fun i H7 _ h => sq (h.1 _ _ hD6)) ?_ ?_
                · rintro i x H7 hx ⟨s7, h7⟩
                  obtain ⟨d, hd, rfl⟩ : ∃ d, ads[i]? = some d ∧ x = .ref d := by
                    rw [List.getElem?_map] at hx
                    cases e : ads[i]? with
                    | none => rw [e] at hx; cases hx
                    | some z => rw [e] at hx; exact ⟨z, rfl, (Option.some.inj hx).symm⟩
                  have hil : i < its.length := by rw [← al]; exact lt_of_get hd
                  have hes := List.getElem?_eq_getElem hil
                  have hok := oI.it _ (List.getElem_mem hil)
                  refine ⟨rfl, tyes ⟨_, rfl, d, its[i], rfl, s7 _ _ (hd6 i d _ hd hes).2, hok.2.1, hok.2.2, fun H8 s8 => ?_⟩⟩
                  exact ⟨_, s8 _ _ h7, lt2 _ (by rw [List.length_map, List.length_map, List.length_take]; omega), (s7.trans s8).mut hD2, by rw [upd_same, take_more hes, List.map_append, List.map_append]; rfl⟩
                · rintro H7 ⟨s7, h7⟩
                  rw [List.length_map, al, List.take_length] at h7
                  have hsum := sum_len (l := its.map txI) (k := 61) fun x hx => by
                    obtain ⟨es, he, rfl⟩ := List.mem_map.mp hx
                    have hok := oI.it es he
                    exact txI_len hok.2.2 hok.2.1 hok.1
                  rw [List.length_map] at hsum
                  refine ⟨",", D2, its.map txI, rfl, rfl, .inl (sq h7), ?_, rfl, s7⟩
                  rw [List.length_map]
                  have : ("," : Str).length = 1 := by decide +kernel
                  rw [this]
                  have : its.length * 61 ≤ 6 * 61 := Nat.mul_le_mul_right _ il
                  omega
              · rintro σ H7 ⟨rfl, s7⟩
                have hb7 := s7 _ _ hb6
                have hI7 : ItemsAt (fun d => d ≠ p) H7 D its := ItemsAt.same ⟨nDp, ads, hD6, al, hd6⟩ s7
                have w7 : WellAt H7 p := let ⟨x, y, z, e⟩ := w6; ⟨x, y, z, s7 _ _ e⟩
                have e7 : Ext p H3 H7 := e6.trans (same_ext s7)
                have tg := txT_good oI
                have tln := txT_len oI (by omega)
                have hnl := th.len
                have asc : Asc ns := ⟨th.asc, th.rng⟩
                have mean : ∀ n ∈ ns, (Mean (pairs (txT its)) ns n ↔ InAny its ns n) := fun n _ => mean_iff oI
                generalize txT its = t at tg tln mean ⊢
                refine ⟨fun σ H8 => ∃ (c : Addr) (rs : List Int), σ = [some (.ref a), some (.int (0 + (i : Int))), some (.ref p), some (.int (0 + (j : Int))), some (.ref b), some (.ref D), some (.str t), some (.ref c), none, none] ∧ Same H7 H8 ∧ H8 c = some (.lst (rs.map V.int)) ∧ FiltBy ns (InAny its ns) rs, ?_, ?_⟩
                · refine ⟨_, rfl, _, rfl, D, b, its, ns, rfl, ⟨True.intro, let ⟨_, ads, h1, h2, h3⟩ := hI7; ⟨ads, h1, h2, fun i d es g1 g2 => ⟨True.intro, (h3 i d es g1 g2).2⟩⟩⟩, hb7, hnl, by omega, fun es he => ⟨(oI.it es he).1, (oI.it es he).2.1⟩, fun c rs H8 nc s8 hc hf => ?_⟩
                  exact ⟨c, rs, rfl, s8, hc, hf⟩
                · rintro σ H8 ⟨c, rs, rfl, s8, hc, hf⟩
                  have fx : ∀ {r : Addr} {rs' : List Int} {H : Hp}, H r = some (.lst (rs'.map V.int)) → FiltBy ns (Mean (pairs t) ns) rs' → H r = some (.lst (rs.map V.int)) := fun hr hf' => by
                    rw [FiltBy.eq hf' hf mean] at hr
                    exact hr
                  have hb8 := s8 _ _ hb7
                  have eq : ∀ b : Bool, b = (PyData.eqv (.list (rs.map PyData.int)) (.list (rs.map PyData.int))) → b = true := fun b h => by rw [h, eqv_ints]; simp
                  refine ⟨fun σ H9 => σ = [some (.ref a), some (.int (0 + (i : Int))), some (.ref p), some (.int (0 + (j : Int))), some (.ref b), some (.ref D), some (.str t), some (.ref c), none, none] ∧ Same H8 H9, ?_, ?_⟩
                  · refine ⟨_, rfl, _, rfl, b, _, rfl, .inl ⟨sq hb8, fun q1 n1 => ⟨.str t, .ref q1, rfl, .inr ⟨t, rfl, by omega, tg, .inr ⟨q1, ns, rfl, .inr ⟨st upd_same, .base (.tup upd_same)⟩, asc, hnl, fun r rs' H10 nr s10 hr' hf' => ?_⟩⟩⟩⟩⟩
                    have hr := fx hr' hf'
                    have s9 := (same_new n1).trans s10
                    refine ⟨.ref c, rfl, _, _, dp_list (sq hr), dp_list (sq (s9 _ _ hc)), shaped_ints _, shaped_ints _, _, rfl, itbF (by rw [eq _ rfl]; rfl) ?_⟩
                    exact ⟨rfl, s9⟩
                  · rintro σ H9 ⟨rfl, s9⟩
                    refine ⟨fun σ H9 => σ = [some (.ref a), some (.int (0 + (i : Int))), some (.ref p), some (.int (0 + (j : Int))), some (.ref b), some (.ref D), some (.str t), some (.ref c), none, none] ∧ Same H8 H9, ?_, ?_⟩
                    · refine ⟨_, rfl, _, rfl, b, _, rfl, .inl ⟨sq (s9 _ _ hb8), fun q1 n1 => ⟨.str t, .ref q1, rfl, .inr ⟨t, rfl, by omega, tg, .inr ⟨q1, ns, rfl, .inr ⟨st upd_same, .base (.tup upd_same)⟩, asc, hnl, fun r rs' H10 nr s10 hr' hf' => ?_⟩⟩⟩⟩⟩
                      have hr := fx hr' hf'
                      have rl : rs.length ≤ 200 := by
                        obtain ⟨pp, _, e⟩ := hf
                        rw [e]
                        exact Nat.le_trans (List.length_filter_le _ _) hnl
                      have s91 := (s9.new n1 (o := .tup (ns.map V.int)))
                      have nr8 := s91.free nr
                      refine ⟨.inl ⟨rfl, _, sq hr⟩, r, _, _, rfl, rfl, hr, lt2 _ (by rw [List.length_map]; omega), rfl, (s91.trans s10).mut nr8⟩
                    · rintro σ H10 ⟨rfl, s10⟩
                      refine ⟨_, rfl, _, rfl, ⟨.str t, .ref b, rfl, .inr ⟨t, rfl, by omega, tg, .inr ⟨b, ns, rfl, .inl ⟨sq (s10 _ _ hb8), .base (.lst (s10 _ _ hb8))⟩, asc, hnl, fun r rs' H11 nr s11 hr' hf' => ?_⟩⟩⟩⟩
                      have hr := fx hr' hf'
                      have s81 := s10.trans s11
                      refine ⟨.ref c, rfl, _, _, dp_list (sq hr), dp_list (sq (s81 _ _ hc)), shaped_ints _, shaped_ints _, _, rfl, itbF (by rw [eq _ rfl]; rfl) ?_⟩
                      refine ⟨_, rfl, _, rfl, b, _, rfl, .inl ⟨sq (s81 _ _ hb8), fun q1 n1 => ⟨.str t, .ref q1, rfl, .inr ⟨t, rfl, by omega, tg, .inr ⟨q1, ns, rfl, .inr ⟨st upd_same, .base (.tup upd_same)⟩, asc, hnl, fun r rs' H12 nr s12 hr' hf' => ?_⟩⟩⟩⟩⟩
                      have hr := fx hr' hf'
                      have s82 := s81.trans ((same_new n1).trans s12)
                      refine ⟨.ref c, rfl, _, _, dp_list (sq hr), dp_list (sq (s82 _ _ hc)), shaped_ints _, shaped_ints _, _, rfl, itbF (by rw [eq _ rfl]; rfl) ?_⟩
                      have s72 := s8.trans s82
                      refine ⟨_, _, _, _, _, rfl, e7.trans (same_ext s72), ?_, fun _ => ⟨b, t, ns, rfl, rfl, nbp, s72 _ _ hb7, th, by omega, tg⟩⟩
                      obtain ⟨x, y, z, e⟩ := w7
                      exact ⟨x, y, z, s72 _ _ e⟩
          · rintro σ H4 ⟨v3, v4, v5, v6, v7, rfl, e4, w4, h⟩
            obtain ⟨b, t, ns, rfl, rfl, h1, h2, h3, h4, h5⟩ := h (by decide)
            exact ⟨v3, v5, v7, b, t, ns, rfl, e4, w4, h1, h2, h3, h4, h5⟩
        · rintro σ H4 ⟨v3, v5, v7, b, t, ns, rfl, e4, w4, nbp, hb, th, htl, hg⟩
          have T4 : LamX.Tabs [(PT, lamQ)] H4 := tabs_ext w3 e4 (hT2.ext s3)
          refine ⟨_, rfl, _, rfl, _, rfl, p, b, t, ns, rfl, w4, nbp, hb, th, htl, hg, T4, fun H5 f5 T5 => ?_⟩
          have eN : LamX.ExtN H2 H5 := fun c o h n => by
            have ncp : c ≠ p := ne_of_none h np
            exact f5 c o ncp (e4 c o ncp (s3 c o h)) n
          refine ⟨true, rfl, itbF rfl ?_⟩
          exact ⟨_, _, _, _, _, _, _, rfl, sqN hS2 eN, T5⟩
      · rintro σ H2 _
        trivial
    · rintro σ H2 -
      refine ⟨(by show 2 ≤ sizeLine; decide), fun q1 n1 => ⟨.str "9:*", .ref q1, rfl, .inr ⟨"9:*", rfl, by decide +kernel, by decide +kernel, .inr ⟨q1, [2, 5], rfl, .inr ⟨st upd_same, .base (.tup upd_same)⟩, ⟨by decide, by decide⟩, by decide, fun r rs H3 nr s3 hr hf => ?_⟩⟩⟩⟩
      have e1 : rs = [5] := (mean_known hf).trans (by decide +kernel)
      subst e1
      refine ⟨(by show 1 ≤ sizeLine; decide), fun q2 n2 => ⟨_, _, dp_list (ns := [5]) (sq (same_new n2 _ _ hr)), dp_list (ns := [5]) (sq upd_same), shaped_ints _, shaped_ints _, _, rfl, itbT (by rw [eqv_ints]; rfl) ?_⟩⟩
      refine ⟨(by show 2 ≤ sizeLine; decide), fun q3 n3 => ⟨.str "*:*,7", .ref q3, rfl, .inr ⟨"*:*,7", rfl, by decide +kernel, by decide +kernel, .inr ⟨q3, [2, 5], rfl, .inl ⟨sq upd_same, .base (.lst upd_same)⟩, ⟨by decide, by decide⟩, by decide, fun r rs H3 nr s3 hr hf => ?_⟩⟩⟩⟩
      have e2 : rs = [5] := (mean_known hf).trans (by decide +kernel)
      subst e2
      refine ⟨(by show 1 ≤ sizeLine; decide), fun q4 n4 => ⟨_, _, dp_list (ns := [5]) (sq (same_new n4 _ _ hr)), dp_list (ns := [5]) (sq upd_same), shaped_ints _, shaped_ints _, _, rfl, itbT (by rw [eqv_ints]; rfl) ?_⟩⟩
      refine ⟨(by show 0 ≤ sizeLine; decide), fun q5 n5 => ⟨.str "*", .ref q5, rfl, .inr ⟨"*", rfl, by decide +kernel, by decide +kernel, .inr ⟨q5, [], rfl, .inr ⟨st upd_same, .base (.tup upd_same)⟩, ⟨by decide, by decide⟩, by decide, fun r rs H3 nr s3 hr hf => ?_⟩⟩⟩⟩
      have e3 : rs = [] := (mean_known hf).trans (by decide +kernel)
      subst e3
      refine ⟨(by show 0 ≤ sizeLine; decide), fun q6 n6 => ⟨_, _, dp_list (ns := []) (sq (same_new n6 _ _ hr)), dp_list (ns := []) (sq upd_same), shaped_ints _, shaped_ints _, ?_⟩⟩
      rw [eqv_ints]
      exact q _
end
end K1


set_option Elab.async false
set_option linter.all false
set_option maxRecDepth 100000
set_option maxHeartbeats 4000000
namespace K1
open PySem PySem.Spec PyProof.Rows L2 TL
/-! ### the end -/
section
variable {K : PySem.W.Frag} {h : Heap} {mg : Str → Option Value}
theorem cs_mk {x : Str} {n : Int} {t : Tok} {v : Value} (X : K.In h) (G : h.Ns mainGlobals mg) (a : PySem.W.nsIn K mainGlobals x = some (some v)) (e : v = .int n t) : ∃ t, mg x = some (.int n t) := ⟨t, by rw [PySem.W.mg_of X G a, e]⟩
theorem at_mk {x : Str} {st : Stmt} {f : Addr} {oc : Value} {od an : Option Addr} {osl : Array (Option Value)} {kV doc pm cdv ct : Value} (X : K.In h) (G : h.Ns mainGlobals mg) (a : PySem.W.nsIn K mainGlobals x = some (some (.ref f)))
    (l : K.lookup f = some ⟨oc, od, .func (PySem.W.fnOf x x (defArgs st) (defBody st) (defScope st) .none kV doc pm an cdv ct), osl⟩) (c : PySem.W.codeIn K cdv x = true) (k : PySem.W.keepIn K (.ref f) = true) : At K mg x st :=
  ⟨f, _, PySem.W.mg_of X G a, fun_mk l c k⟩
theorem atC_mk {x : Str} {st : Stmt} {f co : Addr} {oc : Value} {od an : Option Addr} {osl : Array (Option Value)} {kV doc pm ct : Value} (X : K.In h) (G : h.Ns mainGlobals mg) (a : PySem.W.nsIn K mainGlobals x = some (some (.ref f)))
    (l : K.lookup f = some ⟨oc, od, .func (PySem.W.fnOf x x (defArgs st) (defBody st) (defScope st) .none kV doc pm an (.ref co) ct), osl⟩) (c : PySem.W.codeIn K (.ref co) x = true) (k : PySem.W.keepIn K (.ref f) = true) : AtC K mg x st co :=
  ⟨f, oc, od, kV, doc, pm, an, ct, osl, PySem.W.mg_of X G a, k, l, c⟩
/-- an error of the class at S is what its own clause names -/
theorem exm_own {S : Addr} (h1 : PySem.W.subIn K (.ref S) (.type "BaseException") = some true) (h2 : PySem.W.isClsIn K S = true) (h3 : PySem.W.typeIn K (.ref S) = some (.type "type")) (h4 : PySem.W.subIn K (.ref S) (.ref S) = some true) :
    PySem.W.exmOne K (.ref S) (.ref S) = some true := by
  unfold PySem.W.exmOne
  unfold PySem.W.kitCls
  unfold PySem.W.isClsIn at h2
  simp only [h1, h2, h3, h4]
  simp
theorem exm_other {R S : Addr} (h1 : PySem.W.subIn K (.ref S) (.type "BaseException") = some true) (h2 : PySem.W.isClsIn K S = true) (h3 : PySem.W.typeIn K (.ref S) = some (.type "type")) (h4 : PySem.W.subIn K (.ref R) (.ref S) = some false) :
    PySem.W.exmOne K (.ref R) (.ref S) = some false := by
  unfold PySem.W.exmOne
  unfold PySem.W.kitCls
  unfold PySem.W.isClsIn at h2
  simp only [h1, h2, h3, h4]
  simp
theorem tide_mk {prog : Program} {x fl qual tx : Str} {C fI cda cc : Addr} {nm q : Str} {N : Addr} {bs BM : List Value} {sn : List Str} {sub : List Value} {ab : Bool} {col : Option Bool} {dd : Option Addr} {m0 m1 m2 m3 m5 : Option Value}
    {oc doc pm ct ccl cl : Value} {od an cdd cld : Option Addr} {osl ccs csl : Array (Option Value)} {j : Nat} {p1 p2 q1 q2 q3 q4 q5 q6 q7 q8 q9 q10 : Pos} {vs : Array Value} {file : Str} {tf : Tok} (X : K.In h) (G : h.Ns mainGlobals mg) (ok : PySem.Tide.FlOk fl)
    (ci : PySem.Tide.CallIs tx j q1 q2 q3 q4 q5) (htop : (prog.main.scope.names.lookup ("super" : Str)).isSome = false)
    (aC : PySem.W.nsIn K mainGlobals x = some (some (.ref C))) (xL : K.lookup C = some (PySem.excClassObj nm q C N bs BM true sn sub ab col dd m0 m1 m2 m3 m5 "ValueError.__new__")) (bm : PySem.HandSPX.refsVE BM = true)
    (sa : PySem.W.findIn K (.ref C) "__setattr__" = some (some (.builtin "object.__setattr__"))) (ga : PySem.W.findIn K (.ref C) "__getattribute__" = some (some (.builtin "BaseException.__getattribute__"))) (gg : PySem.W.findIn K (.ref C) "__getattr__" = some none) (nb : PySem.W.findIn K (.ref C) fl = some none)
    (a1 : PySem.W.findIn K (.ref C) "__init__" = some (some (.ref fI))) (t1 : PySem.W.typeIn K (.ref fI) = some (.type "function"))
    (l1 : K.lookup fI = some ⟨oc, od, .func (PySem.W.ksFn "__init__" qual (PySem.Tide.iA fl p1 p2) (PySem.Tide.iB fl tx j q1 q2 q3 q4 q5 q6 q7 q8 q9 q10) (PySem.Tide.iS fl) .none .none doc pm an (.ref cda) ct cc), osl⟩) (c1 : PySem.W.codeIn K (.ref cda) qual = true)
    (n1 : K.lookup cda = some ⟨ccl, cdd, .fields vs, ccs⟩) (n2 : vs[2]? = some (.str file tf)) (n3 : ((prog.main.file : Str) == file) = true) (n4 : K.lookup cc = some ⟨cl, cld, .cell (some (.ref C)), csl⟩)
    (kC : PySem.W.keepIn K (.ref C) = true) (eC : PySem.W.subIn K (.ref C) (.type "BaseException") = some true) (tC : PySem.W.typeIn K (.ref C) = some (.type "type")) (hC : PySem.W.hasDictIn K C = true) (iC : PySem.W.isClsIn K C = true) (sC : PySem.W.subIn K (.ref C) (.ref C) = some true)
    (su : PySem.W.ks_superIn K C C "__init__" = some (some (.builtin "ValueError.__init__"))) (vC : PySem.W.subIn K (.ref C) (.type "ValueError") = some true) (mC : PySem.W.mroIn K C (.ref C) = some true) (tpa : PySem.W.nsIn K PySem.cStatics "thirdparty.any" = some none)
    (ns : PySem.W.nsIn K mainGlobals "super" = some none) : PySem.Tide.TideTxt prog K mg x C fI fl :=
  { gC := PySem.W.mg_of X G aC, ok := ok, cls := ⟨nm, q, N, bs, BM, sn, sub, ab, col, dd, m0, m1, m2, m3, m5, xL, bm⟩, sa := sa, ga := ga, gg := gg, noN := nb, iC := a1, tC := t1, kC := kC, exC := eC, tyC := tC, hdC := hC, te := exm_own eC iC tC sC, sup := su, isV := vC, self_ := mC, tpa := tpa,
    nsu := PySem.W.mg_none_of X G ns, htop := htop,
    fn := ⟨oc, od, doc, pm, ct, an, osl, qual, tx, j, p1, p2, q1, q2, q3, q4, q5, q6, q7, q8, q9, q10, cda, cc, l1, c1, ci, ⟨ccl, cdd, vs, ccs, file, tf, n1, n2, n3⟩, ⟨cl, cld, csl, n4⟩⟩ }
end
theorem all_mk {l : PySem.W.OpenLaw} {w : World} {K : PySem.W.Frag} {h : Heap} {mg : Str → Option Value} {fa f CS CR CT fS fR co PT : Addr} {oc kV dc pm cd ct : Value} {od an : Option Addr} {sl : Array (Option Value)} (X : K.In h) (G : h.Ns mainGlobals mg) (hfa : mg "law" = some (.ref fa))
    (TS : PySem.Tide.TideTxt l.prog K mg "BadSet" CS fS "value") (TR : PySem.Tide.TideTxt l.prog K mg "BadRow" CR fR "at") (gT : mg "TideError" = some (.ref CT)) (sr : PySem.W.exmOne K (.ref CR) (.ref CS) = some false) (T : Bi mg) (C : Cs mg)
    (a0 : At K mg "is_integer" sIsInt)
    (a1 : At K mg "is_number" sIsNum)
    (a2 : At K mg "meant" sMeant)
    (a3 : At K mg "items_of" sItemsOf)
    (a4 : At K mg "_end_of" sEndOf)
    (a5 : At K mg "check_row" sCheck)
    (a6 : At K mg "_span" sSpan)
    (a7 : At K mg "_merged" sMerged)
    (a8 : At K mg "_covered" sCovered)
    (a9 : At K mg "_law_draw" sDraw)
    (a10 : At K mg "_law_one" sOne)
    (a11 : At K mg "_law_well" sWell)
    (a12 : At K mg "_law_there" sThere)
    (a13 : At K mg "_law_ends" sEnds)
    (a14 : At K mg "_law_text" sText)
    (a15 : At K mg "_law_due" sDue)
    (a16 : At K mg "_law_said" sSaid)
    (b0 : At K mg "is_set_text" sIsSet)
    (b1 : At K mg "found_among" sFound)
    (aR : AtC K mg "_law_refused_right" sRef co)
    (aL : PySem.W.nsIn K mainGlobals "law" = some (some (.ref f))) (lL : K.lookup f = some ⟨oc, od, .func (PySem.W.fnOf "law" "law" (defArgs sLaw) (defBody sLaw) (defScope sLaw) .none kV dc pm an cd ct), sl⟩) (cL : PySem.W.codeIn K cd "law" = true) (kL : PySem.W.keepIn K (.ref f) = true)
    (hP : h.get? PT = some { cls := .none, data := .fields #[] }) (nP : K.lookup PT = none) (hC : PySem.W.CodeHd h co PT) :
    LamX.LawAtS l w K CX0 8 63 "_law_script" mg fa h := by
  have e := hfa.symm.trans (PySem.W.mg_of X G aL)
  cases e
  have F := fun_mk (st := sLaw) lL cL kL
  refine ⟨PySem.W.fnOf "law" "law" (defArgs sLaw) (defBody sLaw) (defScope sLaw) .none kV dc pm an cd ct, [(co, PT)], spLaw K PT, fun p hp => by rw [List.mem_singleton.mp hp]; exact hP, fun p hp => by rw [List.mem_singleton.mp hp]; exact nP, fun p hp => by rw [List.mem_singleton.mp hp]; exact hC, fun s u => .of_eq rfl,
    fun H a ns hl _ hH hS => ⟨a, ns, rfl, hS, hl, fun p hp => by rw [List.mem_singleton.mp hp]; exact LamX.TabS.nil (hH _ (List.mem_singleton.mpr rfl)), fun _ => rfl⟩, fun base hb _ hTB => ?_⟩
  have TB := hTB _ (List.mem_singleton.mpr rfl)
  have dInt := def_isInt (P := l.prog) (w := w) (base := base) T a0
  have dNum := def_isNum T dInt a1
  have dEnd := def_endOf (P := l.prog) (w := w) (base := base) T C a4
  have dSet := def_isSet T dEnd b0
  have dItems := def_itemsOf T TS dEnd dSet a3
  have dCheck := def_check T C TR dNum a5
  have dSpan := def_span (P := l.prog) (w := w) (base := base) T C a6
  have dMerged := def_merged (P := l.prog) (w := w) (base := base) T a7
  have dCovered := def_covered (P := l.prog) (w := w) (base := base) T a8
  have dFound := def_found T dSpan dMerged dCovered b1
  have dMeant := def_meant T dItems dCheck dFound a2
  have dDraw := def_draw (P := l.prog) (w := w) (base := base) T a9
  have dOne := def_one T dDraw a10
  have dWell := def_well (P := l.prog) (w := w) (base := base) T a11
  have dThere := def_there T dDraw dOne a12
  have dEnds := def_ends T dDraw dOne a13
  have dText := def_text (P := l.prog) (w := w) (base := base) T a14
  have dDue := def_due (P := l.prog) (w := w) (base := base) T a15
  have dRef := def_ref T dDraw dMeant ⟨a16, ⟨_, TS⟩, ⟨_, TR⟩, ⟨_, gT⟩, sr⟩ TB aR
  exact ok_law T dDraw dWell dThere dEnds dText dDue dMeant dRef F
theorem walk_tops {l : PySem.W.OpenLaw} {n k : Nat} {q : Program} {loose : List Str} {XP : (Str → Option Value) → Heap → Prop} {YP : World → Heap → Prop} {d : DefRec} {K : Params → PySem.W.Frag} {x : Str}
    (hn : l.most = some n) (hn2 : n ≤ sizeLine) (hdf : d.params.defaults = []) (hr : Room k callerA) (hY : ∀ (w : World) (h : Heap), YP w h → (K w.params).In h)
    (F : ∀ (w : World) (s : Shared) (mg mb : Str → Option Value) (fa : Addr) (h : Heap), (K w.params).In h → PyProof.Rows.Top q (PySem.W.looseW q loose) (ExcName.means s.heap) mg mb h → mg d.name = some (.ref fa) → LamX.LawAtS l w (K w.params) CX0 k n x mg fa h) :
    PySem.W.WalkO q loose XP YP l.row.toRowW d [] (fun f vs => PySem.call f vs) := by
  refine Att.attach_callB hn hdf fun w s0 s1 mg mb fa o pm cd doc a vs ns G Y ho hd hcd hmg hobj hints hlen hbits hg => ?_
  have KX := hY w _ Y
  obtain ⟨fd, cs, sp, hT, nT, C, hb, hsp, hF⟩ := F w s0 mg mb fa _ KX G.T hmg
  exact LamX.law_callTs KX G.T.g G.T.b G.T.builtins G.T.nolimit hg hT nT C G.T.bmain hobj hints (Nat.le_trans hlen hn2) hr hF hb (fun H hH hS => hsp H a ns hlen hbits hH hS) fun _ _ _ z => z
end K1


open PySem PySem.W PyProof.Rows
set_option Elab.async false
set_option linter.all false
set_option maxRecDepth 100000 in
set_option maxHeartbeats 0 in
theorem PySem.Challenge.cw_mailtide_k01_whole_texts_and_what_they_m_holds : PySem.Challenge.rw_mailtide_k01_whole_texts_and_what_they_m.Holds := by
  w_on; o_law; k_head; (case hw => w_witness2)
  k_fill
  refine K1.walk_tops (l := PySem.Challenge.rw_mailtide_k01_whole_texts_and_what_they_m) (n := 63) (k := 8) (x := "_law_script") rfl (by decide) rfl ⟨rfl, by decide, by decide⟩ (fun w h Y => PySem.W.km_in_of Y) ?F
  intro w s mg mb fa h KX G hmg
  kn_lay G hmg hmg hmg hmg
  refine' K1.all_mk KX G.g hmg ?TS ?TR ?gT ?sr ?T ?C ?a0 ?a1 ?a2 ?a3 ?a4 ?a5 ?a6 ?a7 ?a8 ?a9 ?a10 ?a11 ?a12 ?a13 ?a14 ?a15 ?a16 ?b0 ?b1 ?aR ?aL ?lL ?cL ?kL (hT9 _ (List.mem_singleton.mpr rfl)).2 ?nP (hT9 _ (List.mem_singleton.mpr rfl)).1
  case TS =>
    refine' K1.tide_mk (tx := "no set text") (j := 0) (p1 := ⟨6, 17, 6, 21⟩) (p2 := ⟨6, 23, 6, 28⟩) (q1 := ⟨7, 8, 7, 13⟩) (q2 := ⟨7, 8, 7, 15⟩) (q3 := ⟨7, 8, 7, 24⟩) (q4 := ⟨7, 25, 7, 38⟩) (q5 := ⟨7, 8, 7, 39⟩) (q6 := ⟨7, 8, 7, 39⟩) (q7 := ⟨8, 8, 8, 12⟩) (q8 := ⟨8, 8, 8, 18⟩) (q9 := ⟨8, 21, 8, 26⟩) (q10 := ⟨8, 8, 8, 26⟩) KX G.g PySem.Tide.ok_value ⟨_, fun env => by rfl⟩ (by decide +kernel) ?saC ?sxL ?sbm ?ssa ?sga ?sgg ?snb ?sa1 ?st1 ?sl1 ?sc1 ?sn1 ?sn2 ?sn3 ?sn4 ?skC ?seC ?stC ?shC ?siC ?ssC ?ssu ?svC ?smC ?stpa ?sns
    (case saC => k_is)
    (case sxL => k_is)
    (case sbm => decide +kernel)
    (case ssa => k_is)
    (case sga => k_is)
    (case sgg => k_is)
    (case snb => k_is)
    (case sa1 => k_is)
    (case st1 => k_is)
    (case sl1 => k_is)
    (case sc1 => k_is)
    (case sn1 => k_is)
    (case sn2 => rfl)
    (case sn3 => decide +kernel)
    (case sn4 => k_is)
    (case skC => k_is)
    (case seC => k_is)
    (case stC => k_is)
    (case shC => k_is)
    (case siC => k_is)
    (case ssC => k_is)
    (case ssu => ks_is)
    (case svC => k_is)
    (case smC => k_is)
    (case stpa => k_is)
    (case sns => k_is)
  case TR =>
    refine' K1.tide_mk (tx := "a row with a wrong item, or no row") (j := 0) (p1 := ⟨11, 17, 11, 21⟩) (p2 := ⟨11, 23, 11, 25⟩) (q1 := ⟨12, 8, 12, 13⟩) (q2 := ⟨12, 8, 12, 15⟩) (q3 := ⟨12, 8, 12, 24⟩) (q4 := ⟨12, 25, 12, 61⟩) (q5 := ⟨12, 8, 12, 62⟩) (q6 := ⟨12, 8, 12, 62⟩) (q7 := ⟨13, 8, 13, 12⟩) (q8 := ⟨13, 8, 13, 15⟩) (q9 := ⟨13, 18, 13, 20⟩) (q10 := ⟨13, 8, 13, 20⟩) KX G.g PySem.Tide.ok_at ⟨_, fun env => by rfl⟩ (by decide +kernel) ?raC ?rxL ?rbm ?rsa ?rga ?rgg ?rnb ?ra1 ?rt1 ?rl1 ?rc1 ?rn1 ?rn2 ?rn3 ?rn4 ?rkC ?reC ?rtC ?rhC ?riC ?rsC ?rsu ?rvC ?rmC ?rtpa ?rns
    (case raC => k_is)
    (case rxL => k_is)
    (case rbm => decide +kernel)
    (case rsa => k_is)
    (case rga => k_is)
    (case rgg => k_is)
    (case rnb => k_is)
    (case ra1 => k_is)
    (case rt1 => k_is)
    (case rl1 => k_is)
    (case rc1 => k_is)
    (case rn1 => k_is)
    (case rn2 => rfl)
    (case rn3 => decide +kernel)
    (case rn4 => k_is)
    (case rkC => k_is)
    (case reC => k_is)
    (case rtC => k_is)
    (case rhC => k_is)
    (case riC => k_is)
    (case rsC => k_is)
    (case rsu => ks_is)
    (case rvC => k_is)
    (case rmC => k_is)
    (case rtpa => k_is)
    (case rns => k_is)
  case gT =>
    refine' PySem.W.mg_of KX G.g ?tT
    (case tT => k_is)
  case sr =>
    refine' K1.exm_other ?e1 ?e2 ?e3 ?e4
    (case e1 => k_is); (case e2 => k_is); (case e3 => k_is); (case e4 => k_is)
  case T =>
    refine' ⟨PySem.W.mg_none_of KX G.g ?z0, PySem.W.mg_none_of KX G.g ?z1, PySem.W.mg_none_of KX G.g ?z2, PySem.W.mg_none_of KX G.g ?z3, PySem.W.mg_none_of KX G.g ?z4, PySem.W.mg_none_of KX G.g ?z5, PySem.W.mg_none_of KX G.g ?z6, PySem.W.mg_none_of KX G.g ?z7, PySem.W.mg_none_of KX G.g ?z8, PySem.W.mg_none_of KX G.g ?z9, PySem.W.mg_none_of KX G.g ?z10, PySem.W.mg_none_of KX G.g ?z11⟩
    (case z0 => k_is); (case z1 => k_is); (case z2 => k_is); (case z3 => k_is); (case z4 => k_is); (case z5 => k_is); (case z6 => k_is); (case z7 => k_is); (case z8 => k_is); (case z9 => k_is); (case z10 => k_is); (case z11 => k_is)
  case C =>
    refine' ⟨K1.cs_mk KX G.g ?v0 ?w0, K1.cs_mk KX G.g ?v1 ?w1, K1.cs_mk KX G.g ?v2 ?w2, K1.cs_mk KX G.g ?v3 ?w3⟩
    (case v0 => k_is); (case w0 => rfl); (case v1 => k_is); (case w1 => rfl); (case v2 => k_is); (case w2 => rfl); (case v3 => k_is); (case w3 => rfl)
  case a0 =>
    refine' K1.at_mk KX G.g ?b ?l ?c ?k
    (case b => k_is); (case l => k_is); (case c => k_is); (case k => k_is)
  case a1 =>
    refine' K1.at_mk KX G.g ?b ?l ?c ?k
    (case b => k_is); (case l => k_is); (case c => k_is); (case k => k_is)
  case a2 =>
    refine' K1.at_mk KX G.g ?b ?l ?c ?k
    (case b => k_is); (case l => k_is); (case c => k_is); (case k => k_is)
  case a3 =>
    refine' K1.at_mk KX G.g ?b ?l ?c ?k
    (case b => k_is); (case l => k_is); (case c => k_is); (case k => k_is)
  case a4 =>
    refine' K1.at_mk KX G.g ?b ?l ?c ?k
    (case b => k_is); (case l => k_is); (case c => k_is); (case k => k_is)
  case a5 =>
    refine' K1.at_mk KX G.g ?b ?l ?c ?k
    (case b => k_is); (case l => k_is); (case c => k_is); (case k => k_is)
  case a6 =>
    refine' K1.at_mk KX G.g ?b ?l ?c ?k
    (case b => k_is); (case l => k_is); (case c => k_is); (case k => k_is)
  case a7 =>
    refine' K1.at_mk KX G.g ?b ?l ?c ?k
    (case b => k_is); (case l => k_is); (case c => k_is); (case k => k_is)
  case a8 =>
    refine' K1.at_mk KX G.g ?b ?l ?c ?k
    (case b => k_is); (case l => k_is); (case c => k_is); (case k => k_is)
  case a9 =>
    refine' K1.at_mk KX G.g ?b ?l ?c ?k
    (case b => k_is); (case l => k_is); (case c => k_is); (case k => k_is)
  case a10 =>
    refine' K1.at_mk KX G.g ?b ?l ?c ?k
    (case b => k_is); (case l => k_is); (case c => k_is); (case k => k_is)
  case a11 =>
    refine' K1.at_mk KX G.g ?b ?l ?c ?k
    (case b => k_is); (case l => k_is); (case c => k_is); (case k => k_is)
  case a12 =>
    refine' K1.at_mk KX G.g ?b ?l ?c ?k
    (case b => k_is); (case l => k_is); (case c => k_is); (case k => k_is)
  case a13 =>
    refine' K1.at_mk KX G.g ?b ?l ?c ?k
    (case b => k_is); (case l => k_is); (case c => k_is); (case k => k_is)
  case a14 =>
    refine' K1.at_mk KX G.g ?b ?l ?c ?k
    (case b => k_is); (case l => k_is); (case c => k_is); (case k => k_is)
  case a15 =>
    refine' K1.at_mk KX G.g ?b ?l ?c ?k
    (case b => k_is); (case l => k_is); (case c => k_is); (case k => k_is)
  case a16 =>
    refine' K1.at_mk KX G.g ?b ?l ?c ?k
    (case b => k_is); (case l => k_is); (case c => k_is); (case k => k_is)
  case b0 =>
    refine' K1.at_mk KX G.g ?b ?l ?c ?k
    (case b => k_is); (case l => k_is); (case c => k_is); (case k => k_is)
  case b1 =>
    refine' K1.at_mk KX G.g ?b ?l ?c ?k
    (case b => k_is); (case l => k_is); (case c => k_is); (case k => k_is)
  case aR =>
    refine' K1.atC_mk KX G.g ?b ?l ?c ?k
    (case b => k_is); (case l => k_is); (case c => k_is); (case k => k_is)
  (case aL => k_is); (case lL => k_is); (case cL => k_is); (case kL => k_is)
  (case nP => first | kernel_rfl | rfl)

