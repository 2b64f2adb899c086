import PyProof.Rows.All
import Wide.All
import OpenK.AllK
import Wide.FinOn
import HandS.Base
import HandS.Call
import HandS.List
import HandS.ExcInit
import HandS.Words
import HandS.Ends
import HandS.ExcIs
import KE.KExcIs
import HandS.ExcValue
import HandS.Exc
import PyProof.Rows.ReprR
import HandS.Dict
import PyProof.ReprLen
import HandS.ForMost
import HandS.Style
import HandS.Walk
import PySem.Challenge.RW_wraptrails_k34_each_error_alone
set_option Elab.async false
set_option linter.all false
set_option maxRecDepth 100000
set_option maxHeartbeats 4000000
/-! Errors of the program held as values: made (by place, by name), asked for their class, their fields read. -/
namespace WT
open PySem PySem.W PySem.Calls PyProof.Rows PySem.HandSPX
section
variable {prog : Program} {w : World} {A : Around} {E : Value → Shared → Prop} {R : Result → Shared → Prop} {hp : Heap} {gs : Array GenState} {dr : Drawn} {tn : Nat} {os : OsState}
variable {nm q : Str} {C N : Addr} {bs bm : List Value} {hdct : Bool} {sn : List Str} {sub : List Value} {ab : Bool} {col : Option Bool} {dd : Option Addr} {k0 k1 k2 k3 k5 : Option Value}
abbrev VEo (nm q : Str) (C N : Addr) (bs bm : List Value) (hdct : Bool) (sn : List Str) (sub : List Value) (ab : Bool) (col : Option Bool) (dd : Option Addr) (k0 k1 k2 k3 k5 : Option Value) : Obj :=
  excClassObj nm q C N bs bm hdct sn sub ab col dd k0 k1 k2 k3 k5 "ValueError.__new__"
theorem vt_has (hb : refsVE bm = true) (T : String) : (Value.ref C :: bm).contains (.type T) = veTail.contains (.type T) := by
  rw [List.contains_cons, refsVE_contains T bm hb]
  rfl
theorem ck_newK (hb : refsVE bm = true) {us : List Value} {kw : List (Str × Value)} {Q : Unit → Shared → Prop} (hC : hp.get? C = some (VEo nm q C N bs bm hdct sn sub ab col dd k0 k1 k2 k3 k5)) (hq : Q () ⟨hp, gs, dr, tn, os⟩) :
    wpAny (model prog w) A (checkBuiltinCall "ValueError.__new__" ⟨.ref C :: us, kw⟩) Q E ⟨hp, gs, dr, tn, os⟩ := by
  have F := F.excBase_ValueError
  have c1 : (Value.ref C :: bm).contains (.type "ValueError") = true := (vt_has hb _).trans (by decide +kernel)
  have c2 := F.noStar
  simp only [checkBuiltinCall, F.newKind, F.newSplit, F.newRow]
  repeat (first
    | refine wpAny_loadPart_at hC ?_
    | (refine wpAny_isSubtype_exc hC ?_; rw [c1])
    | refine wpAny_staticBase_exc hC ?_
    | refine wpAny_madeBy_exc hC ?_
    | simp only [bne_self_eq_false, Bool.false_eq_true, if_false]
    | wp_step)
  exact hq
theorem newK (hb : refsVE bm = true) {us : List Value} {kw : List (Str × Value)} (hC : hp.get? C = some (VEo nm q C N bs bm hdct sn sub ab col dd k0 k1 k2 k3 k5)) (hus : us.length ≤ sizeLine)
    (hq : R (.ok (.ret (.ref (hp.objs.size + 1)))) ⟨(hp.push (kdv_tup us)).push (excO C hp.objs.size), gs, dr, tn, os⟩) :
    codeAny (model prog w) A (.builtin "ValueError.__new__" ⟨.ref C :: us, kw⟩) R ⟨hp, gs, dr, tn, os⟩ := by
  have F := F.excBase_ValueError
  have c0 := F.ends
  have c1 : (Value.ref C :: bm).contains (.type "ValueError") = true := (vt_has hb _).trans (by decide +kernel)
  have c2 : (Value.ref C :: bm).contains (.type "AttributeError") = false := (vt_has hb _).trans (by decide +kernel)
  have c3 : (Value.ref C :: bm).contains (.type "NameError") = false := (vt_has hb _).trans (by decide +kernel)
  refine codeAny_builtinAt F.entry ?_
  unfold Builtin.«BaseException.__new__»
  refine PySem.wpAt_bind ?_
  show PySem.wpAt _ _ _ (stack >>= _) _ _ _
  refine PySem.wpAt_bind (PySem.wpAt_stack fun pp bl => PySem.wpAt_of_wpAny ?_)
  wp_walk
  refine PySem.wpAt_of_wpAny ?_
  rw [F.owner]
  repeat (first
    | with_reducible refine wpAny_madeHere_exc F.canon hC ?_
    | with_reducible refine wpAny_loadPart_at hC ?_
    | (with_reducible refine wpAny_isSubtype_exc hC ?_; first | rw [c1] | rw [c2] | rw [c3])
    | wp_step)
  show R _ _
  rw [Heap.size_push]
  exact hq
theorem tcallK (hb : refsVE bm = true) {us : List Value} {kw : List (Str × Value)} {fI : Addr} {Q : PySem.Fin → Shared → Prop} (hC : hp.get? C = some (VEo nm q C N bs bm hdct sn sub ab col dd k0 k1 k2 k3 k5))
    (hi : Looks (model prog w) hp (typeLookup (.ref C) "__init__") (some (.ref fI))) (hbd : ∀ z, Looks (model prog w) hp (bindSpecial (.ref fI) z) (.ref fI, [z])) (hus : us.length ≤ sizeLine)
    (hq : codeAny (model prog w) A (.call (.ref fI) ⟨.ref (hp.objs.size + 1) :: us, kw⟩)
      (fun r s' => match r with | .ok (.ret v) => v = .none ∧ Q (.done (.ret (.ref (hp.objs.size + 1)))) s' | .ok _ => False | .error e => E e s')
      ⟨(hp.push (kdv_tup us)).push (excO C hp.objs.size), gs, dr, tn, os⟩) :
    wpAny (model prog w) A (Builtin.«type.__call__» ⟨.ref C :: us, kw⟩) Q E ⟨hp, gs, dr, tn, os⟩ := by
  have F := F.excBase_ValueError
  repeat (first
    | with_reducible refine wpAny_loadPart_at hC ?_
    | with_reducible refine wpAny_madeBy_exc hC ?_
    | wp_step)
  refine codeAny_call_builtin_code (Code.quiet_builtin _ F.quiet) (ck_newK hb hC ?_)
  refine newK hb hC hus ?_
  show wpAny _ _ _ _ _ _
  have kp : ∀ b o, hp.get? b = some o → ((hp.push (kdv_tup us)).push (excO C hp.objs.size)).get? b = some o :=
    fun b o z => Heap.get?_push_of_some _ (Heap.get?_push_of_some _ z)
  have hC1 := kp _ _ hC
  have hg : ((hp.push (kdv_tup us)).push (excO C hp.objs.size)).get? (hp.objs.size + 1) = some (excO C hp.objs.size) := by
    heap_get
  have cC : (Value.ref C :: bm).contains (.ref C) = true := by simp
  have i1 := hi.keeps kp
  have b1 := (hbd (.ref (hp.objs.size + 1))).keeps kp
  unfold isInstance
  repeat (first
    | with_reducible refine wpAny_loadPart_at hg ?_
    | (with_reducible refine wpAny_isSubtype_exc hC1 ?_; rw [cC])
    | wp_step)
  show wpAny _ _ (typeLookup (.ref C) _) _ _ _
  refine i1.at (wpAny_holding (wpAny_bind (b1.at ?_)))
  refine wpAny_bind (wpAny_call (codeAny_mono hq fun r s' z => ?_))
  rcases r with e | (v | _ | _ | _) <;> first | exact z | exact z.elim | skip
  obtain ⟨rfl, z⟩ := z
  first
    | exact wpAny_pure (wpAny_pure z)
    | (wp_walk; exact z)
theorem ck_callK {us : List Value} {kw : List (Str × Value)} {Q : Unit → Shared → Prop} (hC : hp.get? C = some (VEo nm q C N bs bm hdct sn sub ab col dd k0 k1 k2 k3 k5)) (hq : Q () ⟨hp, gs, dr, tn, os⟩) :
    wpAny (model prog w) A (checkBuiltinCall "type.__call__" ⟨.ref C :: us, kw⟩) Q E ⟨hp, gs, dr, tn, os⟩ := by
  have f3 := tc_sub
  have ht : (⟨hp, gs, dr, tn, os⟩ : Shared).TypeIs (.ref C) "type" := ⟨_, hC, rfl⟩
  simp only [checkBuiltinCall, tc_kind, tc_split]
  repeat (any_goals (first
    | assumption
    | with_reducible refine wpAny_loadPart_at hC ?_
    | with_reducible refine wpAny_onRaise ?_
    | with_reducible refine wpAny_map ?_
    | wp_step))
theorem ownK (hb : refsVE bm = true) {us : List Value} {kw : List (Str × Value)} {fI : Addr} (hC : hp.get? C = some (VEo nm q C N bs bm hdct sn sub ab col dd k0 k1 k2 k3 k5))
    (hi : Looks (model prog w) hp (typeLookup (.ref C) "__init__") (some (.ref fI))) (hbd : ∀ z, Looks (model prog w) hp (bindSpecial (.ref fI) z) (.ref fI, [z])) (hus : us.length ≤ sizeLine)
    (hq : codeAny (model prog w) (A.under (.builtin "type.__call__" ⟨.ref C :: us, kw⟩)) (.call (.ref fI) ⟨.ref (hp.objs.size + 1) :: us, kw⟩) (InitBack (hp.objs.size + 1) R)
      ⟨(hp.push (kdv_tup us)).push (excO C hp.objs.size), gs, dr, tn, os⟩) :
    codeAny (model prog w) A (.call (.ref C) ⟨us, kw⟩) R ⟨hp, gs, dr, tn, os⟩ := by
  have f1 := tc_lookup
  have f2 := tc_bind (.ref C)
  have ht : (⟨hp, gs, dr, tn, os⟩ : Shared).TypeIs (.ref C) "type" := ⟨_, hC, rfl⟩
  refine codeAny_of_tree ?_
  show wpAny _ _ (callAny (.ref C) _) _ _ _
  repeat (any_goals (first
    | assumption
    | with_reducible refine wpAny_loadPart_at hC ?_
    | wp_step))
  refine ⟨rfl, ?_⟩
  refine codeAny_call_builtin_at (Code.quiet_builtin _ (by decide +kernel)) entry_typeCall (ck_callK hC ?_)
  refine tcallK hb hC hi hbd hus (codeAny_mono hq fun r s' z => ?_)
  rcases r with e | (v | _ | _ | _) <;> exact z
end
end WT

set_option Elab.async false
set_option linter.all false
set_option maxRecDepth 100000
set_option maxHeartbeats 4000000
namespace WT
open PySem PySem.Spec PyProof.Rows L2
/-- an error of the class at C stands at a; its fields -/
def Err (H : Hp) (a C : Addr) (fs : List (Str × V)) : Prop := (fs = [] ∧ H a = some (exo a C none)) ∨ ∃ d, H a = some (exo a C (some d)) ∧ H d = some (exd d fs)
theorem Err.same {H H' : Hp} {a C : Addr} {fs : List (Str × V)} (e : Err H a C fs) (s : Same H H') : Err H' a C fs := by
  rcases e with ⟨z, e⟩ | ⟨d, e1, e2⟩
  · exact .inl ⟨z, s _ _ e⟩
  · exact .inr ⟨d, s _ _ e1, s _ _ e2⟩
theorem same_new {H : Hp} {p : Addr} {o : HO} (h : H p = none) : Same H (upd H p o) := fun b x e => by
  rw [upd_ne (ne_of_none e h)]
  exact e
section
variable {X : Cx}
theorem run_err {CX : CXT} {C fI : Addr} {k : Nat} {fd : FuncData} {ps : List Str} {sp : Sp} {pins : List (Addr × Obj)} {σ : L2.St} {H : Hp} {s : Shared} {Q : VK} {us gus : List Value} {kw : List (Str × Value)} {vs : List V}
    (T : OexC X.K C) (iC : PySem.W.findIn X.K (.ref C) "__init__" = some (some (.ref fI))) (tI : PySem.W.typeIn X.K (.ref fI) = some (.type "function")) (G : FnOk X.prog X.w X.K X.mg X.base CX k fI fd ps sp) (hr : Room (k + 1) X.A)
    (hx : Passes CX X (fun _ _ _ => False)) (I : Inv X pins σ H s) (hus : us.length ≤ sizeLine) (hb : ∀ (s1 : Shared) (z : Value), X.K.In s1.heap → BindsTo s1 fd ⟨z :: us, kw⟩ (ps.zip (z :: gus))) (r : Vals vs gus)
    (h : ∀ a, H a = none → sp (.ref a :: vs) (upd H a (exo a C none)) (fun v H2 => v = .non ∧ Q (.ref a) H2) (fun _ _ _ => False)) :
    wpAny (model X.prog X.w) X.A (call (.ref C) us kw) (EP X pins σ Q) X.xe s := by
  obtain ⟨nm, q, N, bs, bm, sn, sub, ab, col, dd, k0, k1, k2, k3, k5, hC, hbm⟩ := T.cls
  obtain ⟨hp, g, dr, tk, os⟩ := s
  have z1 : hp.objs.size ≤ hp.objs.size + 1 := Nat.le_succ _
  have z2 := h (hp.objs.size + 1) (I.hok.fresh z1)
  have kp : ∀ b o, hp.get? b = some o → ((hp.push (PySem.W.kdv_tup us)).push (PySem.HandSPX.excO C hp.objs.size)).get? b = some o :=
    fun b o z => Heap.get?_push_of_some _ (Heap.get?_push_of_some _ z)
  have hg : ((hp.push (PySem.W.kdv_tup us)).push (PySem.HandSPX.excO C hp.objs.size)).get? (hp.objs.size + 1) = some (PySem.HandSPX.excO C hp.objs.size) := by
    heap_get
  have I2 : Inv X pins σ (upd H (hp.objs.size + 1) (exo (hp.objs.size + 1) C none)) ⟨(hp.push (PySem.W.kdv_tup us)).push (PySem.HandSPX.excO C hp.objs.size), g, dr, tk, os⟩ :=
    I.laid (t' := tk) (a := hp.objs.size + 1) (o := exo (hp.objs.size + 1) C none) kp z1 (exo_ok hg)
  have r2 : Vals (V.ref (hp.objs.size + 1) :: vs) (Value.ref (hp.objs.size + 1) :: gus) := .cons rfl r
  refine wpAny_call (ownK hbm (I.kIn _ _ hC) (PySem.W.looks_findIn I.kIn iC) (fun z => PySem.W.bind_fn I.kIn z tI) hus
    (codeAny_mono (G.run _ X.stack _ _ ⟨Value.ref (hp.objs.size + 1) :: us, kw⟩ (Value.ref (hp.objs.size + 1) :: gus) _ _ (fun _ _ _ => False) (hr.make C us kw) (I2.env0.make C us kw) (hb _ _ I2.kIn) r2 z2) fun r s' hq' => ?_))
  cases r with
  | error er => exact hx pins σ _ _ er s' I2 hq'
  | ok fl =>
    cases fl with
    | ret u =>
      obtain ⟨v, H', I3, rv, ev, q3⟩ := I2.after hq'
      subst ev
      exact ⟨rv, ⟨V.ref (hp.objs.size + 1), H', I3, rfl, q3⟩⟩
    | next => exact False.elim hq'
    | brk => exact False.elim hq'
    | cont => exact False.elim hq'
/-- C(e, ..): a new error, by its own __init__, which keeps sp -/
def tErr (C : Addr) (sp : Sp) (ta : TA) : TE := fun σ H Q => ta σ H fun vs H1 => vs.length ≤ 1000 ∧ ∀ a, H1 a = none → sp (.ref a :: vs) (upd H1 a (exo a C none)) (fun v H2 => v = .non ∧ Q (.ref a) H2) (fun _ _ _ => False)
theorem pe_err {CX : CXT} {x : Str} {C fI : Addr} {k : Nat} {fd : FuncData} {ps : List Str} {sp : Sp} {e : Expr} {es : List Expr} {ta : TA} {p pos : Pos} (T : OexC X.K C) (iC : PySem.W.findIn X.K (.ref C) "__init__" = some (some (.ref fI)))
    (tI : PySem.W.typeIn X.K (.ref fI) = some (.type "function")) (G : FnOk X.prog X.w X.K X.mg X.base CX k fI fd ps sp) (hr : Room (k + 1) X.A) (hb : Binds X.K fd ps []) (hx : Passes CX X (fun _ _ _ => False)) (hg : Gl X x)
    (hm : X.mg x = some (.ref C)) (ha : PA X (e :: es) ta) (hdb : (x == ("__debug__" : Str)) = false := by decide) (he : starEach (e :: es) X.env = (false, eval e X.env) :: starEach es X.env := by rfl)
    (hpl : (backTo pos (starEach es X.env)).any (·.1) = false := by rfl) : PE X (.Call (.Name x p) (e :: es) [] pos) (tErr C sp ta) := by
  refine ⟨fun pins s σ H Q I h => ?_⟩
  refine wpAny_Call_Name_kw (ld_glob I hg hm ?_ hdb)
  refine PySem.W.callWith_K (h₀ := X.base) I.ok.mod.kin T.kC (thn (ha.run pos pins s σ H _ I h) fun us s1 ⟨vs, H1, I1, r1, hz, q1⟩ => ⟨I1.kIn, ?_⟩) he hpl
  have hn : H1 (s1.heap.objs.size) = none := I1.hok.fresh (Nat.le_refl _)
  have hl : (V.ref s1.heap.objs.size :: vs).length = ps.length := G.len _ _ _ _ (q1 _ hn)
  refine run_err (us := us) (gus := us) (kw := []) T iC tI G hr hx I1 ?_ (fun s2 z X2 => ?_) r1 q1
  · rw [← Vals.length r1, sizeLine_eq]
    omega
  · have y := hb s2 (z :: us) X2 (by
      rw [List.append_nil, List.length_cons, ← Vals.length r1]
      exact hl)
    rw [List.append_nil] at y
    exact y
/-- C(k = v, ..) by names alone -/
def tErrK (C : Addr) (sp : Sp) (gV : List V → List V) (n : Nat) (tk : TA) : TE := fun σ H Q => tk σ H fun zs H1 => zs.length = n ∧ ∀ a, H1 a = none → sp (.ref a :: gV zs) (upd H1 a (exo a C none)) (fun v H2 => v = .non ∧ Q (.ref a) H2) (fun _ _ _ => False)
theorem pe_errK {CX : CXT} {x : Str} {C fI : Addr} {k n : Nat} {fd : FuncData} {ps ks : List Str} {sp : Sp} {kws : List Keyword} {tk : TA} {p pos : Pos} {gU : List Value → List Value} {gV : List V → List V} (T : OexC X.K C)
    (iC : PySem.W.findIn X.K (.ref C) "__init__" = some (some (.ref fI))) (tI : PySem.W.typeIn X.K (.ref fI) = some (.type "function")) (G : FnOk X.prog X.w X.K X.mg X.base CX k fI fd ps sp) (hr : Room (k + 1) X.A)
    (hb : ∀ (s1 : Shared) (z : Value) (ws : List Value), X.K.In s1.heap → ws.length = n → BindsTo s1 fd ⟨[z], ks.zip ws⟩ (ps.zip (z :: gU ws))) (hgr : ∀ {zs : List V} {ws : List Value}, Vals zs ws → zs.length = n → Vals (gV zs) (gU ws))
    (hx : Passes CX X (fun _ _ _ => False)) (hg : Gl X x) (hm : X.mg x = some (.ref C)) (hkw : PK X kws tk) (hall : (backToKw pos (keywordEach kws X.env)).all (·.1.isSome) = true := by rfl)
    (hks : (backToKw pos (keywordEach kws X.env)).filterMap (·.1) = ks := by rfl) (hdb : (x == ("__debug__" : Str)) = false := by decide)
    (hpl : ((backTo pos (starEach [] X.env)).any (·.1) || (backToKw pos (keywordEach kws X.env)).any (·.1.isNone)) = false := by rfl) : PE X (.Call (.Name x p) [] kws pos) (tErrK C sp gV n tk) := by
  refine ⟨fun pins s σ H Q I h => ?_⟩
  refine wpAny_Call_Name_kw (ld_glob I hg hm ?_ hdb)
  refine PySem.W.callWith_KW0 (h₀ := X.base) I.ok.mod.kin T.kC hall (thn (hkw.run pos pins s σ H _ I h) fun ws s1 ⟨zs, H1, I1, rz, hl, q1⟩ => ⟨I1.kIn, ?_⟩) hpl
  rw [hks]
  exact run_err (us := []) (gus := gU ws) (kw := ks.zip ws) T iC tI G hr hx I1 (Nat.zero_le _) (fun s2 z X2 => hb s2 z ws X2 ((Vals.length rz).symm.trans hl)) (hgr rz hl) q1
/-- what an own class without own __init__ says -/
def ErrBare (K : PySem.W.Frag) (C : Addr) : Prop := PySem.W.excIn K C PySem.HandSPX.veTail "ValueError.__new__" = true ∧ PySem.W.keepIn K (.ref C) = true
/-- C() without an __init__ of its own -/
def tErr0 (C : Addr) : TE := fun σ H Q => ∀ a, H a = none → Q (.ref a) (upd H a (exo a C none))
theorem pe_err0 {x : Str} {C : Addr} {p pos : Pos} (T : ErrBare X.K C) (hg : Gl X x) (hm : X.mg x = some (.ref C)) (hdb : (x == ("__debug__" : Str)) = false := by decide) : PE X (.Call (.Name x p) [] [] pos) (tErr0 C) := by
  refine ⟨fun pins s σ H Q I h => ?_⟩
  refine wpAny_Call_Name_kw (ld_glob I hg hm ?_ hdb)
  refine PySem.W.callWith_K0 I.kIn T.2 ?_
  obtain ⟨bm, N, nm, qn, bs, hdct, sn, sub, ab, col, dd, k0, k1, k2, k3, k5, mN, hC, hN, hni, TT⟩ := exc_obj I.kIn T.1
  obtain ⟨hp, g, dr, tk, os⟩ := s
  refine wpAny_call_exc_subT F.excBase_ValueError TT hC hN hni (fun h' a hm => ?_) (Nat.zero_le _)
  obtain ⟨t, ht, _, _⟩ := hm.there
  have hn : H a = none := I.hok.gone hm.new
  exact ⟨.ref a, upd H a (exo a C none), I.laidN hm.keeps hm.new hn (exo_ok ht), rfl, h a hn⟩
/-- the object of an error -/
theorem Err.at {pins : List (Addr × Obj)} {σ : L2.St} {H : Hp} {s : Shared} {a C : Addr} {fs : List (Str × V)} (e : Err H a C fs) (I : Inv X pins σ H s) :
    ∃ (ox : Obj) (od : Option Obj), PySem.W.InstAt s.heap a ox C od ∧ (fs ≠ [] → ∃ o, od = some o ∧ ∀ n : Str, ∃ u, PySem.W.lookIn n o = some u ∧ RelO (fs.lookup n) u) := by
  rcases e with ⟨z, e⟩ | ⟨d, e1, e2⟩
  · obtain ⟨t1, ho⟩ := exo_at I.hok e
    exact ⟨_, none, ⟨ho, rfl, rfl, trivial⟩, fun y => absurd z y⟩
  · obtain ⟨t1, ho⟩ := exo_at I.hok e1
    obtain ⟨mA, hns, rel⟩ := exd_at I.hok e2
    obtain ⟨od, hod, hl⟩ := lookIn_ns hns
    exact ⟨_, some od, ⟨ho, rfl, rfl, hod⟩, fun _ => ⟨od, rfl, fun n => ⟨mA n, hl n, rel n⟩⟩⟩
/-- isinstance(e, c), e an error held as a value -/
def rIsErr (K : PySem.W.Frag) : List V → Hp → VK → Prop := fun xs H Q => ∃ (a C : Addr) (fs : List (Str × V)) (c : V) (cv : Value) (b : Bool), xs = [.ref a, c] ∧ Err H a C fs ∧ ExcC K C ∧ (∀ u, RelV c u → u = cv) ∧ PySem.W.kitOne K (.ref C) cv = some b ∧ Q (.bl b) H
theorem call_isErr : CallR X (.builtin "isinstance") (rIsErr X.K) := by
  intro pins s σ H xs us Q I r h
  obtain ⟨a, C, fs, c, cv, b, rfl, e, T, hc, hk, q⟩ := h
  obtain ⟨u, u', rfl, rx, rt⟩ := vals2 r
  obtain rfl : u = Value.ref a := rx
  obtain rfl := hc _ rt
  obtain ⟨ox, od, J, _⟩ := e.at I
  have hcl : (PySem.W.clsIn X.K C).isSome = true := by
    obtain ⟨cd, h1, _⟩ := PySem.W.any_some T.hd
    rw [h1]
    rfl
  exact PySem.W.kia_one (PySem.W.kitx_exc (ox := ox) (od := od) hcl T.hg T.hk T.hs T.ha T.hn T.ht T.hm) I.kIn J hk (fun z => nomatch z) fun tk => ⟨.bl b, H, I.kept (t' := tk) fun _ _ z => z, rfl, q⟩
/-- e.f, e an error held as a value -/
def tErrF (K : PySem.W.Frag) (n : Str) (te : TE) : TE := fun σ H Q => te σ H fun x H1 => ∃ (a C : Addr) (fs : List (Str × V)) (v : V), x = .ref a ∧ Err H1 a C fs ∧ ExcC K C ∧ PySem.W.findIn K (.ref C) n = some none ∧ fs.lookup n = some v ∧ Q v H1
theorem pe_errF {e : Expr} {te : TE} {pos : Pos} {n : Str} (he : PE X e te) (hb : attributeBase e n X.env (eval e X.env) = eval e X.env := by rfl) : PE X (.Attribute e n pos) (tErrF X.K n te) := by
  refine ⟨fun pins s σ H Q I h => ?_⟩
  refine attr_of hb (thn (he.run pins s σ H _ I h) fun u s1 hh => ?_)
  obtain ⟨x, H1, I1, rx, a, C, fs, v, rfl, e1, T, hno, hl, q⟩ := hh
  obtain rfl : u = Value.ref a := rx
  obtain ⟨ox, od, J, k⟩ := e1.at I1
  obtain ⟨o, rfl, k2⟩ := k (fun z => by rw [z] at hl; cases hl)
  obtain ⟨u, hu, ru⟩ := k2 n
  rw [hl] at ru
  cases u with
  | none => exact ru.elim
  | some u =>
    exact HandSPX.exc_get I1.kIn J T.hg T.hk T.hs (PySem.W.findObj_own T.hd hno rfl hu) (handed_of ru) ⟨v, H1, I1.tok _, ru, q⟩
end
end WT

set_option Elab.async false
set_option linter.all false
set_option maxRecDepth 100000
set_option maxHeartbeats 4000000
/-! Defs that may ask repr of lists: called where no repr is under way (the guards are told to be empty). -/
namespace WT
open PySem PySem.Spec PyProof.Rows L2
structure FnG (P : Program) (w : World) (K : PySem.W.Frag) (mg : Str → Option Value) (base : Heap) (cx : CXT) (k : Nat) (f : Addr) (fd : FuncData) (ps : List Str) (sp : Sp) : Prop where
  len : ∀ vs H Q E, sp vs H Q E → vs.length = ps.length
  run : ∀ (A : Around) (outer : List Env) (s : Shared) (H : Hp) (args : Args) (us : List Value) (vs : List V) (Q : VK) (E : XK), A.guards = some [] → Room k A → Env0 P w K mg base A outer s H →
    BindsTo s fd args (ps.zip us) → Vals vs us → sp vs H Q E → codeAny (model P w) A (.call (.ref f) args) (CR cx outer P w H s Q E) s
section
variable {P : Program} {w : World} {K : PySem.W.Frag} {mg : Str → Option Value} {base : Heap} {cx : CXT} {j k : Nat} {f : Addr} {fd : FuncData} {ps : List Str} {sp sp' : Sp}
theorem FnG.of (G : FnOk P w K mg base cx k f fd ps sp) : FnG P w K mg base cx k f fd ps sp := ⟨G.len, fun A o s H a us vs Q E _ => G.run A o s H a us vs Q E⟩
theorem FnG.mono (G : FnG P w K mg base cx j f fd ps sp) (h : j ≤ k) : FnG P w K mg base cx k f fd ps sp :=
  ⟨G.len, fun A o s H a us vs Q E g hr => G.run A o s H a us vs Q E g (hr.mono h)⟩
theorem FnG.imp (G : FnG P w K mg base cx k f fd ps sp) (h : ∀ vs H Q E, sp' vs H Q E → sp vs H Q E) : FnG P w K mg base cx k f fd ps sp' :=
  ⟨fun vs H Q E q => G.len vs H Q E (h _ _ _ _ q), fun A o s H a us vs Q E g hr e hb hv hs => G.run A o s H a us vs Q E g hr e hb hv (h _ _ _ _ hs)⟩
/-- a def by its body -/
theorem fnG_of {name qual : Str} {params : Arguments} {body : List Stmt} {scope : Scope} {dV kV doc pm cdv ct oc : Value} {an od : Option Addr} {osl : Array (Option Value)} {N : List Str}
    (lk : K.lookup f = some ⟨oc, od, .func (PySem.W.fnOf name qual params body scope dV kV doc pm an cdv ct), osl⟩) (hcd : PySem.W.codeIn K cdv qual = true) (S : FnScope N ps scope)
    (hlen : ∀ vs H Q E, sp vs H Q E → vs.length = ps.length)
    (hbody : ∀ (A : Around) (outer : List Env) (s : Shared) (H : Hp) (vs : List V) (Q : VK) (E : XK), A.guards = some [] → Room k (A.deeper (envOfC qual scope s.heap.objs.size f cdv)) → sp vs H Q E →
      ∃ t, PSs (cxOf cx P w K mg base N qual scope f cdv A outer s H E) body t ∧ t { nx := fun _ H' => Q .non H', rt := Q } (start N vs) H) :
    FnG P w K mg base cx (k + 1) f (PySem.W.fnOf name qual params body scope dV kV doc pm an cdv ct) ps sp := by
  refine ⟨hlen, fun A outer s H args us vs Q E hgd hr e0 hb r hsp => ?_⟩
  have up : ∀ b o, base.get? b = some o → s.heap.get? b = some o := fun b o z => (e0.bs b o z).1
  have kin : K.In s.heap := e0.mod.kin.keeps up
  have lim : s.heap.NoLimit := e0.mod.nolimit.keeps up
  have kinds : ∀ y ∈ ps.zip us, scope.names.lookup y.1 = some .local ∨ (scope.names.lookup y.1 = some .cell ∧ ((cellsFrom (s.heap.objs.size + 1) scope.names []).lookup y.1).isSome = true) := by
    intro y hy
    obtain ⟨n, v⟩ := y
    exact (S.par n (List.of_mem_zip hy).1).imp id fun q => ⟨q, PySem.W.cellsFrom_some _ _ _ (.inl q)⟩
  refine codeAny_call_function hr.depth (kin _ _ lk) rfl S.co S.gen rfl (PySem.W.codeRec_of kin hcd) (hb _ _ _ _ ?_)
  refine wpAny_newFunctionEnv_cells S.kind kinds fun env he s1 y => ?_
  subst he
  refine ⟨lim.keeps y.toInCall.keep, codeAny_func ?_⟩
  obtain ⟨t, ht, hq⟩ := hbody A outer s H vs Q E hgd (hr.deeper _) hsp
  have J : Inv (cxOf cx P w K mg base N qual scope f cdv A outer s H E) [] (start N vs) H s1 := inv_start S hr.hd e0 (hlen _ _ _ _ hsp) r y
  refine wpAny_mono (ht.run [] s1 (start N vs) H _ J hq) (fun fl s' hs => ?_) fun e s' hs => hs
  cases fl with
  | ret u =>
    obtain ⟨v, σ', H', J', rv, q⟩ := hs
    exact ⟨v, H', J'.os, J'.bare, J'.base, J'.hok, rv, q⟩
  | next =>
    obtain ⟨σ', H', J', q⟩ := hs
    exact ⟨V.non, H', J'.os, J'.bare, J'.base, J'.hok, rfl, q⟩
  | brk =>
    obtain ⟨_, _, _, q⟩ := hs
    exact q.elim
  | cont =>
    obtain ⟨_, _, _, q⟩ := hs
    exact q.elim
/-- the body's rule for a def that lets nothing out -/
theorem okG {x qual : Str} {st : Stmt} {N : List Str} (F : Fun K x qual st f fd) (S : FnScope N ps (defScope st)) (hlen : ∀ vs H Q E, sp vs H Q E → vs.length = ps.length)
    (hbody : ∀ (cdv : Value) (A : Around) (outer : List Env) (s : Shared) (H : Hp) (vs : List V) (Q : VK) (E : XK), A.guards = some [] → Room k (A.deeper (envOfC qual (defScope st) s.heap.objs.size f cdv)) → sp vs H Q E →
      ∃ t, PSs (cxOf CX0 P w K mg base N qual (defScope st) f cdv A outer s H E).nox (defBody st) t ∧ t { nx := fun _ H' => Q .non H', rt := Q } (start N vs) H) : FnG P w K mg base CX0 (k + 1) f fd ps sp := by
  obtain ⟨oc, od, kV, doc, pm, an, cdv, ct, osl, rfl, lk, hcd⟩ := F.ex
  refine fnG_of lk hcd S hlen fun A outer s H vs Q E hgd hr hsp => ?_
  obtain ⟨t, h, q⟩ := hbody cdv A outer s H vs Q E hgd hr hsp
  exact ⟨t, h.nox, q⟩
/-- .. for one that may raise -/
theorem okGX {x qual : Str} {st : Stmt} {N : List Str} (F : Fun K x qual st f fd) (S : FnScope N ps (defScope st)) (hlen : ∀ vs H Q E, sp vs H Q E → vs.length = ps.length)
    (hbody : ∀ (cdv : Value) (A : Around) (outer : List Env) (s : Shared) (H : Hp) (vs : List V) (Q : VK) (E : XK), A.guards = some [] → Room k (A.deeper (envOfC qual (defScope st) s.heap.objs.size f cdv)) → sp vs H Q E →
      ∃ t, PSs (cxOf (L2.CX P w) P w K mg base N qual (defScope st) f cdv A outer s H E) (defBody st) t ∧ t { nx := fun _ H' => Q .non H', rt := Q } (start N vs) H) : FnG P w K mg base (L2.CX P w) (k + 1) f fd ps sp := by
  obtain ⟨oc, od, kV, doc, pm, an, cdv, ct, osl, rfl, lk, hcd⟩ := F.ex
  exact fnG_of lk hcd S hlen fun A outer s H vs Q E hgd hr hsp => hbody cdv A outer s H vs Q E hgd hr hsp
end
section
variable {X : Cx} {cx : CXT} {k : Nat} {f : Addr} {fd : FuncData} {ps : List Str} {sp : Sp} {E : XK} {x : Str} {p pos : Pos} {e : Expr} {es : List Expr} {t : TA}
theorem run_fnG {pins : List (Addr × Obj)} {σ : L2.St} {H : Hp} {s : Shared} {Q : VK} {us : List Value} {vs : List V} (hgd : X.A.guards = some []) (G : FnG X.prog X.w X.K X.mg X.base cx k f fd ps sp) (hr : Room k X.A) (hb : Binds X.K fd ps [])
    (hx : Passes cx X E) (I : Inv X pins σ H s) (r : Vals vs us) (h : sp vs H Q E) : wpAny (model X.prog X.w) X.A (call (.ref f) us) (EP X pins σ Q) X.xe s := by
  have hl : us.length = ps.length := (Vals.length r).symm.trans (G.len _ _ _ _ h)
  have hb' := hb s us I.kIn (by rw [List.append_nil]; exact hl)
  rw [List.append_nil] at hb'
  refine wpAny_call (codeAny_mono (G.run X.A X.stack s H ⟨us, []⟩ us vs Q E hgd hr I.env0 hb' r h) fun r s' hq => ?_)
  cases r with
  | error e => exact hx pins σ H s e s' I hq
  | ok fl =>
    cases fl with
    | ret u => exact I.after hq
    | next => exact hq.elim
    | brk => exact hq.elim
    | cont => exact hq.elim
/-- f(e, ..) -/
def tCallG (sp : Sp) (E : XK) (t : TA) : TE := fun σ H Q => t σ H fun vs H1 => sp vs H1 Q E
theorem pe_callG (hgd : X.A.guards = some []) (G : FnG X.prog X.w X.K X.mg X.base cx k f fd ps sp) (hr : Room k X.A) (hg : Gl X x) (hm : X.mg x = some (.ref f)) (hk : PySem.W.keepIn X.K (.ref f) = true) (hb : Binds X.K fd ps [])
    (hx : Passes cx X E) (ha : PA X (e :: es) t) (hdb : (x == ("__debug__" : Str)) = false := by decide) (he : starEach (e :: es) X.env = (false, eval e X.env) :: starEach es X.env := by rfl)
    (hpl : (backTo pos (starEach es X.env)).any (·.1) = false := by rfl) : PE X (.Call (.Name x p) (e :: es) [] pos) (tCallG sp E t) := by
  refine ⟨fun pins s σ H Q I h => ?_⟩
  refine wpAny_Call_Name_kw (ld_glob I hg hm ?_ hdb)
  exact PySem.W.callWith_K (h₀ := X.base) I.ok.mod.kin hk (thn (ha.run pos pins s σ H _ I h) fun us s1 ⟨vs, H1, I1, r, q⟩ => ⟨I1.kIn, run_fnG hgd G hr hb hx I1 r q⟩) he hpl
end
end WT

set_option Elab.async false
set_option linter.all false
set_option maxRecDepth 100000
set_option maxHeartbeats 4000000
/-! repr of data: lists, tuples and dicts within one another. -/
namespace WT
open PySem
mutual
/-- the value v of the heap h is the data d; no dict of it is the one of all modules -/
inductive Sh (h : Heap) : Value → PyData → Prop
  | none : Sh h .none .none
  | bool (b) : Sh h (.bool b) (.bool b)
  | int (i t) : Sh h (.int i t) (.int i)
  | str (x t) : Sh h (.str x t) (.str x)
  | list {a o vs n xs} : h.get? a = some o → o.cls = .type "list" → o.data = .seq vs n → ShAll h vs.toList xs → Sh h (.ref a) (.list xs)
  | tuple {a o vs n xs} : h.get? a = some o → o.cls = .type "tuple" → o.data = .seq vs n → ShAll h vs.toList xs → Sh h (.ref a) (.tuple xs)
  | dict {a o es n ks vs} : h.get? a = some o → o.cls = .type "dict" → o.data = .dict es n → (a == sysModules) = false → ks.length = vs.length → ShAll h (es.toList.map (·.key)) ks → ShAll h (es.toList.map (·.val)) vs → Sh h (.ref a) (.dict (ks.zip vs))
inductive ShAll (h : Heap) : List Value → List PyData → Prop
  | nil : ShAll h [] []
  | cons {v vs d ds} : Sh h v d → ShAll h vs ds → ShAll h (v :: vs) (d :: ds)
end
theorem zip1 {α β : Type} : ∀ (ks : List α) (vs : List β), ks.length = vs.length → (ks.zip vs).map (·.1) = ks
  | [], _, _ => rfl
  | k :: ks, [], h => by cases h
  | k :: ks, v :: vs, h => by
    show k :: (ks.zip vs).map (·.1) = k :: ks
    rw [zip1 ks vs (Nat.succ.inj h)]
theorem zip2 {α β : Type} : ∀ (ks : List α) (vs : List β), ks.length = vs.length → (ks.zip vs).map (·.2) = vs
  | [], [], _ => rfl
  | [], v :: vs, h => by cases h
  | k :: ks, [], h => by cases h
  | k :: ks, v :: vs, h => by
    show v :: (ks.zip vs).map (·.2) = v :: vs
    rw [zip2 ks vs (Nat.succ.inj h)]
mutual
theorem Sh.reads {h : Heap} : ∀ {v : Value} {d : PyData}, Sh h v d → ∃ as, Reads h v d as
  | _, _, .none => ⟨_, .none⟩
  | _, _, .bool b => ⟨_, .bool b⟩
  | _, _, .int i t => ⟨_, .int i t⟩
  | _, _, .str x t => ⟨_, .str x t⟩
  | _, _, .list h1 h2 h3 h4 => let ⟨_, q⟩ := ShAll.reads h4; ⟨_, .list h1 h2 h3 q⟩
  | _, _, .tuple h1 h2 h3 h4 => let ⟨_, q⟩ := ShAll.reads h4; ⟨_, .tuple h1 h2 h3 q⟩
  | _, _, .dict (ks := ks) (vs := vs) h1 h2 h3 _ hl h4 h5 => by
    obtain ⟨_, q4⟩ := ShAll.reads h4
    obtain ⟨_, q5⟩ := ShAll.reads h5
    exact ⟨_, .dict h1 h2 h3 (by rw [zip1 ks vs hl]; exact q4) (by rw [zip2 ks vs hl]; exact q5)⟩
theorem ShAll.reads {h : Heap} : ∀ {vs : List Value} {ds : List PyData}, ShAll h vs ds → ∃ as, ReadsAll h vs ds as
  | _, _, .nil => ⟨_, .nil⟩
  | _, _, .cons r rs => let ⟨_, q⟩ := Sh.reads r; let ⟨_, q2⟩ := ShAll.reads rs; ⟨_, .cons q q2⟩
end
section
variable {prog : Program} {w : World} {h₀ : Heap}
mutual
theorem Sh.rk : ∀ {v : Value} {d : PyData}, Sh h₀ v d → d.showable = true → d.shown.length ≤ sizeLine → ∃ bs, ReadAtMost h₀ d.depth bs ∧ ReprK prog w bs h₀ d.depth v d.shown
  | _, _, .none, _, _ => ⟨[], fun _ z => (nomatch z), by rw [PyData.shown]; exact .of_is ReprIs.none _ _ _⟩
  | _, _, .bool b, _, _ => ⟨[], fun _ z => (nomatch z), by rw [PyData.shown]; exact .of_is (ReprIs.bool b) _ _ _⟩
  | _, _, .int i t, hs, _ => ⟨[], fun _ z => (nomatch z), by rw [PyData.shown]; exact .of_is (ReprIs.int t (by simpa [PyData.showable] using hs)) _ _ _⟩
  | _, _, .str x t, _, hz => ⟨[], fun _ z => (nomatch z), by rw [PyData.shown] at hz ⊢; exact .of_is (ReprIs.str x t hz) _ _ _⟩
  | _, _, .list (a := a) (vs := vs) (xs := xs) h1 h2 h3 h4, hs, hz => by
    rw [PyData.shown] at hz
    rw [PyData.showable] at hs
    obtain ⟨as, q4⟩ := ShAll.reads h4
    obtain ⟨bs, hb, hk⟩ := ShAll.rk h4 hs fun t ht => Nat.le_trans (listText_mem_le ht) hz
    have r : Reads h₀ (.ref a) (.list xs) (a :: as) := .list h1 h2 h3 q4
    have hna : a ∉ bs := not_mem_of_deeper r (by rw [PyData.depth]; omega) hb
    refine ⟨a :: bs, ReadAtMost.cons r (by rw [PyData.depth]; omega) hb, ?_⟩
    rw [PyData.depth, PyData.shown]
    obtain ⟨l⟩ := vs
    match l, h4, hk, h3 with
    | [], h4, _, h3 =>
      have h4' : ShAll h₀ [] xs := h4
      cases h4'
      rw [PyData.shownAll, listText_nil]
      exact ReprK.listEmpty h1 h2 h3
    | x :: l, _, hk, h3 => exact ReprK.list h1 h2 h3 hna (by simpa using hk.length_eq) fun i y e => hk.item i y (by simpa using e)
  | _, _, .tuple (a := a) (xs := xs) h1 h2 h3 h4, hs, hz => by
    rw [PyData.shown] at hz
    rw [PyData.showable] at hs
    obtain ⟨as, q4⟩ := ShAll.reads h4
    obtain ⟨bs, hb, hk⟩ := ShAll.rk h4 hs fun t ht => Nat.le_trans (tupleText_mem_le ht) hz
    have r : Reads h₀ (.ref a) (.tuple xs) as := .tuple h1 h2 h3 q4
    have hna : a ∉ bs := not_mem_of_deeper r (by rw [PyData.depth]; omega) hb
    refine ⟨a :: bs, ReadAtMost.cons r (by rw [PyData.depth]; omega) hb, ?_⟩
    rw [PyData.depth, PyData.shown]
    exact ReprK.tuple h1 h2 h3 hna hk
  | _, _, .dict (a := a) (es := es) (ks := ks) (vs := vs) h1 h2 h3 hsys hl h4 h5, hs, hz => by
    rw [PyData.shown] at hz
    rw [PyData.showable] at hs
    obtain ⟨as, q4⟩ := ShAll.reads h4
    obtain ⟨cs, q5⟩ := ShAll.reads h5
    have e1 := zip1 ks vs hl
    have e2 := zip2 ks vs hl
    obtain ⟨hs1, hs2⟩ := PyData.showableKv_split (ks.zip vs) hs
    rw [e1] at hs1
    rw [e2] at hs2
    obtain ⟨b1, hb1, k1⟩ := ShAll.rk h4 hs1 fun t ht => by
      obtain ⟨p, hp, hle⟩ := PyData.shownKv_key_le (ks.zip vs) t (by rw [e1]; exact ht)
      exact Nat.le_trans hle (Nat.le_trans (dictText_mem_le hp) hz)
    obtain ⟨b2, hb2, k2⟩ := ShAll.rk h5 hs2 fun t ht => by
      obtain ⟨p, hp, hle⟩ := PyData.shownKv_val_le (ks.zip vs) t (by rw [e2]; exact ht)
      exact Nat.le_trans hle (Nat.le_trans (dictText_mem_le hp) hz)
    have d1 := PyData.depthAll_keys_le (ks.zip vs)
    have d2 := PyData.depthAll_vals_le (ks.zip vs)
    rw [e1] at d1
    rw [e2] at d2
    have r : Reads h₀ (.ref a) (.dict (ks.zip vs)) (a :: as ++ cs) := .dict h1 h2 h3 (by rw [e1]; exact q4) (by rw [e2]; exact q5)
    have hb : ReadAtMost h₀ (PyData.depthKv (ks.zip vs)) (b1 ++ b2) := (hb1.mono d1).append (hb2.mono d2)
    have hna : a ∉ b1 ++ b2 := not_mem_of_deeper r (by rw [PyData.depth]; omega) hb
    refine ⟨a :: (b1 ++ b2), ReadAtMost.cons r (by rw [PyData.depth]; omega) hb, ?_⟩
    rw [PyData.depth, PyData.shown, PyData.shownKv_eq, e1, e2]
    exact ReprK.dict h1 h2 h3 hsys hna (ReprEntriesK.of_two es.toList _ _
      (k1.more_le (fun b hb => List.mem_append_left _ hb) d1) (k2.more_le (fun b hb => List.mem_append_right _ hb) d2))
theorem ShAll.rk : ∀ {vs : List Value} {ds : List PyData}, ShAll h₀ vs ds → PyData.showableAll ds = true → (∀ t ∈ PyData.shownAll ds, t.length ≤ sizeLine) →
    ∃ bs, ReadAtMost h₀ (PyData.depthAll ds) bs ∧ ReprAllK prog w bs h₀ (PyData.depthAll ds) vs (PyData.shownAll ds)
  | _, _, .nil, _, _ => ⟨[], fun _ z => (nomatch z), by rw [PyData.shownAll]; exact .nil⟩
  | _, _, .cons (d := d) (ds := ds) r rs, hs, hz => by
    rw [PyData.showableAll, Bool.and_eq_true] at hs
    rw [PyData.shownAll] at hz
    obtain ⟨b1, hb1, k1⟩ := Sh.rk r hs.1 (hz _ List.mem_cons_self)
    obtain ⟨b2, hb2, k2⟩ := ShAll.rk rs hs.2 fun t ht => hz t (List.mem_cons_of_mem _ ht)
    rw [PyData.depthAll, PyData.shownAll]
    exact ⟨b1 ++ b2, (hb1.mono (Nat.le_max_left _ _)).append (hb2.mono (Nat.le_max_right _ _)),
      .cons ((k1.more fun b hb => List.mem_append_left _ hb).level_le (Nat.le_max_left _ _)) (k2.more_le (fun b hb => List.mem_append_right _ hb) (Nat.le_max_right _ _))⟩
end
variable {A : Around} {E : Value → Shared → Prop} {s : Shared} {Q : Value → Shared → Prop}
theorem Sh.repr {v : Value} {d : PyData} (r : Sh s.heap v d) (hs : d.showable = true) (hz : d.shown.length ≤ sizeLine) (hg : A.guards = some []) (hu : A.units + (d.depth + 1) < cLine)
    (hQ : ∀ h' u tk, (∀ b o, s.heap.get? b = some o → h'.get? b = some o) → Q (.str d.shown u) { s with heap := h', toks := tk }) : wpAny (model prog w) A (call (.builtin "repr") [v]) Q E s := by
  have hid : ∀ b o, s.heap.get? b = some o → s.heap.get? b = some o := fun _ _ z => z
  cases r with
  | none =>
    rw [PyData.shown] at hQ
    exact PySem.P.repr_of_none (hQ s.heap _ _ hid)
  | bool b =>
    rw [PyData.shown] at hQ
    exact PySem.P.repr_of_bool (hQ s.heap _ _ hid)
  | int i t =>
    rw [PyData.shown] at hQ
    exact PySem.P.repr_of_int (by simpa [PyData.showable] using hs) (hQ s.heap _ _ hid)
  | str x t =>
    rw [PyData.shown] at hQ hz
    exact PySem.P.repr_of_str (hQ s.heap _ _ hid) hz
  | list h1 h2 h3 h4 =>
    rename_i a o vs n xs
    rw [PyData.shown] at hz hQ
    rw [PyData.showable] at hs
    rw [PyData.depth] at hu
    obtain ⟨as, q4⟩ := ShAll.reads h4
    obtain ⟨bs, hb, hk⟩ := ShAll.rk (prog := prog) (w := w) h4 hs fun t ht => Nat.le_trans (listText_mem_le ht) hz
    have hna : a ∉ bs := not_mem_of_deeper (.list h1 h2 h3 q4) (by rw [PyData.depth]; omega) hb
    refine call_repr_slot (by omega) ⟨o, h1, h2⟩ F.slot_list_repr.toG ?_
    obtain ⟨l⟩ := vs
    match l, h4, hk, h3 with
    | [], h4, _, h3 =>
      have h4' : ShAll s.heap [] xs := h4
      cases h4'
      rw [PyData.shownAll, listText_nil] at hQ
      exact call_list_repr_empty ⟨o, h1, h2⟩ h1 h3 ⟨_, _, rfl, hQ s.heap _ _ hid⟩
    | x :: l, _, hk, h3 =>
      exact call_list_reprK h1 h2 h3 hna (by simpa using hk.length_eq) (fun i y e => hk.item i y (by simpa using e)) hg (fun b _ => Clear.nil b) (by show A.units + 1 + _ < cLine; omega) hid (fun h' u tk hk => ⟨_, _, rfl, hQ h' u tk hk⟩) hz
  | tuple h1 h2 h3 h4 =>
    rename_i a o vs n xs
    rw [PyData.shown] at hz hQ
    rw [PyData.showable] at hs
    rw [PyData.depth] at hu
    obtain ⟨as, q4⟩ := ShAll.reads h4
    obtain ⟨bs, hb, hk⟩ := ShAll.rk (prog := prog) (w := w) h4 hs fun t ht => Nat.le_trans (tupleText_mem_le ht) hz
    have hna : a ∉ bs := not_mem_of_deeper (.tuple h1 h2 h3 q4) (by rw [PyData.depth]; omega) hb
    refine call_repr_slot (by omega) ⟨o, h1, h2⟩ F.slot_tuple_repr ?_
    exact call_tuple_reprK h1 h2 h3 hna hk hg (fun b _ => Clear.nil b) (by show A.units + 1 + _ < cLine; omega) hid (fun h' u tk hk => ⟨_, _, rfl, hQ h' u tk hk⟩) hz
  | dict h1 h2 h3 hsys hl h4 h5 =>
    rename_i a o es n ks vs
    rw [PyData.shown] at hz hQ
    rw [PyData.showable] at hs
    rw [PyData.depth] at hu
    obtain ⟨as, q4⟩ := ShAll.reads h4
    obtain ⟨cs, q5⟩ := ShAll.reads h5
    have e1 := zip1 ks vs hl
    have e2 := zip2 ks vs hl
    obtain ⟨hs1, hs2⟩ := PyData.showableKv_split (ks.zip vs) hs
    rw [e1] at hs1
    rw [e2] at hs2
    obtain ⟨b1, hb1, k1⟩ := ShAll.rk (prog := prog) (w := w) h4 hs1 fun t ht => by
      obtain ⟨p, hp, hle⟩ := PyData.shownKv_key_le (ks.zip vs) t (by rw [e1]; exact ht)
      exact Nat.le_trans hle (Nat.le_trans (dictText_mem_le hp) hz)
    obtain ⟨b2, hb2, k2⟩ := ShAll.rk (prog := prog) (w := w) h5 hs2 fun t ht => by
      obtain ⟨p, hp, hle⟩ := PyData.shownKv_val_le (ks.zip vs) t (by rw [e2]; exact ht)
      exact Nat.le_trans hle (Nat.le_trans (dictText_mem_le hp) hz)
    have d1 := PyData.depthAll_keys_le (ks.zip vs)
    have d2 := PyData.depthAll_vals_le (ks.zip vs)
    rw [e1] at d1
    rw [e2] at d2
    have hb : ReadAtMost s.heap (PyData.depthKv (ks.zip vs)) (b1 ++ b2) := (hb1.mono d1).append (hb2.mono d2)
    have hna : a ∉ b1 ++ b2 := not_mem_of_deeper (.dict h1 h2 h3 (by rw [e1]; exact q4) (by rw [e2]; exact q5)) (by rw [PyData.depth]; omega) hb
    rw [PyData.shownKv_eq, e1, e2] at hQ hz
    refine call_repr_slot (by omega) ⟨o, h1, h2⟩ F.slot_dict_repr ?_
    exact call_dict_reprK h1 h2 h3 hsys hna (ReprEntriesK.of_two es.toList _ _ (k1.more_le (fun b hb => List.mem_append_left _ hb) d1) (k2.more_le (fun b hb => List.mem_append_right _ hb) d2)) hg (fun b _ => Clear.nil b)
      (by show A.units + 1 + _ < cLine; omega) hid (fun h' u tk hk => ⟨_, _, rfl, hQ h' u tk hk⟩) hz
end
end WT

set_option Elab.async false
set_option linter.all false
set_option maxRecDepth 100000
set_option maxHeartbeats 4000000
namespace WT
open PySem PySem.Spec PyProof.Rows L2
def kD : Key → PyData
  | .inl i => .int i
  | .inr x => .str x
mutual
/-- data over the abstract heap, dicts among it -/
inductive Dt (K : PySem.W.Frag) (H : Hp) : V → PyData → Prop
  | non : Dt K H .non .none
  | bl (b : Bool) : Dt K H (.bl b) (.bool b)
  | int (i : Int) : Dt K H (.int i) (.int i)
  | str (x : Str) : Dt K H (.str x) (.str x)
  | lst {a : Addr} {xs : List V} {ds : List PyData} : SqL K H a xs → DtAll K H xs ds → Dt K H (.ref a) (.list ds)
  | tup {a : Addr} {xs : List V} {ds : List PyData} : SqT K H a xs → DtAll K H xs ds → Dt K H (.ref a) (.tuple ds)
  | dic {a : Addr} {kvs : List (Key × V)} {ds : List PyData} : Rd H a (.dK kvs) → DtAll K H (kvs.map (·.2)) ds → Dt K H (.ref a) (.dict ((kvs.map fun p => kD p.1).zip ds))
inductive DtAll (K : PySem.W.Frag) (H : Hp) : List V → List PyData → Prop
  | nil : DtAll K H [] []
  | cons {v : V} {vs : List V} {d : PyData} {ds : List PyData} : Dt K H v d → DtAll K H vs ds → DtAll K H (v :: vs) (d :: ds)
end
theorem DtAll.length {K : PySem.W.Frag} {H : Hp} : ∀ {vs : List V} {ds : List PyData}, DtAll K H vs ds → vs.length = ds.length
  | _, _, .nil => rfl
  | _, _, .cons _ t => congrArg Nat.succ (DtAll.length t)
theorem sameT {K : PySem.W.Frag} {H H' : Hp} {a : Addr} {xs : List V} (e : Same H H') (h : SqT K H a xs) : SqT K H' a xs := by
  rcases h with (h | ⟨o, h⟩) | h
  · exact .inl (.inl (e _ _ h))
  · exact .inl (.inr ⟨o, e _ _ h⟩)
  · exact .inr h
theorem sameR {H H' : Hp} {a : Addr} {u : HO} (e : Same H H') (h : Rd H a u) : Rd H' a u := by
  rcases h with h | ⟨o, h⟩
  · exact .inl (e _ _ h)
  · exact .inr ⟨o, e _ _ h⟩
mutual
theorem Dt.same {K : PySem.W.Frag} {H H' : Hp} (s : Same H H') : ∀ {v : V} {d : PyData}, Dt K H v d → Dt K H' v d
  | _, _, .non => .non
  | _, _, .bl b => .bl b
  | _, _, .int i => .int i
  | _, _, .str x => .str x
  | _, _, .lst h t => .lst (s.seq h) (DtAll.same s t)
  | _, _, .tup h t => .tup (sameT s h) (DtAll.same s t)
  | _, _, .dic h t => .dic (sameR s h) (DtAll.same s t)
theorem DtAll.same {K : PySem.W.Frag} {H H' : Hp} (s : Same H H') : ∀ {vs : List V} {ds : List PyData}, DtAll K H vs ds → DtAll K H' vs ds
  | _, _, .nil => .nil
  | _, _, .cons h t => .cons (Dt.same s h) (DtAll.same s t)
end
section
variable {X : Cx} {pins : List (Addr × Obj)} {σ : L2.St} {H : Hp} {s : Shared}
theorem pairs_sh {P : Program} {w : World} {h : Heap} : ∀ {es : List DictEntry} {kvs : List (Key × V)} {us : List (Key × Value)}, KV kvs us → Pairs (mixKind P w) es us → ShAll h (es.map (·.key)) (kvs.map fun p => kD p.1)
  | _, _, _, .nil, .nil => .nil
  | _, _, _, .cons r rs, .cons h1 _ hs => by
    refine .cons ?_ (pairs_sh rs hs)
    rcases keyIs_shape h1 with ⟨i, t, e1, e2⟩ | ⟨x, t, e1, e2⟩
    · dsimp only
      rw [e2, r.1, e1]
      exact .int i t
    · dsimp only
      rw [e2, r.1, e1]
      exact .str x t
theorem pairs_vals {P : Program} {w : World} : ∀ {es : List DictEntry} {kvs : List (Key × V)} {us : List (Key × Value)}, KV kvs us → Pairs (mixKind P w) es us → Vals (kvs.map (·.2)) (es.map (·.val))
  | _, _, _, .nil, .nil => .nil
  | _, _, _, .cons r rs, .cons _ h2 hs => .cons (by dsimp only; rw [h2]; exact r.2) (pairs_vals rs hs)
mutual
theorem Dt.sh (I : Inv X pins σ H s) : ∀ {v : V} {d : PyData} {u : Value}, Dt X.K H v d → RelV v u → Sh s.heap u d
  | _, _, _, .non, r => by
    cases r
    exact .none
  | _, _, _, .bl b, r => by
    cases r
    exact .bool b
  | _, _, _, .int i, r => by
    obtain ⟨t, rfl⟩ := r
    exact .int i t
  | _, _, _, .str x, r => by
    obtain ⟨t, rfl⟩ := r
    exact .str x t
  | _, _, _, .lst h t, r => by
    cases r
    obtain ⟨its, rv, ⟨o, n, ho, hc, _, hd⟩, _⟩ := I.list h
    exact .list ho hc hd (DtAll.sh I t rv)
  | _, _, _, .tup h t, r => by
    cases r
    obtain ⟨its, rv, ⟨o, ho, hc, n, hd⟩, _⟩ := I.tuple h
    exact .tuple ho hc hd (DtAll.sh I t rv)
  | _, _, _, .dic (kvs := kvs) (ds := ds) h t, r => by
    cases r
    obtain ⟨_, hsys, us, rel, o, es, ep, ho, hx, hd, _, hp, _⟩ := dk_rd I.hok h
    refine .dict ho hx.1 hd hsys ?_ (pairs_sh rel hp) (DtAll.sh I t (pairs_vals rel hp))
    rw [List.length_map, ← DtAll.length t, List.length_map]
theorem DtAll.sh (I : Inv X pins σ H s) : ∀ {vs : List V} {ds : List PyData} {us : List Value}, DtAll X.K H vs ds → Vals vs us → ShAll s.heap us ds
  | _, _, _, .nil, r => by
    cases r
    exact .nil
  | _, _, _, .cons h t, .cons r rs => .cons (Dt.sh I h r) (DtAll.sh I t rs)
end
/-- repr(x) -/
def rRepr (K : PySem.W.Frag) : List V → Hp → VK → Prop := fun xs H Q => ∃ (x : V) (d : PyData), xs = [x] ∧ Dt K H x d ∧ d.showable = true ∧ d.depth ≤ 60 ∧ d.shown.length ≤ sizeLine ∧ Q (.str d.shown) H
theorem call_repr (hgd : X.A.guards = some []) (hu : X.A.units + 64 < cLine) : CallR X (.builtin "repr") (rRepr X.K) := by
  intro pins s σ H xs us Q I r h
  obtain ⟨x, d, rfl, hd, hs, hde, hz, q⟩ := h
  obtain ⟨u, rfl, ru⟩ := vals1 r
  refine Sh.repr (hd.sh I ru) hs hz hgd (by omega) fun h' t tk kp => ?_
  exact ⟨.str d.shown, H, I.kept (t' := tk) kp, ⟨t, rfl⟩, q⟩
end
end WT

set_option Elab.async false
set_option linter.all false
set_option maxRecDepth 100000
set_option maxHeartbeats 4000000
namespace WT
open PySem PySem.Spec PyProof.Rows L2
section
variable {X : Cx}
/-- a power of any size that fits -/
def CPowW (i j : Int) : Prop := 0 ≤ j ∧ (Builtin.Int.intBits i : Int) * j ≤ 2 ^ 27
theorem op_powW : OpR X (binaryOp .Pow) (rI CPowW fun i j => .int (i ^ j.toNat)) := opI fun _ _ _ _ _ _ _ hc q => pow_int hc.1 hc.2 q
theorem big_pow : CPowW ((10 : Int) ^ (60 : Int).toNat) 5 := ⟨by decide, by decide +kernel⟩
end
end WT

set_option Elab.async false
set_option linter.all false
namespace WT
open PySem
/-- data that repr can show, of at most that depth and length -/
structure Fit (n L : Nat) (d : PyData) : Prop where
  sh : d.showable = true
  de : d.depth ≤ n
  ln : d.shown.length ≤ L
theorem Fit.mono {n L n' L' : Nat} {d : PyData} (f : Fit n L d) (h1 : n ≤ n') (h2 : L ≤ L') : Fit n' L' d := ⟨f.sh, Nat.le_trans f.de h1, Nat.le_trans f.ln h2⟩
theorem fits_all {n L : Nat} : ∀ {ds : List PyData}, (∀ d ∈ ds, Fit n L d) → PyData.showableAll ds = true ∧ PyData.depthAll ds ≤ n ∧ ((PyData.shownAll ds).map (·.length)).sum + 2 * (PyData.shownAll ds).length ≤ ds.length * (L + 2)
  | [], _ => by
    refine ⟨rfl, ?_, ?_⟩
    · rw [PyData.depthAll]
      exact Nat.zero_le _
    · rw [PyData.shownAll]
      simp
  | d :: ds, h => by
    obtain ⟨a, b, c⟩ := fits_all fun x hx => h x (List.mem_cons_of_mem _ hx)
    have f := h d List.mem_cons_self
    refine ⟨?_, ?_, ?_⟩
    · rw [PyData.showableAll, f.sh, a]
      rfl
    · rw [PyData.depthAll]
      exact Nat.max_le.mpr ⟨f.de, b⟩
    · rw [PyData.shownAll]
      have q := f.ln
      simp only [List.map_cons, List.sum_cons, List.length_cons] at c ⊢
      rw [Nat.add_mul]
      omega
theorem fit_list {n L : Nat} {ds : List PyData} (h : ∀ d ∈ ds, Fit n L d) : Fit (n + 1) (ds.length * (L + 2) + 3) (.list ds) := by
  obtain ⟨a, b, c⟩ := fits_all h
  refine ⟨?_, ?_, ?_⟩
  · rw [PyData.showable]
    exact a
  · rw [PyData.depth]
    omega
  · rw [PyData.shown]
    have := listText_len_le (PyData.shownAll ds)
    omega
theorem fit_tuple {n L : Nat} {ds : List PyData} (h : ∀ d ∈ ds, Fit n L d) : Fit (n + 1) (ds.length * (L + 2) + 3) (.tuple ds) := by
  obtain ⟨a, b, c⟩ := fits_all h
  refine ⟨?_, ?_, ?_⟩
  · rw [PyData.showable]
    exact a
  · rw [PyData.depth]
    omega
  · rw [PyData.shown]
    have := tupleText_len_le (PyData.shownAll ds)
    omega
end WT

set_option Elab.async false
set_option linter.all false
set_option maxRecDepth 100000
set_option maxHeartbeats 4000000
/-! The law's own call, from a promise that holds where no repr is under way. -/
namespace WT
open PySem PySem.Spec PyProof.Rows L2
section
variable {P : Program} {w : World} {K : PySem.W.Frag} {mg mb : Str → Option Value} {k : Nat} {fa a : Addr} {fd : FuncData} {x : Str} {sp : Sp} {s1 : Shared} {us : List Value} {ns : List Int}
/-- from an abstract heap that tracks the script alone, or nothing -/
theorem lawG_core {H : Hp} (kin : K.In s1.heap) (hg : s1.heap.Ns mainGlobals mg) (hb : s1.heap.Ns builtinsNs mb) (hbb : ∀ y : Str, y ≠ "__name__" → mb y = bootBuiltins y) (hlim : s1.heap.NoLimit) (hgn : s1.gens = #[])
    (ha : s1.heap.get? a = some { cls := .type "list", data := .seq us.toArray }) (hr : Room k callerA) (F : ∀ base : Heap, K.In base → base.Ns mainGlobals mg → FnG P w K mg base CX0 k fa fd [x] sp)
    (hbind : ∀ (s : Shared) (u : Value), BindsTo s fd ⟨[u], []⟩ [(x, u)]) (hO : Only H) (hok : HOk P w H s1.heap) (hA : ∀ b, H b ≠ none → b = a) (hK : H a ≠ none → K.lookup a = none)
    (hsp : sp [.ref a] H (fun v _ => v = .bl true) fun _ _ _ => False) :
    codeAny (model P w) callerA (.call (.ref fa) ⟨[.ref a], []⟩) (fun r s' => r = .ok (.ret (.bool true)) ∧ OldK s1.heap s'.heap ∧ s'.os = s1.os ∧ AllBare s'.gens) s1 := by
  have nodict : ∀ {b : Addr} {o : Obj} {es : Array DictEntry} {ep : Nat}, s1.heap.get? b = some o → o.data = .dict es ep → H b = none := by
    intro b o es ep e d
    cases q : H b with
    | none => rfl
    | some u =>
      obtain rfl := hA b (by rw [q]; exact fun z => nomatch z)
      rw [ha] at e
      cases e
      cases d
  have ns : ∀ {b : Addr} {m : Str → Option Value}, s1.heap.Ns b m → (hidT s1.heap H).Ns b m := by
    intro b m hn
    obtain ⟨o, es, ep, e, d, r⟩ := hn
    exact ⟨o, es, ep, hidT_get e (nodict e d), d, r⟩
  have kin' : K.In (hidT s1.heap H) := by
    intro b o e
    refine hidT_get (kin b o e) ?_
    cases q : H b with
    | none => rfl
    | some u =>
      have eb := hA b (by rw [q]; exact fun z => nomatch z)
      rw [eb] at e q
      rw [hK (by rw [q]; exact fun z => nomatch z)] at e
      cases e
  obtain ⟨mc, l1, l2⟩ := hlim
  have md : Mod K mg (hidT s1.heap H) := ⟨kin', ns hg, ⟨mb, ns hb, hbb⟩, ⟨mc, ns l1, l2⟩⟩
  have e0 : Env0 P w K mg (hidT s1.heap H) callerA [] s1 H :=
    { frames := rfl, mod := md, bs := fun b o e => of_hidT e, bsz := Nat.le_of_eq (hidT_size _ _), funs := trivial, frf := fun b z => absurd (show b ∈ ([] : List Addr) from z) (by simp), hok := hok, bare := .of_eq hgn }
  refine codeAny_mono ((F _ kin' (ns hg)).run callerA [] s1 H ⟨[.ref a], []⟩ [.ref a] [.ref a] _ _ rfl hr e0 (hbind s1 (.ref a)) (.cons rfl .nil) hsp) fun r s' h => ?_
  match r, h with
  | .error e, h => exact h.elim
  | .ok .next, h => exact h.elim
  | .ok .brk, h => exact h.elim
  | .ok .cont, h => exact h.elim
  | .ok (.ret u), h =>
    obtain ⟨v, H', os, bare, un, hok', rv, q⟩ := h
    have q' : v = .bl true := q
    subst q'
    obtain rfl : u = Value.bool true := rv
    refine ⟨rfl, OldK.of_keep fun b o e => ?_, os, bare⟩
    rcases hO b with z | ⟨ob, xs, z⟩
    · exact un.keep b o e z (fun y => absurd (show b ∈ ([] : List Addr) from y) (by simp)) (by simp)
    · have e1 := (hok b _ z).1
      have e2 := (hok' b _ (un.frzs b ob _ z)).1
      rw [e] at e1
      cases e1
      exact e2
theorem lawG_call (kin : K.In s1.heap) (hg : s1.heap.Ns mainGlobals mg) (hb : s1.heap.Ns builtinsNs mb) (hbb : ∀ y : Str, y ≠ "__name__" → mb y = bootBuiltins y) (hlim : s1.heap.NoLimit) (hgn : s1.gens = #[])
    (ha : s1.heap.get? a = some { cls := .type "list", data := .seq us.toArray }) (hi : IntsAre us ns) (hl : ns.length ≤ sizeLine) (hr : Room k callerA)
    (F : ∀ base : Heap, K.In base → base.Ns mainGlobals mg → FnG P w K mg base CX0 k fa fd [x] sp) (hbind : ∀ (s : Shared) (u : Value), BindsTo s fd ⟨[u], []⟩ [(x, u)])
    (hsp : ∀ H : Hp, Only H → SqL K H a (ns.map V.int) → sp [.ref a] H (fun v _ => v = .bl true) fun _ _ _ => False) :
    codeAny (model P w) callerA (.call (.ref fa) ⟨[.ref a], []⟩) (fun r s' => r = .ok (.ret (.bool true)) ∧ OldK s1.heap s'.heap ∧ s'.os = s1.os ∧ AllBare s'.gens) s1 := by
  have rv := vals_ints hi
  cases hk : K.lookup a with
  | some o =>
    have e := kin a o hk
    rw [ha] at e
    cases e
    have no : ∀ b : Addr, (fun _ : Addr => (none : Option HO)) b = none := fun _ => rfl
    refine lawG_core (H := fun _ => none) kin hg hb hbb hlim hgn ha hr F hbind (fun b => .inl rfl) (fun b u z => nomatch z) (fun b z => absurd (no b) z) (fun z => absurd (no a) z) (hsp _ (fun b => .inl rfl) ?_)
    exact .inr ⟨_, us.toArray, _, hk, rfl, rfl, rfl, by rw [List.size_toArray, hi.length]; exact hl, by simpa using rv⟩
  | none =>
    obtain ⟨H, hH⟩ : ∃ H : Hp, ∀ b, H b = if b = a then some (.frz { cls := .type "list", data := .seq us.toArray } (.lst (ns.map V.int))) else none := ⟨_, fun _ => rfl⟩
    have at_ : H a = some (.frz { cls := .type "list", data := .seq us.toArray } (.lst (ns.map V.int))) := by rw [hH a, if_pos rfl]
    have off : ∀ b, b ≠ a → H b = none := fun b z => by rw [hH b, if_neg z]
    have only : Only H := fun b => by
      by_cases z : b = a
      · rw [z]
        exact .inr ⟨_, _, at_⟩
      · exact .inl (off b z)
    refine lawG_core (H := H) kin hg hb hbb hlim hgn ha hr F hbind only (fun b u z => ?_) (fun b z => ?_) (fun _ => hk) (hsp H only (.inl (.inr ⟨_, at_⟩)))
    · by_cases e : b = a
      · subst e
        rw [at_] at z
        cases z
        exact ⟨ha, by rw [List.length_map]; exact hl, us, _, rv, ha⟩
      · rw [off b e] at z
        cases z
    · by_cases e : b = a
      · exact e
      · exact absurd (off b e) z
end
/-- the goal that the head leaves, from the law's promise -/
theorem walkG {l : PySem.W.OpenLaw} {n k : Nat} {q : Program} {loose : List Str} {XP : (Str → Option Value) → Heap → Prop} {YP : World → Heap → Prop} {d : DefRec} {K : Params → PySem.W.Frag} {sp : World → Sp} {x : Str}
    (hn : l.most = some n) (hn2 : n ≤ sizeLine) (hdf : d.params.defaults = []) (hr : Room k callerA) (hY : ∀ (w : World) (h : Heap), YP w h → (K w.params).In h)
    (F : ∀ (w : World) (mg : Str → Option Value) (fa : Addr) (h : Heap), (K w.params).In h → h.Ns mainGlobals mg → mg d.name = some (.ref fa) →
      ∃ fd : FuncData, (∀ (s : Shared) (u : Value), BindsTo s fd ⟨[u], []⟩ [(x, u)]) ∧ ∀ base : Heap, (K w.params).In base → base.Ns mainGlobals mg → FnG l.prog w (K w.params) mg base CX0 k fa fd [x] (sp w))
    (hsp : ∀ (w : World) (H : Hp) (a : Addr) (ns : List Int), ns.length ≤ n → Only H → SqL (K w.params) H a (ns.map V.int) → sp w [.ref a] H (fun v _ => v = .bl true) fun _ _ _ => False) :
    PySem.W.WalkO q loose XP YP l.row.toRowW d [] (fun f vs => PySem.call f vs) := by
  refine Att.attach_call hn hdf fun w s0 s1 mg mb fa o pm cd doc a vs ns G Y ho hd hcd hmg hobj hints hlen hgn => ?_
  have kin := hY w _ Y
  obtain ⟨fd, hb, hF⟩ := F w mg fa _ kin G.T.g hmg
  exact lawG_call kin G.T.g G.T.b G.T.builtins G.T.nolimit hgn hobj hints (Nat.le_trans hlen hn2) hr hF hb fun H hO hS => hsp w H a ns hlen hO hS
end WT

set_option Elab.async false
set_option linter.all false
set_option maxRecDepth 100000
set_option maxHeartbeats 4000000
namespace K34
open PySem PySem.Spec PyProof.Rows L2 WT
def top (i : Nat) : Stmt := PySem.Challenge.pw_wraptrails_k34_each_error_alone.main.body.getD i (.Pass ⟨0, 0, 0, 0⟩)
abbrev st_pot : Stmt := top 18
abbrev st_take : Stmt := top 19
abbrev st_of : Stmt := top 20
/-- the built-ins are still the built-ins -/
structure Blt (mg : Str → Option Value) : Prop where
  len : mg "len" = none
  abs : mg "abs" = none
  int : mg "int" = none
  range : mg "range" = none
  enumerate : mg "enumerate" = none
  isinstance : mg "isinstance" = none
  repr : mg "repr" = none
  all : mg "all" = none
  max : mg "max" = none
  min : mg "min" = none
  ve : mg "ValueError" = none
/-- a def that is called: where it stands, how its arguments bind, its promise -/
structure Df (P : Program) (w : World) (K : PySem.W.Frag) (mg : Str → Option Value) (base : Heap) (x : Str) (k : Nat) (f : Addr) (fd : FuncData) (ps : List Str) (sp : Sp) : Prop where
  g : mg x = some (.ref f)
  kp : PySem.W.keepIn K (.ref f) = true
  bd : Binds K fd ps []
  G : FnG P w K mg base CX0 k f fd ps sp
/-- all that was tracked but a is as it was -/
def But (a : Addr) (H H' : Hp) : Prop := ∀ b x, b ≠ a → H b = some x → H' b = some x
theorem But.refl (a : Addr) (H : Hp) : But a H H := fun _ _ _ h => h
theorem But.trans {a : Addr} {H H1 H2 : Hp} (x : But a H H1) (y : But a H1 H2) : But a H H2 := fun b o n h => y b o n (x b o n h)
theorem But.of {a : Addr} {H H1 : Hp} (x : Same H H1) : But a H H1 := fun b o _ h => x b o h
theorem But.upd {a : Addr} {H : Hp} {o : HO} : But a H (upd H a o) := fun b x n h => by
  rw [upd_ne n]
  exact h
/-! ### the numbers -/
/-- the pot's three numbers; at most b of them mixed so far -/
def Pot (b : Nat) (p0 p1 p2 : Int) : Prop := 0 ≤ p0 ∧ 0 ≤ p1 ∧ p1 < 2305843009213693952 ∧ 0 ≤ p2 ∧ p2 ≤ b
theorem Pot.more {b c : Nat} {p0 p1 p2 : Int} (h : Pot b p0 p1 p2) (hc : b ≤ c) : Pot c p0 p1 p2 := by
  unfold Pot at h ⊢
  omega
def spTake : Sp := fun vs H Q _ => ∃ (a : Addr) (b : Nat) (p0 p1 p2 n : Int), vs = [.ref a, .int n] ∧ H a = some (.lst [.int p0, .int p1, .int p2]) ∧ Pot b p0 p1 p2 ∧ b ≤ 100000 ∧ 0 < n ∧ n < 1073741824 ∧
  ∀ H' q0 q2 r, But a H H' → H' a = some (.lst [.int q0, .int p1, .int q2]) → Pot (b + 1) q0 p1 q2 → 0 ≤ r → r < n → Q (.int r) H'
theorem sc_take : FnScope ["_law_pot_here", "_law_below", "_law_digit", "_law_prime", "_law_mixed"] ["_law_pot_here", "_law_below"] (defScope st_take) := ⟨rfl, rfl, rfl, by decide +kernel, rfl, by decide +kernel, by decide +kernel⟩
theorem sq_le {x : Int} (h0 : 0 ≤ x) (h1 : x ≤ 100001) : 0 ≤ 65537 * x * x ∧ 65537 * x * x ≤ 700000000000000 := by
  have h2 : 0 ≤ x * x := Int.mul_nonneg h0 h0
  have h3 : x * x ≤ 100001 * 100001 := Int.mul_le_mul h1 h1 h0 (by decide)
  have e : 65537 * x * x = 65537 * (x * x) := Int.mul_assoc _ _ _
  rw [e]
  omega
section
variable {P : Program} {w : World} {K : PySem.W.Frag} {mg : Str → Option Value} {base : Heap} {f : Addr} {fd : FuncData}
theorem ok_take (F : Fun K "_law_take" "_law_take" st_take f fd) : FnG P w K mg base CX0 1 f fd ["_law_pot_here", "_law_below"] spTake := by
  refine okG F sc_take (fun vs H Q E h => ?_) (fun cdv A outer s H vs Q E hgd hr h => ?_)
  · obtain ⟨_, _, _, _, _, _, rfl, _⟩ := h
    rfl
  · obtain ⟨a, b, p0, p1, p2, n, rfl, ha, hp, hb, hn, hn2, q⟩ := h
    refine ⟨_, (pss_cons (ps_if (pt_cmpR op_gt (pe_ix ix_list (pv 0) pe_int (fun _ _ => rfl)) pe_int (nomark _))
       (pss_cons (ps_set (i := 2) sc_take.nd rfl (.inl rfl) (pe_op op_mod (pe_ix ix_list (pv 0) pe_int (fun _ _ => rfl)) (pv 1)))
       (pss_cons (ps_asg (pe_op op_fdiv (pe_ix ix_list (pv 0) pe_int (fun _ _ => rfl)) (pv 1)) (pg_sub (pv 0) pe_int set_list))
       (pss_one (ps_ret (pv 2)))))
       pss_nil)
      (pss_cons (ps_asg (pe_op op_add (pe_ix ix_list (pv 0) pe_int (fun _ _ => rfl)) pe_int) (pg_sub (pv 0) pe_int set_list))
      (pss_cons (ps_set (i := 3) sc_take.nd rfl (.inl rfl) (pe_ix ix_list (pe_lst (pa_cons pe_int (pa_cons pe_int (pa_cons pe_int (pa_cons pe_int (pa_cons pe_int pa_nil)))))) (pe_op op_mod (pe_ix ix_list (pv 0) pe_int (fun _ _ => rfl)) pe_int) (fun _ _ => rfl)))
      (pss_cons (ps_set (i := 4) sc_take.nd rfl (.inl rfl) (pe_op op_mod (pe_op op_pow (pe_op op_add (pe_op op_add (pe_ix ix_list (pv 0) pe_int (fun _ _ => rfl)) (pe_op op_mul (pe_op op_mul pe_int (pe_ix ix_list (pv 0) pe_int (fun _ _ => rfl))) (pe_ix ix_list (pv 0) pe_int (fun _ _ => rfl)))) pe_int) pe_int) (pv 3)))
      (pss_one (ps_ret (pe_op op_mod (pe_op op_fdiv (pe_op op_mod (pe_op op_mul (pv 4) (pe_op op_add (pe_op op_mod (pv 4) pe_int) (pe_op op_mul pe_int (pe_ix ix_list (pv 0) pe_int (fun _ _ => rfl))))) pe_int) pe_int) (pv 1)))))))), ?_⟩
    have hs : SqL K H a [.int p0, .int p1, .int p2] := SqL.of ha
    refine ⟨_, rfl, a, _, 0, .int p0, rfl, rfl, hs, atI_nat (j := 0) rfl, p0, 0, rfl, rfl, _, rfl, ite2 (fun e => ?_) fun e => ?_⟩
    · have e0 : 0 < p0 := of_decide_eq_true e
      refine ⟨_, rfl, a, _, 0, .int p0, rfl, rfl, hs, atI_nat (j := 0) rfl, _, rfl, p0, n, rfl, rfl, hn, ?_⟩
      refine ⟨_, rfl, a, _, 0, .int p0, rfl, rfl, hs, atI_nat (j := 0) rfl, _, rfl, p0, n, rfl, rfl, ⟨hn, hn2⟩, _, rfl, a, _, 0, 0, rfl, rfl, ha, rfl, ?_⟩
      refine ⟨_, rfl, ?_⟩
      refine q _ (p0 / n) p2 (p0 % n) But.upd upd_same ?_ (Int.emod_nonneg _ (by omega)) (Int.emod_lt_of_pos _ hn)
      unfold Pot at hp ⊢
      have := Int.ediv_nonneg hp.1 (Int.le_of_lt hn)
      omega
    · have e0 : ¬ 0 < p0 := fun z => e (decide_eq_true z)
      obtain ⟨h0, h1, h2, h3, h4⟩ := hp
      have h5 : p0 = 0 := by omega
      have sq := sq_le (x := p2 + 1) (by omega) (by omega)
      refine ⟨_, rfl, a, _, 2, .int p2, rfl, rfl, hs, atI_nat (j := 2) rfl, p2, 1, rfl, rfl, _, rfl, a, _, 2, 2, rfl, rfl, ha, rfl, ?_⟩
      have ha1 : (upd H a (.lst [.int p0, .int p1, .int (p2 + 1)])) a = some (.lst [.int p0, .int p1, .int (p2 + 1)]) := upd_same
      refine ⟨(by show 5 ≤ sizeLine; decide), fun l nl => ?_⟩
      have nla : a ≠ l := ne_of_none ha1 nl
      have ha2 : (upd (upd H a (.lst [.int p0, .int p1, .int (p2 + 1)])) l (.lst [.int 2147483647, .int 2147483629, .int 2147483587, .int 2147483579, .int 2147483563])) a = some (.lst [.int p0, .int p1, .int (p2 + 1)]) := by
        rw [upd_ne nla]
        exact ha1
      have hs2 : SqL K (upd (upd H a (.lst [.int p0, .int p1, .int (p2 + 1)])) l (.lst [.int 2147483647, .int 2147483629, .int 2147483587, .int 2147483579, .int 2147483563])) a [.int p0, .int p1, .int (p2 + 1)] := SqL.of ha2
      obtain ⟨pr, hpr, hpr0, hpr1⟩ : ∃ pr : Int, atI [V.int 2147483647, .int 2147483629, .int 2147483587, .int 2147483579, .int 2147483563] ((p2 + 1) % 5) = some (.int pr) ∧ 0 < pr ∧ pr < 2147483648 := by
        have m0 := Int.emod_nonneg (p2 + 1) (b := 5) (by decide)
        have m1 := Int.emod_lt_of_pos (p2 + 1) (b := 5) (by decide)
        generalize (p2 + 1) % 5 = m at m0 m1
        have : m = 0 ∨ m = 1 ∨ m = 2 ∨ m = 3 ∨ m = 4 := by omega
        rcases this with rfl | rfl | rfl | rfl | rfl
        · exact ⟨2147483647, rfl, by decide, by decide⟩
        · exact ⟨2147483629, rfl, by decide, by decide⟩
        · exact ⟨2147483587, rfl, by decide, by decide⟩
        · exact ⟨2147483579, rfl, by decide, by decide⟩
        · exact ⟨2147483563, rfl, by decide, by decide⟩
      refine ⟨_, rfl, a, _, 2, .int (p2 + 1), rfl, rfl, hs2, atI_nat (j := 2) rfl, p2 + 1, 5, rfl, rfl, (show (0 : Int) < 5 by decide), l, _, (p2 + 1) % 5, .int pr, rfl, rfl, SqL.of upd_same, hpr, ?_⟩
      refine ⟨_, rfl, a, _, 1, .int p1, rfl, rfl, hs2, atI_nat (j := 1) rfl, _, rfl, a, _, 2, .int (p2 + 1), rfl, rfl, hs2, atI_nat (j := 2) rfl, 65537, p2 + 1, rfl, rfl, .inl ⟨by decide, by decide⟩,
        _, rfl, a, _, 2, .int (p2 + 1), rfl, rfl, hs2, atI_nat (j := 2) rfl, 65537 * (p2 + 1), p2 + 1, rfl, rfl, .inr ⟨by omega, by omega⟩, p1, 65537 * (p2 + 1) * (p2 + 1), rfl, rfl, p1 + 65537 * (p2 + 1) * (p2 + 1), 29, rfl, rfl,
        p1 + 65537 * (p2 + 1) * (p2 + 1) + 29, 3, rfl, rfl, ⟨by decide, by decide, by omega⟩, _, rfl, _, pr, rfl, rfl, hpr0, ?_⟩
      obtain ⟨mx, hmx⟩ : ∃ mx : Int, (p1 + 65537 * (p2 + 1) * (p2 + 1) + 29) ^ (3 : Int).toNat % pr = mx := ⟨_, rfl⟩
      dsimp only
      rw [hmx]
      have x0 : 0 ≤ mx := by
        rw [← hmx]
        exact Int.emod_nonneg _ (by omega)
      have x1 : mx < pr := by
        rw [← hmx]
        exact Int.emod_lt_of_pos _ hpr0
      refine ⟨_, rfl, _, rfl, mx, 10007, rfl, rfl, (show (0 : Int) < 10007 by decide), _, rfl, a, _, 2, .int (p2 + 1), rfl, rfl, hs2, atI_nat (j := 2) rfl, 97, p2 + 1, rfl, rfl, .inl ⟨by decide, by decide⟩, mx % 10007, 97 * (p2 + 1), rfl, rfl,
        mx, mx % 10007 + 97 * (p2 + 1), rfl, rfl, .inl ⟨by omega, by omega⟩, _, 2305843009213693907, rfl, rfl, (show (0 : Int) < 2305843009213693907 by decide), _, 97, rfl, rfl, ⟨by decide, by decide⟩, _, rfl, _, n, rfl, rfl, hn, ?_⟩
      refine q _ p0 (p2 + 1) _ (But.upd.trans (.of (same_new nl))) ha2 ?_ (Int.emod_nonneg _ (by omega)) (Int.emod_lt_of_pos _ hn)
      unfold Pot
      omega
def spPot (K : PySem.W.Frag) : Sp := fun vs H Q _ => ∃ (a : Addr) (ns : List Int) (k : Nat), vs = [.ref a, .int k] ∧ SqL K H a (ns.map V.int) ∧ ns.length ≤ 63 ∧ k ≤ 3 ∧
  ∀ H' p p0 p1, Same H H' → H p = none → H' p = some (.lst [.int p0, .int p1, .int 0]) → Pot 0 p0 p1 0 → Q (.ref p) H'
theorem sc_pot : FnScope ["_law_script", "_law_k", "_law_cell", "_law_own"] ["_law_script", "_law_k"] (defScope st_pot) := ⟨rfl, rfl, rfl, by decide +kernel, rfl, by decide +kernel, by decide +kernel⟩
/-- 10 ** 300 -/
def big : Int := ((10 : Int) ^ (60 : Int).toNat) ^ (5 : Int).toNat
theorem big_pos : (0 : Int) < big := by decide +kernel
theorem bit_mul (b : Bool) : -(2 ^ 64) < (if b = true then (1 : Int) else 0) ∧ (if b = true then (1 : Int) else 0) < 2 ^ 64 := by
  cases b <;> decide
theorem bit_nn (b : Bool) : (0 : Int) ≤ (if b = true then (1 : Int) else 0) := by
  cases b <;> decide
theorem ok_pot (F : Fun K "_law_pot" "_law_pot" st_pot f fd) (B : Blt mg) : FnG P w K mg base CX0 1 f fd ["_law_script", "_law_k"] (spPot K) := by
  refine okG F sc_pot (fun vs H Q E h => ?_) (fun cdv A outer s H vs Q E hgd hr h => ?_)
  · obtain ⟨_, _, _, rfl, _⟩ := h
    rfl
  · obtain ⟨a, ns, k, rfl, hs, hl, hk, q⟩ := h
    refine ⟨_, (pss_cons (ps_set (i := 2) sc_pot.nd rfl (.inl rfl) (pe_ifExp (pt_cmpR op_lt (pv 1) (pe_callB call_len (by rfl) B.len (by decide +kernel) (pa_cons (pv 0) pa_nil)) (nomark _)) (pe_ix ix_list (pv 0) (pv 1) (fun _ _ => rfl)) (pe_op op_add (pe_op op_mul pe_int (pv 1)) pe_int)))
      (pss_cons (ps_set (i := 3) sc_pot.nd rfl (.inl rfl) (pe_op op_mul (pe_op op_mod (pe_callB call_abs (by rfl) B.abs (by decide +kernel) (pa_cons (pv 2) pa_nil)) (pe_op op_powW (pe_op op_pow pe_int pe_int) pe_int)) (pe_callTy call_int1 (by rfl) B.int (by decide +kernel) (pa_cons (pe_cmpR op_ge (pe_callB call_abs (by rfl) B.abs (by decide +kernel) (pa_cons (pv 2) pa_nil)) (pe_op op_pow pe_int pe_int) (nomark _)) pa_nil))))
      (pss_one (ps_ret (pe_lst (pa_cons (pv 3) (pa_cons (pe_op op_mod (pe_op op_add (pe_op op_add (pe_op op_mul (pe_op op_mod (pv 2) pe_int) pe_int) (pe_op op_mul (pe_op op_mul pe_int (pv 1)) (pv 1))) pe_int) pe_int) (pa_cons pe_int pa_nil)))))))), ?_⟩
    refine ⟨_, rfl, _, rfl, _, ns.length, rfl, .inl ⟨_, hs, (List.length_map ..).symm⟩, (k : Int), (ns.length : Int), rfl, rfl, _, rfl, ite2 (fun e => ?_) fun e => ?_⟩
    · have e0 : (k : Int) < ns.length := of_decide_eq_true e
      have e1 : k < ns.length := by omega
      refine ⟨_, rfl, _, rfl, a, _, (k : Int), .int ns[k], rfl, rfl, hs, atI_nat (j := k) (by rw [List.getElem?_map, List.getElem?_eq_getElem e1]; rfl), ?_⟩
      obtain ⟨cell, hc⟩ : ∃ c : Int, ns[k] = c := ⟨_, rfl⟩
      rw [hc]
      have c0 : (0 : Int) ≤ if cell < 0 then -cell else cell := by split <;> omega
      refine ⟨_, rfl, cell, rfl, 10, 60, rfl, rfl, ⟨by decide, by decide, by decide⟩, _, 5, rfl, rfl, big_pow, _, _, rfl, rfl, big_pos,
        _, rfl, cell, rfl, 10, 18, rfl, rfl, ⟨by decide, by decide, by decide⟩, _, _, rfl, rfl, .inr ⟨_, rfl, _, _, rfl, rfl, .inr (bit_mul _), ?_⟩⟩
      obtain ⟨own, ho⟩ : ∃ z : Int, (if cell < 0 then -cell else cell) % big * (if decide ((10 : Int) ^ (18 : Int).toNat ≤ if cell < 0 then -cell else cell) = true then 1 else 0) = z := ⟨_, rfl⟩
      have h0 : 0 ≤ own := by
        rw [← ho]
        exact Int.mul_nonneg (Int.emod_nonneg _ (Int.ne_of_gt big_pos)) (bit_nn _)
      dsimp only
      rw [show ((10 : Int) ^ (60 : Int).toNat) ^ (5 : Int).toNat = big from rfl, ho]
      refine ⟨_, rfl, _, rfl, cell, 2305843009213693951, rfl, rfl, (show (0 : Int) < 2305843009213693951 by decide), _, 48271, rfl, rfl, .inr ⟨by decide, by decide⟩, _, rfl, 7919, (k : Int), rfl, rfl, .inl ⟨by decide, by decide⟩,
        _, rfl, 7919 * (k : Int), (k : Int), rfl, rfl, .inr ⟨by omega, by omega⟩, _, _, rfl, rfl, _, 13, rfl, rfl, _, 2305843009213693921, rfl, rfl, (show (0 : Int) < 2305843009213693921 by decide), (by show 3 ≤ sizeLine; decide), fun p np => ?_⟩
      refine q _ p own _ (same_new np) np upd_same ⟨h0, Int.emod_nonneg _ (by decide), ?_, Int.le_refl _, Int.le_refl _⟩
      exact Int.lt_trans (Int.emod_lt_of_pos _ (by decide)) (by decide)
    · refine ⟨_, rfl, 29, (k : Int), rfl, rfl, .inl ⟨by decide, by decide⟩, _, 8, rfl, rfl, ?_⟩
      obtain ⟨cell, hc⟩ : ∃ c : Int, 29 * (k : Int) + 8 = c := ⟨_, rfl⟩
      dsimp only
      rw [hc]
      have c0 : (0 : Int) ≤ if cell < 0 then -cell else cell := by split <;> omega
      refine ⟨_, rfl, cell, rfl, 10, 60, rfl, rfl, ⟨by decide, by decide, by decide⟩, _, 5, rfl, rfl, big_pow, _, _, rfl, rfl, big_pos,
        _, rfl, cell, rfl, 10, 18, rfl, rfl, ⟨by decide, by decide, by decide⟩, _, _, rfl, rfl, .inr ⟨_, rfl, _, _, rfl, rfl, .inr (bit_mul _), ?_⟩⟩
      obtain ⟨own, ho⟩ : ∃ z : Int, (if cell < 0 then -cell else cell) % big * (if decide ((10 : Int) ^ (18 : Int).toNat ≤ if cell < 0 then -cell else cell) = true then 1 else 0) = z := ⟨_, rfl⟩
      have h0 : 0 ≤ own := by
        rw [← ho]
        exact Int.mul_nonneg (Int.emod_nonneg _ (Int.ne_of_gt big_pos)) (bit_nn _)
      dsimp only
      rw [show ((10 : Int) ^ (60 : Int).toNat) ^ (5 : Int).toNat = big from rfl, ho]
      refine ⟨_, rfl, _, rfl, cell, 2305843009213693951, rfl, rfl, (show (0 : Int) < 2305843009213693951 by decide), _, 48271, rfl, rfl, .inr ⟨by decide, by decide⟩, _, rfl, 7919, (k : Int), rfl, rfl, .inl ⟨by decide, by decide⟩,
        _, rfl, 7919 * (k : Int), (k : Int), rfl, rfl, .inr ⟨by omega, by omega⟩, _, _, rfl, rfl, _, 13, rfl, rfl, _, 2305843009213693921, rfl, rfl, (show (0 : Int) < 2305843009213693921 by decide), (by show 3 ≤ sizeLine; decide), fun p np => ?_⟩
      refine q _ p own _ (same_new np) np upd_same ⟨h0, Int.emod_nonneg _ (by decide), ?_, Int.le_refl _, Int.le_refl _⟩
      exact Int.lt_trans (Int.emod_lt_of_pos _ (by decide)) (by decide)
/-- of(pot, some): one of the items -/
def spOf (K : PySem.W.Frag) : Sp := fun vs H Q _ => ∃ (a l : Addr) (b : Nat) (p0 p1 p2 : Int) (xs : List V), vs = [.ref a, .ref l] ∧ H a = some (.lst [.int p0, .int p1, .int p2]) ∧ Pot b p0 p1 p2 ∧ b ≤ 100000 ∧ a ≠ l ∧ H l = some (.lst xs) ∧ 0 < xs.length ∧ xs.length ≤ 1000 ∧
  ∀ H' q0 q2 x, But a H H' → H' a = some (.lst [.int q0, .int p1, .int q2]) → Pot (b + 1) q0 p1 q2 → x ∈ xs → Q x H'
theorem sc_of : FnScope ["_law_pot_here", "_law_some"] ["_law_pot_here", "_law_some"] (defScope st_of) := ⟨rfl, rfl, rfl, by decide +kernel, rfl, by decide +kernel, by decide +kernel⟩
theorem ok_of {fT : Addr} {fdT : FuncData} (F : Fun K "_law_of" "_law_of" st_of f fd) (B : Blt mg) (F_take : Df P w K mg base "_law_take" 1 fT fdT ["_law_pot_here", "_law_below"] spTake) : FnG P w K mg base CX0 2 f fd ["_law_pot_here", "_law_some"] (spOf K) := by
  refine okG F sc_of (fun vs H Q E h => ?_) (fun cdv A outer s H vs Q E hgd hr h => ?_)
  · obtain ⟨_, _, _, _, _, _, _, rfl, _⟩ := h
    rfl
  · obtain ⟨a, l, b, p0, p1, p2, xs, rfl, ha, hp, hb, hal, hl, hx0, hx1, q⟩ := h
    refine ⟨_, (pss_one (ps_ret (pe_ix ix_list (pv 1) (pe_callG hgd F_take.G (hr.mono (by decide)) (by rfl) F_take.g F_take.kp F_take.bd pass0 (pa_cons (pv 0) (pa_cons (pe_callB call_len (by rfl) B.len (by decide +kernel) (pa_cons (pv 1) pa_nil)) pa_nil))) (fun _ _ => rfl)))), ?_⟩
    refine ⟨_, rfl, _, rfl, _, rfl, _, xs.length, rfl, .inl ⟨_, SqL.of hl, rfl⟩, a, b, p0, p1, p2, (xs.length : Int), rfl, ha, hp, hb, by omega, by omega, fun H' q0 q2 r bt ha' hp' r0 r1 => ?_⟩
    obtain ⟨j, rfl⟩ := Int.eq_ofNat_of_zero_le r0
    have hj : j < xs.length := by omega
    exact ⟨l, xs, (j : Int), xs[j], rfl, rfl, SqL.of (bt _ _ (Ne.symm hal) hl), atI_nat (List.getElem?_eq_getElem hj), q H' q0 q2 _ bt ha' hp' (List.getElem_mem hj)⟩
end
end K34

set_option Elab.async false
set_option linter.all false
set_option maxRecDepth 100000
set_option maxHeartbeats 4000000
namespace K34
open PySem PySem.Spec PyProof.Rows L2 WT
/-! ### the __init__ of the errors -/
def spI1 (C : Addr) (f : Str) : Sp := fun vs H Q _ => ∃ (a : Addr) (v : V), vs = [.ref a, v] ∧ H a = some (exo a C none) ∧ ∀ dx, H dx = none → dx ≠ a → Q .non (upd (upd H dx (exd dx [(f, v)])) a (exo a C (some dx)))
def spI3 (C : Addr) (f g h : Str) : Sp := fun vs H Q _ => ∃ (a : Addr) (u v w : V), vs = [.ref a, u, v, w] ∧ H a = some (exo a C none) ∧
  ∀ dx H', H dx = none → dx ≠ a → H' a = some (exo a C (some dx)) → H' dx = some (exd dx [(h, w), (g, v), (f, u)]) → (∀ b o, b ≠ a → H b = some o → H' b = some o) → Q .non H'

abbrev st_UnknownGateway : Stmt := inClass (top 2) 0
theorem sc_UnknownGateway : FnScope ["self", "name"] ["self", "name"] (defScope st_UnknownGateway) := ⟨rfl, rfl, rfl, by decide +kernel, rfl, by decide +kernel, by decide +kernel⟩
abbrev st_BadStep : Stmt := inClass (top 3) 0
theorem sc_BadStep : FnScope ["self", "step"] ["self", "step"] (defScope st_BadStep) := ⟨rfl, rfl, rfl, by decide +kernel, rfl, by decide +kernel, by decide +kernel⟩
abbrev st_NoEntry : Stmt := inClass (top 4) 0
theorem sc_NoEntry : FnScope ["self", "entry"] ["self", "entry"] (defScope st_NoEntry) := ⟨rfl, rfl, rfl, by decide +kernel, rfl, by decide +kernel, by decide +kernel⟩
abbrev st_NotNeeded : Stmt := inClass (top 5) 0
theorem sc_NotNeeded : FnScope ["self", "entry"] ["self", "entry"] (defScope st_NotNeeded) := ⟨rfl, rfl, rfl, by decide +kernel, rfl, by decide +kernel, by decide +kernel⟩
abbrev st_BadRegions : Stmt := inClass (top 8) 0
theorem sc_BadRegions : FnScope ["self", "regions"] ["self", "regions"] (defScope st_BadRegions) := ⟨rfl, rfl, rfl, by decide +kernel, rfl, by decide +kernel, by decide +kernel⟩
abbrev st_BadGateway : Stmt := inClass (top 9) 0
theorem sc_BadGateway : FnScope ["self", "name", "members", "kind"] ["self", "name", "members", "kind"] (defScope st_BadGateway) := ⟨rfl, rfl, rfl, by decide +kernel, rfl, by decide +kernel, by decide +kernel⟩
abbrev st_TakenGateway : Stmt := inClass (top 10) 0
theorem sc_TakenGateway : FnScope ["self", "name"] ["self", "name"] (defScope st_TakenGateway) := ⟨rfl, rfl, rfl, by decide +kernel, rfl, by decide +kernel, by decide +kernel⟩
abbrev st_TooMany : Stmt := inClass (top 11) 0
theorem sc_TooMany : FnScope ["self", "count"] ["self", "count"] (defScope st_TooMany) := ⟨rfl, rfl, rfl, by decide +kernel, rfl, by decide +kernel, by decide +kernel⟩
abbrev st_ClosesCycle : Stmt := inClass (top 12) 0
theorem sc_ClosesCycle : FnScope ["self", "cycle"] ["self", "cycle"] (defScope st_ClosesCycle) := ⟨rfl, rfl, rfl, by decide +kernel, rfl, by decide +kernel, by decide +kernel⟩
abbrev st_BadMark : Stmt := inClass (top 14) 0
theorem sc_BadMark : FnScope ["self", "mark"] ["self", "mark"] (defScope st_BadMark) := ⟨rfl, rfl, rfl, by decide +kernel, rfl, by decide +kernel, by decide +kernel⟩
abbrev st_BadText : Stmt := inClass (top 15) 0
theorem sc_BadText : FnScope ["self", "line"] ["self", "line"] (defScope st_BadText) := ⟨rfl, rfl, rfl, by decide +kernel, rfl, by decide +kernel, by decide +kernel⟩
abbrev st_BadLine : Stmt := inClass (top 16) 0
theorem sc_BadLine : FnScope ["self", "line"] ["self", "line"] (defScope st_BadLine) := ⟨rfl, rfl, rfl, by decide +kernel, rfl, by decide +kernel, by decide +kernel⟩
section
variable {P : Program} {w : World} {K : PySem.W.Frag} {mg : Str → Option Value} {base : Heap} {f : Addr} {fd : FuncData}
theorem ok_UnknownGateway {C : Addr} (F : Fun K "__init__" "UnknownGateway.__init__" st_UnknownGateway f fd) (T : OexC K C) (hn : PySem.W.findIn K (.ref C) "name" = some none) : FnOk P w K mg base CX0 1 f fd ["self", "name"] (spI1 C "name") := by
  refine F.ok sc_UnknownGateway (fun vs H Q E h => ?_) (fun cdv A outer s H vs Q E hr h => ?_)
  · obtain ⟨_, _, rfl, _⟩ := h
    rfl
  · obtain ⟨a, v, rfl, ha, q⟩ := h
    refine ⟨_, pss_one (ps_ost (pv 0) (pv 1)), ?_⟩
    exact ⟨_, rfl, _, rfl, a, C, rfl, T, hn, .inl ⟨ha, fun dx hd ne => q dx hd ne⟩⟩
theorem ok_BadStep {C : Addr} (F : Fun K "__init__" "BadStep.__init__" st_BadStep f fd) (T : OexC K C) (hn : PySem.W.findIn K (.ref C) "step" = some none) : FnOk P w K mg base CX0 1 f fd ["self", "step"] (spI1 C "step") := by
  refine F.ok sc_BadStep (fun vs H Q E h => ?_) (fun cdv A outer s H vs Q E hr h => ?_)
  · obtain ⟨_, _, rfl, _⟩ := h
    rfl
  · obtain ⟨a, v, rfl, ha, q⟩ := h
    refine ⟨_, pss_one (ps_ost (pv 0) (pv 1)), ?_⟩
    exact ⟨_, rfl, _, rfl, a, C, rfl, T, hn, .inl ⟨ha, fun dx hd ne => q dx hd ne⟩⟩
theorem ok_NoEntry {C : Addr} (F : Fun K "__init__" "NoEntry.__init__" st_NoEntry f fd) (T : OexC K C) (hn : PySem.W.findIn K (.ref C) "entry" = some none) : FnOk P w K mg base CX0 1 f fd ["self", "entry"] (spI1 C "entry") := by
  refine F.ok sc_NoEntry (fun vs H Q E h => ?_) (fun cdv A outer s H vs Q E hr h => ?_)
  · obtain ⟨_, _, rfl, _⟩ := h
    rfl
  · obtain ⟨a, v, rfl, ha, q⟩ := h
    refine ⟨_, pss_one (ps_ost (pv 0) (pv 1)), ?_⟩
    exact ⟨_, rfl, _, rfl, a, C, rfl, T, hn, .inl ⟨ha, fun dx hd ne => q dx hd ne⟩⟩
theorem ok_NotNeeded {C : Addr} (F : Fun K "__init__" "NotNeeded.__init__" st_NotNeeded f fd) (T : OexC K C) (hn : PySem.W.findIn K (.ref C) "entry" = some none) : FnOk P w K mg base CX0 1 f fd ["self", "entry"] (spI1 C "entry") := by
  refine F.ok sc_NotNeeded (fun vs H Q E h => ?_) (fun cdv A outer s H vs Q E hr h => ?_)
  · obtain ⟨_, _, rfl, _⟩ := h
    rfl
  · obtain ⟨a, v, rfl, ha, q⟩ := h
    refine ⟨_, pss_one (ps_ost (pv 0) (pv 1)), ?_⟩
    exact ⟨_, rfl, _, rfl, a, C, rfl, T, hn, .inl ⟨ha, fun dx hd ne => q dx hd ne⟩⟩
theorem ok_BadRegions {C : Addr} (F : Fun K "__init__" "BadRegions.__init__" st_BadRegions f fd) (T : OexC K C) (hn : PySem.W.findIn K (.ref C) "regions" = some none) : FnOk P w K mg base CX0 1 f fd ["self", "regions"] (spI1 C "regions") := by
  refine F.ok sc_BadRegions (fun vs H Q E h => ?_) (fun cdv A outer s H vs Q E hr h => ?_)
  · obtain ⟨_, _, rfl, _⟩ := h
    rfl
  · obtain ⟨a, v, rfl, ha, q⟩ := h
    refine ⟨_, pss_one (ps_ost (pv 0) (pv 1)), ?_⟩
    exact ⟨_, rfl, _, rfl, a, C, rfl, T, hn, .inl ⟨ha, fun dx hd ne => q dx hd ne⟩⟩
theorem ok_BadGateway {C : Addr} (F : Fun K "__init__" "BadGateway.__init__" st_BadGateway f fd) (T : OexC K C) (h1 : PySem.W.findIn K (.ref C) "name" = some none) (h2 : PySem.W.findIn K (.ref C) "members" = some none) (h3 : PySem.W.findIn K (.ref C) "kind" = some none) :
    FnOk P w K mg base CX0 1 f fd ["self", "name", "members", "kind"] (spI3 C "name" "members" "kind") := by
  refine F.ok sc_BadGateway (fun vs H Q E h => ?_) (fun cdv A outer s H vs Q E hr h => ?_)
  · obtain ⟨_, _, _, _, rfl, _⟩ := h
    rfl
  · obtain ⟨a, u, v, x, rfl, ha, q⟩ := h
    refine ⟨_, pss_cons (ps_ost (pv 0) (pv 1)) (pss_cons (ps_ost (pv 0) (pv 2)) (pss_one (ps_ost (pv 0) (pv 3)))), ?_⟩
    refine ⟨_, rfl, _, rfl, a, C, rfl, T, h1, .inl ⟨ha, fun dx hd ne => ?_⟩⟩
    refine ⟨_, rfl, _, rfl, a, C, rfl, T, h2, .inr ⟨dx, [("name", u)], upd_same, ?_, ?_, ?_⟩⟩
    · rw [upd_ne ne]
      exact upd_same
    · exact (by decide : 1 ≤ 900)
    refine ⟨_, rfl, _, rfl, a, C, rfl, T, h3, .inr ⟨dx, [("members", v), ("name", u)], ?_, upd_same, ?_, ?_⟩⟩
    · rw [upd_ne (Ne.symm ne)]
      exact upd_same
    · exact (by decide : 2 ≤ 900)
    refine q dx _ hd ne ?_ upd_same ?_
    · rw [upd_ne (Ne.symm ne), upd_ne (Ne.symm ne)]
      exact upd_same
    · intro b o nb e
      have nd : b ≠ dx := ne_of_none e hd
      rw [upd_ne nd, upd_ne nd, upd_ne nb, upd_ne nd]
      exact e
theorem ok_TakenGateway {C : Addr} (F : Fun K "__init__" "TakenGateway.__init__" st_TakenGateway f fd) (T : OexC K C) (hn : PySem.W.findIn K (.ref C) "name" = some none) : FnOk P w K mg base CX0 1 f fd ["self", "name"] (spI1 C "name") := by
  refine F.ok sc_TakenGateway (fun vs H Q E h => ?_) (fun cdv A outer s H vs Q E hr h => ?_)
  · obtain ⟨_, _, rfl, _⟩ := h
    rfl
  · obtain ⟨a, v, rfl, ha, q⟩ := h
    refine ⟨_, pss_one (ps_ost (pv 0) (pv 1)), ?_⟩
    exact ⟨_, rfl, _, rfl, a, C, rfl, T, hn, .inl ⟨ha, fun dx hd ne => q dx hd ne⟩⟩
theorem ok_TooMany {C : Addr} (F : Fun K "__init__" "TooMany.__init__" st_TooMany f fd) (T : OexC K C) (hn : PySem.W.findIn K (.ref C) "count" = some none) : FnOk P w K mg base CX0 1 f fd ["self", "count"] (spI1 C "count") := by
  refine F.ok sc_TooMany (fun vs H Q E h => ?_) (fun cdv A outer s H vs Q E hr h => ?_)
  · obtain ⟨_, _, rfl, _⟩ := h
    rfl
  · obtain ⟨a, v, rfl, ha, q⟩ := h
    refine ⟨_, pss_one (ps_ost (pv 0) (pv 1)), ?_⟩
    exact ⟨_, rfl, _, rfl, a, C, rfl, T, hn, .inl ⟨ha, fun dx hd ne => q dx hd ne⟩⟩
theorem ok_ClosesCycle {C : Addr} (F : Fun K "__init__" "ClosesCycle.__init__" st_ClosesCycle f fd) (T : OexC K C) (hn : PySem.W.findIn K (.ref C) "cycle" = some none) : FnOk P w K mg base CX0 1 f fd ["self", "cycle"] (spI1 C "cycle") := by
  refine F.ok sc_ClosesCycle (fun vs H Q E h => ?_) (fun cdv A outer s H vs Q E hr h => ?_)
  · obtain ⟨_, _, rfl, _⟩ := h
    rfl
  · obtain ⟨a, v, rfl, ha, q⟩ := h
    refine ⟨_, pss_one (ps_ost (pv 0) (pv 1)), ?_⟩
    exact ⟨_, rfl, _, rfl, a, C, rfl, T, hn, .inl ⟨ha, fun dx hd ne => q dx hd ne⟩⟩
theorem ok_BadMark {C : Addr} (F : Fun K "__init__" "BadMark.__init__" st_BadMark f fd) (T : OexC K C) (hn : PySem.W.findIn K (.ref C) "mark" = some none) : FnOk P w K mg base CX0 1 f fd ["self", "mark"] (spI1 C "mark") := by
  refine F.ok sc_BadMark (fun vs H Q E h => ?_) (fun cdv A outer s H vs Q E hr h => ?_)
  · obtain ⟨_, _, rfl, _⟩ := h
    rfl
  · obtain ⟨a, v, rfl, ha, q⟩ := h
    refine ⟨_, pss_one (ps_ost (pv 0) (pv 1)), ?_⟩
    exact ⟨_, rfl, _, rfl, a, C, rfl, T, hn, .inl ⟨ha, fun dx hd ne => q dx hd ne⟩⟩
theorem ok_BadText {C : Addr} (F : Fun K "__init__" "BadText.__init__" st_BadText f fd) (T : OexC K C) (hn : PySem.W.findIn K (.ref C) "line" = some none) : FnOk P w K mg base CX0 1 f fd ["self", "line"] (spI1 C "line") := by
  refine F.ok sc_BadText (fun vs H Q E h => ?_) (fun cdv A outer s H vs Q E hr h => ?_)
  · obtain ⟨_, _, rfl, _⟩ := h
    rfl
  · obtain ⟨a, v, rfl, ha, q⟩ := h
    refine ⟨_, pss_one (ps_ost (pv 0) (pv 1)), ?_⟩
    exact ⟨_, rfl, _, rfl, a, C, rfl, T, hn, .inl ⟨ha, fun dx hd ne => q dx hd ne⟩⟩
theorem ok_BadLine {C : Addr} (F : Fun K "__init__" "BadLine.__init__" st_BadLine f fd) (T : OexC K C) (hn : PySem.W.findIn K (.ref C) "line" = some none) : FnOk P w K mg base CX0 1 f fd ["self", "line"] (spI1 C "line") := by
  refine F.ok sc_BadLine (fun vs H Q E h => ?_) (fun cdv A outer s H vs Q E hr h => ?_)
  · obtain ⟨_, _, rfl, _⟩ := h
    rfl
  · obtain ⟨a, v, rfl, ha, q⟩ := h
    refine ⟨_, pss_one (ps_ost (pv 0) (pv 1)), ?_⟩
    exact ⟨_, rfl, _, rfl, a, C, rfl, T, hn, .inl ⟨ha, fun dx hd ne => q dx hd ne⟩⟩
end
end K34

set_option Elab.async false
set_option linter.all false
set_option maxRecDepth 100000
set_option maxHeartbeats 4000000
namespace K34
open PySem PySem.Spec PyProof.Rows L2 WT
structure Er1 (P : Program) (w : World) (K : PySem.W.Frag) (mg : Str → Option Value) (base : Heap) (nm f : Str) (C fI : Addr) (fd : FuncData) : Prop where
  g : mg nm = some (.ref C)
  o : OexC K C
  i : PySem.W.findIn K (.ref C) "__init__" = some (some (.ref fI))
  t : PySem.W.typeIn K (.ref fI) = some (.type "function")
  G : FnOk P w K mg base CX0 1 fI fd ["self", f] (spI1 C f)
  bd : Binds K fd ["self", f] []
  kb : ∀ (s1 : Shared) (z : Value) (ws : List Value), K.In s1.heap → ws.length = 1 → BindsTo s1 fd ⟨[z], ([f] : List Str).zip ws⟩ ((["self", f] : List Str).zip (z :: id ws))
  no : PySem.W.findIn K (.ref C) f = some none
theorem Er1.kr {P : Program} {w : World} {K : PySem.W.Frag} {mg : Str → Option Value} {base : Heap} {nm f : Str} {C fI : Addr} {fd : FuncData} (_ : Er1 P w K mg base nm f C fI fd) {zs : List V} {ws : List Value} (r : Vals zs ws) (_ : zs.length = 1) : Vals (id zs) (id ws) := r
def rev3 {α : Type} : List α → List α
  | [x, y, z] => [z, y, x]
  | l => l
structure Er3 (P : Program) (w : World) (K : PySem.W.Frag) (mg : Str → Option Value) (base : Heap) (nm f g' h : Str) (C fI : Addr) (fd : FuncData) : Prop where
  g : mg nm = some (.ref C)
  o : OexC K C
  i : PySem.W.findIn K (.ref C) "__init__" = some (some (.ref fI))
  t : PySem.W.typeIn K (.ref fI) = some (.type "function")
  G : FnOk P w K mg base CX0 1 fI fd ["self", f, g', h] (spI3 C f g' h)
  bd : Binds K fd ["self", f, g', h] []
  kb : ∀ (s1 : Shared) (z : Value) (ws : List Value), K.In s1.heap → ws.length = 3 → BindsTo s1 fd ⟨[z], ([h, g', f] : List Str).zip ws⟩ ((["self", f, g', h] : List Str).zip (z :: rev3 ws))
  no : PySem.W.findIn K (.ref C) f = some none ∧ PySem.W.findIn K (.ref C) g' = some none ∧ PySem.W.findIn K (.ref C) h = some none
theorem Er3.kr {P : Program} {w : World} {K : PySem.W.Frag} {mg : Str → Option Value} {base : Heap} {nm f g' h : Str} {C fI : Addr} {fd : FuncData} (_ : Er3 P w K mg base nm f g' h C fI fd) {zs : List V} {ws : List Value} (r : Vals zs ws) (hl : zs.length = 3) : Vals (rev3 zs) (rev3 ws) := by
  cases r with
  | nil => cases hl
  | cons r1 r =>
    cases r with
    | nil => cases hl
    | cons r2 r =>
      cases r with
      | nil => cases hl
      | cons r3 r =>
        cases r with
        | nil => exact .cons r3 (.cons r2 (.cons r1 .nil))
        | cons r4 r => simp at hl
structure Er0 (K : PySem.W.Frag) (mg : Str → Option Value) (nm : Str) (C : Addr) : Prop where
  g : mg nm = some (.ref C)
  b : ErrBare K C
/-- the fifteen, in the order of the text -/
structure Errs (P : Program) (w : World) (K : PySem.W.Frag) (mg : Str → Option Value) (base : Heap) (c i : Nat → Addr) (d : Nat → FuncData) : Prop where
  UnknownGateway : Er1 P w K mg base "UnknownGateway" "name" (c 0) (i 0) (d 0)
  BadStep : Er1 P w K mg base "BadStep" "step" (c 1) (i 1) (d 1)
  NoEntry : Er1 P w K mg base "NoEntry" "entry" (c 2) (i 2) (d 2)
  NotNeeded : Er1 P w K mg base "NotNeeded" "entry" (c 3) (i 3) (d 3)
  HasRevoke : Er0 K mg "HasRevoke" (c 4)
  Unnoticed : Er0 K mg "Unnoticed" (c 5)
  BadRegions : Er1 P w K mg base "BadRegions" "regions" (c 6) (i 6) (d 6)
  BadGateway : Er3 P w K mg base "BadGateway" "name" "members" "kind" (c 7) (i 7) (d 7)
  TakenGateway : Er1 P w K mg base "TakenGateway" "name" (c 8) (i 8) (d 8)
  TooMany : Er1 P w K mg base "TooMany" "count" (c 9) (i 9) (d 9)
  ClosesCycle : Er1 P w K mg base "ClosesCycle" "cycle" (c 10) (i 10) (d 10)
  NothingDone : Er0 K mg "NothingDone" (c 11)
  BadMark : Er1 P w K mg base "BadMark" "mark" (c 12) (i 12) (d 12)
  BadText : Er1 P w K mg base "BadText" "line" (c 13) (i 13) (d 13)
  BadLine : Er1 P w K mg base "BadLine" "line" (c 14) (i 14) (d 14)
/-- what the fifteen errors made of x, y, z are -/
def specs (c : Nat → Addr) (x y z : V) : List (Addr × List (Str × V)) := [(c 0, [("name", x)]), (c 1, [("step", x)]), (c 2, [("entry", x)]), (c 3, [("entry", x)]), (c 4, []), (c 5, []), (c 6, [("regions", x)]), (c 7, [("kind", z), ("members", y), ("name", x)]), (c 8, [("name", x)]), (c 9, [("count", x)]), (c 10, [("cycle", x)]), (c 11, []), (c 12, [("mark", x)]), (c 13, [("line", x)]), (c 14, [("line", x)])]
theorem mk1 {C a : Addr} {f : Str} {H : Hp} {v : V} {R : Hp → Prop} {E : XK} (n : H a = none) (q : ∀ H2, Same H H2 → Err H2 a C [(f, v)] → R H2) :
    spI1 C f [.ref a, v] (upd H a (exo a C none)) (fun v' H2 => v' = .non ∧ R H2) E := by
  refine ⟨a, v, rfl, upd_same, fun dx hd ne => ⟨rfl, q _ (fun b o e => ?_) (.inr ⟨dx, upd_same, ?_⟩)⟩⟩
  · have na : b ≠ a := ne_of_none e n
    have nd : b ≠ dx := ne_of_none (by rw [upd_ne na]; exact e) hd
    rw [upd_ne na, upd_ne nd, upd_ne na]
    exact e
  · rw [upd_ne ne]
    exact upd_same
theorem mk3 {C a : Addr} {f g h : Str} {H : Hp} {u v w : V} {R : Hp → Prop} {E : XK} (n : H a = none) (q : ∀ H2, Same H H2 → Err H2 a C [(h, w), (g, v), (f, u)] → R H2) :
    spI3 C f g h [.ref a, u, v, w] (upd H a (exo a C none)) (fun v' H2 => v' = .non ∧ R H2) E := by
  refine ⟨a, u, v, w, rfl, upd_same, fun dx H' hd ne e1 e2 k => ⟨rfl, q H' (fun b o e => ?_) (.inr ⟨dx, e1, e2⟩)⟩⟩
  have na : b ≠ a := ne_of_none e n
  exact k b o na (by rw [upd_ne na]; exact e)
theorem mk0 {C a : Addr} {H : Hp} (n : H a = none) : ∃ H2, H2 = upd H a (exo a C none) ∧ Same H H2 ∧ Err H2 a C [] := ⟨_, rfl, same_new n, .inl ⟨rfl, upd_same⟩⟩
abbrev ErrOf (H : Hp) (e : Addr) (s : Addr × List (Str × V)) : Prop := Err H e s.1 s.2
/-- a list of the fifteen errors made of x, y, z -/
def spBy (c : Nat → Addr) : Sp := fun vs H Q _ => ∃ x y z : V, vs = [x, y, z] ∧ ∀ H' p es, Same H H' → H' p = some (.lst (es.map V.ref)) → Paired (ErrOf H') es (specs c x y z) → Q (.ref p) H'
abbrev st_by_position : Stmt := top 21
theorem sc_by_position : FnScope ["_law_a", "_law_b", "_law_c", "_law_found"] ["_law_a", "_law_b", "_law_c"] (defScope st_by_position) := ⟨rfl, rfl, rfl, by decide +kernel, rfl, by decide +kernel, by decide +kernel⟩
abbrev st_by_name : Stmt := top 22
theorem sc_by_name : FnScope ["_law_a", "_law_b", "_law_c", "_law_found"] ["_law_a", "_law_b", "_law_c"] (defScope st_by_name) := ⟨rfl, rfl, rfl, by decide +kernel, rfl, by decide +kernel, by decide +kernel⟩
abbrev st_sorts : Stmt := top 23
theorem sc_sorts : FnScope ["_law_e", "_law_found"] ["_law_e"] (defScope st_sorts) := ⟨rfl, rfl, rfl, by decide +kernel, rfl, by decide +kernel, by decide +kernel⟩
abbrev st_values : Stmt := top 24
theorem sc_values : FnScope ["_law_some", "_law_found"] ["_law_some"] (defScope st_values) := ⟨rfl, rfl, rfl, by decide +kernel, rfl, by decide +kernel, by decide +kernel⟩
section
variable {P : Program} {w : World} {K : PySem.W.Frag} {mg : Str → Option Value} {base : Heap} {f : Addr} {fd : FuncData} {c i : Nat → Addr} {d : Nat → FuncData}
theorem ok_by_position (F : Fun K "_law_by_position" "_law_by_position" st_by_position f fd) (Z : Errs P w K mg base c i d) : FnG P w K mg base CX0 3 f fd ["_law_a", "_law_b", "_law_c"] (spBy c) := by
  refine okG F sc_by_position (fun vs H Q E h => ?_) (fun cdv A outer s H vs Q E hgd hr h => ?_)
  · obtain ⟨_, _, _, rfl, _⟩ := h
    rfl
  · obtain ⟨x, y, z, rfl, q⟩ := h
    refine ⟨_, (pss_cons (ps_set (i := 3) sc_by_position.nd rfl (.inl rfl) (pe_lst (pa_cons (pe_err Z.UnknownGateway.o Z.UnknownGateway.i Z.UnknownGateway.t Z.UnknownGateway.G (hr.mono (by decide)) Z.UnknownGateway.bd pass0 (by rfl) Z.UnknownGateway.g (pa_cons (pv 0) pa_nil)) (pa_cons (pe_err Z.BadStep.o Z.BadStep.i Z.BadStep.t Z.BadStep.G (hr.mono (by decide)) Z.BadStep.bd pass0 (by rfl) Z.BadStep.g (pa_cons (pv 0) pa_nil)) (pa_cons (pe_err Z.NoEntry.o Z.NoEntry.i Z.NoEntry.t Z.NoEntry.G (hr.mono (by decide)) Z.NoEntry.bd pass0 (by rfl) Z.NoEntry.g (pa_cons (pv 0) pa_nil)) (pa_cons (pe_err Z.NotNeeded.o Z.NotNeeded.i Z.NotNeeded.t Z.NotNeeded.G (hr.mono (by decide)) Z.NotNeeded.bd pass0 (by rfl) Z.NotNeeded.g (pa_cons (pv 0) pa_nil)) (pa_cons (pe_err0 Z.HasRevoke.b (by rfl) Z.HasRevoke.g) (pa_cons (pe_err0 Z.Unnoticed.b (by rfl) Z.Unnoticed.g) (pa_cons (pe_err Z.BadRegions.o Z.BadRegions.i Z.BadRegions.t Z.BadRegions.G (hr.mono (by decide)) Z.BadRegions.bd pass0 (by rfl) Z.BadRegions.g (pa_cons (pv 0) pa_nil)) pa_nil)))))))))
      (pss_cons (ps_set (i := 3) sc_by_position.nd rfl (.inl rfl) (pe_op op_cat (pv 3) (pe_lst (pa_cons (pe_err Z.BadGateway.o Z.BadGateway.i Z.BadGateway.t Z.BadGateway.G (hr.mono (by decide)) Z.BadGateway.bd pass0 (by rfl) Z.BadGateway.g (pa_cons (pv 0) (pa_cons (pv 1) (pa_cons (pv 2) pa_nil)))) (pa_cons (pe_err Z.TakenGateway.o Z.TakenGateway.i Z.TakenGateway.t Z.TakenGateway.G (hr.mono (by decide)) Z.TakenGateway.bd pass0 (by rfl) Z.TakenGateway.g (pa_cons (pv 0) pa_nil)) (pa_cons (pe_err Z.TooMany.o Z.TooMany.i Z.TooMany.t Z.TooMany.G (hr.mono (by decide)) Z.TooMany.bd pass0 (by rfl) Z.TooMany.g (pa_cons (pv 0) pa_nil)) (pa_cons (pe_err Z.ClosesCycle.o Z.ClosesCycle.i Z.ClosesCycle.t Z.ClosesCycle.G (hr.mono (by decide)) Z.ClosesCycle.bd pass0 (by rfl) Z.ClosesCycle.g (pa_cons (pv 0) pa_nil)) (pa_cons (pe_err0 Z.NothingDone.b (by rfl) Z.NothingDone.g) (pa_cons (pe_err Z.BadMark.o Z.BadMark.i Z.BadMark.t Z.BadMark.G (hr.mono (by decide)) Z.BadMark.bd pass0 (by rfl) Z.BadMark.g (pa_cons (pv 0) pa_nil)) pa_nil)))))))))
      (pss_one (ps_ret (pe_op op_cat (pv 3) (pe_lst (pa_cons (pe_err Z.BadText.o Z.BadText.i Z.BadText.t Z.BadText.G (hr.mono (by decide)) Z.BadText.bd pass0 (by rfl) Z.BadText.g (pa_cons (pv 0) pa_nil)) (pa_cons (pe_err Z.BadLine.o Z.BadLine.i Z.BadLine.t Z.BadLine.G (hr.mono (by decide)) Z.BadLine.bd pass0 (by rfl) Z.BadLine.g (pa_cons (pv 0) pa_nil)) pa_nil)))))))), ?_⟩
    refine ⟨_, rfl, (by show 1 ≤ 1000; decide), fun e0 n0 => mk1 n0 fun H0 s0 r0 => ?_⟩
    refine ⟨_, rfl, (by show 1 ≤ 1000; decide), fun e1 n1 => mk1 n1 fun H1 s1 r1 => ?_⟩
    refine ⟨_, rfl, (by show 1 ≤ 1000; decide), fun e2 n2 => mk1 n2 fun H2 s2 r2 => ?_⟩
    refine ⟨_, rfl, (by show 1 ≤ 1000; decide), fun e3 n3 => mk1 n3 fun H3 s3 r3 => ?_⟩
    intro e4 n4
    obtain ⟨H4, hh4, s4, r4⟩ := mk0 (C := c 4) n4
    rw [← hh4]
    intro e5 n5
    obtain ⟨H5, hh5, s5, r5⟩ := mk0 (C := c 5) n5
    rw [← hh5]
    refine ⟨_, rfl, (by show 1 ≤ 1000; decide), fun e6 n6 => mk1 n6 fun H6 s6 r6 => ?_⟩
    refine ⟨(by show 7 ≤ sizeLine; decide), fun l0 nl0 => ?_⟩
    refine ⟨_, rfl, ?_⟩
    refine ⟨_, rfl, _, rfl, _, rfl, (by show 3 ≤ 1000; decide), fun e7 n7 => mk3 n7 fun H7 s7 r7 => ?_⟩
    refine ⟨_, rfl, (by show 1 ≤ 1000; decide), fun e8 n8 => mk1 n8 fun H8 s8 r8 => ?_⟩
    refine ⟨_, rfl, (by show 1 ≤ 1000; decide), fun e9 n9 => mk1 n9 fun H9 s9 r9 => ?_⟩
    refine ⟨_, rfl, (by show 1 ≤ 1000; decide), fun e10 n10 => mk1 n10 fun H10 s10 r10 => ?_⟩
    intro e11 n11
    obtain ⟨H11, hh11, s11, r11⟩ := mk0 (C := c 11) n11
    rw [← hh11]
    refine ⟨_, rfl, (by show 1 ≤ 1000; decide), fun e12 n12 => mk1 n12 fun H12 s12 r12 => ?_⟩
    refine ⟨(by show 6 ≤ sizeLine; decide), fun l1 nl1 => ?_⟩
    refine ⟨l0, l1, _, _, rfl, rfl, (Same.trans s7 (Same.trans s8 (Same.trans s9 (Same.trans s10 (Same.trans s11 (Same.trans s12 (same_new nl1))))))) _ _ upd_same, upd_same, (by show 7 + 6 ≤ sizeLine; decide), fun c1 nc1 => ?_⟩
    refine ⟨_, rfl, ?_⟩
    refine ⟨_, rfl, (by show 1 ≤ 1000; decide), fun e13 n13 => mk1 n13 fun H13 s13 r13 => ?_⟩
    refine ⟨_, rfl, (by show 1 ≤ 1000; decide), fun e14 n14 => mk1 n14 fun H14 s14 r14 => ?_⟩
    refine ⟨(by show 2 ≤ sizeLine; decide), fun l2 nl2 => ?_⟩
    refine ⟨c1, l2, _, _, rfl, rfl, (Same.trans s13 (Same.trans s14 (same_new nl2))) _ _ upd_same, upd_same, (by show 13 + 2 ≤ sizeLine; decide), fun c2 nc2 => ?_⟩
    refine q _ c2 [e0, e1, e2, e3, e4, e5, e6, e7, e8, e9, e10, e11, e12, e13, e14] (Same.trans s0 (Same.trans s1 (Same.trans s2 (Same.trans s3 (Same.trans s4 (Same.trans s5 (Same.trans s6 (Same.trans (same_new nl0) (Same.trans s7 (Same.trans s8 (Same.trans s9 (Same.trans s10 (Same.trans s11 (Same.trans s12 (Same.trans (same_new nl1) (Same.trans (same_new nc1) (Same.trans s13 (Same.trans s14 (Same.trans (same_new nl2) (same_new nc2)))))))))))))))))))) upd_same ?_
    exact .cons (r0.same (Same.trans s1 (Same.trans s2 (Same.trans s3 (Same.trans s4 (Same.trans s5 (Same.trans s6 (Same.trans (same_new nl0) (Same.trans s7 (Same.trans s8 (Same.trans s9 (Same.trans s10 (Same.trans s11 (Same.trans s12 (Same.trans (same_new nl1) (Same.trans (same_new nc1) (Same.trans s13 (Same.trans s14 (Same.trans (same_new nl2) (same_new nc2)))))))))))))))))))) (.cons (r1.same (Same.trans s2 (Same.trans s3 (Same.trans s4 (Same.trans s5 (Same.trans s6 (Same.trans (same_new nl0) (Same.trans s7 (Same.trans s8 (Same.trans s9 (Same.trans s10 (Same.trans s11 (Same.trans s12 (Same.trans (same_new nl1) (Same.trans (same_new nc1) (Same.trans s13 (Same.trans s14 (Same.trans (same_new nl2) (same_new nc2))))))))))))))))))) (.cons (r2.same (Same.trans s3 (Same.trans s4 (Same.trans s5 (Same.trans s6 (Same.trans (same_new nl0) (Same.trans s7 (Same.trans s8 (Same.trans s9 (Same.trans s10 (Same.trans s11 (Same.trans s12 (Same.trans (same_new nl1) (Same.trans (same_new nc1) (Same.trans s13 (Same.trans s14 (Same.trans (same_new nl2) (same_new nc2)))))))))))))))))) (.cons (r3.same (Same.trans s4 (Same.trans s5 (Same.trans s6 (Same.trans (same_new nl0) (Same.trans s7 (Same.trans s8 (Same.trans s9 (Same.trans s10 (Same.trans s11 (Same.trans s12 (Same.trans (same_new nl1) (Same.trans (same_new nc1) (Same.trans s13 (Same.trans s14 (Same.trans (same_new nl2) (same_new nc2))))))))))))))))) (.cons (r4.same (Same.trans s5 (Same.trans s6 (Same.trans (same_new nl0) (Same.trans s7 (Same.trans s8 (Same.trans s9 (Same.trans s10 (Same.trans s11 (Same.trans s12 (Same.trans (same_new nl1) (Same.trans (same_new nc1) (Same.trans s13 (Same.trans s14 (Same.trans (same_new nl2) (same_new nc2)))))))))))))))) (.cons (r5.same (Same.trans s6 (Same.trans (same_new nl0) (Same.trans s7 (Same.trans s8 (Same.trans s9 (Same.trans s10 (Same.trans s11 (Same.trans s12 (Same.trans (same_new nl1) (Same.trans (same_new nc1) (Same.trans s13 (Same.trans s14 (Same.trans (same_new nl2) (same_new nc2))))))))))))))) (.cons (r6.same (Same.trans (same_new nl0) (Same.trans s7 (Same.trans s8 (Same.trans s9 (Same.trans s10 (Same.trans s11 (Same.trans s12 (Same.trans (same_new nl1) (Same.trans (same_new nc1) (Same.trans s13 (Same.trans s14 (Same.trans (same_new nl2) (same_new nc2)))))))))))))) (.cons (r7.same (Same.trans s8 (Same.trans s9 (Same.trans s10 (Same.trans s11 (Same.trans s12 (Same.trans (same_new nl1) (Same.trans (same_new nc1) (Same.trans s13 (Same.trans s14 (Same.trans (same_new nl2) (same_new nc2)))))))))))) (.cons (r8.same (Same.trans s9 (Same.trans s10 (Same.trans s11 (Same.trans s12 (Same.trans (same_new nl1) (Same.trans (same_new nc1) (Same.trans s13 (Same.trans s14 (Same.trans (same_new nl2) (same_new nc2))))))))))) (.cons (r9.same (Same.trans s10 (Same.trans s11 (Same.trans s12 (Same.trans (same_new nl1) (Same.trans (same_new nc1) (Same.trans s13 (Same.trans s14 (Same.trans (same_new nl2) (same_new nc2)))))))))) (.cons (r10.same (Same.trans s11 (Same.trans s12 (Same.trans (same_new nl1) (Same.trans (same_new nc1) (Same.trans s13 (Same.trans s14 (Same.trans (same_new nl2) (same_new nc2))))))))) (.cons (r11.same (Same.trans s12 (Same.trans (same_new nl1) (Same.trans (same_new nc1) (Same.trans s13 (Same.trans s14 (Same.trans (same_new nl2) (same_new nc2)))))))) (.cons (r12.same (Same.trans (same_new nl1) (Same.trans (same_new nc1) (Same.trans s13 (Same.trans s14 (Same.trans (same_new nl2) (same_new nc2))))))) (.cons (r13.same (Same.trans s14 (Same.trans (same_new nl2) (same_new nc2)))) (.cons (r14.same (Same.trans (same_new nl2) (same_new nc2))) (.nil)))))))))))))))
theorem ok_by_name (F : Fun K "_law_by_name" "_law_by_name" st_by_name f fd) (Z : Errs P w K mg base c i d) : FnG P w K mg base CX0 3 f fd ["_law_a", "_law_b", "_law_c"] (spBy c) := by
  refine okG F sc_by_name (fun vs H Q E h => ?_) (fun cdv A outer s H vs Q E hgd hr h => ?_)
  · obtain ⟨_, _, _, rfl, _⟩ := h
    rfl
  · obtain ⟨x, y, z, rfl, q⟩ := h
    refine ⟨_, (pss_cons (ps_set (i := 3) sc_by_name.nd rfl (.inl rfl) (pe_lst (pa_cons (pe_errK Z.UnknownGateway.o Z.UnknownGateway.i Z.UnknownGateway.t Z.UnknownGateway.G (hr.mono (by decide)) Z.UnknownGateway.kb Z.UnknownGateway.kr pass0 (by rfl) Z.UnknownGateway.g (pk_cons (pv 0) pk_nil)) (pa_cons (pe_errK Z.BadStep.o Z.BadStep.i Z.BadStep.t Z.BadStep.G (hr.mono (by decide)) Z.BadStep.kb Z.BadStep.kr pass0 (by rfl) Z.BadStep.g (pk_cons (pv 0) pk_nil)) (pa_cons (pe_errK Z.NoEntry.o Z.NoEntry.i Z.NoEntry.t Z.NoEntry.G (hr.mono (by decide)) Z.NoEntry.kb Z.NoEntry.kr pass0 (by rfl) Z.NoEntry.g (pk_cons (pv 0) pk_nil)) (pa_cons (pe_errK Z.NotNeeded.o Z.NotNeeded.i Z.NotNeeded.t Z.NotNeeded.G (hr.mono (by decide)) Z.NotNeeded.kb Z.NotNeeded.kr pass0 (by rfl) Z.NotNeeded.g (pk_cons (pv 0) pk_nil)) (pa_cons (pe_err0 Z.HasRevoke.b (by rfl) Z.HasRevoke.g) (pa_cons (pe_err0 Z.Unnoticed.b (by rfl) Z.Unnoticed.g) pa_nil))))))))
      (pss_cons (ps_set (i := 3) sc_by_name.nd rfl (.inl rfl) (pe_op op_cat (pv 3) (pe_lst (pa_cons (pe_errK Z.BadRegions.o Z.BadRegions.i Z.BadRegions.t Z.BadRegions.G (hr.mono (by decide)) Z.BadRegions.kb Z.BadRegions.kr pass0 (by rfl) Z.BadRegions.g (pk_cons (pv 0) pk_nil)) (pa_cons (pe_errK Z.BadGateway.o Z.BadGateway.i Z.BadGateway.t Z.BadGateway.G (hr.mono (by decide)) Z.BadGateway.kb Z.BadGateway.kr pass0 (by rfl) Z.BadGateway.g (pk_cons (pv 2) (pk_cons (pv 1) (pk_cons (pv 0) pk_nil)))) (pa_cons (pe_errK Z.TakenGateway.o Z.TakenGateway.i Z.TakenGateway.t Z.TakenGateway.G (hr.mono (by decide)) Z.TakenGateway.kb Z.TakenGateway.kr pass0 (by rfl) Z.TakenGateway.g (pk_cons (pv 0) pk_nil)) pa_nil))))))
      (pss_cons (ps_set (i := 3) sc_by_name.nd rfl (.inl rfl) (pe_op op_cat (pv 3) (pe_lst (pa_cons (pe_errK Z.TooMany.o Z.TooMany.i Z.TooMany.t Z.TooMany.G (hr.mono (by decide)) Z.TooMany.kb Z.TooMany.kr pass0 (by rfl) Z.TooMany.g (pk_cons (pv 0) pk_nil)) (pa_cons (pe_errK Z.ClosesCycle.o Z.ClosesCycle.i Z.ClosesCycle.t Z.ClosesCycle.G (hr.mono (by decide)) Z.ClosesCycle.kb Z.ClosesCycle.kr pass0 (by rfl) Z.ClosesCycle.g (pk_cons (pv 0) pk_nil)) (pa_cons (pe_err0 Z.NothingDone.b (by rfl) Z.NothingDone.g) (pa_cons (pe_errK Z.BadMark.o Z.BadMark.i Z.BadMark.t Z.BadMark.G (hr.mono (by decide)) Z.BadMark.kb Z.BadMark.kr pass0 (by rfl) Z.BadMark.g (pk_cons (pv 0) pk_nil)) pa_nil)))))))
      (pss_one (ps_ret (pe_op op_cat (pv 3) (pe_lst (pa_cons (pe_errK Z.BadText.o Z.BadText.i Z.BadText.t Z.BadText.G (hr.mono (by decide)) Z.BadText.kb Z.BadText.kr pass0 (by rfl) Z.BadText.g (pk_cons (pv 0) pk_nil)) (pa_cons (pe_errK Z.BadLine.o Z.BadLine.i Z.BadLine.t Z.BadLine.G (hr.mono (by decide)) Z.BadLine.kb Z.BadLine.kr pass0 (by rfl) Z.BadLine.g (pk_cons (pv 0) pk_nil)) pa_nil))))))))), ?_⟩
    refine ⟨_, rfl, rfl, fun e0 n0 => mk1 n0 fun H0 s0 r0 => ?_⟩
    refine ⟨_, rfl, rfl, fun e1 n1 => mk1 n1 fun H1 s1 r1 => ?_⟩
    refine ⟨_, rfl, rfl, fun e2 n2 => mk1 n2 fun H2 s2 r2 => ?_⟩
    refine ⟨_, rfl, rfl, fun e3 n3 => mk1 n3 fun H3 s3 r3 => ?_⟩
    intro e4 n4
    obtain ⟨H4, hh4, s4, r4⟩ := mk0 (C := c 4) n4
    rw [← hh4]
    intro e5 n5
    obtain ⟨H5, hh5, s5, r5⟩ := mk0 (C := c 5) n5
    rw [← hh5]
    refine ⟨(by show 6 ≤ sizeLine; decide), fun l0 nl0 => ?_⟩
    refine ⟨_, rfl, ?_⟩
    refine ⟨_, rfl, rfl, fun e6 n6 => mk1 n6 fun H6 s6 r6 => ?_⟩
    refine ⟨_, rfl, _, rfl, _, rfl, rfl, fun e7 n7 => mk3 n7 fun H7 s7 r7 => ?_⟩
    refine ⟨_, rfl, rfl, fun e8 n8 => mk1 n8 fun H8 s8 r8 => ?_⟩
    refine ⟨(by show 3 ≤ sizeLine; decide), fun l1 nl1 => ?_⟩
    refine ⟨l0, l1, _, _, rfl, rfl, (Same.trans s6 (Same.trans s7 (Same.trans s8 (same_new nl1)))) _ _ upd_same, upd_same, (by show 6 + 3 ≤ sizeLine; decide), fun c1 nc1 => ?_⟩
    refine ⟨_, rfl, ?_⟩
    refine ⟨_, rfl, rfl, fun e9 n9 => mk1 n9 fun H9 s9 r9 => ?_⟩
    refine ⟨_, rfl, rfl, fun e10 n10 => mk1 n10 fun H10 s10 r10 => ?_⟩
    intro e11 n11
    obtain ⟨H11, hh11, s11, r11⟩ := mk0 (C := c 11) n11
    rw [← hh11]
    refine ⟨_, rfl, rfl, fun e12 n12 => mk1 n12 fun H12 s12 r12 => ?_⟩
    refine ⟨(by show 4 ≤ sizeLine; decide), fun l2 nl2 => ?_⟩
    refine ⟨c1, l2, _, _, rfl, rfl, (Same.trans s9 (Same.trans s10 (Same.trans s11 (Same.trans s12 (same_new nl2))))) _ _ upd_same, upd_same, (by show 9 + 4 ≤ sizeLine; decide), fun c2 nc2 => ?_⟩
    refine ⟨_, rfl, ?_⟩
    refine ⟨_, rfl, rfl, fun e13 n13 => mk1 n13 fun H13 s13 r13 => ?_⟩
    refine ⟨_, rfl, rfl, fun e14 n14 => mk1 n14 fun H14 s14 r14 => ?_⟩
    refine ⟨(by show 2 ≤ sizeLine; decide), fun l3 nl3 => ?_⟩
    refine ⟨c2, l3, _, _, rfl, rfl, (Same.trans s13 (Same.trans s14 (same_new nl3))) _ _ upd_same, upd_same, (by show 13 + 2 ≤ sizeLine; decide), fun c3 nc3 => ?_⟩
    refine q _ c3 [e0, e1, e2, e3, e4, e5, e6, e7, e8, e9, e10, e11, e12, e13, e14] (Same.trans s0 (Same.trans s1 (Same.trans s2 (Same.trans s3 (Same.trans s4 (Same.trans s5 (Same.trans (same_new nl0) (Same.trans s6 (Same.trans s7 (Same.trans s8 (Same.trans (same_new nl1) (Same.trans (same_new nc1) (Same.trans s9 (Same.trans s10 (Same.trans s11 (Same.trans s12 (Same.trans (same_new nl2) (Same.trans (same_new nc2) (Same.trans s13 (Same.trans s14 (Same.trans (same_new nl3) (same_new nc3)))))))))))))))))))))) upd_same ?_
    exact .cons (r0.same (Same.trans s1 (Same.trans s2 (Same.trans s3 (Same.trans s4 (Same.trans s5 (Same.trans (same_new nl0) (Same.trans s6 (Same.trans s7 (Same.trans s8 (Same.trans (same_new nl1) (Same.trans (same_new nc1) (Same.trans s9 (Same.trans s10 (Same.trans s11 (Same.trans s12 (Same.trans (same_new nl2) (Same.trans (same_new nc2) (Same.trans s13 (Same.trans s14 (Same.trans (same_new nl3) (same_new nc3)))))))))))))))))))))) (.cons (r1.same (Same.trans s2 (Same.trans s3 (Same.trans s4 (Same.trans s5 (Same.trans (same_new nl0) (Same.trans s6 (Same.trans s7 (Same.trans s8 (Same.trans (same_new nl1) (Same.trans (same_new nc1) (Same.trans s9 (Same.trans s10 (Same.trans s11 (Same.trans s12 (Same.trans (same_new nl2) (Same.trans (same_new nc2) (Same.trans s13 (Same.trans s14 (Same.trans (same_new nl3) (same_new nc3))))))))))))))))))))) (.cons (r2.same (Same.trans s3 (Same.trans s4 (Same.trans s5 (Same.trans (same_new nl0) (Same.trans s6 (Same.trans s7 (Same.trans s8 (Same.trans (same_new nl1) (Same.trans (same_new nc1) (Same.trans s9 (Same.trans s10 (Same.trans s11 (Same.trans s12 (Same.trans (same_new nl2) (Same.trans (same_new nc2) (Same.trans s13 (Same.trans s14 (Same.trans (same_new nl3) (same_new nc3)))))))))))))))))))) (.cons (r3.same (Same.trans s4 (Same.trans s5 (Same.trans (same_new nl0) (Same.trans s6 (Same.trans s7 (Same.trans s8 (Same.trans (same_new nl1) (Same.trans (same_new nc1) (Same.trans s9 (Same.trans s10 (Same.trans s11 (Same.trans s12 (Same.trans (same_new nl2) (Same.trans (same_new nc2) (Same.trans s13 (Same.trans s14 (Same.trans (same_new nl3) (same_new nc3))))))))))))))))))) (.cons (r4.same (Same.trans s5 (Same.trans (same_new nl0) (Same.trans s6 (Same.trans s7 (Same.trans s8 (Same.trans (same_new nl1) (Same.trans (same_new nc1) (Same.trans s9 (Same.trans s10 (Same.trans s11 (Same.trans s12 (Same.trans (same_new nl2) (Same.trans (same_new nc2) (Same.trans s13 (Same.trans s14 (Same.trans (same_new nl3) (same_new nc3)))))))))))))))))) (.cons (r5.same (Same.trans (same_new nl0) (Same.trans s6 (Same.trans s7 (Same.trans s8 (Same.trans (same_new nl1) (Same.trans (same_new nc1) (Same.trans s9 (Same.trans s10 (Same.trans s11 (Same.trans s12 (Same.trans (same_new nl2) (Same.trans (same_new nc2) (Same.trans s13 (Same.trans s14 (Same.trans (same_new nl3) (same_new nc3))))))))))))))))) (.cons (r6.same (Same.trans s7 (Same.trans s8 (Same.trans (same_new nl1) (Same.trans (same_new nc1) (Same.trans s9 (Same.trans s10 (Same.trans s11 (Same.trans s12 (Same.trans (same_new nl2) (Same.trans (same_new nc2) (Same.trans s13 (Same.trans s14 (Same.trans (same_new nl3) (same_new nc3))))))))))))))) (.cons (r7.same (Same.trans s8 (Same.trans (same_new nl1) (Same.trans (same_new nc1) (Same.trans s9 (Same.trans s10 (Same.trans s11 (Same.trans s12 (Same.trans (same_new nl2) (Same.trans (same_new nc2) (Same.trans s13 (Same.trans s14 (Same.trans (same_new nl3) (same_new nc3)))))))))))))) (.cons (r8.same (Same.trans (same_new nl1) (Same.trans (same_new nc1) (Same.trans s9 (Same.trans s10 (Same.trans s11 (Same.trans s12 (Same.trans (same_new nl2) (Same.trans (same_new nc2) (Same.trans s13 (Same.trans s14 (Same.trans (same_new nl3) (same_new nc3))))))))))))) (.cons (r9.same (Same.trans s10 (Same.trans s11 (Same.trans s12 (Same.trans (same_new nl2) (Same.trans (same_new nc2) (Same.trans s13 (Same.trans s14 (Same.trans (same_new nl3) (same_new nc3)))))))))) (.cons (r10.same (Same.trans s11 (Same.trans s12 (Same.trans (same_new nl2) (Same.trans (same_new nc2) (Same.trans s13 (Same.trans s14 (Same.trans (same_new nl3) (same_new nc3))))))))) (.cons (r11.same (Same.trans s12 (Same.trans (same_new nl2) (Same.trans (same_new nc2) (Same.trans s13 (Same.trans s14 (Same.trans (same_new nl3) (same_new nc3)))))))) (.cons (r12.same (Same.trans (same_new nl2) (Same.trans (same_new nc2) (Same.trans s13 (Same.trans s14 (Same.trans (same_new nl3) (same_new nc3))))))) (.cons (r13.same (Same.trans s14 (Same.trans (same_new nl3) (same_new nc3)))) (.cons (r14.same (Same.trans (same_new nl3) (same_new nc3))) (.nil)))))))))))))))
end
end K34

set_option Elab.async false
set_option linter.all false
set_option maxRecDepth 100000
set_option maxHeartbeats 4000000
namespace K34
open PySem PySem.Spec PyProof.Rows L2 WT
/-- what the fifteen classes are to each other -/
structure Kn (K : PySem.W.Frag) (c : Nat → Addr) (CT : Addr) : Prop where
  x : ∀ i, i < 15 → ExcC K (c i)
  k : ∀ i j, i < 15 → j < 15 → PySem.W.kitOne K (.ref (c i)) (.ref (c j)) = some (decide (j = i))
  tr : ∀ i, i < 15 → PySem.W.kitOne K (.ref (c i)) (.ref CT) = some true
  ve : ∀ i, i < 15 → PySem.W.kitOne K (.ref (c i)) (.type "ValueError") = some true
def marks (i : Nat) : List V := (List.range 15).map fun j => V.bl (decide (j = i))
/-- sorts(e): of which of the fifteen classes it is -/
def spSorts (c : Nat → Addr) : Sp := fun vs H Q _ => ∃ (e : Addr) (i : Nat) (fs : List (Str × V)), vs = [.ref e] ∧ i < 15 ∧ Err H e (c i) fs ∧ ∀ H' p, Same H H' → H' p = some (.lst (marks i)) → Q (.ref p) H'
/-- values(some): all that the errors keep -/
def spValues (c : Nat → Addr) : Sp := fun vs H Q _ => ∃ (p : Addr) (es : List Addr) (x y z : V), vs = [.ref p] ∧ H p = some (.lst (es.map V.ref)) ∧ Paired (ErrOf H) es (specs c x y z) ∧
  ∀ H' l t, Same H H' → H' l = some (.lst [x, x, x, x, x, .ref t, x, x, x, x, x, x]) → H' t = some (.tup [x, y, z]) → Q (.ref l) H'
theorem lk_name {x y z : V} : List.lookup ("name" : Str) [("kind", z), ("members", y), ("name", x)] = some x := by
  rw [lookup_put, if_neg (by decide), lookup_put, if_neg (by decide), lookup_put, if_pos rfl]
theorem lk_members {x y z : V} : List.lookup ("members" : Str) [("kind", z), ("members", y), ("name", x)] = some y := by
  rw [lookup_put, if_neg (by decide), lookup_put, if_pos rfl]
theorem lk_kind {x y z : V} : List.lookup ("kind" : Str) [("kind", z), ("members", y), ("name", x)] = some z := by
  rw [lookup_put, if_pos rfl]
theorem lk_one {n : Str} {x : V} : List.lookup n [(n, x)] = some x := by
  rw [lookup_put, if_pos rfl]
section
variable {P : Program} {w : World} {K : PySem.W.Frag} {mg : Str → Option Value} {base : Heap} {f CT : Addr} {fd : FuncData} {c i : Nat → Addr} {d : Nat → FuncData}
theorem ok_sorts (F : Fun K "_law_sorts" "_law_sorts" st_sorts f fd) (B : Blt mg) (Z : Errs P w K mg base c i d) (T : Kn K c CT) : FnG P w K mg base CX0 1 f fd ["_law_e"] (spSorts c) := by
  refine okG F sc_sorts (fun vs H Q E h => ?_) (fun cdv A outer s H vs Q E hgd hr h => ?_)
  · obtain ⟨_, _, _, rfl, _⟩ := h
    rfl
  · obtain ⟨e, m, fs, rfl, hm, he, q⟩ := h
    refine ⟨_, (pss_cons (ps_set (i := 1) sc_sorts.nd rfl (.inl rfl) (pe_lst (pa_cons (pe_callB call_isErr (by rfl) B.isinstance (by decide +kernel) (pa_cons (pv 0) (pa_cons (pe_glob (v := .ref _) rfl Z.UnknownGateway.g rfl) pa_nil))) (pa_cons (pe_callB call_isErr (by rfl) B.isinstance (by decide +kernel) (pa_cons (pv 0) (pa_cons (pe_glob (v := .ref _) rfl Z.BadStep.g rfl) pa_nil))) (pa_cons (pe_callB call_isErr (by rfl) B.isinstance (by decide +kernel) (pa_cons (pv 0) (pa_cons (pe_glob (v := .ref _) rfl Z.NoEntry.g rfl) pa_nil))) (pa_cons (pe_callB call_isErr (by rfl) B.isinstance (by decide +kernel) (pa_cons (pv 0) (pa_cons (pe_glob (v := .ref _) rfl Z.NotNeeded.g rfl) pa_nil))) pa_nil))))))
      (pss_cons (ps_set (i := 1) sc_sorts.nd rfl (.inl rfl) (pe_op op_cat (pv 1) (pe_lst (pa_cons (pe_callB call_isErr (by rfl) B.isinstance (by decide +kernel) (pa_cons (pv 0) (pa_cons (pe_glob (v := .ref _) rfl Z.HasRevoke.g rfl) pa_nil))) (pa_cons (pe_callB call_isErr (by rfl) B.isinstance (by decide +kernel) (pa_cons (pv 0) (pa_cons (pe_glob (v := .ref _) rfl Z.Unnoticed.g rfl) pa_nil))) (pa_cons (pe_callB call_isErr (by rfl) B.isinstance (by decide +kernel) (pa_cons (pv 0) (pa_cons (pe_glob (v := .ref _) rfl Z.BadRegions.g rfl) pa_nil))) pa_nil))))))
      (pss_cons (ps_set (i := 1) sc_sorts.nd rfl (.inl rfl) (pe_op op_cat (pv 1) (pe_lst (pa_cons (pe_callB call_isErr (by rfl) B.isinstance (by decide +kernel) (pa_cons (pv 0) (pa_cons (pe_glob (v := .ref _) rfl Z.BadGateway.g rfl) pa_nil))) (pa_cons (pe_callB call_isErr (by rfl) B.isinstance (by decide +kernel) (pa_cons (pv 0) (pa_cons (pe_glob (v := .ref _) rfl Z.TakenGateway.g rfl) pa_nil))) (pa_cons (pe_callB call_isErr (by rfl) B.isinstance (by decide +kernel) (pa_cons (pv 0) (pa_cons (pe_glob (v := .ref _) rfl Z.TooMany.g rfl) pa_nil))) pa_nil))))))
      (pss_cons (ps_set (i := 1) sc_sorts.nd rfl (.inl rfl) (pe_op op_cat (pv 1) (pe_lst (pa_cons (pe_callB call_isErr (by rfl) B.isinstance (by decide +kernel) (pa_cons (pv 0) (pa_cons (pe_glob (v := .ref _) rfl Z.ClosesCycle.g rfl) pa_nil))) (pa_cons (pe_callB call_isErr (by rfl) B.isinstance (by decide +kernel) (pa_cons (pv 0) (pa_cons (pe_glob (v := .ref _) rfl Z.NothingDone.g rfl) pa_nil))) (pa_cons (pe_callB call_isErr (by rfl) B.isinstance (by decide +kernel) (pa_cons (pv 0) (pa_cons (pe_glob (v := .ref _) rfl Z.BadMark.g rfl) pa_nil))) pa_nil))))))
      (pss_one (ps_ret (pe_op op_cat (pv 1) (pe_lst (pa_cons (pe_callB call_isErr (by rfl) B.isinstance (by decide +kernel) (pa_cons (pv 0) (pa_cons (pe_glob (v := .ref _) rfl Z.BadText.g rfl) pa_nil))) (pa_cons (pe_callB call_isErr (by rfl) B.isinstance (by decide +kernel) (pa_cons (pv 0) (pa_cons (pe_glob (v := .ref _) rfl Z.BadLine.g rfl) pa_nil))) pa_nil)))))))))), ?_⟩
    refine ⟨_, rfl, e, c m, fs, .ref (c 0), .ref (c 0), decide (0 = m), rfl, he, T.x m hm, (fun u r => r), T.k m 0 hm (by decide), ?_⟩
    refine ⟨_, rfl, e, c m, fs, .ref (c 1), .ref (c 1), decide (1 = m), rfl, he, T.x m hm, (fun u r => r), T.k m 1 hm (by decide), ?_⟩
    refine ⟨_, rfl, e, c m, fs, .ref (c 2), .ref (c 2), decide (2 = m), rfl, he, T.x m hm, (fun u r => r), T.k m 2 hm (by decide), ?_⟩
    refine ⟨_, rfl, e, c m, fs, .ref (c 3), .ref (c 3), decide (3 = m), rfl, he, T.x m hm, (fun u r => r), T.k m 3 hm (by decide), ?_⟩
    refine ⟨(by show 4 ≤ sizeLine; decide), fun l0 nl0 => ?_⟩
    have z0 := same_new nl0 (o := .lst [V.bl (decide (0 = m)), V.bl (decide (1 = m)), V.bl (decide (2 = m)), V.bl (decide (3 = m))])
    have he0 := he.same z0
    have tt0 := z0
    refine ⟨_, rfl, ?_⟩
    refine ⟨_, rfl, e, c m, fs, .ref (c 4), .ref (c 4), decide (4 = m), rfl, he0, T.x m hm, (fun u r => r), T.k m 4 hm (by decide), ?_⟩
    refine ⟨_, rfl, e, c m, fs, .ref (c 5), .ref (c 5), decide (5 = m), rfl, he0, T.x m hm, (fun u r => r), T.k m 5 hm (by decide), ?_⟩
    refine ⟨_, rfl, e, c m, fs, .ref (c 6), .ref (c 6), decide (6 = m), rfl, he0, T.x m hm, (fun u r => r), T.k m 6 hm (by decide), ?_⟩
    refine ⟨(by show 3 ≤ sizeLine; decide), fun l1 nl1 => ?_⟩
    have z1 := same_new nl1 (o := .lst [V.bl (decide (4 = m)), V.bl (decide (5 = m)), V.bl (decide (6 = m))])
    refine ⟨l0, l1, _, _, rfl, rfl, z1 _ _ upd_same, upd_same, (by show 4 + 3 ≤ sizeLine; decide), fun c1 nc1 => ?_⟩
    have y1 := same_new nc1 (o := .lst [V.bl (decide (0 = m)), V.bl (decide (1 = m)), V.bl (decide (2 = m)), V.bl (decide (3 = m)), V.bl (decide (4 = m)), V.bl (decide (5 = m)), V.bl (decide (6 = m))])
    have he1 := (he0.same z1).same y1
    have tt1 := (tt0.trans z1).trans y1
    refine ⟨_, rfl, ?_⟩
    refine ⟨_, rfl, e, c m, fs, .ref (c 7), .ref (c 7), decide (7 = m), rfl, he1, T.x m hm, (fun u r => r), T.k m 7 hm (by decide), ?_⟩
    refine ⟨_, rfl, e, c m, fs, .ref (c 8), .ref (c 8), decide (8 = m), rfl, he1, T.x m hm, (fun u r => r), T.k m 8 hm (by decide), ?_⟩
    refine ⟨_, rfl, e, c m, fs, .ref (c 9), .ref (c 9), decide (9 = m), rfl, he1, T.x m hm, (fun u r => r), T.k m 9 hm (by decide), ?_⟩
    refine ⟨(by show 3 ≤ sizeLine; decide), fun l2 nl2 => ?_⟩
    have z2 := same_new nl2 (o := .lst [V.bl (decide (7 = m)), V.bl (decide (8 = m)), V.bl (decide (9 = m))])
    refine ⟨c1, l2, _, _, rfl, rfl, z2 _ _ upd_same, upd_same, (by show 7 + 3 ≤ sizeLine; decide), fun c2 nc2 => ?_⟩
    have y2 := same_new nc2 (o := .lst [V.bl (decide (0 = m)), V.bl (decide (1 = m)), V.bl (decide (2 = m)), V.bl (decide (3 = m)), V.bl (decide (4 = m)), V.bl (decide (5 = m)), V.bl (decide (6 = m)), V.bl (decide (7 = m)), V.bl (decide (8 = m)), V.bl (decide (9 = m))])
    have he2 := (he1.same z2).same y2
    have tt2 := (tt1.trans z2).trans y2
    refine ⟨_, rfl, ?_⟩
    refine ⟨_, rfl, e, c m, fs, .ref (c 10), .ref (c 10), decide (10 = m), rfl, he2, T.x m hm, (fun u r => r), T.k m 10 hm (by decide), ?_⟩
    refine ⟨_, rfl, e, c m, fs, .ref (c 11), .ref (c 11), decide (11 = m), rfl, he2, T.x m hm, (fun u r => r), T.k m 11 hm (by decide), ?_⟩
    refine ⟨_, rfl, e, c m, fs, .ref (c 12), .ref (c 12), decide (12 = m), rfl, he2, T.x m hm, (fun u r => r), T.k m 12 hm (by decide), ?_⟩
    refine ⟨(by show 3 ≤ sizeLine; decide), fun l3 nl3 => ?_⟩
    have z3 := same_new nl3 (o := .lst [V.bl (decide (10 = m)), V.bl (decide (11 = m)), V.bl (decide (12 = m))])
    refine ⟨c2, l3, _, _, rfl, rfl, z3 _ _ upd_same, upd_same, (by show 10 + 3 ≤ sizeLine; decide), fun c3 nc3 => ?_⟩
    have y3 := same_new nc3 (o := .lst [V.bl (decide (0 = m)), V.bl (decide (1 = m)), V.bl (decide (2 = m)), V.bl (decide (3 = m)), V.bl (decide (4 = m)), V.bl (decide (5 = m)), V.bl (decide (6 = m)), V.bl (decide (7 = m)), V.bl (decide (8 = m)), V.bl (decide (9 = m)), V.bl (decide (10 = m)), V.bl (decide (11 = m)), V.bl (decide (12 = m))])
    have he3 := (he2.same z3).same y3
    have tt3 := (tt2.trans z3).trans y3
    refine ⟨_, rfl, ?_⟩
    refine ⟨_, rfl, e, c m, fs, .ref (c 13), .ref (c 13), decide (13 = m), rfl, he3, T.x m hm, (fun u r => r), T.k m 13 hm (by decide), ?_⟩
    refine ⟨_, rfl, e, c m, fs, .ref (c 14), .ref (c 14), decide (14 = m), rfl, he3, T.x m hm, (fun u r => r), T.k m 14 hm (by decide), ?_⟩
    refine ⟨(by show 2 ≤ sizeLine; decide), fun l4 nl4 => ?_⟩
    have z4 := same_new nl4 (o := .lst [V.bl (decide (13 = m)), V.bl (decide (14 = m))])
    refine ⟨c3, l4, _, _, rfl, rfl, z4 _ _ upd_same, upd_same, (by show 13 + 2 ≤ sizeLine; decide), fun c4 nc4 => ?_⟩
    have y4 := same_new nc4 (o := .lst [V.bl (decide (0 = m)), V.bl (decide (1 = m)), V.bl (decide (2 = m)), V.bl (decide (3 = m)), V.bl (decide (4 = m)), V.bl (decide (5 = m)), V.bl (decide (6 = m)), V.bl (decide (7 = m)), V.bl (decide (8 = m)), V.bl (decide (9 = m)), V.bl (decide (10 = m)), V.bl (decide (11 = m)), V.bl (decide (12 = m)), V.bl (decide (13 = m)), V.bl (decide (14 = m))])
    have he4 := (he3.same z4).same y4
    have tt4 := (tt3.trans z4).trans y4
    exact q _ _ tt4 upd_same
theorem ok_values (F : Fun K "_law_values" "_law_values" st_values f fd) (Z : Errs P w K mg base c i d) (T : Kn K c CT) : FnG P w K mg base CX0 1 f fd ["_law_some"] (spValues c) := by
  refine okG F sc_values (fun vs H Q E h => ?_) (fun cdv A outer s H vs Q E hgd hr h => ?_)
  · obtain ⟨_, _, _, _, _, rfl, _⟩ := h
    rfl
  · obtain ⟨p, es, x, y, z, rfl, hp, he, q⟩ := h
    unfold specs at he
    rcases he with _ | ⟨r0, he⟩
    rename_i e0 _
    rcases he with _ | ⟨r1, he⟩
    rename_i e1 _
    rcases he with _ | ⟨r2, he⟩
    rename_i e2 _
    rcases he with _ | ⟨r3, he⟩
    rename_i e3 _
    rcases he with _ | ⟨r4, he⟩
    rename_i e4 _
    rcases he with _ | ⟨r5, he⟩
    rename_i e5 _
    rcases he with _ | ⟨r6, he⟩
    rename_i e6 _
    rcases he with _ | ⟨r7, he⟩
    rename_i e7 _
    rcases he with _ | ⟨r8, he⟩
    rename_i e8 _
    rcases he with _ | ⟨r9, he⟩
    rename_i e9 _
    rcases he with _ | ⟨r10, he⟩
    rename_i e10 _
    rcases he with _ | ⟨r11, he⟩
    rename_i e11 _
    rcases he with _ | ⟨r12, he⟩
    rename_i e12 _
    rcases he with _ | ⟨r13, he⟩
    rename_i e13 _
    rcases he with _ | ⟨r14, he⟩
    rename_i e14 _
    cases he
    refine ⟨_, (pss_cons (ps_set (i := 1) sc_values.nd rfl (.inl rfl) (pe_lst (pa_cons (pe_errF (pe_ix ix_list (pv 0) pe_int (fun _ _ => rfl))) (pa_cons (pe_errF (pe_ix ix_list (pv 0) pe_int (fun _ _ => rfl))) (pa_cons (pe_errF (pe_ix ix_list (pv 0) pe_int (fun _ _ => rfl))) (pa_cons (pe_errF (pe_ix ix_list (pv 0) pe_int (fun _ _ => rfl))) (pa_cons (pe_errF (pe_ix ix_list (pv 0) pe_int (fun _ _ => rfl))) pa_nil)))))))
      (pss_cons (ps_set (i := 1) sc_values.nd rfl (.inl rfl) (pe_op op_cat (pv 1) (pe_lst (pa_cons (pe_tup (pa_cons (pe_errF (pe_ix ix_list (pv 0) pe_int (fun _ _ => rfl))) (pa_cons (pe_errF (pe_ix ix_list (pv 0) pe_int (fun _ _ => rfl))) (pa_cons (pe_errF (pe_ix ix_list (pv 0) pe_int (fun _ _ => rfl))) pa_nil)))) (pa_cons (pe_errF (pe_ix ix_list (pv 0) pe_int (fun _ _ => rfl))) (pa_cons (pe_errF (pe_ix ix_list (pv 0) pe_int (fun _ _ => rfl))) (pa_cons (pe_errF (pe_ix ix_list (pv 0) pe_int (fun _ _ => rfl))) pa_nil)))))))
      (pss_one (ps_ret (pe_op op_cat (pv 1) (pe_lst (pa_cons (pe_errF (pe_ix ix_list (pv 0) pe_int (fun _ _ => rfl))) (pa_cons (pe_errF (pe_ix ix_list (pv 0) pe_int (fun _ _ => rfl))) (pa_cons (pe_errF (pe_ix ix_list (pv 0) pe_int (fun _ _ => rfl))) pa_nil))))))))), ?_⟩
    refine ⟨_, rfl, p, _, 0, .ref e0, rfl, rfl, SqL.of hp, atI_nat (j := 0) rfl, e0, c 0, _, x, rfl, r0, T.x 0 (by decide), Z.UnknownGateway.no, lk_one, ?_⟩
    refine ⟨_, rfl, p, _, 1, .ref e1, rfl, rfl, SqL.of hp, atI_nat (j := 1) rfl, e1, c 1, _, x, rfl, r1, T.x 1 (by decide), Z.BadStep.no, lk_one, ?_⟩
    refine ⟨_, rfl, p, _, 2, .ref e2, rfl, rfl, SqL.of hp, atI_nat (j := 2) rfl, e2, c 2, _, x, rfl, r2, T.x 2 (by decide), Z.NoEntry.no, lk_one, ?_⟩
    refine ⟨_, rfl, p, _, 3, .ref e3, rfl, rfl, SqL.of hp, atI_nat (j := 3) rfl, e3, c 3, _, x, rfl, r3, T.x 3 (by decide), Z.NotNeeded.no, lk_one, ?_⟩
    refine ⟨_, rfl, p, _, 6, .ref e6, rfl, rfl, SqL.of hp, atI_nat (j := 6) rfl, e6, c 6, _, x, rfl, r6, T.x 6 (by decide), Z.BadRegions.no, lk_one, ?_⟩
    refine ⟨(by show 5 ≤ sizeLine; decide), fun l0 nl0 => ?_⟩
    have s1 := same_new nl0 (o := .lst [x, x, x, x, x])
    refine ⟨_, rfl, ?_⟩
    refine ⟨_, rfl, p, _, 7, .ref e7, rfl, rfl, SqL.of (s1 _ _ hp), atI_nat (j := 7) rfl, e7, c 7, _, x, rfl, r7.same s1, T.x 7 (by decide), Z.BadGateway.no.1, lk_name, ?_⟩
    refine ⟨_, rfl, p, _, 7, .ref e7, rfl, rfl, SqL.of (s1 _ _ hp), atI_nat (j := 7) rfl, e7, c 7, _, y, rfl, r7.same s1, T.x 7 (by decide), Z.BadGateway.no.2.1, lk_members, ?_⟩
    refine ⟨_, rfl, p, _, 7, .ref e7, rfl, rfl, SqL.of (s1 _ _ hp), atI_nat (j := 7) rfl, e7, c 7, _, z, rfl, r7.same s1, T.x 7 (by decide), Z.BadGateway.no.2.2, lk_kind, ?_⟩
    refine ⟨(by show 3 ≤ sizeLine; decide), fun t nt => ?_⟩
    have s2 := s1.trans (same_new nt (o := .tup [x, y, z]))
    refine ⟨_, rfl, p, _, 8, .ref e8, rfl, rfl, SqL.of (s2 _ _ hp), atI_nat (j := 8) rfl, e8, c 8, _, x, rfl, r8.same s2, T.x 8 (by decide), Z.TakenGateway.no, lk_one, ?_⟩
    refine ⟨_, rfl, p, _, 9, .ref e9, rfl, rfl, SqL.of (s2 _ _ hp), atI_nat (j := 9) rfl, e9, c 9, _, x, rfl, r9.same s2, T.x 9 (by decide), Z.TooMany.no, lk_one, ?_⟩
    refine ⟨_, rfl, p, _, 10, .ref e10, rfl, rfl, SqL.of (s2 _ _ hp), atI_nat (j := 10) rfl, e10, c 10, _, x, rfl, r10.same s2, T.x 10 (by decide), Z.ClosesCycle.no, lk_one, ?_⟩
    refine ⟨(by show 4 ≤ sizeLine; decide), fun l1 nl1 => ?_⟩
    have z1 := same_new nl1 (o := .lst [.ref t, x, x, x])
    have s3 := s2.trans z1
    refine ⟨l0, l1, _, _, rfl, rfl, z1 _ _ (same_new nt _ _ upd_same), upd_same, (by show 5 + 4 ≤ sizeLine; decide), fun l2 nl2 => ?_⟩
    have z2 := same_new nl2 (o := .lst [x, x, x, x, x, .ref t, x, x, x])
    have s4 := s3.trans z2
    refine ⟨_, rfl, ?_⟩
    refine ⟨_, rfl, p, _, 12, .ref e12, rfl, rfl, SqL.of (s4 _ _ hp), atI_nat (j := 12) rfl, e12, c 12, _, x, rfl, r12.same s4, T.x 12 (by decide), Z.BadMark.no, lk_one, ?_⟩
    refine ⟨_, rfl, p, _, 13, .ref e13, rfl, rfl, SqL.of (s4 _ _ hp), atI_nat (j := 13) rfl, e13, c 13, _, x, rfl, r13.same s4, T.x 13 (by decide), Z.BadText.no, lk_one, ?_⟩
    refine ⟨_, rfl, p, _, 14, .ref e14, rfl, rfl, SqL.of (s4 _ _ hp), atI_nat (j := 14) rfl, e14, c 14, _, x, rfl, r14.same s4, T.x 14 (by decide), Z.BadLine.no, lk_one, ?_⟩
    refine ⟨(by show 3 ≤ sizeLine; decide), fun l3 nl3 => ?_⟩
    have z3 := same_new nl3 (o := .lst [x, x, x])
    refine ⟨l2, l3, _, _, rfl, rfl, z3 _ _ upd_same, upd_same, (by show 9 + 3 ≤ sizeLine; decide), fun l4 nl4 => ?_⟩
    have z4 := same_new nl4 (o := .lst [x, x, x, x, x, .ref t, x, x, x, x, x, x])
    exact q _ l4 t ((s4.trans z3).trans z4) upd_same (z4 _ _ (z3 _ _ (z2 _ _ (z1 _ _ upd_same))))
end
end K34

set_option Elab.async false
set_option linter.all false
set_option maxRecDepth 100000
set_option maxHeartbeats 4000000
namespace K34
open PySem PySem.Spec PyProof.Rows L2 WT
abbrev st_right : Stmt := top 25
abbrev st_law : Stmt := top 26
theorem sc_right : FnScope ["_law_pot_here", "_law_odd", "_law_a", "_law_b", "_law_c", "_law_some", "_law_at", "_law_error", "_law_due", "_law_number"] ["_law_pot_here"] (defScope st_right) := ⟨rfl, rfl, rfl, by decide +kernel, rfl, by decide +kernel, by decide +kernel⟩
theorem sc_law : FnScope ["_law_script", "_law_k"] ["_law_script"] (defScope st_law) := ⟨rfl, rfl, rfl, by decide +kernel, rfl, by decide +kernel, by decide +kernel⟩
/-- the odd values, once their objects stand at these places -/
def odd (t0 t1 m0 m1 t2 d0 : Addr) : List V := [.non, .bl true, .bl false, .int 0, .int 7, .str "", .str "a", .ref t0, .ref t1, .ref m0, .ref m1, .ref t2, .ref d0]
structure OddAt (H : Hp) (t0 t1 m0 m1 t2 d0 : Addr) : Prop where
  t0 : H t0 = some (.tup [])
  t1 : H t1 = some (.tup [.int 0])
  m0 : H m0 = some (.lst [])
  m1 : H m1 = some (.lst [.int 0])
  t2 : H t2 = some (.tup [.str "wrap", .int 0])
  d0 : H d0 = some (.dK [])
theorem OddAt.same {H H' : Hp} {t0 t1 m0 m1 t2 d0 : Addr} (o : OddAt H t0 t1 m0 m1 t2 d0) (s : Same H H') : OddAt H' t0 t1 m0 m1 t2 d0 := ⟨s _ _ o.t0, s _ _ o.t1, s _ _ o.m0, s _ _ o.m1, s _ _ o.t2, s _ _ o.d0⟩
theorem OddAt.but {H H' : Hp} {t0 t1 m0 m1 t2 d0 a : Addr} {p q r : V} (o : OddAt H t0 t1 m0 m1 t2 d0) (ha : H a = some (.lst [p, q, r])) (s : But a H H') : OddAt H' t0 t1 m0 m1 t2 d0 :=
  ⟨s _ _ (ne_of o.t0 ha (by intro z; cases z)) o.t0, s _ _ (ne_of o.t1 ha (by intro z; cases z)) o.t1, s _ _ (ne_of o.m0 ha (by intro z; cases z)) o.m0, s _ _ (ne_of o.m1 ha (by intro z; cases z)) o.m1,
    s _ _ (ne_of o.t2 ha (by intro z; cases z)) o.t2, s _ _ (ne_of o.d0 ha (by intro z; cases z)) o.d0⟩
theorem fit_none : Fit 0 20 .none := ⟨by decide +kernel, by decide +kernel, by decide +kernel⟩
theorem odd_dt {K : PySem.W.Frag} {H : Hp} {t0 t1 m0 m1 t2 d0 : Addr} {x : V} (o : OddAt H t0 t1 m0 m1 t2 d0) (hx : x ∈ odd t0 t1 m0 m1 t2 d0) : ∃ d : PyData, Dt K H x d ∧ Fit 2 20 d := by
  unfold odd at hx
  simp only [List.mem_cons, List.not_mem_nil, or_false] at hx
  rcases hx with rfl | rfl | rfl | rfl | rfl | rfl | rfl | rfl | rfl | rfl | rfl | rfl | rfl
  · exact ⟨_, .non, by decide +kernel, by decide +kernel, by decide +kernel⟩
  · exact ⟨_, .bl _, by decide +kernel, by decide +kernel, by decide +kernel⟩
  · exact ⟨_, .bl _, by decide +kernel, by decide +kernel, by decide +kernel⟩
  · exact ⟨_, .int _, by decide +kernel, by decide +kernel, by decide +kernel⟩
  · exact ⟨_, .int _, by decide +kernel, by decide +kernel, by decide +kernel⟩
  · exact ⟨_, .str _, by decide +kernel, by decide +kernel, by decide +kernel⟩
  · exact ⟨_, .str _, by decide +kernel, by decide +kernel, by decide +kernel⟩
  · exact ⟨_, .tup (SqT.of o.t0) .nil, by decide +kernel, by decide +kernel, by decide +kernel⟩
  · exact ⟨_, .tup (SqT.of o.t1) (.cons (.int _) .nil), by decide +kernel, by decide +kernel, by decide +kernel⟩
  · exact ⟨_, .lst (SqL.of o.m0) .nil, by decide +kernel, by decide +kernel, by decide +kernel⟩
  · exact ⟨_, .lst (SqL.of o.m1) (.cons (.int _) .nil), by decide +kernel, by decide +kernel, by decide +kernel⟩
  · exact ⟨_, .tup (SqT.of o.t2) (.cons (.str _) (.cons (.int _) .nil)), by decide +kernel, by decide +kernel, by decide +kernel⟩
  · exact ⟨_, .dic (.inl o.d0) .nil, by decide +kernel, by decide +kernel, by decide +kernel⟩
theorem dp_bools {K : PySem.W.Frag} {H : Hp} : ∀ bs : List Bool, DpAll K H (bs.map V.bl) (bs.map PyData.bool)
  | [] => .nil
  | b :: bs => .cons (.bl b) (dp_bools bs)
theorem lay_bools : ∀ bs : List Bool, PyData.canLayAll0 (bs.map PyData.bool) = true ∧ PyData.depthAll (bs.map PyData.bool) = 0
  | [] => ⟨by rw [List.map_nil, PyData.canLayAll0], by rw [List.map_nil, PyData.depthAll]⟩
  | b :: bs => by
    obtain ⟨h1, h2⟩ := lay_bools bs
    rw [List.map_cons, PyData.canLayAll0, PyData.depthAll, h1, h2, PyData.canLay0, PyData.depth]
    exact ⟨rfl, rfl⟩
theorem shaped_bools (bs : List Bool) : SeqAt.shaped (.list (bs.map PyData.bool)) = true := by
  obtain ⟨h1, h2⟩ := lay_bools bs
  unfold SeqAt.shaped
  rw [PyData.canLay0, PyData.depth, h1, h2]
  rfl
theorem eqv_bools (bs : List Bool) : PyData.eqv (.list (bs.map PyData.bool)) (.list (bs.map PyData.bool)) = true :=
  SeqAt.eqv_refl _ (SeqAt.canLay_of_shaped (shaped_bools bs))
def bits (i : Nat) : List Bool := (List.range 15).map fun j => decide (j = i)
theorem marks_bits (i : Nat) : marks i = (bits i).map V.bl := by
  unfold marks bits
  rw [List.map_map]
  rfl
theorem Paired.at {α β : Type} {R : α → β → Prop} : ∀ {l : List α} {m : List β} {i : Nat} {x : α}, Paired R l m → l[i]? = some x → ∃ y, m[i]? = some y ∧ R x y
  | _, _, _, _, .nil, h => by simp at h
  | _, _, 0, _, .cons r _, h => by
    cases h
    exact ⟨_, rfl, r⟩
  | _, _, i + 1, _, .cons _ t, h => Paired.at (i := i) t h
theorem specs_at {c : Nat → Addr} {x y z : V} {i : Nat} {s : Addr × List (Str × V)} (h : (specs c x y z)[i]? = some s) : i < 15 ∧ s.1 = c i := by
  have hi : i < 15 := (List.getElem?_eq_some_iff.mp h).1
  refine ⟨hi, ?_⟩
  rcases (by omega : i = 0 ∨ i = 1 ∨ i = 2 ∨ i = 3 ∨ i = 4 ∨ i = 5 ∨ i = 6 ∨ i = 7 ∨ i = 8 ∨ i = 9 ∨ i = 10 ∨ i = 11 ∨ i = 12 ∨ i = 13 ∨ i = 14) with
    rfl | rfl | rfl | rfl | rfl | rfl | rfl | rfl | rfl | rfl | rfl | rfl | rfl | rfl | rfl <;> (cases h; rfl)
/-- what the errors of dx, dy, dz keep -/
def kept (dx dy dz : PyData) : PyData := .list [dx, dx, dx, dx, dx, .tuple [dx, dy, dz], dx, dx, dx, dx, dx, dx]
theorem fit_kept {dx dy dz : PyData} (fx : Fit 2 20 dx) (fy : Fit 2 20 dy) (fz : Fit 2 20 dz) : Fit 4 1000 (kept dx dy dz) := by
  have ft : Fit 3 69 (.tuple [dx, dy, dz]) := fit_tuple (ds := [dx, dy, dz]) fun d hd => by
    simp only [List.mem_cons, List.not_mem_nil, or_false] at hd
    rcases hd with rfl | rfl | rfl
    · exact fx
    · exact fy
    · exact fz
  have fx' : Fit 3 69 dx := fx.mono (by decide) (by decide)
  refine (fit_list (n := 3) (L := 69) (ds := [dx, dx, dx, dx, dx, .tuple [dx, dy, dz], dx, dx, dx, dx, dx, dx]) fun d hd => ?_).mono (by decide) (by show 12 * (69 + 2) + 3 ≤ 1000; decide)
  simp only [List.mem_cons, List.not_mem_nil, or_false] at hd
  rcases hd with rfl | rfl | rfl | rfl | rfl | rfl | rfl | rfl | rfl | rfl | rfl | rfl <;> first | exact fx' | exact ft
theorem dt_kept {K : PySem.W.Frag} {H : Hp} {l t : Addr} {x y z : V} {dx dy dz : PyData} (hl : H l = some (.lst [x, x, x, x, x, .ref t, x, x, x, x, x, x])) (ht : H t = some (.tup [x, y, z])) (hx : Dt K H x dx) (hy : Dt K H y dy) (hz : Dt K H z dz) :
    Dt K H (.ref l) (kept dx dy dz) :=
  .lst (SqL.of hl) (.cons hx (.cons hx (.cons hx (.cons hx (.cons hx (.cons (.tup (SqT.of ht) (.cons hx (.cons hy (.cons hz .nil)))) (.cons hx (.cons hx (.cons hx (.cons hx (.cons hx (.cons hx .nil))))))))))))
/-- right(pot) is True -/
def spRight : Sp := fun vs H Q _ => ∃ (a : Addr) (b : Nat) (p0 p1 p2 : Int), vs = [.ref a] ∧ H a = some (.lst [.int p0, .int p1, .int p2]) ∧ Pot b p0 p1 p2 ∧ b ≤ 1000 ∧ ∀ H', But a H H' → Q (.bl true) H'
section
variable {P : Program} {w : World} {K : PySem.W.Frag} {mg : Str → Option Value} {base : Heap} {f CT fO fP fN fS fV : Addr} {fd dO dP dN dS dV : FuncData} {c i : Nat → Addr} {d : Nat → FuncData}
theorem ok_right (F : Fun K "_law_right" "_law_right" st_right f fd) (B : Blt mg) (Z : Errs P w K mg base c i d) (T : Kn K c CT) (gT : mg "TrailError" = some (.ref CT))
    (F_of : Df P w K mg base "_law_of" 2 fO dO ["_law_pot_here", "_law_some"] (spOf K)) (F_by_position : Df P w K mg base "_law_by_position" 3 fP dP ["_law_a", "_law_b", "_law_c"] (spBy c))
    (F_by_name : Df P w K mg base "_law_by_name" 3 fN dN ["_law_a", "_law_b", "_law_c"] (spBy c)) (F_sorts : Df P w K mg base "_law_sorts" 1 fS dS ["_law_e"] (spSorts c))
    (F_values : Df P w K mg base "_law_values" 1 fV dV ["_law_some"] (spValues c)) : FnG P w K mg base CX0 4 f fd ["_law_pot_here"] spRight := by
  refine okG F sc_right (fun vs H Q E h => ?_) (fun cdv A outer s H vs Q E hgd hr h => ?_)
  · obtain ⟨_, _, _, _, _, rfl, _⟩ := h
    rfl
  · obtain ⟨a, b, p0, p1, p2, rfl, ha, hp, hb, q⟩ := h
    refine ⟨_, (pss_cons (ps_set (i := 1) sc_right.nd rfl (.inl rfl) (pe_lst (pa_cons pe_non (pa_cons pe_bl (pa_cons pe_bl (pa_cons pe_int (pa_cons pe_int (pa_cons pe_str (pa_cons pe_str (pa_cons (pe_tup pa_nil) (pa_cons (pe_tup (pa_cons pe_int pa_nil)) (pa_cons (pe_lst pa_nil) (pa_cons (pe_lst (pa_cons pe_int pa_nil)) (pa_cons (pe_tup (pa_cons pe_str (pa_cons pe_int pa_nil))) (pa_cons pe_dnewK pa_nil)))))))))))))))
      (pss_cons (ps_par3 (by rfl) sc_right.nd (i := 2) (j := 3) (l := 4) rfl rfl rfl (by decide) (by decide) (by decide) rfl rfl rfl (pa_cons (pe_callG hgd F_of.G (hr.mono (by decide)) (by rfl) F_of.g F_of.kp F_of.bd pass0 (pa_cons (pv 0) (pa_cons (pv 1) pa_nil))) (pa_cons (pe_callG hgd F_of.G (hr.mono (by decide)) (by rfl) F_of.g F_of.kp F_of.bd pass0 (pa_cons (pv 0) (pa_cons (pv 1) pa_nil))) (pa_cons (pe_callG hgd F_of.G (hr.mono (by decide)) (by rfl) F_of.g F_of.kp F_of.bd pass0 (pa_cons (pv 0) (pa_cons (pv 1) pa_nil))) pa_nil))) (by rfl))
      (pss_cons (ps_for PassesOwn.never rfl (pi_tup (pe_tup (pa_cons (pe_callG hgd F_by_position.G (hr.mono (by decide)) (by rfl) F_by_position.g F_by_position.kp F_by_position.bd pass0 (pa_cons (pv 2) (pa_cons (pv 3) (pa_cons (pv 4) pa_nil)))) (pa_cons (pe_callG hgd F_by_name.G (hr.mono (by decide)) (by rfl) F_by_name.g F_by_name.kp F_by_name.bd pass0 (pa_cons (pv 2) (pa_cons (pv 3) (pa_cons (pv 4) pa_nil)))) pa_nil)))) (pg_name (i := 5) sc_right.nd rfl (.inl rfl))
       (pss_cons (ps_for PassesOwn.never rfl (pi_enum (by rfl) B.enumerate (pa_cons (pv 5) pa_nil)) (pg_tup rfl (pgs_cons (pg_name (i := 6) sc_right.nd rfl (.inr rfl)) (pgs_cons (pg_name (i := 7) sc_right.nd rfl (.inl rfl)) pgs_nil)))
        (pss_cons (ps_if (pt_cmpR (op_neD hr.units) (pe_callG hgd F_sorts.G (hr.mono (by decide)) (by rfl) F_sorts.g F_sorts.kp F_sorts.bd pass0 (pa_cons (pv 7) pa_nil)) (pe_lc (own := [("_law_number", 9)]) (by rfl) sc_right.nd (pi_range1 (by rfl) B.range (pa_cons pe_int pa_nil)) (blkOk_by (own := [("_law_number", 9)]) (N := ["_law_pot_here", "_law_odd", "_law_a", "_law_b", "_law_c", "_law_some", "_law_at", "_law_error", "_law_due", "_law_number"]) (sc := defScope st_right) (by decide +kernel)) (fun _ _ _ _ _ => (pg_name (i := 9) sc_right.nd rfl (.inl rfl))) (fun _ _ _ _ _ => pts_nil) (fun _ _ _ _ _ => (pe_cmpR op_eq (pv 9) (pv 6) (nomark _)))) (nomark _))
         (pss_one (ps_ret pe_bl))
         pss_nil)
        (pss_one (ps_if (PW.pt (pw_or (pt_not (pt_val (pe_callB call_isErr (by rfl) B.isinstance (by decide +kernel) (pa_cons (pv 7) (pa_cons (pe_glob (v := .ref _) rfl gT rfl) pa_nil))))) (pw_or1 (pt_not (pt_val (pe_callB call_isErr (by rfl) B.isinstance (by decide +kernel) (pa_cons (pv 7) (pa_cons (pe_bltn (v := .ty "ValueError") (by rfl) B.ve (by decide +kernel) rfl) pa_nil))))))))
         (pss_one (ps_ret pe_bl))
         pss_nil))))
       (pss_cons (ps_set (i := 8) sc_right.nd rfl (.inl rfl) (pe_op op_cat (pe_op op_cat (pe_op op_rep (pe_lst (pa_cons (pv 2) pa_nil)) pe_int) (pe_lst (pa_cons (pe_tup (pa_cons (pv 2) (pa_cons (pv 3) (pa_cons (pv 4) pa_nil)))) pa_nil))) (pe_op op_rep (pe_lst (pa_cons (pv 2) pa_nil)) pe_int)))
       (pss_one (ps_if (pt_cmpR op_ne (pe_callB (call_repr hgd hr.units) (by rfl) B.repr (by decide +kernel) (pa_cons (pe_callG hgd F_values.G (hr.mono (by decide)) (by rfl) F_values.g F_values.kp F_values.bd pass0 (pa_cons (pv 5) pa_nil)) pa_nil)) (pe_callB (call_repr hgd hr.units) (by rfl) B.repr (by decide +kernel) (pa_cons (pv 8) pa_nil)) (nomark _))
        (pss_one (ps_ret pe_bl))
        pss_nil)))))
      (pss_one (ps_ret pe_bl))))), ?_⟩
    -- the odd values
    refine ⟨(by show 0 ≤ sizeLine; decide), fun t0 n0 => ?_⟩
    refine ⟨(by show 1 ≤ sizeLine; decide), fun t1 n1 => ?_⟩
    refine ⟨(by show 0 ≤ sizeLine; decide), fun m0 n2 => ?_⟩
    refine ⟨(by show 1 ≤ sizeLine; decide), fun m1 n3 => ?_⟩
    refine ⟨(by show 2 ≤ sizeLine; decide), fun t2 n4 => ?_⟩
    intro d0 n5
    refine ⟨(by show 13 ≤ sizeLine; decide), fun l nl => ?_⟩
    have z0 := same_new n0 (o := .tup [])
    have z1 := same_new n1 (o := .tup [.int 0])
    have z2 := same_new n2 (o := .lst [])
    have z3 := same_new n3 (o := .lst [.int 0])
    have z4 := same_new n4 (o := .tup [.str "wrap", .int 0])
    have z5 := same_new n5 (o := .dK [])
    have z6 := same_new nl (o := .lst (odd t0 t1 m0 m1 t2 d0))
    have zz := z0.trans (z1.trans (z2.trans (z3.trans (z4.trans (z5.trans z6)))))
    have o1 : OddAt _ t0 t1 m0 m1 t2 d0 := ⟨(z1.trans (z2.trans (z3.trans (z4.trans (z5.trans z6))))) _ _ upd_same, (z2.trans (z3.trans (z4.trans (z5.trans z6)))) _ _ upd_same, (z3.trans (z4.trans (z5.trans z6))) _ _ upd_same,
      (z4.trans (z5.trans z6)) _ _ upd_same, (z5.trans z6) _ _ upd_same, z6 _ _ upd_same⟩
    have ha1 := zz _ _ ha
    have nla : a ≠ l := ne_of_none ((z0.trans (z1.trans (z2.trans (z3.trans (z4.trans z5))))) _ _ ha) nl
    -- three of them
    refine ⟨_, rfl, _, rfl, a, l, b, p0, p1, p2, odd t0 t1 m0 m1 t2 d0, rfl, ha1, hp, by omega, nla, upd_same, by show 0 < 13; decide, by show 13 ≤ 1000; decide, fun H2 q0 q2 x b2 ha2 hp2 hx => ?_⟩
    have o2 := o1.but ha1 b2
    have hl2 : H2 l = some (.lst (odd t0 t1 m0 m1 t2 d0)) := b2 _ _ (Ne.symm nla) upd_same
    refine ⟨_, rfl, _, rfl, a, l, b + 1, q0, p1, q2, odd t0 t1 m0 m1 t2 d0, rfl, ha2, hp2, by omega, nla, hl2, by show 0 < 13; decide, by show 13 ≤ 1000; decide, fun H3 u0 u2 y b3 ha3 hp3 hy => ?_⟩
    have o3 := o2.but ha2 b3
    have hl3 := b3 _ _ (Ne.symm nla) hl2
    refine ⟨_, rfl, _, rfl, a, l, b + 1 + 1, u0, p1, u2, odd t0 t1 m0 m1 t2 d0, rfl, ha3, hp3, by omega, nla, hl3, by show 0 < 13; decide, by show 13 ≤ 1000; decide, fun H4 v0 v2 z b4 ha4 hp4 hz => ?_⟩
    have o4 := o3.but ha3 b4
    have bt : But a H H4 := (But.of zz).trans (b2.trans (b3.trans b4))
    refine ⟨x, y, z, rfl, ?_⟩
    obtain ⟨dx, hdx, fx⟩ := odd_dt (K := K) o4 hx
    obtain ⟨dy, hdy, fy⟩ := odd_dt (K := K) o4 hy
    obtain ⟨dz, hdz, fz⟩ := odd_dt (K := K) o4 hz
    clear o1 o2 o3 o4 hl2 hl3 b2 b3 b4 z0 z1 z2 z3 z4 z5 z6 ha1 ha2 ha3 zz
    -- both lists of errors
    refine ⟨_, rfl, _, rfl, _, rfl, x, y, z, rfl, fun H5 e1 es1 s5 he1 pe1 => ?_⟩
    refine ⟨_, rfl, _, rfl, _, rfl, x, y, z, rfl, fun H6 e2 es2 s6 he2 pe2 => ?_⟩
    refine ⟨(by show 2 ≤ sizeLine; decide), fun tt ntt => ?_⟩
    have s7 := same_new ntt (o := .tup [.ref e1, .ref e2])
    obtain ⟨H7, hH7⟩ : ∃ h, h = upd H6 tt (.tup [.ref e1, .ref e2]) := ⟨_, rfl⟩
    rw [← hH7] at s7 ⊢
    have htt : H7 tt = some (.tup [.ref e1, .ref e2]) := by
      rw [hH7]
      exact upd_same
    have dx7 := hdx.same (s5.trans (s6.trans s7))
    have dy7 := hdy.same (s5.trans (s6.trans s7))
    have dz7 := hdz.same (s5.trans (s6.trans s7))
    have both : ∀ e ∈ [e1, e2], ∃ es, H7 e = some (.lst (es.map V.ref)) ∧ Paired (ErrOf H7) es (specs c x y z) := by
      intro e he
      simp only [List.mem_cons, List.not_mem_nil, or_false] at he
      rcases he with rfl | rfl
      · exact ⟨es1, s7 _ _ (s6 _ _ he1), Paired.mapP pe1 fun _ _ r => (r.same s6).same s7⟩
      · exact ⟨es2, s7 _ _ he2, Paired.mapP pe2 fun _ _ r => r.same s7⟩
    refine ⟨tt, rfl, ⟨_, SqT.of htt⟩, for_it (walk_tup (xs := [.ref e1, .ref e2])) (fun j σ H' => ∃ v5 v6 v7 v8, σ = [some (.ref a), some (.ref l), some x, some y, some z, v5, v6, v7, v8, none] ∧ Same H7 H')
      ⟨none, none, none, none, rfl, Same.refl _⟩ (fun j σ H' _ ⟨_, _, _, _, _, sm⟩ => sameT sm (SqT.of htt)) (fun j v σ H8 H9 hj hP hY => ?_) (fun σ H' ⟨_, _, _, _, _, sm⟩ => ?_)⟩
    · obtain ⟨v5, v6, v7, v8, rfl, sm⟩ := hP
      obtain ⟨rfl, hv⟩ := hY
      obtain ⟨e, hev, rfl⟩ : ∃ e, e ∈ [e1, e2] ∧ v = .ref e := by
        match j, hv with
        | 0, hv =>
          cases hv
          exact ⟨e1, by simp, rfl⟩
        | 1, hv =>
          cases hv
          exact ⟨e2, by simp, rfl⟩
      obtain ⟨es, hes7, per7⟩ := both e hev
      have hes := sm _ _ hes7
      have per : Paired (ErrOf H9) es (specs c x y z) := Paired.mapP per7 fun _ _ r => r.same sm
      refine ⟨_, rfl, e, es.map V.ref, rfl, SqL.of hes, for_it (walk_enum (xs := es.map V.ref)) (fun m σ H' => ∃ v6 v7, σ = [some (.ref a), some (.ref l), some x, some y, some z, some (.ref e), v6, v7, v8, none] ∧ Same H9 H')
        ⟨v6, v7, rfl, Same.refl _⟩ (fun m σ H' _ ⟨_, _, _, sm⟩ => sm.seq (SqL.of hes)) (fun m v σ H10 H11 hm hP hY => ?_) (fun σ H' hP => ?_)⟩
      · obtain ⟨w6, w7, rfl, sm2⟩ := hP
        obtain ⟨t, y1, y2, rfl, nt, rfl, h1, h2⟩ := hY
        cases h1
        replace h2 : (es.map V.ref)[m]? = some y2 := h2
        rw [List.getElem?_map] at h2
        obtain ⟨er, her, rfl⟩ := Option.map_eq_some_iff.mp h2
        obtain ⟨sp, hsp, hErr⟩ := Paired.at per her
        obtain ⟨m15, hc⟩ := specs_at hsp
        have s11 := sm2.trans (same_new nt (o := .tup [.int m, .ref er]))
        have hEr : Err (upd H10 t (.tup [.int m, .ref er])) er (c m) sp.2 := by
          have := hErr.same s11
          rw [hc] at this
          exact this
        refine ⟨t, [.int m, .ref er], rfl, SqT.of upd_same, rfl, .int m, [.ref er], rfl, .ref er, [], rfl, rfl, ?_⟩
        -- sorts(error) != [..]
        refine ⟨_, rfl, er, m, sp.2, rfl, m15, hEr, fun H12 p12 s12 h12 => ?_⟩
        refine ⟨15, rfl, by decide, by decide, fun D nD => lc_range (lo := 0) (n := 15) (fun j H' => Same H12 H' ∧ H' D = some (.lst (((List.range j).map fun u => decide (u = m)).map V.bl))) ⟨same_new nD, upd_same⟩ (fun j H' hj ⟨sj, dj⟩ => ?_) fun H' ⟨sj, dj⟩ => ?_⟩
        · refine ⟨rfl, _, rfl, _, rfl, rfl, _, dj, ?_, ?_, ?_⟩
          · rw [List.length_map, List.length_map, List.length_range]
            exact Nat.lt_of_lt_of_le hj (by decide)
          · exact fun b' o' e' => by
              have nb : b' ≠ D := ne_of_none e' nD
              rw [upd_ne nb]
              exact sj _ _ e'
          · rw [upd_same, List.range_succ, List.map_append, List.map_append]
            have ej : decide (V.int (0 + (j : Int)) = V.int (m : Int)) = decide (j = m) := by
              by_cases hjm : j = m
              · subst hjm
                simp
              · have : ¬ V.int (0 + (j : Int)) = V.int (m : Int) := fun z => hjm (by have := V.int.inj z; omega)
                rw [decide_eq_false hjm, decide_eq_false this]
            rw [ej]
            rfl
        · have hb1 : H' p12 = some (.lst ((bits m).map V.bl)) := by
            rw [← marks_bits]
            exact sj _ _ h12
          refine ⟨_, _, .lst (SqL.of hb1) (dp_bools (bits m)), .lst (SqL.of dj) (dp_bools (bits m)), shaped_bools _, shaped_bools _, false, by rw [eqv_bools]; rfl, iteF ?_⟩
          have s13 := s12.trans sj
          have hEr2 := hEr.same s13
          -- not isinstance(..) or not isinstance(..)
          refine ⟨_, rfl, er, c m, sp.2, .ref CT, .ref CT, true, rfl, hEr2, T.x m m15, (fun u r => r), T.tr m m15, true, rfl, ?_⟩
          refine iteF ⟨_, rfl, er, c m, sp.2, .ty "ValueError", .type "ValueError", true, rfl, hEr2, T.x m m15, (fun u r => r), T.ve m m15, true, rfl, ?_⟩
          exact iteF ⟨_, _, rfl, s11.trans s13⟩
      · obtain ⟨w6, w7, rfl, sm3⟩ := hP
        -- due
        refine ⟨_, rfl, (by show 1 ≤ sizeLine; decide), fun g1 k1 => ?_⟩
        have y1 := same_new k1 (o := .lst [x])
        refine ⟨g1, 5, [x], rfl, rfl, upd_same, by decide, by decide, by show 1 * 5 ≤ sizeLine; decide, fun g2 k2 => ?_⟩
        have y2 := same_new k2 (o := .lst [x, x, x, x, x])
        refine ⟨_, rfl, _, rfl, _, rfl, (by show 3 ≤ sizeLine; decide), fun tw k3 => ?_⟩
        have y3 := same_new k3 (o := .tup [x, y, z])
        refine ⟨(by show 1 ≤ sizeLine; decide), fun g4 k4 => ?_⟩
        have y4 := same_new k4 (o := .lst [.ref tw])
        refine ⟨g2, g4, [x, x, x, x, x], _, rfl, rfl, (y3.trans y4) _ _ upd_same, upd_same, by show 5 + 1 ≤ sizeLine; decide, fun g5 k5 => ?_⟩
        have y5 := same_new k5 (o := .lst [x, x, x, x, x, .ref tw])
        refine ⟨_, rfl, (by show 1 ≤ sizeLine; decide), fun g6 k6 => ?_⟩
        have y6 := same_new k6 (o := .lst [x])
        refine ⟨g6, 6, [x], rfl, rfl, upd_same, by decide, by decide, by show 1 * 6 ≤ sizeLine; decide, fun g7 k7 => ?_⟩
        have y7 := same_new k7 (o := .lst [x, x, x, x, x, x])
        refine ⟨g5, g7, [x, x, x, x, x, .ref tw], [x, x, x, x, x, x], rfl, rfl, (y6.trans y7) _ _ upd_same, upd_same, by show 6 + 6 ≤ sizeLine; decide, fun g8 k8 => ?_⟩
        have y8 := same_new k8 (o := .lst [x, x, x, x, x, .ref tw, x, x, x, x, x, x])
        have htw := (y4.trans (y5.trans (y6.trans (y7.trans y8)))) _ _ upd_same
        have yy := sm3.trans (y1.trans (y2.trans (y3.trans (y4.trans (y5.trans (y6.trans (y7.trans y8)))))))
        -- repr(values(some)) != repr(due)
        refine ⟨_, rfl, e, es, x, y, z, rfl, yy _ _ hes, Paired.mapP per fun _ _ r => r.same yy, fun H20 lv tv s20 hlv htv => ?_⟩
        have s9 := sm.trans (yy.trans s20)
        have fk := fit_kept fx fy fz
        have big : 1000 ≤ sizeLine := by decide
        refine ⟨.ref lv, kept dx dy dz, rfl, dt_kept hlv htv (dx7.same s9) (dy7.same s9) (dz7.same s9), fk.sh, Nat.le_trans fk.de (by decide), Nat.le_trans fk.ln big, ?_⟩
        refine ⟨_, rfl, .ref g8, kept dx dy dz, rfl, dt_kept (s20 _ _ upd_same) (s20 _ _ htw) (dx7.same s9) (dy7.same s9) (dz7.same s9), fk.sh, Nat.le_trans fk.de (by decide), Nat.le_trans fk.ln big, ?_⟩
        refine ⟨rfl, false, by simp, iteF ?_⟩
        exact ⟨_, _, _, _, rfl, s9⟩
    · exact q _ (bt.trans (.of (s5.trans (s6.trans (s7.trans sm)))))
/-- the law: True at every script -/
def spLaw (K : PySem.W.Frag) : Sp := fun vs H Q _ => ∃ (a : Addr) (ns : List Int), vs = [.ref a] ∧ SqL K H a (ns.map V.int) ∧ ns.length ≤ 63 ∧ ∀ H', Q (.bl true) H'
theorem all_true : ∀ n : Nat, (List.replicate n true).all id = true
  | 0 => rfl
  | n + 1 => by
    rw [List.replicate_succ, List.all_cons, all_true n]
    rfl
theorem ok_law {fA fB : Addr} {dA dB : FuncData} (F : Fun K "law" "law" st_law f fd) (B : Blt mg) (F_right : Df P w K mg base "_law_right" 4 fA dA ["_law_pot_here"] spRight) (F_pot : Df P w K mg base "_law_pot" 1 fB dB ["_law_script", "_law_k"] (spPot K)) :
    FnG P w K mg base CX0 5 f fd ["_law_script"] (spLaw K) := by
  refine okG F sc_law (fun vs H Q E h => ?_) (fun cdv A outer s H vs Q E hgd hr h => ?_)
  · obtain ⟨_, _, rfl, _⟩ := h
    rfl
  · obtain ⟨a, ns, rfl, hs, hl, q⟩ := h
    refine ⟨_, (pss_one (ps_ret (pe_callB (cr_all rfl) (by rfl) B.all (by decide +kernel) (pa_cons (pe_lc (own := [("_law_k", 1)]) (by rfl) sc_law.nd (pi_range1 (by rfl) B.range (pa_cons (pe_callB (call_max2 rfl) (by rfl) B.max (by decide +kernel) (pa_cons pe_int (pa_cons (pe_callB (call_min2 rfl) (by rfl) B.min (by decide +kernel) (pa_cons pe_int (pa_cons (pe_callB call_len (by rfl) B.len (by decide +kernel) (pa_cons (pv 0) pa_nil)) pa_nil))) pa_nil))) pa_nil)) (blkOk_by (own := [("_law_k", 1)]) (N := ["_law_script", "_law_k"]) (sc := defScope st_law) (by decide +kernel)) (fun _ _ _ _ _ => (pg_name (i := 1) sc_law.nd rfl (.inl rfl))) (fun _ _ _ _ _ => pts_nil) (fun _ _ _ _ _ => (pe_callG hgd F_right.G (hr.mono (by decide)) (by rfl) F_right.g F_right.kp F_right.bd pass0 (pa_cons (pe_callG hgd F_pot.G (hr.mono (by decide)) (by rfl) F_pot.g F_pot.kp F_pot.bd pass0 (pa_cons (pv 0) (pa_cons (pv 1) pa_nil))) pa_nil)))) pa_nil)))), ?_⟩
    refine ⟨_, rfl, _, ns.length, rfl, .inl ⟨_, hs, (List.length_map ..).symm⟩, 2, (ns.length : Int), rfl, 1, _, rfl, ?_⟩
    obtain ⟨n, hn, hn1, hn2⟩ : ∃ n : Int, (if (if (ns.length : Int) < 2 then (ns.length : Int) else 2) > 1 then (if (ns.length : Int) < 2 then (ns.length : Int) else 2) else 1) = n ∧ 1 ≤ n ∧ n ≤ 2 := by
      refine ⟨_, rfl, ?_, ?_⟩ <;> (split <;> split <;> omega)
    rw [hn]
    refine ⟨n, rfl, by omega, by omega, fun D nD => lc_range (lo := 0) (n := n.toNat) (fun j H' => Same H H' ∧ H' D = some (.lst ((List.replicate j true).map V.bl))) ⟨same_new nD, upd_same⟩ (fun j H' hj ⟨sj, dj⟩ => ?_) fun H' ⟨sj, dj⟩ => ?_⟩
    · refine ⟨rfl, _, rfl, _, rfl, a, ns, j, by simp, sj.seq hs, hl, by omega, fun H2 p p0 p1 s2 np hp2 pot => ?_⟩
      refine ⟨p, 0, p0, p1, 0, rfl, hp2, pot, by decide, fun H3 bt => ?_⟩
      have nDp : D ≠ p := ne_of_none dj np
      refine ⟨_, bt _ _ nDp (s2 _ _ dj), ?_, fun b o e => ?_, ?_⟩
      · rw [List.length_map, List.length_replicate]
        exact Nat.lt_of_lt_of_le (show j < 3 by omega) (by decide)
      · rw [upd_ne (ne_of_none e nD)]
        exact bt _ _ (ne_of_none (sj _ _ e) np) (s2 _ _ (sj _ _ e))
      · rw [upd_same, List.replicate_succ', List.map_append]
        rfl
    · refine ⟨D, List.replicate n.toNat true, rfl, SqL.of dj, ?_⟩
      rw [all_true]
      exact q _
end
end K34

set_option Elab.async false
set_option linter.all false
set_option maxRecDepth 100000
set_option maxHeartbeats 4000000
namespace K34
open PySem PySem.Spec PyProof.Rows L2 WT
/-! ### what the top has written, by yes or no -/
def oexB (K : PySem.W.Frag) (C : Addr) : Bool := decide (PySem.W.findIn K (.ref C) "__setattr__" = some (some (.builtin "object.__setattr__"))) && (decide (PySem.W.subIn K (.ref C) (.type "BaseException") = some true) &&
  (decide (PySem.W.typeIn K (.ref C) = some (.type "type")) && PySem.W.keepIn K (.ref C)))
def excB (K : PySem.W.Frag) (D : Addr) : Bool := decide (PySem.W.findIn K (.ref D) "__getattribute__" = some (some (.builtin "BaseException.__getattribute__"))) && (decide (PySem.W.findIn K (.ref D) "__getattr__" = some none) &&
  (decide (PySem.W.subIn K (.ref D) (.type "BaseException") = some true) && (PySem.W.hasDictIn K D && (decide (PySem.W.findIn K (.ref D) "__class__" = some (some (.builtin "object.__class__"))) &&
  (decide (PySem.W.specialIn K (.builtin "object.__class__") "__get__" = some (some (.builtin "getset_descriptor.__get__"))) && (decide (PySem.W.takesIn K (.builtin "object.__class__") = some true) && decide (PySem.W.mroIn K D (.type "object") = some true)))))))
theorem excB_ok {K : PySem.W.Frag} {D : Addr} (h : excB K D = true) : ExcC K D := by
  unfold excB at h
  simp only [Bool.and_eq_true, decide_eq_true_eq] at h
  obtain ⟨h1, h2, h3, h4, h5, h6, h7, h8⟩ := h
  exact ⟨h1, h2, h3, h4, h5, h6, h7, h8⟩
theorem oexB_ok {K : PySem.W.Frag} {C N CT : Addr} {nm q : Str} {bs : List Value} {sn : List Str} {sub : List Value} {ab : Bool} {col : Option Bool} {dd : Option Addr} {m0 m1 m2 m3 m5 : Option Value} (h : oexB K C = true)
    (xL : K.lookup C = some (excClassObj nm q C N bs [.ref CT, .type "ValueError", .type "Exception", .type "BaseException", .type "object"] true sn sub ab col dd m0 m1 m2 m3 m5 "ValueError.__new__")) : OexC K C := by
  unfold oexB at h
  simp only [Bool.and_eq_true, decide_eq_true_eq] at h
  obtain ⟨h1, h2, h3, h4⟩ := h
  exact ⟨⟨nm, q, N, bs, _, sn, sub, ab, col, dd, m0, m1, m2, m3, m5, xL, rfl⟩, h1, h2, h3, h4⟩
def kitB (K : PySem.W.Frag) (cs : List Addr) (CT : Addr) : Bool := ((List.range 15).all fun i => (List.range 15).all fun j => decide (PySem.W.kitOne K (.ref (cs.getD i 0)) (.ref (cs.getD j 0)) = some (decide (j = i)))) &&
  ((List.range 15).all fun i => decide (PySem.W.kitOne K (.ref (cs.getD i 0)) (.ref CT) = some true) && (decide (PySem.W.kitOne K (.ref (cs.getD i 0)) (.type "ValueError") = some true) && excB K (cs.getD i 0)))
theorem kitB_ok {K : PySem.W.Frag} {cs : List Addr} {CT : Addr} (h : kitB K cs CT = true) : Kn K (fun n => cs.getD n 0) CT := by
  unfold kitB at h
  simp only [Bool.and_eq_true, List.all_eq_true, List.mem_range, decide_eq_true_eq] at h
  exact ⟨fun i hi => excB_ok (h.2 i hi).2.2, fun i j hi hj => h.1 i hi j hj, fun i hi => (h.2 i hi).1, fun i hi => (h.2 i hi).2.1⟩
theorem all_mk {l : PySem.W.OpenLaw} {w : World} {K : PySem.W.Frag} {h : Heap} {mg : Str → Option Value} {fa CT : Addr} {C0 C1 C2 C3 C4 C5 C6 C7 C8 C9 C10 C11 C12 C13 C14 I0 I1 I2 I3 I6 I7 I8 I9 I10 I12 I13 I14 f_pot f_take f_of f_by_position f_by_name f_sorts f_values f_right f_law : Addr} (X : K.In h) (G : h.Ns mainGlobals mg) (hfa : mg "law" = some (.ref fa))
    {nm0 qq0 : Str} {N0 : Addr} {bs0 : List Value} {sn0 : List Str} {sub0 : List Value} {ab0 : Bool} {col0 : Option Bool} {dd0 : Option Addr} {ma0 mb0 mc0 md0 me0 : Option Value}
    {odUnknownGateway anUnknownGateway : Option Addr} {slUnknownGateway : Array (Option Value)} {ocUnknownGateway kVUnknownGateway dcUnknownGateway pmUnknownGateway cdUnknownGateway ctUnknownGateway : Value}
    {nm1 qq1 : Str} {N1 : Addr} {bs1 : List Value} {sn1 : List Str} {sub1 : List Value} {ab1 : Bool} {col1 : Option Bool} {dd1 : Option Addr} {ma1 mb1 mc1 md1 me1 : Option Value}
    {odBadStep anBadStep : Option Addr} {slBadStep : Array (Option Value)} {ocBadStep kVBadStep dcBadStep pmBadStep cdBadStep ctBadStep : Value}
    {nm2 qq2 : Str} {N2 : Addr} {bs2 : List Value} {sn2 : List Str} {sub2 : List Value} {ab2 : Bool} {col2 : Option Bool} {dd2 : Option Addr} {ma2 mb2 mc2 md2 me2 : Option Value}
    {odNoEntry anNoEntry : Option Addr} {slNoEntry : Array (Option Value)} {ocNoEntry kVNoEntry dcNoEntry pmNoEntry cdNoEntry ctNoEntry : Value}
    {nm3 qq3 : Str} {N3 : Addr} {bs3 : List Value} {sn3 : List Str} {sub3 : List Value} {ab3 : Bool} {col3 : Option Bool} {dd3 : Option Addr} {ma3 mb3 mc3 md3 me3 : Option Value}
    {odNotNeeded anNotNeeded : Option Addr} {slNotNeeded : Array (Option Value)} {ocNotNeeded kVNotNeeded dcNotNeeded pmNotNeeded cdNotNeeded ctNotNeeded : Value}
    {nm6 qq6 : Str} {N6 : Addr} {bs6 : List Value} {sn6 : List Str} {sub6 : List Value} {ab6 : Bool} {col6 : Option Bool} {dd6 : Option Addr} {ma6 mb6 mc6 md6 me6 : Option Value}
    {odBadRegions anBadRegions : Option Addr} {slBadRegions : Array (Option Value)} {ocBadRegions kVBadRegions dcBadRegions pmBadRegions cdBadRegions ctBadRegions : Value}
    {nm7 qq7 : Str} {N7 : Addr} {bs7 : List Value} {sn7 : List Str} {sub7 : List Value} {ab7 : Bool} {col7 : Option Bool} {dd7 : Option Addr} {ma7 mb7 mc7 md7 me7 : Option Value}
    {odBadGateway anBadGateway : Option Addr} {slBadGateway : Array (Option Value)} {ocBadGateway kVBadGateway dcBadGateway pmBadGateway cdBadGateway ctBadGateway : Value}
    {nm8 qq8 : Str} {N8 : Addr} {bs8 : List Value} {sn8 : List Str} {sub8 : List Value} {ab8 : Bool} {col8 : Option Bool} {dd8 : Option Addr} {ma8 mb8 mc8 md8 me8 : Option Value}
    {odTakenGateway anTakenGateway : Option Addr} {slTakenGateway : Array (Option Value)} {ocTakenGateway kVTakenGateway dcTakenGateway pmTakenGateway cdTakenGateway ctTakenGateway : Value}
    {nm9 qq9 : Str} {N9 : Addr} {bs9 : List Value} {sn9 : List Str} {sub9 : List Value} {ab9 : Bool} {col9 : Option Bool} {dd9 : Option Addr} {ma9 mb9 mc9 md9 me9 : Option Value}
    {odTooMany anTooMany : Option Addr} {slTooMany : Array (Option Value)} {ocTooMany kVTooMany dcTooMany pmTooMany cdTooMany ctTooMany : Value}
    {nm10 qq10 : Str} {N10 : Addr} {bs10 : List Value} {sn10 : List Str} {sub10 : List Value} {ab10 : Bool} {col10 : Option Bool} {dd10 : Option Addr} {ma10 mb10 mc10 md10 me10 : Option Value}
    {odClosesCycle anClosesCycle : Option Addr} {slClosesCycle : Array (Option Value)} {ocClosesCycle kVClosesCycle dcClosesCycle pmClosesCycle cdClosesCycle ctClosesCycle : Value}
    {nm12 qq12 : Str} {N12 : Addr} {bs12 : List Value} {sn12 : List Str} {sub12 : List Value} {ab12 : Bool} {col12 : Option Bool} {dd12 : Option Addr} {ma12 mb12 mc12 md12 me12 : Option Value}
    {odBadMark anBadMark : Option Addr} {slBadMark : Array (Option Value)} {ocBadMark kVBadMark dcBadMark pmBadMark cdBadMark ctBadMark : Value}
    {nm13 qq13 : Str} {N13 : Addr} {bs13 : List Value} {sn13 : List Str} {sub13 : List Value} {ab13 : Bool} {col13 : Option Bool} {dd13 : Option Addr} {ma13 mb13 mc13 md13 me13 : Option Value}
    {odBadText anBadText : Option Addr} {slBadText : Array (Option Value)} {ocBadText kVBadText dcBadText pmBadText cdBadText ctBadText : Value}
    {nm14 qq14 : Str} {N14 : Addr} {bs14 : List Value} {sn14 : List Str} {sub14 : List Value} {ab14 : Bool} {col14 : Option Bool} {dd14 : Option Addr} {ma14 mb14 mc14 md14 me14 : Option Value}
    {odBadLine anBadLine : Option Addr} {slBadLine : Array (Option Value)} {ocBadLine kVBadLine dcBadLine pmBadLine cdBadLine ctBadLine : Value}
    {od_pot an_pot : Option Addr} {sl_pot : Array (Option Value)} {oc_pot kV_pot dc_pot pm_pot cd_pot ct_pot : Value}
    {od_take an_take : Option Addr} {sl_take : Array (Option Value)} {oc_take kV_take dc_take pm_take cd_take ct_take : Value}
    {od_of an_of : Option Addr} {sl_of : Array (Option Value)} {oc_of kV_of dc_of pm_of cd_of ct_of : Value}
    {od_by_position an_by_position : Option Addr} {sl_by_position : Array (Option Value)} {oc_by_position kV_by_position dc_by_position pm_by_position cd_by_position ct_by_position : Value}
    {od_by_name an_by_name : Option Addr} {sl_by_name : Array (Option Value)} {oc_by_name kV_by_name dc_by_name pm_by_name cd_by_name ct_by_name : Value}
    {od_sorts an_sorts : Option Addr} {sl_sorts : Array (Option Value)} {oc_sorts kV_sorts dc_sorts pm_sorts cd_sorts ct_sorts : Value}
    {od_values an_values : Option Addr} {sl_values : Array (Option Value)} {oc_values kV_values dc_values pm_values cd_values ct_values : Value}
    {od_right an_right : Option Addr} {sl_right : Array (Option Value)} {oc_right kV_right dc_right pm_right cd_right ct_right : Value}
    {od_law an_law : Option Addr} {sl_law : Array (Option Value)} {oc_law kV_law dc_law pm_law cd_law ct_law : Value}
    (aT : PySem.W.nsIn K mainGlobals "TrailError" = some (some (.ref CT)))
    (aUnknownGateway : PySem.W.nsIn K mainGlobals "UnknownGateway" = some (some (.ref C0)))
    (xUnknownGateway : K.lookup C0 = some (excClassObj nm0 qq0 C0 N0 bs0 [.ref CT, .type "ValueError", .type "Exception", .type "BaseException", .type "object"] true sn0 sub0 ab0 col0 dd0 ma0 mb0 mc0 md0 me0 "ValueError.__new__"))
    (oUnknownGateway : oexB K C0 = true)
    (iUnknownGateway : PySem.W.findIn K (.ref C0) "__init__" = some (some (.ref I0)))
    (tUnknownGateway : PySem.W.typeIn K (.ref I0) = some (.type "function"))
    (nUnknownGatewayname : PySem.W.findIn K (.ref C0) "name" = some none)
    (lUnknownGateway : K.lookup I0 = some ⟨ocUnknownGateway, odUnknownGateway, .func (PySem.W.fnOf "__init__" "UnknownGateway.__init__" (defArgs st_UnknownGateway) (defBody st_UnknownGateway) (defScope st_UnknownGateway) .none kVUnknownGateway dcUnknownGateway pmUnknownGateway anUnknownGateway cdUnknownGateway ctUnknownGateway), slUnknownGateway⟩)
    (cUnknownGateway : PySem.W.codeIn K cdUnknownGateway "UnknownGateway.__init__" = true)
    (kUnknownGateway : PySem.W.keepIn K (.ref I0) = true)
    (aBadStep : PySem.W.nsIn K mainGlobals "BadStep" = some (some (.ref C1)))
    (xBadStep : K.lookup C1 = some (excClassObj nm1 qq1 C1 N1 bs1 [.ref CT, .type "ValueError", .type "Exception", .type "BaseException", .type "object"] true sn1 sub1 ab1 col1 dd1 ma1 mb1 mc1 md1 me1 "ValueError.__new__"))
    (oBadStep : oexB K C1 = true)
    (iBadStep : PySem.W.findIn K (.ref C1) "__init__" = some (some (.ref I1)))
    (tBadStep : PySem.W.typeIn K (.ref I1) = some (.type "function"))
    (nBadStepstep : PySem.W.findIn K (.ref C1) "step" = some none)
    (lBadStep : K.lookup I1 = some ⟨ocBadStep, odBadStep, .func (PySem.W.fnOf "__init__" "BadStep.__init__" (defArgs st_BadStep) (defBody st_BadStep) (defScope st_BadStep) .none kVBadStep dcBadStep pmBadStep anBadStep cdBadStep ctBadStep), slBadStep⟩)
    (cBadStep : PySem.W.codeIn K cdBadStep "BadStep.__init__" = true)
    (kBadStep : PySem.W.keepIn K (.ref I1) = true)
    (aNoEntry : PySem.W.nsIn K mainGlobals "NoEntry" = some (some (.ref C2)))
    (xNoEntry : K.lookup C2 = some (excClassObj nm2 qq2 C2 N2 bs2 [.ref CT, .type "ValueError", .type "Exception", .type "BaseException", .type "object"] true sn2 sub2 ab2 col2 dd2 ma2 mb2 mc2 md2 me2 "ValueError.__new__"))
    (oNoEntry : oexB K C2 = true)
    (iNoEntry : PySem.W.findIn K (.ref C2) "__init__" = some (some (.ref I2)))
    (tNoEntry : PySem.W.typeIn K (.ref I2) = some (.type "function"))
    (nNoEntryentry : PySem.W.findIn K (.ref C2) "entry" = some none)
    (lNoEntry : K.lookup I2 = some ⟨ocNoEntry, odNoEntry, .func (PySem.W.fnOf "__init__" "NoEntry.__init__" (defArgs st_NoEntry) (defBody st_NoEntry) (defScope st_NoEntry) .none kVNoEntry dcNoEntry pmNoEntry anNoEntry cdNoEntry ctNoEntry), slNoEntry⟩)
    (cNoEntry : PySem.W.codeIn K cdNoEntry "NoEntry.__init__" = true)
    (kNoEntry : PySem.W.keepIn K (.ref I2) = true)
    (aNotNeeded : PySem.W.nsIn K mainGlobals "NotNeeded" = some (some (.ref C3)))
    (xNotNeeded : K.lookup C3 = some (excClassObj nm3 qq3 C3 N3 bs3 [.ref CT, .type "ValueError", .type "Exception", .type "BaseException", .type "object"] true sn3 sub3 ab3 col3 dd3 ma3 mb3 mc3 md3 me3 "ValueError.__new__"))
    (oNotNeeded : oexB K C3 = true)
    (iNotNeeded : PySem.W.findIn K (.ref C3) "__init__" = some (some (.ref I3)))
    (tNotNeeded : PySem.W.typeIn K (.ref I3) = some (.type "function"))
    (nNotNeededentry : PySem.W.findIn K (.ref C3) "entry" = some none)
    (lNotNeeded : K.lookup I3 = some ⟨ocNotNeeded, odNotNeeded, .func (PySem.W.fnOf "__init__" "NotNeeded.__init__" (defArgs st_NotNeeded) (defBody st_NotNeeded) (defScope st_NotNeeded) .none kVNotNeeded dcNotNeeded pmNotNeeded anNotNeeded cdNotNeeded ctNotNeeded), slNotNeeded⟩)
    (cNotNeeded : PySem.W.codeIn K cdNotNeeded "NotNeeded.__init__" = true)
    (kNotNeeded : PySem.W.keepIn K (.ref I3) = true)
    (aHasRevoke : PySem.W.nsIn K mainGlobals "HasRevoke" = some (some (.ref C4)))
    (xHasRevoke : PySem.W.excIn K C4 [.type "ValueError", .type "Exception", .type "BaseException", .type "object"] "ValueError.__new__" = true)
    (yHasRevoke : PySem.W.keepIn K (.ref C4) = true)
    (aUnnoticed : PySem.W.nsIn K mainGlobals "Unnoticed" = some (some (.ref C5)))
    (xUnnoticed : PySem.W.excIn K C5 [.type "ValueError", .type "Exception", .type "BaseException", .type "object"] "ValueError.__new__" = true)
    (yUnnoticed : PySem.W.keepIn K (.ref C5) = true)
    (aBadRegions : PySem.W.nsIn K mainGlobals "BadRegions" = some (some (.ref C6)))
    (xBadRegions : K.lookup C6 = some (excClassObj nm6 qq6 C6 N6 bs6 [.ref CT, .type "ValueError", .type "Exception", .type "BaseException", .type "object"] true sn6 sub6 ab6 col6 dd6 ma6 mb6 mc6 md6 me6 "ValueError.__new__"))
    (oBadRegions : oexB K C6 = true)
    (iBadRegions : PySem.W.findIn K (.ref C6) "__init__" = some (some (.ref I6)))
    (tBadRegions : PySem.W.typeIn K (.ref I6) = some (.type "function"))
    (nBadRegionsregions : PySem.W.findIn K (.ref C6) "regions" = some none)
    (lBadRegions : K.lookup I6 = some ⟨ocBadRegions, odBadRegions, .func (PySem.W.fnOf "__init__" "BadRegions.__init__" (defArgs st_BadRegions) (defBody st_BadRegions) (defScope st_BadRegions) .none kVBadRegions dcBadRegions pmBadRegions anBadRegions cdBadRegions ctBadRegions), slBadRegions⟩)
    (cBadRegions : PySem.W.codeIn K cdBadRegions "BadRegions.__init__" = true)
    (kBadRegions : PySem.W.keepIn K (.ref I6) = true)
    (aBadGateway : PySem.W.nsIn K mainGlobals "BadGateway" = some (some (.ref C7)))
    (xBadGateway : K.lookup C7 = some (excClassObj nm7 qq7 C7 N7 bs7 [.ref CT, .type "ValueError", .type "Exception", .type "BaseException", .type "object"] true sn7 sub7 ab7 col7 dd7 ma7 mb7 mc7 md7 me7 "ValueError.__new__"))
    (oBadGateway : oexB K C7 = true)
    (iBadGateway : PySem.W.findIn K (.ref C7) "__init__" = some (some (.ref I7)))
    (tBadGateway : PySem.W.typeIn K (.ref I7) = some (.type "function"))
    (nBadGatewayname : PySem.W.findIn K (.ref C7) "name" = some none)
    (nBadGatewaymembers : PySem.W.findIn K (.ref C7) "members" = some none)
    (nBadGatewaykind : PySem.W.findIn K (.ref C7) "kind" = some none)
    (lBadGateway : K.lookup I7 = some ⟨ocBadGateway, odBadGateway, .func (PySem.W.fnOf "__init__" "BadGateway.__init__" (defArgs st_BadGateway) (defBody st_BadGateway) (defScope st_BadGateway) .none kVBadGateway dcBadGateway pmBadGateway anBadGateway cdBadGateway ctBadGateway), slBadGateway⟩)
    (cBadGateway : PySem.W.codeIn K cdBadGateway "BadGateway.__init__" = true)
    (kBadGateway : PySem.W.keepIn K (.ref I7) = true)
    (aTakenGateway : PySem.W.nsIn K mainGlobals "TakenGateway" = some (some (.ref C8)))
    (xTakenGateway : K.lookup C8 = some (excClassObj nm8 qq8 C8 N8 bs8 [.ref CT, .type "ValueError", .type "Exception", .type "BaseException", .type "object"] true sn8 sub8 ab8 col8 dd8 ma8 mb8 mc8 md8 me8 "ValueError.__new__"))
    (oTakenGateway : oexB K C8 = true)
    (iTakenGateway : PySem.W.findIn K (.ref C8) "__init__" = some (some (.ref I8)))
    (tTakenGateway : PySem.W.typeIn K (.ref I8) = some (.type "function"))
    (nTakenGatewayname : PySem.W.findIn K (.ref C8) "name" = some none)
    (lTakenGateway : K.lookup I8 = some ⟨ocTakenGateway, odTakenGateway, .func (PySem.W.fnOf "__init__" "TakenGateway.__init__" (defArgs st_TakenGateway) (defBody st_TakenGateway) (defScope st_TakenGateway) .none kVTakenGateway dcTakenGateway pmTakenGateway anTakenGateway cdTakenGateway ctTakenGateway), slTakenGateway⟩)
    (cTakenGateway : PySem.W.codeIn K cdTakenGateway "TakenGateway.__init__" = true)
    (kTakenGateway : PySem.W.keepIn K (.ref I8) = true)
    (aTooMany : PySem.W.nsIn K mainGlobals "TooMany" = some (some (.ref C9)))
    (xTooMany : K.lookup C9 = some (excClassObj nm9 qq9 C9 N9 bs9 [.ref CT, .type "ValueError", .type "Exception", .type "BaseException", .type "object"] true sn9 sub9 ab9 col9 dd9 ma9 mb9 mc9 md9 me9 "ValueError.__new__"))
    (oTooMany : oexB K C9 = true)
    (iTooMany : PySem.W.findIn K (.ref C9) "__init__" = some (some (.ref I9)))
    (tTooMany : PySem.W.typeIn K (.ref I9) = some (.type "function"))
    (nTooManycount : PySem.W.findIn K (.ref C9) "count" = some none)
    (lTooMany : K.lookup I9 = some ⟨ocTooMany, odTooMany, .func (PySem.W.fnOf "__init__" "TooMany.__init__" (defArgs st_TooMany) (defBody st_TooMany) (defScope st_TooMany) .none kVTooMany dcTooMany pmTooMany anTooMany cdTooMany ctTooMany), slTooMany⟩)
    (cTooMany : PySem.W.codeIn K cdTooMany "TooMany.__init__" = true)
    (kTooMany : PySem.W.keepIn K (.ref I9) = true)
    (aClosesCycle : PySem.W.nsIn K mainGlobals "ClosesCycle" = some (some (.ref C10)))
    (xClosesCycle : K.lookup C10 = some (excClassObj nm10 qq10 C10 N10 bs10 [.ref CT, .type "ValueError", .type "Exception", .type "BaseException", .type "object"] true sn10 sub10 ab10 col10 dd10 ma10 mb10 mc10 md10 me10 "ValueError.__new__"))
    (oClosesCycle : oexB K C10 = true)
    (iClosesCycle : PySem.W.findIn K (.ref C10) "__init__" = some (some (.ref I10)))
    (tClosesCycle : PySem.W.typeIn K (.ref I10) = some (.type "function"))
    (nClosesCyclecycle : PySem.W.findIn K (.ref C10) "cycle" = some none)
    (lClosesCycle : K.lookup I10 = some ⟨ocClosesCycle, odClosesCycle, .func (PySem.W.fnOf "__init__" "ClosesCycle.__init__" (defArgs st_ClosesCycle) (defBody st_ClosesCycle) (defScope st_ClosesCycle) .none kVClosesCycle dcClosesCycle pmClosesCycle anClosesCycle cdClosesCycle ctClosesCycle), slClosesCycle⟩)
    (cClosesCycle : PySem.W.codeIn K cdClosesCycle "ClosesCycle.__init__" = true)
    (kClosesCycle : PySem.W.keepIn K (.ref I10) = true)
    (aNothingDone : PySem.W.nsIn K mainGlobals "NothingDone" = some (some (.ref C11)))
    (xNothingDone : PySem.W.excIn K C11 [.type "ValueError", .type "Exception", .type "BaseException", .type "object"] "ValueError.__new__" = true)
    (yNothingDone : PySem.W.keepIn K (.ref C11) = true)
    (aBadMark : PySem.W.nsIn K mainGlobals "BadMark" = some (some (.ref C12)))
    (xBadMark : K.lookup C12 = some (excClassObj nm12 qq12 C12 N12 bs12 [.ref CT, .type "ValueError", .type "Exception", .type "BaseException", .type "object"] true sn12 sub12 ab12 col12 dd12 ma12 mb12 mc12 md12 me12 "ValueError.__new__"))
    (oBadMark : oexB K C12 = true)
    (iBadMark : PySem.W.findIn K (.ref C12) "__init__" = some (some (.ref I12)))
    (tBadMark : PySem.W.typeIn K (.ref I12) = some (.type "function"))
    (nBadMarkmark : PySem.W.findIn K (.ref C12) "mark" = some none)
    (lBadMark : K.lookup I12 = some ⟨ocBadMark, odBadMark, .func (PySem.W.fnOf "__init__" "BadMark.__init__" (defArgs st_BadMark) (defBody st_BadMark) (defScope st_BadMark) .none kVBadMark dcBadMark pmBadMark anBadMark cdBadMark ctBadMark), slBadMark⟩)
    (cBadMark : PySem.W.codeIn K cdBadMark "BadMark.__init__" = true)
    (kBadMark : PySem.W.keepIn K (.ref I12) = true)
    (aBadText : PySem.W.nsIn K mainGlobals "BadText" = some (some (.ref C13)))
    (xBadText : K.lookup C13 = some (excClassObj nm13 qq13 C13 N13 bs13 [.ref CT, .type "ValueError", .type "Exception", .type "BaseException", .type "object"] true sn13 sub13 ab13 col13 dd13 ma13 mb13 mc13 md13 me13 "ValueError.__new__"))
    (oBadText : oexB K C13 = true)
    (iBadText : PySem.W.findIn K (.ref C13) "__init__" = some (some (.ref I13)))
    (tBadText : PySem.W.typeIn K (.ref I13) = some (.type "function"))
    (nBadTextline : PySem.W.findIn K (.ref C13) "line" = some none)
    (lBadText : K.lookup I13 = some ⟨ocBadText, odBadText, .func (PySem.W.fnOf "__init__" "BadText.__init__" (defArgs st_BadText) (defBody st_BadText) (defScope st_BadText) .none kVBadText dcBadText pmBadText anBadText cdBadText ctBadText), slBadText⟩)
    (cBadText : PySem.W.codeIn K cdBadText "BadText.__init__" = true)
    (kBadText : PySem.W.keepIn K (.ref I13) = true)
    (aBadLine : PySem.W.nsIn K mainGlobals "BadLine" = some (some (.ref C14)))
    (xBadLine : K.lookup C14 = some (excClassObj nm14 qq14 C14 N14 bs14 [.ref CT, .type "ValueError", .type "Exception", .type "BaseException", .type "object"] true sn14 sub14 ab14 col14 dd14 ma14 mb14 mc14 md14 me14 "ValueError.__new__"))
    (oBadLine : oexB K C14 = true)
    (iBadLine : PySem.W.findIn K (.ref C14) "__init__" = some (some (.ref I14)))
    (tBadLine : PySem.W.typeIn K (.ref I14) = some (.type "function"))
    (nBadLineline : PySem.W.findIn K (.ref C14) "line" = some none)
    (lBadLine : K.lookup I14 = some ⟨ocBadLine, odBadLine, .func (PySem.W.fnOf "__init__" "BadLine.__init__" (defArgs st_BadLine) (defBody st_BadLine) (defScope st_BadLine) .none kVBadLine dcBadLine pmBadLine anBadLine cdBadLine ctBadLine), slBadLine⟩)
    (cBadLine : PySem.W.codeIn K cdBadLine "BadLine.__init__" = true)
    (kBadLine : PySem.W.keepIn K (.ref I14) = true)
    (kit : kitB K [C0, C1, C2, C3, C4, C5, C6, C7, C8, C9, C10, C11, C12, C13, C14] CT = true)
    (a_pot : PySem.W.nsIn K mainGlobals "_law_pot" = some (some (.ref f_pot)))
    (l_pot : K.lookup f_pot = some ⟨oc_pot, od_pot, .func (PySem.W.fnOf "_law_pot" "_law_pot" (defArgs st_pot) (defBody st_pot) (defScope st_pot) .none kV_pot dc_pot pm_pot an_pot cd_pot ct_pot), sl_pot⟩)
    (c_pot : PySem.W.codeIn K cd_pot "_law_pot" = true)
    (k_pot : PySem.W.keepIn K (.ref f_pot) = true)
    (a_take : PySem.W.nsIn K mainGlobals "_law_take" = some (some (.ref f_take)))
    (l_take : K.lookup f_take = some ⟨oc_take, od_take, .func (PySem.W.fnOf "_law_take" "_law_take" (defArgs st_take) (defBody st_take) (defScope st_take) .none kV_take dc_take pm_take an_take cd_take ct_take), sl_take⟩)
    (c_take : PySem.W.codeIn K cd_take "_law_take" = true)
    (k_take : PySem.W.keepIn K (.ref f_take) = true)
    (a_of : PySem.W.nsIn K mainGlobals "_law_of" = some (some (.ref f_of)))
    (l_of : K.lookup f_of = some ⟨oc_of, od_of, .func (PySem.W.fnOf "_law_of" "_law_of" (defArgs st_of) (defBody st_of) (defScope st_of) .none kV_of dc_of pm_of an_of cd_of ct_of), sl_of⟩)
    (c_of : PySem.W.codeIn K cd_of "_law_of" = true)
    (k_of : PySem.W.keepIn K (.ref f_of) = true)
    (a_by_position : PySem.W.nsIn K mainGlobals "_law_by_position" = some (some (.ref f_by_position)))
    (l_by_position : K.lookup f_by_position = some ⟨oc_by_position, od_by_position, .func (PySem.W.fnOf "_law_by_position" "_law_by_position" (defArgs st_by_position) (defBody st_by_position) (defScope st_by_position) .none kV_by_position dc_by_position pm_by_position an_by_position cd_by_position ct_by_position), sl_by_position⟩)
    (c_by_position : PySem.W.codeIn K cd_by_position "_law_by_position" = true)
    (k_by_position : PySem.W.keepIn K (.ref f_by_position) = true)
    (a_by_name : PySem.W.nsIn K mainGlobals "_law_by_name" = some (some (.ref f_by_name)))
    (l_by_name : K.lookup f_by_name = some ⟨oc_by_name, od_by_name, .func (PySem.W.fnOf "_law_by_name" "_law_by_name" (defArgs st_by_name) (defBody st_by_name) (defScope st_by_name) .none kV_by_name dc_by_name pm_by_name an_by_name cd_by_name ct_by_name), sl_by_name⟩)
    (c_by_name : PySem.W.codeIn K cd_by_name "_law_by_name" = true)
    (k_by_name : PySem.W.keepIn K (.ref f_by_name) = true)
    (a_sorts : PySem.W.nsIn K mainGlobals "_law_sorts" = some (some (.ref f_sorts)))
    (l_sorts : K.lookup f_sorts = some ⟨oc_sorts, od_sorts, .func (PySem.W.fnOf "_law_sorts" "_law_sorts" (defArgs st_sorts) (defBody st_sorts) (defScope st_sorts) .none kV_sorts dc_sorts pm_sorts an_sorts cd_sorts ct_sorts), sl_sorts⟩)
    (c_sorts : PySem.W.codeIn K cd_sorts "_law_sorts" = true)
    (k_sorts : PySem.W.keepIn K (.ref f_sorts) = true)
    (a_values : PySem.W.nsIn K mainGlobals "_law_values" = some (some (.ref f_values)))
    (l_values : K.lookup f_values = some ⟨oc_values, od_values, .func (PySem.W.fnOf "_law_values" "_law_values" (defArgs st_values) (defBody st_values) (defScope st_values) .none kV_values dc_values pm_values an_values cd_values ct_values), sl_values⟩)
    (c_values : PySem.W.codeIn K cd_values "_law_values" = true)
    (k_values : PySem.W.keepIn K (.ref f_values) = true)
    (a_right : PySem.W.nsIn K mainGlobals "_law_right" = some (some (.ref f_right)))
    (l_right : K.lookup f_right = some ⟨oc_right, od_right, .func (PySem.W.fnOf "_law_right" "_law_right" (defArgs st_right) (defBody st_right) (defScope st_right) .none kV_right dc_right pm_right an_right cd_right ct_right), sl_right⟩)
    (c_right : PySem.W.codeIn K cd_right "_law_right" = true)
    (k_right : PySem.W.keepIn K (.ref f_right) = true)
    (a_law : PySem.W.nsIn K mainGlobals "law" = some (some (.ref f_law)))
    (l_law : K.lookup f_law = some ⟨oc_law, od_law, .func (PySem.W.fnOf "law" "law" (defArgs st_law) (defBody st_law) (defScope st_law) .none kV_law dc_law pm_law an_law cd_law ct_law), sl_law⟩)
    (c_law : PySem.W.codeIn K cd_law "law" = true)
    (k_law : PySem.W.keepIn K (.ref f_law) = true)
    (z_len : PySem.W.nsIn K mainGlobals "len" = some none)
    (z_abs : PySem.W.nsIn K mainGlobals "abs" = some none)
    (z_int : PySem.W.nsIn K mainGlobals "int" = some none)
    (z_range : PySem.W.nsIn K mainGlobals "range" = some none)
    (z_enumerate : PySem.W.nsIn K mainGlobals "enumerate" = some none)
    (z_isinstance : PySem.W.nsIn K mainGlobals "isinstance" = some none)
    (z_repr : PySem.W.nsIn K mainGlobals "repr" = some none)
    (z_all : PySem.W.nsIn K mainGlobals "all" = some none)
    (z_max : PySem.W.nsIn K mainGlobals "max" = some none)
    (z_min : PySem.W.nsIn K mainGlobals "min" = some none)
    (z_ValueError : PySem.W.nsIn K mainGlobals "ValueError" = some none) :
    ∃ fd : FuncData, (∀ (s : Shared) (v : Value), BindsTo s fd ⟨[v], []⟩ [("_law_script", v)]) ∧ ∀ base : Heap, K.In base → base.Ns mainGlobals mg → FnG l.prog w K mg base CX0 5 fa fd ["_law_script"] (spLaw K) := by
  have e := hfa.symm.trans (PySem.W.mg_of X G a_law)
  cases e
  have Fpot := fun_mk (x := "_law_pot") (st := st_pot) l_pot c_pot k_pot
  have bpot := Fpot.binds (ps := ["_law_script", "_law_k"]) fun _ _ _ _ _ _ us hl => match us, hl with | [_, _], _ => rfl
  have Ftake := fun_mk (x := "_law_take") (st := st_take) l_take c_take k_take
  have btake := Ftake.binds (ps := ["_law_pot_here", "_law_below"]) fun _ _ _ _ _ _ us hl => match us, hl with | [_, _], _ => rfl
  have Fof := fun_mk (x := "_law_of") (st := st_of) l_of c_of k_of
  have bof := Fof.binds (ps := ["_law_pot_here", "_law_some"]) fun _ _ _ _ _ _ us hl => match us, hl with | [_, _], _ => rfl
  have Fby_position := fun_mk (x := "_law_by_position") (st := st_by_position) l_by_position c_by_position k_by_position
  have bby_position := Fby_position.binds (ps := ["_law_a", "_law_b", "_law_c"]) fun _ _ _ _ _ _ us hl => match us, hl with | [_, _, _], _ => rfl
  have Fby_name := fun_mk (x := "_law_by_name") (st := st_by_name) l_by_name c_by_name k_by_name
  have bby_name := Fby_name.binds (ps := ["_law_a", "_law_b", "_law_c"]) fun _ _ _ _ _ _ us hl => match us, hl with | [_, _, _], _ => rfl
  have Fsorts := fun_mk (x := "_law_sorts") (st := st_sorts) l_sorts c_sorts k_sorts
  have bsorts := Fsorts.binds (ps := ["_law_e"]) fun _ _ _ _ _ _ us hl => match us, hl with | [_], _ => rfl
  have Fvalues := fun_mk (x := "_law_values") (st := st_values) l_values c_values k_values
  have bvalues := Fvalues.binds (ps := ["_law_some"]) fun _ _ _ _ _ _ us hl => match us, hl with | [_], _ => rfl
  have Fright := fun_mk (x := "_law_right") (st := st_right) l_right c_right k_right
  have bright := Fright.binds (ps := ["_law_pot_here"]) fun _ _ _ _ _ _ us hl => match us, hl with | [_], _ => rfl
  have Flaw := fun_mk (x := "law") (st := st_law) l_law c_law k_law
  have blaw := Flaw.binds (ps := ["_law_script"]) fun _ _ _ _ _ _ us hl => match us, hl with | [_], _ => rfl
  have B : Blt mg := ⟨PySem.W.mg_none_of X G z_len, PySem.W.mg_none_of X G z_abs, PySem.W.mg_none_of X G z_int, PySem.W.mg_none_of X G z_range, PySem.W.mg_none_of X G z_enumerate, PySem.W.mg_none_of X G z_isinstance, PySem.W.mg_none_of X G z_repr, PySem.W.mg_none_of X G z_all, PySem.W.mg_none_of X G z_max, PySem.W.mg_none_of X G z_min, PySem.W.mg_none_of X G z_ValueError⟩
  have FUnknownGateway := fun_mk (x := "__init__") (qual := "UnknownGateway.__init__") (st := st_UnknownGateway) lUnknownGateway cUnknownGateway kUnknownGateway
  have bUnknownGateway := FUnknownGateway.binds (ps := ["self", "name"]) fun _ _ _ _ _ _ us hl => match us, hl with | [_, _], _ => rfl
  have OUnknownGateway : OexC K C0 := oexB_ok oUnknownGateway xUnknownGateway
  have FBadStep := fun_mk (x := "__init__") (qual := "BadStep.__init__") (st := st_BadStep) lBadStep cBadStep kBadStep
  have bBadStep := FBadStep.binds (ps := ["self", "step"]) fun _ _ _ _ _ _ us hl => match us, hl with | [_, _], _ => rfl
  have OBadStep : OexC K C1 := oexB_ok oBadStep xBadStep
  have FNoEntry := fun_mk (x := "__init__") (qual := "NoEntry.__init__") (st := st_NoEntry) lNoEntry cNoEntry kNoEntry
  have bNoEntry := FNoEntry.binds (ps := ["self", "entry"]) fun _ _ _ _ _ _ us hl => match us, hl with | [_, _], _ => rfl
  have ONoEntry : OexC K C2 := oexB_ok oNoEntry xNoEntry
  have FNotNeeded := fun_mk (x := "__init__") (qual := "NotNeeded.__init__") (st := st_NotNeeded) lNotNeeded cNotNeeded kNotNeeded
  have bNotNeeded := FNotNeeded.binds (ps := ["self", "entry"]) fun _ _ _ _ _ _ us hl => match us, hl with | [_, _], _ => rfl
  have ONotNeeded : OexC K C3 := oexB_ok oNotNeeded xNotNeeded
  have FBadRegions := fun_mk (x := "__init__") (qual := "BadRegions.__init__") (st := st_BadRegions) lBadRegions cBadRegions kBadRegions
  have bBadRegions := FBadRegions.binds (ps := ["self", "regions"]) fun _ _ _ _ _ _ us hl => match us, hl with | [_, _], _ => rfl
  have OBadRegions : OexC K C6 := oexB_ok oBadRegions xBadRegions
  have FBadGateway := fun_mk (x := "__init__") (qual := "BadGateway.__init__") (st := st_BadGateway) lBadGateway cBadGateway kBadGateway
  have bBadGateway := FBadGateway.binds (ps := ["self", "name", "members", "kind"]) fun _ _ _ _ _ _ us hl => match us, hl with | [_, _, _, _], _ => rfl
  have OBadGateway : OexC K C7 := oexB_ok oBadGateway xBadGateway
  have FTakenGateway := fun_mk (x := "__init__") (qual := "TakenGateway.__init__") (st := st_TakenGateway) lTakenGateway cTakenGateway kTakenGateway
  have bTakenGateway := FTakenGateway.binds (ps := ["self", "name"]) fun _ _ _ _ _ _ us hl => match us, hl with | [_, _], _ => rfl
  have OTakenGateway : OexC K C8 := oexB_ok oTakenGateway xTakenGateway
  have FTooMany := fun_mk (x := "__init__") (qual := "TooMany.__init__") (st := st_TooMany) lTooMany cTooMany kTooMany
  have bTooMany := FTooMany.binds (ps := ["self", "count"]) fun _ _ _ _ _ _ us hl => match us, hl with | [_, _], _ => rfl
  have OTooMany : OexC K C9 := oexB_ok oTooMany xTooMany
  have FClosesCycle := fun_mk (x := "__init__") (qual := "ClosesCycle.__init__") (st := st_ClosesCycle) lClosesCycle cClosesCycle kClosesCycle
  have bClosesCycle := FClosesCycle.binds (ps := ["self", "cycle"]) fun _ _ _ _ _ _ us hl => match us, hl with | [_, _], _ => rfl
  have OClosesCycle : OexC K C10 := oexB_ok oClosesCycle xClosesCycle
  have FBadMark := fun_mk (x := "__init__") (qual := "BadMark.__init__") (st := st_BadMark) lBadMark cBadMark kBadMark
  have bBadMark := FBadMark.binds (ps := ["self", "mark"]) fun _ _ _ _ _ _ us hl => match us, hl with | [_, _], _ => rfl
  have OBadMark : OexC K C12 := oexB_ok oBadMark xBadMark
  have FBadText := fun_mk (x := "__init__") (qual := "BadText.__init__") (st := st_BadText) lBadText cBadText kBadText
  have bBadText := FBadText.binds (ps := ["self", "line"]) fun _ _ _ _ _ _ us hl => match us, hl with | [_, _], _ => rfl
  have OBadText : OexC K C13 := oexB_ok oBadText xBadText
  have FBadLine := fun_mk (x := "__init__") (qual := "BadLine.__init__") (st := st_BadLine) lBadLine cBadLine kBadLine
  have bBadLine := FBadLine.binds (ps := ["self", "line"]) fun _ _ _ _ _ _ us hl => match us, hl with | [_, _], _ => rfl
  have OBadLine : OexC K C14 := oexB_ok oBadLine xBadLine
  have T : Kn K (fun n => ([C0, C1, C2, C3, C4, C5, C6, C7, C8, C9, C10, C11, C12, C13, C14] : List Addr).getD n 0) CT := kitB_ok kit
  refine ⟨PySem.W.fnOf "law" "law" (defArgs st_law) (defBody st_law) (defScope st_law) .none kV_law dc_law pm_law an_law cd_law ct_law, fun s v => .of_eq rfl, fun base _ _ => ?_⟩
  · have Z : Errs l.prog w K mg base (fun n => ([C0, C1, C2, C3, C4, C5, C6, C7, C8, C9, C10, C11, C12, C13, C14] : List Addr).getD n 0) (fun n => ([I0, I1, I2, I3, 0, 0, I6, I7, I8, I9, I10, 0, I12, I13, I14] : List Addr).getD n 0) (fun n => ([(PySem.W.fnOf "__init__" "UnknownGateway.__init__" (defArgs st_UnknownGateway) (defBody st_UnknownGateway) (defScope st_UnknownGateway) .none kVUnknownGateway dcUnknownGateway pmUnknownGateway anUnknownGateway cdUnknownGateway ctUnknownGateway), (PySem.W.fnOf "__init__" "BadStep.__init__" (defArgs st_BadStep) (defBody st_BadStep) (defScope st_BadStep) .none kVBadStep dcBadStep pmBadStep anBadStep cdBadStep ctBadStep), (PySem.W.fnOf "__init__" "NoEntry.__init__" (defArgs st_NoEntry) (defBody st_NoEntry) (defScope st_NoEntry) .none kVNoEntry dcNoEntry pmNoEntry anNoEntry cdNoEntry ctNoEntry), (PySem.W.fnOf "__init__" "NotNeeded.__init__" (defArgs st_NotNeeded) (defBody st_NotNeeded) (defScope st_NotNeeded) .none kVNotNeeded dcNotNeeded pmNotNeeded anNotNeeded cdNotNeeded ctNotNeeded), (PySem.W.fnOf "__init__" "UnknownGateway.__init__" (defArgs st_UnknownGateway) (defBody st_UnknownGateway) (defScope st_UnknownGateway) .none kVUnknownGateway dcUnknownGateway pmUnknownGateway anUnknownGateway cdUnknownGateway ctUnknownGateway), (PySem.W.fnOf "__init__" "UnknownGateway.__init__" (defArgs st_UnknownGateway) (defBody st_UnknownGateway) (defScope st_UnknownGateway) .none kVUnknownGateway dcUnknownGateway pmUnknownGateway anUnknownGateway cdUnknownGateway ctUnknownGateway), (PySem.W.fnOf "__init__" "BadRegions.__init__" (defArgs st_BadRegions) (defBody st_BadRegions) (defScope st_BadRegions) .none kVBadRegions dcBadRegions pmBadRegions anBadRegions cdBadRegions ctBadRegions), (PySem.W.fnOf "__init__" "BadGateway.__init__" (defArgs st_BadGateway) (defBody st_BadGateway) (defScope st_BadGateway) .none kVBadGateway dcBadGateway pmBadGateway anBadGateway cdBadGateway ctBadGateway), (PySem.W.fnOf "__init__" "TakenGateway.__init__" (defArgs st_TakenGateway) (defBody st_TakenGateway) (defScope st_TakenGateway) .none kVTakenGateway dcTakenGateway pmTakenGateway anTakenGateway cdTakenGateway ctTakenGateway), (PySem.W.fnOf "__init__" "TooMany.__init__" (defArgs st_TooMany) (defBody st_TooMany) (defScope st_TooMany) .none kVTooMany dcTooMany pmTooMany anTooMany cdTooMany ctTooMany), (PySem.W.fnOf "__init__" "ClosesCycle.__init__" (defArgs st_ClosesCycle) (defBody st_ClosesCycle) (defScope st_ClosesCycle) .none kVClosesCycle dcClosesCycle pmClosesCycle anClosesCycle cdClosesCycle ctClosesCycle), (PySem.W.fnOf "__init__" "UnknownGateway.__init__" (defArgs st_UnknownGateway) (defBody st_UnknownGateway) (defScope st_UnknownGateway) .none kVUnknownGateway dcUnknownGateway pmUnknownGateway anUnknownGateway cdUnknownGateway ctUnknownGateway), (PySem.W.fnOf "__init__" "BadMark.__init__" (defArgs st_BadMark) (defBody st_BadMark) (defScope st_BadMark) .none kVBadMark dcBadMark pmBadMark anBadMark cdBadMark ctBadMark), (PySem.W.fnOf "__init__" "BadText.__init__" (defArgs st_BadText) (defBody st_BadText) (defScope st_BadText) .none kVBadText dcBadText pmBadText anBadText cdBadText ctBadText), (PySem.W.fnOf "__init__" "BadLine.__init__" (defArgs st_BadLine) (defBody st_BadLine) (defScope st_BadLine) .none kVBadLine dcBadLine pmBadLine anBadLine cdBadLine ctBadLine)] : List FuncData).getD n (PySem.W.fnOf "__init__" "UnknownGateway.__init__" (defArgs st_UnknownGateway) (defBody st_UnknownGateway) (defScope st_UnknownGateway) .none kVUnknownGateway dcUnknownGateway pmUnknownGateway anUnknownGateway cdUnknownGateway ctUnknownGateway)) :=
      { UnknownGateway := ⟨PySem.W.mg_of X G aUnknownGateway, OUnknownGateway, iUnknownGateway, tUnknownGateway, ok_UnknownGateway FUnknownGateway OUnknownGateway nUnknownGatewayname, bUnknownGateway, fun s1 z ws _ hl => match ws, hl with | [u], _ => .of_eq rfl, nUnknownGatewayname⟩,
        BadStep := ⟨PySem.W.mg_of X G aBadStep, OBadStep, iBadStep, tBadStep, ok_BadStep FBadStep OBadStep nBadStepstep, bBadStep, fun s1 z ws _ hl => match ws, hl with | [u], _ => .of_eq rfl, nBadStepstep⟩,
        NoEntry := ⟨PySem.W.mg_of X G aNoEntry, ONoEntry, iNoEntry, tNoEntry, ok_NoEntry FNoEntry ONoEntry nNoEntryentry, bNoEntry, fun s1 z ws _ hl => match ws, hl with | [u], _ => .of_eq rfl, nNoEntryentry⟩,
        NotNeeded := ⟨PySem.W.mg_of X G aNotNeeded, ONotNeeded, iNotNeeded, tNotNeeded, ok_NotNeeded FNotNeeded ONotNeeded nNotNeededentry, bNotNeeded, fun s1 z ws _ hl => match ws, hl with | [u], _ => .of_eq rfl, nNotNeededentry⟩,
        HasRevoke := ⟨PySem.W.mg_of X G aHasRevoke, xHasRevoke, yHasRevoke⟩,
        Unnoticed := ⟨PySem.W.mg_of X G aUnnoticed, xUnnoticed, yUnnoticed⟩,
        BadRegions := ⟨PySem.W.mg_of X G aBadRegions, OBadRegions, iBadRegions, tBadRegions, ok_BadRegions FBadRegions OBadRegions nBadRegionsregions, bBadRegions, fun s1 z ws _ hl => match ws, hl with | [u], _ => .of_eq rfl, nBadRegionsregions⟩,
        BadGateway := ⟨PySem.W.mg_of X G aBadGateway, OBadGateway, iBadGateway, tBadGateway, ok_BadGateway FBadGateway OBadGateway nBadGatewayname nBadGatewaymembers nBadGatewaykind, bBadGateway, fun s1 z ws _ hl => match ws, hl with | [u, v, x], _ => .of_eq rfl, ⟨nBadGatewayname, nBadGatewaymembers, nBadGatewaykind⟩⟩,
        TakenGateway := ⟨PySem.W.mg_of X G aTakenGateway, OTakenGateway, iTakenGateway, tTakenGateway, ok_TakenGateway FTakenGateway OTakenGateway nTakenGatewayname, bTakenGateway, fun s1 z ws _ hl => match ws, hl with | [u], _ => .of_eq rfl, nTakenGatewayname⟩,
        TooMany := ⟨PySem.W.mg_of X G aTooMany, OTooMany, iTooMany, tTooMany, ok_TooMany FTooMany OTooMany nTooManycount, bTooMany, fun s1 z ws _ hl => match ws, hl with | [u], _ => .of_eq rfl, nTooManycount⟩,
        ClosesCycle := ⟨PySem.W.mg_of X G aClosesCycle, OClosesCycle, iClosesCycle, tClosesCycle, ok_ClosesCycle FClosesCycle OClosesCycle nClosesCyclecycle, bClosesCycle, fun s1 z ws _ hl => match ws, hl with | [u], _ => .of_eq rfl, nClosesCyclecycle⟩,
        NothingDone := ⟨PySem.W.mg_of X G aNothingDone, xNothingDone, yNothingDone⟩,
        BadMark := ⟨PySem.W.mg_of X G aBadMark, OBadMark, iBadMark, tBadMark, ok_BadMark FBadMark OBadMark nBadMarkmark, bBadMark, fun s1 z ws _ hl => match ws, hl with | [u], _ => .of_eq rfl, nBadMarkmark⟩,
        BadText := ⟨PySem.W.mg_of X G aBadText, OBadText, iBadText, tBadText, ok_BadText FBadText OBadText nBadTextline, bBadText, fun s1 z ws _ hl => match ws, hl with | [u], _ => .of_eq rfl, nBadTextline⟩,
        BadLine := ⟨PySem.W.mg_of X G aBadLine, OBadLine, iBadLine, tBadLine, ok_BadLine FBadLine OBadLine nBadLineline, bBadLine, fun s1 z ws _ hl => match ws, hl with | [u], _ => .of_eq rfl, nBadLineline⟩ }
    have Dtake : Df l.prog w K mg base "_law_take" 1 f_take _ _ _ := ⟨PySem.W.mg_of X G a_take, k_take, btake, ok_take Ftake⟩
    have Dpot : Df l.prog w K mg base "_law_pot" 1 f_pot _ _ _ := ⟨PySem.W.mg_of X G a_pot, k_pot, bpot, ok_pot Fpot B⟩
    have Dof : Df l.prog w K mg base "_law_of" 2 f_of _ _ _ := ⟨PySem.W.mg_of X G a_of, k_of, bof, ok_of Fof B Dtake⟩
    have Dby_position : Df l.prog w K mg base "_law_by_position" 3 f_by_position _ _ _ := ⟨PySem.W.mg_of X G a_by_position, k_by_position, bby_position, ok_by_position Fby_position Z⟩
    have Dby_name : Df l.prog w K mg base "_law_by_name" 3 f_by_name _ _ _ := ⟨PySem.W.mg_of X G a_by_name, k_by_name, bby_name, ok_by_name Fby_name Z⟩
    have Dsorts : Df l.prog w K mg base "_law_sorts" 1 f_sorts _ _ _ := ⟨PySem.W.mg_of X G a_sorts, k_sorts, bsorts, ok_sorts Fsorts B Z T⟩
    have Dvalues : Df l.prog w K mg base "_law_values" 1 f_values _ _ _ := ⟨PySem.W.mg_of X G a_values, k_values, bvalues, ok_values Fvalues Z T⟩
    have Dright : Df l.prog w K mg base "_law_right" 4 f_right _ _ _ := ⟨PySem.W.mg_of X G a_right, k_right, bright, ok_right Fright B Z T (PySem.W.mg_of X G aT) Dof Dby_position Dby_name Dsorts Dvalues⟩
    exact ok_law Flaw B Dright Dpot
end K34

set_option Elab.async false
set_option linter.all false
open PySem PySem.W PyProof.Rows
set_option maxRecDepth 100000 in
set_option maxHeartbeats 0 in
theorem PySem.Challenge.cw_wraptrails_k34_each_error_alone_holds : PySem.Challenge.rw_wraptrails_k34_each_error_alone.Holds := by
  w_on; o_law; k_head; (case hw => w_witness2)
  k_fill
  refine WT.walkG (l := PySem.Challenge.rw_wraptrails_k34_each_error_alone) (n := 63) (k := 5) (x := "_law_script") (sp := fun w => K34.spLaw _) rfl (by decide) rfl ⟨rfl, by decide, by decide⟩ (fun w h Y => PySem.W.kIn_of Y) ?F (fun _ _ a ns hl _ hS => ⟨a, ns, rfl, hS, hl, fun _ => rfl⟩)
  case F =>
    intro w mg fa h KX G hmg
    refine' K34.all_mk KX G hmg ?aT ?aUnknownGateway ?xUnknownGateway ?oUnknownGateway ?iUnknownGateway ?tUnknownGateway ?nUnknownGatewayname ?lUnknownGateway ?cUnknownGateway ?kUnknownGateway ?aBadStep ?xBadStep ?oBadStep ?iBadStep ?tBadStep ?nBadStepstep ?lBadStep ?cBadStep ?kBadStep ?aNoEntry ?xNoEntry ?oNoEntry ?iNoEntry ?tNoEntry ?nNoEntryentry ?lNoEntry ?cNoEntry ?kNoEntry ?aNotNeeded ?xNotNeeded ?oNotNeeded ?iNotNeeded ?tNotNeeded ?nNotNeededentry ?lNotNeeded ?cNotNeeded ?kNotNeeded ?aHasRevoke ?xHasRevoke ?yHasRevoke ?aUnnoticed ?xUnnoticed ?yUnnoticed ?aBadRegions ?xBadRegions ?oBadRegions ?iBadRegions ?tBadRegions ?nBadRegionsregions ?lBadRegions ?cBadRegions ?kBadRegions ?aBadGateway ?xBadGateway ?oBadGateway ?iBadGateway ?tBadGateway ?nBadGatewayname ?nBadGatewaymembers ?nBadGatewaykind ?lBadGateway ?cBadGateway ?kBadGateway ?aTakenGateway ?xTakenGateway ?oTakenGateway ?iTakenGateway ?tTakenGateway ?nTakenGatewayname ?lTakenGateway ?cTakenGateway ?kTakenGateway ?aTooMany ?xTooMany ?oTooMany ?iTooMany ?tTooMany ?nTooManycount ?lTooMany ?cTooMany ?kTooMany ?aClosesCycle ?xClosesCycle ?oClosesCycle ?iClosesCycle ?tClosesCycle ?nClosesCyclecycle ?lClosesCycle ?cClosesCycle ?kClosesCycle ?aNothingDone ?xNothingDone ?yNothingDone ?aBadMark ?xBadMark ?oBadMark ?iBadMark ?tBadMark ?nBadMarkmark ?lBadMark ?cBadMark ?kBadMark ?aBadText ?xBadText ?oBadText ?iBadText ?tBadText ?nBadTextline ?lBadText ?cBadText ?kBadText ?aBadLine ?xBadLine ?oBadLine ?iBadLine ?tBadLine ?nBadLineline ?lBadLine ?cBadLine ?kBadLine ?kit ?a_pot ?l_pot ?c_pot ?k_pot ?a_take ?l_take ?c_take ?k_take ?a_of ?l_of ?c_of ?k_of ?a_by_position ?l_by_position ?c_by_position ?k_by_position ?a_by_name ?l_by_name ?c_by_name ?k_by_name ?a_sorts ?l_sorts ?c_sorts ?k_sorts ?a_values ?l_values ?c_values ?k_values ?a_right ?l_right ?c_right ?k_right ?a_law ?l_law ?c_law ?k_law ?z_len ?z_abs ?z_int ?z_range ?z_enumerate ?z_isinstance ?z_repr ?z_all ?z_max ?z_min ?z_ValueError
    (case aT => k_is)
    (case aUnknownGateway => k_is)
    (case xUnknownGateway => k_is)
    (case oUnknownGateway => kernel_rfl)
    (case iUnknownGateway => k_is)
    (case tUnknownGateway => k_is)
    (case nUnknownGatewayname => k_is)
    (case lUnknownGateway => k_is)
    (case cUnknownGateway => k_is)
    (case kUnknownGateway => k_is)
    (case aBadStep => k_is)
    (case xBadStep => k_is)
    (case oBadStep => kernel_rfl)
    (case iBadStep => k_is)
    (case tBadStep => k_is)
    (case nBadStepstep => k_is)
    (case lBadStep => k_is)
    (case cBadStep => k_is)
    (case kBadStep => k_is)
    (case aNoEntry => k_is)
    (case xNoEntry => k_is)
    (case oNoEntry => kernel_rfl)
    (case iNoEntry => k_is)
    (case tNoEntry => k_is)
    (case nNoEntryentry => k_is)
    (case lNoEntry => k_is)
    (case cNoEntry => k_is)
    (case kNoEntry => k_is)
    (case aNotNeeded => k_is)
    (case xNotNeeded => k_is)
    (case oNotNeeded => kernel_rfl)
    (case iNotNeeded => k_is)
    (case tNotNeeded => k_is)
    (case nNotNeededentry => k_is)
    (case lNotNeeded => k_is)
    (case cNotNeeded => k_is)
    (case kNotNeeded => k_is)
    (case aHasRevoke => k_is)
    (case xHasRevoke => k_exc)
    (case yHasRevoke => k_is)
    (case aUnnoticed => k_is)
    (case xUnnoticed => k_exc)
    (case yUnnoticed => k_is)
    (case aBadRegions => k_is)
    (case xBadRegions => k_is)
    (case oBadRegions => kernel_rfl)
    (case iBadRegions => k_is)
    (case tBadRegions => k_is)
    (case nBadRegionsregions => k_is)
    (case lBadRegions => k_is)
    (case cBadRegions => k_is)
    (case kBadRegions => k_is)
    (case aBadGateway => k_is)
    (case xBadGateway => k_is)
    (case oBadGateway => kernel_rfl)
    (case iBadGateway => k_is)
    (case tBadGateway => k_is)
    (case nBadGatewayname => k_is)
    (case nBadGatewaymembers => k_is)
    (case nBadGatewaykind => k_is)
    (case lBadGateway => k_is)
    (case cBadGateway => k_is)
    (case kBadGateway => k_is)
    (case aTakenGateway => k_is)
    (case xTakenGateway => k_is)
    (case oTakenGateway => kernel_rfl)
    (case iTakenGateway => k_is)
    (case tTakenGateway => k_is)
    (case nTakenGatewayname => k_is)
    (case lTakenGateway => k_is)
    (case cTakenGateway => k_is)
    (case kTakenGateway => k_is)
    (case aTooMany => k_is)
    (case xTooMany => k_is)
    (case oTooMany => kernel_rfl)
    (case iTooMany => k_is)
    (case tTooMany => k_is)
    (case nTooManycount => k_is)
    (case lTooMany => k_is)
    (case cTooMany => k_is)
    (case kTooMany => k_is)
    (case aClosesCycle => k_is)
    (case xClosesCycle => k_is)
    (case oClosesCycle => kernel_rfl)
    (case iClosesCycle => k_is)
    (case tClosesCycle => k_is)
    (case nClosesCyclecycle => k_is)
    (case lClosesCycle => k_is)
    (case cClosesCycle => k_is)
    (case kClosesCycle => k_is)
    (case aNothingDone => k_is)
    (case xNothingDone => k_exc)
    (case yNothingDone => k_is)
    (case aBadMark => k_is)
    (case xBadMark => k_is)
    (case oBadMark => kernel_rfl)
    (case iBadMark => k_is)
    (case tBadMark => k_is)
    (case nBadMarkmark => k_is)
    (case lBadMark => k_is)
    (case cBadMark => k_is)
    (case kBadMark => k_is)
    (case aBadText => k_is)
    (case xBadText => k_is)
    (case oBadText => kernel_rfl)
    (case iBadText => k_is)
    (case tBadText => k_is)
    (case nBadTextline => k_is)
    (case lBadText => k_is)
    (case cBadText => k_is)
    (case kBadText => k_is)
    (case aBadLine => k_is)
    (case xBadLine => k_is)
    (case oBadLine => kernel_rfl)
    (case iBadLine => k_is)
    (case tBadLine => k_is)
    (case nBadLineline => k_is)
    (case lBadLine => k_is)
    (case cBadLine => k_is)
    (case kBadLine => k_is)
    (case kit => kernel_rfl)
    (case a_pot => k_is)
    (case l_pot => k_is)
    (case c_pot => k_is)
    (case k_pot => k_is)
    (case a_take => k_is)
    (case l_take => k_is)
    (case c_take => k_is)
    (case k_take => k_is)
    (case a_of => k_is)
    (case l_of => k_is)
    (case c_of => k_is)
    (case k_of => k_is)
    (case a_by_position => k_is)
    (case l_by_position => k_is)
    (case c_by_position => k_is)
    (case k_by_position => k_is)
    (case a_by_name => k_is)
    (case l_by_name => k_is)
    (case c_by_name => k_is)
    (case k_by_name => k_is)
    (case a_sorts => k_is)
    (case l_sorts => k_is)
    (case c_sorts => k_is)
    (case k_sorts => k_is)
    (case a_values => k_is)
    (case l_values => k_is)
    (case c_values => k_is)
    (case k_values => k_is)
    (case a_right => k_is)
    (case l_right => k_is)
    (case c_right => k_is)
    (case k_right => k_is)
    (case a_law => k_is)
    (case l_law => k_is)
    (case c_law => k_is)
    (case k_law => k_is)
    (case z_len => k_is)
    (case z_abs => k_is)
    (case z_int => k_is)
    (case z_range => k_is)
    (case z_enumerate => k_is)
    (case z_isinstance => k_is)
    (case z_repr => k_is)
    (case z_all => k_is)
    (case z_max => k_is)
    (case z_min => k_is)
    (case z_ValueError => k_is)
