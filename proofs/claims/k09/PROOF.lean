import PyProof.Rows.All
import Wide.All
import OpenK.AllK
import Wide.FinOn
import HandS.Base
import HandS.Call
import HandS.List
import HandS.ExcInit
import HandS.Words
import HandS.Ends
import HandS.ExcIs
import KE.KExcIs
import HandS.ExcValue
import HandS.Exc
import PyProof.Rows.ReprR
import HandS.Dict
import PyProof.ListStr
import HandS.ForMost
import HandS.Conv
import HandS.Defaults
import KE.GoesEnum
import HandS.Iter
import HandS.Walk
import HandS.Style
import PySem.Challenge.RW_wraptrails_k09_connected_regions
set_option Elab.async false
set_option linter.all false
set_option maxRecDepth 100000
set_option maxHeartbeats 4000000
/-! Errors of the program held as values: made (by place, by name), asked for their class, their fields read. -/
namespace WT
open PySem PySem.W PySem.Calls PyProof.Rows PySem.HandSPX
section
variable {prog : Program} {w : World} {A : Around} {E : Value → Shared → Prop} {R : Result → Shared → Prop} {hp : Heap} {gs : Array GenState} {dr : Drawn} {tn : Nat} {os : OsState}
variable {nm q : Str} {C N : Addr} {bs bm : List Value} {hdct : Bool} {sn : List Str} {sub : List Value} {ab : Bool} {col : Option Bool} {dd : Option Addr} {k0 k1 k2 k3 k5 : Option Value}
abbrev VEo (nm q : Str) (C N : Addr) (bs bm : List Value) (hdct : Bool) (sn : List Str) (sub : List Value) (ab : Bool) (col : Option Bool) (dd : Option Addr) (k0 k1 k2 k3 k5 : Option Value) : Obj :=
  excClassObj nm q C N bs bm hdct sn sub ab col dd k0 k1 k2 k3 k5 "ValueError.__new__"
theorem vt_has (hb : refsVE bm = true) (T : String) : (Value.ref C :: bm).contains (.type T) = veTail.contains (.type T) := by
  rw [List.contains_cons, refsVE_contains T bm hb]
  rfl
theorem ck_newK (hb : refsVE bm = true) {us : List Value} {kw : List (Str × Value)} {Q : Unit → Shared → Prop} (hC : hp.get? C = some (VEo nm q C N bs bm hdct sn sub ab col dd k0 k1 k2 k3 k5)) (hq : Q () ⟨hp, gs, dr, tn, os⟩) :
    wpAny (model prog w) A (checkBuiltinCall "ValueError.__new__" ⟨.ref C :: us, kw⟩) Q E ⟨hp, gs, dr, tn, os⟩ := by
  have F := F.excBase_ValueError
  have c1 : (Value.ref C :: bm).contains (.type "ValueError") = true := (vt_has hb _).trans (by decide +kernel)
  have c2 := F.noStar
  simp only [checkBuiltinCall, F.newKind, F.newSplit, F.newRow]
  repeat (first
    | refine wpAny_loadPart_at hC ?_
    | (refine wpAny_isSubtype_exc hC ?_; rw [c1])
    | refine wpAny_staticBase_exc hC ?_
    | refine wpAny_madeBy_exc hC ?_
    | simp only [bne_self_eq_false, Bool.false_eq_true, if_false]
    | wp_step)
  exact hq
theorem newK (hb : refsVE bm = true) {us : List Value} {kw : List (Str × Value)} (hC : hp.get? C = some (VEo nm q C N bs bm hdct sn sub ab col dd k0 k1 k2 k3 k5)) (hus : us.length ≤ sizeLine)
    (hq : R (.ok (.ret (.ref (hp.objs.size + 1)))) ⟨(hp.push (kdv_tup us)).push (excO C hp.objs.size), gs, dr, tn, os⟩) :
    codeAny (model prog w) A (.builtin "ValueError.__new__" ⟨.ref C :: us, kw⟩) R ⟨hp, gs, dr, tn, os⟩ := by
  have F := F.excBase_ValueError
  have c0 := F.ends
  have c1 : (Value.ref C :: bm).contains (.type "ValueError") = true := (vt_has hb _).trans (by decide +kernel)
  have c2 : (Value.ref C :: bm).contains (.type "AttributeError") = false := (vt_has hb _).trans (by decide +kernel)
  have c3 : (Value.ref C :: bm).contains (.type "NameError") = false := (vt_has hb _).trans (by decide +kernel)
  refine codeAny_builtinAt F.entry ?_
  unfold Builtin.«BaseException.__new__»
  refine PySem.wpAt_bind ?_
  show PySem.wpAt _ _ _ (stack >>= _) _ _ _
  refine PySem.wpAt_bind (PySem.wpAt_stack fun pp bl => PySem.wpAt_of_wpAny ?_)
  wp_walk
  refine PySem.wpAt_of_wpAny ?_
  rw [F.owner]
  repeat (first
    | with_reducible refine wpAny_madeHere_exc F.canon hC ?_
    | with_reducible refine wpAny_loadPart_at hC ?_
    | (with_reducible refine wpAny_isSubtype_exc hC ?_; first | rw [c1] | rw [c2] | rw [c3])
    | wp_step)
  show R _ _
  rw [Heap.size_push]
  exact hq
theorem tcallK (hb : refsVE bm = true) {us : List Value} {kw : List (Str × Value)} {fI : Addr} {Q : PySem.Fin → Shared → Prop} (hC : hp.get? C = some (VEo nm q C N bs bm hdct sn sub ab col dd k0 k1 k2 k3 k5))
    (hi : Looks (model prog w) hp (typeLookup (.ref C) "__init__") (some (.ref fI))) (hbd : ∀ z, Looks (model prog w) hp (bindSpecial (.ref fI) z) (.ref fI, [z])) (hus : us.length ≤ sizeLine)
    (hq : codeAny (model prog w) A (.call (.ref fI) ⟨.ref (hp.objs.size + 1) :: us, kw⟩)
      (fun r s' => match r with | .ok (.ret v) => v = .none ∧ Q (.done (.ret (.ref (hp.objs.size + 1)))) s' | .ok _ => False | .error e => E e s')
      ⟨(hp.push (kdv_tup us)).push (excO C hp.objs.size), gs, dr, tn, os⟩) :
    wpAny (model prog w) A (Builtin.«type.__call__» ⟨.ref C :: us, kw⟩) Q E ⟨hp, gs, dr, tn, os⟩ := by
  have F := F.excBase_ValueError
  repeat (first
    | with_reducible refine wpAny_loadPart_at hC ?_
    | with_reducible refine wpAny_madeBy_exc hC ?_
    | wp_step)
  refine codeAny_call_builtin_code (Code.quiet_builtin _ F.quiet) (ck_newK hb hC ?_)
  refine newK hb hC hus ?_
  show wpAny _ _ _ _ _ _
  have kp : ∀ b o, hp.get? b = some o → ((hp.push (kdv_tup us)).push (excO C hp.objs.size)).get? b = some o :=
    fun b o z => Heap.get?_push_of_some _ (Heap.get?_push_of_some _ z)
  have hC1 := kp _ _ hC
  have hg : ((hp.push (kdv_tup us)).push (excO C hp.objs.size)).get? (hp.objs.size + 1) = some (excO C hp.objs.size) := by
    heap_get
  have cC : (Value.ref C :: bm).contains (.ref C) = true := by simp
  have i1 := hi.keeps kp
  have b1 := (hbd (.ref (hp.objs.size + 1))).keeps kp
  unfold isInstance
  repeat (first
    | with_reducible refine wpAny_loadPart_at hg ?_
    | (with_reducible refine wpAny_isSubtype_exc hC1 ?_; rw [cC])
    | wp_step)
  show wpAny _ _ (typeLookup (.ref C) _) _ _ _
  refine i1.at (wpAny_holding (wpAny_bind (b1.at ?_)))
  refine wpAny_bind (wpAny_call (codeAny_mono hq fun r s' z => ?_))
  rcases r with e | (v | _ | _ | _) <;> first | exact z | exact z.elim | skip
  obtain ⟨rfl, z⟩ := z
  first
    | exact wpAny_pure (wpAny_pure z)
    | (wp_walk; exact z)
theorem ck_callK {us : List Value} {kw : List (Str × Value)} {Q : Unit → Shared → Prop} (hC : hp.get? C = some (VEo nm q C N bs bm hdct sn sub ab col dd k0 k1 k2 k3 k5)) (hq : Q () ⟨hp, gs, dr, tn, os⟩) :
    wpAny (model prog w) A (checkBuiltinCall "type.__call__" ⟨.ref C :: us, kw⟩) Q E ⟨hp, gs, dr, tn, os⟩ := by
  have f3 := tc_sub
  have ht : (⟨hp, gs, dr, tn, os⟩ : Shared).TypeIs (.ref C) "type" := ⟨_, hC, rfl⟩
  simp only [checkBuiltinCall, tc_kind, tc_split]
  repeat (any_goals (first
    | assumption
    | with_reducible refine wpAny_loadPart_at hC ?_
    | with_reducible refine wpAny_onRaise ?_
    | with_reducible refine wpAny_map ?_
    | wp_step))
theorem ownK (hb : refsVE bm = true) {us : List Value} {kw : List (Str × Value)} {fI : Addr} (hC : hp.get? C = some (VEo nm q C N bs bm hdct sn sub ab col dd k0 k1 k2 k3 k5))
    (hi : Looks (model prog w) hp (typeLookup (.ref C) "__init__") (some (.ref fI))) (hbd : ∀ z, Looks (model prog w) hp (bindSpecial (.ref fI) z) (.ref fI, [z])) (hus : us.length ≤ sizeLine)
    (hq : codeAny (model prog w) (A.under (.builtin "type.__call__" ⟨.ref C :: us, kw⟩)) (.call (.ref fI) ⟨.ref (hp.objs.size + 1) :: us, kw⟩) (InitBack (hp.objs.size + 1) R)
      ⟨(hp.push (kdv_tup us)).push (excO C hp.objs.size), gs, dr, tn, os⟩) :
    codeAny (model prog w) A (.call (.ref C) ⟨us, kw⟩) R ⟨hp, gs, dr, tn, os⟩ := by
  have f1 := tc_lookup
  have f2 := tc_bind (.ref C)
  have ht : (⟨hp, gs, dr, tn, os⟩ : Shared).TypeIs (.ref C) "type" := ⟨_, hC, rfl⟩
  refine codeAny_of_tree ?_
  show wpAny _ _ (callAny (.ref C) _) _ _ _
  repeat (any_goals (first
    | assumption
    | with_reducible refine wpAny_loadPart_at hC ?_
    | wp_step))
  refine ⟨rfl, ?_⟩
  refine codeAny_call_builtin_at (Code.quiet_builtin _ (by decide +kernel)) entry_typeCall (ck_callK hC ?_)
  refine tcallK hb hC hi hbd hus (codeAny_mono hq fun r s' z => ?_)
  rcases r with e | (v | _ | _ | _) <;> exact z
end
end WT

set_option Elab.async false
set_option linter.all false
set_option maxRecDepth 100000
set_option maxHeartbeats 4000000
namespace WT
open PySem PySem.Spec PyProof.Rows L2
/-- an error of the class at C stands at a; its fields -/
def Err (H : Hp) (a C : Addr) (fs : List (Str × V)) : Prop := (fs = [] ∧ H a = some (exo a C none)) ∨ ∃ d, H a = some (exo a C (some d)) ∧ H d = some (exd d fs)
theorem Err.same {H H' : Hp} {a C : Addr} {fs : List (Str × V)} (e : Err H a C fs) (s : Same H H') : Err H' a C fs := by
  rcases e with ⟨z, e⟩ | ⟨d, e1, e2⟩
  · exact .inl ⟨z, s _ _ e⟩
  · exact .inr ⟨d, s _ _ e1, s _ _ e2⟩
theorem same_new {H : Hp} {p : Addr} {o : HO} (h : H p = none) : Same H (upd H p o) := fun b x e => by
  rw [upd_ne (ne_of_none e h)]
  exact e
section
variable {X : Cx}
theorem run_err {CX : CXT} {C fI : Addr} {k : Nat} {fd : FuncData} {ps : List Str} {sp : Sp} {pins : List (Addr × Obj)} {σ : L2.St} {H : Hp} {s : Shared} {Q : VK} {us gus : List Value} {kw : List (Str × Value)} {vs : List V}
    (T : OexC X.K C) (iC : PySem.W.findIn X.K (.ref C) "__init__" = some (some (.ref fI))) (tI : PySem.W.typeIn X.K (.ref fI) = some (.type "function")) (G : FnOk X.prog X.w X.K X.mg X.base CX k fI fd ps sp) (hr : Room (k + 1) X.A)
    (hx : Passes CX X (fun _ _ _ => False)) (I : Inv X pins σ H s) (hus : us.length ≤ sizeLine) (hb : ∀ (s1 : Shared) (z : Value), X.K.In s1.heap → BindsTo s1 fd ⟨z :: us, kw⟩ (ps.zip (z :: gus))) (r : Vals vs gus)
    (h : ∀ a, H a = none → sp (.ref a :: vs) (upd H a (exo a C none)) (fun v H2 => v = .non ∧ Q (.ref a) H2) (fun _ _ _ => False)) :
    wpAny (model X.prog X.w) X.A (call (.ref C) us kw) (EP X pins σ Q) X.xe s := by
  obtain ⟨nm, q, N, bs, bm, sn, sub, ab, col, dd, k0, k1, k2, k3, k5, hC, hbm⟩ := T.cls
  obtain ⟨hp, g, dr, tk, os⟩ := s
  have z1 : hp.objs.size ≤ hp.objs.size + 1 := Nat.le_succ _
  have z2 := h (hp.objs.size + 1) (I.hok.fresh z1)
  have kp : ∀ b o, hp.get? b = some o → ((hp.push (PySem.W.kdv_tup us)).push (PySem.HandSPX.excO C hp.objs.size)).get? b = some o :=
    fun b o z => Heap.get?_push_of_some _ (Heap.get?_push_of_some _ z)
  have hg : ((hp.push (PySem.W.kdv_tup us)).push (PySem.HandSPX.excO C hp.objs.size)).get? (hp.objs.size + 1) = some (PySem.HandSPX.excO C hp.objs.size) := by
    heap_get
  have I2 : Inv X pins σ (upd H (hp.objs.size + 1) (exo (hp.objs.size + 1) C none)) ⟨(hp.push (PySem.W.kdv_tup us)).push (PySem.HandSPX.excO C hp.objs.size), g, dr, tk, os⟩ :=
    I.laid (t' := tk) (a := hp.objs.size + 1) (o := exo (hp.objs.size + 1) C none) kp z1 (exo_ok hg)
  have r2 : Vals (V.ref (hp.objs.size + 1) :: vs) (Value.ref (hp.objs.size + 1) :: gus) := .cons rfl r
  refine wpAny_call (ownK hbm (I.kIn _ _ hC) (PySem.W.looks_findIn I.kIn iC) (fun z => PySem.W.bind_fn I.kIn z tI) hus
    (codeAny_mono (G.run _ X.stack _ _ ⟨Value.ref (hp.objs.size + 1) :: us, kw⟩ (Value.ref (hp.objs.size + 1) :: gus) _ _ (fun _ _ _ => False) (hr.make C us kw) (I2.env0.make C us kw) (hb _ _ I2.kIn) r2 z2) fun r s' hq' => ?_))
  cases r with
  | error er => exact hx pins σ _ _ er s' I2 hq'
  | ok fl =>
    cases fl with
    | ret u =>
      obtain ⟨v, H', I3, rv, ev, q3⟩ := I2.after hq'
      subst ev
      exact ⟨rv, ⟨V.ref (hp.objs.size + 1), H', I3, rfl, q3⟩⟩
    | next => exact False.elim hq'
    | brk => exact False.elim hq'
    | cont => exact False.elim hq'
/-- C(e, ..): a new error, by its own __init__, which keeps sp -/
def tErr (C : Addr) (sp : Sp) (ta : TA) : TE := fun σ H Q => ta σ H fun vs H1 => vs.length ≤ 1000 ∧ ∀ a, H1 a = none → sp (.ref a :: vs) (upd H1 a (exo a C none)) (fun v H2 => v = .non ∧ Q (.ref a) H2) (fun _ _ _ => False)
theorem pe_err {CX : CXT} {x : Str} {C fI : Addr} {k : Nat} {fd : FuncData} {ps : List Str} {sp : Sp} {e : Expr} {es : List Expr} {ta : TA} {p pos : Pos} (T : OexC X.K C) (iC : PySem.W.findIn X.K (.ref C) "__init__" = some (some (.ref fI)))
    (tI : PySem.W.typeIn X.K (.ref fI) = some (.type "function")) (G : FnOk X.prog X.w X.K X.mg X.base CX k fI fd ps sp) (hr : Room (k + 1) X.A) (hb : Binds X.K fd ps []) (hx : Passes CX X (fun _ _ _ => False)) (hg : Gl X x)
    (hm : X.mg x = some (.ref C)) (ha : PA X (e :: es) ta) (hdb : (x == ("__debug__" : Str)) = false := by decide) (he : starEach (e :: es) X.env = (false, eval e X.env) :: starEach es X.env := by rfl)
    (hpl : (backTo pos (starEach es X.env)).any (·.1) = false := by rfl) : PE X (.Call (.Name x p) (e :: es) [] pos) (tErr C sp ta) := by
  refine ⟨fun pins s σ H Q I h => ?_⟩
  refine wpAny_Call_Name_kw (ld_glob I hg hm ?_ hdb)
  refine PySem.W.callWith_K (h₀ := X.base) I.ok.mod.kin T.kC (thn (ha.run pos pins s σ H _ I h) fun us s1 ⟨vs, H1, I1, r1, hz, q1⟩ => ⟨I1.kIn, ?_⟩) he hpl
  have hn : H1 (s1.heap.objs.size) = none := I1.hok.fresh (Nat.le_refl _)
  have hl : (V.ref s1.heap.objs.size :: vs).length = ps.length := G.len _ _ _ _ (q1 _ hn)
  refine run_err (us := us) (gus := us) (kw := []) T iC tI G hr hx I1 ?_ (fun s2 z X2 => ?_) r1 q1
  · rw [← Vals.length r1, sizeLine_eq]
    omega
  · have y := hb s2 (z :: us) X2 (by
      rw [List.append_nil, List.length_cons, ← Vals.length r1]
      exact hl)
    rw [List.append_nil] at y
    exact y
/-- C(k = v, ..) by names alone -/
def tErrK (C : Addr) (sp : Sp) (gV : List V → List V) (n : Nat) (tk : TA) : TE := fun σ H Q => tk σ H fun zs H1 => zs.length = n ∧ ∀ a, H1 a = none → sp (.ref a :: gV zs) (upd H1 a (exo a C none)) (fun v H2 => v = .non ∧ Q (.ref a) H2) (fun _ _ _ => False)
theorem pe_errK {CX : CXT} {x : Str} {C fI : Addr} {k n : Nat} {fd : FuncData} {ps ks : List Str} {sp : Sp} {kws : List Keyword} {tk : TA} {p pos : Pos} {gU : List Value → List Value} {gV : List V → List V} (T : OexC X.K C)
    (iC : PySem.W.findIn X.K (.ref C) "__init__" = some (some (.ref fI))) (tI : PySem.W.typeIn X.K (.ref fI) = some (.type "function")) (G : FnOk X.prog X.w X.K X.mg X.base CX k fI fd ps sp) (hr : Room (k + 1) X.A)
    (hb : ∀ (s1 : Shared) (z : Value) (ws : List Value), X.K.In s1.heap → ws.length = n → BindsTo s1 fd ⟨[z], ks.zip ws⟩ (ps.zip (z :: gU ws))) (hgr : ∀ {zs : List V} {ws : List Value}, Vals zs ws → zs.length = n → Vals (gV zs) (gU ws))
    (hx : Passes CX X (fun _ _ _ => False)) (hg : Gl X x) (hm : X.mg x = some (.ref C)) (hkw : PK X kws tk) (hall : (backToKw pos (keywordEach kws X.env)).all (·.1.isSome) = true := by rfl)
    (hks : (backToKw pos (keywordEach kws X.env)).filterMap (·.1) = ks := by rfl) (hdb : (x == ("__debug__" : Str)) = false := by decide)
    (hpl : ((backTo pos (starEach [] X.env)).any (·.1) || (backToKw pos (keywordEach kws X.env)).any (·.1.isNone)) = false := by rfl) : PE X (.Call (.Name x p) [] kws pos) (tErrK C sp gV n tk) := by
  refine ⟨fun pins s σ H Q I h => ?_⟩
  refine wpAny_Call_Name_kw (ld_glob I hg hm ?_ hdb)
  refine PySem.W.callWith_KW0 (h₀ := X.base) I.ok.mod.kin T.kC hall (thn (hkw.run pos pins s σ H _ I h) fun ws s1 ⟨zs, H1, I1, rz, hl, q1⟩ => ⟨I1.kIn, ?_⟩) hpl
  rw [hks]
  exact run_err (us := []) (gus := gU ws) (kw := ks.zip ws) T iC tI G hr hx I1 (Nat.zero_le _) (fun s2 z X2 => hb s2 z ws X2 ((Vals.length rz).symm.trans hl)) (hgr rz hl) q1
/-- what an own class without own __init__ says -/
def ErrBare (K : PySem.W.Frag) (C : Addr) : Prop := PySem.W.excIn K C PySem.HandSPX.veTail "ValueError.__new__" = true ∧ PySem.W.keepIn K (.ref C) = true
/-- C() without an __init__ of its own -/
def tErr0 (C : Addr) : TE := fun σ H Q => ∀ a, H a = none → Q (.ref a) (upd H a (exo a C none))
theorem pe_err0 {x : Str} {C : Addr} {p pos : Pos} (T : ErrBare X.K C) (hg : Gl X x) (hm : X.mg x = some (.ref C)) (hdb : (x == ("__debug__" : Str)) = false := by decide) : PE X (.Call (.Name x p) [] [] pos) (tErr0 C) := by
  refine ⟨fun pins s σ H Q I h => ?_⟩
  refine wpAny_Call_Name_kw (ld_glob I hg hm ?_ hdb)
  refine PySem.W.callWith_K0 I.kIn T.2 ?_
  obtain ⟨bm, N, nm, qn, bs, hdct, sn, sub, ab, col, dd, k0, k1, k2, k3, k5, mN, hC, hN, hni, TT⟩ := exc_obj I.kIn T.1
  obtain ⟨hp, g, dr, tk, os⟩ := s
  refine wpAny_call_exc_subT F.excBase_ValueError TT hC hN hni (fun h' a hm => ?_) (Nat.zero_le _)
  obtain ⟨t, ht, _, _⟩ := hm.there
  have hn : H a = none := I.hok.gone hm.new
  exact ⟨.ref a, upd H a (exo a C none), I.laidN hm.keeps hm.new hn (exo_ok ht), rfl, h a hn⟩
/-- the object of an error -/
theorem Err.at {pins : List (Addr × Obj)} {σ : L2.St} {H : Hp} {s : Shared} {a C : Addr} {fs : List (Str × V)} (e : Err H a C fs) (I : Inv X pins σ H s) :
    ∃ (ox : Obj) (od : Option Obj), PySem.W.InstAt s.heap a ox C od ∧ (fs ≠ [] → ∃ o, od = some o ∧ ∀ n : Str, ∃ u, PySem.W.lookIn n o = some u ∧ RelO (fs.lookup n) u) := by
  rcases e with ⟨z, e⟩ | ⟨d, e1, e2⟩
  · obtain ⟨t1, ho⟩ := exo_at I.hok e
    exact ⟨_, none, ⟨ho, rfl, rfl, trivial⟩, fun y => absurd z y⟩
  · obtain ⟨t1, ho⟩ := exo_at I.hok e1
    obtain ⟨mA, hns, rel⟩ := exd_at I.hok e2
    obtain ⟨od, hod, hl⟩ := lookIn_ns hns
    exact ⟨_, some od, ⟨ho, rfl, rfl, hod⟩, fun _ => ⟨od, rfl, fun n => ⟨mA n, hl n, rel n⟩⟩⟩
/-- isinstance(e, c), e an error held as a value -/
def rIsErr (K : PySem.W.Frag) : List V → Hp → VK → Prop := fun xs H Q => ∃ (a C : Addr) (fs : List (Str × V)) (c : V) (cv : Value) (b : Bool), xs = [.ref a, c] ∧ Err H a C fs ∧ ExcC K C ∧ (∀ u, RelV c u → u = cv) ∧ PySem.W.kitOne K (.ref C) cv = some b ∧ Q (.bl b) H
theorem call_isErr : CallR X (.builtin "isinstance") (rIsErr X.K) := by
  intro pins s σ H xs us Q I r h
  obtain ⟨a, C, fs, c, cv, b, rfl, e, T, hc, hk, q⟩ := h
  obtain ⟨u, u', rfl, rx, rt⟩ := vals2 r
  obtain rfl : u = Value.ref a := rx
  obtain rfl := hc _ rt
  obtain ⟨ox, od, J, _⟩ := e.at I
  have hcl : (PySem.W.clsIn X.K C).isSome = true := by
    obtain ⟨cd, h1, _⟩ := PySem.W.any_some T.hd
    rw [h1]
    rfl
  exact PySem.W.kia_one (PySem.W.kitx_exc (ox := ox) (od := od) hcl T.hg T.hk T.hs T.ha T.hn T.ht T.hm) I.kIn J hk (fun z => nomatch z) fun tk => ⟨.bl b, H, I.kept (t' := tk) fun _ _ z => z, rfl, q⟩
/-- e.f, e an error held as a value -/
def tErrF (K : PySem.W.Frag) (n : Str) (te : TE) : TE := fun σ H Q => te σ H fun x H1 => ∃ (a C : Addr) (fs : List (Str × V)) (v : V), x = .ref a ∧ Err H1 a C fs ∧ ExcC K C ∧ PySem.W.findIn K (.ref C) n = some none ∧ fs.lookup n = some v ∧ Q v H1
theorem pe_errF {e : Expr} {te : TE} {pos : Pos} {n : Str} (he : PE X e te) (hb : attributeBase e n X.env (eval e X.env) = eval e X.env := by rfl) : PE X (.Attribute e n pos) (tErrF X.K n te) := by
  refine ⟨fun pins s σ H Q I h => ?_⟩
  refine attr_of hb (thn (he.run pins s σ H _ I h) fun u s1 hh => ?_)
  obtain ⟨x, H1, I1, rx, a, C, fs, v, rfl, e1, T, hno, hl, q⟩ := hh
  obtain rfl : u = Value.ref a := rx
  obtain ⟨ox, od, J, k⟩ := e1.at I1
  obtain ⟨o, rfl, k2⟩ := k (fun z => by rw [z] at hl; cases hl)
  obtain ⟨u, hu, ru⟩ := k2 n
  rw [hl] at ru
  cases u with
  | none => exact ru.elim
  | some u =>
    exact HandSPX.exc_get I1.kIn J T.hg T.hk T.hs (PySem.W.findObj_own T.hd hno rfl hu) (handed_of ru) ⟨v, H1, I1.tok _, ru, q⟩
end
end WT

set_option Elab.async false
set_option linter.all false
set_option maxRecDepth 100000
set_option maxHeartbeats 4000000
/-! Defs that may ask repr of lists: called where no repr is under way (the guards are told to be empty). -/
namespace WT
open PySem PySem.Spec PyProof.Rows L2
structure FnG (P : Program) (w : World) (K : PySem.W.Frag) (mg : Str → Option Value) (base : Heap) (cx : CXT) (k : Nat) (f : Addr) (fd : FuncData) (ps : List Str) (sp : Sp) : Prop where
  len : ∀ vs H Q E, sp vs H Q E → vs.length = ps.length
  run : ∀ (A : Around) (outer : List Env) (s : Shared) (H : Hp) (args : Args) (us : List Value) (vs : List V) (Q : VK) (E : XK), A.guards = some [] → Room k A → Env0 P w K mg base A outer s H →
    BindsTo s fd args (ps.zip us) → Vals vs us → sp vs H Q E → codeAny (model P w) A (.call (.ref f) args) (CR cx outer P w H s Q E) s
section
variable {P : Program} {w : World} {K : PySem.W.Frag} {mg : Str → Option Value} {base : Heap} {cx : CXT} {j k : Nat} {f : Addr} {fd : FuncData} {ps : List Str} {sp sp' : Sp}
theorem FnG.of (G : FnOk P w K mg base cx k f fd ps sp) : FnG P w K mg base cx k f fd ps sp := ⟨G.len, fun A o s H a us vs Q E _ => G.run A o s H a us vs Q E⟩
theorem FnG.mono (G : FnG P w K mg base cx j f fd ps sp) (h : j ≤ k) : FnG P w K mg base cx k f fd ps sp :=
  ⟨G.len, fun A o s H a us vs Q E g hr => G.run A o s H a us vs Q E g (hr.mono h)⟩
theorem FnG.imp (G : FnG P w K mg base cx k f fd ps sp) (h : ∀ vs H Q E, sp' vs H Q E → sp vs H Q E) : FnG P w K mg base cx k f fd ps sp' :=
  ⟨fun vs H Q E q => G.len vs H Q E (h _ _ _ _ q), fun A o s H a us vs Q E g hr e hb hv hs => G.run A o s H a us vs Q E g hr e hb hv (h _ _ _ _ hs)⟩
/-- a def by its body -/
theorem fnG_of {name qual : Str} {params : Arguments} {body : List Stmt} {scope : Scope} {dV kV doc pm cdv ct oc : Value} {an od : Option Addr} {osl : Array (Option Value)} {N : List Str}
    (lk : K.lookup f = some ⟨oc, od, .func (PySem.W.fnOf name qual params body scope dV kV doc pm an cdv ct), osl⟩) (hcd : PySem.W.codeIn K cdv qual = true) (S : FnScope N ps scope)
    (hlen : ∀ vs H Q E, sp vs H Q E → vs.length = ps.length)
    (hbody : ∀ (A : Around) (outer : List Env) (s : Shared) (H : Hp) (vs : List V) (Q : VK) (E : XK), A.guards = some [] → Room k (A.deeper (envOfC qual scope s.heap.objs.size f cdv)) → sp vs H Q E →
      ∃ t, PSs (cxOf cx P w K mg base N qual scope f cdv A outer s H E) body t ∧ t { nx := fun _ H' => Q .non H', rt := Q } (start N vs) H) :
    FnG P w K mg base cx (k + 1) f (PySem.W.fnOf name qual params body scope dV kV doc pm an cdv ct) ps sp := by
  refine ⟨hlen, fun A outer s H args us vs Q E hgd hr e0 hb r hsp => ?_⟩
  have up : ∀ b o, base.get? b = some o → s.heap.get? b = some o := fun b o z => (e0.bs b o z).1
  have kin : K.In s.heap := e0.mod.kin.keeps up
  have lim : s.heap.NoLimit := e0.mod.nolimit.keeps up
  have kinds : ∀ y ∈ ps.zip us, scope.names.lookup y.1 = some .local ∨ (scope.names.lookup y.1 = some .cell ∧ ((cellsFrom (s.heap.objs.size + 1) scope.names []).lookup y.1).isSome = true) := by
    intro y hy
    obtain ⟨n, v⟩ := y
    exact (S.par n (List.of_mem_zip hy).1).imp id fun q => ⟨q, PySem.W.cellsFrom_some _ _ _ (.inl q)⟩
  refine codeAny_call_function hr.depth (kin _ _ lk) rfl S.co S.gen rfl (PySem.W.codeRec_of kin hcd) (hb _ _ _ _ ?_)
  refine wpAny_newFunctionEnv_cells S.kind kinds fun env he s1 y => ?_
  subst he
  refine ⟨lim.keeps y.toInCall.keep, codeAny_func ?_⟩
  obtain ⟨t, ht, hq⟩ := hbody A outer s H vs Q E hgd (hr.deeper _) hsp
  have J : Inv (cxOf cx P w K mg base N qual scope f cdv A outer s H E) [] (start N vs) H s1 := inv_start S hr.hd e0 (hlen _ _ _ _ hsp) r y
  refine wpAny_mono (ht.run [] s1 (start N vs) H _ J hq) (fun fl s' hs => ?_) fun e s' hs => hs
  cases fl with
  | ret u =>
    obtain ⟨v, σ', H', J', rv, q⟩ := hs
    exact ⟨v, H', J'.os, J'.bare, J'.base, J'.hok, rv, q⟩
  | next =>
    obtain ⟨σ', H', J', q⟩ := hs
    exact ⟨V.non, H', J'.os, J'.bare, J'.base, J'.hok, rfl, q⟩
  | brk =>
    obtain ⟨_, _, _, q⟩ := hs
    exact q.elim
  | cont =>
    obtain ⟨_, _, _, q⟩ := hs
    exact q.elim
/-- the body's rule for a def that lets nothing out -/
theorem okG {x qual : Str} {st : Stmt} {N : List Str} (F : Fun K x qual st f fd) (S : FnScope N ps (defScope st)) (hlen : ∀ vs H Q E, sp vs H Q E → vs.length = ps.length)
    (hbody : ∀ (cdv : Value) (A : Around) (outer : List Env) (s : Shared) (H : Hp) (vs : List V) (Q : VK) (E : XK), A.guards = some [] → Room k (A.deeper (envOfC qual (defScope st) s.heap.objs.size f cdv)) → sp vs H Q E →
      ∃ t, PSs (cxOf CX0 P w K mg base N qual (defScope st) f cdv A outer s H E).nox (defBody st) t ∧ t { nx := fun _ H' => Q .non H', rt := Q } (start N vs) H) : FnG P w K mg base CX0 (k + 1) f fd ps sp := by
  obtain ⟨oc, od, kV, doc, pm, an, cdv, ct, osl, rfl, lk, hcd⟩ := F.ex
  refine fnG_of lk hcd S hlen fun A outer s H vs Q E hgd hr hsp => ?_
  obtain ⟨t, h, q⟩ := hbody cdv A outer s H vs Q E hgd hr hsp
  exact ⟨t, h.nox, q⟩
/-- .. for one that may raise -/
theorem okGX {x qual : Str} {st : Stmt} {N : List Str} (F : Fun K x qual st f fd) (S : FnScope N ps (defScope st)) (hlen : ∀ vs H Q E, sp vs H Q E → vs.length = ps.length)
    (hbody : ∀ (cdv : Value) (A : Around) (outer : List Env) (s : Shared) (H : Hp) (vs : List V) (Q : VK) (E : XK), A.guards = some [] → Room k (A.deeper (envOfC qual (defScope st) s.heap.objs.size f cdv)) → sp vs H Q E →
      ∃ t, PSs (cxOf (L2.CX P w) P w K mg base N qual (defScope st) f cdv A outer s H E) (defBody st) t ∧ t { nx := fun _ H' => Q .non H', rt := Q } (start N vs) H) : FnG P w K mg base (L2.CX P w) (k + 1) f fd ps sp := by
  obtain ⟨oc, od, kV, doc, pm, an, cdv, ct, osl, rfl, lk, hcd⟩ := F.ex
  exact fnG_of lk hcd S hlen fun A outer s H vs Q E hgd hr hsp => hbody cdv A outer s H vs Q E hgd hr hsp
end
section
variable {X : Cx} {cx : CXT} {k : Nat} {f : Addr} {fd : FuncData} {ps : List Str} {sp : Sp} {E : XK} {x : Str} {p pos : Pos} {e : Expr} {es : List Expr} {t : TA}
theorem run_fnG {pins : List (Addr × Obj)} {σ : L2.St} {H : Hp} {s : Shared} {Q : VK} {us : List Value} {vs : List V} (hgd : X.A.guards = some []) (G : FnG X.prog X.w X.K X.mg X.base cx k f fd ps sp) (hr : Room k X.A) (hb : Binds X.K fd ps [])
    (hx : Passes cx X E) (I : Inv X pins σ H s) (r : Vals vs us) (h : sp vs H Q E) : wpAny (model X.prog X.w) X.A (call (.ref f) us) (EP X pins σ Q) X.xe s := by
  have hl : us.length = ps.length := (Vals.length r).symm.trans (G.len _ _ _ _ h)
  have hb' := hb s us I.kIn (by rw [List.append_nil]; exact hl)
  rw [List.append_nil] at hb'
  refine wpAny_call (codeAny_mono (G.run X.A X.stack s H ⟨us, []⟩ us vs Q E hgd hr I.env0 hb' r h) fun r s' hq => ?_)
  cases r with
  | error e => exact hx pins σ H s e s' I hq
  | ok fl =>
    cases fl with
    | ret u => exact I.after hq
    | next => exact hq.elim
    | brk => exact hq.elim
    | cont => exact hq.elim
/-- f(e, ..) -/
def tCallG (sp : Sp) (E : XK) (t : TA) : TE := fun σ H Q => t σ H fun vs H1 => sp vs H1 Q E
theorem pe_callG (hgd : X.A.guards = some []) (G : FnG X.prog X.w X.K X.mg X.base cx k f fd ps sp) (hr : Room k X.A) (hg : Gl X x) (hm : X.mg x = some (.ref f)) (hk : PySem.W.keepIn X.K (.ref f) = true) (hb : Binds X.K fd ps [])
    (hx : Passes cx X E) (ha : PA X (e :: es) t) (hdb : (x == ("__debug__" : Str)) = false := by decide) (he : starEach (e :: es) X.env = (false, eval e X.env) :: starEach es X.env := by rfl)
    (hpl : (backTo pos (starEach es X.env)).any (·.1) = false := by rfl) : PE X (.Call (.Name x p) (e :: es) [] pos) (tCallG sp E t) := by
  refine ⟨fun pins s σ H Q I h => ?_⟩
  refine wpAny_Call_Name_kw (ld_glob I hg hm ?_ hdb)
  exact PySem.W.callWith_K (h₀ := X.base) I.ok.mod.kin hk (thn (ha.run pos pins s σ H _ I h) fun us s1 ⟨vs, H1, I1, r, q⟩ => ⟨I1.kIn, run_fnG hgd G hr hb hx I1 r q⟩) he hpl
end
end WT

set_option Elab.async false
set_option linter.all false
set_option maxRecDepth 100000
set_option maxHeartbeats 4000000
/-! repr of data: lists, tuples and dicts within one another. -/
namespace WT
open PySem
mutual
/-- the value v of the heap h is the data d; no dict of it is the one of all modules -/
inductive Sh (h : Heap) : Value → PyData → Prop
  | none : Sh h .none .none
  | bool (b) : Sh h (.bool b) (.bool b)
  | int (i t) : Sh h (.int i t) (.int i)
  | str (x t) : Sh h (.str x t) (.str x)
  | list {a o vs n xs} : h.get? a = some o → o.cls = .type "list" → o.data = .seq vs n → ShAll h vs.toList xs → Sh h (.ref a) (.list xs)
  | tuple {a o vs n xs} : h.get? a = some o → o.cls = .type "tuple" → o.data = .seq vs n → ShAll h vs.toList xs → Sh h (.ref a) (.tuple xs)
  | dict {a o es n ks vs} : h.get? a = some o → o.cls = .type "dict" → o.data = .dict es n → (a == sysModules) = false → ks.length = vs.length → ShAll h (es.toList.map (·.key)) ks → ShAll h (es.toList.map (·.val)) vs → Sh h (.ref a) (.dict (ks.zip vs))
inductive ShAll (h : Heap) : List Value → List PyData → Prop
  | nil : ShAll h [] []
  | cons {v vs d ds} : Sh h v d → ShAll h vs ds → ShAll h (v :: vs) (d :: ds)
end
theorem zip1 {α β : Type} : ∀ (ks : List α) (vs : List β), ks.length = vs.length → (ks.zip vs).map (·.1) = ks
  | [], _, _ => rfl
  | k :: ks, [], h => by cases h
  | k :: ks, v :: vs, h => by
    show k :: (ks.zip vs).map (·.1) = k :: ks
    rw [zip1 ks vs (Nat.succ.inj h)]
theorem zip2 {α β : Type} : ∀ (ks : List α) (vs : List β), ks.length = vs.length → (ks.zip vs).map (·.2) = vs
  | [], [], _ => rfl
  | [], v :: vs, h => by cases h
  | k :: ks, [], h => by cases h
  | k :: ks, v :: vs, h => by
    show v :: (ks.zip vs).map (·.2) = v :: vs
    rw [zip2 ks vs (Nat.succ.inj h)]
mutual
theorem Sh.reads {h : Heap} : ∀ {v : Value} {d : PyData}, Sh h v d → ∃ as, Reads h v d as
  | _, _, .none => ⟨_, .none⟩
  | _, _, .bool b => ⟨_, .bool b⟩
  | _, _, .int i t => ⟨_, .int i t⟩
  | _, _, .str x t => ⟨_, .str x t⟩
  | _, _, .list h1 h2 h3 h4 => let ⟨_, q⟩ := ShAll.reads h4; ⟨_, .list h1 h2 h3 q⟩
  | _, _, .tuple h1 h2 h3 h4 => let ⟨_, q⟩ := ShAll.reads h4; ⟨_, .tuple h1 h2 h3 q⟩
  | _, _, .dict (ks := ks) (vs := vs) h1 h2 h3 _ hl h4 h5 => by
    obtain ⟨_, q4⟩ := ShAll.reads h4
    obtain ⟨_, q5⟩ := ShAll.reads h5
    exact ⟨_, .dict h1 h2 h3 (by rw [zip1 ks vs hl]; exact q4) (by rw [zip2 ks vs hl]; exact q5)⟩
theorem ShAll.reads {h : Heap} : ∀ {vs : List Value} {ds : List PyData}, ShAll h vs ds → ∃ as, ReadsAll h vs ds as
  | _, _, .nil => ⟨_, .nil⟩
  | _, _, .cons r rs => let ⟨_, q⟩ := Sh.reads r; let ⟨_, q2⟩ := ShAll.reads rs; ⟨_, .cons q q2⟩
end
section
variable {prog : Program} {w : World} {h₀ : Heap}
mutual
theorem Sh.rk : ∀ {v : Value} {d : PyData}, Sh h₀ v d → d.showable = true → d.shown.length ≤ sizeLine → ∃ bs, ReadAtMost h₀ d.depth bs ∧ ReprK prog w bs h₀ d.depth v d.shown
  | _, _, .none, _, _ => ⟨[], fun _ z => (nomatch z), by rw [PyData.shown]; exact .of_is ReprIs.none _ _ _⟩
  | _, _, .bool b, _, _ => ⟨[], fun _ z => (nomatch z), by rw [PyData.shown]; exact .of_is (ReprIs.bool b) _ _ _⟩
  | _, _, .int i t, hs, _ => ⟨[], fun _ z => (nomatch z), by rw [PyData.shown]; exact .of_is (ReprIs.int t (by simpa [PyData.showable] using hs)) _ _ _⟩
  | _, _, .str x t, _, hz => ⟨[], fun _ z => (nomatch z), by rw [PyData.shown] at hz ⊢; exact .of_is (ReprIs.str x t hz) _ _ _⟩
  | _, _, .list (a := a) (vs := vs) (xs := xs) h1 h2 h3 h4, hs, hz => by
    rw [PyData.shown] at hz
    rw [PyData.showable] at hs
    obtain ⟨as, q4⟩ := ShAll.reads h4
    obtain ⟨bs, hb, hk⟩ := ShAll.rk h4 hs fun t ht => Nat.le_trans (listText_mem_le ht) hz
    have r : Reads h₀ (.ref a) (.list xs) (a :: as) := .list h1 h2 h3 q4
    have hna : a ∉ bs := not_mem_of_deeper r (by rw [PyData.depth]; omega) hb
    refine ⟨a :: bs, ReadAtMost.cons r (by rw [PyData.depth]; omega) hb, ?_⟩
    rw [PyData.depth, PyData.shown]
    obtain ⟨l⟩ := vs
    match l, h4, hk, h3 with
    | [], h4, _, h3 =>
      have h4' : ShAll h₀ [] xs := h4
      cases h4'
      rw [PyData.shownAll, listText_nil]
      exact ReprK.listEmpty h1 h2 h3
    | x :: l, _, hk, h3 => exact ReprK.list h1 h2 h3 hna (by simpa using hk.length_eq) fun i y e => hk.item i y (by simpa using e)
  | _, _, .tuple (a := a) (xs := xs) h1 h2 h3 h4, hs, hz => by
    rw [PyData.shown] at hz
    rw [PyData.showable] at hs
    obtain ⟨as, q4⟩ := ShAll.reads h4
    obtain ⟨bs, hb, hk⟩ := ShAll.rk h4 hs fun t ht => Nat.le_trans (tupleText_mem_le ht) hz
    have r : Reads h₀ (.ref a) (.tuple xs) as := .tuple h1 h2 h3 q4
    have hna : a ∉ bs := not_mem_of_deeper r (by rw [PyData.depth]; omega) hb
    refine ⟨a :: bs, ReadAtMost.cons r (by rw [PyData.depth]; omega) hb, ?_⟩
    rw [PyData.depth, PyData.shown]
    exact ReprK.tuple h1 h2 h3 hna hk
  | _, _, .dict (a := a) (es := es) (ks := ks) (vs := vs) h1 h2 h3 hsys hl h4 h5, hs, hz => by
    rw [PyData.shown] at hz
    rw [PyData.showable] at hs
    obtain ⟨as, q4⟩ := ShAll.reads h4
    obtain ⟨cs, q5⟩ := ShAll.reads h5
    have e1 := zip1 ks vs hl
    have e2 := zip2 ks vs hl
    obtain ⟨hs1, hs2⟩ := PyData.showableKv_split (ks.zip vs) hs
    rw [e1] at hs1
    rw [e2] at hs2
    obtain ⟨b1, hb1, k1⟩ := ShAll.rk h4 hs1 fun t ht => by
      obtain ⟨p, hp, hle⟩ := PyData.shownKv_key_le (ks.zip vs) t (by rw [e1]; exact ht)
      exact Nat.le_trans hle (Nat.le_trans (dictText_mem_le hp) hz)
    obtain ⟨b2, hb2, k2⟩ := ShAll.rk h5 hs2 fun t ht => by
      obtain ⟨p, hp, hle⟩ := PyData.shownKv_val_le (ks.zip vs) t (by rw [e2]; exact ht)
      exact Nat.le_trans hle (Nat.le_trans (dictText_mem_le hp) hz)
    have d1 := PyData.depthAll_keys_le (ks.zip vs)
    have d2 := PyData.depthAll_vals_le (ks.zip vs)
    rw [e1] at d1
    rw [e2] at d2
    have r : Reads h₀ (.ref a) (.dict (ks.zip vs)) (a :: as ++ cs) := .dict h1 h2 h3 (by rw [e1]; exact q4) (by rw [e2]; exact q5)
    have hb : ReadAtMost h₀ (PyData.depthKv (ks.zip vs)) (b1 ++ b2) := (hb1.mono d1).append (hb2.mono d2)
    have hna : a ∉ b1 ++ b2 := not_mem_of_deeper r (by rw [PyData.depth]; omega) hb
    refine ⟨a :: (b1 ++ b2), ReadAtMost.cons r (by rw [PyData.depth]; omega) hb, ?_⟩
    rw [PyData.depth, PyData.shown, PyData.shownKv_eq, e1, e2]
    exact ReprK.dict h1 h2 h3 hsys hna (ReprEntriesK.of_two es.toList _ _
      (k1.more_le (fun b hb => List.mem_append_left _ hb) d1) (k2.more_le (fun b hb => List.mem_append_right _ hb) d2))
theorem ShAll.rk : ∀ {vs : List Value} {ds : List PyData}, ShAll h₀ vs ds → PyData.showableAll ds = true → (∀ t ∈ PyData.shownAll ds, t.length ≤ sizeLine) →
    ∃ bs, ReadAtMost h₀ (PyData.depthAll ds) bs ∧ ReprAllK prog w bs h₀ (PyData.depthAll ds) vs (PyData.shownAll ds)
  | _, _, .nil, _, _ => ⟨[], fun _ z => (nomatch z), by rw [PyData.shownAll]; exact .nil⟩
  | _, _, .cons (d := d) (ds := ds) r rs, hs, hz => by
    rw [PyData.showableAll, Bool.and_eq_true] at hs
    rw [PyData.shownAll] at hz
    obtain ⟨b1, hb1, k1⟩ := Sh.rk r hs.1 (hz _ List.mem_cons_self)
    obtain ⟨b2, hb2, k2⟩ := ShAll.rk rs hs.2 fun t ht => hz t (List.mem_cons_of_mem _ ht)
    rw [PyData.depthAll, PyData.shownAll]
    exact ⟨b1 ++ b2, (hb1.mono (Nat.le_max_left _ _)).append (hb2.mono (Nat.le_max_right _ _)),
      .cons ((k1.more fun b hb => List.mem_append_left _ hb).level_le (Nat.le_max_left _ _)) (k2.more_le (fun b hb => List.mem_append_right _ hb) (Nat.le_max_right _ _))⟩
end
variable {A : Around} {E : Value → Shared → Prop} {s : Shared} {Q : Value → Shared → Prop}
theorem Sh.repr {v : Value} {d : PyData} (r : Sh s.heap v d) (hs : d.showable = true) (hz : d.shown.length ≤ sizeLine) (hg : A.guards = some []) (hu : A.units + (d.depth + 1) < cLine)
    (hQ : ∀ h' u tk, (∀ b o, s.heap.get? b = some o → h'.get? b = some o) → Q (.str d.shown u) { s with heap := h', toks := tk }) : wpAny (model prog w) A (call (.builtin "repr") [v]) Q E s := by
  have hid : ∀ b o, s.heap.get? b = some o → s.heap.get? b = some o := fun _ _ z => z
  cases r with
  | none =>
    rw [PyData.shown] at hQ
    exact PySem.P.repr_of_none (hQ s.heap _ _ hid)
  | bool b =>
    rw [PyData.shown] at hQ
    exact PySem.P.repr_of_bool (hQ s.heap _ _ hid)
  | int i t =>
    rw [PyData.shown] at hQ
    exact PySem.P.repr_of_int (by simpa [PyData.showable] using hs) (hQ s.heap _ _ hid)
  | str x t =>
    rw [PyData.shown] at hQ hz
    exact PySem.P.repr_of_str (hQ s.heap _ _ hid) hz
  | list h1 h2 h3 h4 =>
    rename_i a o vs n xs
    rw [PyData.shown] at hz hQ
    rw [PyData.showable] at hs
    rw [PyData.depth] at hu
    obtain ⟨as, q4⟩ := ShAll.reads h4
    obtain ⟨bs, hb, hk⟩ := ShAll.rk (prog := prog) (w := w) h4 hs fun t ht => Nat.le_trans (listText_mem_le ht) hz
    have hna : a ∉ bs := not_mem_of_deeper (.list h1 h2 h3 q4) (by rw [PyData.depth]; omega) hb
    refine call_repr_slot (by omega) ⟨o, h1, h2⟩ F.slot_list_repr.toG ?_
    obtain ⟨l⟩ := vs
    match l, h4, hk, h3 with
    | [], h4, _, h3 =>
      have h4' : ShAll s.heap [] xs := h4
      cases h4'
      rw [PyData.shownAll, listText_nil] at hQ
      exact call_list_repr_empty ⟨o, h1, h2⟩ h1 h3 ⟨_, _, rfl, hQ s.heap _ _ hid⟩
    | x :: l, _, hk, h3 =>
      exact call_list_reprK h1 h2 h3 hna (by simpa using hk.length_eq) (fun i y e => hk.item i y (by simpa using e)) hg (fun b _ => Clear.nil b) (by show A.units + 1 + _ < cLine; omega) hid (fun h' u tk hk => ⟨_, _, rfl, hQ h' u tk hk⟩) hz
  | tuple h1 h2 h3 h4 =>
    rename_i a o vs n xs
    rw [PyData.shown] at hz hQ
    rw [PyData.showable] at hs
    rw [PyData.depth] at hu
    obtain ⟨as, q4⟩ := ShAll.reads h4
    obtain ⟨bs, hb, hk⟩ := ShAll.rk (prog := prog) (w := w) h4 hs fun t ht => Nat.le_trans (tupleText_mem_le ht) hz
    have hna : a ∉ bs := not_mem_of_deeper (.tuple h1 h2 h3 q4) (by rw [PyData.depth]; omega) hb
    refine call_repr_slot (by omega) ⟨o, h1, h2⟩ F.slot_tuple_repr ?_
    exact call_tuple_reprK h1 h2 h3 hna hk hg (fun b _ => Clear.nil b) (by show A.units + 1 + _ < cLine; omega) hid (fun h' u tk hk => ⟨_, _, rfl, hQ h' u tk hk⟩) hz
  | dict h1 h2 h3 hsys hl h4 h5 =>
    rename_i a o es n ks vs
    rw [PyData.shown] at hz hQ
    rw [PyData.showable] at hs
    rw [PyData.depth] at hu
    obtain ⟨as, q4⟩ := ShAll.reads h4
    obtain ⟨cs, q5⟩ := ShAll.reads h5
    have e1 := zip1 ks vs hl
    have e2 := zip2 ks vs hl
    obtain ⟨hs1, hs2⟩ := PyData.showableKv_split (ks.zip vs) hs
    rw [e1] at hs1
    rw [e2] at hs2
    obtain ⟨b1, hb1, k1⟩ := ShAll.rk (prog := prog) (w := w) h4 hs1 fun t ht => by
      obtain ⟨p, hp, hle⟩ := PyData.shownKv_key_le (ks.zip vs) t (by rw [e1]; exact ht)
      exact Nat.le_trans hle (Nat.le_trans (dictText_mem_le hp) hz)
    obtain ⟨b2, hb2, k2⟩ := ShAll.rk (prog := prog) (w := w) h5 hs2 fun t ht => by
      obtain ⟨p, hp, hle⟩ := PyData.shownKv_val_le (ks.zip vs) t (by rw [e2]; exact ht)
      exact Nat.le_trans hle (Nat.le_trans (dictText_mem_le hp) hz)
    have d1 := PyData.depthAll_keys_le (ks.zip vs)
    have d2 := PyData.depthAll_vals_le (ks.zip vs)
    rw [e1] at d1
    rw [e2] at d2
    have hb : ReadAtMost s.heap (PyData.depthKv (ks.zip vs)) (b1 ++ b2) := (hb1.mono d1).append (hb2.mono d2)
    have hna : a ∉ b1 ++ b2 := not_mem_of_deeper (.dict h1 h2 h3 (by rw [e1]; exact q4) (by rw [e2]; exact q5)) (by rw [PyData.depth]; omega) hb
    rw [PyData.shownKv_eq, e1, e2] at hQ hz
    refine call_repr_slot (by omega) ⟨o, h1, h2⟩ F.slot_dict_repr ?_
    exact call_dict_reprK h1 h2 h3 hsys hna (ReprEntriesK.of_two es.toList _ _ (k1.more_le (fun b hb => List.mem_append_left _ hb) d1) (k2.more_le (fun b hb => List.mem_append_right _ hb) d2)) hg (fun b _ => Clear.nil b)
      (by show A.units + 1 + _ < cLine; omega) hid (fun h' u tk hk => ⟨_, _, rfl, hQ h' u tk hk⟩) hz
end
end WT

set_option Elab.async false
set_option linter.all false
set_option maxRecDepth 100000
set_option maxHeartbeats 4000000
namespace WT
open PySem PySem.Spec PyProof.Rows L2
def kD : Key → PyData
  | .inl i => .int i
  | .inr x => .str x
mutual
/-- data over the abstract heap, dicts among it -/
inductive Dt (K : PySem.W.Frag) (H : Hp) : V → PyData → Prop
  | non : Dt K H .non .none
  | bl (b : Bool) : Dt K H (.bl b) (.bool b)
  | int (i : Int) : Dt K H (.int i) (.int i)
  | str (x : Str) : Dt K H (.str x) (.str x)
  | lst {a : Addr} {xs : List V} {ds : List PyData} : SqL K H a xs → DtAll K H xs ds → Dt K H (.ref a) (.list ds)
  | tup {a : Addr} {xs : List V} {ds : List PyData} : SqT K H a xs → DtAll K H xs ds → Dt K H (.ref a) (.tuple ds)
  | dic {a : Addr} {kvs : List (Key × V)} {ds : List PyData} : Rd H a (.dK kvs) → DtAll K H (kvs.map (·.2)) ds → Dt K H (.ref a) (.dict ((kvs.map fun p => kD p.1).zip ds))
inductive DtAll (K : PySem.W.Frag) (H : Hp) : List V → List PyData → Prop
  | nil : DtAll K H [] []
  | cons {v : V} {vs : List V} {d : PyData} {ds : List PyData} : Dt K H v d → DtAll K H vs ds → DtAll K H (v :: vs) (d :: ds)
end
theorem DtAll.length {K : PySem.W.Frag} {H : Hp} : ∀ {vs : List V} {ds : List PyData}, DtAll K H vs ds → vs.length = ds.length
  | _, _, .nil => rfl
  | _, _, .cons _ t => congrArg Nat.succ (DtAll.length t)
theorem sameT {K : PySem.W.Frag} {H H' : Hp} {a : Addr} {xs : List V} (e : Same H H') (h : SqT K H a xs) : SqT K H' a xs := by
  rcases h with (h | ⟨o, h⟩) | h
  · exact .inl (.inl (e _ _ h))
  · exact .inl (.inr ⟨o, e _ _ h⟩)
  · exact .inr h
theorem sameR {H H' : Hp} {a : Addr} {u : HO} (e : Same H H') (h : Rd H a u) : Rd H' a u := by
  rcases h with h | ⟨o, h⟩
  · exact .inl (e _ _ h)
  · exact .inr ⟨o, e _ _ h⟩
mutual
theorem Dt.same {K : PySem.W.Frag} {H H' : Hp} (s : Same H H') : ∀ {v : V} {d : PyData}, Dt K H v d → Dt K H' v d
  | _, _, .non => .non
  | _, _, .bl b => .bl b
  | _, _, .int i => .int i
  | _, _, .str x => .str x
  | _, _, .lst h t => .lst (s.seq h) (DtAll.same s t)
  | _, _, .tup h t => .tup (sameT s h) (DtAll.same s t)
  | _, _, .dic h t => .dic (sameR s h) (DtAll.same s t)
theorem DtAll.same {K : PySem.W.Frag} {H H' : Hp} (s : Same H H') : ∀ {vs : List V} {ds : List PyData}, DtAll K H vs ds → DtAll K H' vs ds
  | _, _, .nil => .nil
  | _, _, .cons h t => .cons (Dt.same s h) (DtAll.same s t)
end
section
variable {X : Cx} {pins : List (Addr × Obj)} {σ : L2.St} {H : Hp} {s : Shared}
theorem pairs_sh {P : Program} {w : World} {h : Heap} : ∀ {es : List DictEntry} {kvs : List (Key × V)} {us : List (Key × Value)}, KV kvs us → Pairs (mixKind P w) es us → ShAll h (es.map (·.key)) (kvs.map fun p => kD p.1)
  | _, _, _, .nil, .nil => .nil
  | _, _, _, .cons r rs, .cons h1 _ hs => by
    refine .cons ?_ (pairs_sh rs hs)
    rcases keyIs_shape h1 with ⟨i, t, e1, e2⟩ | ⟨x, t, e1, e2⟩
    · dsimp only
      rw [e2, r.1, e1]
      exact .int i t
    · dsimp only
      rw [e2, r.1, e1]
      exact .str x t
theorem pairs_vals {P : Program} {w : World} : ∀ {es : List DictEntry} {kvs : List (Key × V)} {us : List (Key × Value)}, KV kvs us → Pairs (mixKind P w) es us → Vals (kvs.map (·.2)) (es.map (·.val))
  | _, _, _, .nil, .nil => .nil
  | _, _, _, .cons r rs, .cons _ h2 hs => .cons (by dsimp only; rw [h2]; exact r.2) (pairs_vals rs hs)
mutual
theorem Dt.sh (I : Inv X pins σ H s) : ∀ {v : V} {d : PyData} {u : Value}, Dt X.K H v d → RelV v u → Sh s.heap u d
  | _, _, _, .non, r => by
    cases r
    exact .none
  | _, _, _, .bl b, r => by
    cases r
    exact .bool b
  | _, _, _, .int i, r => by
    obtain ⟨t, rfl⟩ := r
    exact .int i t
  | _, _, _, .str x, r => by
    obtain ⟨t, rfl⟩ := r
    exact .str x t
  | _, _, _, .lst h t, r => by
    cases r
    obtain ⟨its, rv, ⟨o, n, ho, hc, _, hd⟩, _⟩ := I.list h
    exact .list ho hc hd (DtAll.sh I t rv)
  | _, _, _, .tup h t, r => by
    cases r
    obtain ⟨its, rv, ⟨o, ho, hc, n, hd⟩, _⟩ := I.tuple h
    exact .tuple ho hc hd (DtAll.sh I t rv)
  | _, _, _, .dic (kvs := kvs) (ds := ds) h t, r => by
    cases r
    obtain ⟨_, hsys, us, rel, o, es, ep, ho, hx, hd, _, hp, _⟩ := dk_rd I.hok h
    refine .dict ho hx.1 hd hsys ?_ (pairs_sh rel hp) (DtAll.sh I t (pairs_vals rel hp))
    rw [List.length_map, ← DtAll.length t, List.length_map]
theorem DtAll.sh (I : Inv X pins σ H s) : ∀ {vs : List V} {ds : List PyData} {us : List Value}, DtAll X.K H vs ds → Vals vs us → ShAll s.heap us ds
  | _, _, _, .nil, r => by
    cases r
    exact .nil
  | _, _, _, .cons h t, .cons r rs => .cons (Dt.sh I h r) (DtAll.sh I t rs)
end
/-- repr(x) -/
def rRepr (K : PySem.W.Frag) : List V → Hp → VK → Prop := fun xs H Q => ∃ (x : V) (d : PyData), xs = [x] ∧ Dt K H x d ∧ d.showable = true ∧ d.depth ≤ 60 ∧ d.shown.length ≤ sizeLine ∧ Q (.str d.shown) H
theorem call_repr (hgd : X.A.guards = some []) (hu : X.A.units + 64 < cLine) : CallR X (.builtin "repr") (rRepr X.K) := by
  intro pins s σ H xs us Q I r h
  obtain ⟨x, d, rfl, hd, hs, hde, hz, q⟩ := h
  obtain ⟨u, rfl, ru⟩ := vals1 r
  refine Sh.repr (hd.sh I ru) hs hz hgd (by omega) fun h' t tk kp => ?_
  exact ⟨.str d.shown, H, I.kept (t' := tk) kp, ⟨t, rfl⟩, q⟩
end
end WT

set_option Elab.async false
set_option linter.all false
set_option maxRecDepth 100000
set_option maxHeartbeats 4000000
namespace WT
open PySem PySem.Spec PyProof.Rows L2
section
variable {X : Cx}
/-- a power of any size that fits -/
def CPowW (i j : Int) : Prop := 0 ≤ j ∧ (Builtin.Int.intBits i : Int) * j ≤ 2 ^ 27
theorem op_powW : OpR X (binaryOp .Pow) (rI CPowW fun i j => .int (i ^ j.toNat)) := opI fun _ _ _ _ _ _ _ hc q => pow_int hc.1 hc.2 q
theorem big_pow : CPowW ((10 : Int) ^ (60 : Int).toNat) 5 := ⟨by decide, by decide +kernel⟩
end
end WT

set_option Elab.async false
set_option linter.all false
set_option maxRecDepth 100000
set_option maxHeartbeats 4000000
/-! The law's own call, from a promise that holds where no repr is under way. -/
namespace WT
open PySem PySem.Spec PyProof.Rows L2
section
variable {P : Program} {w : World} {K : PySem.W.Frag} {mg mb : Str → Option Value} {k : Nat} {fa a : Addr} {fd : FuncData} {x : Str} {sp : Sp} {s1 : Shared} {us : List Value} {ns : List Int}
/-- from an abstract heap that tracks the script alone, or nothing -/
theorem lawG_core {H : Hp} (kin : K.In s1.heap) (hg : s1.heap.Ns mainGlobals mg) (hb : s1.heap.Ns builtinsNs mb) (hbb : ∀ y : Str, y ≠ "__name__" → mb y = bootBuiltins y) (hlim : s1.heap.NoLimit) (hgn : s1.gens = #[])
    (ha : s1.heap.get? a = some { cls := .type "list", data := .seq us.toArray }) (hr : Room k callerA) (F : ∀ base : Heap, K.In base → base.Ns mainGlobals mg → FnG P w K mg base CX0 k fa fd [x] sp)
    (hbind : ∀ (s : Shared) (u : Value), BindsTo s fd ⟨[u], []⟩ [(x, u)]) (hO : Only H) (hok : HOk P w H s1.heap) (hA : ∀ b, H b ≠ none → b = a) (hK : H a ≠ none → K.lookup a = none)
    (hsp : sp [.ref a] H (fun v _ => v = .bl true) fun _ _ _ => False) :
    codeAny (model P w) callerA (.call (.ref fa) ⟨[.ref a], []⟩) (fun r s' => r = .ok (.ret (.bool true)) ∧ OldK s1.heap s'.heap ∧ s'.os = s1.os ∧ AllBare s'.gens) s1 := by
  have nodict : ∀ {b : Addr} {o : Obj} {es : Array DictEntry} {ep : Nat}, s1.heap.get? b = some o → o.data = .dict es ep → H b = none := by
    intro b o es ep e d
    cases q : H b with
    | none => rfl
    | some u =>
      obtain rfl := hA b (by rw [q]; exact fun z => nomatch z)
      rw [ha] at e
      cases e
      cases d
  have ns : ∀ {b : Addr} {m : Str → Option Value}, s1.heap.Ns b m → (hidT s1.heap H).Ns b m := by
    intro b m hn
    obtain ⟨o, es, ep, e, d, r⟩ := hn
    exact ⟨o, es, ep, hidT_get e (nodict e d), d, r⟩
  have kin' : K.In (hidT s1.heap H) := by
    intro b o e
    refine hidT_get (kin b o e) ?_
    cases q : H b with
    | none => rfl
    | some u =>
      have eb := hA b (by rw [q]; exact fun z => nomatch z)
      rw [eb] at e q
      rw [hK (by rw [q]; exact fun z => nomatch z)] at e
      cases e
  obtain ⟨mc, l1, l2⟩ := hlim
  have md : Mod K mg (hidT s1.heap H) := ⟨kin', ns hg, ⟨mb, ns hb, hbb⟩, ⟨mc, ns l1, l2⟩⟩
  have e0 : Env0 P w K mg (hidT s1.heap H) callerA [] s1 H :=
    { frames := rfl, mod := md, bs := fun b o e => of_hidT e, bsz := Nat.le_of_eq (hidT_size _ _), funs := trivial, frf := fun b z => absurd (show b ∈ ([] : List Addr) from z) (by simp), hok := hok, bare := .of_eq hgn }
  refine codeAny_mono ((F _ kin' (ns hg)).run callerA [] s1 H ⟨[.ref a], []⟩ [.ref a] [.ref a] _ _ rfl hr e0 (hbind s1 (.ref a)) (.cons rfl .nil) hsp) fun r s' h => ?_
  match r, h with
  | .error e, h => exact h.elim
  | .ok .next, h => exact h.elim
  | .ok .brk, h => exact h.elim
  | .ok .cont, h => exact h.elim
  | .ok (.ret u), h =>
    obtain ⟨v, H', os, bare, un, hok', rv, q⟩ := h
    have q' : v = .bl true := q
    subst q'
    obtain rfl : u = Value.bool true := rv
    refine ⟨rfl, OldK.of_keep fun b o e => ?_, os, bare⟩
    rcases hO b with z | ⟨ob, xs, z⟩
    · exact un.keep b o e z (fun y => absurd (show b ∈ ([] : List Addr) from y) (by simp)) (by simp)
    · have e1 := (hok b _ z).1
      have e2 := (hok' b _ (un.frzs b ob _ z)).1
      rw [e] at e1
      cases e1
      exact e2
theorem lawG_call (kin : K.In s1.heap) (hg : s1.heap.Ns mainGlobals mg) (hb : s1.heap.Ns builtinsNs mb) (hbb : ∀ y : Str, y ≠ "__name__" → mb y = bootBuiltins y) (hlim : s1.heap.NoLimit) (hgn : s1.gens = #[])
    (ha : s1.heap.get? a = some { cls := .type "list", data := .seq us.toArray }) (hi : IntsAre us ns) (hl : ns.length ≤ sizeLine) (hr : Room k callerA)
    (F : ∀ base : Heap, K.In base → base.Ns mainGlobals mg → FnG P w K mg base CX0 k fa fd [x] sp) (hbind : ∀ (s : Shared) (u : Value), BindsTo s fd ⟨[u], []⟩ [(x, u)])
    (hsp : ∀ H : Hp, Only H → SqL K H a (ns.map V.int) → sp [.ref a] H (fun v _ => v = .bl true) fun _ _ _ => False) :
    codeAny (model P w) callerA (.call (.ref fa) ⟨[.ref a], []⟩) (fun r s' => r = .ok (.ret (.bool true)) ∧ OldK s1.heap s'.heap ∧ s'.os = s1.os ∧ AllBare s'.gens) s1 := by
  have rv := vals_ints hi
  cases hk : K.lookup a with
  | some o =>
    have e := kin a o hk
    rw [ha] at e
    cases e
    have no : ∀ b : Addr, (fun _ : Addr => (none : Option HO)) b = none := fun _ => rfl
    refine lawG_core (H := fun _ => none) kin hg hb hbb hlim hgn ha hr F hbind (fun b => .inl rfl) (fun b u z => nomatch z) (fun b z => absurd (no b) z) (fun z => absurd (no a) z) (hsp _ (fun b => .inl rfl) ?_)
    exact .inr ⟨_, us.toArray, _, hk, rfl, rfl, rfl, by rw [List.size_toArray, hi.length]; exact hl, by simpa using rv⟩
  | none =>
    obtain ⟨H, hH⟩ : ∃ H : Hp, ∀ b, H b = if b = a then some (.frz { cls := .type "list", data := .seq us.toArray } (.lst (ns.map V.int))) else none := ⟨_, fun _ => rfl⟩
    have at_ : H a = some (.frz { cls := .type "list", data := .seq us.toArray } (.lst (ns.map V.int))) := by rw [hH a, if_pos rfl]
    have off : ∀ b, b ≠ a → H b = none := fun b z => by rw [hH b, if_neg z]
    have only : Only H := fun b => by
      by_cases z : b = a
      · rw [z]
        exact .inr ⟨_, _, at_⟩
      · exact .inl (off b z)
    refine lawG_core (H := H) kin hg hb hbb hlim hgn ha hr F hbind only (fun b u z => ?_) (fun b z => ?_) (fun _ => hk) (hsp H only (.inl (.inr ⟨_, at_⟩)))
    · by_cases e : b = a
      · subst e
        rw [at_] at z
        cases z
        exact ⟨ha, by rw [List.length_map]; exact hl, us, _, rv, ha⟩
      · rw [off b e] at z
        cases z
    · by_cases e : b = a
      · exact e
      · exact absurd (off b e) z
end
/-- the goal that the head leaves, from the law's promise -/
theorem walkG {l : PySem.W.OpenLaw} {n k : Nat} {q : Program} {loose : List Str} {XP : (Str → Option Value) → Heap → Prop} {YP : World → Heap → Prop} {d : DefRec} {K : Params → PySem.W.Frag} {sp : World → Sp} {x : Str}
    (hn : l.most = some n) (hn2 : n ≤ sizeLine) (hdf : d.params.defaults = []) (hr : Room k callerA) (hY : ∀ (w : World) (h : Heap), YP w h → (K w.params).In h)
    (F : ∀ (w : World) (mg : Str → Option Value) (fa : Addr) (h : Heap), (K w.params).In h → h.Ns mainGlobals mg → mg d.name = some (.ref fa) →
      ∃ fd : FuncData, (∀ (s : Shared) (u : Value), BindsTo s fd ⟨[u], []⟩ [(x, u)]) ∧ ∀ base : Heap, (K w.params).In base → base.Ns mainGlobals mg → FnG l.prog w (K w.params) mg base CX0 k fa fd [x] (sp w))
    (hsp : ∀ (w : World) (H : Hp) (a : Addr) (ns : List Int), ns.length ≤ n → Only H → SqL (K w.params) H a (ns.map V.int) → sp w [.ref a] H (fun v _ => v = .bl true) fun _ _ _ => False) :
    PySem.W.WalkO q loose XP YP l.row.toRowW d [] (fun f vs => PySem.call f vs) := by
  refine Att.attach_call hn hdf fun w s0 s1 mg mb fa o pm cd doc a vs ns G Y ho hd hcd hmg hobj hints hlen hgn => ?_
  have kin := hY w _ Y
  obtain ⟨fd, hb, hF⟩ := F w mg fa _ kin G.T.g hmg
  exact lawG_call kin G.T.g G.T.b G.T.builtins G.T.nolimit hgn hobj hints (Nat.le_trans hlen hn2) hr hF hb fun H hO hS => hsp w H a ns hlen hO hS
end WT

set_option Elab.async false
set_option linter.all false
set_option maxRecDepth 100000
set_option maxHeartbeats 4000000
namespace WT
open PySem PySem.Spec PyProof.Rows L2
/-- a def that is called: where it stands, how its arguments bind, its promise -/
structure Df (P : Program) (w : World) (K : PySem.W.Frag) (mg : Str → Option Value) (base : Heap) (x : Str) (k : Nat) (f : Addr) (fd : FuncData) (ps : List Str) (sp : Sp) : Prop where
  g : mg x = some (.ref f)
  kp : PySem.W.keepIn K (.ref f) = true
  bd : Binds K fd ps []
  G : FnG P w K mg base CX0 k f fd ps sp
/-- all that was tracked but a is as it was -/
def But (a : Addr) (H H' : Hp) : Prop := ∀ b x, b ≠ a → H b = some x → H' b = some x
theorem But.refl (a : Addr) (H : Hp) : But a H H := fun _ _ _ h => h
theorem But.trans {a : Addr} {H H1 H2 : Hp} (x : But a H H1) (y : But a H1 H2) : But a H H2 := fun b o n h => y b o n (x b o n h)
theorem But.of {a : Addr} {H H1 : Hp} (x : Same H H1) : But a H H1 := fun b o _ h => x b o h
theorem But.upd {a : Addr} {H : Hp} {o : HO} : But a H (upd H a o) := fun b x n h => by
  rw [upd_ne n]
  exact h
/-- the numbers that a law draws from; at most b of them mixed so far -/
def Pot (b : Nat) (p0 p1 p2 : Int) : Prop := 0 ≤ p0 ∧ 0 ≤ p1 ∧ p1 < 2305843009213693952 ∧ 0 ≤ p2 ∧ p2 ≤ b
theorem Pot.more {b c : Nat} {p0 p1 p2 : Int} (h : Pot b p0 p1 p2) (hc : b ≤ c) : Pot c p0 p1 p2 := by
  unfold Pot at h ⊢
  omega
/-- the pot stands at a -/
def PotAt (H : Hp) (a : Addr) (b : Nat) : Prop := ∃ p0 p1 p2 : Int, H a = some (.lst [.int p0, .int p1, .int p2]) ∧ Pot b p0 p1 p2
theorem PotAt.same {H H' : Hp} {a : Addr} {b : Nat} (h : PotAt H a b) (s : Same H H') : PotAt H' a b := by
  obtain ⟨p0, p1, p2, h1, h2⟩ := h
  exact ⟨p0, p1, p2, s _ _ h1, h2⟩
theorem PotAt.more {H : Hp} {a : Addr} {b c : Nat} (h : PotAt H a b) (hc : b ≤ c) : PotAt H a c := by
  obtain ⟨p0, p1, p2, h1, h2⟩ := h
  exact ⟨p0, p1, p2, h1, h2.more hc⟩
/-- the pot is no tuple, no list of other things -/
theorem PotAt.ne_tup {H : Hp} {a c : Addr} {b : Nat} {xs : List V} (h : PotAt H a b) (e : H c = some (.tup xs)) : c ≠ a := by
  obtain ⟨p0, p1, p2, h1, _⟩ := h
  exact ne_of e h1 (by intro z; cases z)
theorem PotAt.ne_new {H : Hp} {a c : Addr} {b : Nat} (h : PotAt H a b) (e : H c = none) : a ≠ c := by
  obtain ⟨p0, p1, p2, h1, _⟩ := h
  exact ne_of_none h1 e
theorem bit_mul (b : Bool) : -(2 ^ 64) < (if b = true then (1 : Int) else 0) ∧ (if b = true then (1 : Int) else 0) < 2 ^ 64 := by
  cases b <;> decide
theorem bit_nn (b : Bool) : (0 : Int) ≤ (if b = true then (1 : Int) else 0) := by
  cases b <;> decide
section
variable {X : Cx}
/-- list(s), sign by sign -/
def signsV (z : Str) : List V := z.cps.toList.map fun c => V.str ⟨#[c]⟩
def rListS : List V → Hp → VK → Prop := fun xs H Q => ∃ z : Str, xs = [.str z] ∧ z.length ≤ sizeLine ∧ ∀ l, H l = none → Q (.ref l) (upd H l (.lst (signsV z)))
theorem call_list_str (hc : X.calm = true) : CallR X (.type "list") rListS := by
  intro pins s σ H xs us Q I r h
  obtain ⟨z, rfl, hz, q⟩ := h
  obtain ⟨u, rfl, t, rfl⟩ := vals1 r
  refine PySem.call_list_str (I.ok.hd hc) z t (fun h' tk acc c kp e it => ?_) hz
  have hlen : (signsV z).length ≤ sizeLine := by
    unfold signsV
    rw [List.length_map, Array.length_toList]
    exact hz
  have rv : Vals (signsV z) acc.toList := by
    refine vals_of_at ?_ fun j x u hx hu => ?_
    · unfold signsV
      rw [List.length_map, Array.length_toList, Array.length_toList]
      exact it.1.symm
    · obtain ⟨c, t, e1, e2⟩ := it.2 j u (by rw [← Array.getElem?_toList]; exact hu)
      unfold signsV at hx
      rw [List.getElem?_map, Array.getElem?_toList, e1] at hx
      cases hx
      exact ⟨t, e2⟩
  exact ⟨.ref s.heap.objs.size, _, I.laid (t' := tk) kp (Nat.le_refl _) (show ObjOk X.prog X.w _ h' _ (.lst (signsV z)) from ⟨hlen, acc.toList, c, rv, by simpa using e⟩), rfl, q _ (I.hok.fresh (Nat.le_refl _))⟩
end
end WT

set_option Elab.async false
set_option linter.all false
namespace WT
open PySem PySem.Spec PyProof.Rows L2
theorem txt_join (a : Str) (ys : List Str) : Txt.join a ys = Str.join a ys := PySem.StrLaws.glued_eq_join a ys
theorem app_cps (a b : Str) : (a ++ b).cps.toList = a.cps.toList ++ b.cps.toList := by
  show (a.cps ++ b.cps).toList = _
  exact Array.toList_append
theorem app_len (a b : Str) : (a ++ b).length = a.length + b.length := by
  show (a.cps ++ b.cps).size = _
  rw [Array.size_append]
  rfl
theorem join_nil_cps : ∀ ys : List Str, (Str.join ("" : Str) ys).cps.toList = (ys.map fun y => y.cps.toList).flatten
  | [] => rfl
  | [x] => by
    show x.cps.toList = _
    simp
  | x :: y :: r => by
    show ((x ++ ("" : Str)) ++ Str.join ("" : Str) (y :: r)).cps.toList = _
    rw [app_cps, app_cps, join_nil_cps (y :: r)]
    show (x.cps.toList ++ []) ++ _ = _
    rw [List.append_nil]
    rfl
/-- a name's sign: a small letter -/
def Low (c : Nat) : Prop := 97 ≤ c ∧ c ≤ 122
/-- a short text of small letters -/
structure NmOk (y : Str) : Prop where
  len : y.length ≤ 8
  low : ∀ c ∈ y.cps.toList, Low c
theorem NmOk.ok {y : Str} (h : NmOk y) : PyData.strOk y = true := by
  unfold PyData.strOk
  rw [Array.all_eq_true]
  intro i hi
  have := h.low y.cps[i] (by rw [Array.mem_toList_iff]; exact Array.getElem_mem hi)
  unfold Low at this
  exact decide_eq_true (by omega)
def sign (c : Nat) : Str := ⟨#[c]⟩
/-- stem followed by one letter: the letters from the first on -/
def nameList (stem : Str) (first n : Nat) : List Str := (List.range n).map fun j => stem ++ sign (97 + first + j)
structure NamesOf (n : Nat) (ys : List Str) : Prop where
  ex : ∃ (stem : Str) (first : Nat), ys = nameList stem first n ∧ stem.length ≤ 7 ∧ (∀ c ∈ stem.cps.toList, Low c) ∧ first + n ≤ 26
theorem NamesOf.length {n : Nat} {ys : List Str} (h : NamesOf n ys) : ys.length = n := by
  obtain ⟨s, f, rfl, _⟩ := h.ex
  unfold nameList
  rw [List.length_map, List.length_range]
theorem NamesOf.nm {n : Nat} {ys : List Str} (h : NamesOf n ys) : ∀ y ∈ ys, NmOk y := by
  obtain ⟨s, f, rfl, h1, h2, h3⟩ := h.ex
  intro y hy
  unfold nameList at hy
  obtain ⟨j, hj, rfl⟩ := List.mem_map.mp hy
  have hj := List.mem_range.mp hj
  refine ⟨?_, fun c hc => ?_⟩
  · rw [app_len]
    show s.length + 1 ≤ 8
    omega
  · rw [app_cps] at hc
    rcases List.mem_append.mp hc with hc | hc
    · exact h2 c hc
    · have : c = 97 + f + j := by simpa [sign] using hc
      unfold Low
      omega
def alpha : Str := "abcdefghijklmnopqrstuvwxyz"
theorem alpha_cps : alpha.cps.toList = (List.range 26).map fun j => 97 + j := by decide +kernel
theorem alpha_len : alpha.length = 26 := by decide +kernel
theorem cut_alpha {f n : Nat} (h : f + n ≤ 26) : (cutS alpha (some (f : Int)) (some ((f + n : Nat) : Int))).cps.toList = (List.range n).map fun j => 97 + f + j := by
  unfold cutS
  rw [HT.sIx_nat, HT.sIx_nat, alpha_len, Nat.min_eq_left h, Nat.min_eq_left (show f ≤ 26 by omega)]
  show (List.take (f + n - f) (List.drop f alpha.cps.toList)) = _
  rw [alpha_cps]
  apply List.ext_getElem?
  intro i
  rw [List.getElem?_take, List.getElem?_drop, List.getElem?_map, List.getElem?_map]
  by_cases hi : i < n
  · rw [if_pos (by omega), List.getElem?_range (by omega), List.getElem?_range hi]
    show some (97 + (f + i)) = some (97 + f + i)
    rw [Nat.add_assoc]
  · rw [if_neg (by omega), List.getElem?_eq_none (l := List.range n) (by rw [List.length_range]; omega)]
    rfl
/-- texts as data -/
theorem dp_strs {K : PySem.W.Frag} {H : Hp} : ∀ ss : List Str, DpAll K H (ss.map V.str) (ss.map PyData.str)
  | [] => .nil
  | s :: ss => .cons (.str s) (dp_strs ss)
theorem lay_strs : ∀ ss : List Str, (∀ s ∈ ss, PyData.strOk s = true) → PyData.canLayAll0 (ss.map PyData.str) = true ∧ PyData.depthAll (ss.map PyData.str) = 0
  | [], _ => ⟨by rw [List.map_nil, PyData.canLayAll0], by rw [List.map_nil, PyData.depthAll]⟩
  | s :: ss, h => by
    obtain ⟨h1, h2⟩ := lay_strs ss fun x hx => h x (List.mem_cons_of_mem _ hx)
    rw [List.map_cons, PyData.canLayAll0, PyData.depthAll, h1, h2, PyData.canLay0, PyData.depth, h s List.mem_cons_self]
    exact ⟨rfl, rfl⟩
theorem shaped_strs (ss : List Str) (h : ∀ s ∈ ss, PyData.strOk s = true) : SeqAt.shaped (.list (ss.map PyData.str)) = true := by
  obtain ⟨h1, h2⟩ := lay_strs ss h
  unfold SeqAt.shaped
  rw [PyData.canLay0, PyData.depth, h1, h2]
  rfl
theorem shaped_strsT (ss : List Str) (h : ∀ s ∈ ss, PyData.strOk s = true) : SeqAt.shaped (.tuple (ss.map PyData.str)) = true := by
  obtain ⟨h1, h2⟩ := lay_strs ss h
  unfold SeqAt.shaped
  rw [PyData.canLay0, PyData.depth, h1, h2]
  rfl
theorem shaped_nil : SeqAt.shaped (.list []) = true := by decide +kernel
theorem shaped_nilT : SeqAt.shaped (.tuple []) = true := by decide +kernel
theorem eqv_nil : ∀ ss : List Str, PyData.eqv (.list (ss.map PyData.str)) (.list []) = ss.isEmpty
  | [] => by decide +kernel
  | s :: ss => by
    rw [List.map_cons, PyData.eqv, PyData.eqvAll]
    rfl
theorem eqv_nilT : ∀ ss : List Str, PyData.eqv (.tuple (ss.map PyData.str)) (.tuple []) = ss.isEmpty
  | [] => by decide +kernel
  | s :: ss => by
    rw [List.map_cons, PyData.eqv, PyData.eqvAll]
    rfl
theorem map_erase {α β : Type} (g : α → β) : ∀ (xs : List α) (j : Nat), (xs.map g).eraseIdx j = (xs.eraseIdx j).map g
  | [], _ => rfl
  | _ :: _, 0 => rfl
  | x :: xs, j + 1 => by
    show g x :: (xs.map g).eraseIdx j = g x :: (xs.eraseIdx j).map g
    rw [map_erase g xs j]
theorem erase_perm {α : Type} : ∀ (xs : List α) (j : Nat) (h : j < xs.length), (xs[j] :: xs.eraseIdx j).Perm xs
  | x :: xs, 0, _ => List.Perm.refl _
  | x :: xs, j + 1, h => by
    have ih := erase_perm xs j (Nat.lt_of_succ_lt_succ h)
    show (xs[j]'(Nat.lt_of_succ_lt_succ h) :: x :: xs.eraseIdx j).Perm (x :: xs)
    exact (List.Perm.swap _ _ _).trans (ih.cons x)
theorem sum_ones {α : Type} : ∀ ss : List α, (ss.map fun _ => 1).sum = ss.length
  | [] => rfl
  | s :: ss => by
    rw [List.map_cons, List.sum_cons, sum_ones ss, List.length_cons]
    omega
end WT

set_option Elab.async false
set_option linter.all false
namespace WT
open PySem PySem.Spec PyProof.Rows L2
/-- a gateway: its name, its members, its kind -/
abbrev Gt := Str × List Str × Str
def GateAt (H : Hp) (a : Addr) (g : Gt) : Prop := ∃ i, H a = some (.tup [.str g.1, .ref i, .str g.2.2]) ∧ H i = some (.tup (g.2.1.map V.str))
theorem GateAt.same {H H' : Hp} {a : Addr} {g : Gt} (h : GateAt H a g) (s : Same H H') : GateAt H' a g := by
  obtain ⟨i, h1, h2⟩ := h
  exact ⟨i, s _ _ h1, s _ _ h2⟩
theorem GateAt.but {H H' : Hp} {a c : Addr} {g : Gt} {b : Nat} (h : GateAt H a g) (p : PotAt H c b) (s : But c H H') : GateAt H' a g := by
  obtain ⟨i, h1, h2⟩ := h
  exact ⟨i, s _ _ (p.ne_tup h1) h1, s _ _ (p.ne_tup h2) h2⟩
/-- the world of the regions rs and the gateways gs stands at a -/
structure WorldAt (H : Hp) (a r g : Addr) (as : List Addr) (rs : List Str) (gs : List Gt) : Prop where
  top : H a = some (.tup [.ref r, .ref g])
  reg : H r = some (.tup (rs.map V.str))
  gat : H g = some (.tup (as.map V.ref))
  each : Paired (GateAt H) as gs
theorem WorldAt.same {H H' : Hp} {a r g : Addr} {as : List Addr} {rs : List Str} {gs : List Gt} (h : WorldAt H a r g as rs gs) (s : Same H H') : WorldAt H' a r g as rs gs :=
  ⟨s _ _ h.top, s _ _ h.reg, s _ _ h.gat, Paired.mapP h.each fun _ _ z => z.same s⟩
theorem WorldAt.but {H H' : Hp} {a r g c : Addr} {as : List Addr} {rs : List Str} {gs : List Gt} {b : Nat} (h : WorldAt H a r g as rs gs) (p : PotAt H c b) (s : But c H H') : WorldAt H' a r g as rs gs :=
  ⟨s _ _ (p.ne_tup h.top) h.top, s _ _ (p.ne_tup h.reg) h.reg, s _ _ (p.ne_tup h.gat) h.gat, Paired.mapP h.each fun _ _ z => z.but p s⟩
/-- what a drawn gateway between the regions rs is -/
structure GateOk (rs : List Str) (g : Gt) : Prop where
  nm : NmOk g.1
  from_ : ∃ (ys : List Str) (k : Nat), ys.Perm rs ∧ g.2.1.Perm (ys.take k) ∧ 2 ≤ k ∧ k ≤ rs.length
  srt : sortedS g.2.1 = true
  kind : g.2.2 = "wrap" ∨ g.2.2 = "open"
theorem GateOk.sub {rs : List Str} {g : Gt} (h : GateOk rs g) : ∀ x ∈ g.2.1, x ∈ rs := by
  obtain ⟨ys, k, h1, h2, _⟩ := h.from_
  intro x hx
  exact h1.mem_iff.mp (List.mem_of_mem_take (h2.mem_iff.mp hx))
theorem GateOk.len {rs : List Str} {g : Gt} (h : GateOk rs g) : 2 ≤ g.2.1.length ∧ g.2.1.length ≤ rs.length := by
  obtain ⟨ys, k, h1, h2, h3, h4⟩ := h.from_
  have e1 := h2.length_eq
  have e2 := h1.length_eq
  rw [List.length_take] at e1
  omega
structure WorldOk (rs : List Str) (gs : List Gt) : Prop where
  reg : ∃ n, 1 ≤ n ∧ n ≤ 10 ∧ NamesOf n rs
  gat : ∃ n, n ≤ 10 ∧ NamesOf n (gs.map (·.1))
  each : ∀ g ∈ gs, GateOk rs g
theorem cut_to (ys : List Str) (k : Nat) : cutV (ys.map V.str) none (some (k : Int)) = (ys.take k).map V.str := by
  unfold cutV
  rw [HT.sIx_nat, HT.sIx_none, List.drop_zero, List.length_map, Nat.sub_zero, ← List.map_take]
  congr 1
  rcases Nat.le_total k ys.length with h | h
  · rw [Nat.min_eq_left h]
  · rw [Nat.min_eq_right h, List.take_of_length_le h, List.take_length]
theorem pair_snoc {α β : Type} {R : α → β → Prop} : ∀ {l : List α} {m : List β} {x : α} {y : β}, Paired R l m → R x y → Paired R (l ++ [x]) (m ++ [y])
  | _, _, _, _, .nil, r => .cons r .nil
  | _, _, _, _, .cons r t, q => .cons r (pair_snoc t q)
end WT

set_option Elab.async false
set_option linter.all false
namespace WT
open PySem PySem.Spec PyProof.Rows L2
/-! ### regions that gateways connect: the mathematics -/
def Adj (gs : List Gt) (bar : List Str) (x y : Str) : Prop := ∃ g ∈ gs, g.1 ∉ bar ∧ x ∈ g.2.1 ∧ y ∈ g.2.1
inductive Conn (gs : List Gt) (bar : List Str) (x : Str) : Str → Prop
  | refl : Conn gs bar x x
  | step {y z : Str} : Conn gs bar x y → Adj gs bar y z → Conn gs bar x z
theorem Adj.symm {gs : List Gt} {bar : List Str} {x y : Str} (h : Adj gs bar x y) : Adj gs bar y x := by
  obtain ⟨g, h1, h2, h3, h4⟩ := h
  exact ⟨g, h1, h2, h4, h3⟩
theorem Conn.trans {gs : List Gt} {bar : List Str} {x y z : Str} (h : Conn gs bar x y) (k : Conn gs bar y z) : Conn gs bar x z := by
  induction k with
  | refl => exact h
  | step _ a ih => exact ih.step a
theorem Conn.symm {gs : List Gt} {bar : List Str} {x y : Str} (h : Conn gs bar x y) : Conn gs bar y x := by
  induction h with
  | refl => exact .refl
  | step _ a ih => exact (Conn.refl.step a.symm).trans ih
/-- what exits returns -/
def exitsL (gs : List Gt) (bar : List Str) (x : Str) : List (Str × Str) := gs.flatMap fun g => if x ∈ g.2.1 ∧ g.1 ∉ bar then (g.2.1.filter fun y => decide (y ≠ x)).map fun y => (g.1, y) else []
theorem exits_adj {gs : List Gt} {bar : List Str} {x : Str} {e : Str × Str} (h : e ∈ exitsL gs bar x) : Adj gs bar x e.2 := by
  unfold exitsL at h
  obtain ⟨g, hg, he⟩ := List.mem_flatMap.mp h
  by_cases c : x ∈ g.2.1 ∧ g.1 ∉ bar
  · rw [if_pos c] at he
    obtain ⟨y, hy, rfl⟩ := List.mem_map.mp he
    exact ⟨g, hg, c.2, c.1, (List.mem_filter.mp hy).1⟩
  · rw [if_neg c] at he
    cases he
theorem adj_exits {gs : List Gt} {bar : List Str} {x y : Str} (h : Adj gs bar x y) (n : y ≠ x) : ∃ e ∈ exitsL gs bar x, e.2 = y := by
  obtain ⟨g, hg, h1, h2, h3⟩ := h
  refine ⟨(g.1, y), ?_, rfl⟩
  unfold exitsL
  refine List.mem_flatMap.mpr ⟨g, hg, ?_⟩
  rw [if_pos ⟨h2, h1⟩]
  exact List.mem_map.mpr ⟨y, List.mem_filter.mpr ⟨h3, decide_eq_true n⟩, rfl⟩
/-- a set of regions that no exit leaves has all that is connected -/
theorem closed_conn {gs : List Gt} {bar : List Str} {x y : Str} {ks : List Str} (hx : x ∈ ks) (hc : ∀ k ∈ ks, ∀ z, Adj gs bar k z → z ∈ ks) (h : Conn gs bar x y) : y ∈ ks := by
  induction h with
  | refl => exact hx
  | step _ a ih => exact hc _ ih _ a
/-- different ones among rs are at most as many -/
theorem nodup_le {α : Type} [DecidableEq α] : ∀ {ks rs : List α}, ks.Nodup → (∀ k ∈ ks, k ∈ rs) → ks.length ≤ rs.length
  | [], _, _, _ => Nat.zero_le _
  | k :: ks, rs, hn, hs => by
    have hk := hs k List.mem_cons_self
    obtain ⟨hk1, hk2⟩ := List.nodup_cons.mp hn
    have ih := nodup_le (ks := ks) (rs := rs.erase k) hk2 fun z hz => by
      have := hs z (List.mem_cons_of_mem _ hz)
      exact (List.mem_erase_of_ne (fun (e : z = k) => hk1 (e ▸ hz))).mpr this
    have := List.length_erase_of_mem hk
    have : 0 < rs.length := List.length_pos_of_mem hk
    rw [List.length_cons]
    omega
theorem inV_str (x : Str) : ∀ ss : List Str, inV (.str x) (ss.map V.str) = decide (x ∈ ss)
  | [] => by simp [inV]
  | s :: ss => by
    have ih := inV_str x ss
    unfold inV at ih ⊢
    rw [List.map_cons, List.any_cons, ih]
    by_cases h : x = s
    · subst h
      simp [eqV]
    · have : ¬ s = x := fun z => h z.symm
      simp [eqV, h, this]
theorem flat_strs : ∀ ss : List Str, (ss.map V.str).all flatV = true
  | [] => rfl
  | _ :: ss => by
    rw [List.map_cons, List.all_cons, flat_strs ss]
    rfl
theorem exits_len {gs : List Gt} {bar : List Str} {x : Str} (h : ∀ g ∈ gs, g.2.1.length ≤ 100) : (exitsL gs bar x).length ≤ gs.length * 100 := by
  induction gs with
  | nil => exact Nat.zero_le _
  | cons g gs ih =>
    have := ih fun y hy => h y (List.mem_cons_of_mem _ hy)
    have hg := h g List.mem_cons_self
    unfold exitsL at this ⊢
    rw [List.flatMap_cons, List.length_append, List.length_cons, Nat.add_mul]
    have : (if x ∈ g.2.1 ∧ g.1 ∉ bar then (g.2.1.filter fun y => decide (y ≠ x)).map fun y => (g.1, y) else []).length ≤ 100 := by
      by_cases c : x ∈ g.2.1 ∧ g.1 ∉ bar
      · rw [if_pos c, List.length_map]
        exact Nat.le_trans (List.length_filter_le _ _) hg
      · rw [if_neg c]
        exact Nat.zero_le _
    omega
theorem pair_at {α β : Type} {R : α → β → Prop} : ∀ {l : List α} {m : List β} {i : Nat} {x : α}, Paired R l m → l[i]? = some x → ∃ y, m[i]? = some y ∧ R x y
  | _, _, _, _, .nil, h => by simp at h
  | _, _, 0, _, .cons r _, h => by
    cases h
    exact ⟨_, rfl, r⟩
  | _, _, i + 1, _, .cons _ t, h => pair_at (i := i) t h
theorem pair_app {α β : Type} {R : α → β → Prop} : ∀ {l l2 : List α} {m m2 : List β}, Paired R l m → Paired R l2 m2 → Paired R (l ++ l2) (m ++ m2)
  | _, _, _, _, .nil, r => r
  | _, _, _, _, .cons r t, q => .cons r (pair_app t q)
theorem valV_mem {κ : Type} [DecidableEq κ] {k : κ} {v : V} : ∀ {kvs : List (κ × V)}, valV kvs k = some v → (k, v) ∈ kvs
  | [], h => by cases h
  | p :: r, h => by
    by_cases e : p.1 = k
    · rw [valV_pos e] at h
      cases h
      rw [← e]
      exact List.mem_cons_self
    · rw [valV_neg e] at h
      exact List.mem_cons_of_mem _ (valV_mem h)
theorem valV_some {κ : Type} [DecidableEq κ] {k : κ} : ∀ {kvs : List (κ × V)}, k ∈ kvs.map (·.1) → ∃ v, valV kvs k = some v
  | [], h => by cases h
  | p :: r, h => by
    by_cases e : p.1 = k
    · exact ⟨_, valV_pos e⟩
    · rw [valV_neg e]
      rcases List.mem_cons.mp h with h | h
      · exact absurd h.symm e
      · exact valV_some h
theorem valV_none {κ : Type} [DecidableEq κ] {k : κ} {kvs : List (κ × V)} (h : k ∉ kvs.map (·.1)) : valV kvs k = none := by
  cases e : valV kvs k with
  | none => rfl
  | some v => exact absurd (List.mem_map.mpr ⟨_, valV_mem e, rfl⟩) h
/-- the search so far: the regions that have a path, each path a tuple -/
structure Bfs (gs : List Gt) (bar rs : List Str) (one : Str) (H : Hp) (kvs : List (Key × V)) (ks : List Str) : Prop where
  keys : kvs.map (·.1) = ks.map Sum.inr
  nod : ks.Nodup
  has : one ∈ ks
  con : ∀ k ∈ ks, Conn gs bar one k ∧ k ∈ rs
  tup : ∀ p ∈ kvs, ∃ (t : Addr) (xs : List V), p.2 = .ref t ∧ H t = some (.tup xs) ∧ xs ≠ [] ∧ xs.length ≤ 2 * kvs.length
theorem Bfs.len {gs : List Gt} {bar rs : List Str} {one : Str} {H : Hp} {kvs : List (Key × V)} {ks : List Str} (h : Bfs gs bar rs one H kvs ks) : kvs.length = ks.length ∧ ks.length ≤ rs.length := by
  have := congrArg List.length h.keys
  rw [List.length_map, List.length_map] at this
  exact ⟨this, nodup_le h.nod fun k hk => (h.con k hk).2⟩
theorem Bfs.mem {gs : List Gt} {bar rs : List Str} {one k : Str} {H : Hp} {kvs : List (Key × V)} {ks : List Str} (h : Bfs gs bar rs one H kvs ks) : Sum.inr k ∈ kvs.map (·.1) ↔ k ∈ ks := by
  rw [h.keys]
  constructor
  · intro z
    obtain ⟨y, hy, e⟩ := List.mem_map.mp z
    cases e
    exact hy
  · exact fun z => List.mem_map.mpr ⟨k, z, rfl⟩
theorem Bfs.get {gs : List Gt} {bar rs : List Str} {one k : Str} {H : Hp} {kvs : List (Key × V)} {ks : List Str} (h : Bfs gs bar rs one H kvs ks) (hk : k ∈ ks) : ∃ (t : Addr) (xs : List V), valV kvs (Sum.inr k) = some (.ref t) ∧ H t = some (.tup xs) ∧ xs ≠ [] ∧ xs.length ≤ 2 * kvs.length := by
  obtain ⟨v, hv⟩ := valV_some (h.mem.mpr hk)
  obtain ⟨t, xs, e, r⟩ := h.tup _ (valV_mem hv)
  have e : v = .ref t := e
  exact ⟨t, xs, by rw [hv, e], r⟩
theorem Bfs.same {gs : List Gt} {bar rs : List Str} {one : Str} {H H' : Hp} {kvs : List (Key × V)} {ks : List Str} (h : Bfs gs bar rs one H kvs ks) (s : ∀ t xs, H t = some (.tup xs) → H' t = some (.tup xs)) : Bfs gs bar rs one H' kvs ks :=
  ⟨h.keys, h.nod, h.has, h.con, fun p hp => by
    obtain ⟨t, xs, e1, e2, e3⟩ := h.tup p hp
    exact ⟨t, xs, e1, s _ _ e2, e3⟩⟩
theorem Bfs.put {gs : List Gt} {bar rs : List Str} {one k : Str} {H : Hp} {kvs : List (Key × V)} {ks : List Str} {t : Addr} {xs : List V} (h : Bfs gs bar rs one H kvs ks) (hk : k ∉ ks) (hc : Conn gs bar one k) (hr : k ∈ rs) (ht : H t = some (.tup xs)) (hx : xs ≠ []) (hl : xs.length ≤ 2 * kvs.length + 2) :
    putK kvs (Sum.inr k) (.ref t) = kvs ++ [(Sum.inr k, .ref t)] ∧ Bfs gs bar rs one H (kvs ++ [(Sum.inr k, .ref t)]) (ks ++ [k]) := by
  refine ⟨putK_new _ (valV_none fun z => hk (h.mem.mp z)), ?_, ?_, List.mem_append_left _ h.has, fun y hy => ?_, fun p hp => ?_⟩
  · rw [List.map_append, List.map_append, h.keys]
    rfl
  · refine List.nodup_append.mpr ⟨h.nod, by simp, fun a ha b hb e => ?_⟩
    rw [List.mem_singleton.mp hb] at e
    exact hk (e ▸ ha)
  · rcases List.mem_append.mp hy with hy | hy
    · exact h.con y hy
    · rw [List.mem_singleton.mp hy]
      exact ⟨hc, hr⟩
  · rw [List.length_append]
    rcases List.mem_append.mp hp with hp | hp
    · obtain ⟨t', xs', e1, e2, e3, e4⟩ := h.tup p hp
      exact ⟨t', xs', e1, e2, e3, by simp; omega⟩
    · rw [List.mem_singleton.mp hp]
      exact ⟨t, xs, rfl, ht, hx, by simp; omega⟩
theorem ifT {c : Bool} {A B : Prop} (h : c = true) (x : A) : if c = true then A else B := by
  rw [if_pos h]
  exact x
theorem ifF {c : Bool} {A B : Prop} (h : c = false) (x : B) : if c = true then A else B := by
  rw [h, if_neg Bool.false_ne_true]
  exact x
/-- what the search hands back -/
theorem Bfs.out {gs : List Gt} {bar rs : List Str} {one other : Str} {H : Hp} {kvs : List (Key × V)} {ks far : List Str} (h : Bfs gs bar rs one H kvs ks) (hc : ∀ k ∈ ks, k ∉ far → ∀ z, Adj gs bar k z → z ∈ ks) (hd : far = [] ∨ other ∈ ks) :
    (valV kvs (Sum.inr other)).getD .non ≠ .non ↔ Conn gs bar one other := by
  by_cases ho : other ∈ ks
  · obtain ⟨t, xs, e, _⟩ := h.get ho
    rw [e]
    exact ⟨fun _ => (h.con _ ho).1, fun _ z => by cases z⟩
  · rw [valV_none fun z => ho (h.mem.mp z)]
    refine ⟨fun z => absurd rfl z, fun z => absurd (closed_conn h.has (fun k hk => ?_) z) ho⟩
    rcases hd with rfl | hd
    · exact hc k hk (by simp)
    · exact absurd hd ho
end WT

set_option Elab.async false
set_option linter.all false
set_option maxRecDepth 100000
set_option maxHeartbeats 4000000
/-! Calls with a keyword, and calls that leave a keyword-only parameter out. -/
namespace WT
open PySem PySem.Spec PyProof.Rows L2
section
variable {X : Cx} {cx : CXT} {k n m : Nat} {f : Addr} {fd : FuncData} {ps ks : List Str} {sp : Sp} {E : XK} {x : Str} {p pos : Pos} {e : Expr} {es : List Expr} {kws : List Keyword} {t tk : TA}
theorem run_fnB {pins : List (Addr × Obj)} {σ : L2.St} {H : Hp} {s : Shared} {Q : VK} {us : List Value} {kw : List (Str × Value)} {bs : List Value} {vs : List V} (hgd : X.A.guards = some []) (G : FnG X.prog X.w X.K X.mg X.base cx k f fd ps sp) (hr : Room k X.A)
    (hx : Passes cx X E) (I : Inv X pins σ H s) (hb : BindsTo s fd ⟨us, kw⟩ (ps.zip bs)) (r : Vals vs bs) (h : sp vs H Q E) : wpAny (model X.prog X.w) X.A (call (.ref f) us kw) (EP X pins σ Q) X.xe s := by
  refine wpAny_call (codeAny_mono (G.run X.A X.stack s H ⟨us, kw⟩ bs vs Q E hgd hr I.env0 hb r h) fun r s' hq => ?_)
  cases r with
  | error e => exact hx pins σ H s e s' I hq
  | ok fl =>
    cases fl with
    | ret u => exact I.after hq
    | next => exact hq.elim
    | brk => exact hq.elim
    | cont => exact hq.elim
/-- f(e, .., k = v, ..), the keywords behind the others in the parameters' order -/
def tCallKG (n m : Nat) (sp : Sp) (E : XK) (t tk : TA) : TE := fun σ H Q => t σ H fun vs H1 => tk σ H1 fun zs H2 => vs.length = n ∧ zs.length = m ∧ sp (vs ++ zs) H2 Q E
theorem pe_callKG (hgd : X.A.guards = some []) (G : FnG X.prog X.w X.K X.mg X.base cx k f fd ps sp) (hr : Room k X.A) (hg : Gl X x) (hm : X.mg x = some (.ref f)) (hk : PySem.W.keepIn X.K (.ref f) = true)
    (hb : ∀ (s1 : Shared) (us ws : List Value), X.K.In s1.heap → us.length = n → ws.length = m → BindsTo s1 fd ⟨us, ks.zip ws⟩ (ps.zip (us ++ ws))) (hx : Passes cx X E) (ha : PA X (e :: es) t) (hkw : PK X kws tk)
    (hall : (backToKw pos (keywordEach kws X.env)).all (·.1.isSome) = true := by rfl) (hks : (backToKw pos (keywordEach kws X.env)).filterMap (·.1) = ks := by rfl) (hdb : (x == ("__debug__" : Str)) = false := by decide)
    (he : starEach (e :: es) X.env = (false, eval e X.env) :: starEach es X.env := by rfl) (hpl : ((backTo pos (starEach (e :: es) X.env)).any (·.1) || (backToKw pos (keywordEach kws X.env)).any (·.1.isNone)) = false := by rfl) :
    PE X (.Call (.Name x p) (e :: es) kws pos) (tCallKG n m sp E t tk) := by
  refine ⟨fun pins s σ H Q I h => ?_⟩
  refine wpAny_Call_Name_kw (ld_glob I hg hm ?_ hdb)
  refine PySem.W.callWith_KW (h₀ := X.base) I.ok.mod.kin hk hall (thn (ha.run pos pins s σ H _ I h) fun us s1 ⟨vs, H1, I1, r, q⟩ => ?_) hpl he
  refine thn (hkw.run pos pins s1 σ H1 _ I1 q) fun ws s2 ⟨zs, H2, I2, rz, l1, l2, q2⟩ => ⟨I2.kIn, ?_⟩
  rw [hks]
  exact run_fnB hgd G hr hx I2 (hb s2 us ws I2.kIn ((Vals.length r).symm.trans l1) ((Vals.length rz).symm.trans l2)) (r.append rz) q2
/-- f(e, ..) where defaults fill up -/
def tCallDG (sp : Sp) (dvs : List V) (E : XK) (t : TA) : TE := fun σ H Q => t σ H fun vs H1 => sp (vs ++ dvs) H1 Q E
theorem pe_callDG {dvs : List V} {ds : List Value} (hgd : X.A.guards = some []) (G : FnG X.prog X.w X.K X.mg X.base cx k f fd ps sp) (hr : Room k X.A) (hg : Gl X x) (hm : X.mg x = some (.ref f)) (hk : PySem.W.keepIn X.K (.ref f) = true)
    (hb : Binds X.K fd ps ds) (hd : Vals dvs ds) (hx : Passes cx X E) (ha : PA X (e :: es) t) (hdb : (x == ("__debug__" : Str)) = false := by decide)
    (he : starEach (e :: es) X.env = (false, eval e X.env) :: starEach es X.env := by rfl) (hpl : (backTo pos (starEach es X.env)).any (·.1) = false := by rfl) : PE X (.Call (.Name x p) (e :: es) [] pos) (tCallDG sp dvs E t) := by
  refine ⟨fun pins s σ H Q I h => ?_⟩
  refine wpAny_Call_Name_kw (ld_glob I hg hm ?_ hdb)
  refine PySem.W.callWith_K (h₀ := X.base) I.ok.mod.kin hk (thn (ha.run pos pins s σ H _ I h) fun us s1 ⟨vs, H1, I1, r, q⟩ => ⟨I1.kIn, ?_⟩) he hpl
  have r2 : Vals (vs ++ dvs) (us ++ ds) := r.append hd
  exact run_fnB hgd G hr hx I1 (hb s1 us I1.kIn (by rw [← Vals.length r2]; exact G.len _ _ _ _ q)) r2 q
end
/-- a def with one keyword-only parameter: called with it, called without it -/
structure Dk (P : Program) (w : World) (K : PySem.W.Frag) (mg : Str → Option Value) (base : Heap) (x : Str) (k : Nat) (f : Addr) (fd : FuncData) (ps : List Str) (n : Nat) (kw : Str) (dv : V) (sp : Sp) : Prop where
  g : mg x = some (.ref f)
  kp : PySem.W.keepIn K (.ref f) = true
  G : FnG P w K mg base CX0 k f fd ps sp
  kb : ∀ (s1 : Shared) (us ws : List Value), K.In s1.heap → us.length = n → ws.length = 1 → BindsTo s1 fd ⟨us, ([kw] : List Str).zip ws⟩ (ps.zip (us ++ ws))
  bd : ∃ ds, Vals [dv] ds ∧ Binds K fd ps ds
end WT

set_option Elab.async false
set_option linter.all false
set_option maxRecDepth 100000
set_option maxHeartbeats 4000000
/-! enumerate over a tuple. -/
namespace PySem
open Sem (wp)
theorem newEnumOne {x : Value} {io : Obj} {Hh : Heap → Prop} (Bg : Begins x io Hh) :
    Meets (Builtin.«enumerate.__new__» ⟨[.type "enumerate", x], []⟩) (fun _ Rr st => Hh st.heap ∧
      Rr (.ok (.ret (.ref (st.heap.push io).objs.size))) { st with heap := (st.heap.push io).push { cls := .type "enumerate", data := .fields #[.none, .bool false, .ref st.heap.objs.size, rawInt 0, .none, .none] } }) :=
  .of_wp fun pr wd Ar Rr st hyp => by
    obtain ⟨hh, gg, dd, tt, oo⟩ := st
    obtain ⟨hb, hyp⟩ := hyp
    have hsb := sub_enumerate
    have itr : ∀ {A2 : Around} {E2 : Value → Shared → Prop} {Q2 : Value → Shared → Prop}, Q2 (.ref hh.objs.size) ⟨hh.push io, gg, dd, tt, oo⟩ → wpAny (model pr wd) A2 (pyIter x) Q2 E2 ⟨hh, gg, dd, tt, oo⟩ :=
      fun r => Bg.iter pr wd _ _ ⟨hh, gg, dd, tt, oo⟩ _ hb r
    wp_walk using itr
    refine wpAny_stack_any fun stk => wpAny_pure ?_
    split
    · rename_i cc _ _ _ _ _
      cases (cc == Value.type "enumerate") <;> (wp_walk using itr; exact ⟨_, rfl, hyp⟩)
    · wp_walk using itr
      exact ⟨_, rfl, hyp⟩
theorem enumOne_begins {pr : Program} {wd : World} {Ar : Around} {Er : Value → Shared → Prop} {st : Shared} {x : Value} {io : Obj} {Hh : Heap → Prop} {Q : Value → Shared → Prop} (Bg : Begins x io Hh) (hb : Hh st.heap)
    (h : ∀ h2, IsEnum h2 (st.heap.objs.size + 1) st.heap.objs.size 0 .none → h2.get? st.heap.objs.size = some io → (∀ c oc, st.heap.get? c = some oc → h2.get? c = some oc) → Q (.ref (st.heap.objs.size + 1)) { st with heap := h2 }) :
    wpAny (model pr wd) Ar (call (.type "enumerate") [x]) Q Er st := by
  refine callType_new F.called_enumerate (by decide) (F.typeCall_enumerate_1 _) (F.newCall_enumerate_1 _) (fun ob => F.args_object_init_2 ob _) F.entry_enumerate_new (newEnumOne Bg) ⟨hb, ?_⟩
  have size1 : (st.heap.push io).objs.size = st.heap.objs.size + 1 := Heap.size_push ..
  show _ ∧ _
  rw [size1]
  have isE : IsEnum ((st.heap.push io).push { cls := .type "enumerate", data := .fields #[.none, .bool false, .ref st.heap.objs.size, rawInt 0, .none, .none] }) (st.heap.objs.size + 1) st.heap.objs.size 0 .none := by
    have z := Heap.get?_push_size (st.heap.push io) (o := { cls := .type "enumerate", data := .fields #[.none, .bool false, .ref st.heap.objs.size, rawInt 0, .none, .none] }) rfl
    rw [size1] at z
    exact z
  exact ⟨⟨_, isE, rfl⟩, h _ isE (Heap.get?_push_of_some _ (Heap.get?_push_size _ Bg.free)) fun c oc e => Heap.get?_push_of_some _ (Heap.get?_push_of_some _ e)⟩
end PySem
namespace WT
open PySem PySem.Spec PyProof.Rows L2
/-- the tuple at a, each item in a new pair with its number -/
def IteT (K : PySem.W.Frag) (a : Addr) : It where
  go i H := ∃ (xs : List V) (x : V), SqT K H a xs ∧ xs[i]? = some x
  yld i H v H' := ∃ T x, v = .ref T ∧ H T = none ∧ H' = upd H T (.tup [.int (i : Nat), x]) ∧ ∀ xs, SqT K H a xs → xs[i]? = some x
  stop i H := ∃ xs : List V, SqT K H a xs ∧ i = xs.length
theorem turn_enumT {P : Program} {w : World} {K : PySem.W.Frag} {ets : List Expr} {q : Nat} {tp : Pos} (a e it : Addr) :
    Turn P w K (.Tuple ets q tp) (IteT K a) [e, it] e (fun i h => ((∃ old, IsEnum h e it ((i : Nat) : Int) old) ∧ h.IsTupleIter it a i) ∧ e ≠ it ∧ a ≠ it ∧ a ≠ e) where
  mem := List.mem_cons_self
  obj := fun i h st b hb => by
    obtain ⟨⟨⟨old, he⟩, ⟨o, ho, hc, hd⟩⟩, _⟩ := st
    rcases List.mem_cons.mp hb with rfl | hb
    · exact ⟨_, he, fun v z => nomatch z⟩
    · rw [List.mem_singleton.mp hb]
      exact ⟨o, ho, fun v z => by rw [hd] at z; cases z⟩
  keep := fun i h h' st k => ⟨⟨⟨st.1.1.choose, k e List.mem_cons_self _ st.1.1.choose_spec⟩, st.1.2.at fun o z => k it (by simp) o z⟩, st.2⟩
  item := by
    intro X hP hw hK hc i pins s σ H E I hf st hg
    subst hP hw hK
    obtain ⟨⟨⟨old, he⟩, hit⟩, hne, hai, hae⟩ := st
    obtain ⟨xs, x, hq, hx⟩ := hg
    obtain ⟨its, rv, p, hz⟩ := I.tuple hq
    obtain ⟨u, hu, ru⟩ := rv.get hx
    have le : e < s.heap.objs.size := Heap.lt_size he
    have li : it < s.heap.objs.size := by
      obtain ⟨_, z, _⟩ := hit
      exact Heap.lt_size z
    have hp : s.heap.IsTuple a its.toArray := p
    have hlt : i < its.toArray.size := by
      have := (List.getElem?_eq_some_iff.mp hu).1
      simpa using this
    refine wpAny_pyNext_enum_itemD (Draws.tuple (A := X.A.in1) (show X.A.in1.handled = none from I.ok.hd hc) it a hai its.toArray) he ⟨hit, hp⟩ hlt hne (by simp only [List.mem_cons, List.not_mem_nil, or_false, not_or]; exact ⟨hne, Ne.symm hae⟩) fun y h' tk hy ho hst' hT hsz hk => ?_
    have ey : y = u := by
      have h1 : its.toArray[i]? = some y := hy
      have h2 : its.toArray[i]? = some u := by simpa using hu
      rw [h1] at h2
      exact Option.some.inj h2
    subst ey
    refine ⟨_, rfl, wpAny_letOwnedTupleGo_enum (s := { s with heap := h', toks := tk + 1 }) ho fun h2 he2 sb => ?_⟩
    have hT2 : h2.get? s.heap.objs.size = some { cls := .type "tuple", data := .seq #[.int i tk, y] } := (sb.2 _ (Nat.ne_of_gt le)).trans hT
    have nw : ObjOk X.prog X.w (upd H s.heap.objs.size (.tup [.int (i : Nat), x])) h2 s.heap.objs.size (.tup [.int (i : Nat), x]) :=
      ⟨by show 2 ≤ sizeLine; decide, [.int i tk, y], .cons ⟨_, rfl⟩ (.cons ru .nil), ⟨_, hT2, rfl, _, rfl⟩⟩
    have I1 : Inv X pins σ (upd H s.heap.objs.size (.tup [.int (i : Nat), x])) { s with heap := h2, toks := tk + 1 } :=
      I.turnedNew (ch := [e, it]) (fun b ob hb z => (sb.2 b fun y => hb (by simp [y])).trans (hk b ob (fun y => hb (by simp [y])) (fun y => hb (by simp [y])) z)) hf (Nat.le_refl _) nw
    refine ⟨.ref s.heap.objs.size, _, I1, rfl, ⟨_, x, rfl, I.hok.fresh (Nat.le_refl _), rfl, fun ys hy => by rw [I.tuple_inj hy hq]; exact hx⟩, ⟨⟨⟨y, ?_⟩, hst'.1.at fun o z => (sb.2 it (Ne.symm hne)).trans z⟩, hne, hai, hae⟩, fun b hb => ?_⟩
    · rw [show ((i + 1 : Nat) : Int) = (i : Int) + 1 by omega]
      exact he2
    · have hlb : b < s.heap.objs.size := by
        rcases List.mem_cons.mp hb with rfl | hb
        · exact le
        · rw [List.mem_singleton.mp hb]
          exact li
      rw [upd_ne (Nat.ne_of_lt hlb)]
      exact (hf b hb).1
  done := by
    intro X hP hw hK hc i pins s σ H E I hf st hg
    subst hP hw hK
    obtain ⟨⟨⟨old, he⟩, hit⟩, hne, hai, hae⟩ := st
    obtain ⟨xs, hq, rfl⟩ := hg
    obtain ⟨its, rv, p, hz⟩ := I.tuple hq
    obtain ⟨f0, f1, f2, f3, f4, f5⟩ := hf it (by simp)
    have hp : s.heap.IsTuple a its.toArray := p
    have hl : xs.length = its.toArray.size := by
      have := rv.length
      simp
      omega
    exact wpAny_pyNext_enum_endD (Draws.tuple (A := X.A.in1) (show X.A.in1.handled = none from I.ok.hd hc) it a hai its.toArray) he ⟨hl ▸ hit, hp⟩ fun h' eb => ⟨rfl, I.turned (t' := s.toks) (fun b o hb z => eb b o hb z) f0 f1 f3 f4 f5⟩
  self := fun A i s Q E st h => wpAny_pyIter_enum st.1.1.choose_spec h
def iEnumT (K : PySem.W.Frag) (ta : TA) : TI := fun σ H R => ta σ H fun vs H1 => ∃ a xs, vs = [.ref a] ∧ SqT K H1 a xs ∧ R (IteT K a) H1
theorem pi_enumT {X : Cx} {e : Expr} {ta : TA} {p pos tp : Pos} {ets : List Expr} {q : Nat} (hg : Gl X "enumerate") (hm : X.mg "enumerate" = none) (ha : PA X [e] ta) (hs : starEach [e] X.env = [(false, eval e X.env)] := by rfl) :
    PI X (.Tuple ets q tp) (.Call (.Name "enumerate" p) [e] [] pos) (iEnumT X.K ta) := by
  refine ⟨fun pins s σ H R I h => Call_ (ld_blt I hg hm boot_enumerate (PyProof.Rows.callWith_type1 (thn (ha.run pos pins s σ H _ I h) fun us s1 ⟨vs, H1, I1, r1, q1⟩ => ?_) hs rfl))⟩
  obtain ⟨a, xs, rfl, hq, q⟩ := q1
  obtain ⟨its, rv, p', hz⟩ := I1.tuple hq
  have hp : s1.heap.IsTuple a its.toArray := p'
  cases r1 with
  | cons r rr =>
    cases rr
    cases r
    refine enumOne_begins (begins_tuple a its.toArray) hp fun h2 he hit hk => wpAny_pyIter_enum he ?_
    have la : a < s1.heap.objs.size := by
      obtain ⟨_, z, _⟩ := hp
      exact Heap.lt_size z
    refine ⟨s1.heap.objs.size + 1, [s1.heap.objs.size + 1, s1.heap.objs.size], _, _, H1, rfl, I1.kept (t' := s1.toks) hk, turn_enumT a (s1.heap.objs.size + 1) s1.heap.objs.size, ⟨⟨⟨.none, he⟩, _, hit, rfl, rfl⟩, Nat.succ_ne_self _, Nat.ne_of_lt la, Nat.ne_of_lt (Nat.lt_succ_of_lt la)⟩, fun b hb => ?_, q⟩
    have hle : s1.heap.objs.size ≤ b := by
      rcases List.mem_cons.mp hb with rfl | hb
      · exact Nat.le_succ _
      · rw [List.mem_singleton.mp hb]
        exact Nat.le_refl _
    exact I1.fpOk hle (I1.hok.fresh hle)
/-- a tuple of targets, within a comprehension -/
theorem pg_tupK {X : Cx} {K : PySem.W.Frag} {es : List Expr} {q : Nat} {t : TGs} {n : Nat} {pos : Pos} (hc : X.calm = true) (h : PGs X es t) (hn : (assignEach es X.env).length = n := by rfl) (hst : (assignEach es X.env).findIdx? (·.1) = none := by rfl) (hK : X.K = K := by rfl) :
    PG X (.Tuple es q pos) (gTup K n t) := by
  subst hK
  exact pg_tup hc h hn hst
theorem walk_enumT {K : PySem.W.Frag} {a : Addr} {xs : List V} : Walk (IteT K a) xs.length (fun H => SqT K H a xs) (YPair (fun i => some (.int (i : Nat))) (fun i => xs[i]?)) where
  goes i _ hi h := ⟨xs, xs[i], h, by simp [hi]⟩
  stops _ h := ⟨xs, h, rfl⟩
  yields i H v H' _ h y := by
    obtain ⟨T, x, h1, h2, h3, h4⟩ := y
    exact ⟨T, .int (i : Nat), x, h1, h2, h3, rfl, h4 xs h⟩
end WT

set_option Elab.async false
set_option linter.all false
namespace WT
open PySem PySem.Spec PyProof.Rows L2
/-! ### groups by labels: the mathematics -/
def labK (rs : List Str) (lab : Str → Int) : List (Key × V) := rs.map fun x => (Sum.inr x, V.int (lab x))
theorem keys_labK (rs : List Str) (lab : Str → Int) : (labK rs lab).map (·.1) = rs.map Sum.inr := by
  unfold labK
  rw [List.map_map]
  rfl
theorem val_labK {x : Str} {lab : Str → Int} : ∀ {rs : List Str}, x ∈ rs → valV (labK rs lab) (Sum.inr x) = some (.int (lab x))
  | r :: rs, h => by
    by_cases e : r = x
    · subst e
      exact valV_pos (p := (Sum.inr r, V.int (lab r))) rfl
    · have ne : ¬ (Sum.inr r : Key) = Sum.inr x := fun z => e (Sum.inr.inj z)
      have := val_labK (lab := lab) (rs := rs) ((List.mem_cons.mp h).resolve_left fun z => e z.symm)
      exact (valV_neg (p := (Sum.inr r, V.int (lab r))) ne).trans this
theorem put_labK {x : Str} {lab : Str → Int} {c : Int} {rs : List Str} (h : x ∈ rs) : putK (labK rs lab) (Sum.inr x) (.int c) = labK rs (fun z => if z = x then c else lab z) := by
  unfold putK
  rw [if_pos]
  · unfold labK
    rw [List.map_map]
    refine List.map_congr_left fun z _ => ?_
    show (if (Sum.inr z : Key) = Sum.inr x then ((Sum.inr z : Key), V.int c) else (Sum.inr z, V.int (lab z))) = (Sum.inr z, V.int (if z = x then c else lab z))
    by_cases e : z = x
    · rw [if_pos (congrArg Sum.inr e), if_pos e]
    · rw [if_neg (fun q => e (Sum.inr.inj q)), if_neg e]
  · refine List.any_eq_true.mpr ⟨(Sum.inr x, V.int (lab x)), List.mem_map.mpr ⟨x, h, rfl⟩, ?_⟩
    simp
theorem merge_labK {lab : Str → Int} : ∀ (bs as : List Str), (as ++ bs).Nodup → mergeK (labK as lab) (labK bs lab) = labK (as ++ bs) lab
  | [], as, _ => by
    rw [List.append_nil]
    rfl
  | b :: bs, as, h => by
    have h2 : (as ++ [b] ++ bs).Nodup := by
      rw [List.append_assoc]
      exact h
    have nb : b ∉ as := fun z => (List.nodup_append.mp h).2.2 b z b List.mem_cons_self rfl
    have e : putK (labK as lab) (Sum.inr b) (.int (lab b)) = labK (as ++ [b]) lab := by
      rw [putK_new _ (valV_none fun z => ?_)]
      · unfold labK
        rw [List.map_append]
        rfl
      · rw [keys_labK] at z
        obtain ⟨y, hy, q⟩ := List.mem_map.mp z
        cases q
        exact nb hy
    have := merge_labK (lab := lab) bs (as ++ [b]) h2
    rw [List.append_assoc] at this
    rw [← e] at this
    exact this
/-- the place of x -/
def idxS : List Str → Str → Int
  | [], _ => 0
  | y :: r, x => if y = x then 0 else 1 + idxS r x
theorem idxS_at : ∀ {rs : List Str} {i : Nat} {x : Str}, rs.Nodup → rs[i]? = some x → idxS rs x = i
  | [], _, _, _, h => by simp at h
  | y :: r, 0, x, _, h => by
    cases h
    simp [idxS]
  | y :: r, i + 1, x, n, h => by
    have h : r[i]? = some x := h
    have ne : y ≠ x := fun e => (List.nodup_cons.mp n).1 (e ▸ List.mem_of_getElem? h)
    rw [idxS, if_neg ne, idxS_at (List.nodup_cons.mp n).2 h]
    omega
/-- at most t steps from y -/
def ConnN (gs : List Gt) (bar : List Str) (y : Str) : Nat → Str → Prop
  | 0, x => x = y
  | t + 1, x => ∃ u, ConnN gs bar y t u ∧ (u = x ∨ Adj gs bar u x)
section
variable {gs : List Gt} {bar rs : List Str}
theorem ConnN.more {y x : Str} {t : Nat} (h : ConnN gs bar y t x) : ConnN gs bar y (t + 1) x := ⟨x, h, .inl rfl⟩
theorem ConnN.mem (hm : ∀ g ∈ gs, ∀ z ∈ g.2.1, z ∈ rs) {y : Str} (hy : y ∈ rs) : ∀ {t : Nat} {x : Str}, ConnN gs bar y t x → x ∈ rs
  | 0, x, h => by
    rw [show x = y from h]
    exact hy
  | t + 1, x, h => by
    obtain ⟨u, hu, e | a⟩ := h
    · rw [← e]
      exact hu.mem hm hy
    · obtain ⟨g, hg, _, _, hx⟩ := a
      exact hm g hg x hx
theorem connN_or (hm : ∀ g ∈ gs, ∀ z ∈ g.2.1, z ∈ rs) {y : Str} (hy : y ∈ rs) : ∀ t : Nat, (∃ ks : List Str, ks.Nodup ∧ ks.length = t + 1 ∧ ∀ k ∈ ks, ConnN gs bar y t k) ∨ ∀ x, ConnN gs bar y t x → ∀ z, Adj gs bar x z → ConnN gs bar y t z
  | 0 => .inl ⟨[y], by simp, rfl, fun k hk => List.mem_singleton.mp hk⟩
  | t + 1 => by
    rcases connN_or hm hy t with ⟨ks, h1, h2, h3⟩ | h
    · by_cases c : ∀ x, ConnN gs bar y (t + 1) x → ∀ z, Adj gs bar x z → ConnN gs bar y (t + 1) z
      · exact .inr c
      · obtain ⟨x, c⟩ := Classical.not_forall.mp c
        obtain ⟨hx, c⟩ := Classical.not_imp.mp c
        obtain ⟨z, c⟩ := Classical.not_forall.mp c
        obtain ⟨a, nz⟩ := Classical.not_imp.mp c
        refine .inl ⟨x :: ks, List.nodup_cons.mpr ⟨fun hk => nz ⟨x, h3 x hk, .inr a⟩, h1⟩, by rw [List.length_cons, h2], fun k hk => ?_⟩
        rcases List.mem_cons.mp hk with rfl | hk
        · exact hx
        · exact (h3 k hk).more
    · refine .inr fun x hx z a => ?_
      obtain ⟨u, hu, e | b⟩ := hx
      · subst e
        exact (h u hu z a).more
      · exact (h x (h u hu x b) z a).more
theorem connN_all (hm : ∀ g ∈ gs, ∀ z ∈ g.2.1, z ∈ rs) {y x : Str} (hy : y ∈ rs) (h : Conn gs bar y x) : ConnN gs bar y rs.length x := by
  have up : ∀ t, ConnN gs bar y t y := fun t => by
    induction t with
    | zero => rfl
    | succ t ih => exact ih.more
  rcases connN_or (bar := bar) hm hy rs.length with ⟨ks, h1, h2, h3⟩ | c
  · have := nodup_le h1 fun k hk => (h3 k hk).mem hm hy
    omega
  · induction h with
    | refl => exact up _
    | step _ a ih => exact c _ ih _ a
/-- each label is the place of a connected region -/
def Lab (gs : List Gt) (bar rs : List Str) (lab : Str → Int) : Prop := ∀ x ∈ rs, ∃ (i : Nat) (y : Str), rs[i]? = some y ∧ lab x = (i : Int) ∧ Conn gs bar x y
theorem Lab.conn {lab : Str → Int} (L : Lab gs bar rs lab) {x y : Str} (hx : x ∈ rs) (hy : y ∈ rs) (e : lab x = lab y) : Conn gs bar x y := by
  obtain ⟨i, u, h1, h2, h3⟩ := L x hx
  obtain ⟨j, v, k1, k2, k3⟩ := L y hy
  have : i = j := by omega
  subst this
  rw [h1] at k1
  cases k1
  exact h3.trans k3.symm
theorem lab_first (nd : rs.Nodup) : Lab gs bar rs (idxS rs) := fun x hx => by
  obtain ⟨i, hi, e⟩ := List.getElem_of_mem hx
  have : rs[i]? = some x := by rw [List.getElem?_eq_getElem hi, e]
  exact ⟨i, x, this, idxS_at nd this, .refl⟩
/-- what t steps reach is not below -/
def LowL (gs : List Gt) (bar rs : List Str) (t : Nat) (lab : Str → Int) : Prop := ∀ x ∈ rs, ∀ (i : Nat) (y : Str), rs[i]? = some y → ConnN gs bar y t x → lab x ≤ (i : Int)
theorem low_first (nd : rs.Nodup) : LowL gs bar rs 0 (idxS rs) := fun x hx i y hy h => by
  have e : x = y := h
  subst e
  rw [idxS_at nd hy]
  exact Int.le_refl _
/-- within one gateway -/
structure Mid (gs : List Gt) (bar rs ms : List Str) (lab0 : Str → Int) (least : Int) (i : Nat) (lab : Str → Int) : Prop where
  lb : Lab gs bar rs lab
  le : ∀ x ∈ rs, lab x ≤ lab0 x
  low : ∀ m ∈ ms, least ≤ lab m
  dn : ∀ m ∈ ms, m ∈ rs.take i → lab m ≤ least
theorem Mid.hit {ms : List Str} {lab0 lab : Str → Int} {least : Int} {i : Nat} {g : Gt} (M : Mid gs bar rs ms lab0 least i lab) (hm : ∀ m ∈ ms, m ∈ rs) (hg : g ∈ gs) (hb : g.1 ∉ bar) (em : g.2.1 = ms) (L0 : Lab gs bar rs lab0) {m0 : Str} (h0 : m0 ∈ ms) (e0 : least = lab0 m0)
    {x : Str} (hx : rs[i]? = some x) {o : Str} (ho : o ∈ ms) (e : lab x = lab o) : Mid gs bar rs ms lab0 least (i + 1) (fun z => if z = x then least else lab z) := by
  have xr : x ∈ rs := List.mem_of_getElem? hx
  have con : Conn gs bar x m0 := (M.lb.conn xr (hm o ho) e).step ⟨g, hg, hb, em ▸ ho, em ▸ h0⟩
  refine ⟨fun z hz => ?_, fun z hz => ?_, fun m hm' => ?_, fun m hm' ht => ?_⟩
  · show ∃ (i : Nat) (y : Str), rs[i]? = some y ∧ (if z = x then least else lab z) = (i : Int) ∧ Conn gs bar z y
    by_cases c : z = x
    · rw [if_pos c, c, e0]
      obtain ⟨j, y, h1, h2, h3⟩ := L0 m0 (hm m0 h0)
      exact ⟨j, y, h1, h2, con.trans h3⟩
    · rw [if_neg c]
      exact M.lb z hz
  · show (if z = x then least else lab z) ≤ lab0 z
    by_cases c : z = x
    · rw [if_pos c, c]
      exact Int.le_trans (M.low o ho) (e ▸ M.le x xr)
    · rw [if_neg c]
      exact M.le z hz
  · show least ≤ (if m = x then least else lab m)
    by_cases c : m = x
    · rw [if_pos c]
      exact Int.le_refl _
    · rw [if_neg c]
      exact M.low m hm'
  · show (if m = x then least else lab m) ≤ least
    by_cases c : m = x
    · rw [if_pos c]
      exact Int.le_refl _
    · rw [if_neg c]
      rw [List.take_add_one, hx] at ht
      rcases List.mem_append.mp ht with ht | ht
      · exact M.dn m hm' ht
      · exact absurd (by simpa using ht) c
theorem Mid.miss {ms : List Str} {lab0 lab : Str → Int} {least : Int} {i : Nat} (M : Mid gs bar rs ms lab0 least i lab) {x : Str} (hx : rs[i]? = some x) (no : x ∉ ms) : Mid gs bar rs ms lab0 least (i + 1) lab :=
  ⟨M.lb, M.le, M.low, fun m hm ht => by
    rw [List.take_add_one, hx] at ht
    rcases List.mem_append.mp ht with ht | ht
    · exact M.dn m hm ht
    · have : m = x := by simpa using ht
      exact absurd (this ▸ hm) no⟩
/-- within one turn -/
structure Pass (gs : List Gt) (bar rs : List Str) (labT : Str → Int) (j : Nat) (lab : Str → Int) : Prop where
  lb : Lab gs bar rs lab
  le : ∀ x ∈ rs, lab x ≤ labT x
  ad : ∀ g ∈ gs.take j, g.1 ∉ bar → ∀ u ∈ g.2.1, ∀ v ∈ g.2.1, lab v ≤ labT u
theorem pass_first {labT : Str → Int} (L : Lab gs bar rs labT) : Pass gs bar rs labT 0 labT := ⟨L, fun _ _ => Int.le_refl _, fun g hg => nomatch hg⟩
theorem Pass.skip {labT lab : Str → Int} {j : Nat} {g : Gt} (P : Pass gs bar rs labT j lab) (hg : gs[j]? = some g) (hb : g.1 ∈ bar) : Pass gs bar rs labT (j + 1) lab :=
  ⟨P.lb, P.le, fun g' h' nb => by
    rw [List.take_add_one, hg] at h'
    rcases List.mem_append.mp h' with h' | h'
    · exact P.ad g' h' nb
    · have : g' = g := by simpa using h'
      exact absurd (this ▸ hb) nb⟩
theorem Pass.take {labT lab lab2 : Str → Int} {least : Int} {j : Nat} {g : Gt} (P : Pass gs bar rs labT j lab) (hm : ∀ g ∈ gs, ∀ z ∈ g.2.1, z ∈ rs) (hg : gs[j]? = some g) (hl : ∀ m ∈ g.2.1, least ≤ lab m) (M : Mid gs bar rs g.2.1 lab least rs.length lab2) : Pass gs bar rs labT (j + 1) lab2 :=
  ⟨M.lb, fun x hx => Int.le_trans (M.le x hx) (P.le x hx), fun g' h' nb u hu v hv => by
    rw [List.take_add_one, hg] at h'
    rcases List.mem_append.mp h' with h' | h'
    · exact Int.le_trans (M.le v (hm g' (List.mem_of_mem_take h') v hv)) (P.ad g' h' nb u hu v hv)
    · have : g' = g := by simpa using h'
      subst this
      have gm : g' ∈ gs := List.mem_of_getElem? hg
      have := M.dn v hv (by rw [List.take_length]; exact hm g' gm v hv)
      exact Int.le_trans this (Int.le_trans (hl u hu) (P.le u (hm g' gm u hu)))⟩
theorem Pass.low {labT lab : Str → Int} {t : Nat} (P : Pass gs bar rs labT gs.length lab) (hm : ∀ g ∈ gs, ∀ z ∈ g.2.1, z ∈ rs) (L : LowL gs bar rs t labT) : LowL gs bar rs (t + 1) lab := fun x hx i y hy h => by
  obtain ⟨u, hu, e | a⟩ := h
  · subst e
    exact Int.le_trans (P.le u hx) (L u hx i y hy hu)
  · obtain ⟨g, hg, nb, h1, h2⟩ := a
    exact Int.le_trans (P.ad g (by rw [List.take_length]; exact hg) nb u h1 x h2) (L u (hm g hg u h1) i y hy hu)
theorem lab_iff {lab : Str → Int} (hm : ∀ g ∈ gs, ∀ z ∈ g.2.1, z ∈ rs) (L : Lab gs bar rs lab) (W : LowL gs bar rs rs.length lab) {x y : Str} (hx : x ∈ rs) (hy : y ∈ rs) : lab x = lab y ↔ Conn gs bar x y := by
  refine ⟨L.conn hx hy, fun c => ?_⟩
  obtain ⟨i, u, h1, h2, h3⟩ := L x hx
  obtain ⟨j, v, k1, k2, k3⟩ := L y hy
  have a := W x hx j v k1 (connN_all hm (List.mem_of_getElem? k1) (k3.symm.trans c.symm))
  have b := W y hy i u h1 (connN_all hm (List.mem_of_getElem? h1) (h3.symm.trans c))
  omega
end
end WT

set_option Elab.async false
set_option linter.all false
set_option maxRecDepth 100000
set_option maxHeartbeats 4000000
namespace K09
open PySem PySem.Spec PyProof.Rows L2 WT
def top (i : Nat) : Stmt := PySem.Challenge.pw_wraptrails_k09_connected_regions.main.body.getD i (.Pass ⟨0, 0, 0, 0⟩)
/-- the built-ins are still the built-ins -/
structure Blt (mg : Str → Option Value) : Prop where
  len : mg "len" = none
  abs : mg "abs" = none
  int : mg "int" = none
  range : mg "range" = none
  list : mg "list" = none
  tuple : mg "tuple" = none
  sorted : mg "sorted" = none
  min : mg "min" = none
  max : mg "max" = none
  all : mg "all" = none
  repr : mg "repr" = none
  dict : mg "dict" = none
  enumerate : mg "enumerate" = none
abbrev st_hand : Stmt := top 5
theorem sc_hand : FnScope ["_law_script", "_law_k", "_law_cell", "_law_great"] ["_law_script", "_law_k"] (defScope st_hand) := ⟨rfl, rfl, rfl, by decide +kernel, rfl, by decide +kernel, by decide +kernel⟩
abbrev st_take : Stmt := top 6
theorem sc_take : FnScope ["_law_hand_here", "_law_many", "_law_digit", "_law_prime", "_law_drawn"] ["_law_hand_here", "_law_many"] (defScope st_take) := ⟨rfl, rfl, rfl, by decide +kernel, rfl, by decide +kernel, by decide +kernel⟩
abbrev st_of : Stmt := top 7
theorem sc_of : FnScope ["_law_hand_here", "_law_some"] ["_law_hand_here", "_law_some"] (defScope st_of) := ⟨rfl, rfl, rfl, by decide +kernel, rfl, by decide +kernel, by decide +kernel⟩
abbrev st_mixed : Stmt := top 8
theorem sc_mixed : FnScope ["_law_hand_here", "_law_some", "_law_left", "_law_found"] ["_law_hand_here", "_law_some"] (defScope st_mixed) := ⟨rfl, rfl, rfl, by decide +kernel, rfl, by decide +kernel, by decide +kernel⟩
def spTake : Sp := fun vs H Q _ => ∃ (a : Addr) (b : Nat) (n : Int), vs = [.ref a, .int n] ∧ PotAt H a b ∧ b ≤ 100000 ∧ 0 < n ∧ n < 1073741824 ∧
  ∀ H' r, But a H H' → PotAt H' a (b + 1) → 0 ≤ r → r < n → Q (.int r) H'
theorem sq_le {x : Int} (h0 : 0 ≤ x) (h1 : x ≤ 100001) : 0 ≤ 7919 * x * x ∧ 7919 * x * x ≤ 700000000000000 := by
  have h2 : 0 ≤ x * x := Int.mul_nonneg h0 h0
  have h3 : x * x ≤ 100001 * 100001 := Int.mul_le_mul h1 h1 h0 (by decide)
  have e : 7919 * x * x = 7919 * (x * x) := Int.mul_assoc _ _ _
  rw [e]
  omega
section
variable {P : Program} {w : World} {K : PySem.W.Frag} {mg : Str → Option Value} {base : Heap} {f : Addr} {fd : FuncData}
theorem ok_take (F : Fun K "_law_take" "_law_take" st_take f fd) : FnG P w K mg base CX0 1 f fd ["_law_hand_here", "_law_many"] spTake := by
  refine okG F sc_take (fun vs H Q E h => ?_) (fun cdv A outer s H vs Q E hgd hr h => ?_)
  · obtain ⟨_, _, _, rfl, _⟩ := h
    rfl
  · obtain ⟨a, b, n, rfl, ⟨p0, p1, p2, ha, hp⟩, hb, hn, hn2, q⟩ := h
    refine ⟨_, (pss_cons (ps_if (pt_cmpR op_gt (pe_ix ix_list (pv 0) pe_int (fun _ _ => rfl)) pe_int (nomark _))
       (pss_cons (ps_set (i := 2) sc_take.nd rfl (.inl rfl) (pe_op op_mod (pe_ix ix_list (pv 0) pe_int (fun _ _ => rfl)) (pv 1)))
       (pss_cons (ps_asg (pe_op op_fdiv (pe_ix ix_list (pv 0) pe_int (fun _ _ => rfl)) (pv 1)) (pg_sub (pv 0) pe_int set_list))
       (pss_one (ps_ret (pv 2)))))
       pss_nil)
      (pss_cons (ps_asg (pe_op op_add (pe_ix ix_list (pv 0) pe_int (fun _ _ => rfl)) pe_int) (pg_sub (pv 0) pe_int set_list))
      (pss_cons (ps_set (i := 3) sc_take.nd rfl (.inl rfl) (pe_ix ix_list (pe_lst (pa_cons pe_int (pa_cons pe_int (pa_cons pe_int (pa_cons pe_int (pa_cons pe_int (pa_cons pe_int (pa_cons pe_int pa_nil)))))))) (pe_op op_mod (pe_ix ix_list (pv 0) pe_int (fun _ _ => rfl)) pe_int) (fun _ _ => rfl)))
      (pss_cons (ps_set (i := 4) sc_take.nd rfl (.inl rfl) (pe_op op_mod (pe_op op_pow (pe_op op_add (pe_op op_add (pe_ix ix_list (pv 0) pe_int (fun _ _ => rfl)) (pe_op op_mul (pe_op op_mul pe_int (pe_ix ix_list (pv 0) pe_int (fun _ _ => rfl))) (pe_ix ix_list (pv 0) pe_int (fun _ _ => rfl)))) pe_int) pe_int) (pv 3)))
      (pss_one (ps_ret (pe_op op_mod (pe_op op_fdiv (pe_op op_mod (pe_op op_mul (pv 4) (pe_op op_add (pe_op op_mod (pv 4) pe_int) (pe_op op_mul pe_int (pe_ix ix_list (pv 0) pe_int (fun _ _ => rfl))))) pe_int) pe_int) (pv 1)))))))), ?_⟩
    have hs : SqL K H a [.int p0, .int p1, .int p2] := SqL.of ha
    refine ⟨_, rfl, a, _, 0, .int p0, rfl, rfl, hs, atI_nat (j := 0) rfl, p0, 0, rfl, rfl, _, rfl, ite2 (fun e => ?_) fun e => ?_⟩
    · have e0 : 0 < p0 := of_decide_eq_true e
      refine ⟨_, rfl, a, _, 0, .int p0, rfl, rfl, hs, atI_nat (j := 0) rfl, _, rfl, p0, n, rfl, rfl, hn, ?_⟩
      refine ⟨_, rfl, a, _, 0, .int p0, rfl, rfl, hs, atI_nat (j := 0) rfl, _, rfl, p0, n, rfl, rfl, ⟨hn, hn2⟩, _, rfl, a, _, 0, 0, rfl, rfl, ha, rfl, ?_⟩
      refine ⟨_, rfl, ?_⟩
      refine q _ (p0 % n) But.upd ⟨p0 / n, p1, p2, upd_same, ?_⟩ (Int.emod_nonneg _ (by omega)) (Int.emod_lt_of_pos _ hn)
      unfold Pot at hp ⊢
      have := Int.ediv_nonneg hp.1 (Int.le_of_lt hn)
      omega
    · have e0 : ¬ 0 < p0 := fun z => e (decide_eq_true z)
      obtain ⟨h0, h1, h2, h3, h4⟩ := hp
      have sq := sq_le (x := p2 + 1) (by omega) (by omega)
      refine ⟨_, rfl, a, _, 2, .int p2, rfl, rfl, hs, atI_nat (j := 2) rfl, p2, 1, rfl, rfl, _, rfl, a, _, 2, 2, rfl, rfl, ha, rfl, ?_⟩
      have ha1 : (upd H a (.lst [.int p0, .int p1, .int (p2 + 1)])) a = some (.lst [.int p0, .int p1, .int (p2 + 1)]) := upd_same
      refine ⟨(by show 7 ≤ sizeLine; decide), fun l nl => ?_⟩
      have nla : a ≠ l := ne_of_none ha1 nl
      have ha2 := same_new nl (o := .lst [.int 2147483647, .int 2147483629, .int 2147483587, .int 2147483579, .int 2147483563, .int 2147483549, .int 2147483543]) _ _ ha1
      have hs2 : SqL K _ a [.int p0, .int p1, .int (p2 + 1)] := SqL.of ha2
      obtain ⟨pr, hpr, hpr0, hpr1⟩ : ∃ pr : Int, atI [V.int 2147483647, .int 2147483629, .int 2147483587, .int 2147483579, .int 2147483563, .int 2147483549, .int 2147483543] ((p2 + 1) % 7) = some (.int pr) ∧ 0 < pr ∧ pr < 2147483648 := by
        have m0 := Int.emod_nonneg (p2 + 1) (b := 7) (by decide)
        have m1 := Int.emod_lt_of_pos (p2 + 1) (b := 7) (by decide)
        generalize (p2 + 1) % 7 = m at m0 m1
        have : m = 0 ∨ m = 1 ∨ m = 2 ∨ m = 3 ∨ m = 4 ∨ m = 5 ∨ m = 6 := by omega
        rcases this with rfl | rfl | rfl | rfl | rfl | rfl | rfl
        · exact ⟨2147483647, rfl, by decide, by decide⟩
        · exact ⟨2147483629, rfl, by decide, by decide⟩
        · exact ⟨2147483587, rfl, by decide, by decide⟩
        · exact ⟨2147483579, rfl, by decide, by decide⟩
        · exact ⟨2147483563, rfl, by decide, by decide⟩
        · exact ⟨2147483549, rfl, by decide, by decide⟩
        · exact ⟨2147483543, rfl, by decide, by decide⟩
      refine ⟨_, rfl, a, _, 2, .int (p2 + 1), rfl, rfl, hs2, atI_nat (j := 2) rfl, p2 + 1, 7, rfl, rfl, (show (0 : Int) < 7 by decide), l, _, (p2 + 1) % 7, .int pr, rfl, rfl, SqL.of upd_same, hpr, ?_⟩
      refine ⟨_, rfl, a, _, 1, .int p1, rfl, rfl, hs2, atI_nat (j := 1) rfl, _, rfl, a, _, 2, .int (p2 + 1), rfl, rfl, hs2, atI_nat (j := 2) rfl, 7919, p2 + 1, rfl, rfl, .inl ⟨by decide, by decide⟩,
        _, rfl, a, _, 2, .int (p2 + 1), rfl, rfl, hs2, atI_nat (j := 2) rfl, 7919 * (p2 + 1), p2 + 1, rfl, rfl, .inr ⟨by omega, by omega⟩, p1, 7919 * (p2 + 1) * (p2 + 1), rfl, rfl, p1 + 7919 * (p2 + 1) * (p2 + 1), 31, rfl, rfl,
        p1 + 7919 * (p2 + 1) * (p2 + 1) + 31, 3, rfl, rfl, ⟨by decide, by decide, by omega⟩, _, rfl, _, pr, rfl, rfl, hpr0, ?_⟩
      obtain ⟨mx, hmx⟩ : ∃ mx : Int, (p1 + 7919 * (p2 + 1) * (p2 + 1) + 31) ^ (3 : Int).toNat % pr = mx := ⟨_, rfl⟩
      dsimp only
      rw [hmx]
      have x0 : 0 ≤ mx := by
        rw [← hmx]
        exact Int.emod_nonneg _ (by omega)
      have x1 : mx < pr := by
        rw [← hmx]
        exact Int.emod_lt_of_pos _ hpr0
      refine ⟨_, rfl, _, rfl, mx, 10007, rfl, rfl, (show (0 : Int) < 10007 by decide), _, rfl, a, _, 2, .int (p2 + 1), rfl, rfl, hs2, atI_nat (j := 2) rfl, 97, p2 + 1, rfl, rfl, .inl ⟨by decide, by decide⟩, mx % 10007, 97 * (p2 + 1), rfl, rfl,
        mx, mx % 10007 + 97 * (p2 + 1), rfl, rfl, .inl ⟨by omega, by omega⟩, _, 2305843009213693907, rfl, rfl, (show (0 : Int) < 2305843009213693907 by decide), _, 97, rfl, rfl, ⟨by decide, by decide⟩, _, rfl, _, n, rfl, rfl, hn, ?_⟩
      refine q _ _ (But.upd.trans (.of (same_new nl))) ⟨p0, p1, p2 + 1, ha2, ?_⟩ (Int.emod_nonneg _ (by omega)) (Int.emod_lt_of_pos _ hn)
      unfold Pot
      omega
/-- 10 ** 480 -/
def big : Int := ((10 : Int) ^ (60 : Int).toNat) ^ (8 : Int).toNat
theorem big_pos : (0 : Int) < big := by decide +kernel
theorem big8 : CPowW ((10 : Int) ^ (60 : Int).toNat) 8 := ⟨by decide, by decide +kernel⟩
def spHand (K : PySem.W.Frag) : Sp := fun vs H Q _ => ∃ (a : Addr) (ns : List Int) (k : Nat), vs = [.ref a, .int k] ∧ SqL K H a (ns.map V.int) ∧ ns.length ≤ 63 ∧ k ≤ 3 ∧
  ∀ H' p, Same H H' → H p = none → PotAt H' p 0 → Q (.ref p) H'
theorem ok_hand (F : Fun K "_law_hand" "_law_hand" st_hand f fd) (B : Blt mg) : FnG P w K mg base CX0 1 f fd ["_law_script", "_law_k"] (spHand K) := by
  refine okG F sc_hand (fun vs H Q E h => ?_) (fun cdv A outer s H vs Q E hgd hr h => ?_)
  · obtain ⟨_, _, _, rfl, _⟩ := h
    rfl
  · obtain ⟨a, ns, k, rfl, hs, hl, hk, q⟩ := h
    refine ⟨_, (pss_cons (ps_set (i := 2) sc_hand.nd rfl (.inl rfl) (pe_ifExp (pt_cmpR op_lt (pv 1) (pe_callB call_len (by rfl) B.len (by decide +kernel) (pa_cons (pv 0) pa_nil)) (nomark _)) (pe_ix ix_list (pv 0) (pv 1) (fun _ _ => rfl)) (pe_op op_add (pe_op op_mul pe_int (pv 1)) pe_int)))
      (pss_cons (ps_set (i := 3) sc_hand.nd rfl (.inl rfl) (pe_op op_mul (pe_op op_mod (pe_callB call_abs (by rfl) B.abs (by decide +kernel) (pa_cons (pv 2) pa_nil)) (pe_op op_powW (pe_op op_pow pe_int pe_int) pe_int)) (pe_callTy call_int1 (by rfl) B.int (by decide +kernel) (pa_cons (pe_cmpR op_ge (pe_callB call_abs (by rfl) B.abs (by decide +kernel) (pa_cons (pv 2) pa_nil)) (pe_op op_pow pe_int pe_int) (nomark _)) pa_nil))))
      (pss_one (ps_ret (pe_lst (pa_cons (pv 3) (pa_cons (pe_op op_mod (pe_op op_add (pe_op op_add (pe_op op_mul (pe_op op_mod (pv 2) pe_int) pe_int) (pe_op op_mul pe_int (pv 1))) pe_int) pe_int) (pa_cons pe_int pa_nil)))))))), ?_⟩
    refine ⟨_, rfl, _, rfl, _, ns.length, rfl, .inl ⟨_, hs, (List.length_map ..).symm⟩, (k : Int), (ns.length : Int), rfl, rfl, _, rfl, ite2 (fun e => ?_) fun e => ?_⟩
    · have e0 : (k : Int) < ns.length := of_decide_eq_true e
      have e1 : k < ns.length := by omega
      refine ⟨_, rfl, _, rfl, a, _, (k : Int), .int ns[k], rfl, rfl, hs, atI_nat (j := k) (by rw [List.getElem?_map, List.getElem?_eq_getElem e1]; rfl), ?_⟩
      obtain ⟨cell, hc⟩ : ∃ c : Int, ns[k] = c := ⟨_, rfl⟩
      rw [hc]
      have c0 : (0 : Int) ≤ if cell < 0 then -cell else cell := by split <;> omega
      refine ⟨_, rfl, cell, rfl, 10, 60, rfl, rfl, ⟨by decide, by decide, by decide⟩, _, 8, rfl, rfl, big8, _, _, rfl, rfl, big_pos,
        _, rfl, cell, rfl, 10, 18, rfl, rfl, ⟨by decide, by decide, by decide⟩, _, _, rfl, rfl, .inr ⟨_, rfl, _, _, rfl, rfl, .inr (bit_mul _), ?_⟩⟩
      obtain ⟨own, ho⟩ : ∃ z : Int, (if cell < 0 then -cell else cell) % big * (if decide ((10 : Int) ^ (18 : Int).toNat ≤ if cell < 0 then -cell else cell) = true then 1 else 0) = z := ⟨_, rfl⟩
      have h0 : 0 ≤ own := by
        rw [← ho]
        exact Int.mul_nonneg (Int.emod_nonneg _ (Int.ne_of_gt big_pos)) (bit_nn _)
      dsimp only
      rw [show ((10 : Int) ^ (60 : Int).toNat) ^ (8 : Int).toNat = big from rfl, ho]
      refine ⟨_, rfl, _, rfl, cell, 2305843009213693951, rfl, rfl, (show (0 : Int) < 2305843009213693951 by decide), _, 69621, rfl, rfl, .inr ⟨by decide, by decide⟩, _, rfl, 15485863, (k : Int), rfl, rfl, .inl ⟨by decide, by decide⟩,
        _, _, rfl, rfl, _, 97, rfl, rfl, _, 2305843009213693921, rfl, rfl, (show (0 : Int) < 2305843009213693921 by decide), (by show 3 ≤ sizeLine; decide), fun p np => ?_⟩
      refine q _ p (same_new np) np ⟨own, _, 0, upd_same, h0, Int.emod_nonneg _ (by decide), ?_, Int.le_refl _, Int.le_refl _⟩
      exact Int.lt_trans (Int.emod_lt_of_pos _ (by decide)) (by decide)
    · refine ⟨_, rfl, 7, (k : Int), rfl, rfl, .inl ⟨by decide, by decide⟩, _, 3, rfl, rfl, ?_⟩
      obtain ⟨cell, hc⟩ : ∃ c : Int, 7 * (k : Int) + 3 = c := ⟨_, rfl⟩
      dsimp only
      rw [hc]
      have c0 : (0 : Int) ≤ if cell < 0 then -cell else cell := by split <;> omega
      refine ⟨_, rfl, cell, rfl, 10, 60, rfl, rfl, ⟨by decide, by decide, by decide⟩, _, 8, rfl, rfl, big8, _, _, rfl, rfl, big_pos,
        _, rfl, cell, rfl, 10, 18, rfl, rfl, ⟨by decide, by decide, by decide⟩, _, _, rfl, rfl, .inr ⟨_, rfl, _, _, rfl, rfl, .inr (bit_mul _), ?_⟩⟩
      obtain ⟨own, ho⟩ : ∃ z : Int, (if cell < 0 then -cell else cell) % big * (if decide ((10 : Int) ^ (18 : Int).toNat ≤ if cell < 0 then -cell else cell) = true then 1 else 0) = z := ⟨_, rfl⟩
      have h0 : 0 ≤ own := by
        rw [← ho]
        exact Int.mul_nonneg (Int.emod_nonneg _ (Int.ne_of_gt big_pos)) (bit_nn _)
      dsimp only
      rw [show ((10 : Int) ^ (60 : Int).toNat) ^ (8 : Int).toNat = big from rfl, ho]
      refine ⟨_, rfl, _, rfl, cell, 2305843009213693951, rfl, rfl, (show (0 : Int) < 2305843009213693951 by decide), _, 69621, rfl, rfl, .inr ⟨by decide, by decide⟩, _, rfl, 15485863, (k : Int), rfl, rfl, .inl ⟨by decide, by decide⟩,
        _, _, rfl, rfl, _, 97, rfl, rfl, _, 2305843009213693921, rfl, rfl, (show (0 : Int) < 2305843009213693921 by decide), (by show 3 ≤ sizeLine; decide), fun p np => ?_⟩
      refine q _ p (same_new np) np ⟨own, _, 0, upd_same, h0, Int.emod_nonneg _ (by decide), ?_, Int.le_refl _, Int.le_refl _⟩
      exact Int.lt_trans (Int.emod_lt_of_pos _ (by decide)) (by decide)
theorem seqL_but {H H' : Hp} {l a : Addr} {xs : List V} (h : SqL K H l xs) (n : l ≠ a) (b : But a H H') : SqL K H' l xs := by
  rcases h with (h | ⟨o, h⟩) | h
  · exact .inl (.inl (b _ _ n h))
  · exact .inl (.inr ⟨o, b _ _ n h⟩)
  · exact .inr h
theorem seqT_but {H H' : Hp} {l a : Addr} {xs : List V} (h : SqT K H l xs) (n : l ≠ a) (b : But a H H') : SqT K H' l xs := by
  rcases h with (h | ⟨o, h⟩) | h
  · exact .inl (.inl (b _ _ n h))
  · exact .inl (.inr ⟨o, b _ _ n h⟩)
  · exact .inr h
/-- of(hand, some): one of the items -/
def spOf (K : PySem.W.Frag) : Sp := fun vs H Q _ => ∃ (a l : Addr) (b : Nat) (xs : List V), vs = [.ref a, .ref l] ∧ PotAt H a b ∧ b ≤ 100000 ∧ l ≠ a ∧ (SqL K H l xs ∨ SqT K H l xs) ∧ 0 < xs.length ∧ xs.length ≤ 1000 ∧
  ∀ H' x, But a H H' → PotAt H' a (b + 1) → x ∈ xs → Q x H'
theorem ok_of {fT : Addr} {fdT : FuncData} (F : Fun K "_law_of" "_law_of" st_of f fd) (B : Blt mg) (F_take : Df P w K mg base "_law_take" 1 fT fdT ["_law_hand_here", "_law_many"] spTake) : FnG P w K mg base CX0 2 f fd ["_law_hand_here", "_law_some"] (spOf K) := by
  refine okG F sc_of (fun vs H Q E h => ?_) (fun cdv A outer s H vs Q E hgd hr h => ?_)
  · obtain ⟨_, _, _, _, rfl, _⟩ := h
    rfl
  · obtain ⟨a, l, b, xs, rfl, ha, hb, hal, hl, hx0, hx1, q⟩ := h
    refine ⟨_, (pss_one (ps_ret (pe_ix ix_seq (pv 1) (pe_callG hgd F_take.G (hr.mono (by decide)) (by rfl) F_take.g F_take.kp F_take.bd pass0 (pa_cons (pv 0) (pa_cons (pe_callB call_len (by rfl) B.len (by decide +kernel) (pa_cons (pv 1) pa_nil)) pa_nil))) (fun _ _ => rfl)))), ?_⟩
    refine ⟨_, rfl, _, rfl, _, rfl, _, xs.length, rfl, hl.imp (fun z => ⟨_, z, rfl⟩) (fun z => ⟨_, z, rfl⟩), a, b, (xs.length : Int), rfl, ha, hb, by omega, by omega, fun H' r bt ha' r0 r1 => ?_⟩
    obtain ⟨j, rfl⟩ := Int.eq_ofNat_of_zero_le r0
    have hj : j < xs.length := by omega
    have hq := q H' _ bt ha' (List.getElem_mem hj)
    rcases hl with hl | hl
    · exact .inl ⟨l, xs, (j : Int), xs[j], rfl, rfl, seqL_but hl hal bt, atI_nat (List.getElem?_eq_getElem hj), hq⟩
    · exact .inr (.inl ⟨l, xs, (j : Int), xs[j], rfl, rfl, seqT_but hl hal bt, atI_nat (List.getElem?_eq_getElem hj), hq⟩)
end
end K09

set_option Elab.async false
set_option linter.all false
set_option maxRecDepth 100000
set_option maxHeartbeats 4000000
namespace K09
open PySem PySem.Spec PyProof.Rows L2 WT
abbrev st_names : Stmt := top 9
theorem sc_names : FnScope ["_law_hand_here", "_law_count", "_law_stem", "_law_first", "_law_turn", "_law_letter"] ["_law_hand_here", "_law_count"] (defScope st_names) := ⟨rfl, rfl, rfl, by decide +kernel, rfl, by decide +kernel, by decide +kernel⟩
section
variable {P : Program} {w : World} {K : PySem.W.Frag} {mg : Str → Option Value} {base : Heap} {f fT fO : Addr} {fd fdT fdO : FuncData}
/-- mixed(hand, some): the same texts in some order -/
def spMixed (K : PySem.W.Frag) : Sp := fun vs H Q _ => ∃ (a l : Addr) (b : Nat) (ss : List Str), vs = [.ref a, .ref l] ∧ PotAt H a b ∧ b + ss.length ≤ 100000 ∧ (SqL K H l (ss.map V.str) ∨ SqT K H l (ss.map V.str)) ∧ ss.length ≤ 1000 ∧ (∀ s ∈ ss, PyData.strOk s = true) ∧
  ∀ (H' : Hp) (p : Addr) (ys : List Str), But a H H' → PotAt H' a (b + ss.length) → H p = none → H' p = some (.lst (ys.map V.str)) → ys.Perm ss → Q (.ref p) H'
theorem ok_mixed (F : Fun K "_law_mixed" "_law_mixed" st_mixed f fd) (B : Blt mg) (F_take : Df P w K mg base "_law_take" 1 fT fdT ["_law_hand_here", "_law_many"] spTake) : FnG P w K mg base CX0 2 f fd ["_law_hand_here", "_law_some"] (spMixed K) := by
  refine okG F sc_mixed (fun vs H Q E h => ?_) (fun cdv A outer s H vs Q E hgd hr h => ?_)
  · obtain ⟨_, _, _, _, rfl, _⟩ := h
    rfl
  · obtain ⟨a, l, b, ss, rfl, ha, hb, hl, hlen, hok, q⟩ := h
    refine ⟨_, (pss_cons (ps_par (by rfl) sc_mixed.nd (i := 2) (j := 3) rfl rfl (by decide) rfl rfl (pa_cons (pe_callTy call_list_of (by rfl) B.list (by decide +kernel) (pa_cons (pv 1) pa_nil)) (pa_cons (pe_lst pa_nil) pa_nil)) (by rfl))
      (pss_cons (ps_while PassesOwn.never (pt_cmpR (op_neD hr.units) (pv 2) (pe_lst pa_nil) (nomark _))
       (pss_one (ps_expr (pe_bm PySem.F.plainAttrs_list PySem.F.slot_list_append PySem.F.type_list_append mt_append (pv 3) (pa_cons (pe_bm PySem.F.plainAttrs_list PySem.F.slot_list_pop PySem.F.type_list_pop mt_popAt (pv 2) (pa_cons (pe_callG hgd F_take.G (hr.mono (by decide)) (by rfl) F_take.g F_take.kp F_take.bd pass0 (pa_cons (pv 0) (pa_cons (pe_callB call_len (by rfl) B.len (by decide +kernel) (pa_cons (pv 2) pa_nil)) pa_nil))) pa_nil)) pa_nil)))))
      (pss_one (ps_ret (pv 3))))), ?_⟩
    refine ⟨_, rfl, l, ss.map V.str, rfl, hl, fun L nL => ?_⟩
    refine ⟨(by show 0 ≤ sizeLine; decide), fun D nD => ?_⟩
    refine ⟨_, _, rfl, ?_⟩
    have hnaL : a ≠ L := ha.ne_new nL
    have z1 := same_new nL (o := .lst (ss.map V.str))
    have z2 := same_new nD (o := .lst [])
    have hnaD : a ≠ D := (ha.same z1).ne_new nD
    have hLD : L ≠ D := ne_of_none upd_same nD
    have nD0 : H D = none := by
      rw [← upd_ne (H := H) (o := .lst (ss.map V.str)) (Ne.symm hLD)]
      exact nD
    refine ⟨fun m σ H' => ∃ left found : List Str, σ = [some (.ref a), some (.ref l), some (.ref L), some (.ref D)] ∧ m = left.length ∧ But a H H' ∧ PotAt H' a (b + found.length) ∧ H' L = some (.lst (left.map V.str)) ∧ H' D = some (.lst (found.map V.str)) ∧ (found ++ left).Perm ss,
      ⟨ss.length, ss, [], rfl, rfl, .of (z1.trans z2), (ha.same z1).same z2, z2 _ _ upd_same, upd_same, List.Perm.refl _⟩, fun m σ H' hW => ?_⟩
    obtain ⟨left, found, rfl, rfl, bt, hp, hL, hD, pm⟩ := hW
    have hle : found.length + left.length = ss.length := by
      have := pm.length_eq
      rw [List.length_append] at this
      exact this
    refine ⟨_, rfl, (by show 0 ≤ sizeLine; decide), fun e ne => ?_⟩
    have z3 := same_new ne (o := .lst [])
    have okl : ∀ s ∈ left, PyData.strOk s = true := fun s hs => hok s (pm.mem_iff.mp (List.mem_append_right _ hs))
    refine ⟨_, _, .lst (SqL.of (z3 _ _ hL)) (dp_strs left), .lst (SqL.of upd_same) .nil, shaped_strs left okl, shaped_nil, _, rfl, ?_⟩
    rw [eqv_nil]
    cases left with
    | nil =>
      refine iteF ⟨_, rfl, ?_⟩
      rw [List.append_nil] at pm
      refine q _ D found (bt.trans (.of z3)) ((hp.same z3).more (by omega)) nD0 (z3 _ _ hD) pm
    | cons x left =>
      refine iteT ⟨fun σ' H2 => ∃ left' found' : List Str, σ' = [some (.ref a), some (.ref l), some (.ref L), some (.ref D)] ∧ left'.length = left.length ∧ But a H H2 ∧ PotAt H2 a (b + found'.length) ∧ H2 L = some (.lst (left'.map V.str)) ∧ H2 D = some (.lst (found'.map V.str)) ∧ (found' ++ left').Perm ss,
        fun σ' H2 ⟨l', f', h1, h2, h3⟩ => ⟨left.length, by rw [List.length_cons]; omega, l', f', h1, h2.symm, h3⟩, ?_⟩
      have hl3 := z3 _ _ hL
      have hd3 := z3 _ _ hD
      refine ⟨_, rfl, .inl ⟨rfl, _, SqL.of hd3⟩, _, rfl, .inl ⟨rfl, _, SqL.of hl3⟩, _, rfl, _, rfl, _, ((x :: left).map V.str).length, rfl, .inl ⟨_, SqL.of hl3, rfl⟩, a, b + found.length, (((x :: left).map V.str).length : Int), rfl, hp.same z3, by simp at hle ⊢; omega, by simp <;> omega,
        by simp at hle ⊢; omega, fun H4 r b4 p4 r0 r1 => ?_⟩
      obtain ⟨j, rfl⟩ := Int.eq_ofNat_of_zero_le r0
      have hj : j < (x :: left).length := by
        rw [List.length_map] at r1
        omega
      have hl4 := b4 _ _ (Ne.symm hnaL) hl3
      have hd4 := b4 _ _ (Ne.symm hnaD) hd3
      have hjx : ((x :: left).map V.str)[j]? = some (V.str (x :: left)[j]) := by
        rw [List.getElem?_map, List.getElem?_eq_getElem hj]
        rfl
      have hsq : seqIndex? (j : Int) ((x :: left).map V.str).length = some j := by
        have := (ixN_seq (n := ((x :: left).map V.str).length) (i := (j : Int)) (j := j) (by
          unfold ixN
          rw [if_pos (by omega), if_pos (by rw [List.length_map]; omega)]
          simp)).1
        exact this
      refine ⟨L, _, (j : Int), j, _, rfl, rfl, hl4, by omega, by rw [List.length_cons] at hj; simp at hle; omega, hsq, hjx, ?_⟩
      have hD5 : (upd H4 L (.lst (((x :: left).map V.str).eraseIdx j))) D = some (.lst (found.map V.str)) := by
        rw [upd_ne (Ne.symm hLD)]
        exact hd4
      refine ⟨D, _, _, rfl, rfl, hD5, ?_, ?_⟩
      · rw [List.length_map]
        exact Nat.lt_of_le_of_lt (show found.length ≤ 1000 by simp at hle; omega) (by decide)
      · refine ⟨(x :: left).eraseIdx j, found ++ [(x :: left)[j]], rfl, ?_, ?_, ?_, ?_, ?_, ?_⟩
        · rw [List.length_eraseIdx_of_lt hj]
          rfl
        · intro c o nc ec
          rw [upd_ne (ne_of_none ec nD0), upd_ne (ne_of_none ec nL)]
          exact (bt.trans ((But.of z3).trans b4)) c o nc ec
        · obtain ⟨u0, u1, u2, e1, e2⟩ := p4
          refine ⟨u0, u1, u2, ?_, e2.more ?_⟩
          · rw [upd_ne hnaD, upd_ne hnaL]
            exact e1
          · rw [List.length_append]
            exact Nat.le_refl _
        · rw [upd_ne hLD, upd_same]
          congr 2
          exact map_erase _ _ _
        · rw [upd_same, List.map_append]
          rfl
        · refine List.Perm.trans ?_ pm
          rw [List.append_assoc]
          exact List.Perm.append_left _ (erase_perm _ j hj)
/-- names(hand, count): a tuple of so many names -/
def spNames : Sp := fun vs H Q _ => ∃ (a : Addr) (b n : Nat), vs = [.ref a, .int n] ∧ PotAt H a b ∧ b ≤ 90000 ∧ n ≤ 20 ∧
  ∀ (H' : Hp) (p : Addr) (ys : List Str), But a H H' → PotAt H' a (b + 9) → H' p = some (.tup (ys.map V.str)) → NamesOf n ys → Q (.ref p) H'
theorem ok_names (F : Fun K "_law_names" "_law_names" st_names f fd) (B : Blt mg) (F_take : Df P w K mg base "_law_take" 1 fT fdT ["_law_hand_here", "_law_many"] spTake)
    (F_of : Df P w K mg base "_law_of" 2 fO fdO ["_law_hand_here", "_law_some"] (spOf K)) : FnG P w K mg base CX0 3 f fd ["_law_hand_here", "_law_count"] spNames := by
  refine okG F sc_names (fun vs H Q E h => ?_) (fun cdv A outer s H vs Q E hgd hr h => ?_)
  · obtain ⟨_, _, _, rfl, _⟩ := h
    rfl
  · obtain ⟨a, b, n, rfl, ha, hb, hn, q⟩ := h
    refine ⟨_, (pss_cons (ps_set (i := 2) sc_names.nd rfl (.inr rfl) (pe_join pe_str (pe_lc (own := [("_law_turn", 4)]) (by rfl) sc_names.nd (pi_range1 (by rfl) B.range (pa_cons (pe_callG hgd F_of.G (hr.mono (by decide)) (by rfl) F_of.g F_of.kp F_of.bd pass0 (pa_cons (pv 0) (pa_cons (pe_lst (pa_cons pe_int (pa_cons pe_int (pa_cons pe_int (pa_cons pe_int pa_nil))))) pa_nil))) pa_nil)) (blkOk_by (own := [("_law_turn", 4)]) (N := ["_law_hand_here", "_law_count", "_law_stem", "_law_first", "_law_turn", "_law_letter"]) (sc := defScope st_names) (by decide +kernel)) (fun _ _ _ _ _ => (pg_name (i := 4) sc_names.nd rfl (.inl rfl))) (fun _ _ _ _ _ => pts_nil) (fun _ _ _ _ _ => (pe_callG hgd F_of.G (hr.mono (by decide)) (by rfl) F_of.g F_of.kp F_of.bd pass0 (pa_cons (pv 0) (pa_cons (pe_callTy (call_list_str rfl) (by rfl) B.list (by decide +kernel) (pa_cons pe_str pa_nil)) pa_nil)))))))
      (pss_cons (ps_set (i := 3) sc_names.nd rfl (.inl rfl) (pe_callG hgd F_take.G (hr.mono (by decide)) (by rfl) F_take.g F_take.kp F_take.bd pass0 (pa_cons (pv 0) (pa_cons (pe_op op_sub pe_int (pv 1)) pa_nil))))
      (pss_one (ps_ret (pe_callTy call_tuple_of (by rfl) B.tuple (by decide +kernel) (pa_cons (pe_lc (own := [("_law_letter", 5)]) (by rfl) sc_names.nd (pi_str (pe_slice sl_str pe_str (po_some (pv 3)) (po_some (pe_op op_add (pv 3) (pv 1))))) (blkOk_by (own := [("_law_letter", 5)]) (N := ["_law_hand_here", "_law_count", "_law_stem", "_law_first", "_law_turn", "_law_letter"]) (sc := defScope st_names) (by decide +kernel)) (fun _ _ _ _ _ => (pg_name (i := 5) sc_names.nd rfl (.inl rfl))) (fun _ _ _ _ _ => pts_nil) (fun _ _ _ _ _ => (pe_op op_add_str (pv 2) (pv 5)))) pa_nil)))))), ?_⟩
    -- how long the stem is
    refine ⟨⟨_, rfl⟩, _, rfl, (by show 4 ≤ sizeLine; decide), fun l0 n0 => ?_⟩
    have z0 := same_new n0 (o := .lst [.int 0, .int 0, .int 1, .int 7])
    refine ⟨a, l0, b, [.int 0, .int 0, .int 1, .int 7], rfl, ha.same z0, by omega, Ne.symm (ha.ne_new n0), .inl (SqL.of upd_same), by decide, by decide, fun H1 x b1 p1 hx => ?_⟩
    obtain ⟨m, rfl, hm⟩ : ∃ m : Nat, x = .int m ∧ m ≤ 7 := by
      simp only [List.mem_cons, List.not_mem_nil, or_false] at hx
      rcases hx with rfl | rfl | rfl | rfl
      · exact ⟨0, rfl, by decide⟩
      · exact ⟨0, rfl, by decide⟩
      · exact ⟨1, rfl, by decide⟩
      · exact ⟨7, rfl, by decide⟩
    have bt1 : But a H H1 := (But.of z0).trans b1
    refine ⟨(m : Int), rfl, by omega, by omega, fun D nD => lc_range (lo := 0) (n := (m : Int).toNat) (fun j H' => ∃ ss : List Str, ss.length = j ∧ (∀ s ∈ ss, ∃ c, s = sign c ∧ Low c) ∧ But a H H' ∧ PotAt H' a (b + 1 + j) ∧ H' D = some (.lst (ss.map V.str)))
      ⟨[], rfl, fun s hs => (nomatch hs), bt1.trans (.of (same_new nD)), p1.same (same_new nD), upd_same⟩ (fun j H' hj hP => ?_) fun H' hP => ?_⟩
    · obtain ⟨ss, hl, hc, bt, hp, hD⟩ := hP
      have naD : a ≠ D := p1.ne_new nD
      refine ⟨rfl, _, rfl, "abmz", rfl, (by decide +kernel), fun l nl => ?_⟩
      have z2 := same_new nl (o := .lst (signsV "abmz"))
      refine ⟨a, l, b + 1 + j, signsV "abmz", rfl, hp.same z2, by omega, Ne.symm (hp.ne_new nl), .inl (SqL.of upd_same), by decide +kernel, by decide +kernel, fun H2 y b2 p2 hy => ?_⟩
      obtain ⟨c, rfl, hcl⟩ : ∃ c, y = .str (sign c) ∧ Low c := by
        have : signsV "abmz" = [V.str (sign 97), V.str (sign 98), V.str (sign 109), V.str (sign 122)] := by decide +kernel
        rw [this] at hy
        simp only [List.mem_cons, List.not_mem_nil, or_false] at hy
        unfold Low
        rcases hy with rfl | rfl | rfl | rfl
        · exact ⟨97, rfl, by decide⟩
        · exact ⟨98, rfl, by decide⟩
        · exact ⟨109, rfl, by decide⟩
        · exact ⟨122, rfl, by decide⟩
      have hD2 := b2 _ _ (Ne.symm naD) (z2 _ _ hD)
      refine ⟨_, hD2, ?_, ss ++ [sign c], ?_, ?_, ?_, ?_, ?_⟩
      · rw [List.length_map, hl]
        exact Nat.lt_of_lt_of_le (show j < 10 by omega) (by decide)
      · rw [List.length_append, hl]
        rfl
      · intro s hs
        rcases List.mem_append.mp hs with hs | hs
        · exact hc s hs
        · rw [List.mem_singleton.mp hs]
          exact ⟨c, rfl, hcl⟩
      · intro g o ng eg
        have ngD : g ≠ D := ne_of_none (bt1 _ _ ng eg) nD
        rw [upd_ne ngD]
        exact (bt.trans ((But.of z2).trans b2)) g o ng eg
      · obtain ⟨u0, u1, u2, e1, e2⟩ := p2
        exact ⟨u0, u1, u2, by rw [upd_ne naD]; exact e1, e2.more (by omega)⟩
      · rw [upd_same, List.map_append]
        rfl
    · obtain ⟨ss, hl, hc, bt, hp, hD⟩ := hP
      have hl : ss.length = m := hl
      have sl : (ss.map fun s => s.length) = ss.map fun _ => 1 := List.map_congr_left fun s hs => by
        obtain ⟨c, rfl, _⟩ := hc s hs
        rfl
      have sum1 : (ss.map fun s => s.length).sum = m := by
        rw [sl, sum_ones, hl]
      refine ⟨"", D, ss, rfl, rfl, .inl (SqL.of hD), ?_, ?_⟩
      · rw [sum1]
        show m + ss.length * 0 ≤ 16777216
        omega
      -- the stem
      rw [txt_join]
      obtain ⟨stem, hst⟩ : ∃ z, Str.join ("" : Str) ss = z := ⟨_, rfl⟩
      rw [hst]
      have stl : ∀ c ∈ stem.cps.toList, Low c := by
        intro c hcc
        rw [← hst, join_nil_cps] at hcc
        obtain ⟨x, hx, hcx⟩ := List.mem_flatten.mp hcc
        obtain ⟨s, hs, rfl⟩ := List.mem_map.mp hx
        obtain ⟨c', rfl, h⟩ := hc s hs
        have : c = c' := by simpa [sign] using hcx
        rw [this]
        exact h
      have sten : stem.length ≤ 7 := by
        have : stem.cps.toList.length = m := by
          rw [← hst, join_nil_cps, List.length_flatten, List.map_map, ← sum1]
          congr 1
        rw [Array.length_toList] at this
        show stem.cps.size ≤ 7
        omega
      -- the first letter
      refine ⟨_, rfl, _, rfl, 26, (n : Int), rfl, rfl, a, b + 1 + m, 26 - (n : Int), rfl, hp, by omega, by omega, by omega, fun H3 r b3 p3 r0 r1 => ?_⟩
      obtain ⟨first, rfl⟩ := Int.eq_ofNat_of_zero_le r0
      have hf : first + n ≤ 26 := by omega
      have hcut : (cutS alpha (some (first : Int)) (some ((first : Int) + (n : Int)))).cps.toList = (List.range n).map fun j => 97 + first + j := cut_alpha hf
      have hsz : (cutS alpha (some (first : Int)) (some ((first : Int) + (n : Int)))).cps.size = n := by
        rw [← Array.length_toList, hcut, List.length_map, List.length_range]
      refine ⟨_, rfl, (first : Int), rfl, _, rfl, _, rfl, (first : Int), (n : Int), rfl, rfl, _, rfl, alpha, rfl, by decide +kernel, _, rfl, fun D2 nD2 => lc_it walk_str (fun j H' => Same H3 H' ∧ H' D2 = some (.lst ((nameList stem first j).map V.str))) ⟨same_new nD2, upd_same⟩ (fun _ _ _ _ => trivial)
        (fun j x H4 H5 hj hP hY => ?_) fun H4 hP => ?_⟩
      · obtain ⟨s4, d4⟩ := hP
        obtain ⟨rfl, c, hc4, rfl⟩ := hY
        have hj' : j < n := by
          rw [← hsz]
          exact hj
        have hcj : c = 97 + first + j := by
          have e : (cutS alpha (some (first : Int)) (some ((first : Int) + (n : Int)))).cps.toList[j]? = some c := by
            rw [Array.getElem?_toList]
            exact hc4
          rw [hcut, List.getElem?_map, List.getElem?_range hj'] at e
          exact (Option.some.inj e).symm
        subst hcj
        refine ⟨rfl, _, rfl, _, rfl, stem, sign (97 + first + j), rfl, rfl, ?_, _, d4, ?_, ?_, ?_⟩
        · show stem.length + 1 ≤ sizeLine
          exact Nat.le_trans (show stem.length + 1 ≤ 8 by omega) (by decide)
        · unfold nameList
          rw [List.length_map, List.length_map, List.length_range]
          exact Nat.lt_of_lt_of_le (show j < 30 by omega) (by decide)
        · intro g o eg
          rw [upd_ne (ne_of_none eg nD2)]
          exact s4 g o eg
        · rw [upd_same]
          unfold nameList
          rw [List.range_succ, List.map_append, List.map_append]
          rfl
      · obtain ⟨s4, d4⟩ := hP
        rw [hsz] at d4
        refine ⟨D2, _, rfl, .inl ⟨SqL.of d4, fun p np => ?_⟩⟩
        have z5 := same_new np (o := .tup ((nameList stem first n).map V.str))
        exact q _ p _ (bt.trans (b3.trans (.of (s4.trans z5)))) (((p3.same s4).same z5).more (by omega)) upd_same ⟨stem, first, rfl, sten, stl, hf⟩
end
end K09

set_option Elab.async false
set_option linter.all false
set_option maxRecDepth 100000
set_option maxHeartbeats 4000000
namespace K09
open PySem PySem.Spec PyProof.Rows L2 WT
abbrev st_gateways : Stmt := top 10
theorem sc_gateways : FnScope ["_law_hand_here", "_law_regions", "_law_count", "_law_found", "_law_name", "_law_size", "_law_inside"] ["_law_hand_here", "_law_regions", "_law_count"] (defScope st_gateways) := ⟨rfl, rfl, rfl, by decide +kernel, rfl, by decide +kernel, by decide +kernel⟩
abbrev st_world : Stmt := top 11
theorem sc_world : FnScope ["_law_hand_here", "_law_most_regions", "_law_most_gateways", "_law_regions", "_law_count"] ["_law_hand_here", "_law_most_regions", "_law_most_gateways"] (defScope st_world) := ⟨rfl, rfl, rfl, by decide +kernel, rfl, by decide +kernel, by decide +kernel⟩
section
variable {P : Program} {w : World} {K : PySem.W.Frag} {mg : Str → Option Value} {base : Heap} {f fT fO fM fN fG : Addr} {fd fdT fdO fdM fdN fdG : FuncData}
/-- gateways(hand, regions, count) -/
def spGates : Sp := fun vs H Q _ => ∃ (a r : Addr) (b n : Nat) (rs : List Str), vs = [.ref a, .ref r, .int n] ∧ PotAt H a b ∧ b ≤ 80000 ∧ H r = some (.tup (rs.map V.str)) ∧ rs.length ≤ 10 ∧ (∀ s ∈ rs, PyData.strOk s = true) ∧ n ≤ 10 ∧ (n ≠ 0 → 2 ≤ rs.length) ∧
  ∀ (H' : Hp) (p : Addr) (as : List Addr) (gs : List Gt), But a H H' → PotAt H' a (b + 200) → H' p = some (.tup (as.map V.ref)) → Paired (GateAt H') as gs → NamesOf n (gs.map (·.1)) → (∀ g ∈ gs, GateOk rs g) → Q (.ref p) H'
theorem ok_gateways (F : Fun K "_law_gateways" "_law_gateways" st_gateways f fd) (B : Blt mg) (F_of : Df P w K mg base "_law_of" 2 fO fdO ["_law_hand_here", "_law_some"] (spOf K))
    (F_mixed : Df P w K mg base "_law_mixed" 2 fM fdM ["_law_hand_here", "_law_some"] (spMixed K)) (F_names : Df P w K mg base "_law_names" 3 fN fdN ["_law_hand_here", "_law_count"] spNames) :
    FnG P w K mg base CX0 4 f fd ["_law_hand_here", "_law_regions", "_law_count"] spGates := by
  refine okG F sc_gateways (fun vs H Q E h => ?_) (fun cdv A outer s H vs Q E hgd hr h => ?_)
  · obtain ⟨_, _, _, _, _, rfl, _⟩ := h
    rfl
  · obtain ⟨a, r, b, n, rs, rfl, ha, hb, hreg, hlen, hok, hn, h2, q⟩ := h
    refine ⟨_, (pss_cons (ps_set (i := 3) sc_gateways.nd rfl (.inl rfl) (pe_lst pa_nil))
      (pss_cons (ps_for PassesOwn.never rfl (pi_tup (pe_callG hgd F_names.G (hr.mono (by decide)) (by rfl) F_names.g F_names.kp F_names.bd pass0 (pa_cons (pv 0) (pa_cons (pv 2) pa_nil)))) (pg_name (i := 4) sc_gateways.nd rfl (.inl rfl))
       (pss_cons (ps_set (i := 5) sc_gateways.nd rfl (.inl rfl) (pe_callB (call_min2 rfl) (by rfl) B.min (by decide +kernel) (pa_cons (pe_callB call_len (by rfl) B.len (by decide +kernel) (pa_cons (pv 1) pa_nil)) (pa_cons (pe_callG hgd F_of.G (hr.mono (by decide)) (by rfl) F_of.g F_of.kp F_of.bd pass0 (pa_cons (pv 0) (pa_cons (pe_lst (pa_cons pe_int (pa_cons pe_int (pa_cons pe_int (pa_cons pe_int (pa_cons pe_int (pa_cons pe_int (pa_cons pe_int (pa_cons (pe_callB call_len (by rfl) B.len (by decide +kernel) (pa_cons (pv 1) pa_nil)) pa_nil))))))))) pa_nil))) pa_nil))))
       (pss_cons (ps_set (i := 6) sc_gateways.nd rfl (.inl rfl) (pe_callTy call_tuple_of (by rfl) B.tuple (by decide +kernel) (pa_cons (pe_callB cr_sortedS (by rfl) B.sorted (by decide +kernel) (pa_cons (pe_slice sl_list (pe_callG hgd F_mixed.G (hr.mono (by decide)) (by rfl) F_mixed.g F_mixed.kp F_mixed.bd pass0 (pa_cons (pv 0) (pa_cons (pv 1) pa_nil))) po_none (po_some (pv 5))) pa_nil)) pa_nil)))
       (pss_one (ps_expr (pe_bm PySem.F.plainAttrs_list PySem.F.slot_list_append PySem.F.type_list_append mt_append (pv 3) (pa_cons (pe_tup (pa_cons (pv 4) (pa_cons (pv 6) (pa_cons (pe_callG hgd F_of.G (hr.mono (by decide)) (by rfl) F_of.g F_of.kp F_of.bd pass0 (pa_cons (pv 0) (pa_cons (pe_lst (pa_cons pe_str (pa_cons pe_str (pa_cons pe_str pa_nil)))) pa_nil))) pa_nil)))) pa_nil)))))))
      (pss_one (ps_ret (pe_callTy call_tuple_of (by rfl) B.tuple (by decide +kernel) (pa_cons (pv 3) pa_nil)))))), ?_⟩
    refine ⟨(by show 0 ≤ sizeLine; decide), fun D nD => ?_⟩
    have z0 := same_new nD (o := .lst [])
    have naD : a ≠ D := ha.ne_new nD
    refine ⟨_, rfl, _, rfl, a, b, n, rfl, ha.same z0, by omega, by omega, fun H1 p ys b1 p1 hp1 nms => ?_⟩
    have bt1 : But a H H1 := (But.of z0).trans b1
    have hD1 := b1 _ _ (Ne.symm naD) (show (upd H D (.lst [])) D = some (.lst []) from upd_same)
    have hyl := nms.length
    refine ⟨p, rfl, ⟨_, SqT.of hp1⟩, for_it (walk_tup (xs := ys.map V.str)) (fun j σ H' => ∃ (v4 v5 v6 : Option V) (as : List Addr) (gs : List Gt), σ = [some (.ref a), some (.ref r), some (.int n), some (.ref D), v4, v5, v6] ∧ But a H H' ∧ PotAt H' a (b + 9 + 12 * j) ∧ H' p = some (.tup (ys.map V.str)) ∧ H' D = some (.lst (as.map V.ref)) ∧ Paired (GateAt H') as gs ∧ gs.map (·.1) = ys.take j ∧ ∀ g ∈ gs, GateOk rs g)
      ⟨none, none, none, [], [], rfl, bt1, p1, hp1, hD1, .nil, rfl, fun g hg => (nomatch hg)⟩ (fun j σ H' _ ⟨_, _, _, _, _, _, _, _, h, _⟩ => SqT.of h) (fun j v σ H2 H3 hj hP hY => ?_) (fun σ H' hP => ?_)⟩
    · obtain ⟨v4, v5, v6, as, gs, rfl, bt, hp, hpp, hD, prs, hmap, hgok⟩ := hP
      obtain ⟨rfl, hv⟩ := hY
      rw [List.length_map] at hj
      rw [List.getElem?_map, List.getElem?_eq_getElem hj] at hv
      cases hv
      have hn0 : n ≠ 0 := by omega
      have hrs2 := h2 hn0
      have hr3 := bt _ _ (ha.ne_tup hreg) hreg
      have hjn : j < n := by omega
      -- size
      refine ⟨_, rfl, _, rs.length, rfl, .inr ⟨_, SqT.of hr3, (List.length_map ..).symm⟩, _, rfl, _, rfl, _, rs.length, rfl, .inr ⟨_, SqT.of hr3, (List.length_map ..).symm⟩, (by show 8 ≤ sizeLine; decide), fun l1 n1 => ?_⟩
      have z1 := same_new n1 (o := .lst [.int 2, .int 2, .int 2, .int 2, .int 3, .int 3, .int 4, .int rs.length])
      refine ⟨a, l1, b + 9 + 12 * j, _, rfl, hp.same z1, by omega, Ne.symm (hp.ne_new n1), .inl (SqL.of upd_same), by show 0 < 8; decide, by show 8 ≤ 1000; decide, fun H4 x b4 p4 hx => ?_⟩
      obtain ⟨k, rfl, hk2, hk3⟩ : ∃ k : Nat, x = .int k ∧ 2 ≤ k ∧ k ≤ 10 := by
        simp only [List.mem_cons, List.not_mem_nil, or_false] at hx
        rcases hx with rfl | rfl | rfl | rfl | rfl | rfl | rfl | rfl
        · exact ⟨2, rfl, by decide, by decide⟩
        · exact ⟨2, rfl, by decide, by decide⟩
        · exact ⟨2, rfl, by decide, by decide⟩
        · exact ⟨2, rfl, by decide, by decide⟩
        · exact ⟨3, rfl, by decide, by decide⟩
        · exact ⟨3, rfl, by decide, by decide⟩
        · exact ⟨4, rfl, by decide, by decide⟩
        · exact ⟨rs.length, rfl, hrs2, hlen⟩
      refine ⟨(rs.length : Int), (k : Int), rfl, ?_⟩
      obtain ⟨m, hm, hm2, hm3⟩ : ∃ m : Nat, (if (k : Int) < (rs.length : Int) then (k : Int) else (rs.length : Int)) = (m : Int) ∧ 2 ≤ m ∧ m ≤ rs.length := by
        by_cases hkl : (k : Int) < (rs.length : Int)
        · exact ⟨k, by rw [if_pos hkl], hk2, by omega⟩
        · exact ⟨rs.length, by rw [if_neg hkl], hrs2, Nat.le_refl _⟩
      rw [hm]
      have bt4 := bt.trans ((But.of z1).trans b4)
      have hr4 := bt4 _ _ (ha.ne_tup hreg) hreg
      have pt1 := hp.same z1
      -- inside
      refine ⟨_, rfl, _, rfl, a, r, b + 9 + 12 * j + 1, rs, rfl, p4, by omega, .inr (SqT.of hr4), by omega, hok, fun H5 d5 zs b5 p5 nd5 hd5 pm => ?_⟩
      refine ⟨_, rfl, (m : Int), rfl, d5, _, rfl, SqL.of hd5, fun c6 n6 => ?_⟩
      have z6 := same_new n6 (o := .lst (cutV (zs.map V.str) none (some (m : Int))))
      refine ⟨c6, zs.take m, rfl, SqL.of (by rw [upd_same, cut_to]), ?_, fun ws c7 pm7 st7 n7 => ?_⟩
      · rw [List.length_take]
        omega
      have z7 := same_new n7 (o := .lst (ws.map V.str))
      refine ⟨c7, _, rfl, .inl ⟨SqL.of upd_same, fun t8 n8 => ?_⟩⟩
      have z8 := same_new n8 (o := .tup (ws.map V.str))
      -- append
      have bt8 : But a H4 _ := b5.trans (.of (z6.trans (z7.trans z8)))
      have p8 := ((p5.same z6).same z7).same z8
      have bt38 := ((But.of z1).trans b4).trans bt8
      have hD8 := bt38 _ _ (Ne.symm naD) hD
      refine ⟨_, rfl, .inl ⟨rfl, _, SqL.of hD8⟩, _, rfl, _, rfl, _, rfl, (by show 3 ≤ sizeLine; decide), fun l9 n9 => ?_⟩
      have z9 := same_new n9 (o := .lst [.str "wrap", .str "wrap", .str "open"])
      refine ⟨a, l9, b + 9 + 12 * j + 1 + rs.length, _, rfl, p8.same z9, by omega, Ne.symm (p8.ne_new n9), .inl (SqL.of upd_same), by show 0 < 3; decide, by show 3 ≤ 1000; decide, fun H10 y b10 p10 hy => ?_⟩
      obtain ⟨kd, rfl, hkd⟩ : ∃ kd : Str, y = .str kd ∧ (kd = "wrap" ∨ kd = "open") := by
        simp only [List.mem_cons, List.not_mem_nil, or_false] at hy
        rcases hy with rfl | rfl | rfl
        · exact ⟨_, rfl, .inl rfl⟩
        · exact ⟨_, rfl, .inl rfl⟩
        · exact ⟨_, rfl, .inr rfl⟩
      have ht10 : H10 t8 = some (.tup (ws.map V.str)) := b10 _ _ (p8.ne_tup upd_same) (z9 _ _ upd_same)
      have bt10 := bt38.trans ((But.of z9).trans b10)
      refine ⟨(by show 3 ≤ sizeLine; decide), fun t11 n11 => ?_⟩
      have z11 := same_new n11 (o := .tup [.str ys[j], .ref t8, .str kd])
      have hD11 := z11 _ _ (bt10 _ _ (Ne.symm naD) hD)
      refine ⟨D, _, _, rfl, rfl, hD11, ?_, ?_⟩
      · have hl := congrArg List.length hmap
        rw [List.length_map, List.length_take] at hl
        rw [List.length_map, Paired.length prs, hl]
        exact Nat.lt_of_le_of_lt (show min j ys.length ≤ 10 by omega) (by decide)
      · have nD0 : ∀ c o, H c = some o → c ≠ D := fun c o e => ne_of_none e nD
        have upD : ∀ (c : Addr) (o o2 : HO), upd H10 t11 (.tup [.str ys[j], .ref t8, .str kd]) c = some o → c ≠ D → upd (upd H10 t11 (.tup [.str ys[j], .ref t8, .str kd])) D o2 c = some o := fun c o o2 e nc => by
          rw [upd_ne nc]
          exact e
        have tupD : ∀ (c : Addr) (xs : List V) (o2 : HO), upd H10 t11 (.tup [.str ys[j], .ref t8, .str kd]) c = some (.tup xs) → upd (upd H10 t11 (.tup [.str ys[j], .ref t8, .str kd])) D o2 c = some (.tup xs) := fun c xs o2 e =>
          upD c _ _ e (ne_of e hD11 (by intro z; cases z))
        refine ⟨_, _, _, as ++ [t11], gs ++ [(ys[j], ws, kd)], rfl, ?_, ?_, ?_, ?_, ?_, ?_, ?_⟩
        · intro c o nc ec
          rw [upd_ne (nD0 c o ec)]
          exact z11 _ _ (bt10 _ _ nc (bt _ _ nc ec))
        · obtain ⟨u0, u1, u2, e1, e2⟩ := p10
          exact ⟨u0, u1, u2, upD _ _ _ (z11 _ _ e1) naD, e2.more (by omega)⟩
        · exact tupD _ _ _ (z11 _ _ (bt10 _ _ (hp.ne_tup hpp) hpp))
        · rw [upd_same, List.map_append]
          rfl
        · refine pair_snoc (Paired.mapP prs fun c g hg => ?_) ⟨t8, tupD _ _ _ upd_same, tupD _ _ _ (z11 _ _ ht10)⟩
          obtain ⟨i, e1, e2⟩ := hg.but hp bt10
          exact ⟨i, tupD _ _ _ (z11 _ _ e1), tupD _ _ _ (z11 _ _ e2)⟩
        · rw [List.map_append, hmap, List.take_add_one, List.getElem?_eq_getElem hj]
          rfl
        · intro g hg
          rcases List.mem_append.mp hg with hg | hg
          · exact hgok g hg
          · rw [List.mem_singleton.mp hg]
            exact ⟨nms.nm _ (List.getElem_mem hj), ⟨zs, m, pm, pm7, hm2, hm3⟩, st7, hkd⟩
    · obtain ⟨v4, v5, v6, as, gs, rfl, bt, hp, hpp, hD, prs, hmap, hgok⟩ := hP
      rw [List.length_map] at hp hmap
      rw [List.take_length] at hmap
      refine ⟨_, rfl, D, _, rfl, .inl ⟨SqL.of hD, fun t nt => ?_⟩⟩
      have zt := same_new nt (o := .tup (as.map V.ref))
      exact q _ t as gs (bt.trans (.of zt)) ((hp.same zt).more (by omega)) upd_same (Paired.mapP prs fun _ _ z => z.same zt) (by rw [hmap]; exact nms) hgok
/-- world(hand, most regions, most gateways) -/
def spWorld : Sp := fun vs H Q _ => ∃ (a : Addr) (b mr mgt : Nat), vs = [.ref a, .int mr, .int mgt] ∧ PotAt H a b ∧ b ≤ 70000 ∧ 1 ≤ mr ∧ mr ≤ 10 ∧ mgt ≤ 10 ∧
  ∀ (H' : Hp) (p r g : Addr) (as : List Addr) (rs : List Str) (gs : List Gt), But a H H' → PotAt H' a (b + 300) → WorldAt H' p r g as rs gs → WorldOk rs gs → Q (.ref p) H'
theorem ok_world (F : Fun K "_law_world" "_law_world" st_world f fd) (B : Blt mg) (F_take : Df P w K mg base "_law_take" 1 fT fdT ["_law_hand_here", "_law_many"] spTake)
    (F_names : Df P w K mg base "_law_names" 3 fN fdN ["_law_hand_here", "_law_count"] spNames) (F_gateways : Df P w K mg base "_law_gateways" 4 fG fdG ["_law_hand_here", "_law_regions", "_law_count"] spGates) :
    FnG P w K mg base CX0 5 f fd ["_law_hand_here", "_law_most_regions", "_law_most_gateways"] spWorld := by
  refine okG F sc_world (fun vs H Q E h => ?_) (fun cdv A outer s H vs Q E hgd hr h => ?_)
  · obtain ⟨_, _, _, _, rfl, _⟩ := h
    rfl
  · obtain ⟨a, b, mr, mgt, rfl, ha, hb, hm1, hm2, hm3, q⟩ := h
    refine ⟨_, (pss_cons (ps_set (i := 3) sc_world.nd rfl (.inl rfl) (pe_callG hgd F_names.G (hr.mono (by decide)) (by rfl) F_names.g F_names.kp F_names.bd pass0 (pa_cons (pv 0) (pa_cons (pe_op op_add pe_int (pe_callG hgd F_take.G (hr.mono (by decide)) (by rfl) F_take.g F_take.kp F_take.bd pass0 (pa_cons (pv 0) (pa_cons (pv 1) pa_nil)))) pa_nil))))
      (pss_cons (ps_set (i := 4) sc_world.nd rfl (.inl rfl) (pe_ifExp (pt_cmpR op_gt (pe_callB call_len (by rfl) B.len (by decide +kernel) (pa_cons (pv 3) pa_nil)) pe_int (nomark _)) (pe_callG hgd F_take.G (hr.mono (by decide)) (by rfl) F_take.g F_take.kp F_take.bd pass0 (pa_cons (pv 0) (pa_cons (pe_op op_add (pv 2) pe_int) pa_nil))) pe_int))
      (pss_one (ps_ret (pe_tup (pa_cons (pv 3) (pa_cons (pe_callG hgd F_gateways.G (hr.mono (by decide)) (by rfl) F_gateways.g F_gateways.kp F_gateways.bd pass0 (pa_cons (pv 0) (pa_cons (pv 3) (pa_cons (pv 4) pa_nil)))) pa_nil))))))), ?_⟩
    refine ⟨_, rfl, _, rfl, _, rfl, a, b, (mr : Int), rfl, ha, by omega, by omega, by omega, fun H1 r b1 p1 r0 r1 => ?_⟩
    obtain ⟨j, rfl⟩ := Int.eq_ofNat_of_zero_le r0
    refine ⟨1, (j : Int), rfl, rfl, a, b + 1, 1 + j, rfl, p1, by omega, by omega, fun H2 rg rs b2 p2 hrg nms => ?_⟩
    have hlr := nms.length
    refine ⟨_, rfl, _, rs.length, rfl, .inr ⟨_, SqT.of hrg, (List.length_map ..).symm⟩, (rs.length : Int), 1, rfl, rfl, _, rfl, ite2 (fun e => ?_) fun e => ?_⟩
    · have e1 : (1 : Int) < rs.length := of_decide_eq_true e
      refine ⟨_, rfl, _, rfl, (mgt : Int), 1, rfl, rfl, a, b + 1 + 9, (mgt : Int) + 1, rfl, p2, by omega, by omega, by omega, fun H3 u b3 p3 u0 u1 => ?_⟩
      obtain ⟨n, rfl⟩ := Int.eq_ofNat_of_zero_le u0
      have hrg3 := b3 _ _ (p2.ne_tup hrg) hrg
      refine ⟨_, rfl, _, rfl, _, rfl, _, rfl, a, rg, b + 1 + 9 + 1, n, rs, rfl, p3, by omega, hrg3, by omega, fun s hs => (nms.nm s hs).ok, by omega, fun _ => by omega, fun H4 p as gs b4 p4 hp4 pr4 ng4 gok => ?_⟩
      refine ⟨(by show 2 ≤ sizeLine; decide), fun t nt => ?_⟩
      have z := same_new nt (o := .tup [.ref rg, .ref p])
      refine q _ t rg p as rs gs (b1.trans (b2.trans (b3.trans (b4.trans (.of z))))) ((p4.same z).more (by omega)) ⟨upd_same, z _ _ (b4 _ _ (p3.ne_tup hrg3) hrg3), z _ _ hp4, Paired.mapP pr4 fun _ _ y => y.same z⟩ ⟨⟨1 + j, by omega, by omega, nms⟩, ⟨n, by omega, ng4⟩, gok⟩
    · refine ⟨_, rfl, _, rfl, _, rfl, _, rfl, a, rg, b + 1 + 9, 0, rs, rfl, p2, by omega, hrg, by omega, fun s hs => (nms.nm s hs).ok, by omega, fun z => absurd rfl z, fun H4 p as gs b4 p4 hp4 pr4 ng4 gok => ?_⟩
      refine ⟨(by show 2 ≤ sizeLine; decide), fun t nt => ?_⟩
      have z := same_new nt (o := .tup [.ref rg, .ref p])
      refine q _ t rg p as rs gs (b1.trans (b2.trans (b4.trans (.of z)))) ((p4.same z).more (by omega)) ⟨upd_same, z _ _ (b4 _ _ (p2.ne_tup hrg) hrg), z _ _ hp4, Paired.mapP pr4 fun _ _ y => y.same z⟩ ⟨⟨1 + j, by omega, by omega, nms⟩, ⟨0, by omega, ng4⟩, gok⟩
end
end K09

set_option Elab.async false
set_option linter.all false
set_option maxRecDepth 100000
set_option maxHeartbeats 4000000
namespace K09
open PySem PySem.Spec PyProof.Rows L2 WT
abbrev st_exits : Stmt := top 1
theorem sc_exits : FnScope ["world", "region", "without", "ways", "name", "those", "kind", "other"] ["world", "region", "without"] (defScope st_exits) := ⟨rfl, rfl, rfl, by decide +kernel, rfl, by decide +kernel, by decide +kernel⟩
section
variable {P : Program} {w : World} {K : PySem.W.Frag} {mg : Str → Option Value} {base : Heap} {f : Addr} {fd : FuncData}
def PairAt (H : Hp) (t : Addr) (e : Str × Str) : Prop := H t = some (.tup [.str e.1, .str e.2])
/-- exits(world, region, without) -/
def spExits (K : PySem.W.Frag) : Sp := fun vs H Q _ => ∃ (wa r g wo : Addr) (as : List Addr) (rs : List Str) (gs : List Gt) (x : Str) (bar : List Str), vs = [.ref wa, .str x, .ref wo] ∧ WorldAt H wa r g as rs gs ∧ SqT K H wo (bar.map V.str) ∧ gs.length ≤ 100 ∧ (∀ g ∈ gs, g.2.1.length ≤ 100) ∧
  ∀ (H' : Hp) (p : Addr) (ts : List Addr), Same H H' → H p = none → H' p = some (.lst (ts.map V.ref)) → Paired (PairAt H') ts (exitsL gs bar x) → Q (.ref p) H'
theorem ok_exits (F : Fun K "exits" "exits" st_exits f fd) : FnG P w K mg base CX0 1 f fd ["world", "region", "without"] (spExits K) := by
  refine okG F sc_exits (fun vs H Q E h => ?_) (fun cdv A outer s H vs Q E hgd hr h => ?_)
  · obtain ⟨_, _, _, _, _, _, _, _, _, rfl, _⟩ := h
    rfl
  · obtain ⟨wa, r, g, wo, as, rs, gs, x, bar, rfl, hw, hwo, hgl, hil, q⟩ := h
    refine ⟨_, (pss_cons (ps_set (i := 3) sc_exits.nd rfl (.inl rfl) (pe_lst pa_nil))
      (pss_cons (ps_for PassesOwn.never rfl (pi_tup (pe_ix ix_tup (pv 0) pe_int (fun _ _ => rfl))) (pg_tup rfl (pgs_cons (pg_name (i := 4) sc_exits.nd rfl (.inr rfl)) (pgs_cons (pg_name (i := 5) sc_exits.nd rfl (.inl rfl)) (pgs_cons (pg_name (i := 6) sc_exits.nd rfl (.inl rfl)) pgs_nil))))
       (pss_one (ps_if (PW.pt (pw_and (pt_cmpR op_in_seq (pv 1) (pv 5) (by rfl)) (pw_and1 (pt_cmpR op_notIn_seq (pv 4) (pv 2) (by rfl)))))
        (pss_one (ps_expr (pe_bm PySem.F.plainAttrs_list PySem.F.slot_list_extend PySem.F.type_list_extend mt_extend (pv 3) (pa_cons (pe_lc (own := [("other", 7)]) (by rfl) sc_exits.nd (pi_tup (pv 5)) (blkOk_by (own := [("other", 7)]) (N := ["world", "region", "without", "ways", "name", "those", "kind", "other"]) (sc := defScope st_exits) (by decide +kernel)) (fun _ _ _ _ _ => (pg_name (i := 7) sc_exits.nd rfl (.inl rfl))) (fun _ _ _ _ _ => (pts_one (pt_cmpR op_ne (pv 7) (pv 1) (nomark _)))) (fun _ _ _ _ _ => (pe_tup (pa_cons (pv 4) (pa_cons (pv 7) pa_nil))))) pa_nil))))
        pss_nil)))
      (pss_one (ps_ret (pv 3))))), ?_⟩
    refine ⟨(by show 0 ≤ sizeLine; decide), fun D nD => ?_⟩
    have z0 := same_new nD (o := .lst [])
    have hw0 := hw.same z0
    have hlen := Paired.length hw.each
    refine ⟨_, rfl, wa, _, 1, .ref g, rfl, rfl, SqT.of hw0.top, atI_nat (j := 1) rfl, g, rfl, ⟨_, SqT.of hw0.gat⟩, for_it (walk_tup (xs := as.map V.ref))
      (fun j σ H' => ∃ (v4 v5 v6 : Option V) (ts : List Addr), σ = [some (.ref wa), some (.str x), some (.ref wo), some (.ref D), v4, v5, v6, none] ∧ Same H H' ∧ H' D = some (.lst (ts.map V.ref)) ∧ Paired (PairAt H') ts (exitsL (gs.take j) bar x))
      ⟨none, none, none, [], rfl, z0, upd_same, .nil⟩ (fun j σ H' _ ⟨_, _, _, _, _, sm, _⟩ => SqT.of (hw.same sm).gat) (fun j v σ H2 H3 hj hP hY => ?_) (fun σ H' hP => ?_)⟩
    · obtain ⟨v4, v5, v6, ts, rfl, sm, hD, prs⟩ := hP
      obtain ⟨rfl, hv⟩ := hY
      rw [List.length_map] at hj
      rw [List.getElem?_map, List.getElem?_eq_getElem hj] at hv
      cases hv
      have hj2 : j < gs.length := by omega
      obtain ⟨gg, hgg, ia, e1, e2⟩ := pair_at (hw.same sm).each (List.getElem?_eq_getElem hj)
      rw [List.getElem?_eq_getElem hj2] at hgg
      have hgj : gs[j] = gg := Option.some.inj hgg
      have step : exitsL (gs.take (j + 1)) bar x = exitsL (gs.take j) bar x ++ (if x ∈ gg.2.1 ∧ gg.1 ∉ bar then (gg.2.1.filter fun y => decide (y ≠ x)).map fun y => (gg.1, y) else []) := by
        unfold exitsL
        rw [List.take_add_one, List.getElem?_eq_getElem hj2, hgj, List.flatMap_append]
        simp
      refine ⟨_, [.str gg.1, .ref ia, .str gg.2.2], rfl, SqT.of e1, rfl, .str gg.1, _, rfl, .ref ia, _, rfl, .str gg.2.2, [], rfl, rfl, ?_⟩
      -- region in those and name not in without
      refine ⟨_, rfl, _, rfl, ia, _, rfl, .inr (SqT.of e2), rfl, flat_strs _, _, rfl, ?_⟩
      rw [inV_str]
      by_cases c1 : x ∈ gg.2.1
      · rw [decide_eq_true c1]
        refine iteT ⟨_, rfl, _, rfl, wo, _, rfl, .inr (sameT sm hwo), rfl, flat_strs _, _, rfl, ?_⟩
        rw [inV_str]
        by_cases c2 : gg.1 ∈ bar
        · rw [decide_eq_true c2]
          refine iteF ⟨_, _, _, ts, rfl, sm, hD, ?_⟩
          rw [step, if_neg fun z => z.2 c2, List.append_nil]
          exact prs
        · rw [decide_eq_false c2]
          refine iteT ?_
          rw [if_pos ⟨c1, c2⟩] at step
          refine ⟨_, rfl, .inl ⟨rfl, _, SqL.of hD⟩, _, rfl, ia, rfl, ⟨_, SqT.of e2⟩, fun L nL => lc_tup (K := K) (a := ia) (xs := gg.2.1.map V.str) (fun m H' => Same H3 H' ∧ ∃ us : List Addr, H' L = some (.lst (us.map V.ref)) ∧ Paired (PairAt H') us (((gg.2.1.take m).filter fun y => decide (y ≠ x)).map fun y => (gg.1, y)))
            ⟨same_new nL, [], upd_same, .nil⟩ (fun m H' _ ⟨s', _⟩ => SqT.of (s' _ _ e2)) (fun m v H4 hm hP => ?_) fun H4 hP => ?_⟩
          · obtain ⟨s4, us, hL, pu⟩ := hP
            rw [List.getElem?_map] at hm
            obtain ⟨y, hy, rfl⟩ := Option.map_eq_some_iff.mp hm
            have stp : (gg.2.1.take (m + 1)).filter (fun y => decide (y ≠ x)) = (gg.2.1.take m).filter (fun y => decide (y ≠ x)) ++ (if y ≠ x then [y] else []) := by
              rw [List.take_add_one, hy, List.filter_append]
              by_cases c : y = x
              · rw [if_neg fun z => z c]
                simp [c]
              · rw [if_pos c]
                simp [c]
            refine ⟨rfl, _, rfl, _, rfl, rfl, _, rfl, ?_⟩
            by_cases c : y = x
            · subst c
              rw [show (!decide (V.str y = V.str y)) = false by simp]
              refine iteF ⟨s4, us, hL, ?_⟩
              rw [stp, if_neg fun z => z rfl, List.append_nil]
              exact pu
            · rw [show (!decide (V.str y = V.str x)) = true by simp [c]]
              refine iteT ⟨_, rfl, _, rfl, (by show 2 ≤ sizeLine; decide), fun t nt => ?_⟩
              have z5 := same_new nt (o := .tup [.str gg.1, .str y])
              have hul : us.length ≤ 100 := by
                have e := Paired.length pu
                rw [List.length_map] at e
                have l1 := List.length_filter_le (fun y => decide (y ≠ x)) (gg.2.1.take m)
                have l2 : (gg.2.1.take m).length ≤ gg.2.1.length := by rw [List.length_take]; exact Nat.min_le_right _ _
                have l3 := hil gg (hgj ▸ List.getElem_mem hj2)
                omega
              have keepL : ∀ (c : Addr) (xs : List V) (o : HO), upd H4 t (.tup [.str gg.1, .str y]) c = some (.tup xs) → upd (upd H4 t (.tup [.str gg.1, .str y])) L o c = some (.tup xs) := fun c xs o e => by
                rw [upd_ne (ne_of e (z5 _ _ hL) (by intro z; cases z))]
                exact e
              refine ⟨_, z5 _ _ hL, ?_, ?_, us ++ [t], ?_, ?_⟩
              · rw [List.length_map]
                exact Nat.lt_of_le_of_lt hul (by decide)
              · intro c o ec
                rw [upd_ne (ne_of_none ec nL)]
                exact z5 _ _ (s4 _ _ ec)
              · rw [upd_same, List.map_append]
                rfl
              · rw [stp, if_pos c, List.map_append]
                exact pair_snoc (Paired.mapP pu fun c e h => keepL _ _ _ (z5 _ _ h)) (keepL _ _ _ upd_same)
          · obtain ⟨s4, us, hL, pu⟩ := hP
            rw [List.length_map, List.take_length] at pu
            have hD4 := s4 _ _ hD
            have nLD : L ≠ D := Ne.symm (ne_of_none hD nL)
            refine ⟨D, L, _, _, rfl, rfl, hD4, hL, ?_, ?_⟩
            · rw [List.length_map, List.length_map]
              have a1 := Paired.length prs
              have a2 := Paired.length pu
              have b1 := exits_len (gs := gs.take j) (bar := bar) (x := x) fun g hg => hil g (List.mem_of_mem_take hg)
              have b2 : (gs.take j).length ≤ gs.length := by rw [List.length_take]; exact Nat.min_le_right _ _
              have b3 : ((gg.2.1.filter fun y => decide (y ≠ x)).map fun y => (gg.1, y)).length ≤ 100 := by
                rw [List.length_map]
                exact Nat.le_trans (List.length_filter_le _ _) (hil gg (hgj ▸ List.getElem_mem hj2))
              have b4 : (gs.take j).length * 100 ≤ 100 * 100 := Nat.mul_le_mul (by omega) (by omega)
              exact Nat.le_trans (show ts.length + us.length ≤ 20000 by omega) (by decide)
            · have keepD : ∀ (c : Addr) (xs : List V) (o : HO), H4 c = some (.tup xs) → upd H4 D o c = some (.tup xs) := fun c xs o e => by
                rw [upd_ne (ne_of e hD4 (by intro z; cases z))]
                exact e
              refine ⟨_, _, _, ts ++ us, rfl, ?_, ?_, ?_⟩
              · intro c o ec
                rw [upd_ne (ne_of_none ec nD)]
                exact s4 _ _ (sm _ _ ec)
              · rw [upd_same, List.map_append]
              · rw [step]
                exact pair_app (Paired.mapP prs fun c e h => keepD _ _ _ (s4 _ _ h)) (Paired.mapP pu fun c e h => keepD _ _ _ h)
      · rw [decide_eq_false c1]
        refine iteF (iteF ⟨_, _, _, ts, rfl, sm, hD, ?_⟩)
        rw [step, if_neg fun z => c1 z.1, List.append_nil]
        exact prs
    · obtain ⟨v4, v5, v6, ts, rfl, sm, hD, prs⟩ := hP
      rw [List.length_map, hlen, List.take_length] at prs
      exact ⟨_, rfl, q _ D ts sm nD hD prs⟩
end
end K09

set_option Elab.async false
set_option linter.all false
set_option maxRecDepth 100000
set_option maxHeartbeats 4000000
namespace K09
open PySem PySem.Spec PyProof.Rows L2 WT
abbrev st_shortest_path : Stmt := top 2
theorem sc_shortest_path : FnScope ["world", "one", "other", "without", "paths", "farthest", "reached", "region", "name", "behind"] ["world", "one", "other", "without"] (defScope st_shortest_path) := ⟨rfl, rfl, rfl, by decide +kernel, rfl, by decide +kernel, by decide +kernel⟩
section
variable {P : Program} {w : World} {K : PySem.W.Frag} {mg : Str → Option Value} {base : Heap} {f fE : Addr} {fd fdE : FuncData}
/-- shortest_path(world, one, other, without): there is one exactly if they are connected -/
def spShort (K : PySem.W.Frag) : Sp := fun vs H Q _ => ∃ (wa r g wo : Addr) (as : List Addr) (rs : List Str) (gs : List Gt) (one other : Str) (bar : List Str), vs = [.ref wa, .str one, .str other, .ref wo] ∧ WorldAt H wa r g as rs gs ∧ SqT K H wo (bar.map V.str) ∧ rs.length ≤ 100 ∧ gs.length ≤ 100 ∧
  (∀ g ∈ gs, g.2.1.length ≤ 100 ∧ ∀ y ∈ g.2.1, y ∈ rs) ∧ one ∈ rs ∧ ∀ (H' : Hp) (v : V), Same H H' → (v ≠ .non ↔ Conn gs bar one other) → Q v H'
theorem ok_shortest_path (F : Fun K "shortest_path" "shortest_path" st_shortest_path f fd) (F_exits : Df P w K mg base "exits" 1 fE fdE ["world", "region", "without"] (spExits K)) : FnG P w K mg base CX0 2 f fd ["world", "one", "other", "without"] (spShort K) := by
  refine okG F sc_shortest_path (fun vs H Q E h => ?_) (fun cdv A outer s H vs Q E hgd hr h => ?_)
  · obtain ⟨_, _, _, _, _, _, _, _, _, _, rfl, _⟩ := h
    rfl
  · obtain ⟨wa, r, g, wo, as, rs, gs, one, other, bar, rfl, hw, hwo, hrl, hgl, hil, hone, q⟩ := h
    refine ⟨_, (pss_cons (ps_set (i := 4) sc_shortest_path.nd rfl (.inl rfl) (pe_disp (pps_cons (pv 1) (pe_tup (pa_cons (pv 1) pa_nil)) pps_nil) (by rfl) (by rfl) (fun z => by cases z) (by decide)))
      (pss_cons (ps_set (i := 5) sc_shortest_path.nd rfl (.inl rfl) (pe_lst (pa_cons (pv 1) pa_nil)))
      (pss_cons (ps_while PassesOwn.never (PW.pt (pw_and (pt_truth (pv 5) (by intro _; rfl)) (pw_and1 (pt_cmp (pc_dnotin (hu_of hr) (pv 2) (pv 4))))))
       (pss_cons (ps_set (i := 6) sc_shortest_path.nd rfl (.inl rfl) (pe_lst pa_nil))
       (pss_cons (ps_for PassesOwn.never rfl (pi_list (pv 5)) (pg_name (i := 7) sc_shortest_path.nd rfl (.inl rfl))
        (pss_one (ps_for PassesOwn.never rfl (pi_list (pe_callG hgd F_exits.G (hr.mono (by decide)) (by rfl) F_exits.g F_exits.kp F_exits.bd pass0 (pa_cons (pv 0) (pa_cons (pv 7) (pa_cons (pv 3) pa_nil))))) (pg_tup rfl (pgs_cons (pg_name (i := 8) sc_shortest_path.nd rfl (.inl rfl)) (pgs_cons (pg_name (i := 9) sc_shortest_path.nd rfl (.inl rfl)) pgs_nil)))
         (pss_one (ps_if (pt_cmp (pc_dnotin (hu_of hr) (pv 9) (pv 4)))
          (pss_cons (ps_dput (hu_of hr) (pv 4) (pv 9) (pe_op op_catT (pe_dget (hu_of hr) (pv 4) (pv 7) (fun _ _ => rfl)) (pe_tup (pa_cons (pv 8) (pa_cons (pv 9) pa_nil)))) rfl)
          (pss_one (ps_expr (pe_bm PySem.F.plainAttrs_list PySem.F.slot_list_append PySem.F.type_list_append mt_append (pv 6) (pa_cons (pv 9) pa_nil)))))
          pss_nil)))))
       (pss_one (ps_set (i := 5) sc_shortest_path.nd rfl (.inl rfl) (pv 6))))))
      (pss_one (ps_ret (pe_dget1 (hu_of hr) (pv 4) (pv 2) ⟨by rfl, by rfl, by rfl, by rfl⟩)))))), ?_⟩
    -- paths = {one: (one,)}
    intro d nd
    refine ⟨_, rfl, _, rfl, (by show 1 ≤ sizeLine; decide), fun t0 nt0 => ?_⟩
    have z0 := same_new nd (o := .dK [])
    have z1 := same_new nt0 (o := .tup [.str one])
    have hd1 := z1 _ _ (show (upd H d (.dK [])) d = some (.dK []) from upd_same)
    refine ⟨hd1, [(Sum.inr one, .ref t0)], rfl, (by show 1 ≤ 15; decide), ?_⟩
    -- farthest = [one]
    refine ⟨_, rfl, (by show 1 ≤ sizeLine; decide), fun fl0 nfl0 => ?_⟩
    have ntd : t0 ≠ d := Ne.symm (ne_of_none (show (upd H d (.dK [])) d = some (.dK []) from upd_same) nt0)
    have ht2 : (upd (upd (upd H d (.dK [])) t0 (.tup [.str one])) d (.dK (mergeK [] [(Sum.inr one, .ref t0)]))) t0 = some (.tup [.str one]) := by
      rw [upd_ne ntd]
      exact upd_same
    have z2 := same_new nfl0 (o := .lst [.str one])
    have sm0 : Same H (upd (upd (upd (upd H d (.dK [])) t0 (.tup [.str one])) d (.dK (mergeK [] [(Sum.inr one, .ref t0)]))) fl0 (.lst [.str one])) := fun c o e => by
      refine z2 _ _ ?_
      rw [upd_ne (ne_of_none e nd)]
      exact z1 _ _ (z0 _ _ e)
    have bfs0 : Bfs gs bar rs one (upd (upd (upd (upd H d (.dK [])) t0 (.tup [.str one])) d (.dK (mergeK [] [(Sum.inr one, .ref t0)]))) fl0 (.lst [.str one])) [(Sum.inr one, .ref t0)] [one] :=
      ⟨rfl, by simp, by simp, fun k hk => by rw [List.mem_singleton.mp hk]; exact ⟨.refl, hone⟩, fun p hp => by
        rw [List.mem_singleton.mp hp]
        exact ⟨t0, _, rfl, z2 _ _ ht2, by simp, by simp⟩⟩
    refine ⟨fun m σ H' => ∃ (kvs : List (Key × V)) (ks far : List Str) (fl : Addr) (v6 v7 v8 v9 : Option V), σ = [some (.ref wa), some (.str one), some (.str other), some (.ref wo), some (.ref d), some (.ref fl), v6, v7, v8, v9] ∧ Same H H' ∧ H fl = none ∧ H' d = some (.dK kvs) ∧ H' fl = some (.lst (far.map V.str)) ∧
        Bfs gs bar rs one H' kvs ks ∧ (∀ k ∈ far, k ∈ ks) ∧ (∀ k ∈ ks, k ∉ far → ∀ z, Adj gs bar k z → z ∈ ks) ∧ m = 2 * (rs.length - ks.length) + (if far = [] then 0 else 1),
      ⟨_, [(Sum.inr one, .ref t0)], [one], [one], fl0, none, none, none, none, rfl, sm0, ?_, ?_, upd_same, bfs0, fun k hk => hk, fun k hk nk => absurd hk nk, rfl⟩, fun m σ H' hW => ?_⟩
    · cases e : H fl0 with
      | none => rfl
      | some o =>
        have : (upd (upd (upd H d (.dK [])) t0 (.tup [.str one])) d (.dK (mergeK [] [(Sum.inr one, .ref t0)]))) fl0 = some o := by
          rw [upd_ne (ne_of_none e nd)]
          exact z1 _ _ (z0 _ _ e)
        rw [nfl0] at this
        cases this
    · exact z2 _ _ upd_same
    obtain ⟨kvs, ks, far, fl, v6, v7, v8, v9, rfl, sm, nfl, hd, hfl, bf, hfar, hcl, rfl⟩ := hW
    -- while farthest and other not in paths
    have ret : (far = [] ∨ other ∈ ks) → Q ((valV kvs (Sum.inr other)).getD .non) H' := fun hdn => q _ _ sm (bf.out hcl hdn)
    refine ⟨_, rfl, _, .inl ⟨_, SqL.of hfl, rfl⟩, ?_⟩
    cases far with
    | nil =>
      refine ifF rfl (ifF rfl ?_)
      exact ⟨_, rfl, d, rfl, .inl ⟨_, .inl hd⟩, _, rfl, _, DGet.k (k := Sum.inr other) hd, ret (.inl rfl)⟩
    | cons y far =>
      refine ifT rfl ⟨_, rfl, _, rfl, d, _, rfl, DGet.k (k := Sum.inr other) hd, _, rfl, ?_⟩
      by_cases ho : other ∈ ks
      · obtain ⟨t, xs, e, _⟩ := bf.get ho
        refine ifF (by rw [e]; rfl) ?_
        exact ⟨_, rfl, d, rfl, .inl ⟨_, .inl hd⟩, _, rfl, _, DGet.k (k := Sum.inr other) hd, ret (.inr ho)⟩
      · refine ifT (by rw [valV_none fun z => ho (bf.mem.mp z)]; rfl) ?_
        generalize hfr : y :: far = fr at *
        have frn : fr ≠ [] := by
          rw [← hfr]
          simp
        clear hfr
        refine ⟨fun σ' H2 => ∃ (kvs2 : List (Key × V)) (rch : List Str) (rl : Addr) (v6 v7 v8 v9 : Option V), σ' = [some (.ref wa), some (.str one), some (.str other), some (.ref wo), some (.ref d), some (.ref rl), v6, v7, v8, v9] ∧ Same H H2 ∧ H rl = none ∧ H2 d = some (.dK kvs2) ∧ H2 rl = some (.lst (rch.map V.str)) ∧
            Bfs gs bar rs one H2 kvs2 (ks ++ rch) ∧ (∀ k ∈ fr, ∀ z, Adj gs bar k z → z ∈ ks ++ rch), ?_, ?_⟩
        · intro σ' H2 hN
          obtain ⟨kvs2, rch, rl, u6, u7, u8, u9, rfl, sm2, nrl, hd2, hrl2, bf2, hcl2⟩ := hN
          have l1 := bf2.len.2
          rw [List.length_append] at l1
          refine ⟨_, ?_, kvs2, ks ++ rch, rch, rl, u6, u7, u8, u9, rfl, sm2, nrl, hd2, hrl2, bf2, fun k hk => List.mem_append_right _ hk, fun k hk nk z hz => ?_, rfl⟩
          · rw [if_neg frn, List.length_append]
            by_cases e : rch = []
            · rw [if_pos e, e]
              simp
            · rw [if_neg e]
              have : 0 < rch.length := List.length_pos_iff.mpr e
              omega
          · rcases List.mem_append.mp hk with hk | hk
            · by_cases kf : k ∈ fr
              · exact hcl2 k kf z hz
              · exact List.mem_append_left _ (hcl k hk kf z hz)
            · exact absurd hk nk
        -- reached = []
        refine ⟨(by show 0 ≤ sizeLine; decide), fun rl nrl => ?_⟩
        have z3 := same_new nrl (o := .lst [])
        have nrlH : H rl = none := sm.free nrl
        have nlf : fl ≠ rl := ne_of_none hfl nrl
        have nld : d ≠ rl := ne_of_none hd nrl
        have nfd : fl ≠ d := ne_of hfl hd (by intro z; cases z)
        refine ⟨_, rfl, fl, rfl, ⟨_, SqL.of (z3 _ _ hfl)⟩, for_it (walk_list (xs := fr.map V.str))
          (fun i σ' H2 => ∃ (kvs2 : List (Key × V)) (rch : List Str) (v7 v8 v9 : Option V), σ' = [some (.ref wa), some (.str one), some (.str other), some (.ref wo), some (.ref d), some (.ref fl), some (.ref rl), v7, v8, v9] ∧ Same H H2 ∧ H2 d = some (.dK kvs2) ∧ H2 fl = some (.lst (fr.map V.str)) ∧ H2 rl = some (.lst (rch.map V.str)) ∧
            Bfs gs bar rs one H2 kvs2 (ks ++ rch) ∧ (∀ k ∈ fr.take i, ∀ z, Adj gs bar k z → z ∈ ks ++ rch))
          ⟨kvs, [], v7, v8, v9, rfl, sm.trans z3, z3 _ _ hd, z3 _ _ hfl, upd_same, by rw [List.append_nil]; exact bf.same fun t xs e => z3 _ _ e, fun k hk => (nomatch hk)⟩ (fun i σ' H2 _ ⟨_, _, _, _, _, _, _, _, h, _⟩ => SqL.of h) (fun i v σ' H2 H3 hi hP hY => ?_) (fun σ' H2 hP => ?_)⟩
        · obtain ⟨kvs2, rch, u7, u8, u9, rfl, sm2, hd2, hfl2, hrl2, bf2, hcl2⟩ := hP
          obtain ⟨rfl, hv⟩ := hY
          rw [List.getElem?_map] at hv
          obtain ⟨x, hx, rfl⟩ := Option.map_eq_some_iff.mp hv
          have hxk : x ∈ ks := hfar x (List.mem_of_getElem? hx)
          refine ⟨_, rfl, _, rfl, _, rfl, wa, r, g, wo, as, rs, gs, x, bar, rfl, hw.same sm2, sameT sm2 hwo, hgl, fun g hg => (hil g hg).1, fun H4 p ts s4 np hp prs => ?_⟩
          have hlp := Paired.length prs
          refine ⟨p, rfl, ⟨_, SqL.of hp⟩, for_it (walk_list (xs := ts.map V.ref))
            (fun j σ' H5 => ∃ (kvs5 : List (Key × V)) (rc5 : List Str) (v8 v9 : Option V), σ' = [some (.ref wa), some (.str one), some (.str other), some (.ref wo), some (.ref d), some (.ref fl), some (.ref rl), some (.str x), v8, v9] ∧ Same H H5 ∧ H5 d = some (.dK kvs5) ∧ H5 fl = some (.lst (fr.map V.str)) ∧ H5 rl = some (.lst (rc5.map V.str)) ∧ H5 p = some (.lst (ts.map V.ref)) ∧
              Paired (PairAt H5) ts (exitsL gs bar x) ∧ Bfs gs bar rs one H5 kvs5 (ks ++ rc5) ∧ (∀ k ∈ fr.take i, ∀ z, Adj gs bar k z → z ∈ ks ++ rc5) ∧ ∀ e ∈ (exitsL gs bar x).take j, e.2 ∈ ks ++ rc5)
            ⟨kvs2, rch, u8, u9, rfl, sm2.trans s4, s4 _ _ hd2, s4 _ _ hfl2, s4 _ _ hrl2, hp, prs, bf2.same fun t xs e => s4 _ _ e, hcl2, fun e he => (nomatch he)⟩ (fun j σ' H5 _ ⟨_, _, _, _, _, _, _, _, _, h, _⟩ => SqL.of h) (fun j v σ' H5 H6 hj hP hY => ?_) (fun σ' H5 hP => ?_)⟩
          · obtain ⟨kvs5, rc5, w8, w9, rfl, sm5, hd5, hfl5, hrl5, hp5, prs5, bf5, hcl5, hex5⟩ := hP
            obtain ⟨rfl, hv⟩ := hY
            rw [List.getElem?_map] at hv
            obtain ⟨t, ht, rfl⟩ := Option.map_eq_some_iff.mp hv
            obtain ⟨e, he, het⟩ := pair_at prs5 ht
            have hem : e ∈ exitsL gs bar x := List.mem_of_getElem? he
            have hadj := exits_adj hem
            have hsnoc : ∀ rc : List Str, (∀ e' ∈ (exitsL gs bar x).take j, e'.2 ∈ ks ++ rc) → e.2 ∈ ks ++ rc → ∀ e' ∈ (exitsL gs bar x).take (j + 1), e'.2 ∈ ks ++ rc := fun rc h1 h2 e' he' => by
              rw [List.take_add_one, he] at he'
              rcases List.mem_append.mp he' with z | z
              · exact h1 e' z
              · have : e' = e := by simpa using z
                rw [this]
                exact h2
            refine ⟨t, [.str e.1, .str e.2], rfl, SqT.of het, rfl, .str e.1, _, rfl, .str e.2, [], rfl, rfl, ?_⟩
            refine ⟨_, rfl, _, rfl, d, _, rfl, DGet.k (k := Sum.inr e.2) hd5, _, rfl, ?_⟩
            by_cases hin : e.2 ∈ ks ++ rc5
            · obtain ⟨t', xs', ev, _⟩ := bf5.get hin
              refine ifF (by rw [ev]; rfl) ?_
              exact ⟨kvs5, rc5, _, _, rfl, sm5, hd5, hfl5, hrl5, hp5, prs5, bf5, hcl5, hsnoc rc5 hex5 hin⟩
            · refine ifT (by rw [valV_none fun z => hin (bf5.mem.mp z)]; rfl) ?_
              obtain ⟨tp, xs, ev, htp, hxs, hxl⟩ := bf5.get (k := x) (List.mem_append_left _ hxk)
              have hkl := bf5.len
              -- paths[behind] = paths[region] + (name, behind)
              refine ⟨_, rfl, _, rfl, d, .ref tp, rfl, by rw [← ev]; exact DGet.k (k := Sum.inr x) hd5, _, rfl, _, rfl, (by show 2 ≤ sizeLine; decide), fun t7 n7 => ?_⟩
              have z7 := same_new n7 (o := .tup [.str e.1, .str e.2])
              refine ⟨tp, t7, xs, [.str e.1, .str e.2], rfl, rfl, SqT.of (z7 _ _ htp), SqT.of upd_same, hxs, ?_, fun z => (List.cons_ne_nil _ _ z).elim, fun _ t8 n8 => ?_⟩
              · show xs.length + 2 ≤ sizeLine
                exact Nat.le_trans (show xs.length + 2 ≤ 300 by omega) (by decide)
              have z8 := same_new n8 (o := .tup (xs ++ [.str e.1, .str e.2]))
              have z78 := z7.trans z8
              have hd8 := z78 _ _ hd5
              refine ⟨_, rfl, _, rfl, d, _, rfl, DPut.k (k := Sum.inr e.2) hd8 ?_, ?_⟩
              · exact Nat.lt_of_le_of_lt (show kvs5.length ≤ 100 by omega) (by decide)
              have bf8 := bf5.same (H' := upd (upd H6 t7 (.tup [.str e.1, .str e.2])) t8 (.tup (xs ++ [.str e.1, .str e.2]))) fun t xs e => z78 _ _ e
              obtain ⟨hput, bf9⟩ := bf8.put (k := e.2) (t := t8) (xs := xs ++ [.str e.1, .str e.2]) hin ((bf5.con x (List.mem_append_left _ hxk)).1.step hadj)
                (by obtain ⟨g', hg', _, _, hy⟩ := hadj; exact (hil g' hg').2 _ hy) upd_same (by simp) (by simp; omega)
              have keepd : ∀ (c : Addr) (xs' : List V) (o : HO), upd (upd H6 t7 (.tup [.str e.1, .str e.2])) t8 (.tup (xs ++ [.str e.1, .str e.2])) c = some (.tup xs') → upd (upd (upd H6 t7 (.tup [.str e.1, .str e.2])) t8 (.tup (xs ++ [.str e.1, .str e.2]))) d o c = some (.tup xs') := fun c xs' o ec => by
                rw [upd_ne (ne_of ec hd8 (by intro z; cases z))]
                exact ec
              have hrl9 : (upd (upd (upd H6 t7 (.tup [.str e.1, .str e.2])) t8 (.tup (xs ++ [.str e.1, .str e.2]))) d (.dK (putK kvs5 (Sum.inr e.2) (.ref t8)))) rl = some (.lst (rc5.map V.str)) := by
                rw [upd_ne (Ne.symm nld)]
                exact z78 _ _ hrl5
              refine ⟨_, rfl, .inl ⟨rfl, _, SqL.of hrl9⟩, _, rfl, rl, _, _, rfl, rfl, hrl9, ?_, ?_⟩
              · rw [List.length_map]
                have := bf5.len.2
                rw [List.length_append] at this
                exact Nat.lt_of_le_of_lt (show rc5.length ≤ 100 by omega) (by decide)
              · have keepr : ∀ (c : Addr) (xs' : List V) (o : HO), (upd (upd (upd H6 t7 (.tup [.str e.1, .str e.2])) t8 (.tup (xs ++ [.str e.1, .str e.2]))) d (.dK (putK kvs5 (Sum.inr e.2) (.ref t8)))) c = some (.tup xs') → upd (upd (upd (upd H6 t7 (.tup [.str e.1, .str e.2])) t8 (.tup (xs ++ [.str e.1, .str e.2]))) d (.dK (putK kvs5 (Sum.inr e.2) (.ref t8)))) rl o c = some (.tup xs') := fun c xs' o ec => by
                  rw [upd_ne (ne_of ec hrl9 (by intro z; cases z))]
                  exact ec
                have app : ks ++ rc5 ++ [e.2] = ks ++ (rc5 ++ [e.2]) := List.append_assoc ..
                refine ⟨kvs5 ++ [(Sum.inr e.2, .ref t8)], rc5 ++ [e.2], _, _, rfl, ?_, ?_, ?_, ?_, ?_, ?_, ?_, ?_, ?_⟩
                · intro c o ec
                  rw [upd_ne (ne_of_none ec nrlH), upd_ne (ne_of_none ec nd)]
                  exact z78 _ _ (sm5 _ _ ec)
                · rw [upd_ne nld, upd_same, hput]
                · rw [upd_ne nlf, upd_ne nfd]
                  exact z78 _ _ hfl5
                · rw [upd_same, List.map_append]
                  rfl
                · have npr : p ≠ rl := fun z => by
                    rw [z, hrl2] at np
                    cases np
                  have npd : p ≠ d := fun z => by
                    rw [z, hd2] at np
                    cases np
                  rw [upd_ne npr, upd_ne npd]
                  exact z78 _ _ hp5
                · exact Paired.mapP prs5 fun c e' hc => keepr _ _ _ (keepd _ _ _ (z78 _ _ hc))
                · rw [← app]
                  exact bf9.same fun t xs e => keepr _ _ _ (keepd _ _ _ e)
                · intro k hk z hz
                  rw [← app]
                  exact List.mem_append_left _ (hcl5 k hk z hz)
                · refine hsnoc _ (fun e' he' => ?_) ?_
                  · rw [← app]
                    exact List.mem_append_left _ (hex5 e' he')
                  · rw [← app]
                    exact List.mem_append_right _ (by simp)
          · obtain ⟨kvs5, rc5, w8, w9, rfl, sm5, hd5, hfl5, hrl5, hp5, prs5, bf5, hcl5, hex5⟩ := hP
            rw [List.length_map, hlp, List.take_length] at hex5
            refine ⟨kvs5, rc5, _, _, _, rfl, sm5, hd5, hfl5, hrl5, bf5, fun k hk z hz => ?_⟩
            rw [List.take_add_one, hx] at hk
            rcases List.mem_append.mp hk with hk | hk
            · exact hcl5 k hk z hz
            · have hkx : k = x := by simpa using hk
              subst hkx
              by_cases hzk : z = k
              · rw [hzk]
                exact List.mem_append_left _ hxk
              · obtain ⟨e, he, rfl⟩ := adj_exits hz hzk
                exact hex5 e he
        · obtain ⟨kvs2, rch, u7, u8, u9, rfl, sm2, hd2, hfl2, hrl2, bf2, hcl2⟩ := hP
          rw [List.length_map, List.take_length] at hcl2
          exact ⟨_, rfl, kvs2, rch, rl, _, _, _, _, rfl, sm2, nrlH, hd2, hrl2, bf2, hcl2⟩
end
end K09

set_option Elab.async false
set_option linter.all false
set_option maxRecDepth 100000
set_option maxHeartbeats 4000000
namespace K09
open PySem PySem.Spec PyProof.Rows L2 WT
abbrev st_connected : Stmt := top 3
theorem sc_connected : FnScope ["world", "one", "other", "without"] ["world", "one", "other", "without"] (defScope st_connected) := ⟨rfl, rfl, rfl, by decide +kernel, rfl, by decide +kernel, by decide +kernel⟩
section
variable {P : Program} {w : World} {K : PySem.W.Frag} {mg : Str → Option Value} {base : Heap} {f fS : Addr} {fd fdS : FuncData}
/-- connected(world, one, other, without) -/
def spConn (K : PySem.W.Frag) : Sp := fun vs H Q _ => ∃ (wa r g wo : Addr) (as : List Addr) (rs : List Str) (gs : List Gt) (one other : Str) (bar : List Str), vs = [.ref wa, .str one, .str other, .ref wo] ∧ WorldAt H wa r g as rs gs ∧ SqT K H wo (bar.map V.str) ∧ rs.length ≤ 100 ∧ gs.length ≤ 100 ∧
  (∀ g ∈ gs, g.2.1.length ≤ 100 ∧ ∀ y ∈ g.2.1, y ∈ rs) ∧ one ∈ rs ∧ ∀ (H' : Hp) (c : Bool), Same H H' → (c = true ↔ Conn gs bar one other) → Q (.bl c) H'
theorem ok_connected (F : Fun K "connected" "connected" st_connected f fd) (F_shortest_path : Df P w K mg base "shortest_path" 2 fS fdS ["world", "one", "other", "without"] (spShort K)) : FnG P w K mg base CX0 3 f fd ["world", "one", "other", "without"] (spConn K) := by
  refine okG F sc_connected (fun vs H Q E h => ?_) (fun cdv A outer s H vs Q E hgd hr h => ?_)
  · obtain ⟨_, _, _, _, _, _, _, _, _, _, rfl, _⟩ := h
    rfl
  · obtain ⟨wa, r, g, wo, as, rs, gs, one, other, bar, rfl, hw, hwo, hrl, hgl, hil, hone, q⟩ := h
    refine ⟨_, (pss_one (ps_ret (pe_cmpR op_notN (pe_callG hgd F_shortest_path.G (hr.mono (by decide)) (by rfl) F_shortest_path.g F_shortest_path.kp F_shortest_path.bd pass0 (pa_cons (pv 0) (pa_cons (pv 1) (pa_cons (pv 2) (pa_cons (pv 3) pa_nil))))) pe_non (nomark _)))), ?_⟩
    refine ⟨_, rfl, _, rfl, _, rfl, _, rfl, wa, r, g, wo, as, rs, gs, one, other, bar, rfl, hw, hwo, hrl, hgl, hil, hone, fun H' v sm hv => ⟨rfl, q H' _ sm ?_⟩⟩
    rw [← hv]
    simp
/-- how connected is called: with its keyword, and without it -/
theorem dk_connected {T D : Addr} {oc : Value} {od : Option Addr} {doc pm : Value} {an : Option Addr} {cdv ct : Value} {osl : Array (Option Value)}
    (hfd : fd = PySem.W.fnOf "connected" "connected" (defArgs st_connected) (defBody st_connected) (defScope st_connected) .none (.ref D) doc pm an cdv ct) (lk : K.lookup f = some ⟨oc, od, .func fd, osl⟩) (hcd : PySem.W.codeIn K cdv "connected" = true)
    (kp : PySem.W.keepIn K (.ref f) = true) (hns : PySem.W.nsIn K D "without" = some (some (.ref T))) (g : mg "connected" = some (.ref f)) (G : FnG P w K mg base CX0 3 f fd ["world", "one", "other", "without"] (spConn K)) :
    Dk P w K mg base "connected" 3 f fd ["world", "one", "other", "without"] 3 "without" (.ref T) (spConn K) where
  g := g
  kp := kp
  G := G
  kb := fun s1 us ws X l1 l2 => by
    subst hfd
    match us, ws, l1, l2 with
    | [_, _, _], [_], _, _ => exact .of_eq rfl
  bd := by
    have F : FunD K "connected" "connected" (defArgs st_connected) (defBody st_connected) (defScope st_connected) [] [("without", .ref T)] f fd :=
      ⟨⟨oc, od, .none, .ref D, doc, pm, an, cdv, ct, osl, hfd, lk, hcd, .inl ⟨rfl, rfl⟩, .inr ⟨D, rfl, fun q hq => by
        rw [List.mem_singleton.mp hq]
        exact ⟨.ref T, hns, rfl⟩⟩⟩, kp⟩
    refine F.binds0 (ps := ["world", "one", "other", "without"]) 3 (by simp) rfl fun D doc pm an cdv ct us ks l1 l2 => ?_
    match us, ks, l1, l2 with
    | [_, _, _], [_], _, _ => exact ⟨_, _, _, _, _, _, rfl, rfl, rfl⟩
end
end K09

set_option Elab.async false
set_option linter.all false
set_option maxRecDepth 100000
set_option maxHeartbeats 4000000
namespace K09
open PySem PySem.Spec PyProof.Rows L2 WT
abbrev st_groups : Stmt := top 12
theorem sc_groups : FnScope ["_law_world_here", "_law_barred", "_law_group", "_law_turn", "_law_name", "_law_inside", "_law_kind", "_law_least", "_law_region", "_law_at", "_law_other"] ["_law_world_here", "_law_barred"] (defScope st_groups) := ⟨rfl, rfl, rfl, by decide +kernel, rfl, by decide +kernel, by decide +kernel⟩
theorem inV_int (x : Int) : ∀ xs : List Int, inV (.int x) (xs.map V.int) = decide (x ∈ xs)
  | [] => by simp [inV]
  | s :: ss => by
    have ih := inV_int x ss
    unfold inV at ih ⊢
    rw [List.map_cons, List.any_cons, ih]
    by_cases h : x = s
    · subst h
      simp [eqV]
    · have : ¬ s = x := fun z => h z.symm
      simp [eqV, h, this]
theorem flat_ints : ∀ xs : List Int, (xs.map V.int).all flatV = true
  | [] => rfl
  | _ :: xs => by
    rw [List.map_cons, List.all_cons, flat_ints xs]
    rfl
theorem kvs_keys (rs : List Str) (lab : Str → Int) : (labK rs lab).map (fun kv => kV kv.1) = rs.map V.str := by
  unfold labK
  rw [List.map_map]
  rfl
theorem kvs_len (rs : List Str) (lab : Str → Int) : (labK rs lab).length = rs.length := by
  unfold labK
  rw [List.length_map]
theorem dget_lab {H : Hp} {d : Addr} {rs : List Str} {lab : Str → Int} {x : Str} (h : H d = some (.dK (labK rs lab))) (hx : x ∈ rs) : DGet H d (.str x) (some (.int (lab x))) := by
  rw [← val_labK (lab := lab) hx]
  exact DGet.k (k := Sum.inr x) h
section
variable {P : Program} {w : World} {K : PySem.W.Frag} {mg : Str → Option Value} {base : Heap} {f : Addr} {fd : FuncData}
/-- groups(world, barred): a label for each region, equal ones exactly where they are connected -/
def spGroups (K : PySem.W.Frag) : Sp := fun vs H Q _ => ∃ (wa r g ba : Addr) (as : List Addr) (rs : List Str) (gs : List Gt) (bar : List Str), vs = [.ref wa, .ref ba] ∧ WorldAt H wa r g as rs gs ∧ SqT K H ba (bar.map V.str) ∧ rs.Nodup ∧ rs.length ≤ 100 ∧
  (∀ g ∈ gs, g.2.1 ≠ [] ∧ g.2.1.length ≤ 100 ∧ ∀ y ∈ g.2.1, y ∈ rs) ∧ ∀ (H' : Hp) (d : Addr) (lab : Str → Int), Same H H' → H' d = some (.dK (labK rs lab)) → (∀ x ∈ rs, ∀ y ∈ rs, lab x = lab y ↔ Conn gs bar x y) → Q (.ref d) H'
theorem ok_groups (F : Fun K "_law_groups" "_law_groups" st_groups f fd) (B : Blt mg) : FnG P w K mg base CX0 1 f fd ["_law_world_here", "_law_barred"] (spGroups K) := by
  refine okG F sc_groups (fun vs H Q E h => ?_) (fun cdv A outer s H vs Q E hgd hr h => ?_)
  · obtain ⟨_, _, _, _, _, _, _, _, rfl, _⟩ := h
    rfl
  · obtain ⟨wa, r, g, ba, as, rs, gs, bar, rfl, hw, hba, nd, hrl, hgs, q⟩ := h
    refine ⟨_, (pss_cons (ps_set (i := 2) sc_groups.nd rfl (.inr rfl) (pe_callTy (call_dictP rfl) (by rfl) B.dict (by decide +kernel) (pa_cons (pe_lc (own := [("_law_at", 9), ("_law_region", 8)]) (by rfl) sc_groups.nd (pi_enumT (by rfl) B.enumerate (pa_cons (pe_ix ix_tup (pv 0) pe_int (fun _ _ => rfl)) pa_nil)) (blkOk_by (own := [("_law_at", 9), ("_law_region", 8)]) (N := ["_law_world_here", "_law_barred", "_law_group", "_law_turn", "_law_name", "_law_inside", "_law_kind", "_law_least", "_law_region", "_law_at", "_law_other"]) (sc := defScope st_groups) (by decide +kernel)) (fun _ _ _ _ _ => (pg_tupK (K := K) (n := 2) rfl (pgs_cons (pg_name (i := 9) sc_groups.nd rfl (.inl rfl)) (pgs_cons (pg_name (i := 8) sc_groups.nd rfl (.inl rfl)) pgs_nil)))) (fun _ _ _ _ _ => pts_nil) (fun _ _ _ _ _ => (pe_tup (pa_cons (pv 8) (pa_cons (pv 9) pa_nil))))) pa_nil)))
      (pss_cons (ps_for PassesOwn.never rfl (pi_tup (pe_ix ix_tup (pv 0) pe_int (fun _ _ => rfl))) (pg_name (i := 3) sc_groups.nd rfl (.inl rfl))
       (pss_one (ps_for PassesOwn.never rfl (pi_tup (pe_ix ix_tup (pv 0) pe_int (fun _ _ => rfl))) (pg_tup rfl (pgs_cons (pg_name (i := 4) sc_groups.nd rfl (.inl rfl)) (pgs_cons (pg_name (i := 5) sc_groups.nd rfl (.inl rfl)) (pgs_cons (pg_name (i := 6) sc_groups.nd rfl (.inl rfl)) pgs_nil))))
        (pss_one (ps_if (pt_cmpR op_notIn_seq (pv 4) (pv 1) (by rfl))
         (pss_cons (ps_set (i := 7) sc_groups.nd rfl (.inl rfl) (pe_callB (cr_min rfl) (by rfl) B.min (by decide +kernel) (pa_cons (pe_lc (own := [("_law_region", 8)]) (by rfl) sc_groups.nd (pi_tup (pv 5)) (blkOk_by (own := [("_law_region", 8)]) (N := ["_law_world_here", "_law_barred", "_law_group", "_law_turn", "_law_name", "_law_inside", "_law_kind", "_law_least", "_law_region", "_law_at", "_law_other"]) (sc := defScope st_groups) (by decide +kernel)) (fun _ _ _ _ _ => (pg_name (i := 8) sc_groups.nd rfl (.inl rfl))) (fun _ _ _ _ _ => pts_nil) (fun _ _ _ _ _ => (pe_dget (hu_of hr) (pv 2) (pv 8) (fun _ _ => rfl)))) pa_nil)))
         (pss_one (ps_for PassesOwn.never rfl (pi_list (pe_callTy (call_list_dK rfl) (by rfl) B.list (by decide +kernel) (pa_cons (pv 2) pa_nil))) (pg_name (i := 8) sc_groups.nd rfl (.inl rfl))
          (pss_one (ps_if (pt_cmpR op_in_seq (pe_dget (hu_of hr) (pv 2) (pv 8) (fun _ _ => rfl)) (pe_lc (own := [("_law_other", 10)]) (by rfl) sc_groups.nd (pi_tup (pv 5)) (blkOk_by (own := [("_law_other", 10)]) (N := ["_law_world_here", "_law_barred", "_law_group", "_law_turn", "_law_name", "_law_inside", "_law_kind", "_law_least", "_law_region", "_law_at", "_law_other"]) (sc := defScope st_groups) (by decide +kernel)) (fun _ _ _ _ _ => (pg_name (i := 10) sc_groups.nd rfl (.inl rfl))) (fun _ _ _ _ _ => pts_nil) (fun _ _ _ _ _ => (pe_dget (hu_of hr) (pv 2) (pv 10) (fun _ _ => rfl)))) (by rfl))
           (pss_one (ps_dput (hu_of hr) (pv 2) (pv 8) (pv 7) rfl))
           pss_nil)))))
         pss_nil)))))
      (pss_one (ps_ret (pv 2))))), ?_⟩
    refine ⟨_, rfl, wa, _, 0, .ref r, rfl, rfl, SqT.of hw.top, atI_nat (j := 0) rfl, r, _, rfl, SqT.of hw.reg, fun D nD => ?_⟩
    have z0 := same_new nD (o := .lst [])
    have hmem : ∀ g ∈ gs, ∀ z ∈ g.2.1, z ∈ rs := fun g hg => (hgs g hg).2.2
    have hlen := Paired.length hw.each
    refine lc_it walk_enumT (fun j H' => ∃ ps : List Addr, Same H H' ∧ H' D = some (.lst (ps.map V.ref)) ∧ Paired (fun p (kv : Key × V) => H' p = some (.tup [kV kv.1, kv.2])) ps (labK (rs.take j) (idxS rs)))
      ⟨[], z0, upd_same, .nil⟩ (fun j H' _ ⟨_, sm, _⟩ => SqT.of (sm _ _ hw.reg)) (fun j x H2 H3 hj hP hY => ?_) fun H2 hP => ?_
    · obtain ⟨ps, sm, hD, prs⟩ := hP
      obtain ⟨T, x', y, rfl, nT, rfl, e1, e2⟩ := hY
      cases e1
      rw [List.length_map] at hj
      have e2 : (rs.map V.str)[j]? = some y := e2
      rw [List.getElem?_map, List.getElem?_eq_getElem hj] at e2
      cases e2
      have zT := same_new nT (o := .tup [.int ((j : Nat) : Int), .str rs[j]])
      refine ⟨T, _, rfl, SqT.of upd_same, rfl, _, _, rfl, _, [], rfl, rfl, rfl, _, rfl, _, rfl, (by show 2 ≤ sizeLine; decide), fun t nt => ?_⟩
      have zt := same_new nt (o := .tup [.str rs[j], .int ((j : Nat) : Int)])
      have hD2 := zt _ _ (zT _ _ hD)
      have hpl := Paired.length prs
      rw [kvs_len, List.length_take] at hpl
      refine ⟨_, hD2, ?_, ps ++ [t], ?_, ?_, ?_⟩
      · rw [List.length_map]
        exact Nat.lt_of_le_of_lt (show ps.length ≤ 100 by omega) (by decide)
      · intro c o ec
        rw [upd_ne (ne_of_none ec nD)]
        exact zt _ _ (zT _ _ (sm _ _ ec))
      · rw [upd_same, List.map_append]
        rfl
      · have keepD : ∀ (c : Addr) (xs : List V) (o : HO), upd (upd H2 T (.tup [.int ((j : Nat) : Int), .str rs[j]])) t (.tup [.str rs[j], .int ((j : Nat) : Int)]) c = some (.tup xs) → upd (upd (upd H2 T (.tup [.int ((j : Nat) : Int), .str rs[j]])) t (.tup [.str rs[j], .int ((j : Nat) : Int)])) D o c = some (.tup xs) := fun c xs o e => by
          rw [upd_ne (ne_of e hD2 (by intro z; cases z))]
          exact e
        have st : labK (rs.take (j + 1)) (idxS rs) = labK (rs.take j) (idxS rs) ++ [(Sum.inr rs[j], .int ((j : Nat) : Int))] := by
          rw [List.take_add_one, List.getElem?_eq_getElem hj]
          unfold labK
          rw [List.map_append, ← idxS_at nd (List.getElem?_eq_getElem hj)]
          rfl
        rw [st]
        exact pair_snoc (Paired.mapP prs fun _ _ z => keepD _ _ _ (zt _ _ (zT _ _ z))) (keepD _ _ _ upd_same)
    · obtain ⟨ps, sm, hD, prs⟩ := hP
      rw [List.length_map, List.take_length] at prs
      refine ⟨D, ps, _, rfl, SqL.of hD, Paired.mapP prs (fun _ _ z => SqT.of z), fun d nd' => ?_⟩
      rw [show mergeK [] (labK rs (idxS rs)) = labK rs (idxS rs) from merge_labK rs [] nd]
      have ndH : H d = none := sm.free nd'
      have sm1 := sm.trans (same_new nd' (o := .dK (labK rs (idxS rs))))
      -- for turn in the regions
      refine ⟨_, rfl, wa, _, 0, .ref r, rfl, rfl, SqT.of (hw.same sm1).top, atI_nat (j := 0) rfl, r, rfl, ⟨_, SqT.of (hw.same sm1).reg⟩, for_it (walk_tup (xs := rs.map V.str))
        (fun t σ H' => ∃ (lab : Str → Int) (v3 v4 v5 v6 v7 v8 : Option V), σ = [some (.ref wa), some (.ref ba), some (.ref d), v3, v4, v5, v6, v7, v8, none, none] ∧ Same H H' ∧ H' d = some (.dK (labK rs lab)) ∧ Lab gs bar rs lab ∧ LowL gs bar rs t lab)
        ⟨idxS rs, none, none, none, none, none, none, rfl, sm1, upd_same, lab_first nd, low_first nd⟩ (fun t σ H' _ ⟨_, _, _, _, _, _, _, _, s', _⟩ => SqT.of (hw.same s').reg) (fun t v σ H3 H4 ht hP hY => ?_) (fun σ H3 hP => ?_)⟩
      · obtain ⟨lab, v3, v4, v5, v6, v7, v8, rfl, sm3, hd3, L3, W3⟩ := hP
        obtain ⟨rfl, _⟩ := hY
        refine ⟨_, rfl, wa, _, 1, .ref g, rfl, rfl, SqT.of (hw.same sm3).top, atI_nat (j := 1) rfl, g, rfl, ⟨_, SqT.of (hw.same sm3).gat⟩, for_it (walk_tup (xs := as.map V.ref))
          (fun j σ H' => ∃ (lab2 : Str → Int) (v4 v5 v6 v7 v8 : Option V), σ = [some (.ref wa), some (.ref ba), some (.ref d), some v, v4, v5, v6, v7, v8, none, none] ∧ Same H H' ∧ H' d = some (.dK (labK rs lab2)) ∧ Pass gs bar rs lab j lab2)
          ⟨lab, v4, v5, v6, v7, v8, rfl, sm3, hd3, pass_first L3⟩ (fun j σ H' _ ⟨_, _, _, _, _, _, _, s', _⟩ => SqT.of (hw.same s').gat) (fun j u σ H5 H6 hj hP hY => ?_) (fun σ H5 hP => ?_)⟩
        · obtain ⟨lab2, v4, v5, v6, v7, v8, rfl, sm5, hd5, P5⟩ := hP
          obtain ⟨rfl, hu⟩ := hY
          rw [List.length_map] at hj
          rw [List.getElem?_map, List.getElem?_eq_getElem hj] at hu
          cases hu
          have hj2 : j < gs.length := by omega
          obtain ⟨gg, hgg, ia, e1, e2⟩ := pair_at (hw.same sm5).each (List.getElem?_eq_getElem hj)
          have ggm : gg ∈ gs := List.mem_of_getElem? hgg
          obtain ⟨gne, gl, gsub⟩ := hgs gg ggm
          refine ⟨_, [.str gg.1, .ref ia, .str gg.2.2], rfl, SqT.of e1, rfl, .str gg.1, _, rfl, .ref ia, _, rfl, .str gg.2.2, [], rfl, rfl, ?_⟩
          refine ⟨_, rfl, _, rfl, ba, _, rfl, .inr (sameT sm5 hba), rfl, flat_strs _, _, rfl, ?_⟩
          rw [inV_str]
          by_cases c1 : gg.1 ∈ bar
          · rw [decide_eq_true c1]
            exact iteF ⟨lab2, _, _, _, _, _, rfl, sm5, hd5, P5.skip hgg c1⟩
          · rw [decide_eq_false c1]
            refine iteT ?_
            -- least = min of the members' labels
            refine ⟨_, rfl, ia, rfl, ⟨_, SqT.of e2⟩, fun L nL => lc_tup (K := K) (a := ia) (xs := gg.2.1.map V.str) (fun m H' => Same H6 H' ∧ H' L = some (.lst ((gg.2.1.take m).map fun y => V.int (lab2 y))))
              ⟨same_new nL, upd_same⟩ (fun m H' _ ⟨s', _⟩ => SqT.of (s' _ _ e2)) (fun m v H7 hm hP => ?_) fun H7 hP => ?_⟩
            · obtain ⟨s7, hL⟩ := hP
              rw [List.getElem?_map] at hm
              obtain ⟨y, hy, rfl⟩ := Option.map_eq_some_iff.mp hm
              refine ⟨rfl, _, rfl, _, rfl, d, .int (lab2 y), rfl, dget_lab (s7 _ _ hd5) (gsub y (List.mem_of_getElem? hy)), _, hL, ?_, ?_, ?_⟩
              · rw [List.length_map, List.length_take]
                exact Nat.lt_of_le_of_lt (show min m gg.2.1.length ≤ 100 by omega) (by decide)
              · intro c o ec
                rw [upd_ne (ne_of_none ec nL)]
                exact s7 _ _ ec
              · rw [upd_same, List.take_add_one, hy, List.map_append]
                rfl
            · obtain ⟨s7, hL⟩ := hP
              rw [List.length_map, List.take_length] at hL
              refine ⟨L, gg.2.1.map lab2, rfl, SqL.of (by rw [hL, List.map_map]; rfl), by rw [List.length_map]; exact List.length_pos_iff.mpr gne, fun least hm1 hm2 => ?_⟩
              obtain ⟨m0, hm0, e0⟩ := List.mem_map.mp hm1
              have hlow : ∀ m ∈ gg.2.1, least ≤ lab2 m := fun m hm => hm2 _ (List.mem_map.mpr ⟨m, hm, rfl⟩)
              have hd7 := s7 _ _ hd5
              have sm7 := sm5.trans s7
              -- for region in list(group)
              refine ⟨_, rfl, d, _, rfl, hd7, fun l nl => ?_⟩
              rw [kvs_keys]
              have zl := same_new nl (o := .lst (rs.map V.str))
              have nlH : H l = none := sm7.free nl
              have nld : l ≠ d := Ne.symm (ne_of_none hd7 nl)
              refine ⟨l, rfl, ⟨_, SqL.of upd_same⟩, for_it (walk_list (xs := rs.map V.str))
                (fun i σ H' => ∃ (lab3 : Str → Int) (v8 : Option V), σ = [some (.ref wa), some (.ref ba), some (.ref d), some v, some (.str gg.1), some (.ref ia), some (.str gg.2.2), some (.int least), v8, none, none] ∧ Same H H' ∧ H' l = some (.lst (rs.map V.str)) ∧ H' d = some (.dK (labK rs lab3)) ∧ Mid gs bar rs gg.2.1 lab2 least i lab3)
                ⟨lab2, v8, rfl, sm7.trans zl, upd_same, zl _ _ hd7, ⟨P5.lb, fun _ _ => Int.le_refl _, hlow, fun m _ h => nomatch h⟩⟩ (fun i σ H' _ ⟨_, _, _, _, h, _⟩ => SqL.of h) (fun i u σ H8 H9 hi hP hY => ?_) (fun σ H8 hP => ?_)⟩
              · obtain ⟨lab3, w8, rfl, sm8, hl8, hd8, M8⟩ := hP
                obtain ⟨rfl, hu⟩ := hY
                rw [List.getElem?_map] at hu
                obtain ⟨x, hx, rfl⟩ := Option.map_eq_some_iff.mp hu
                have xr : x ∈ rs := List.mem_of_getElem? hx
                have e28 := (hw.same sm8)
                have e2h : H9 ia = some (.tup (gg.2.1.map V.str)) := by
                  obtain ⟨g8, hg8, i8, e18, e28⟩ := pair_at (hw.same sm8).each (List.getElem?_eq_getElem hj)
                  rw [hgg] at hg8
                  cases hg8
                  obtain ⟨g9, hg9, i9, f1, f2⟩ := pair_at hw.each (List.getElem?_eq_getElem hj)
                  rw [hgg] at hg9
                  cases hg9
                  have a1 := sm5 _ _ f1
                  rw [e1] at a1
                  have : ia = i9 := by
                    simp at a1
                    exact a1
                  rw [this]
                  exact sm8 _ _ f2
                -- if group[region] in [group[other] for other in inside]
                refine ⟨_, rfl, _, rfl, d, .int (lab3 x), rfl, dget_lab hd8 xr, ?_⟩
                refine ⟨_, rfl, ia, rfl, ⟨_, SqT.of e2h⟩, fun L2 nL2 => lc_tup (K := K) (a := ia) (xs := gg.2.1.map V.str) (fun m H' => Same H9 H' ∧ H' L2 = some (.lst ((gg.2.1.take m).map fun y => V.int (lab3 y))))
                  ⟨same_new nL2, upd_same⟩ (fun m H' _ ⟨s', _⟩ => SqT.of (s' _ _ e2h)) (fun m v H10 hm hP => ?_) fun H10 hP => ?_⟩
                · obtain ⟨s10, hL⟩ := hP
                  rw [List.getElem?_map] at hm
                  obtain ⟨y, hy, rfl⟩ := Option.map_eq_some_iff.mp hm
                  refine ⟨rfl, _, rfl, _, rfl, d, .int (lab3 y), rfl, dget_lab (s10 _ _ hd8) (gsub y (List.mem_of_getElem? hy)), _, hL, ?_, ?_, ?_⟩
                  · rw [List.length_map, List.length_take]
                    exact Nat.lt_of_le_of_lt (show min m gg.2.1.length ≤ 100 by omega) (by decide)
                  · intro c o ec
                    rw [upd_ne (ne_of_none ec nL2)]
                    exact s10 _ _ ec
                  · rw [upd_same, List.take_add_one, hy, List.map_append]
                    rfl
                · obtain ⟨s10, hL⟩ := hP
                  rw [List.length_map, List.take_length] at hL
                  have hL' : H10 L2 = some (.lst ((gg.2.1.map lab3).map V.int)) := by
                    rw [hL, List.map_map]
                    rfl
                  refine ⟨L2, _, rfl, .inl (SqL.of hL'), rfl, flat_ints _, _, rfl, ?_⟩
                  rw [inV_int]
                  have sm10 := sm8.trans s10
                  have hd10 := s10 _ _ hd8
                  have hl10 := s10 _ _ hl8
                  by_cases c2 : lab3 x ∈ gg.2.1.map lab3
                  · rw [decide_eq_true c2]
                    obtain ⟨o, ho, eo⟩ := List.mem_map.mp c2
                    refine iteT ⟨_, rfl, _, rfl, _, rfl, d, _, rfl, DPut.k (k := Sum.inr x) hd10 ?_, ?_⟩
                    · rw [kvs_len]
                      exact Nat.lt_of_le_of_lt hrl (by decide)
                    · rw [put_labK xr]
                      refine ⟨_, _, rfl, ?_, ?_, upd_same, M8.hit gsub ggm c1 rfl P5.lb hm0 e0.symm hx ho eo.symm⟩
                      · intro c o ec
                        rw [upd_ne (ne_of_none ec ndH)]
                        exact sm10 _ _ ec
                      · rw [upd_ne nld]
                        exact hl10
                  · rw [decide_eq_false c2]
                    exact iteF ⟨lab3, _, rfl, sm10, hl10, hd10, M8.miss hx fun z => c2 (List.mem_map.mpr ⟨x, z, rfl⟩)⟩
              · obtain ⟨lab3, w8, rfl, sm8, hl8, hd8, M8⟩ := hP
                rw [List.length_map] at M8
                exact ⟨lab3, _, _, _, _, _, rfl, sm8, hd8, P5.take hmem hgg hlow M8⟩
        · obtain ⟨lab2, v4, v5, v6, v7, v8, rfl, sm5, hd5, P5⟩ := hP
          rw [List.length_map, hlen] at P5
          exact ⟨lab2, _, _, _, _, _, _, rfl, sm5, hd5, P5.lb, P5.low hmem W3⟩
      · obtain ⟨lab, v3, v4, v5, v6, v7, v8, rfl, sm3, hd3, L3, W3⟩ := hP
        rw [List.length_map] at W3
        exact ⟨_, rfl, q _ d lab sm3 hd3 fun x hx y hy => lab_iff hmem L3 W3 hx hy⟩
end
end K09

set_option Elab.async false
set_option linter.all false
set_option maxRecDepth 100000
set_option maxHeartbeats 4000000
namespace K09
open PySem PySem.Spec PyProof.Rows L2 WT
abbrev st_right : Stmt := top 13
theorem sc_right : FnScope ["_law_hand_here", "_law_world_here", "_law_names_here", "_law_lists", "_law_barred", "_law_group", "_law_one", "_law_other", "_law_due", "_law_told", "_law_gateway", "_law_name", "_law_turn", "_law_answer"] ["_law_hand_here", "_law_world_here"] (defScope st_right) := ⟨rfl, rfl, rfl, by decide +kernel, rfl, by decide +kernel, by decide +kernel⟩
/-- what comes behind is proved once -/
theorem use_post {α : Type} {T : (α → Hp → Prop) → Prop} {Q : α → Hp → Prop} (G : α → Hp → Prop) (h : ∀ Q' : α → Hp → Prop, (∀ x H', G x H' → Q' x H') → T Q') (q : ∀ x H', G x H' → Q x H') : T Q := h Q q
theorem use_seq {f u : TS} {D : Ends} {σ : L2.St} {H : Hp} (G : L2.St → Hp → Prop) (h : ∀ N : L2.St → Hp → Prop, (∀ σ' H', G σ' H' → N σ' H') → f { D with nx := N } σ H) (q : ∀ σ' H', G σ' H' → u D σ' H') {r b c} : Ends.nx { nx := tSeq f u D, rt := r, bk := b, ct := c } σ H := h (u D) q
theorem call_reprK {X : Cx} {K : PySem.W.Frag} (hgd : X.A.guards = some []) (hu : X.A.units + 64 < cLine) (hK : X.K = K := by rfl) : CallR X (.builtin "repr") (rRepr K) := by
  subst hK
  exact call_repr hgd hu
theorem ix_tupK {X : Cx} {K : PySem.W.Frag} (hK : X.K = K := by rfl) : IxR X (rIxT K) := by
  subst hK
  exact ix_tup
theorem names_nodup {n : Nat} {ys : List Str} (h : NamesOf n ys) : ys.Nodup := by
  obtain ⟨s, f, rfl, _⟩ := h.ex
  unfold nameList
  refine List.pairwise_map.mpr (List.Pairwise.imp (fun {i j} hij e => hij ?_) List.nodup_range)
  have e := congrArg (fun z : Str => z.cps.toList) e
  simp only [app_cps] at e
  have e := List.append_cancel_left e
  have e : [97 + f + i] = [97 + f + j] := e
  simp at e
  omega
theorem fit_bool (b : Bool) : (PyData.bool b).showable = true ∧ (PyData.bool b).depth ≤ 60 ∧ (PyData.bool b).shown.length ≤ sizeLine ∧ PyData.strOk (PyData.bool b).shown = true := by
  cases b <;> decide +kernel
theorem pot_upd {H : Hp} {a c : Addr} {n : Nat} {o : HO} (h : PotAt H a n) (hc : a ≠ c) : PotAt (upd H c o) a n := by
  obtain ⟨u0, u1, u2, e1, e2⟩ := h
  exact ⟨u0, u1, u2, by rw [upd_ne hc]; exact e1, e2⟩
theorem but_free {H H' : Hp} {a c : Addr} (h : But a H H') (hc : c ≠ a) (n : H' c = none) : H c = none := by
  cases e : H c with
  | none => rfl
  | some o =>
    rw [h _ _ hc e] at n
    cases n
theorem iff_same {b c : Bool} {p : Prop} (h : b = true ↔ p) (k : c = true ↔ p) : b = c := by
  cases b <;> cases c <;> simp_all
theorem gate_len {rs : List Str} {g : Gt} (h : GateOk rs g) : g.2.1 ≠ [] ∧ g.2.1.length ≤ rs.length := by
  obtain ⟨ys, k, h1, h2, h3, h4⟩ := h.from_
  have e1 := h2.length_eq
  have e2 := h1.length_eq
  rw [List.length_take] at e1
  refine ⟨fun z => ?_, by omega⟩
  rw [z] at e1
  simp at e1
  omega
section
variable {P : Program} {w : World} {K : PySem.W.Frag} {mg : Str → Option Value} {base : Heap} {f fT fO fM fG fC : Addr} {fd fdT fdO fdM fdG fdC : FuncData} {dT : Addr}
/-- right(hand, world): it returns True -/
def spRight : Sp := fun vs H Q _ => ∃ (a wa r g : Addr) (b : Nat) (as : List Addr) (rs : List Str) (gs : List Gt), vs = [.ref a, .ref wa] ∧ PotAt H a b ∧ b ≤ 60000 ∧ WorldAt H wa r g as rs gs ∧ WorldOk rs gs ∧
  ∀ H' : Hp, But a H H' → PotAt H' a (b + 30) → Q (.bl true) H'
theorem ok_right (F : Fun K "_law_right" "_law_right" st_right f fd) (B : Blt mg) (F_take : Df P w K mg base "_law_take" 1 fT fdT ["_law_hand_here", "_law_many"] spTake) (F_of : Df P w K mg base "_law_of" 2 fO fdO ["_law_hand_here", "_law_some"] (spOf K))
    (F_mixed : Df P w K mg base "_law_mixed" 2 fM fdM ["_law_hand_here", "_law_some"] (spMixed K)) (F_groups : Df P w K mg base "_law_groups" 1 fG fdG ["_law_world_here", "_law_barred"] (spGroups K))
    (F_connected : Dk P w K mg base "connected" 3 fC fdC ["world", "one", "other", "without"] 3 "without" (.ref dT) (spConn K)) (hdT : ∀ H : Hp, SqT K H dT []) :
    FnG P w K mg base CX0 4 f fd ["_law_hand_here", "_law_world_here"] spRight := by
  refine okG F sc_right (fun vs H Q E h => ?_) (fun cdv A outer s H vs Q E hgd hr h => ?_)
  · obtain ⟨_, _, _, _, _, _, _, _, rfl, _⟩ := h
    rfl
  · obtain ⟨a, wa, r, g, b, as, rs, gs, rfl, ha, hb, hw, hok, q⟩ := h
    obtain ⟨ds, hds, hbd⟩ := F_connected.bd
    refine ⟨_, (pss_cons (ps_set (i := 2) sc_right.nd rfl (.inr rfl) (pe_lc (own := [("_law_gateway", 10)]) (by rfl) sc_right.nd (pi_tup (pe_ix ix_tup (pv 1) pe_int (fun _ _ => rfl))) (blkOk_by (own := [("_law_gateway", 10)]) (N := ["_law_hand_here", "_law_world_here", "_law_names_here", "_law_lists", "_law_barred", "_law_group", "_law_one", "_law_other", "_law_due", "_law_told", "_law_gateway", "_law_name", "_law_turn", "_law_answer"]) (sc := defScope st_right) (by decide +kernel)) (fun _ _ _ _ _ => (pg_name (i := 10) sc_right.nd rfl (.inl rfl))) (fun _ _ _ _ _ => pts_nil) (fun _ _ _ _ _ => (pe_ix (ix_tupK (K := K)) (pv 10) pe_int (fun _ _ => rfl)))))
      (pss_cons (ps_set (i := 3) sc_right.nd rfl (.inl rfl) (pe_lst (pa_cons (pe_tup pa_nil) (pa_cons (pe_callTy call_tuple_of (by rfl) B.tuple (by decide +kernel) (pa_cons (pv 2) pa_nil)) (pa_cons (pe_callTy call_tuple_of (by rfl) B.tuple (by decide +kernel) (pa_cons (pe_lc (own := [("_law_name", 11)]) (by rfl) sc_right.nd (pi_list (pe_callG hgd F_mixed.G (hr.mono (by decide)) (by rfl) F_mixed.g F_mixed.kp F_mixed.bd pass0 (pa_cons (pv 0) (pa_cons (pv 2) pa_nil)))) (blkOk_by (own := [("_law_name", 11)]) (N := ["_law_hand_here", "_law_world_here", "_law_names_here", "_law_lists", "_law_barred", "_law_group", "_law_one", "_law_other", "_law_due", "_law_told", "_law_gateway", "_law_name", "_law_turn", "_law_answer"]) (sc := defScope st_right) (by decide +kernel)) (fun _ _ _ _ _ => (pg_name (i := 11) sc_right.nd rfl (.inl rfl))) (fun _ _ _ _ _ => (pts_one (pt_cmpR op_eq (pe_callG hgd F_take.G (hr.mono (by decide)) (by rfl) F_take.g F_take.kp F_take.bd pass0 (pa_cons (pv 0) (pa_cons pe_int pa_nil))) pe_int (nomark _)))) (fun _ _ _ _ _ => (pv 11))) pa_nil)) pa_nil)))))
      (pss_cons (ps_expr (pe_bm PySem.F.plainAttrs_list PySem.F.slot_list_append PySem.F.type_list_append mt_append (pv 3) (pa_cons (pe_ifExp (pt_cmpR (op_neD hr.units) (pv 2) (pe_lst pa_nil) (nomark _)) (pe_callTy call_tuple_of (by rfl) B.tuple (by decide +kernel) (pa_cons (pe_lc (own := [("_law_turn", 12)]) (by rfl) sc_right.nd (pi_range1 (by rfl) B.range (pa_cons pe_int pa_nil)) (blkOk_by (own := [("_law_turn", 12)]) (N := ["_law_hand_here", "_law_world_here", "_law_names_here", "_law_lists", "_law_barred", "_law_group", "_law_one", "_law_other", "_law_due", "_law_told", "_law_gateway", "_law_name", "_law_turn", "_law_answer"]) (sc := defScope st_right) (by decide +kernel)) (fun _ _ _ _ _ => (pg_name (i := 12) sc_right.nd rfl (.inl rfl))) (fun _ _ _ _ _ => pts_nil) (fun _ _ _ _ _ => (pe_callG hgd F_of.G (hr.mono (by decide)) (by rfl) F_of.g F_of.kp F_of.bd pass0 (pa_cons (pv 0) (pa_cons (pv 2) pa_nil))))) pa_nil)) (pe_tup pa_nil)) pa_nil)))
      (pss_cons (ps_for PassesOwn.never rfl (pi_list (pv 3)) (pg_name (i := 4) sc_right.nd rfl (.inl rfl))
       (pss_cons (ps_set (i := 5) sc_right.nd rfl (.inl rfl) (pe_callG hgd F_groups.G (hr.mono (by decide)) (by rfl) F_groups.g F_groups.kp F_groups.bd pass0 (pa_cons (pv 1) (pa_cons (pv 4) pa_nil))))
       (pss_one (ps_for PassesOwn.never rfl (pi_tup (pe_ix ix_tup (pv 1) pe_int (fun _ _ => rfl))) (pg_name (i := 6) sc_right.nd rfl (.inl rfl))
        (pss_one (ps_for PassesOwn.never rfl (pi_tup (pe_ix ix_tup (pv 1) pe_int (fun _ _ => rfl))) (pg_name (i := 7) sc_right.nd rfl (.inl rfl))
         (pss_cons (ps_set (i := 8) sc_right.nd rfl (.inl rfl) (pe_callB (call_repr hgd hr.units) (by rfl) B.repr (by decide +kernel) (pa_cons (pe_cmpR op_eq (pe_dget (hu_of hr) (pv 5) (pv 6) (fun _ _ => rfl)) (pe_dget (hu_of hr) (pv 5) (pv 7) (fun _ _ => rfl)) (nomark _)) pa_nil)))
         (pss_cons (ps_set (i := 9) sc_right.nd rfl (.inl rfl) (pe_lst (pa_cons (pe_callKG (n := 3) (m := 1) (ks := ["without"]) hgd F_connected.G (hr.mono (by decide)) (by rfl) F_connected.g F_connected.kp F_connected.kb pass0 (pa_cons (pv 1) (pa_cons (pv 6) (pa_cons (pv 7) pa_nil))) (pk_cons (pv 4) pk_nil)) pa_nil)))
         (pss_cons (ps_expr (pe_bm PySem.F.plainAttrs_list PySem.F.slot_list_append PySem.F.type_list_append mt_append (pv 9) (pa_cons (pe_callKG (n := 3) (m := 1) (ks := ["without"]) hgd F_connected.G (hr.mono (by decide)) (by rfl) F_connected.g F_connected.kp F_connected.kb pass0 (pa_cons (pv 1) (pa_cons (pv 7) (pa_cons (pv 6) pa_nil))) (pk_cons (pv 4) pk_nil)) pa_nil)))
         (pss_cons (ps_if (pt_cmpR (op_eqD hr.units) (pv 4) (pe_tup pa_nil) (nomark _))
          (pss_one (ps_expr (pe_bm PySem.F.plainAttrs_list PySem.F.slot_list_append PySem.F.type_list_append mt_append (pv 9) (pa_cons (pe_callDG hgd F_connected.G (hr.mono (by decide)) (by rfl) F_connected.g F_connected.kp hbd hds pass0 (pa_cons (pv 1) (pa_cons (pv 6) (pa_cons (pv 7) pa_nil)))) pa_nil))))
          pss_nil)
         (pss_one (ps_if (pt_cmpR (op_neD hr.units) (pe_lc (own := [("_law_answer", 13)]) (by rfl) sc_right.nd (pi_list (pv 9)) (blkOk_by (own := [("_law_answer", 13)]) (N := ["_law_hand_here", "_law_world_here", "_law_names_here", "_law_lists", "_law_barred", "_law_group", "_law_one", "_law_other", "_law_due", "_law_told", "_law_gateway", "_law_name", "_law_turn", "_law_answer"]) (sc := defScope st_right) (by decide +kernel)) (fun _ _ _ _ _ => (pg_name (i := 13) sc_right.nd rfl (.inl rfl))) (fun _ _ _ _ _ => pts_nil) (fun _ _ _ _ _ => (pe_callB (call_reprK (K := K) hgd hr.units) (by rfl) B.repr (by decide +kernel) (pa_cons (pv 13) pa_nil)))) (pe_op op_rep (pe_lst (pa_cons (pv 8) pa_nil)) (pe_callB call_len (by rfl) B.len (by decide +kernel) (pa_cons (pv 9) pa_nil))) (nomark _))
          (pss_one (ps_ret pe_bl))
          pss_nil))))))))))))
      (pss_one (ps_ret pe_bl)))))), ?_⟩
    have hlen := Paired.length hw.each
    obtain ⟨nr, hr1, hr2, nmr⟩ := hok.reg
    obtain ⟨ng, hg2, nmg⟩ := hok.gat
    have lr : rs.length = nr := nmr.length
    have lg : gs.length = ng := by
      have := nmg.length
      rw [List.length_map] at this
      exact this
    have hgs : ∀ g ∈ gs, g.2.1 ≠ [] ∧ g.2.1.length ≤ 100 ∧ ∀ y ∈ g.2.1, y ∈ rs := fun g hg => ⟨(gate_len (hok.each g hg)).1, by have := (gate_len (hok.each g hg)).2; omega, (hok.each g hg).sub⟩
    have nmk : ∀ (m : Nat) (gg : Gt), gs[m]? = some gg → (gs.map (·.1))[m]? = some gg.1 := fun m gg h => by
      rw [List.getElem?_map, h]
      rfl
    have nml : (gs.map (·.1)).length = ng := nmg.length
    have hnok : ∀ s ∈ gs.map (·.1), PyData.strOk s = true := fun s hs => (nmg.nm s hs).ok
    generalize gs.map (·.1) = nms at nmk nml hnok
    have hgl : gs.length ≤ 10 := by omega
    have hrl : rs.length ≤ 10 := by omega
    have hnl : nms.length ≤ 10 := by omega
    -- names = [gateway[0] for gateway in world[1]]
    refine ⟨_, rfl, wa, _, 1, .ref g, rfl, rfl, SqT.of hw.top, atI_nat (j := 1) rfl, g, rfl, ⟨_, SqT.of hw.gat⟩, fun N nN => lc_tup (K := K) (a := g) (xs := as.map V.ref) (fun m H' => Same H H' ∧ H' N = some (.lst ((nms.take m).map V.str)))
      ⟨same_new nN, upd_same⟩ (fun m H' _ ⟨s', _⟩ => SqT.of (s' _ _ hw.gat)) (fun m v H2 hm hP => ?_) fun H2 hP => ?_⟩
    · obtain ⟨s2, hN⟩ := hP
      rw [List.getElem?_map] at hm
      obtain ⟨t, ht, rfl⟩ := Option.map_eq_some_iff.mp hm
      obtain ⟨gg, hgg, ia, e1, e2⟩ := pair_at (hw.same s2).each ht
      refine ⟨rfl, _, rfl, t, _, 0, .str gg.1, rfl, rfl, SqT.of e1, atI_nat (j := 0) rfl, _, hN, ?_, ?_, ?_⟩
      · rw [List.length_map, List.length_take]
        exact Nat.lt_of_le_of_lt (show min m nms.length ≤ 100 by omega) (by decide)
      · intro c o ec
        rw [upd_ne (ne_of_none ec nN)]
        exact s2 _ _ ec
      · rw [upd_same, List.take_add_one, nmk m gg hgg, List.map_append]
        rfl
    obtain ⟨s2, hN⟩ := hP
    rw [List.length_map, List.take_of_length_le (by omega)] at hN
    -- lists = [(), tuple(names), tuple([..])]
    refine ⟨(by show 0 ≤ sizeLine; decide), fun t0 nt0 => ?_⟩
    have z0 := same_new nt0 (o := .tup [])
    have s3 := s2.trans z0
    have hN3 := z0 _ _ hN
    refine ⟨_, rfl, N, _, rfl, .inl ⟨SqL.of hN3, fun t1 nt1 => ?_⟩⟩
    have z1 := same_new nt1 (o := .tup (nms.map V.str))
    have s4 := s3.trans z1
    have hN4 := z1 _ _ hN3
    have ha4 := ha.same s4
    have nNa : N ≠ a := Ne.symm (ha.ne_new nN)
    refine ⟨_, rfl, _, rfl, a, N, b, nms, rfl, ha4, by omega, .inl (SqL.of hN4), by omega, hnok, fun H5 p ys b5 p5 np hp pm => ?_⟩
    have hpl := pm.length_eq
    have npa : p ≠ a := Ne.symm (ha4.ne_new np)
    refine ⟨p, rfl, ⟨_, SqL.of hp⟩, fun L nL => ?_⟩
    have nLa : L ≠ a := Ne.symm (p5.ne_new nL)
    refine lc_list (K := K) (a := p) (xs := ys.map V.str) (fun m H' => But a H5 H' ∧ PotAt H' a (b + nms.length + m) ∧ ∃ zs : List Str, H' L = some (.lst (zs.map V.str)) ∧ zs.length ≤ m ∧ ∀ z ∈ zs, z ∈ nms)
      ⟨.of (same_new nL), (p5.same (same_new nL)).more (by omega), [], upd_same, Nat.le_refl _, fun z hz => nomatch hz⟩ (fun m H' _ ⟨b', _⟩ => SqL.of (b' _ _ npa hp)) (fun m v H6 hm hP => ?_) fun H6 hP => ?_
    · obtain ⟨b6, p6, zs, hL, hzl, hzm⟩ := hP
      rw [List.getElem?_map] at hm
      obtain ⟨y, hy, rfl⟩ := Option.map_eq_some_iff.mp hm
      have ym : y ∈ nms := pm.mem_iff.mp (List.mem_of_getElem? hy)
      have hml : m < ys.length := (List.getElem?_eq_some_iff.mp hy).1
      refine ⟨rfl, _, rfl, a, b + nms.length + m, 3, rfl, p6, by omega, by decide, by decide, fun H7 u b7 p7 u0 u1 => ⟨rfl, _, rfl, ?_⟩⟩
      have hL7 := b7 _ _ nLa hL
      by_cases c : u = 0
      · subst c
        refine ifT (by simp) ⟨_, rfl, _, hL7, ?_, ?_, ?_, zs ++ [y], ?_, ?_, ?_⟩
        · rw [List.length_map]
          exact Nat.lt_of_le_of_lt (show zs.length ≤ 100 by omega) (by decide)
        · intro c o nc ec
          rw [upd_ne (ne_of_none ec nL)]
          exact b7 _ _ nc (b6 _ _ nc ec)
        · exact (pot_upd p7 (Ne.symm nLa)).more (by omega)
        · rw [upd_same, List.map_append]
          rfl
        · rw [List.length_append]
          show zs.length + 1 ≤ m + 1
          omega
        · intro z hz
          rcases List.mem_append.mp hz with hz | hz
          · exact hzm z hz
          · rw [List.mem_singleton.mp hz]
            exact ym
      · exact ifF (by simp [c]) ⟨b6.trans b7, p7.more (by omega), zs, hL7, by omega, hzm⟩
    obtain ⟨b6, p6, zs, hL, hzl, hzm⟩ := hP
    rw [List.length_map] at p6 hzl
    refine ⟨L, _, rfl, .inl ⟨SqL.of hL, fun t2 nt2 => ?_⟩⟩
    have z2 := same_new nt2 (o := .tup (zs.map V.str))
    refine ⟨(by show 3 ≤ sizeLine; decide), fun D nD => ?_⟩
    have zD := same_new nD (o := .lst [.ref t0, .ref t1, .ref t2])
    have p7 : PotAt (upd (upd H6 t2 (.tup (zs.map V.str))) D (.lst [.ref t0, .ref t1, .ref t2])) a (b + 20) := ((p6.same z2).same zD).more (by omega)
    have b57 : But a H5 (upd (upd H6 t2 (.tup (zs.map V.str))) D (.lst [.ref t0, .ref t1, .ref t2])) := b6.trans (.of (z2.trans zD))
    have b7 : But a H (upd (upd H6 t2 (.tup (zs.map V.str))) D (.lst [.ref t0, .ref t1, .ref t2])) := (But.of s4).trans (b5.trans b57)
    have nDa : D ≠ a := Ne.symm ((p6.same z2).ne_new nD)
    have nDH : H D = none := but_free ((But.of s4).trans (b5.trans (b6.trans (.of z2)))) nDa nD
    have e0 : upd (upd H2 t0 (.tup [])) t1 (.tup (nms.map V.str)) t0 = some (.tup []) := z1 _ _ upd_same
    have e1 : upd (upd H2 t0 (.tup [])) t1 (.tup (nms.map V.str)) t1 = some (.tup (nms.map V.str)) := upd_same
    have ht0 := b57 _ _ (p5.ne_tup (b5 _ _ (ha4.ne_tup e0) e0)) (b5 _ _ (ha4.ne_tup e0) e0)
    have ht1 := b57 _ _ (p5.ne_tup (b5 _ _ (ha4.ne_tup e1) e1)) (b5 _ _ (ha4.ne_tup e1) e1)
    have ht2 : upd (upd H6 t2 (.tup (zs.map V.str))) D (.lst [.ref t0, .ref t1, .ref t2]) t2 = some (.tup (zs.map V.str)) := zD _ _ upd_same
    have hN7 := b57 _ _ nNa (b5 _ _ nNa hN4)
    have hD7 : upd (upd H6 t2 (.tup (zs.map V.str))) D (.lst [.ref t0, .ref t1, .ref t2]) D = some (.lst [.ref t0, .ref t1, .ref t2]) := upd_same
    generalize upd (upd H6 t2 (.tup (zs.map V.str))) D (.lst [.ref t0, .ref t1, .ref t2]) = H7 at p7 b57 b7 ht0 ht1 ht2 hN7 hD7 ⊢
    -- lists.append(..)
    refine ⟨_, rfl, .inl ⟨rfl, _, SqL.of hD7⟩, ?_⟩
    refine use_post (fun (vs : List V) H' => ∃ (t3 : Addr) (bar3 : List Str), vs = [.ref t3] ∧ But a H7 H' ∧ PotAt H' a (b + 30) ∧ H' t3 = some (.tup (bar3.map V.str)) ∧ ∀ z ∈ bar3, z ∈ nms) (fun Q' hQ' => ?_) fun vs H8 hG => ?_
    · refine ⟨_, rfl, (by show 0 ≤ sizeLine; decide), fun e ne => ?_⟩
      have ze := same_new ne (o := .lst [])
      refine ⟨_, _, .lst (SqL.of (ze _ _ hN7)) (dp_strs nms), .lst (SqL.of upd_same) .nil, shaped_strs nms hnok, shaped_nil, _, rfl, ?_⟩
      rw [eqv_nil]
      by_cases cn : nms = []
      · refine ifF (by rw [cn]; rfl) ?_
        exact ⟨(by show 0 ≤ sizeLine; decide), fun t nt => hQ' _ _ ⟨t, [], rfl, .of (ze.trans (same_new nt)), ((p7.same ze).same (same_new nt)).more (by omega), upd_same, fun z hz => nomatch hz⟩⟩
      · have hpos : 0 < nms.length := List.length_pos_iff.mpr cn
        refine ifT (by cases nms with | nil => exact absurd rfl cn | cons _ _ => rfl) ?_
        refine ⟨3, rfl, by omega, by omega, fun L3 nL3 => ?_⟩
        have nL3a : L3 ≠ a := Ne.symm ((p7.same ze).ne_new nL3)
        refine lc_range (lo := 0) (n := 3) (fun j H' => But a H7 H' ∧ PotAt H' a (b + 20 + j) ∧ ∃ ws : List Str, ws.length = j ∧ H' L3 = some (.lst (ws.map V.str)) ∧ ∀ z ∈ ws, z ∈ nms)
          ⟨.of (ze.trans (same_new nL3)), ((p7.same ze).same (same_new nL3)).more (by omega), [], rfl, upd_same, fun z hz => nomatch hz⟩ (fun j H8 hj hP => ?_) fun H8 hP => ?_
        · obtain ⟨b8, p8, ws, hwl, hL3, hwm⟩ := hP
          refine ⟨rfl, _, rfl, _, rfl, a, N, b + 20 + j, nms.map V.str, rfl, p8, by omega, nNa, .inl (SqL.of (b8 _ _ nNa hN7)), by rw [List.length_map]; exact hpos, by rw [List.length_map]; omega, fun H9 x b9 p9 hx => ?_⟩
          obtain ⟨y, hy, rfl⟩ := List.mem_map.mp hx
          have hL9 := b9 _ _ nL3a hL3
          have nL3H : H7 L3 = none := but_free (.of ze) nL3a nL3
          refine ⟨_, hL9, ?_, ?_, ?_, ws ++ [y], ?_, ?_, ?_⟩
          · rw [List.length_map]
            exact Nat.lt_of_le_of_lt (show ws.length ≤ 100 by omega) (by decide)
          · intro c o nc ec
            rw [upd_ne (ne_of_none ec nL3H)]
            exact b9 _ _ nc (b8 _ _ nc ec)
          · exact (pot_upd p9 (Ne.symm nL3a)).more (by omega)
          · rw [List.length_append, hwl]
            rfl
          · rw [upd_same, List.map_append]
            rfl
          · intro z hz
            rcases List.mem_append.mp hz with hz | hz
            · exact hwm z hz
            · rw [List.mem_singleton.mp hz]
              exact hy
        · obtain ⟨b8, p8, ws, hwl, hL3, hwm⟩ := hP
          refine ⟨L3, _, rfl, .inl ⟨SqL.of hL3, fun t nt => hQ' _ _ ⟨t, ws, rfl, b8.trans (.of (same_new nt)), (p8.same (same_new nt)).more (by omega), upd_same, hwm⟩⟩⟩
    obtain ⟨t3, bar3, rfl, b8, p8, ht3, hb3⟩ := hG
    have hD8 := b8 _ _ nDa hD7
    refine ⟨D, _, _, rfl, rfl, hD8, (by show 3 < sizeLine; decide), ?_⟩
    have upT : ∀ (c : Addr) (xs : List V) (o : HO), H8 c = some (.tup xs) → upd H8 D o c = some (.tup xs) := fun c xs o e => by
      rw [upd_ne (ne_of e hD8 (by intro z; cases z))]
      exact e
    have b9 : But a H (upd H8 D (.lst ([.ref t0, .ref t1, .ref t2] ++ [.ref t3]))) := fun c o nc ec => by
      rw [upd_ne (ne_of_none ec nDH)]
      exact b8 _ _ nc (b7 _ _ nc ec)
    have p9 : PotAt (upd H8 D (.lst ([.ref t0, .ref t1, .ref t2] ++ [.ref t3]))) a (b + 30) := pot_upd p8 (Ne.symm nDa)
    have prs9 : Paired (fun t (bar : List Str) => upd H8 D (.lst ([.ref t0, .ref t1, .ref t2] ++ [.ref t3])) t = some (.tup (bar.map V.str)) ∧ ∀ z ∈ bar, z ∈ nms) [t0, t1, t2, t3] [[], nms, zs, bar3] :=
      .cons ⟨upT _ _ _ (b8 _ _ (p7.ne_tup ht0) ht0), fun z hz => nomatch hz⟩ (.cons ⟨upT _ _ _ (b8 _ _ (p7.ne_tup ht1) ht1), fun z hz => hz⟩ (.cons ⟨upT _ _ _ (b8 _ _ (p7.ne_tup ht2) ht2), hzm⟩ (.cons ⟨upT _ _ _ ht3, hb3⟩ .nil)))
    have hD9 : upd H8 D (.lst ([.ref t0, .ref t1, .ref t2] ++ [.ref t3])) D = some (.lst ([t0, t1, t2, t3].map V.ref)) := upd_same
    generalize upd H8 D (.lst ([.ref t0, .ref t1, .ref t2] ++ [.ref t3])) = H9 at b9 p9 prs9 hD9 ⊢
    generalize [t0, t1, t2, t3] = ts at prs9 hD9
    generalize ([[], nms, zs, bar3] : List (List Str)) = bars at prs9
    have hw9 : WorldAt H9 wa r g as rs gs := hw.but ha b9
    clear hD8 upT p8 b8 ht3 hb3 p7 b57 b7 ht0 ht1 ht2 hN7 hD7
    -- for barred in lists
    refine ⟨_, rfl, D, rfl, ⟨_, SqL.of hD9⟩, for_it (walk_list (xs := ts.map V.ref))
      (fun j σ H' => ∃ v4 v5 v6 v7 v8 v9 : Option V, σ = [some (.ref a), some (.ref wa), some (.ref N), some (.ref D), v4, v5, v6, v7, v8, v9, none, none, none, none] ∧ Same H9 H')
      ⟨none, none, none, none, none, none, rfl, fun _ _ e => e⟩ (fun j σ H' _ ⟨_, _, _, _, _, _, _, s'⟩ => SqL.of (s' _ _ hD9)) (fun j v σ H10 H11 hj hP hY => ?_) (fun σ H10 hP => ?_)⟩
    · obtain ⟨v4, v5, v6, v7, v8, v9, rfl, s10⟩ := hP
      obtain ⟨rfl, hv⟩ := hY
      rw [List.getElem?_map] at hv
      obtain ⟨t, ht, rfl⟩ := Option.map_eq_some_iff.mp hv
      obtain ⟨bar, hbar, htb, hbn⟩ := pair_at prs9 ht
      have hbok : ∀ z ∈ bar, PyData.strOk z = true := fun z hz => hnok z (hbn z hz)
      refine ⟨_, rfl, _, rfl, wa, r, g, t, as, rs, gs, bar, rfl, hw9.same s10, SqT.of (s10 _ _ htb), names_nodup nmr, by omega, hgs, fun H12 d lab s12 hd hlab => ?_⟩
      have s912 := s10.trans s12
      have hw12 := hw9.same s912
      have ht12 := s912 _ _ htb
      -- for one in the regions
      refine ⟨_, rfl, wa, _, 0, .ref r, rfl, rfl, SqT.of hw12.top, atI_nat (j := 0) rfl, r, rfl, ⟨_, SqT.of hw12.reg⟩, for_it (walk_tup (xs := rs.map V.str))
        (fun i σ H' => ∃ v6 v7 v8 v9 : Option V, σ = [some (.ref a), some (.ref wa), some (.ref N), some (.ref D), some (.ref t), some (.ref d), v6, v7, v8, v9, none, none, none, none] ∧ Same H12 H')
        ⟨v6, v7, v8, v9, rfl, fun _ _ e => e⟩ (fun i σ H' _ ⟨_, _, _, _, _, s'⟩ => SqT.of (s' _ _ hw12.reg)) (fun i v σ H13 H14 hi hP hY => ?_) (fun σ H13 hP => ?_)⟩
      · obtain ⟨v6, v7, v8, v9, rfl, s13⟩ := hP
        obtain ⟨rfl, hv⟩ := hY
        rw [List.getElem?_map] at hv
        obtain ⟨x, hx, rfl⟩ := Option.map_eq_some_iff.mp hv
        have xr : x ∈ rs := List.mem_of_getElem? hx
        have hw13 := hw12.same s13
        -- for other in the regions
        refine ⟨_, rfl, wa, _, 0, .ref r, rfl, rfl, SqT.of hw13.top, atI_nat (j := 0) rfl, r, rfl, ⟨_, SqT.of hw13.reg⟩, for_it (walk_tup (xs := rs.map V.str))
          (fun i σ H' => ∃ v7 v8 v9 : Option V, σ = [some (.ref a), some (.ref wa), some (.ref N), some (.ref D), some (.ref t), some (.ref d), some (.str x), v7, v8, v9, none, none, none, none] ∧ Same H12 H')
          ⟨v7, v8, v9, rfl, s13⟩ (fun i σ H' _ ⟨_, _, _, _, s'⟩ => SqT.of (s' _ _ hw12.reg)) (fun i v σ H15 H16 hi hP hY => ?_) (fun σ H15 hP => ?_)⟩
        · obtain ⟨v7, v8, v9, rfl, s15⟩ := hP
          obtain ⟨rfl, hv⟩ := hY
          rw [List.getElem?_map] at hv
          obtain ⟨y, hy, rfl⟩ := Option.map_eq_some_iff.mp hv
          have yr : y ∈ rs := List.mem_of_getElem? hy
          obtain ⟨c0, hc0⟩ : ∃ c0 : Bool, c0 = decide (V.int (lab x) = V.int (lab y)) := ⟨_, rfl⟩
          have hcc : c0 = true ↔ Conn gs bar x y := by
            rw [hc0, decide_eq_true_iff, ← hlab x xr y yr]
            exact ⟨fun e => V.int.inj e, fun e => congrArg V.int e⟩
          have hgs2 : ∀ g ∈ gs, g.2.1.length ≤ 100 ∧ ∀ y ∈ g.2.1, y ∈ rs := fun g hg => (hgs g hg).2
          -- due
          refine ⟨_, rfl, _, rfl, d, .int (lab x), rfl, dget_lab (s15 _ _ hd) xr, _, rfl, _, rfl, d, .int (lab y), rfl, dget_lab (s15 _ _ hd) yr, rfl, ?_⟩
          rw [← hc0]
          refine ⟨_, .bool c0, rfl, .bl c0, (fit_bool c0).1, (fit_bool c0).2.1, (fit_bool c0).2.2.1, ?_⟩
          -- told
          refine ⟨_, rfl, _, rfl, _, rfl, _, rfl, rfl, rfl, wa, r, g, t, as, rs, gs, x, y, bar, rfl, hw12.same s15, SqT.of (s15 _ _ ht12), by omega, by omega, hgs2, xr, fun H17 c1 s17 hc1 => ?_⟩
          obtain rfl : c1 = c0 := iff_same hc1 hcc
          refine ⟨(by show 1 ≤ sizeLine; decide), fun T nT => ?_⟩
          have zT := same_new nT (o := .lst [.bl c1])
          have s18 := (s15.trans s17).trans zT
          have hT18 : upd H17 T (.lst [.bl c1]) T = some (.lst [.bl c1]) := upd_same
          have nT12 : H12 T = none := (s15.trans s17).free nT
          generalize upd H17 T (.lst [.bl c1]) = H18 at s18 hT18 zT ⊢
          refine ⟨_, rfl, .inl ⟨rfl, _, SqL.of hT18⟩, _, rfl, _, rfl, _, rfl, _, rfl, rfl, rfl, wa, r, g, t, as, rs, gs, y, x, bar, rfl, hw12.same s18, SqT.of (s18 _ _ ht12), by omega, by omega, hgs2, yr, fun H19 c2 s19 hc2 => ?_⟩
          obtain rfl : c2 = c1 := iff_same hc2 (hcc.trans ⟨Conn.symm, Conn.symm⟩)
          have hT19 := s19 _ _ hT18
          refine ⟨T, _, _, rfl, rfl, hT19, (by show 1 < sizeLine; decide), ?_⟩
          have s20 : Same H12 (upd H19 T (.lst ([.bl c2] ++ [.bl c2]))) := fun c o ec => by
            rw [upd_ne (ne_of_none ec nT12)]
            exact s19 _ _ (s18 _ _ ec)
          have hT20 : upd H19 T (.lst ([.bl c2] ++ [.bl c2])) T = some (.lst (List.replicate 2 (.bl c2))) := upd_same
          generalize upd H19 T (.lst ([.bl c2] ++ [.bl c2])) = H20 at s20 hT20 ⊢
          -- if barred == ()
          show Ends.nx _ _ _
          refine use_seq (fun σ' H' => ∃ n : Nat, n ≤ 3 ∧ σ' = [some (.ref a), some (.ref wa), some (.ref N), some (.ref D), some (.ref t), some (.ref d), some (.str x), some (.str y), some (.str (PyData.bool c2).shown), some (.ref T), none, none, none, none] ∧ Same H12 H' ∧ H' T = some (.lst (List.replicate n (.bl c2)))) (fun NX hNX => ?_) fun σ' H22 hG => ?_
          · refine ⟨_, rfl, (by show 0 ≤ sizeLine; decide), fun e ne => ?_⟩
            have ze := same_new ne (o := .tup [])
            have s21 := s20.trans ze
            have hT21 := ze _ _ hT20
            refine ⟨_, _, .tup (SqT.of (s21 _ _ ht12)) (dp_strs bar), .tup (SqT.of upd_same) .nil, shaped_strsT bar hbok, shaped_nilT, _, rfl, ?_⟩
            rw [eqv_nilT]
            by_cases cb : bar = []
            · subst cb
              refine ifT rfl ?_
              refine ⟨_, rfl, .inl ⟨rfl, _, SqL.of hT21⟩, _, rfl, _, rfl, _, rfl, wa, r, g, dT, as, rs, gs, x, y, [], rfl, hw12.same s21, hdT _, by omega, by omega, hgs2, xr, fun H22 c3 s22 hc3 => ?_⟩
              obtain rfl : c3 = c2 := iff_same hc3 hcc
              refine ⟨T, _, _, rfl, rfl, s22 _ _ hT21, (by show 2 < sizeLine; decide), hNX _ _ ⟨3, by omega, rfl, fun c o ec => ?_, upd_same⟩⟩
              rw [upd_ne (ne_of_none ec nT12)]
              exact s22 _ _ (s21 _ _ ec)
            · refine ifF (by cases bar with | nil => exact absurd rfl cb | cons _ _ => rfl) ?_
              exact hNX _ _ ⟨2, by omega, rfl, s21, hT21⟩
          obtain ⟨n, hn3, rfl, s22, hT22⟩ := hG
          -- if [repr(answer) ..] != [due] * len(told)
          refine ⟨_, rfl, T, rfl, ⟨_, SqL.of hT22⟩, fun R nR => lc_list (K := K) (a := T) (xs := List.replicate n (.bl c2)) (fun m H' => Same H22 H' ∧ H' R = some (.lst ((List.replicate m (PyData.bool c2).shown).map V.str)))
            ⟨same_new nR, upd_same⟩ (fun m H' _ ⟨s', _⟩ => SqL.of (s' _ _ hT22)) (fun m v H23 hm hP => ?_) fun H23 hP => ?_⟩
          · obtain ⟨s23, hR⟩ := hP
            have hm2 : m < n ∧ v = .bl c2 := by
              rw [List.getElem?_replicate] at hm
              by_cases c : m < n
              · rw [if_pos c] at hm
                exact ⟨c, (Option.some.inj hm).symm⟩
              · rw [if_neg c] at hm
                cases hm
            obtain ⟨hmn, rfl⟩ := hm2
            refine ⟨rfl, _, rfl, _, .bool c2, rfl, .bl c2, (fit_bool c2).1, (fit_bool c2).2.1, (fit_bool c2).2.2.1, _, hR, ?_, ?_, ?_⟩
            · rw [List.length_map, List.length_replicate]
              exact Nat.lt_of_le_of_lt (show m ≤ 100 by omega) (by decide)
            · intro c o ec
              rw [upd_ne (ne_of_none ec nR)]
              exact s23 _ _ ec
            · rw [upd_same, List.replicate_succ', List.map_append]
              rfl
          · obtain ⟨s23, hR⟩ := hP
            rw [List.length_replicate] at hR
            have hT23 := s23 _ _ hT22
            refine ⟨_, rfl, (by show 1 ≤ sizeLine; decide), fun U nU => ?_⟩
            have zU := same_new nU (o := .lst [.str (PyData.bool c2).shown])
            refine ⟨_, rfl, _, n, rfl, .inl ⟨_, SqL.of (zU _ _ hT23), (List.length_replicate ..).symm⟩, U, n, _, rfl, rfl, upd_same, by omega, by omega, ?_, fun V2 nV2 => ?_⟩
            · show 1 * (n : Int).toNat ≤ sizeLine
              exact Nat.le_trans (show 1 * (n : Int).toNat ≤ 3 by omega) (by decide)
            have zV := same_new nV2 (o := .lst (List.replicate (n : Int).toNat [V.str (PyData.bool c2).shown]).flatten)
            have eV : (List.replicate (n : Int).toNat [V.str (PyData.bool c2).shown]).flatten = (List.replicate n (PyData.bool c2).shown).map V.str := by
              rw [Int.toNat_natCast, List.flatten_replicate_singleton, List.map_replicate]
            rw [eV] at zV ⊢
            have hok2 : ∀ s ∈ List.replicate n (PyData.bool c2).shown, PyData.strOk s = true := fun s hs => by
              rw [(List.mem_replicate.mp hs).2]
              exact (fit_bool c2).2.2.2
            refine ⟨_, _, .lst (SqL.of (zV _ _ (zU _ _ hR))) (dp_strs _), .lst (SqL.of upd_same) (dp_strs _), shaped_strs _ hok2, shaped_strs _ hok2, _, rfl, ?_⟩
            rw [SeqAt.eqv_refl _ (SeqAt.canLay_of_shaped (shaped_strs _ hok2))]
            exact ifF rfl ⟨_, _, _, rfl, s22.trans (s23.trans (zU.trans zV))⟩
        · obtain ⟨v7, v8, v9, rfl, s15⟩ := hP
          exact ⟨_, _, _, _, rfl, s15⟩
      · obtain ⟨v6, v7, v8, v9, rfl, s13⟩ := hP
        exact ⟨_, _, _, _, _, _, rfl, s912.trans s13⟩
    · obtain ⟨v4, v5, v6, v7, v8, v9, rfl, s10⟩ := hP
      exact q _ (b9.trans (.of s10)) (p9.same s10)
end
end K09

set_option Elab.async false
set_option linter.all false
set_option maxRecDepth 100000
set_option maxHeartbeats 4000000
namespace K09
open PySem PySem.Spec PyProof.Rows L2 WT
abbrev st_law : Stmt := top 14
theorem sc_law : FnScope ["_law_script", "_law_k", "_law_hand_here", "_law_turn"] ["_law_script"] (defScope st_law) := ⟨rfl, rfl, rfl, by decide +kernel, rfl, by decide +kernel, by decide +kernel⟩
section
variable {P : Program} {w : World} {K : PySem.W.Frag} {mg : Str → Option Value} {base : Heap} {f fR fW fH : Addr} {fd fdR fdW fdH : FuncData}
def spLaw (K : PySem.W.Frag) : Sp := fun vs H Q _ => ∃ (a : Addr) (ns : List Int), vs = [.ref a] ∧ SqL K H a (ns.map V.int) ∧ ns.length ≤ 63 ∧ ∀ H', Q (.bl true) H'
theorem all_true : ∀ n : Nat, (List.replicate n true).all id = true
  | 0 => rfl
  | n + 1 => by
    rw [List.replicate_succ, List.all_cons, all_true n]
    rfl
theorem ok_law (F : Fun K "law" "law" st_law f fd) (B : Blt mg) (F_right : Df P w K mg base "_law_right" 4 fR fdR ["_law_hand_here", "_law_world_here"] spRight)
    (F_world : Df P w K mg base "_law_world" 5 fW fdW ["_law_hand_here", "_law_most_regions", "_law_most_gateways"] spWorld) (F_hand : Df P w K mg base "_law_hand" 1 fH fdH ["_law_script", "_law_k"] (spHand K)) :
    FnG P w K mg base CX0 6 f fd ["_law_script"] (spLaw K) := by
  refine okG F sc_law (fun vs H Q E h => ?_) (fun cdv A outer s H vs Q E hgd hr h => ?_)
  · obtain ⟨_, _, rfl, _⟩ := h
    rfl
  · obtain ⟨a, ns, rfl, hs, hl, q⟩ := h
    refine ⟨_, (pss_cons (ps_for PassesOwn.never rfl (pi_range1 (by rfl) B.range (pa_cons (pe_callB (call_max2 rfl) (by rfl) B.max (by decide +kernel) (pa_cons pe_int (pa_cons (pe_callB (call_min2 rfl) (by rfl) B.min (by decide +kernel) (pa_cons pe_int (pa_cons (pe_callB call_len (by rfl) B.len (by decide +kernel) (pa_cons (pv 0) pa_nil)) pa_nil))) pa_nil))) pa_nil)) (pg_name (i := 1) sc_law.nd rfl (.inl rfl))
       (pss_cons (ps_set (i := 2) sc_law.nd rfl (.inr rfl) (pe_callG hgd F_hand.G (hr.mono (by decide)) (by rfl) F_hand.g F_hand.kp F_hand.bd pass0 (pa_cons (pv 0) (pa_cons (pv 1) pa_nil))))
       (pss_one (ps_if (pt_not (pt_val (pe_callB (cr_all rfl) (by rfl) B.all (by decide +kernel) (pa_cons (pe_lc (own := [("_law_turn", 3)]) (by rfl) sc_law.nd (pi_range1 (by rfl) B.range (pa_cons pe_int pa_nil)) (blkOk_by (own := [("_law_turn", 3)]) (N := ["_law_script", "_law_k", "_law_hand_here", "_law_turn"]) (sc := defScope st_law) (by decide +kernel)) (fun _ _ _ _ _ => (pg_name (i := 3) sc_law.nd rfl (.inl rfl))) (fun _ _ _ _ _ => pts_nil) (fun _ _ _ _ _ => (pe_callG hgd F_right.G (hr.mono (by decide)) (by rfl) F_right.g F_right.kp F_right.bd pass0 (pa_cons (pv 2) (pa_cons (pe_callG hgd F_world.G (hr.mono (by decide)) (by rfl) F_world.g F_world.kp F_world.bd pass0 (pa_cons (pv 2) (pa_cons pe_int (pa_cons pe_int pa_nil)))) pa_nil))))) pa_nil))))
        (pss_one (ps_ret pe_bl))
        pss_nil))))
      (pss_one (ps_ret pe_bl))), ?_⟩
    refine ⟨_, rfl, _, ns.length, rfl, .inl ⟨_, hs, (List.length_map ..).symm⟩, 3, (ns.length : Int), rfl, 1, _, rfl, ?_⟩
    obtain ⟨n, hn, hn1, hn2⟩ : ∃ n : Int, (if (if (ns.length : Int) < 3 then (ns.length : Int) else 3) > 1 then (if (ns.length : Int) < 3 then (ns.length : Int) else 3) else 1) = n ∧ 1 ≤ n ∧ n ≤ 3 := by
      refine ⟨_, rfl, ?_, ?_⟩ <;> (split <;> split <;> omega)
    rw [hn]
    refine ⟨n, rfl, by omega, by omega, for_it (walk_range (lo := 0) (n := n.toNat)) (fun j σ H' => ∃ v1 v2 : Option V, σ = [some (.ref a), v1, v2, none] ∧ Same H H') ⟨none, none, rfl, fun _ _ e => e⟩ (fun _ _ _ _ _ => trivial) (fun j v σ H2 H3 hj hP hY => ?_) (fun σ H2 hP => ?_)⟩
    · obtain ⟨v1, v2, rfl, sj⟩ := hP
      obtain ⟨rfl, rfl⟩ := hY
      refine ⟨_, rfl, _, rfl, a, ns, j, by simp, sj.seq hs, hl, by omega, fun H4 p s4 np hp => ?_⟩
      refine ⟨3, rfl, by omega, by omega, fun D nD => ?_⟩
      have nDp : D ≠ p := Ne.symm (hp.ne_new nD)
      refine lc_range (lo := 0) (n := 3) (fun i H' => But p H4 H' ∧ PotAt H' p (400 * i) ∧ H' D = some (.lst ((List.replicate i true).map V.bl))) ⟨.of (same_new nD), hp.same (same_new nD), upd_same⟩ (fun i H5 hi hP => ?_) fun H5 hP => ?_
      · obtain ⟨b5, p5, d5⟩ := hP
        refine ⟨rfl, _, rfl, _, rfl, p, 400 * i, 10, 10, rfl, p5, by omega, by omega, by omega, by omega, fun H6 wp r g as rs gs b6 p6 hw hok => ?_⟩
        refine ⟨p, wp, r, g, 400 * i + 300, as, rs, gs, rfl, p6, by omega, hw, hok, fun H7 b7 p7 => ?_⟩
        refine ⟨_, b7 _ _ nDp (b6 _ _ nDp d5), ?_, fun c o nc ec => ?_, ?_, ?_⟩
        · rw [List.length_map, List.length_replicate]
          exact Nat.lt_of_lt_of_le (show i < 4 by omega) (by decide)
        · rw [upd_ne (ne_of_none ec nD)]
          exact b7 _ _ nc (b6 _ _ nc (b5 _ _ nc ec))
        · exact (pot_upd p7 (Ne.symm nDp)).more (by omega)
        · rw [upd_same, List.replicate_succ', List.map_append]
          rfl
      · obtain ⟨b5, p5, d5⟩ := hP
        refine ⟨D, List.replicate 3 true, rfl, SqL.of d5, ?_⟩
        rw [all_true]
        refine ⟨_, rfl, ifF rfl ⟨_, _, rfl, fun c o ec => b5 _ _ (ne_of_none (sj _ _ ec) np) (s4 _ _ (sj _ _ ec))⟩⟩
    · exact q _
end
end K09

set_option Elab.async false
set_option linter.all false
set_option maxRecDepth 100000
set_option maxHeartbeats 4000000
namespace K09
open PySem PySem.Spec PyProof.Rows L2 WT
theorem all_mk {l : PySem.W.OpenLaw} {w : World} {K : PySem.W.Frag} {h : Heap} {mg : Str → Option Value} {fa : Addr} {f_exits f_shortest_path f_connected f_hand f_take f_of f_mixed f_names f_gateways f_world f_groups f_right f_law : Addr} (X : K.In h) (G : h.Ns mainGlobals mg) (hfa : mg "law" = some (.ref fa))
    {od_exits an_exits : Option Addr} {sl_exits : Array (Option Value)} {oc_exits kV_exits dc_exits pm_exits cd_exits ct_exits : Value}
    {od_shortest_path an_shortest_path : Option Addr} {sl_shortest_path : Array (Option Value)} {oc_shortest_path kV_shortest_path dc_shortest_path pm_shortest_path cd_shortest_path ct_shortest_path : Value}
    {od_connected an_connected : Option Addr} {sl_connected : Array (Option Value)} {oc_connected dc_connected pm_connected cd_connected ct_connected : Value}
    {D_connected T_connected : Addr} {odt_connected : Option Addr} {slt_connected : Array (Option Value)} {nt_connected : Nat}
    {od_hand an_hand : Option Addr} {sl_hand : Array (Option Value)} {oc_hand kV_hand dc_hand pm_hand cd_hand ct_hand : Value}
    {od_take an_take : Option Addr} {sl_take : Array (Option Value)} {oc_take kV_take dc_take pm_take cd_take ct_take : Value}
    {od_of an_of : Option Addr} {sl_of : Array (Option Value)} {oc_of kV_of dc_of pm_of cd_of ct_of : Value}
    {od_mixed an_mixed : Option Addr} {sl_mixed : Array (Option Value)} {oc_mixed kV_mixed dc_mixed pm_mixed cd_mixed ct_mixed : Value}
    {od_names an_names : Option Addr} {sl_names : Array (Option Value)} {oc_names kV_names dc_names pm_names cd_names ct_names : Value}
    {od_gateways an_gateways : Option Addr} {sl_gateways : Array (Option Value)} {oc_gateways kV_gateways dc_gateways pm_gateways cd_gateways ct_gateways : Value}
    {od_world an_world : Option Addr} {sl_world : Array (Option Value)} {oc_world kV_world dc_world pm_world cd_world ct_world : Value}
    {od_groups an_groups : Option Addr} {sl_groups : Array (Option Value)} {oc_groups kV_groups dc_groups pm_groups cd_groups ct_groups : Value}
    {od_right an_right : Option Addr} {sl_right : Array (Option Value)} {oc_right kV_right dc_right pm_right cd_right ct_right : Value}
    {od_law an_law : Option Addr} {sl_law : Array (Option Value)} {oc_law kV_law dc_law pm_law cd_law ct_law : Value}
    (a_exits : PySem.W.nsIn K mainGlobals "exits" = some (some (.ref f_exits)))
    (l_exits : K.lookup f_exits = some ⟨oc_exits, od_exits, .func (PySem.W.fnOf "exits" "exits" (defArgs st_exits) (defBody st_exits) (defScope st_exits) .none kV_exits dc_exits pm_exits an_exits cd_exits ct_exits), sl_exits⟩)
    (c_exits : PySem.W.codeIn K cd_exits "exits" = true)
    (k_exits : PySem.W.keepIn K (.ref f_exits) = true)
    (a_shortest_path : PySem.W.nsIn K mainGlobals "shortest_path" = some (some (.ref f_shortest_path)))
    (l_shortest_path : K.lookup f_shortest_path = some ⟨oc_shortest_path, od_shortest_path, .func (PySem.W.fnOf "shortest_path" "shortest_path" (defArgs st_shortest_path) (defBody st_shortest_path) (defScope st_shortest_path) .none kV_shortest_path dc_shortest_path pm_shortest_path an_shortest_path cd_shortest_path ct_shortest_path), sl_shortest_path⟩)
    (c_shortest_path : PySem.W.codeIn K cd_shortest_path "shortest_path" = true)
    (k_shortest_path : PySem.W.keepIn K (.ref f_shortest_path) = true)
    (a_connected : PySem.W.nsIn K mainGlobals "connected" = some (some (.ref f_connected)))
    (l_connected : K.lookup f_connected = some ⟨oc_connected, od_connected, .func (PySem.W.fnOf "connected" "connected" (defArgs st_connected) (defBody st_connected) (defScope st_connected) .none (.ref D_connected) dc_connected pm_connected an_connected cd_connected ct_connected), sl_connected⟩)
    (c_connected : PySem.W.codeIn K cd_connected "connected" = true)
    (k_connected : PySem.W.keepIn K (.ref f_connected) = true)
    (n_connected : PySem.W.nsIn K D_connected "without" = some (some (.ref T_connected)))
    (t_connected : K.lookup T_connected = some ⟨.type "tuple", odt_connected, .seq #[] nt_connected, slt_connected⟩)
    (a_hand : PySem.W.nsIn K mainGlobals "_law_hand" = some (some (.ref f_hand)))
    (l_hand : K.lookup f_hand = some ⟨oc_hand, od_hand, .func (PySem.W.fnOf "_law_hand" "_law_hand" (defArgs st_hand) (defBody st_hand) (defScope st_hand) .none kV_hand dc_hand pm_hand an_hand cd_hand ct_hand), sl_hand⟩)
    (c_hand : PySem.W.codeIn K cd_hand "_law_hand" = true)
    (k_hand : PySem.W.keepIn K (.ref f_hand) = true)
    (a_take : PySem.W.nsIn K mainGlobals "_law_take" = some (some (.ref f_take)))
    (l_take : K.lookup f_take = some ⟨oc_take, od_take, .func (PySem.W.fnOf "_law_take" "_law_take" (defArgs st_take) (defBody st_take) (defScope st_take) .none kV_take dc_take pm_take an_take cd_take ct_take), sl_take⟩)
    (c_take : PySem.W.codeIn K cd_take "_law_take" = true)
    (k_take : PySem.W.keepIn K (.ref f_take) = true)
    (a_of : PySem.W.nsIn K mainGlobals "_law_of" = some (some (.ref f_of)))
    (l_of : K.lookup f_of = some ⟨oc_of, od_of, .func (PySem.W.fnOf "_law_of" "_law_of" (defArgs st_of) (defBody st_of) (defScope st_of) .none kV_of dc_of pm_of an_of cd_of ct_of), sl_of⟩)
    (c_of : PySem.W.codeIn K cd_of "_law_of" = true)
    (k_of : PySem.W.keepIn K (.ref f_of) = true)
    (a_mixed : PySem.W.nsIn K mainGlobals "_law_mixed" = some (some (.ref f_mixed)))
    (l_mixed : K.lookup f_mixed = some ⟨oc_mixed, od_mixed, .func (PySem.W.fnOf "_law_mixed" "_law_mixed" (defArgs st_mixed) (defBody st_mixed) (defScope st_mixed) .none kV_mixed dc_mixed pm_mixed an_mixed cd_mixed ct_mixed), sl_mixed⟩)
    (c_mixed : PySem.W.codeIn K cd_mixed "_law_mixed" = true)
    (k_mixed : PySem.W.keepIn K (.ref f_mixed) = true)
    (a_names : PySem.W.nsIn K mainGlobals "_law_names" = some (some (.ref f_names)))
    (l_names : K.lookup f_names = some ⟨oc_names, od_names, .func (PySem.W.fnOf "_law_names" "_law_names" (defArgs st_names) (defBody st_names) (defScope st_names) .none kV_names dc_names pm_names an_names cd_names ct_names), sl_names⟩)
    (c_names : PySem.W.codeIn K cd_names "_law_names" = true)
    (k_names : PySem.W.keepIn K (.ref f_names) = true)
    (a_gateways : PySem.W.nsIn K mainGlobals "_law_gateways" = some (some (.ref f_gateways)))
    (l_gateways : K.lookup f_gateways = some ⟨oc_gateways, od_gateways, .func (PySem.W.fnOf "_law_gateways" "_law_gateways" (defArgs st_gateways) (defBody st_gateways) (defScope st_gateways) .none kV_gateways dc_gateways pm_gateways an_gateways cd_gateways ct_gateways), sl_gateways⟩)
    (c_gateways : PySem.W.codeIn K cd_gateways "_law_gateways" = true)
    (k_gateways : PySem.W.keepIn K (.ref f_gateways) = true)
    (a_world : PySem.W.nsIn K mainGlobals "_law_world" = some (some (.ref f_world)))
    (l_world : K.lookup f_world = some ⟨oc_world, od_world, .func (PySem.W.fnOf "_law_world" "_law_world" (defArgs st_world) (defBody st_world) (defScope st_world) .none kV_world dc_world pm_world an_world cd_world ct_world), sl_world⟩)
    (c_world : PySem.W.codeIn K cd_world "_law_world" = true)
    (k_world : PySem.W.keepIn K (.ref f_world) = true)
    (a_groups : PySem.W.nsIn K mainGlobals "_law_groups" = some (some (.ref f_groups)))
    (l_groups : K.lookup f_groups = some ⟨oc_groups, od_groups, .func (PySem.W.fnOf "_law_groups" "_law_groups" (defArgs st_groups) (defBody st_groups) (defScope st_groups) .none kV_groups dc_groups pm_groups an_groups cd_groups ct_groups), sl_groups⟩)
    (c_groups : PySem.W.codeIn K cd_groups "_law_groups" = true)
    (k_groups : PySem.W.keepIn K (.ref f_groups) = true)
    (a_right : PySem.W.nsIn K mainGlobals "_law_right" = some (some (.ref f_right)))
    (l_right : K.lookup f_right = some ⟨oc_right, od_right, .func (PySem.W.fnOf "_law_right" "_law_right" (defArgs st_right) (defBody st_right) (defScope st_right) .none kV_right dc_right pm_right an_right cd_right ct_right), sl_right⟩)
    (c_right : PySem.W.codeIn K cd_right "_law_right" = true)
    (k_right : PySem.W.keepIn K (.ref f_right) = true)
    (a_law : PySem.W.nsIn K mainGlobals "law" = some (some (.ref f_law)))
    (l_law : K.lookup f_law = some ⟨oc_law, od_law, .func (PySem.W.fnOf "law" "law" (defArgs st_law) (defBody st_law) (defScope st_law) .none kV_law dc_law pm_law an_law cd_law ct_law), sl_law⟩)
    (c_law : PySem.W.codeIn K cd_law "law" = true)
    (k_law : PySem.W.keepIn K (.ref f_law) = true)
    (z_len : PySem.W.nsIn K mainGlobals "len" = some none)
    (z_abs : PySem.W.nsIn K mainGlobals "abs" = some none)
    (z_int : PySem.W.nsIn K mainGlobals "int" = some none)
    (z_range : PySem.W.nsIn K mainGlobals "range" = some none)
    (z_list : PySem.W.nsIn K mainGlobals "list" = some none)
    (z_tuple : PySem.W.nsIn K mainGlobals "tuple" = some none)
    (z_sorted : PySem.W.nsIn K mainGlobals "sorted" = some none)
    (z_min : PySem.W.nsIn K mainGlobals "min" = some none)
    (z_max : PySem.W.nsIn K mainGlobals "max" = some none)
    (z_all : PySem.W.nsIn K mainGlobals "all" = some none)
    (z_repr : PySem.W.nsIn K mainGlobals "repr" = some none)
    (z_dict : PySem.W.nsIn K mainGlobals "dict" = some none)
    (z_enumerate : PySem.W.nsIn K mainGlobals "enumerate" = some none) :
    ∃ fd : FuncData, (∀ (s : Shared) (v : Value), BindsTo s fd ⟨[v], []⟩ [("_law_script", v)]) ∧ ∀ base : Heap, K.In base → base.Ns mainGlobals mg → FnG l.prog w K mg base CX0 6 fa fd ["_law_script"] (spLaw K) := by
  have e := hfa.symm.trans (PySem.W.mg_of X G a_law)
  cases e
  have Fexits := fun_mk (x := "exits") (st := st_exits) l_exits c_exits k_exits
  have bexits := Fexits.binds (ps := ["world", "region", "without"]) fun _ _ _ _ _ _ us hl => match us, hl with | [_, _, _], _ => rfl
  have Fshortest_path := fun_mk (x := "shortest_path") (st := st_shortest_path) l_shortest_path c_shortest_path k_shortest_path
  have bshortest_path := Fshortest_path.binds (ps := ["world", "one", "other", "without"]) fun _ _ _ _ _ _ us hl => match us, hl with | [_, _, _, _], _ => rfl
  have Fconnected := fun_mk (x := "connected") (st := st_connected) l_connected c_connected k_connected
  have Fhand := fun_mk (x := "_law_hand") (st := st_hand) l_hand c_hand k_hand
  have bhand := Fhand.binds (ps := ["_law_script", "_law_k"]) fun _ _ _ _ _ _ us hl => match us, hl with | [_, _], _ => rfl
  have Ftake := fun_mk (x := "_law_take") (st := st_take) l_take c_take k_take
  have btake := Ftake.binds (ps := ["_law_hand_here", "_law_many"]) fun _ _ _ _ _ _ us hl => match us, hl with | [_, _], _ => rfl
  have Fof := fun_mk (x := "_law_of") (st := st_of) l_of c_of k_of
  have bof := Fof.binds (ps := ["_law_hand_here", "_law_some"]) fun _ _ _ _ _ _ us hl => match us, hl with | [_, _], _ => rfl
  have Fmixed := fun_mk (x := "_law_mixed") (st := st_mixed) l_mixed c_mixed k_mixed
  have bmixed := Fmixed.binds (ps := ["_law_hand_here", "_law_some"]) fun _ _ _ _ _ _ us hl => match us, hl with | [_, _], _ => rfl
  have Fnames := fun_mk (x := "_law_names") (st := st_names) l_names c_names k_names
  have bnames := Fnames.binds (ps := ["_law_hand_here", "_law_count"]) fun _ _ _ _ _ _ us hl => match us, hl with | [_, _], _ => rfl
  have Fgateways := fun_mk (x := "_law_gateways") (st := st_gateways) l_gateways c_gateways k_gateways
  have bgateways := Fgateways.binds (ps := ["_law_hand_here", "_law_regions", "_law_count"]) fun _ _ _ _ _ _ us hl => match us, hl with | [_, _, _], _ => rfl
  have Fworld := fun_mk (x := "_law_world") (st := st_world) l_world c_world k_world
  have bworld := Fworld.binds (ps := ["_law_hand_here", "_law_most_regions", "_law_most_gateways"]) fun _ _ _ _ _ _ us hl => match us, hl with | [_, _, _], _ => rfl
  have Fgroups := fun_mk (x := "_law_groups") (st := st_groups) l_groups c_groups k_groups
  have bgroups := Fgroups.binds (ps := ["_law_world_here", "_law_barred"]) fun _ _ _ _ _ _ us hl => match us, hl with | [_, _], _ => rfl
  have Fright := fun_mk (x := "_law_right") (st := st_right) l_right c_right k_right
  have bright := Fright.binds (ps := ["_law_hand_here", "_law_world_here"]) fun _ _ _ _ _ _ us hl => match us, hl with | [_, _], _ => rfl
  have Flaw := fun_mk (x := "law") (st := st_law) l_law c_law k_law
  have blaw := Flaw.binds (ps := ["_law_script"]) fun _ _ _ _ _ _ us hl => match us, hl with | [_], _ => rfl
  have B : Blt mg := ⟨PySem.W.mg_none_of X G z_len, PySem.W.mg_none_of X G z_abs, PySem.W.mg_none_of X G z_int, PySem.W.mg_none_of X G z_range, PySem.W.mg_none_of X G z_list, PySem.W.mg_none_of X G z_tuple, PySem.W.mg_none_of X G z_sorted, PySem.W.mg_none_of X G z_min, PySem.W.mg_none_of X G z_max, PySem.W.mg_none_of X G z_all, PySem.W.mg_none_of X G z_repr, PySem.W.mg_none_of X G z_dict, PySem.W.mg_none_of X G z_enumerate⟩
  refine ⟨PySem.W.fnOf "law" "law" (defArgs st_law) (defBody st_law) (defScope st_law) .none kV_law dc_law pm_law an_law cd_law ct_law, fun s v => .of_eq rfl, fun base _ _ => ?_⟩
  · have Dexits : Df l.prog w K mg base "exits" 1 f_exits _ _ _ := ⟨PySem.W.mg_of X G a_exits, k_exits, bexits, ok_exits Fexits⟩
    have Dshortest_path : Df l.prog w K mg base "shortest_path" 2 f_shortest_path _ _ _ := ⟨PySem.W.mg_of X G a_shortest_path, k_shortest_path, bshortest_path, ok_shortest_path Fshortest_path Dexits⟩
    have Dtake : Df l.prog w K mg base "_law_take" 1 f_take _ _ _ := ⟨PySem.W.mg_of X G a_take, k_take, btake, ok_take Ftake⟩
    have Dhand : Df l.prog w K mg base "_law_hand" 1 f_hand _ _ _ := ⟨PySem.W.mg_of X G a_hand, k_hand, bhand, ok_hand Fhand B⟩
    have Dof : Df l.prog w K mg base "_law_of" 2 f_of _ _ _ := ⟨PySem.W.mg_of X G a_of, k_of, bof, ok_of Fof B Dtake⟩
    have Dmixed : Df l.prog w K mg base "_law_mixed" 2 f_mixed _ _ _ := ⟨PySem.W.mg_of X G a_mixed, k_mixed, bmixed, ok_mixed Fmixed B Dtake⟩
    have Dnames : Df l.prog w K mg base "_law_names" 3 f_names _ _ _ := ⟨PySem.W.mg_of X G a_names, k_names, bnames, ok_names Fnames B Dtake Dof⟩
    have Dgateways : Df l.prog w K mg base "_law_gateways" 4 f_gateways _ _ _ := ⟨PySem.W.mg_of X G a_gateways, k_gateways, bgateways, ok_gateways Fgateways B Dof Dmixed Dnames⟩
    have Dworld : Df l.prog w K mg base "_law_world" 5 f_world _ _ _ := ⟨PySem.W.mg_of X G a_world, k_world, bworld, ok_world Fworld B Dtake Dnames Dgateways⟩
    have Dgroups : Df l.prog w K mg base "_law_groups" 1 f_groups _ _ _ := ⟨PySem.W.mg_of X G a_groups, k_groups, bgroups, ok_groups Fgroups B⟩
    have Dconnected := dk_connected (T := T_connected) (mg := mg) (base := base) (P := l.prog) (w := w) rfl l_connected c_connected k_connected n_connected (PySem.W.mg_of X G a_connected) (ok_connected Fconnected Dshortest_path)
    have Dright : Df l.prog w K mg base "_law_right" 4 f_right _ _ _ := ⟨PySem.W.mg_of X G a_right, k_right, bright, ok_right Fright B Dtake Dof Dmixed Dgroups Dconnected (fun _ => .inr ⟨_, #[], nt_connected, t_connected, rfl, rfl, by decide, .nil⟩)⟩
    exact ok_law Flaw B Dright Dworld Dhand
end K09

set_option Elab.async false
set_option linter.all false
open PySem PySem.W PyProof.Rows
set_option maxRecDepth 100000 in
set_option maxHeartbeats 0 in
theorem PySem.Challenge.cw_wraptrails_k09_connected_regions_holds : PySem.Challenge.rw_wraptrails_k09_connected_regions.Holds := by
  w_on; o_law; k_head; (case hw => w_witness2)
  k_fill
  refine WT.walkG (l := PySem.Challenge.rw_wraptrails_k09_connected_regions) (n := 63) (k := 6) (x := "_law_script") (sp := fun w => K09.spLaw _) rfl (by decide) rfl ⟨rfl, by decide, by decide⟩ (fun w h Y => PySem.W.kIn_of Y) ?F (fun _ _ a ns hl _ hS => ⟨a, ns, rfl, hS, hl, fun _ => rfl⟩)
  case F =>
    intro w mg fa h KX G hmg
    refine' K09.all_mk KX G hmg ?a_exits ?l_exits ?c_exits ?k_exits ?a_shortest_path ?l_shortest_path ?c_shortest_path ?k_shortest_path ?a_connected ?l_connected ?c_connected ?k_connected ?n_connected ?t_connected ?a_hand ?l_hand ?c_hand ?k_hand ?a_take ?l_take ?c_take ?k_take ?a_of ?l_of ?c_of ?k_of ?a_mixed ?l_mixed ?c_mixed ?k_mixed ?a_names ?l_names ?c_names ?k_names ?a_gateways ?l_gateways ?c_gateways ?k_gateways ?a_world ?l_world ?c_world ?k_world ?a_groups ?l_groups ?c_groups ?k_groups ?a_right ?l_right ?c_right ?k_right ?a_law ?l_law ?c_law ?k_law ?z_len ?z_abs ?z_int ?z_range ?z_list ?z_tuple ?z_sorted ?z_min ?z_max ?z_all ?z_repr ?z_dict ?z_enumerate
    (case a_exits => k_is)
    (case l_exits => k_is)
    (case c_exits => k_is)
    (case k_exits => k_is)
    (case a_shortest_path => k_is)
    (case l_shortest_path => k_is)
    (case c_shortest_path => k_is)
    (case k_shortest_path => k_is)
    (case a_connected => k_is)
    (case l_connected => k_is)
    (case c_connected => k_is)
    (case k_connected => k_is)
    (case n_connected => k_is)
    (case t_connected => k_is)
    (case a_hand => k_is)
    (case l_hand => k_is)
    (case c_hand => k_is)
    (case k_hand => k_is)
    (case a_take => k_is)
    (case l_take => k_is)
    (case c_take => k_is)
    (case k_take => k_is)
    (case a_of => k_is)
    (case l_of => k_is)
    (case c_of => k_is)
    (case k_of => k_is)
    (case a_mixed => k_is)
    (case l_mixed => k_is)
    (case c_mixed => k_is)
    (case k_mixed => k_is)
    (case a_names => k_is)
    (case l_names => k_is)
    (case c_names => k_is)
    (case k_names => k_is)
    (case a_gateways => k_is)
    (case l_gateways => k_is)
    (case c_gateways => k_is)
    (case k_gateways => k_is)
    (case a_world => k_is)
    (case l_world => k_is)
    (case c_world => k_is)
    (case k_world => k_is)
    (case a_groups => k_is)
    (case l_groups => k_is)
    (case c_groups => k_is)
    (case k_groups => k_is)
    (case a_right => k_is)
    (case l_right => k_is)
    (case c_right => k_is)
    (case k_right => k_is)
    (case a_law => k_is)
    (case l_law => k_is)
    (case c_law => k_is)
    (case k_law => k_is)
    (case z_len => k_is)
    (case z_abs => k_is)
    (case z_int => k_is)
    (case z_range => k_is)
    (case z_list => k_is)
    (case z_tuple => k_is)
    (case z_sorted => k_is)
    (case z_min => k_is)
    (case z_max => k_is)
    (case z_all => k_is)
    (case z_repr => k_is)
    (case z_dict => k_is)
    (case z_enumerate => k_is)
