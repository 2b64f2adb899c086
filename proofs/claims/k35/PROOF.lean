import PyProof.Rows.All
import Wide.All
import OpenK.AllK
import Wide.FinOn
import HandS.Base
import HandS.Call
import HandS.List
import HandS.Dict
import HandS.Words
import PyProof.Rows.ReprR
import HandS.Ends
import HandS.Exc
import HandS.ExcInit
import HandS.ExcIs
import KE.KExcIs
import HandS.ExcValue
import PyProof.ListStr
import HandS.ForMost
import HandS.Conv
import HandS.Walk
import HandS.Style
import HandS.Wide
import KE.SortData
import PyProof.ReprLen
import HandS.Defaults
import KE.DataMinKey
import KE.DataMinMax
import PyProof.Rows.RuleIs
import HandS.IsInst
import PyProof.EqKinds
import PyProof.FactsAll.dict_1
import HandS.Codes
import HandS.Strs
import KE.GoesMore
import KE.GoesZip
import HandS.Iter
import PyProof.NeKinds
import HandS.TupAny
import HandS.Text
import HandS.Replace
import HandS.ReplaceLit
import HandS.RaiseMore
import PyProof.FitsReplace
import PyProof.StrBlock2
import KE.KIntText
import KE.IntTextLaws
import HandS.StrMore
import PyProof.StrLawsReplace
import PyProof.Rows.ReprOcc
import PyProof.FitsInt
import KE.GoesEnum
import HandS.TupSets
import HandS.SetBool
import KE.KeyNested
import KE.KDictKeyed
import HandS.Comp
import HandS.Zip
import HandS.Steps
import HandS.Lambda
import HandS.DictComp
import KE.KDictSum
import PyProof.TupleOfSeq
import KE.KStateDown
import HandS.More
import HandS.WrittenGet
import OpenK.KTop
import PySem.Challenge.RW_wraptrails_k35_trails_or_not
set_option Elab.async false
set_option linter.all false
set_option maxRecDepth 100000
set_option maxHeartbeats 4000000
/-! repr of data: lists, tuples and dicts within one another. -/
namespace WT
open PySem
mutual
/-- the value v of the heap h is the data d; no dict of it is the one of all modules -/
inductive Sh (h : Heap) : Value → PyData → Prop
  | none : Sh h .none .none
  | bool (b) : Sh h (.bool b) (.bool b)
  | int (i t) : Sh h (.int i t) (.int i)
  | str (x t) : Sh h (.str x t) (.str x)
  | list {a o vs n xs} : h.get? a = some o → o.cls = .type "list" → o.data = .seq vs n → ShAll h vs.toList xs → Sh h (.ref a) (.list xs)
  | tuple {a o vs n xs} : h.get? a = some o → o.cls = .type "tuple" → o.data = .seq vs n → ShAll h vs.toList xs → Sh h (.ref a) (.tuple xs)
  | dict {a o es n ks vs} : h.get? a = some o → o.cls = .type "dict" → o.data = .dict es n → (a == sysModules) = false → ks.length = vs.length → ShAll h (es.toList.map (·.key)) ks → ShAll h (es.toList.map (·.val)) vs → Sh h (.ref a) (.dict (ks.zip vs))
inductive ShAll (h : Heap) : List Value → List PyData → Prop
  | nil : ShAll h [] []
  | cons {v vs d ds} : Sh h v d → ShAll h vs ds → ShAll h (v :: vs) (d :: ds)
end
theorem zip1 {α β : Type} : ∀ (ks : List α) (vs : List β), ks.length = vs.length → (ks.zip vs).map (·.1) = ks
  | [], _, _ => rfl
  | k :: ks, [], h => by cases h
  | k :: ks, v :: vs, h => by
    show k :: (ks.zip vs).map (·.1) = k :: ks
    rw [zip1 ks vs (Nat.succ.inj h)]
theorem zip2 {α β : Type} : ∀ (ks : List α) (vs : List β), ks.length = vs.length → (ks.zip vs).map (·.2) = vs
  | [], [], _ => rfl
  | [], v :: vs, h => by cases h
  | k :: ks, [], h => by cases h
  | k :: ks, v :: vs, h => by
    show v :: (ks.zip vs).map (·.2) = v :: vs
    rw [zip2 ks vs (Nat.succ.inj h)]
mutual
theorem Sh.reads {h : Heap} : ∀ {v : Value} {d : PyData}, Sh h v d → ∃ as, Reads h v d as
  | _, _, .none => ⟨_, .none⟩
  | _, _, .bool b => ⟨_, .bool b⟩
  | _, _, .int i t => ⟨_, .int i t⟩
  | _, _, .str x t => ⟨_, .str x t⟩
  | _, _, .list h1 h2 h3 h4 => let ⟨_, q⟩ := ShAll.reads h4; ⟨_, .list h1 h2 h3 q⟩
  | _, _, .tuple h1 h2 h3 h4 => let ⟨_, q⟩ := ShAll.reads h4; ⟨_, .tuple h1 h2 h3 q⟩
  | _, _, .dict (ks := ks) (vs := vs) h1 h2 h3 _ hl h4 h5 => by
    obtain ⟨_, q4⟩ := ShAll.reads h4
    obtain ⟨_, q5⟩ := ShAll.reads h5
    exact ⟨_, .dict h1 h2 h3 (by rw [zip1 ks vs hl]; exact q4) (by rw [zip2 ks vs hl]; exact q5)⟩
theorem ShAll.reads {h : Heap} : ∀ {vs : List Value} {ds : List PyData}, ShAll h vs ds → ∃ as, ReadsAll h vs ds as
  | _, _, .nil => ⟨_, .nil⟩
  | _, _, .cons r rs => let ⟨_, q⟩ := Sh.reads r; let ⟨_, q2⟩ := ShAll.reads rs; ⟨_, .cons q q2⟩
end
section
variable {prog : Program} {w : World} {h₀ : Heap}
mutual
theorem Sh.rk : ∀ {v : Value} {d : PyData}, Sh h₀ v d → d.showable = true → d.shown.length ≤ sizeLine → ∃ bs, ReadAtMost h₀ d.depth bs ∧ ReprK prog w bs h₀ d.depth v d.shown
  | _, _, .none, _, _ => ⟨[], fun _ z => (nomatch z), by rw [PyData.shown]; exact .of_is ReprIs.none _ _ _⟩
  | _, _, .bool b, _, _ => ⟨[], fun _ z => (nomatch z), by rw [PyData.shown]; exact .of_is (ReprIs.bool b) _ _ _⟩
  | _, _, .int i t, hs, _ => ⟨[], fun _ z => (nomatch z), by rw [PyData.shown]; exact .of_is (ReprIs.int t (by simpa [PyData.showable] using hs)) _ _ _⟩
  | _, _, .str x t, _, hz => ⟨[], fun _ z => (nomatch z), by rw [PyData.shown] at hz ⊢; exact .of_is (ReprIs.str x t hz) _ _ _⟩
  | _, _, .list (a := a) (vs := vs) (xs := xs) h1 h2 h3 h4, hs, hz => by
    rw [PyData.shown] at hz
    rw [PyData.showable] at hs
    obtain ⟨as, q4⟩ := ShAll.reads h4
    obtain ⟨bs, hb, hk⟩ := ShAll.rk h4 hs fun t ht => Nat.le_trans (listText_mem_le ht) hz
    have r : Reads h₀ (.ref a) (.list xs) (a :: as) := .list h1 h2 h3 q4
    have hna : a ∉ bs := not_mem_of_deeper r (by rw [PyData.depth]; omega) hb
    refine ⟨a :: bs, ReadAtMost.cons r (by rw [PyData.depth]; omega) hb, ?_⟩
    rw [PyData.depth, PyData.shown]
    obtain ⟨l⟩ := vs
    match l, h4, hk, h3 with
    | [], h4, _, h3 =>
      have h4' : ShAll h₀ [] xs := h4
      cases h4'
      rw [PyData.shownAll, listText_nil]
      exact ReprK.listEmpty h1 h2 h3
    | x :: l, _, hk, h3 => exact ReprK.list h1 h2 h3 hna (by simpa using hk.length_eq) fun i y e => hk.item i y (by simpa using e)
  | _, _, .tuple (a := a) (xs := xs) h1 h2 h3 h4, hs, hz => by
    rw [PyData.shown] at hz
    rw [PyData.showable] at hs
    obtain ⟨as, q4⟩ := ShAll.reads h4
    obtain ⟨bs, hb, hk⟩ := ShAll.rk h4 hs fun t ht => Nat.le_trans (tupleText_mem_le ht) hz
    have r : Reads h₀ (.ref a) (.tuple xs) as := .tuple h1 h2 h3 q4
    have hna : a ∉ bs := not_mem_of_deeper r (by rw [PyData.depth]; omega) hb
    refine ⟨a :: bs, ReadAtMost.cons r (by rw [PyData.depth]; omega) hb, ?_⟩
    rw [PyData.depth, PyData.shown]
    exact ReprK.tuple h1 h2 h3 hna hk
  | _, _, .dict (a := a) (es := es) (ks := ks) (vs := vs) h1 h2 h3 hsys hl h4 h5, hs, hz => by
    rw [PyData.shown] at hz
    rw [PyData.showable] at hs
    obtain ⟨as, q4⟩ := ShAll.reads h4
    obtain ⟨cs, q5⟩ := ShAll.reads h5
    have e1 := zip1 ks vs hl
    have e2 := zip2 ks vs hl
    obtain ⟨hs1, hs2⟩ := PyData.showableKv_split (ks.zip vs) hs
    rw [e1] at hs1
    rw [e2] at hs2
    obtain ⟨b1, hb1, k1⟩ := ShAll.rk h4 hs1 fun t ht => by
      obtain ⟨p, hp, hle⟩ := PyData.shownKv_key_le (ks.zip vs) t (by rw [e1]; exact ht)
      exact Nat.le_trans hle (Nat.le_trans (dictText_mem_le hp) hz)
    obtain ⟨b2, hb2, k2⟩ := ShAll.rk h5 hs2 fun t ht => by
      obtain ⟨p, hp, hle⟩ := PyData.shownKv_val_le (ks.zip vs) t (by rw [e2]; exact ht)
      exact Nat.le_trans hle (Nat.le_trans (dictText_mem_le hp) hz)
    have d1 := PyData.depthAll_keys_le (ks.zip vs)
    have d2 := PyData.depthAll_vals_le (ks.zip vs)
    rw [e1] at d1
    rw [e2] at d2
    have r : Reads h₀ (.ref a) (.dict (ks.zip vs)) (a :: as ++ cs) := .dict h1 h2 h3 (by rw [e1]; exact q4) (by rw [e2]; exact q5)
    have hb : ReadAtMost h₀ (PyData.depthKv (ks.zip vs)) (b1 ++ b2) := (hb1.mono d1).append (hb2.mono d2)
    have hna : a ∉ b1 ++ b2 := not_mem_of_deeper r (by rw [PyData.depth]; omega) hb
    refine ⟨a :: (b1 ++ b2), ReadAtMost.cons r (by rw [PyData.depth]; omega) hb, ?_⟩
    rw [PyData.depth, PyData.shown, PyData.shownKv_eq, e1, e2]
    exact ReprK.dict h1 h2 h3 hsys hna (ReprEntriesK.of_two es.toList _ _
      (k1.more_le (fun b hb => List.mem_append_left _ hb) d1) (k2.more_le (fun b hb => List.mem_append_right _ hb) d2))
theorem ShAll.rk : ∀ {vs : List Value} {ds : List PyData}, ShAll h₀ vs ds → PyData.showableAll ds = true → (∀ t ∈ PyData.shownAll ds, t.length ≤ sizeLine) →
    ∃ bs, ReadAtMost h₀ (PyData.depthAll ds) bs ∧ ReprAllK prog w bs h₀ (PyData.depthAll ds) vs (PyData.shownAll ds)
  | _, _, .nil, _, _ => ⟨[], fun _ z => (nomatch z), by rw [PyData.shownAll]; exact .nil⟩
  | _, _, .cons (d := d) (ds := ds) r rs, hs, hz => by
    rw [PyData.showableAll, Bool.and_eq_true] at hs
    rw [PyData.shownAll] at hz
    obtain ⟨b1, hb1, k1⟩ := Sh.rk r hs.1 (hz _ List.mem_cons_self)
    obtain ⟨b2, hb2, k2⟩ := ShAll.rk rs hs.2 fun t ht => hz t (List.mem_cons_of_mem _ ht)
    rw [PyData.depthAll, PyData.shownAll]
    exact ⟨b1 ++ b2, (hb1.mono (Nat.le_max_left _ _)).append (hb2.mono (Nat.le_max_right _ _)),
      .cons ((k1.more fun b hb => List.mem_append_left _ hb).level_le (Nat.le_max_left _ _)) (k2.more_le (fun b hb => List.mem_append_right _ hb) (Nat.le_max_right _ _))⟩
end
variable {A : Around} {E : Value → Shared → Prop} {s : Shared} {Q : Value → Shared → Prop}
theorem Sh.repr {v : Value} {d : PyData} (r : Sh s.heap v d) (hs : d.showable = true) (hz : d.shown.length ≤ sizeLine) (hg : A.guards = some []) (hu : A.units + (d.depth + 1) < cLine)
    (hQ : ∀ h' u tk, (∀ b o, s.heap.get? b = some o → h'.get? b = some o) → Q (.str d.shown u) { s with heap := h', toks := tk }) : wpAny (model prog w) A (call (.builtin "repr") [v]) Q E s := by
  have hid : ∀ b o, s.heap.get? b = some o → s.heap.get? b = some o := fun _ _ z => z
  cases r with
  | none =>
    rw [PyData.shown] at hQ
    exact PySem.P.repr_of_none (hQ s.heap _ _ hid)
  | bool b =>
    rw [PyData.shown] at hQ
    exact PySem.P.repr_of_bool (hQ s.heap _ _ hid)
  | int i t =>
    rw [PyData.shown] at hQ
    exact PySem.P.repr_of_int (by simpa [PyData.showable] using hs) (hQ s.heap _ _ hid)
  | str x t =>
    rw [PyData.shown] at hQ hz
    exact PySem.P.repr_of_str (hQ s.heap _ _ hid) hz
  | list h1 h2 h3 h4 =>
    rename_i a o vs n xs
    rw [PyData.shown] at hz hQ
    rw [PyData.showable] at hs
    rw [PyData.depth] at hu
    obtain ⟨as, q4⟩ := ShAll.reads h4
    obtain ⟨bs, hb, hk⟩ := ShAll.rk (prog := prog) (w := w) h4 hs fun t ht => Nat.le_trans (listText_mem_le ht) hz
    have hna : a ∉ bs := not_mem_of_deeper (.list h1 h2 h3 q4) (by rw [PyData.depth]; omega) hb
    refine call_repr_slot (by omega) ⟨o, h1, h2⟩ F.slot_list_repr.toG ?_
    obtain ⟨l⟩ := vs
    match l, h4, hk, h3 with
    | [], h4, _, h3 =>
      have h4' : ShAll s.heap [] xs := h4
      cases h4'
      rw [PyData.shownAll, listText_nil] at hQ
      exact call_list_repr_empty ⟨o, h1, h2⟩ h1 h3 ⟨_, _, rfl, hQ s.heap _ _ hid⟩
    | x :: l, _, hk, h3 =>
      exact call_list_reprK h1 h2 h3 hna (by simpa using hk.length_eq) (fun i y e => hk.item i y (by simpa using e)) hg (fun b _ => Clear.nil b) (by show A.units + 1 + _ < cLine; omega) hid (fun h' u tk hk => ⟨_, _, rfl, hQ h' u tk hk⟩) hz
  | tuple h1 h2 h3 h4 =>
    rename_i a o vs n xs
    rw [PyData.shown] at hz hQ
    rw [PyData.showable] at hs
    rw [PyData.depth] at hu
    obtain ⟨as, q4⟩ := ShAll.reads h4
    obtain ⟨bs, hb, hk⟩ := ShAll.rk (prog := prog) (w := w) h4 hs fun t ht => Nat.le_trans (tupleText_mem_le ht) hz
    have hna : a ∉ bs := not_mem_of_deeper (.tuple h1 h2 h3 q4) (by rw [PyData.depth]; omega) hb
    refine call_repr_slot (by omega) ⟨o, h1, h2⟩ F.slot_tuple_repr ?_
    exact call_tuple_reprK h1 h2 h3 hna hk hg (fun b _ => Clear.nil b) (by show A.units + 1 + _ < cLine; omega) hid (fun h' u tk hk => ⟨_, _, rfl, hQ h' u tk hk⟩) hz
  | dict h1 h2 h3 hsys hl h4 h5 =>
    rename_i a o es n ks vs
    rw [PyData.shown] at hz hQ
    rw [PyData.showable] at hs
    rw [PyData.depth] at hu
    obtain ⟨as, q4⟩ := ShAll.reads h4
    obtain ⟨cs, q5⟩ := ShAll.reads h5
    have e1 := zip1 ks vs hl
    have e2 := zip2 ks vs hl
    obtain ⟨hs1, hs2⟩ := PyData.showableKv_split (ks.zip vs) hs
    rw [e1] at hs1
    rw [e2] at hs2
    obtain ⟨b1, hb1, k1⟩ := ShAll.rk (prog := prog) (w := w) h4 hs1 fun t ht => by
      obtain ⟨p, hp, hle⟩ := PyData.shownKv_key_le (ks.zip vs) t (by rw [e1]; exact ht)
      exact Nat.le_trans hle (Nat.le_trans (dictText_mem_le hp) hz)
    obtain ⟨b2, hb2, k2⟩ := ShAll.rk (prog := prog) (w := w) h5 hs2 fun t ht => by
      obtain ⟨p, hp, hle⟩ := PyData.shownKv_val_le (ks.zip vs) t (by rw [e2]; exact ht)
      exact Nat.le_trans hle (Nat.le_trans (dictText_mem_le hp) hz)
    have d1 := PyData.depthAll_keys_le (ks.zip vs)
    have d2 := PyData.depthAll_vals_le (ks.zip vs)
    rw [e1] at d1
    rw [e2] at d2
    have hb : ReadAtMost s.heap (PyData.depthKv (ks.zip vs)) (b1 ++ b2) := (hb1.mono d1).append (hb2.mono d2)
    have hna : a ∉ b1 ++ b2 := not_mem_of_deeper (.dict h1 h2 h3 (by rw [e1]; exact q4) (by rw [e2]; exact q5)) (by rw [PyData.depth]; omega) hb
    rw [PyData.shownKv_eq, e1, e2] at hQ hz
    refine call_repr_slot (by omega) ⟨o, h1, h2⟩ F.slot_dict_repr ?_
    exact call_dict_reprK h1 h2 h3 hsys hna (ReprEntriesK.of_two es.toList _ _ (k1.more_le (fun b hb => List.mem_append_left _ hb) d1) (k2.more_le (fun b hb => List.mem_append_right _ hb) d2)) hg (fun b _ => Clear.nil b)
      (by show A.units + 1 + _ < cLine; omega) hid (fun h' u tk hk => ⟨_, _, rfl, hQ h' u tk hk⟩) hz
end
end WT

set_option Elab.async false
set_option linter.all false
set_option maxRecDepth 100000
set_option maxHeartbeats 4000000
/-! Defs that may ask repr of lists: called where no repr is under way (the guards are told to be empty). -/
namespace WT
open PySem PySem.Spec PyProof.Rows L2
structure FnG (P : Program) (w : World) (K : PySem.W.Frag) (mg : Str → Option Value) (base : Heap) (cx : CXT) (k : Nat) (f : Addr) (fd : FuncData) (ps : List Str) (sp : Sp) : Prop where
  len : ∀ vs H Q E, sp vs H Q E → vs.length = ps.length
  run : ∀ (A : Around) (outer : List Env) (s : Shared) (H : Hp) (args : Args) (us : List Value) (vs : List V) (Q : VK) (E : XK), A.guards = some [] → Room k A → Env0 P w K mg base A outer s H →
    BindsTo s fd args (ps.zip us) → Vals vs us → sp vs H Q E → codeAny (model P w) A (.call (.ref f) args) (CR cx outer P w H s Q E) s
section
variable {P : Program} {w : World} {K : PySem.W.Frag} {mg : Str → Option Value} {base : Heap} {cx : CXT} {j k : Nat} {f : Addr} {fd : FuncData} {ps : List Str} {sp sp' : Sp}
theorem FnG.of (G : FnOk P w K mg base cx k f fd ps sp) : FnG P w K mg base cx k f fd ps sp := ⟨G.len, fun A o s H a us vs Q E _ => G.run A o s H a us vs Q E⟩
theorem FnG.mono (G : FnG P w K mg base cx j f fd ps sp) (h : j ≤ k) : FnG P w K mg base cx k f fd ps sp :=
  ⟨G.len, fun A o s H a us vs Q E g hr => G.run A o s H a us vs Q E g (hr.mono h)⟩
theorem FnG.imp (G : FnG P w K mg base cx k f fd ps sp) (h : ∀ vs H Q E, sp' vs H Q E → sp vs H Q E) : FnG P w K mg base cx k f fd ps sp' :=
  ⟨fun vs H Q E q => G.len vs H Q E (h _ _ _ _ q), fun A o s H a us vs Q E g hr e hb hv hs => G.run A o s H a us vs Q E g hr e hb hv (h _ _ _ _ hs)⟩
/-- a def by its body -/
theorem fnG_of {name qual : Str} {params : Arguments} {body : List Stmt} {scope : Scope} {dV kV doc pm cdv ct oc : Value} {an od : Option Addr} {osl : Array (Option Value)} {N : List Str}
    (lk : K.lookup f = some ⟨oc, od, .func (PySem.W.fnOf name qual params body scope dV kV doc pm an cdv ct), osl⟩) (hcd : PySem.W.codeIn K cdv qual = true) (S : FnScope N ps scope)
    (hlen : ∀ vs H Q E, sp vs H Q E → vs.length = ps.length)
    (hbody : ∀ (A : Around) (outer : List Env) (s : Shared) (H : Hp) (vs : List V) (Q : VK) (E : XK), A.guards = some [] → Room k (A.deeper (envOfC qual scope s.heap.objs.size f cdv)) → sp vs H Q E →
      ∃ t, PSs (cxOf cx P w K mg base N qual scope f cdv A outer s H E) body t ∧ t { nx := fun _ H' => Q .non H', rt := Q } (start N vs) H) :
    FnG P w K mg base cx (k + 1) f (PySem.W.fnOf name qual params body scope dV kV doc pm an cdv ct) ps sp := by
  refine ⟨hlen, fun A outer s H args us vs Q E hgd hr e0 hb r hsp => ?_⟩
  have up : ∀ b o, base.get? b = some o → s.heap.get? b = some o := fun b o z => (e0.bs b o z).1
  have kin : K.In s.heap := e0.mod.kin.keeps up
  have lim : s.heap.NoLimit := e0.mod.nolimit.keeps up
  have kinds : ∀ y ∈ ps.zip us, scope.names.lookup y.1 = some .local ∨ (scope.names.lookup y.1 = some .cell ∧ ((cellsFrom (s.heap.objs.size + 1) scope.names []).lookup y.1).isSome = true) := by
    intro y hy
    obtain ⟨n, v⟩ := y
    exact (S.par n (List.of_mem_zip hy).1).imp id fun q => ⟨q, PySem.W.cellsFrom_some _ _ _ (.inl q)⟩
  refine codeAny_call_function hr.depth (kin _ _ lk) rfl S.co S.gen rfl (PySem.W.codeRec_of kin hcd) (hb _ _ _ _ ?_)
  refine wpAny_newFunctionEnv_cells S.kind kinds fun env he s1 y => ?_
  subst he
  refine ⟨lim.keeps y.toInCall.keep, codeAny_func ?_⟩
  obtain ⟨t, ht, hq⟩ := hbody A outer s H vs Q E hgd (hr.deeper _) hsp
  have J : Inv (cxOf cx P w K mg base N qual scope f cdv A outer s H E) [] (start N vs) H s1 := inv_start S hr.hd e0 (hlen _ _ _ _ hsp) r y
  refine wpAny_mono (ht.run [] s1 (start N vs) H _ J hq) (fun fl s' hs => ?_) fun e s' hs => hs
  cases fl with
  | ret u =>
    obtain ⟨v, σ', H', J', rv, q⟩ := hs
    exact ⟨v, H', J'.os, J'.bare, J'.base, J'.hok, rv, q⟩
  | next =>
    obtain ⟨σ', H', J', q⟩ := hs
    exact ⟨V.non, H', J'.os, J'.bare, J'.base, J'.hok, rfl, q⟩
  | brk =>
    obtain ⟨_, _, _, q⟩ := hs
    exact q.elim
  | cont =>
    obtain ⟨_, _, _, q⟩ := hs
    exact q.elim
/-- the body's rule for a def that lets nothing out -/
theorem okG {x qual : Str} {st : Stmt} {N : List Str} (F : Fun K x qual st f fd) (S : FnScope N ps (defScope st)) (hlen : ∀ vs H Q E, sp vs H Q E → vs.length = ps.length)
    (hbody : ∀ (cdv : Value) (A : Around) (outer : List Env) (s : Shared) (H : Hp) (vs : List V) (Q : VK) (E : XK), A.guards = some [] → Room k (A.deeper (envOfC qual (defScope st) s.heap.objs.size f cdv)) → sp vs H Q E →
      ∃ t, PSs (cxOf CX0 P w K mg base N qual (defScope st) f cdv A outer s H E).nox (defBody st) t ∧ t { nx := fun _ H' => Q .non H', rt := Q } (start N vs) H) : FnG P w K mg base CX0 (k + 1) f fd ps sp := by
  obtain ⟨oc, od, kV, doc, pm, an, cdv, ct, osl, rfl, lk, hcd⟩ := F.ex
  refine fnG_of lk hcd S hlen fun A outer s H vs Q E hgd hr hsp => ?_
  obtain ⟨t, h, q⟩ := hbody cdv A outer s H vs Q E hgd hr hsp
  exact ⟨t, h.nox, q⟩
/-- .. for one that may raise -/
theorem okGX {x qual : Str} {st : Stmt} {N : List Str} (F : Fun K x qual st f fd) (S : FnScope N ps (defScope st)) (hlen : ∀ vs H Q E, sp vs H Q E → vs.length = ps.length)
    (hbody : ∀ (cdv : Value) (A : Around) (outer : List Env) (s : Shared) (H : Hp) (vs : List V) (Q : VK) (E : XK), A.guards = some [] → Room k (A.deeper (envOfC qual (defScope st) s.heap.objs.size f cdv)) → sp vs H Q E →
      ∃ t, PSs (cxOf (L2.CX P w) P w K mg base N qual (defScope st) f cdv A outer s H E) (defBody st) t ∧ t { nx := fun _ H' => Q .non H', rt := Q } (start N vs) H) : FnG P w K mg base (L2.CX P w) (k + 1) f fd ps sp := by
  obtain ⟨oc, od, kV, doc, pm, an, cdv, ct, osl, rfl, lk, hcd⟩ := F.ex
  exact fnG_of lk hcd S hlen fun A outer s H vs Q E hgd hr hsp => hbody cdv A outer s H vs Q E hgd hr hsp
end
section
variable {X : Cx} {cx : CXT} {k : Nat} {f : Addr} {fd : FuncData} {ps : List Str} {sp : Sp} {E : XK} {x : Str} {p pos : Pos} {e : Expr} {es : List Expr} {t : TA}
theorem run_fnG {pins : List (Addr × Obj)} {σ : L2.St} {H : Hp} {s : Shared} {Q : VK} {us : List Value} {vs : List V} (hgd : X.A.guards = some []) (G : FnG X.prog X.w X.K X.mg X.base cx k f fd ps sp) (hr : Room k X.A) (hb : Binds X.K fd ps [])
    (hx : Passes cx X E) (I : Inv X pins σ H s) (r : Vals vs us) (h : sp vs H Q E) : wpAny (model X.prog X.w) X.A (call (.ref f) us) (EP X pins σ Q) X.xe s := by
  have hl : us.length = ps.length := (Vals.length r).symm.trans (G.len _ _ _ _ h)
  have hb' := hb s us I.kIn (by rw [List.append_nil]; exact hl)
  rw [List.append_nil] at hb'
  refine wpAny_call (codeAny_mono (G.run X.A X.stack s H ⟨us, []⟩ us vs Q E hgd hr I.env0 hb' r h) fun r s' hq => ?_)
  cases r with
  | error e => exact hx pins σ H s e s' I hq
  | ok fl =>
    cases fl with
    | ret u => exact I.after hq
    | next => exact hq.elim
    | brk => exact hq.elim
    | cont => exact hq.elim
/-- f(e, ..) -/
def tCallG (sp : Sp) (E : XK) (t : TA) : TE := fun σ H Q => t σ H fun vs H1 => sp vs H1 Q E
theorem pe_callG (hgd : X.A.guards = some []) (G : FnG X.prog X.w X.K X.mg X.base cx k f fd ps sp) (hr : Room k X.A) (hg : Gl X x) (hm : X.mg x = some (.ref f)) (hk : PySem.W.keepIn X.K (.ref f) = true) (hb : Binds X.K fd ps [])
    (hx : Passes cx X E) (ha : PA X (e :: es) t) (hdb : (x == ("__debug__" : Str)) = false := by decide) (he : starEach (e :: es) X.env = (false, eval e X.env) :: starEach es X.env := by rfl)
    (hpl : (backTo pos (starEach es X.env)).any (·.1) = false := by rfl) : PE X (.Call (.Name x p) (e :: es) [] pos) (tCallG sp E t) := by
  refine ⟨fun pins s σ H Q I h => ?_⟩
  refine wpAny_Call_Name_kw (ld_glob I hg hm ?_ hdb)
  exact PySem.W.callWith_K (h₀ := X.base) I.ok.mod.kin hk (thn (ha.run pos pins s σ H _ I h) fun us s1 ⟨vs, H1, I1, r, q⟩ => ⟨I1.kIn, run_fnG hgd G hr hb hx I1 r q⟩) he hpl
end
end WT

set_option Elab.async false
set_option linter.all false
set_option maxRecDepth 100000
set_option maxHeartbeats 4000000
namespace WT
open PySem PySem.Spec PyProof.Rows L2
def kD : Key → PyData
  | .inl i => .int i
  | .inr x => .str x
mutual
/-- data over the abstract heap, dicts among it -/
inductive Dt (K : PySem.W.Frag) (H : Hp) : V → PyData → Prop
  | non : Dt K H .non .none
  | bl (b : Bool) : Dt K H (.bl b) (.bool b)
  | int (i : Int) : Dt K H (.int i) (.int i)
  | str (x : Str) : Dt K H (.str x) (.str x)
  | lst {a : Addr} {xs : List V} {ds : List PyData} : SqL K H a xs → DtAll K H xs ds → Dt K H (.ref a) (.list ds)
  | tup {a : Addr} {xs : List V} {ds : List PyData} : SqT K H a xs → DtAll K H xs ds → Dt K H (.ref a) (.tuple ds)
  | dic {a : Addr} {kvs : List (Key × V)} {ds : List PyData} : Rd H a (.dK kvs) → DtAll K H (kvs.map (·.2)) ds → Dt K H (.ref a) (.dict ((kvs.map fun p => kD p.1).zip ds))
inductive DtAll (K : PySem.W.Frag) (H : Hp) : List V → List PyData → Prop
  | nil : DtAll K H [] []
  | cons {v : V} {vs : List V} {d : PyData} {ds : List PyData} : Dt K H v d → DtAll K H vs ds → DtAll K H (v :: vs) (d :: ds)
end
theorem DtAll.length {K : PySem.W.Frag} {H : Hp} : ∀ {vs : List V} {ds : List PyData}, DtAll K H vs ds → vs.length = ds.length
  | _, _, .nil => rfl
  | _, _, .cons _ t => congrArg Nat.succ (DtAll.length t)
theorem sameT {K : PySem.W.Frag} {H H' : Hp} {a : Addr} {xs : List V} (e : Same H H') (h : SqT K H a xs) : SqT K H' a xs := by
  rcases h with (h | ⟨o, h⟩) | h
  · exact .inl (.inl (e _ _ h))
  · exact .inl (.inr ⟨o, e _ _ h⟩)
  · exact .inr h
theorem sameR {H H' : Hp} {a : Addr} {u : HO} (e : Same H H') (h : Rd H a u) : Rd H' a u := by
  rcases h with h | ⟨o, h⟩
  · exact .inl (e _ _ h)
  · exact .inr ⟨o, e _ _ h⟩
mutual
theorem Dt.same {K : PySem.W.Frag} {H H' : Hp} (s : Same H H') : ∀ {v : V} {d : PyData}, Dt K H v d → Dt K H' v d
  | _, _, .non => .non
  | _, _, .bl b => .bl b
  | _, _, .int i => .int i
  | _, _, .str x => .str x
  | _, _, .lst h t => .lst (s.seq h) (DtAll.same s t)
  | _, _, .tup h t => .tup (sameT s h) (DtAll.same s t)
  | _, _, .dic h t => .dic (sameR s h) (DtAll.same s t)
theorem DtAll.same {K : PySem.W.Frag} {H H' : Hp} (s : Same H H') : ∀ {vs : List V} {ds : List PyData}, DtAll K H vs ds → DtAll K H' vs ds
  | _, _, .nil => .nil
  | _, _, .cons h t => .cons (Dt.same s h) (DtAll.same s t)
end
section
variable {X : Cx} {pins : List (Addr × Obj)} {σ : L2.St} {H : Hp} {s : Shared}
theorem pairs_sh {P : Program} {w : World} {h : Heap} : ∀ {es : List DictEntry} {kvs : List (Key × V)} {us : List (Key × Value)}, KV kvs us → Pairs (mixKind P w) es us → ShAll h (es.map (·.key)) (kvs.map fun p => kD p.1)
  | _, _, _, .nil, .nil => .nil
  | _, _, _, .cons r rs, .cons h1 _ hs => by
    refine .cons ?_ (pairs_sh rs hs)
    rcases keyIs_shape h1 with ⟨i, t, e1, e2⟩ | ⟨x, t, e1, e2⟩
    · dsimp only
      rw [e2, r.1, e1]
      exact .int i t
    · dsimp only
      rw [e2, r.1, e1]
      exact .str x t
theorem pairs_vals {P : Program} {w : World} : ∀ {es : List DictEntry} {kvs : List (Key × V)} {us : List (Key × Value)}, KV kvs us → Pairs (mixKind P w) es us → Vals (kvs.map (·.2)) (es.map (·.val))
  | _, _, _, .nil, .nil => .nil
  | _, _, _, .cons r rs, .cons _ h2 hs => .cons (by dsimp only; rw [h2]; exact r.2) (pairs_vals rs hs)
mutual
theorem Dt.sh (I : Inv X pins σ H s) : ∀ {v : V} {d : PyData} {u : Value}, Dt X.K H v d → RelV v u → Sh s.heap u d
  | _, _, _, .non, r => by
    cases r
    exact .none
  | _, _, _, .bl b, r => by
    cases r
    exact .bool b
  | _, _, _, .int i, r => by
    obtain ⟨t, rfl⟩ := r
    exact .int i t
  | _, _, _, .str x, r => by
    obtain ⟨t, rfl⟩ := r
    exact .str x t
  | _, _, _, .lst h t, r => by
    cases r
    obtain ⟨its, rv, ⟨o, n, ho, hc, _, hd⟩, _⟩ := I.list h
    exact .list ho hc hd (DtAll.sh I t rv)
  | _, _, _, .tup h t, r => by
    cases r
    obtain ⟨its, rv, ⟨o, ho, hc, n, hd⟩, _⟩ := I.tuple h
    exact .tuple ho hc hd (DtAll.sh I t rv)
  | _, _, _, .dic (kvs := kvs) (ds := ds) h t, r => by
    cases r
    obtain ⟨_, hsys, us, rel, o, es, ep, ho, hx, hd, _, hp, _⟩ := dk_rd I.hok h
    refine .dict ho hx.1 hd hsys ?_ (pairs_sh rel hp) (DtAll.sh I t (pairs_vals rel hp))
    rw [List.length_map, ← DtAll.length t, List.length_map]
theorem DtAll.sh (I : Inv X pins σ H s) : ∀ {vs : List V} {ds : List PyData} {us : List Value}, DtAll X.K H vs ds → Vals vs us → ShAll s.heap us ds
  | _, _, _, .nil, r => by
    cases r
    exact .nil
  | _, _, _, .cons h t, .cons r rs => .cons (Dt.sh I h r) (DtAll.sh I t rs)
end
/-- repr(x) -/
def rRepr (K : PySem.W.Frag) : List V → Hp → VK → Prop := fun xs H Q => ∃ (x : V) (d : PyData), xs = [x] ∧ Dt K H x d ∧ d.showable = true ∧ d.depth ≤ 60 ∧ d.shown.length ≤ sizeLine ∧ Q (.str d.shown) H
theorem call_repr (hgd : X.A.guards = some []) (hu : X.A.units + 64 < cLine) : CallR X (.builtin "repr") (rRepr X.K) := by
  intro pins s σ H xs us Q I r h
  obtain ⟨x, d, rfl, hd, hs, hde, hz, q⟩ := h
  obtain ⟨u, rfl, ru⟩ := vals1 r
  refine Sh.repr (hd.sh I ru) hs hz hgd (by omega) fun h' t tk kp => ?_
  exact ⟨.str d.shown, H, I.kept (t' := tk) kp, ⟨t, rfl⟩, q⟩
end
end WT

set_option Elab.async false
set_option linter.all false
set_option maxRecDepth 100000
set_option maxHeartbeats 4000000
namespace WT
open PySem PySem.Spec PyProof.Rows L2
section
variable {X : Cx}
/-- a power of any size that fits -/
def CPowW (i j : Int) : Prop := 0 ≤ j ∧ (Builtin.Int.intBits i : Int) * j ≤ 2 ^ 27
theorem op_powW : OpR X (binaryOp .Pow) (rI CPowW fun i j => .int (i ^ j.toNat)) := opI fun _ _ _ _ _ _ _ hc q => pow_int hc.1 hc.2 q
theorem big_pow : CPowW ((10 : Int) ^ (60 : Int).toNat) 5 := ⟨by decide, by decide +kernel⟩
end
end WT

set_option Elab.async false
set_option linter.all false
set_option maxRecDepth 100000
set_option maxHeartbeats 4000000
/-! Errors of the program held as values: made (by place, by name), asked for their class, their fields read. -/
namespace WT
open PySem PySem.W PySem.Calls PyProof.Rows PySem.HandSPX
section
variable {prog : Program} {w : World} {A : Around} {E : Value → Shared → Prop} {R : Result → Shared → Prop} {hp : Heap} {gs : Array GenState} {dr : Drawn} {tn : Nat} {os : OsState}
variable {nm q : Str} {C N : Addr} {bs bm : List Value} {hdct : Bool} {sn : List Str} {sub : List Value} {ab : Bool} {col : Option Bool} {dd : Option Addr} {k0 k1 k2 k3 k5 : Option Value}
abbrev VEo (nm q : Str) (C N : Addr) (bs bm : List Value) (hdct : Bool) (sn : List Str) (sub : List Value) (ab : Bool) (col : Option Bool) (dd : Option Addr) (k0 k1 k2 k3 k5 : Option Value) : Obj :=
  excClassObj nm q C N bs bm hdct sn sub ab col dd k0 k1 k2 k3 k5 "ValueError.__new__"
theorem vt_has (hb : refsVE bm = true) (T : String) : (Value.ref C :: bm).contains (.type T) = veTail.contains (.type T) := by
  rw [List.contains_cons, refsVE_contains T bm hb]
  rfl
theorem ck_newK (hb : refsVE bm = true) {us : List Value} {kw : List (Str × Value)} {Q : Unit → Shared → Prop} (hC : hp.get? C = some (VEo nm q C N bs bm hdct sn sub ab col dd k0 k1 k2 k3 k5)) (hq : Q () ⟨hp, gs, dr, tn, os⟩) :
    wpAny (model prog w) A (checkBuiltinCall "ValueError.__new__" ⟨.ref C :: us, kw⟩) Q E ⟨hp, gs, dr, tn, os⟩ := by
  have F := F.excBase_ValueError
  have c1 : (Value.ref C :: bm).contains (.type "ValueError") = true := (vt_has hb _).trans (by decide +kernel)
  have c2 := F.noStar
  simp only [checkBuiltinCall, F.newKind, F.newSplit, F.newRow]
  repeat (first
    | refine wpAny_loadPart_at hC ?_
    | (refine wpAny_isSubtype_exc hC ?_; rw [c1])
    | refine wpAny_staticBase_exc hC ?_
    | refine wpAny_madeBy_exc hC ?_
    | simp only [bne_self_eq_false, Bool.false_eq_true, if_false]
    | wp_step)
  exact hq
theorem newK (hb : refsVE bm = true) {us : List Value} {kw : List (Str × Value)} (hC : hp.get? C = some (VEo nm q C N bs bm hdct sn sub ab col dd k0 k1 k2 k3 k5)) (hus : us.length ≤ sizeLine)
    (hq : R (.ok (.ret (.ref (hp.objs.size + 1)))) ⟨(hp.push (kdv_tup us)).push (excO C hp.objs.size), gs, dr, tn, os⟩) :
    codeAny (model prog w) A (.builtin "ValueError.__new__" ⟨.ref C :: us, kw⟩) R ⟨hp, gs, dr, tn, os⟩ := by
  have F := F.excBase_ValueError
  have c0 := F.ends
  have c1 : (Value.ref C :: bm).contains (.type "ValueError") = true := (vt_has hb _).trans (by decide +kernel)
  have c2 : (Value.ref C :: bm).contains (.type "AttributeError") = false := (vt_has hb _).trans (by decide +kernel)
  have c3 : (Value.ref C :: bm).contains (.type "NameError") = false := (vt_has hb _).trans (by decide +kernel)
  refine codeAny_builtinAt F.entry ?_
  unfold Builtin.«BaseException.__new__»
  refine PySem.wpAt_bind ?_
  show PySem.wpAt _ _ _ (stack >>= _) _ _ _
  refine PySem.wpAt_bind (PySem.wpAt_stack fun pp bl => PySem.wpAt_of_wpAny ?_)
  wp_walk
  refine PySem.wpAt_of_wpAny ?_
  rw [F.owner]
  repeat (first
    | with_reducible refine wpAny_madeHere_exc F.canon hC ?_
    | with_reducible refine wpAny_loadPart_at hC ?_
    | (with_reducible refine wpAny_isSubtype_exc hC ?_; first | rw [c1] | rw [c2] | rw [c3])
    | wp_step)
  show R _ _
  rw [Heap.size_push]
  exact hq
theorem tcallK (hb : refsVE bm = true) {us : List Value} {kw : List (Str × Value)} {fI : Addr} {Q : PySem.Fin → Shared → Prop} (hC : hp.get? C = some (VEo nm q C N bs bm hdct sn sub ab col dd k0 k1 k2 k3 k5))
    (hi : Looks (model prog w) hp (typeLookup (.ref C) "__init__") (some (.ref fI))) (hbd : ∀ z, Looks (model prog w) hp (bindSpecial (.ref fI) z) (.ref fI, [z])) (hus : us.length ≤ sizeLine)
    (hq : codeAny (model prog w) A (.call (.ref fI) ⟨.ref (hp.objs.size + 1) :: us, kw⟩)
      (fun r s' => match r with | .ok (.ret v) => v = .none ∧ Q (.done (.ret (.ref (hp.objs.size + 1)))) s' | .ok _ => False | .error e => E e s')
      ⟨(hp.push (kdv_tup us)).push (excO C hp.objs.size), gs, dr, tn, os⟩) :
    wpAny (model prog w) A (Builtin.«type.__call__» ⟨.ref C :: us, kw⟩) Q E ⟨hp, gs, dr, tn, os⟩ := by
  have F := F.excBase_ValueError
  repeat (first
    | with_reducible refine wpAny_loadPart_at hC ?_
    | with_reducible refine wpAny_madeBy_exc hC ?_
    | wp_step)
  refine codeAny_call_builtin_code (Code.quiet_builtin _ F.quiet) (ck_newK hb hC ?_)
  refine newK hb hC hus ?_
  show wpAny _ _ _ _ _ _
  have kp : ∀ b o, hp.get? b = some o → ((hp.push (kdv_tup us)).push (excO C hp.objs.size)).get? b = some o :=
    fun b o z => Heap.get?_push_of_some _ (Heap.get?_push_of_some _ z)
  have hC1 := kp _ _ hC
  have hg : ((hp.push (kdv_tup us)).push (excO C hp.objs.size)).get? (hp.objs.size + 1) = some (excO C hp.objs.size) := by
    heap_get
  have cC : (Value.ref C :: bm).contains (.ref C) = true := by simp
  have i1 := hi.keeps kp
  have b1 := (hbd (.ref (hp.objs.size + 1))).keeps kp
  unfold isInstance
  repeat (first
    | with_reducible refine wpAny_loadPart_at hg ?_
    | (with_reducible refine wpAny_isSubtype_exc hC1 ?_; rw [cC])
    | wp_step)
  show wpAny _ _ (typeLookup (.ref C) _) _ _ _
  refine i1.at (wpAny_holding (wpAny_bind (b1.at ?_)))
  refine wpAny_bind (wpAny_call (codeAny_mono hq fun r s' z => ?_))
  rcases r with e | (v | _ | _ | _) <;> first | exact z | exact z.elim | skip
  obtain ⟨rfl, z⟩ := z
  first
    | exact wpAny_pure (wpAny_pure z)
    | (wp_walk; exact z)
theorem ck_callK {us : List Value} {kw : List (Str × Value)} {Q : Unit → Shared → Prop} (hC : hp.get? C = some (VEo nm q C N bs bm hdct sn sub ab col dd k0 k1 k2 k3 k5)) (hq : Q () ⟨hp, gs, dr, tn, os⟩) :
    wpAny (model prog w) A (checkBuiltinCall "type.__call__" ⟨.ref C :: us, kw⟩) Q E ⟨hp, gs, dr, tn, os⟩ := by
  have f3 := tc_sub
  have ht : (⟨hp, gs, dr, tn, os⟩ : Shared).TypeIs (.ref C) "type" := ⟨_, hC, rfl⟩
  simp only [checkBuiltinCall, tc_kind, tc_split]
  repeat (any_goals (first
    | assumption
    | with_reducible refine wpAny_loadPart_at hC ?_
    | with_reducible refine wpAny_onRaise ?_
    | with_reducible refine wpAny_map ?_
    | wp_step))
theorem ownK (hb : refsVE bm = true) {us : List Value} {kw : List (Str × Value)} {fI : Addr} (hC : hp.get? C = some (VEo nm q C N bs bm hdct sn sub ab col dd k0 k1 k2 k3 k5))
    (hi : Looks (model prog w) hp (typeLookup (.ref C) "__init__") (some (.ref fI))) (hbd : ∀ z, Looks (model prog w) hp (bindSpecial (.ref fI) z) (.ref fI, [z])) (hus : us.length ≤ sizeLine)
    (hq : codeAny (model prog w) (A.under (.builtin "type.__call__" ⟨.ref C :: us, kw⟩)) (.call (.ref fI) ⟨.ref (hp.objs.size + 1) :: us, kw⟩) (InitBack (hp.objs.size + 1) R)
      ⟨(hp.push (kdv_tup us)).push (excO C hp.objs.size), gs, dr, tn, os⟩) :
    codeAny (model prog w) A (.call (.ref C) ⟨us, kw⟩) R ⟨hp, gs, dr, tn, os⟩ := by
  have f1 := tc_lookup
  have f2 := tc_bind (.ref C)
  have ht : (⟨hp, gs, dr, tn, os⟩ : Shared).TypeIs (.ref C) "type" := ⟨_, hC, rfl⟩
  refine codeAny_of_tree ?_
  show wpAny _ _ (callAny (.ref C) _) _ _ _
  repeat (any_goals (first
    | assumption
    | with_reducible refine wpAny_loadPart_at hC ?_
    | wp_step))
  refine ⟨rfl, ?_⟩
  refine codeAny_call_builtin_at (Code.quiet_builtin _ (by decide +kernel)) entry_typeCall (ck_callK hC ?_)
  refine tcallK hb hC hi hbd hus (codeAny_mono hq fun r s' z => ?_)
  rcases r with e | (v | _ | _ | _) <;> exact z
end
end WT

set_option Elab.async false
set_option linter.all false
set_option maxRecDepth 100000
set_option maxHeartbeats 4000000
namespace WT
open PySem PySem.Spec PyProof.Rows L2
/-- an error of the class at C stands at a; its fields -/
def Err (H : Hp) (a C : Addr) (fs : List (Str × V)) : Prop := (fs = [] ∧ H a = some (exo a C none)) ∨ ∃ d, H a = some (exo a C (some d)) ∧ H d = some (exd d fs)
theorem Err.same {H H' : Hp} {a C : Addr} {fs : List (Str × V)} (e : Err H a C fs) (s : Same H H') : Err H' a C fs := by
  rcases e with ⟨z, e⟩ | ⟨d, e1, e2⟩
  · exact .inl ⟨z, s _ _ e⟩
  · exact .inr ⟨d, s _ _ e1, s _ _ e2⟩
theorem same_new {H : Hp} {p : Addr} {o : HO} (h : H p = none) : Same H (upd H p o) := fun b x e => by
  rw [upd_ne (ne_of_none e h)]
  exact e
section
variable {X : Cx}
theorem run_err {CX : CXT} {C fI : Addr} {k : Nat} {fd : FuncData} {ps : List Str} {sp : Sp} {pins : List (Addr × Obj)} {σ : L2.St} {H : Hp} {s : Shared} {Q : VK} {us gus : List Value} {kw : List (Str × Value)} {vs : List V}
    (T : OexC X.K C) (iC : PySem.W.findIn X.K (.ref C) "__init__" = some (some (.ref fI))) (tI : PySem.W.typeIn X.K (.ref fI) = some (.type "function")) (G : FnOk X.prog X.w X.K X.mg X.base CX k fI fd ps sp) (hr : Room (k + 1) X.A)
    (hx : Passes CX X (fun _ _ _ => False)) (I : Inv X pins σ H s) (hus : us.length ≤ sizeLine) (hb : ∀ (s1 : Shared) (z : Value), X.K.In s1.heap → BindsTo s1 fd ⟨z :: us, kw⟩ (ps.zip (z :: gus))) (r : Vals vs gus)
    (h : ∀ a, H a = none → sp (.ref a :: vs) (upd H a (exo a C none)) (fun v H2 => v = .non ∧ Q (.ref a) H2) (fun _ _ _ => False)) :
    wpAny (model X.prog X.w) X.A (call (.ref C) us kw) (EP X pins σ Q) X.xe s := by
  obtain ⟨nm, q, N, bs, bm, sn, sub, ab, col, dd, k0, k1, k2, k3, k5, hC, hbm⟩ := T.cls
  obtain ⟨hp, g, dr, tk, os⟩ := s
  have z1 : hp.objs.size ≤ hp.objs.size + 1 := Nat.le_succ _
  have z2 := h (hp.objs.size + 1) (I.hok.fresh z1)
  have kp : ∀ b o, hp.get? b = some o → ((hp.push (PySem.W.kdv_tup us)).push (PySem.HandSPX.excO C hp.objs.size)).get? b = some o :=
    fun b o z => Heap.get?_push_of_some _ (Heap.get?_push_of_some _ z)
  have hg : ((hp.push (PySem.W.kdv_tup us)).push (PySem.HandSPX.excO C hp.objs.size)).get? (hp.objs.size + 1) = some (PySem.HandSPX.excO C hp.objs.size) := by
    heap_get
  have I2 : Inv X pins σ (upd H (hp.objs.size + 1) (exo (hp.objs.size + 1) C none)) ⟨(hp.push (PySem.W.kdv_tup us)).push (PySem.HandSPX.excO C hp.objs.size), g, dr, tk, os⟩ :=
    I.laid (t' := tk) (a := hp.objs.size + 1) (o := exo (hp.objs.size + 1) C none) kp z1 (exo_ok hg)
  have r2 : Vals (V.ref (hp.objs.size + 1) :: vs) (Value.ref (hp.objs.size + 1) :: gus) := .cons rfl r
  refine wpAny_call (ownK hbm (I.kIn _ _ hC) (PySem.W.looks_findIn I.kIn iC) (fun z => PySem.W.bind_fn I.kIn z tI) hus
    (codeAny_mono (G.run _ X.stack _ _ ⟨Value.ref (hp.objs.size + 1) :: us, kw⟩ (Value.ref (hp.objs.size + 1) :: gus) _ _ (fun _ _ _ => False) (hr.make C us kw) (I2.env0.make C us kw) (hb _ _ I2.kIn) r2 z2) fun r s' hq' => ?_))
  cases r with
  | error er => exact hx pins σ _ _ er s' I2 hq'
  | ok fl =>
    cases fl with
    | ret u =>
      obtain ⟨v, H', I3, rv, ev, q3⟩ := I2.after hq'
      subst ev
      exact ⟨rv, ⟨V.ref (hp.objs.size + 1), H', I3, rfl, q3⟩⟩
    | next => exact False.elim hq'
    | brk => exact False.elim hq'
    | cont => exact False.elim hq'
/-- C(e, ..): a new error, by its own __init__, which keeps sp -/
def tErr (C : Addr) (sp : Sp) (ta : TA) : TE := fun σ H Q => ta σ H fun vs H1 => vs.length ≤ 1000 ∧ ∀ a, H1 a = none → sp (.ref a :: vs) (upd H1 a (exo a C none)) (fun v H2 => v = .non ∧ Q (.ref a) H2) (fun _ _ _ => False)
theorem pe_err {CX : CXT} {x : Str} {C fI : Addr} {k : Nat} {fd : FuncData} {ps : List Str} {sp : Sp} {e : Expr} {es : List Expr} {ta : TA} {p pos : Pos} (T : OexC X.K C) (iC : PySem.W.findIn X.K (.ref C) "__init__" = some (some (.ref fI)))
    (tI : PySem.W.typeIn X.K (.ref fI) = some (.type "function")) (G : FnOk X.prog X.w X.K X.mg X.base CX k fI fd ps sp) (hr : Room (k + 1) X.A) (hb : Binds X.K fd ps []) (hx : Passes CX X (fun _ _ _ => False)) (hg : Gl X x)
    (hm : X.mg x = some (.ref C)) (ha : PA X (e :: es) ta) (hdb : (x == ("__debug__" : Str)) = false := by decide) (he : starEach (e :: es) X.env = (false, eval e X.env) :: starEach es X.env := by rfl)
    (hpl : (backTo pos (starEach es X.env)).any (·.1) = false := by rfl) : PE X (.Call (.Name x p) (e :: es) [] pos) (tErr C sp ta) := by
  refine ⟨fun pins s σ H Q I h => ?_⟩
  refine wpAny_Call_Name_kw (ld_glob I hg hm ?_ hdb)
  refine PySem.W.callWith_K (h₀ := X.base) I.ok.mod.kin T.kC (thn (ha.run pos pins s σ H _ I h) fun us s1 ⟨vs, H1, I1, r1, hz, q1⟩ => ⟨I1.kIn, ?_⟩) he hpl
  have hn : H1 (s1.heap.objs.size) = none := I1.hok.fresh (Nat.le_refl _)
  have hl : (V.ref s1.heap.objs.size :: vs).length = ps.length := G.len _ _ _ _ (q1 _ hn)
  refine run_err (us := us) (gus := us) (kw := []) T iC tI G hr hx I1 ?_ (fun s2 z X2 => ?_) r1 q1
  · rw [← Vals.length r1, sizeLine_eq]
    omega
  · have y := hb s2 (z :: us) X2 (by
      rw [List.append_nil, List.length_cons, ← Vals.length r1]
      exact hl)
    rw [List.append_nil] at y
    exact y
/-- C(k = v, ..) by names alone -/
def tErrK (C : Addr) (sp : Sp) (gV : List V → List V) (n : Nat) (tk : TA) : TE := fun σ H Q => tk σ H fun zs H1 => zs.length = n ∧ ∀ a, H1 a = none → sp (.ref a :: gV zs) (upd H1 a (exo a C none)) (fun v H2 => v = .non ∧ Q (.ref a) H2) (fun _ _ _ => False)
theorem pe_errK {CX : CXT} {x : Str} {C fI : Addr} {k n : Nat} {fd : FuncData} {ps ks : List Str} {sp : Sp} {kws : List Keyword} {tk : TA} {p pos : Pos} {gU : List Value → List Value} {gV : List V → List V} (T : OexC X.K C)
    (iC : PySem.W.findIn X.K (.ref C) "__init__" = some (some (.ref fI))) (tI : PySem.W.typeIn X.K (.ref fI) = some (.type "function")) (G : FnOk X.prog X.w X.K X.mg X.base CX k fI fd ps sp) (hr : Room (k + 1) X.A)
    (hb : ∀ (s1 : Shared) (z : Value) (ws : List Value), X.K.In s1.heap → ws.length = n → BindsTo s1 fd ⟨[z], ks.zip ws⟩ (ps.zip (z :: gU ws))) (hgr : ∀ {zs : List V} {ws : List Value}, Vals zs ws → zs.length = n → Vals (gV zs) (gU ws))
    (hx : Passes CX X (fun _ _ _ => False)) (hg : Gl X x) (hm : X.mg x = some (.ref C)) (hkw : PK X kws tk) (hall : (backToKw pos (keywordEach kws X.env)).all (·.1.isSome) = true := by rfl)
    (hks : (backToKw pos (keywordEach kws X.env)).filterMap (·.1) = ks := by rfl) (hdb : (x == ("__debug__" : Str)) = false := by decide)
    (hpl : ((backTo pos (starEach [] X.env)).any (·.1) || (backToKw pos (keywordEach kws X.env)).any (·.1.isNone)) = false := by rfl) : PE X (.Call (.Name x p) [] kws pos) (tErrK C sp gV n tk) := by
  refine ⟨fun pins s σ H Q I h => ?_⟩
  refine wpAny_Call_Name_kw (ld_glob I hg hm ?_ hdb)
  refine PySem.W.callWith_KW0 (h₀ := X.base) I.ok.mod.kin T.kC hall (thn (hkw.run pos pins s σ H _ I h) fun ws s1 ⟨zs, H1, I1, rz, hl, q1⟩ => ⟨I1.kIn, ?_⟩) hpl
  rw [hks]
  exact run_err (us := []) (gus := gU ws) (kw := ks.zip ws) T iC tI G hr hx I1 (Nat.zero_le _) (fun s2 z X2 => hb s2 z ws X2 ((Vals.length rz).symm.trans hl)) (hgr rz hl) q1
/-- what an own class without own __init__ says -/
def ErrBare (K : PySem.W.Frag) (C : Addr) : Prop := PySem.W.excIn K C PySem.HandSPX.veTail "ValueError.__new__" = true ∧ PySem.W.keepIn K (.ref C) = true
/-- C() without an __init__ of its own -/
def tErr0 (C : Addr) : TE := fun σ H Q => ∀ a, H a = none → Q (.ref a) (upd H a (exo a C none))
theorem pe_err0 {x : Str} {C : Addr} {p pos : Pos} (T : ErrBare X.K C) (hg : Gl X x) (hm : X.mg x = some (.ref C)) (hdb : (x == ("__debug__" : Str)) = false := by decide) : PE X (.Call (.Name x p) [] [] pos) (tErr0 C) := by
  refine ⟨fun pins s σ H Q I h => ?_⟩
  refine wpAny_Call_Name_kw (ld_glob I hg hm ?_ hdb)
  refine PySem.W.callWith_K0 I.kIn T.2 ?_
  obtain ⟨bm, N, nm, qn, bs, hdct, sn, sub, ab, col, dd, k0, k1, k2, k3, k5, mN, hC, hN, hni, TT⟩ := exc_obj I.kIn T.1
  obtain ⟨hp, g, dr, tk, os⟩ := s
  refine wpAny_call_exc_subT F.excBase_ValueError TT hC hN hni (fun h' a hm => ?_) (Nat.zero_le _)
  obtain ⟨t, ht, _, _⟩ := hm.there
  have hn : H a = none := I.hok.gone hm.new
  exact ⟨.ref a, upd H a (exo a C none), I.laidN hm.keeps hm.new hn (exo_ok ht), rfl, h a hn⟩
/-- the object of an error -/
theorem Err.at {pins : List (Addr × Obj)} {σ : L2.St} {H : Hp} {s : Shared} {a C : Addr} {fs : List (Str × V)} (e : Err H a C fs) (I : Inv X pins σ H s) :
    ∃ (ox : Obj) (od : Option Obj), PySem.W.InstAt s.heap a ox C od ∧ (fs ≠ [] → ∃ o, od = some o ∧ ∀ n : Str, ∃ u, PySem.W.lookIn n o = some u ∧ RelO (fs.lookup n) u) := by
  rcases e with ⟨z, e⟩ | ⟨d, e1, e2⟩
  · obtain ⟨t1, ho⟩ := exo_at I.hok e
    exact ⟨_, none, ⟨ho, rfl, rfl, trivial⟩, fun y => absurd z y⟩
  · obtain ⟨t1, ho⟩ := exo_at I.hok e1
    obtain ⟨mA, hns, rel⟩ := exd_at I.hok e2
    obtain ⟨od, hod, hl⟩ := lookIn_ns hns
    exact ⟨_, some od, ⟨ho, rfl, rfl, hod⟩, fun _ => ⟨od, rfl, fun n => ⟨mA n, hl n, rel n⟩⟩⟩
/-- isinstance(e, c), e an error held as a value -/
def rIsErr (K : PySem.W.Frag) : List V → Hp → VK → Prop := fun xs H Q => ∃ (a C : Addr) (fs : List (Str × V)) (c : V) (cv : Value) (b : Bool), xs = [.ref a, c] ∧ Err H a C fs ∧ ExcC K C ∧ (∀ u, RelV c u → u = cv) ∧ PySem.W.kitOne K (.ref C) cv = some b ∧ Q (.bl b) H
theorem call_isErr : CallR X (.builtin "isinstance") (rIsErr X.K) := by
  intro pins s σ H xs us Q I r h
  obtain ⟨a, C, fs, c, cv, b, rfl, e, T, hc, hk, q⟩ := h
  obtain ⟨u, u', rfl, rx, rt⟩ := vals2 r
  obtain rfl : u = Value.ref a := rx
  obtain rfl := hc _ rt
  obtain ⟨ox, od, J, _⟩ := e.at I
  have hcl : (PySem.W.clsIn X.K C).isSome = true := by
    obtain ⟨cd, h1, _⟩ := PySem.W.any_some T.hd
    rw [h1]
    rfl
  exact PySem.W.kia_one (PySem.W.kitx_exc (ox := ox) (od := od) hcl T.hg T.hk T.hs T.ha T.hn T.ht T.hm) I.kIn J hk (fun z => nomatch z) fun tk => ⟨.bl b, H, I.kept (t' := tk) fun _ _ z => z, rfl, q⟩
/-- e.f, e an error held as a value -/
def tErrF (K : PySem.W.Frag) (n : Str) (te : TE) : TE := fun σ H Q => te σ H fun x H1 => ∃ (a C : Addr) (fs : List (Str × V)) (v : V), x = .ref a ∧ Err H1 a C fs ∧ ExcC K C ∧ PySem.W.findIn K (.ref C) n = some none ∧ fs.lookup n = some v ∧ Q v H1
theorem pe_errF {e : Expr} {te : TE} {pos : Pos} {n : Str} (he : PE X e te) (hb : attributeBase e n X.env (eval e X.env) = eval e X.env := by rfl) : PE X (.Attribute e n pos) (tErrF X.K n te) := by
  refine ⟨fun pins s σ H Q I h => ?_⟩
  refine attr_of hb (thn (he.run pins s σ H _ I h) fun u s1 hh => ?_)
  obtain ⟨x, H1, I1, rx, a, C, fs, v, rfl, e1, T, hno, hl, q⟩ := hh
  obtain rfl : u = Value.ref a := rx
  obtain ⟨ox, od, J, k⟩ := e1.at I1
  obtain ⟨o, rfl, k2⟩ := k (fun z => by rw [z] at hl; cases hl)
  obtain ⟨u, hu, ru⟩ := k2 n
  rw [hl] at ru
  cases u with
  | none => exact ru.elim
  | some u =>
    exact HandSPX.exc_get I1.kIn J T.hg T.hk T.hs (PySem.W.findObj_own T.hd hno rfl hu) (handed_of ru) ⟨v, H1, I1.tok _, ru, q⟩
end
end WT

set_option Elab.async false
set_option linter.all false
set_option maxRecDepth 100000
set_option maxHeartbeats 4000000
namespace WT
open PySem PySem.Spec PyProof.Rows L2
/-- a def that is called: where it stands, how its arguments bind, its promise -/
structure Df (P : Program) (w : World) (K : PySem.W.Frag) (mg : Str → Option Value) (base : Heap) (x : Str) (k : Nat) (f : Addr) (fd : FuncData) (ps : List Str) (sp : Sp) : Prop where
  g : mg x = some (.ref f)
  kp : PySem.W.keepIn K (.ref f) = true
  bd : Binds K fd ps []
  G : FnG P w K mg base CX0 k f fd ps sp
/-- all that was tracked but a is as it was -/
def But (a : Addr) (H H' : Hp) : Prop := ∀ b x, b ≠ a → H b = some x → H' b = some x
theorem But.refl (a : Addr) (H : Hp) : But a H H := fun _ _ _ h => h
theorem But.trans {a : Addr} {H H1 H2 : Hp} (x : But a H H1) (y : But a H1 H2) : But a H H2 := fun b o n h => y b o n (x b o n h)
theorem But.of {a : Addr} {H H1 : Hp} (x : Same H H1) : But a H H1 := fun b o _ h => x b o h
theorem But.upd {a : Addr} {H : Hp} {o : HO} : But a H (upd H a o) := fun b x n h => by
  rw [upd_ne n]
  exact h
/-- the numbers that a law draws from; at most b of them mixed so far -/
def Pot (b : Nat) (p0 p1 p2 : Int) : Prop := 0 ≤ p0 ∧ 0 ≤ p1 ∧ p1 < 2305843009213693952 ∧ 0 ≤ p2 ∧ p2 ≤ b
theorem Pot.more {b c : Nat} {p0 p1 p2 : Int} (h : Pot b p0 p1 p2) (hc : b ≤ c) : Pot c p0 p1 p2 := by
  unfold Pot at h ⊢
  omega
/-- the pot stands at a -/
def PotAt (H : Hp) (a : Addr) (b : Nat) : Prop := ∃ p0 p1 p2 : Int, H a = some (.lst [.int p0, .int p1, .int p2]) ∧ Pot b p0 p1 p2
theorem PotAt.same {H H' : Hp} {a : Addr} {b : Nat} (h : PotAt H a b) (s : Same H H') : PotAt H' a b := by
  obtain ⟨p0, p1, p2, h1, h2⟩ := h
  exact ⟨p0, p1, p2, s _ _ h1, h2⟩
theorem PotAt.more {H : Hp} {a : Addr} {b c : Nat} (h : PotAt H a b) (hc : b ≤ c) : PotAt H a c := by
  obtain ⟨p0, p1, p2, h1, h2⟩ := h
  exact ⟨p0, p1, p2, h1, h2.more hc⟩
/-- the pot is no tuple, no list of other things -/
theorem PotAt.ne_tup {H : Hp} {a c : Addr} {b : Nat} {xs : List V} (h : PotAt H a b) (e : H c = some (.tup xs)) : c ≠ a := by
  obtain ⟨p0, p1, p2, h1, _⟩ := h
  exact ne_of e h1 (by intro z; cases z)
theorem PotAt.ne_new {H : Hp} {a c : Addr} {b : Nat} (h : PotAt H a b) (e : H c = none) : a ≠ c := by
  obtain ⟨p0, p1, p2, h1, _⟩ := h
  exact ne_of_none h1 e
theorem bit_mul (b : Bool) : -(2 ^ 64) < (if b = true then (1 : Int) else 0) ∧ (if b = true then (1 : Int) else 0) < 2 ^ 64 := by
  cases b <;> decide
theorem bit_nn (b : Bool) : (0 : Int) ≤ (if b = true then (1 : Int) else 0) := by
  cases b <;> decide
section
variable {X : Cx}
/-- list(s), sign by sign -/
def signsV (z : Str) : List V := z.cps.toList.map fun c => V.str ⟨#[c]⟩
def rListS : List V → Hp → VK → Prop := fun xs H Q => ∃ z : Str, xs = [.str z] ∧ z.length ≤ sizeLine ∧ ∀ l, H l = none → Q (.ref l) (upd H l (.lst (signsV z)))
theorem call_list_str (hc : X.calm = true) : CallR X (.type "list") rListS := by
  intro pins s σ H xs us Q I r h
  obtain ⟨z, rfl, hz, q⟩ := h
  obtain ⟨u, rfl, t, rfl⟩ := vals1 r
  refine PySem.call_list_str (I.ok.hd hc) z t (fun h' tk acc c kp e it => ?_) hz
  have hlen : (signsV z).length ≤ sizeLine := by
    unfold signsV
    rw [List.length_map, Array.length_toList]
    exact hz
  have rv : Vals (signsV z) acc.toList := by
    refine vals_of_at ?_ fun j x u hx hu => ?_
    · unfold signsV
      rw [List.length_map, Array.length_toList, Array.length_toList]
      exact it.1.symm
    · obtain ⟨c, t, e1, e2⟩ := it.2 j u (by rw [← Array.getElem?_toList]; exact hu)
      unfold signsV at hx
      rw [List.getElem?_map, Array.getElem?_toList, e1] at hx
      cases hx
      exact ⟨t, e2⟩
  exact ⟨.ref s.heap.objs.size, _, I.laid (t' := tk) kp (Nat.le_refl _) (show ObjOk X.prog X.w _ h' _ (.lst (signsV z)) from ⟨hlen, acc.toList, c, rv, by simpa using e⟩), rfl, q _ (I.hok.fresh (Nat.le_refl _))⟩
end
end WT

set_option Elab.async false
set_option linter.all false
set_option maxRecDepth 100000
set_option maxHeartbeats 4000000
namespace K35
open PySem PySem.Spec PyProof.Rows L2 WT
def top (i : Nat) : Stmt := PySem.Challenge.pw_wraptrails_k35_trails_or_not.main.body.getD i (.Pass ⟨0, 0, 0, 0⟩)
/-- the built-ins are still the built-ins -/
structure Blt (mg : Str → Option Value) : Prop where
  len : mg "len" = none
  abs : mg "abs" = none
  int : mg "int" = none
  range : mg "range" = none
  list : mg "list" = none
  tuple : mg "tuple" = none
  sorted : mg "sorted" = none
  min : mg "min" = none
  max : mg "max" = none
  all : mg "all" = none
  repr : mg "repr" = none
  dict : mg "dict" = none
  enumerate : mg "enumerate" = none
abbrev st_draws : Stmt := top 17
theorem sc_draws : FnScope ["_law_script", "_law_k", "_law_cell", "_law_digits"] ["_law_script", "_law_k"] (defScope st_draws) := ⟨rfl, rfl, rfl, by decide +kernel, rfl, by decide +kernel, by decide +kernel⟩
abbrev st_below : Stmt := top 18
theorem sc_below : FnScope ["_law_draws_here", "_law_many", "_law_digit", "_law_prime", "_law_base", "_law_mixed_here"] ["_law_draws_here", "_law_many"] (defScope st_below) := ⟨rfl, rfl, rfl, by decide +kernel, rfl, by decide +kernel, by decide +kernel⟩
abbrev st_choice : Stmt := top 19
theorem sc_choice : FnScope ["_law_draws_here", "_law_some"] ["_law_draws_here", "_law_some"] (defScope st_choice) := ⟨rfl, rfl, rfl, by decide +kernel, rfl, by decide +kernel, by decide +kernel⟩
abbrev st_mixed : Stmt := top 21
theorem sc_mixed : FnScope ["_law_draws_here", "_law_some", "_law_left", "_law_found"] ["_law_draws_here", "_law_some"] (defScope st_mixed) := ⟨rfl, rfl, rfl, by decide +kernel, rfl, by decide +kernel, by decide +kernel⟩
theorem log_le {n : Int} (h : n ≤ (10 : Int) ^ 50) (h0 : 0 < n) : n.natAbs.log2 < 9000 := by
  have : n.natAbs ≤ 10 ^ 50 := by omega
  have h2 : n.natAbs < 2 ^ 9000 := Nat.lt_of_le_of_lt this (Nat.lt_of_lt_of_le (show 10 ^ 50 < 2 ^ 167 by decide) (Nat.pow_le_pow_right (by decide) (by decide)))
  exact (Nat.log2_lt (by omega)).mpr h2
def spDraw : Sp := fun vs H Q _ => ∃ (a : Addr) (b : Nat) (n : Int), vs = [.ref a, .int n] ∧ PotAt H a b ∧ b ≤ 100000 ∧ 0 < n ∧ n ≤ (10 : Int) ^ 50 ∧
  ∀ H' r, But a H H' → PotAt H' a (b + 1) → 0 ≤ r → r < n → Q (.int r) H'
theorem sq_le {x : Int} (h0 : 0 ≤ x) (h1 : x ≤ 100001) : 0 ≤ 65537 * x * x ∧ 65537 * x * x ≤ 700000000000000 := by
  have h2 : 0 ≤ x * x := Int.mul_nonneg h0 h0
  have h3 : x * x ≤ 100001 * 100001 := Int.mul_le_mul h1 h1 h0 (by decide)
  have e : 65537 * x * x = 65537 * (x * x) := Int.mul_assoc _ _ _
  rw [e]
  omega
section
variable {P : Program} {w : World} {K : PySem.W.Frag} {mg : Str → Option Value} {base : Heap} {f : Addr} {fd : FuncData}
theorem ok_below (F : Fun K "_law_below" "_law_below" st_below f fd) : FnG P w K mg base CX0 1 f fd ["_law_draws_here", "_law_many"] spDraw := by
  refine okG F sc_below (fun vs H Q E h => ?_) (fun cdv A outer s H vs Q E hgd hr h => ?_)
  · obtain ⟨_, _, _, rfl, _⟩ := h
    rfl
  · obtain ⟨a, b, n, rfl, ⟨p0, p1, p2, ha, hp⟩, hb, hn, hn2, q⟩ := h
    refine ⟨_, (pss_cons (ps_if (pt_cmpR op_gt (pe_ix ix_list (pv 0) pe_int (fun _ _ => rfl)) pe_int (nomark _))
       (pss_cons (ps_set (i := 2) sc_below.nd rfl (.inl rfl) (pe_op op_mod (pe_ix ix_list (pv 0) pe_int (fun _ _ => rfl)) (pv 1)))
       (pss_cons (ps_asg (pe_op op_fdivW (pe_ix ix_list (pv 0) pe_int (fun _ _ => rfl)) (pv 1)) (pg_sub (pv 0) pe_int set_list))
       (pss_one (ps_ret (pv 2)))))
       pss_nil)
      (pss_cons (ps_asg (pe_op op_add (pe_ix ix_list (pv 0) pe_int (fun _ _ => rfl)) pe_int) (pg_sub (pv 0) pe_int set_list))
      (pss_cons (ps_set (i := 3) sc_below.nd rfl (.inl rfl) (pe_ix ix_list (pe_lst (pa_cons pe_int (pa_cons pe_int (pa_cons pe_int (pa_cons pe_int (pa_cons pe_int pa_nil)))))) (pe_op op_mod (pe_ix ix_list (pv 0) pe_int (fun _ _ => rfl)) pe_int) (fun _ _ => rfl)))
      (pss_cons (ps_set (i := 4) sc_below.nd rfl (.inl rfl) (pe_op op_add (pe_op op_add (pe_ix ix_list (pv 0) pe_int (fun _ _ => rfl)) (pe_op op_mul (pe_op op_mul pe_int (pe_ix ix_list (pv 0) pe_int (fun _ _ => rfl))) (pe_ix ix_list (pv 0) pe_int (fun _ _ => rfl)))) pe_int))
      (pss_cons (ps_set (i := 5) sc_below.nd rfl (.inl rfl) (pe_op op_add (pe_op op_mod (pe_op op_mod (pv 4) (pe_op op_mul (pv 3) (pv 3))) (pv 3)) pe_int))
      (pss_one (ps_ret (pe_op op_mod (pe_op op_fdiv (pe_op op_mod (pe_op op_mul (pv 5) (pe_op op_add (pe_op op_mod (pv 5) pe_int) (pe_op op_mul pe_int (pe_ix ix_list (pv 0) pe_int (fun _ _ => rfl))))) (pv 3)) pe_int) (pv 1))))))))), ?_⟩
    have hs : SqL K H a [.int p0, .int p1, .int p2] := SqL.of ha
    refine ⟨_, rfl, a, _, 0, .int p0, rfl, rfl, hs, atI_nat (j := 0) rfl, p0, 0, rfl, rfl, _, rfl, ite2 (fun e => ?_) fun e => ?_⟩
    · have e0 : 0 < p0 := of_decide_eq_true e
      refine ⟨_, rfl, a, _, 0, .int p0, rfl, rfl, hs, atI_nat (j := 0) rfl, _, rfl, p0, n, rfl, rfl, hn, ?_⟩
      refine ⟨_, rfl, a, _, 0, .int p0, rfl, rfl, hs, atI_nat (j := 0) rfl, _, rfl, p0, n, rfl, rfl, ⟨hn, log_le hn2 hn⟩, _, rfl, a, _, 0, 0, rfl, rfl, ha, rfl, ?_⟩
      refine ⟨_, rfl, ?_⟩
      refine q _ (p0 % n) But.upd ⟨p0 / n, p1, p2, upd_same, ?_⟩ (Int.emod_nonneg _ (by omega)) (Int.emod_lt_of_pos _ hn)
      unfold Pot at hp ⊢
      have := Int.ediv_nonneg hp.1 (Int.le_of_lt hn)
      omega
    · have e0 : ¬ 0 < p0 := fun z => e (decide_eq_true z)
      obtain ⟨h0, h1, h2, h3, h4⟩ := hp
      have sq := sq_le (x := p2 + 1) (by omega) (by omega)
      refine ⟨_, rfl, a, _, 2, .int p2, rfl, rfl, hs, atI_nat (j := 2) rfl, p2, 1, rfl, rfl, _, rfl, a, _, 2, 2, rfl, rfl, ha, rfl, ?_⟩
      have ha1 : (upd H a (.lst [.int p0, .int p1, .int (p2 + 1)])) a = some (.lst [.int p0, .int p1, .int (p2 + 1)]) := upd_same
      refine ⟨(by show 5 ≤ sizeLine; decide), fun l nl => ?_⟩
      have nla : a ≠ l := ne_of_none ha1 nl
      have ha2 := same_new nl (o := .lst [.int 2147483647, .int 2147483629, .int 2147483587, .int 2147483579, .int 2147483563]) _ _ ha1
      have hs2 : SqL K _ a [.int p0, .int p1, .int (p2 + 1)] := SqL.of ha2
      obtain ⟨pr, hpr, hpr0, hpr1⟩ : ∃ pr : Int, atI [V.int 2147483647, .int 2147483629, .int 2147483587, .int 2147483579, .int 2147483563] ((p2 + 1) % 5) = some (.int pr) ∧ 0 < pr ∧ pr < 2147483648 := by
        have m0 := Int.emod_nonneg (p2 + 1) (b := 5) (by decide)
        have m1 := Int.emod_lt_of_pos (p2 + 1) (b := 5) (by decide)
        generalize (p2 + 1) % 5 = m at m0 m1
        have : m = 0 ∨ m = 1 ∨ m = 2 ∨ m = 3 ∨ m = 4 := by omega
        rcases this with rfl | rfl | rfl | rfl | rfl
        · exact ⟨2147483647, rfl, by decide, by decide⟩
        · exact ⟨2147483629, rfl, by decide, by decide⟩
        · exact ⟨2147483587, rfl, by decide, by decide⟩
        · exact ⟨2147483579, rfl, by decide, by decide⟩
        · exact ⟨2147483563, rfl, by decide, by decide⟩
      refine ⟨_, rfl, a, _, 2, .int (p2 + 1), rfl, rfl, hs2, atI_nat (j := 2) rfl, p2 + 1, 5, rfl, rfl, (show (0 : Int) < 5 by decide), l, _, (p2 + 1) % 5, .int pr, rfl, rfl, SqL.of upd_same, hpr, ?_⟩
      have pp : 0 < pr * pr := Int.mul_pos hpr0 hpr0
      have sqw : (-(2 ^ 64 : Int) < pr ∧ pr < 2 ^ 64) := ⟨by omega, by omega⟩
      refine ⟨_, rfl, a, _, 1, .int p1, rfl, rfl, hs2, atI_nat (j := 1) rfl, _, rfl, a, _, 2, .int (p2 + 1), rfl, rfl, hs2, atI_nat (j := 2) rfl, 65537, p2 + 1, rfl, rfl, .inl ⟨by decide, by decide⟩,
        _, rfl, a, _, 2, .int (p2 + 1), rfl, rfl, hs2, atI_nat (j := 2) rfl, 65537 * (p2 + 1), p2 + 1, rfl, rfl, .inr ⟨by omega, by omega⟩, p1, 65537 * (p2 + 1) * (p2 + 1), rfl, rfl, p1 + 65537 * (p2 + 1) * (p2 + 1), 17, rfl, rfl, ?_⟩
      obtain ⟨bs, hbs⟩ : ∃ bs : Int, p1 + 65537 * (p2 + 1) * (p2 + 1) + 17 = bs := ⟨_, rfl⟩
      dsimp only
      rw [hbs]
      refine ⟨_, rfl, _, rfl, _, rfl, pr, pr, rfl, rfl, .inl sqw, bs, pr * pr, rfl, rfl, pp, _, rfl, _, pr, rfl, rfl, hpr0, _, 1, rfl, rfl, ?_⟩
      obtain ⟨mx, hmx⟩ : ∃ mx : Int, bs % (pr * pr) % pr + 1 = mx := ⟨_, rfl⟩
      dsimp only
      rw [hmx]
      have y0 := Int.emod_nonneg (bs % (pr * pr)) (b := pr) (by omega)
      have y1 := Int.emod_lt_of_pos (bs % (pr * pr)) hpr0
      have x0 : 0 ≤ mx := by omega
      have x1 : mx < 2147483649 := by omega
      refine ⟨_, rfl, _, rfl, mx, 10007, rfl, rfl, (show (0 : Int) < 10007 by decide), _, rfl, a, _, 2, .int (p2 + 1), rfl, rfl, hs2, atI_nat (j := 2) rfl, 89, p2 + 1, rfl, rfl, .inl ⟨by decide, by decide⟩, mx % 10007, 89 * (p2 + 1), rfl, rfl,
        mx, mx % 10007 + 89 * (p2 + 1), rfl, rfl, .inl ⟨by omega, by omega⟩, _, rfl, _, pr, rfl, rfl, hpr0, _, 13, rfl, rfl, ⟨by decide, by decide⟩, _, rfl, _, n, rfl, rfl, hn, ?_⟩
      refine q _ _ (But.upd.trans (.of (same_new nl))) ⟨p0, p1, p2 + 1, ha2, ?_⟩ (Int.emod_nonneg _ (by omega)) (Int.emod_lt_of_pos _ hn)
      unfold Pot
      omega
/-- 10 ** 180 -/
def big : Int := ((10 : Int) ^ (60 : Int).toNat) * ((10 : Int) ^ (60 : Int).toNat) * ((10 : Int) ^ (60 : Int).toNat)
theorem big_pos : (0 : Int) < big := by decide +kernel
theorem n200 : ((10 : Int) ^ (60 : Int).toNat).natAbs < 2 ^ 200 := by decide +kernel
theorem n400 : (((10 : Int) ^ (60 : Int).toNat) * ((10 : Int) ^ (60 : Int).toNat)).natAbs < 2 ^ 400 := by decide +kernel
theorem big2 : CMulW ((10 : Int) ^ (60 : Int).toNat) ((10 : Int) ^ (60 : Int).toNat) := wide_mul n200 n200 (by decide) (by decide) (by decide)
theorem big3 : CMulW (((10 : Int) ^ (60 : Int).toNat) * ((10 : Int) ^ (60 : Int).toNat)) ((10 : Int) ^ (60 : Int).toNat) := wide_mul n400 n200 (by decide) (by decide) (by decide)
def spDraws (K : PySem.W.Frag) : Sp := fun vs H Q _ => ∃ (a : Addr) (ns : List Int) (k : Nat), vs = [.ref a, .int k] ∧ SqL K H a (ns.map V.int) ∧ ns.length ≤ 63 ∧ k ≤ 3 ∧
  ∀ H' p, Same H H' → H p = none → PotAt H' p 0 → Q (.ref p) H'
theorem ok_draws (F : Fun K "_law_draws" "_law_draws" st_draws f fd) (B : Blt mg) : FnG P w K mg base CX0 1 f fd ["_law_script", "_law_k"] (spDraws K) := by
  refine okG F sc_draws (fun vs H Q E h => ?_) (fun cdv A outer s H vs Q E hgd hr h => ?_)
  · obtain ⟨_, _, _, rfl, _⟩ := h
    rfl
  · obtain ⟨a, ns, k, rfl, hs, hl, hk, q⟩ := h
    refine ⟨_, (pss_cons (ps_set (i := 2) sc_draws.nd rfl (.inl rfl) (pe_ifExp (pt_cmpR op_lt (pv 1) (pe_callB call_len (by rfl) B.len (by decide +kernel) (pa_cons (pv 0) pa_nil)) (nomark _)) (pe_ix ix_list (pv 0) (pv 1) (fun _ _ => rfl)) (pe_op op_add (pe_op op_mul pe_int (pv 1)) pe_int)))
      (pss_cons (ps_set (i := 3) sc_draws.nd rfl (.inl rfl) (pe_op op_mul (pe_op op_mod (pe_callB call_abs (by rfl) B.abs (by decide +kernel) (pa_cons (pv 2) pa_nil)) (pe_op op_mulW (pe_op op_mulW (pe_op op_pow pe_int pe_int) (pe_op op_pow pe_int pe_int)) (pe_op op_pow pe_int pe_int))) (pe_callTy call_int1 (by rfl) B.int (by decide +kernel) (pa_cons (pe_cmpR op_ge (pe_callB call_abs (by rfl) B.abs (by decide +kernel) (pa_cons (pv 2) pa_nil)) (pe_op op_pow pe_int pe_int) (nomark _)) pa_nil))))
      (pss_one (ps_ret (pe_lst (pa_cons (pv 3) (pa_cons (pe_op op_mod (pe_op op_add (pe_op op_add (pe_op op_mul (pe_op op_mod (pv 2) pe_int) pe_int) (pe_op op_mul pe_int (pv 1))) pe_int) pe_int) (pa_cons pe_int pa_nil)))))))), ?_⟩
    refine ⟨_, rfl, _, rfl, _, ns.length, rfl, .inl ⟨_, hs, (List.length_map ..).symm⟩, (k : Int), (ns.length : Int), rfl, rfl, _, rfl, ite2 (fun e => ?_) fun e => ?_⟩
    · have e0 : (k : Int) < ns.length := of_decide_eq_true e
      have e1 : k < ns.length := by omega
      refine ⟨_, rfl, _, rfl, a, _, (k : Int), .int ns[k], rfl, rfl, hs, atI_nat (j := k) (by rw [List.getElem?_map, List.getElem?_eq_getElem e1]; rfl), ?_⟩
      obtain ⟨cell, hc⟩ : ∃ c : Int, ns[k] = c := ⟨_, rfl⟩
      rw [hc]
      have c0 : (0 : Int) ≤ if cell < 0 then -cell else cell := by split <;> omega
      refine ⟨_, rfl, cell, rfl, 10, 60, rfl, rfl, ⟨by decide, by decide, by decide⟩, 10, 60, rfl, rfl, ⟨by decide, by decide, by decide⟩, _, _, rfl, rfl, big2, 10, 60, rfl, rfl, ⟨by decide, by decide, by decide⟩, _, _, rfl, rfl, big3, _, _, rfl, rfl, big_pos,
        _, rfl, cell, rfl, 10, 18, rfl, rfl, ⟨by decide, by decide, by decide⟩, _, _, rfl, rfl, .inr ⟨_, rfl, _, _, rfl, rfl, .inr (bit_mul _), ?_⟩⟩
      obtain ⟨own, ho⟩ : ∃ z : Int, (if cell < 0 then -cell else cell) % big * (if decide ((10 : Int) ^ (18 : Int).toNat ≤ if cell < 0 then -cell else cell) = true then 1 else 0) = z := ⟨_, rfl⟩
      have h0 : 0 ≤ own := by
        rw [← ho]
        exact Int.mul_nonneg (Int.emod_nonneg _ (Int.ne_of_gt big_pos)) (bit_nn _)
      dsimp only
      rw [show ((10 : Int) ^ (60 : Int).toNat) * ((10 : Int) ^ (60 : Int).toNat) * ((10 : Int) ^ (60 : Int).toNat) = big from rfl, ho]
      refine ⟨_, rfl, _, rfl, cell, 2305843009213693951, rfl, rfl, (show (0 : Int) < 2305843009213693951 by decide), _, 48271, rfl, rfl, .inr ⟨by decide, by decide⟩, _, rfl, 7919, (k : Int), rfl, rfl, .inl ⟨by decide, by decide⟩,
        _, _, rfl, rfl, _, 29, rfl, rfl, _, 2305843009213693921, rfl, rfl, (show (0 : Int) < 2305843009213693921 by decide), (by show 3 ≤ sizeLine; decide), fun p np => ?_⟩
      refine q _ p (same_new np) np ⟨own, _, 0, upd_same, h0, Int.emod_nonneg _ (by decide), ?_, Int.le_refl _, Int.le_refl _⟩
      exact Int.lt_trans (Int.emod_lt_of_pos _ (by decide)) (by decide)
    · refine ⟨_, rfl, 7, (k : Int), rfl, rfl, .inl ⟨by decide, by decide⟩, _, 2, rfl, rfl, ?_⟩
      obtain ⟨cell, hc⟩ : ∃ c : Int, 7 * (k : Int) + 2 = c := ⟨_, rfl⟩
      dsimp only
      rw [hc]
      have c0 : (0 : Int) ≤ if cell < 0 then -cell else cell := by split <;> omega
      refine ⟨_, rfl, cell, rfl, 10, 60, rfl, rfl, ⟨by decide, by decide, by decide⟩, 10, 60, rfl, rfl, ⟨by decide, by decide, by decide⟩, _, _, rfl, rfl, big2, 10, 60, rfl, rfl, ⟨by decide, by decide, by decide⟩, _, _, rfl, rfl, big3, _, _, rfl, rfl, big_pos,
        _, rfl, cell, rfl, 10, 18, rfl, rfl, ⟨by decide, by decide, by decide⟩, _, _, rfl, rfl, .inr ⟨_, rfl, _, _, rfl, rfl, .inr (bit_mul _), ?_⟩⟩
      obtain ⟨own, ho⟩ : ∃ z : Int, (if cell < 0 then -cell else cell) % big * (if decide ((10 : Int) ^ (18 : Int).toNat ≤ if cell < 0 then -cell else cell) = true then 1 else 0) = z := ⟨_, rfl⟩
      have h0 : 0 ≤ own := by
        rw [← ho]
        exact Int.mul_nonneg (Int.emod_nonneg _ (Int.ne_of_gt big_pos)) (bit_nn _)
      dsimp only
      rw [show ((10 : Int) ^ (60 : Int).toNat) * ((10 : Int) ^ (60 : Int).toNat) * ((10 : Int) ^ (60 : Int).toNat) = big from rfl, ho]
      refine ⟨_, rfl, _, rfl, cell, 2305843009213693951, rfl, rfl, (show (0 : Int) < 2305843009213693951 by decide), _, 48271, rfl, rfl, .inr ⟨by decide, by decide⟩, _, rfl, 7919, (k : Int), rfl, rfl, .inl ⟨by decide, by decide⟩,
        _, _, rfl, rfl, _, 29, rfl, rfl, _, 2305843009213693921, rfl, rfl, (show (0 : Int) < 2305843009213693921 by decide), (by show 3 ≤ sizeLine; decide), fun p np => ?_⟩
      refine q _ p (same_new np) np ⟨own, _, 0, upd_same, h0, Int.emod_nonneg _ (by decide), ?_, Int.le_refl _, Int.le_refl _⟩
      exact Int.lt_trans (Int.emod_lt_of_pos _ (by decide)) (by decide)
theorem seqL_but {H H' : Hp} {l a : Addr} {xs : List V} (h : SqL K H l xs) (n : l ≠ a) (b : But a H H') : SqL K H' l xs := by
  rcases h with (h | ⟨o, h⟩) | h
  · exact .inl (.inl (b _ _ n h))
  · exact .inl (.inr ⟨o, b _ _ n h⟩)
  · exact .inr h
theorem seqT_but {H H' : Hp} {l a : Addr} {xs : List V} (h : SqT K H l xs) (n : l ≠ a) (b : But a H H') : SqT K H' l xs := by
  rcases h with (h | ⟨o, h⟩) | h
  · exact .inl (.inl (b _ _ n h))
  · exact .inl (.inr ⟨o, b _ _ n h⟩)
  · exact .inr h
/-- pick(pot, items): one of the items -/
def spPick (K : PySem.W.Frag) : Sp := fun vs H Q _ => (∃ (a l : Addr) (b : Nat) (xs : List V), vs = [.ref a, .ref l] ∧ PotAt H a b ∧ b ≤ 100000 ∧ l ≠ a ∧ (SqL K H l xs ∨ SqT K H l xs) ∧ 0 < xs.length ∧ xs.length ≤ 20000 ∧
  ∀ H' x, But a H H' → PotAt H' a (b + 1) → x ∈ xs → Q x H') ∨
  (∃ (a : Addr) (b : Nat) (z : Str), vs = [.ref a, .str z] ∧ PotAt H a b ∧ b ≤ 100000 ∧ 0 < z.length ∧ z.length ≤ 1000 ∧ ∀ H' c, But a H H' → PotAt H' a (b + 1) → c ∈ z.cps.toList → Q (.str ⟨#[c]⟩) H')
theorem ok_choice {fT : Addr} {fdT : FuncData} (F : Fun K "_law_choice" "_law_choice" st_choice f fd) (B : Blt mg) (F_below : Df P w K mg base "_law_below" 1 fT fdT ["_law_draws_here", "_law_many"] spDraw) : FnG P w K mg base CX0 2 f fd ["_law_draws_here", "_law_some"] (spPick K) := by
  refine okG F sc_choice (fun vs H Q E h => ?_) (fun cdv A outer s H vs Q E hgd hr h => ?_)
  · rcases h with ⟨_, _, _, _, rfl, _⟩ | ⟨_, _, _, rfl, _⟩
    · rfl
    · rfl
  · rcases h with ⟨a, l, b, xs, rfl, ha, hb, hal, hl, hx0, hx1, q⟩ | ⟨a, b, z, rfl, ha, hb, hz0, hz1, q⟩
    · refine ⟨_, (pss_one (ps_ret (pe_ix ix_seq (pv 1) (pe_callG hgd F_below.G (hr.mono (by decide)) (by rfl) F_below.g F_below.kp F_below.bd pass0 (pa_cons (pv 0) (pa_cons (pe_callB call_len (by rfl) B.len (by decide +kernel) (pa_cons (pv 1) pa_nil)) pa_nil))) (fun _ _ => rfl)))), ?_⟩
      refine ⟨_, rfl, _, rfl, _, rfl, _, xs.length, rfl, hl.imp (fun z => ⟨_, z, rfl⟩) (fun z => ⟨_, z, rfl⟩), a, b, (xs.length : Int), rfl, ha, hb, by omega, by omega, fun H' r bt ha' r0 r1 => ?_⟩
      obtain ⟨j, rfl⟩ := Int.eq_ofNat_of_zero_le r0
      have hj : j < xs.length := by omega
      have hq := q H' _ bt ha' (List.getElem_mem hj)
      rcases hl with hl | hl
      · exact .inl ⟨l, xs, (j : Int), xs[j], rfl, rfl, seqL_but hl hal bt, atI_nat (List.getElem?_eq_getElem hj), hq⟩
      · exact .inr (.inl ⟨l, xs, (j : Int), xs[j], rfl, rfl, seqT_but hl hal bt, atI_nat (List.getElem?_eq_getElem hj), hq⟩)
    · refine ⟨_, (pss_one (ps_ret (pe_ix ix_seq (pv 1) (pe_callG hgd F_below.G (hr.mono (by decide)) (by rfl) F_below.g F_below.kp F_below.bd pass0 (pa_cons (pv 0) (pa_cons (pe_callB call_len (by rfl) B.len (by decide +kernel) (pa_cons (pv 1) pa_nil)) pa_nil))) (fun _ _ => rfl)))), ?_⟩
      have big : (1001 : Nat) ≤ sizeLine := by decide
      refine ⟨_, rfl, _, rfl, _, rfl, _, z.length, rfl, ⟨by omega, rfl⟩, a, b, (z.length : Int), rfl, ha, hb, by omega, by omega, fun H' r bt ha' r0 r1 => ?_⟩
      obtain ⟨j, rfl⟩ := Int.eq_ofNat_of_zero_le r0
      have hj : j < z.cps.toList.length := by
        rw [Array.length_toList]
        have : z.cps.size = z.length := rfl
        omega
      exact .inr (.inr ⟨z, (j : Int), z.cps.toList[j], rfl, rfl, by omega, atI_nat (List.getElem?_eq_getElem hj), q H' _ bt ha' (List.getElem_mem hj)⟩)
end
end K35

set_option Elab.async false
set_option linter.all false
namespace WT
open PySem PySem.Spec PyProof.Rows L2
theorem txt_join (a : Str) (ys : List Str) : Txt.join a ys = Str.join a ys := PySem.StrLaws.glued_eq_join a ys
theorem app_cps (a b : Str) : (a ++ b).cps.toList = a.cps.toList ++ b.cps.toList := by
  show (a.cps ++ b.cps).toList = _
  exact Array.toList_append
theorem app_len (a b : Str) : (a ++ b).length = a.length + b.length := by
  show (a.cps ++ b.cps).size = _
  rw [Array.size_append]
  rfl
theorem join_nil_cps : ∀ ys : List Str, (Str.join ("" : Str) ys).cps.toList = (ys.map fun y => y.cps.toList).flatten
  | [] => rfl
  | [x] => by
    show x.cps.toList = _
    simp
  | x :: y :: r => by
    show ((x ++ ("" : Str)) ++ Str.join ("" : Str) (y :: r)).cps.toList = _
    rw [app_cps, app_cps, join_nil_cps (y :: r)]
    show (x.cps.toList ++ []) ++ _ = _
    rw [List.append_nil]
    rfl
/-- a name's sign: a small letter -/
def Low (c : Nat) : Prop := 97 ≤ c ∧ c ≤ 122
/-- a short text of small letters -/
structure NmOk (y : Str) : Prop where
  len : y.length ≤ 8
  low : ∀ c ∈ y.cps.toList, Low c
theorem NmOk.ok {y : Str} (h : NmOk y) : PyData.strOk y = true := by
  unfold PyData.strOk
  rw [Array.all_eq_true]
  intro i hi
  have := h.low y.cps[i] (by rw [Array.mem_toList_iff]; exact Array.getElem_mem hi)
  unfold Low at this
  exact decide_eq_true (by omega)
def sign (c : Nat) : Str := ⟨#[c]⟩
/-- stem followed by one letter: the letters from the first on -/
def nameList (stem : Str) (first n : Nat) : List Str := (List.range n).map fun j => stem ++ sign (97 + first + j)
structure NamesOf (n : Nat) (ys : List Str) : Prop where
  ex : ∃ (stem : Str) (first : Nat), ys = nameList stem first n ∧ stem.length ≤ 7 ∧ (∀ c ∈ stem.cps.toList, Low c) ∧ first + n ≤ 26
theorem NamesOf.length {n : Nat} {ys : List Str} (h : NamesOf n ys) : ys.length = n := by
  obtain ⟨s, f, rfl, _⟩ := h.ex
  unfold nameList
  rw [List.length_map, List.length_range]
theorem NamesOf.nm {n : Nat} {ys : List Str} (h : NamesOf n ys) : ∀ y ∈ ys, NmOk y := by
  obtain ⟨s, f, rfl, h1, h2, h3⟩ := h.ex
  intro y hy
  unfold nameList at hy
  obtain ⟨j, hj, rfl⟩ := List.mem_map.mp hy
  have hj := List.mem_range.mp hj
  refine ⟨?_, fun c hc => ?_⟩
  · rw [app_len]
    show s.length + 1 ≤ 8
    omega
  · rw [app_cps] at hc
    rcases List.mem_append.mp hc with hc | hc
    · exact h2 c hc
    · have : c = 97 + f + j := by simpa [sign] using hc
      unfold Low
      omega
def alpha : Str := "abcdefghijklmnopqrstuvwxyz"
theorem alpha_cps : alpha.cps.toList = (List.range 26).map fun j => 97 + j := by decide +kernel
theorem alpha_len : alpha.length = 26 := by decide +kernel
theorem cut_alpha {f n : Nat} (h : f + n ≤ 26) : (cutS alpha (some (f : Int)) (some ((f + n : Nat) : Int))).cps.toList = (List.range n).map fun j => 97 + f + j := by
  unfold cutS
  rw [HT.sIx_nat, HT.sIx_nat, alpha_len, Nat.min_eq_left h, Nat.min_eq_left (show f ≤ 26 by omega)]
  show (List.take (f + n - f) (List.drop f alpha.cps.toList)) = _
  rw [alpha_cps]
  apply List.ext_getElem?
  intro i
  rw [List.getElem?_take, List.getElem?_drop, List.getElem?_map, List.getElem?_map]
  by_cases hi : i < n
  · rw [if_pos (by omega), List.getElem?_range (by omega), List.getElem?_range hi]
    show some (97 + (f + i)) = some (97 + f + i)
    rw [Nat.add_assoc]
  · rw [if_neg (by omega), List.getElem?_eq_none (l := List.range n) (by rw [List.length_range]; omega)]
    rfl
/-- texts as data -/
theorem dp_strs {K : PySem.W.Frag} {H : Hp} : ∀ ss : List Str, DpAll K H (ss.map V.str) (ss.map PyData.str)
  | [] => .nil
  | s :: ss => .cons (.str s) (dp_strs ss)
theorem lay_strs : ∀ ss : List Str, (∀ s ∈ ss, PyData.strOk s = true) → PyData.canLayAll0 (ss.map PyData.str) = true ∧ PyData.depthAll (ss.map PyData.str) = 0
  | [], _ => ⟨by rw [List.map_nil, PyData.canLayAll0], by rw [List.map_nil, PyData.depthAll]⟩
  | s :: ss, h => by
    obtain ⟨h1, h2⟩ := lay_strs ss fun x hx => h x (List.mem_cons_of_mem _ hx)
    rw [List.map_cons, PyData.canLayAll0, PyData.depthAll, h1, h2, PyData.canLay0, PyData.depth, h s List.mem_cons_self]
    exact ⟨rfl, rfl⟩
theorem shaped_strs (ss : List Str) (h : ∀ s ∈ ss, PyData.strOk s = true) : SeqAt.shaped (.list (ss.map PyData.str)) = true := by
  obtain ⟨h1, h2⟩ := lay_strs ss h
  unfold SeqAt.shaped
  rw [PyData.canLay0, PyData.depth, h1, h2]
  rfl
theorem shaped_strsT (ss : List Str) (h : ∀ s ∈ ss, PyData.strOk s = true) : SeqAt.shaped (.tuple (ss.map PyData.str)) = true := by
  obtain ⟨h1, h2⟩ := lay_strs ss h
  unfold SeqAt.shaped
  rw [PyData.canLay0, PyData.depth, h1, h2]
  rfl
theorem shaped_nil : SeqAt.shaped (.list []) = true := by decide +kernel
theorem shaped_nilT : SeqAt.shaped (.tuple []) = true := by decide +kernel
theorem eqv_nil : ∀ ss : List Str, PyData.eqv (.list (ss.map PyData.str)) (.list []) = ss.isEmpty
  | [] => by decide +kernel
  | s :: ss => by
    rw [List.map_cons, PyData.eqv, PyData.eqvAll]
    rfl
theorem eqv_nilT : ∀ ss : List Str, PyData.eqv (.tuple (ss.map PyData.str)) (.tuple []) = ss.isEmpty
  | [] => by decide +kernel
  | s :: ss => by
    rw [List.map_cons, PyData.eqv, PyData.eqvAll]
    rfl
theorem map_erase {α β : Type} (g : α → β) : ∀ (xs : List α) (j : Nat), (xs.map g).eraseIdx j = (xs.eraseIdx j).map g
  | [], _ => rfl
  | _ :: _, 0 => rfl
  | x :: xs, j + 1 => by
    show g x :: (xs.map g).eraseIdx j = g x :: (xs.eraseIdx j).map g
    rw [map_erase g xs j]
theorem erase_perm {α : Type} : ∀ (xs : List α) (j : Nat) (h : j < xs.length), (xs[j] :: xs.eraseIdx j).Perm xs
  | x :: xs, 0, _ => List.Perm.refl _
  | x :: xs, j + 1, h => by
    have ih := erase_perm xs j (Nat.lt_of_succ_lt_succ h)
    show (xs[j]'(Nat.lt_of_succ_lt_succ h) :: x :: xs.eraseIdx j).Perm (x :: xs)
    exact (List.Perm.swap _ _ _).trans (ih.cons x)
theorem sum_ones {α : Type} : ∀ ss : List α, (ss.map fun _ => 1).sum = ss.length
  | [] => rfl
  | s :: ss => by
    rw [List.map_cons, List.sum_cons, sum_ones ss, List.length_cons]
    omega
end WT

set_option Elab.async false
set_option linter.all false
set_option maxRecDepth 100000
set_option maxHeartbeats 4000000
/-! sorted of a list of alike data. -/
namespace WT
open PySem PySem.Spec PyProof.Rows L2 PySem.W
section
variable {X : Cx}
theorem each_vals : ∀ {bs : List (V × PyData)} {us : List Value}, Vals (bs.map (·.1)) us → EachIs (fun v (b : V × PyData) => RelV b.1 v) us bs
  | [], _, r => by
    cases r
    exact .nil
  | b :: bs, _, r => by
    cases r with
    | cons h t => exact .cons h (each_vals t)
theorem vals_each : ∀ {bs : List (V × PyData)} {us : List Value}, EachIs (fun v (b : V × PyData) => RelV b.1 v) us bs → Vals (bs.map (·.1)) us
  | _, _, .nil => .nil
  | _, _, .cons h t => .cons h (vals_each t)
theorem each_reads {pins : List (Addr × Obj)} {σ : L2.St} {H : Hp} {s : Shared} (I : Inv X pins σ H s) : ∀ {bs : List (V × PyData)} {us : List Value}, EachIs (fun v (b : V × PyData) => RelV b.1 v) us bs → (∀ b ∈ bs, Dp X.K H b.1 b.2) → EachIs (fun v (b : V × PyData) => ∃ as, Reads s.heap v b.2 as) us bs
  | _, _, .nil, _ => .nil
  | _, _, .cons h t, d => .cons (Dp.reads I _ _ _ (d _ List.mem_cons_self) h) (each_reads I t fun b hb => d b (List.mem_cons_of_mem _ hb))
/-- sorted(xs), the items alike data: the stable sort by Python's order -/
def rSortedD (K : PySem.W.Frag) : List V → Hp → VK → Prop := fun vs H Q => ∃ (a : Addr) (bs : List (V × PyData)), vs = [.ref a] ∧ SqL K H a (bs.map (·.1)) ∧ (∀ b ∈ bs, Dp K H b.1 b.2) ∧ AllAlike (bs.map (·.2)) ∧ Sortable (bs.map (·.2)) ∧ (∀ b ∈ bs, b.2.depth ≤ 60) ∧
  ∀ p, H p = none → Q (.ref p) (upd H p (.lst ((bs.mergeSort (dataLe false fun b => b.2)).map (·.1))))
theorem cr_sortedD (hu : X.A.units + 64 < cLine) : CallR X (.builtin "sorted") (rSortedD X.K) := by
  intro pins s σ H vs us Q I r h
  obtain ⟨a, bs, rfl, hs, hd, hal, hk, hde, q⟩ := h
  obtain ⟨its, rv, hl, hz⟩ := I.list hs
  rw [Vals.ref1 r]
  have e := each_vals rv
  have hlen : bs.length ≤ sizeLine := by
    have := e.length
    have h2 := hz
    rw [List.length_map] at h2
    omega
  refine sorted_data (enc := fun b : V × PyData => b.2) hl.isList e (each_reads I e hd) hal hk hlen (fun b hb => by have := hde b hb; omega) fun out ho he => ?_
  obtain ⟨ep, he'⟩ := PyProof.Rows.sortedAll_at s.heap its out.toArray
  have hl2 : ((bs.mergeSort (dataLe false fun b => b.2)).map (·.1)).length ≤ sizeLine := by
    rw [List.length_map, List.length_mergeSort]
    exact hlen
  exact ⟨.ref _, upd H (s.heap.objs.size + 1) (.lst ((bs.mergeSort (dataLe false fun b => b.2)).map (·.1))), I.laid (t' := s.toks) (fun _ _ => PyProof.Rows.sortedAll_old) (Nat.le_succ _) ⟨hl2, out, ep, vals_each he, he'⟩, rfl, q _ (I.hok.fresh (Nat.le_succ _))⟩
end
end WT

set_option Elab.async false
set_option linter.all false
namespace WT
open PySem PySem.Spec PyProof.Rows L2
/-- a gateway: its name, its members, its kind -/
abbrev Gt := Str × List Str × Str
def GateAt (H : Hp) (a : Addr) (g : Gt) : Prop := ∃ i, H a = some (.tup [.str g.1, .ref i, .str g.2.2]) ∧ H i = some (.tup (g.2.1.map V.str))
theorem GateAt.same {H H' : Hp} {a : Addr} {g : Gt} (h : GateAt H a g) (s : Same H H') : GateAt H' a g := by
  obtain ⟨i, h1, h2⟩ := h
  exact ⟨i, s _ _ h1, s _ _ h2⟩
theorem GateAt.but {H H' : Hp} {a c : Addr} {g : Gt} {b : Nat} (h : GateAt H a g) (p : PotAt H c b) (s : But c H H') : GateAt H' a g := by
  obtain ⟨i, h1, h2⟩ := h
  exact ⟨i, s _ _ (p.ne_tup h1) h1, s _ _ (p.ne_tup h2) h2⟩
/-- the world of the regions rs and the gateways gs stands at a -/
structure WorldAt (H : Hp) (a r g : Addr) (as : List Addr) (rs : List Str) (gs : List Gt) : Prop where
  top : H a = some (.tup [.ref r, .ref g])
  reg : H r = some (.tup (rs.map V.str))
  gat : H g = some (.tup (as.map V.ref))
  each : Paired (GateAt H) as gs
theorem WorldAt.same {H H' : Hp} {a r g : Addr} {as : List Addr} {rs : List Str} {gs : List Gt} (h : WorldAt H a r g as rs gs) (s : Same H H') : WorldAt H' a r g as rs gs :=
  ⟨s _ _ h.top, s _ _ h.reg, s _ _ h.gat, Paired.mapP h.each fun _ _ z => z.same s⟩
theorem WorldAt.but {H H' : Hp} {a r g c : Addr} {as : List Addr} {rs : List Str} {gs : List Gt} {b : Nat} (h : WorldAt H a r g as rs gs) (p : PotAt H c b) (s : But c H H') : WorldAt H' a r g as rs gs :=
  ⟨s _ _ (p.ne_tup h.top) h.top, s _ _ (p.ne_tup h.reg) h.reg, s _ _ (p.ne_tup h.gat) h.gat, Paired.mapP h.each fun _ _ z => z.but p s⟩
/-- what a drawn gateway between the regions rs is -/
structure GateOk (rs : List Str) (g : Gt) : Prop where
  nm : NmOk g.1
  from_ : ∃ (ys : List Str) (k : Nat), ys.Perm rs ∧ g.2.1.Perm (ys.take k) ∧ 2 ≤ k ∧ k ≤ rs.length
  srt : sortedS g.2.1 = true
  kind : g.2.2 = "wrap" ∨ g.2.2 = "open"
theorem GateOk.sub {rs : List Str} {g : Gt} (h : GateOk rs g) : ∀ x ∈ g.2.1, x ∈ rs := by
  obtain ⟨ys, k, h1, h2, _⟩ := h.from_
  intro x hx
  exact h1.mem_iff.mp (List.mem_of_mem_take (h2.mem_iff.mp hx))
theorem GateOk.len {rs : List Str} {g : Gt} (h : GateOk rs g) : 2 ≤ g.2.1.length ∧ g.2.1.length ≤ rs.length := by
  obtain ⟨ys, k, h1, h2, h3, h4⟩ := h.from_
  have e1 := h2.length_eq
  have e2 := h1.length_eq
  rw [List.length_take] at e1
  omega
structure WorldOk (rs : List Str) (gs : List Gt) : Prop where
  reg : ∃ n, 1 ≤ n ∧ n ≤ 10 ∧ NamesOf n rs
  gat : ∃ n, n ≤ 10 ∧ NamesOf n (gs.map (·.1))
  each : ∀ g ∈ gs, GateOk rs g
theorem cut_to (ys : List Str) (k : Nat) : cutV (ys.map V.str) none (some (k : Int)) = (ys.take k).map V.str := by
  unfold cutV
  rw [HT.sIx_nat, HT.sIx_none, List.drop_zero, List.length_map, Nat.sub_zero, ← List.map_take]
  congr 1
  rcases Nat.le_total k ys.length with h | h
  · rw [Nat.min_eq_left h]
  · rw [Nat.min_eq_right h, List.take_of_length_le h, List.take_length]
theorem pair_snoc {α β : Type} {R : α → β → Prop} : ∀ {l : List α} {m : List β} {x : α} {y : β}, Paired R l m → R x y → Paired R (l ++ [x]) (m ++ [y])
  | _, _, _, _, .nil, r => .cons r .nil
  | _, _, _, _, .cons r t, q => .cons r (pair_snoc t q)
end WT

set_option Elab.async false
set_option linter.all false
namespace WT
open PySem PySem.Spec PyProof.Rows L2
/-! ### regions that gateways connect: the mathematics -/
def Adj (gs : List Gt) (bar : List Str) (x y : Str) : Prop := ∃ g ∈ gs, g.1 ∉ bar ∧ x ∈ g.2.1 ∧ y ∈ g.2.1
inductive Conn (gs : List Gt) (bar : List Str) (x : Str) : Str → Prop
  | refl : Conn gs bar x x
  | step {y z : Str} : Conn gs bar x y → Adj gs bar y z → Conn gs bar x z
theorem Adj.symm {gs : List Gt} {bar : List Str} {x y : Str} (h : Adj gs bar x y) : Adj gs bar y x := by
  obtain ⟨g, h1, h2, h3, h4⟩ := h
  exact ⟨g, h1, h2, h4, h3⟩
theorem Conn.trans {gs : List Gt} {bar : List Str} {x y z : Str} (h : Conn gs bar x y) (k : Conn gs bar y z) : Conn gs bar x z := by
  induction k with
  | refl => exact h
  | step _ a ih => exact ih.step a
theorem Conn.symm {gs : List Gt} {bar : List Str} {x y : Str} (h : Conn gs bar x y) : Conn gs bar y x := by
  induction h with
  | refl => exact .refl
  | step _ a ih => exact (Conn.refl.step a.symm).trans ih
/-- what exits returns -/
def exitsL (gs : List Gt) (bar : List Str) (x : Str) : List (Str × Str) := gs.flatMap fun g => if x ∈ g.2.1 ∧ g.1 ∉ bar then (g.2.1.filter fun y => decide (y ≠ x)).map fun y => (g.1, y) else []
theorem exits_adj {gs : List Gt} {bar : List Str} {x : Str} {e : Str × Str} (h : e ∈ exitsL gs bar x) : Adj gs bar x e.2 := by
  unfold exitsL at h
  obtain ⟨g, hg, he⟩ := List.mem_flatMap.mp h
  by_cases c : x ∈ g.2.1 ∧ g.1 ∉ bar
  · rw [if_pos c] at he
    obtain ⟨y, hy, rfl⟩ := List.mem_map.mp he
    exact ⟨g, hg, c.2, c.1, (List.mem_filter.mp hy).1⟩
  · rw [if_neg c] at he
    cases he
theorem adj_exits {gs : List Gt} {bar : List Str} {x y : Str} (h : Adj gs bar x y) (n : y ≠ x) : ∃ e ∈ exitsL gs bar x, e.2 = y := by
  obtain ⟨g, hg, h1, h2, h3⟩ := h
  refine ⟨(g.1, y), ?_, rfl⟩
  unfold exitsL
  refine List.mem_flatMap.mpr ⟨g, hg, ?_⟩
  rw [if_pos ⟨h2, h1⟩]
  exact List.mem_map.mpr ⟨y, List.mem_filter.mpr ⟨h3, decide_eq_true n⟩, rfl⟩
/-- a set of regions that no exit leaves has all that is connected -/
theorem closed_conn {gs : List Gt} {bar : List Str} {x y : Str} {ks : List Str} (hx : x ∈ ks) (hc : ∀ k ∈ ks, ∀ z, Adj gs bar k z → z ∈ ks) (h : Conn gs bar x y) : y ∈ ks := by
  induction h with
  | refl => exact hx
  | step _ a ih => exact hc _ ih _ a
/-- different ones among rs are at most as many -/
theorem nodup_le {α : Type} [DecidableEq α] : ∀ {ks rs : List α}, ks.Nodup → (∀ k ∈ ks, k ∈ rs) → ks.length ≤ rs.length
  | [], _, _, _ => Nat.zero_le _
  | k :: ks, rs, hn, hs => by
    have hk := hs k List.mem_cons_self
    obtain ⟨hk1, hk2⟩ := List.nodup_cons.mp hn
    have ih := nodup_le (ks := ks) (rs := rs.erase k) hk2 fun z hz => by
      have := hs z (List.mem_cons_of_mem _ hz)
      exact (List.mem_erase_of_ne (fun (e : z = k) => hk1 (e ▸ hz))).mpr this
    have := List.length_erase_of_mem hk
    have : 0 < rs.length := List.length_pos_of_mem hk
    rw [List.length_cons]
    omega
theorem inV_str (x : Str) : ∀ ss : List Str, inV (.str x) (ss.map V.str) = decide (x ∈ ss)
  | [] => by simp [inV]
  | s :: ss => by
    have ih := inV_str x ss
    unfold inV at ih ⊢
    rw [List.map_cons, List.any_cons, ih]
    by_cases h : x = s
    · subst h
      simp [eqV]
    · have : ¬ s = x := fun z => h z.symm
      simp [eqV, h, this]
theorem flat_strs : ∀ ss : List Str, (ss.map V.str).all flatV = true
  | [] => rfl
  | _ :: ss => by
    rw [List.map_cons, List.all_cons, flat_strs ss]
    rfl
theorem exits_len {gs : List Gt} {bar : List Str} {x : Str} (h : ∀ g ∈ gs, g.2.1.length ≤ 100) : (exitsL gs bar x).length ≤ gs.length * 100 := by
  induction gs with
  | nil => exact Nat.zero_le _
  | cons g gs ih =>
    have := ih fun y hy => h y (List.mem_cons_of_mem _ hy)
    have hg := h g List.mem_cons_self
    unfold exitsL at this ⊢
    rw [List.flatMap_cons, List.length_append, List.length_cons, Nat.add_mul]
    have : (if x ∈ g.2.1 ∧ g.1 ∉ bar then (g.2.1.filter fun y => decide (y ≠ x)).map fun y => (g.1, y) else []).length ≤ 100 := by
      by_cases c : x ∈ g.2.1 ∧ g.1 ∉ bar
      · rw [if_pos c, List.length_map]
        exact Nat.le_trans (List.length_filter_le _ _) hg
      · rw [if_neg c]
        exact Nat.zero_le _
    omega
theorem pair_at {α β : Type} {R : α → β → Prop} : ∀ {l : List α} {m : List β} {i : Nat} {x : α}, Paired R l m → l[i]? = some x → ∃ y, m[i]? = some y ∧ R x y
  | _, _, _, _, .nil, h => by simp at h
  | _, _, 0, _, .cons r _, h => by
    cases h
    exact ⟨_, rfl, r⟩
  | _, _, i + 1, _, .cons _ t, h => pair_at (i := i) t h
theorem pair_app {α β : Type} {R : α → β → Prop} : ∀ {l l2 : List α} {m m2 : List β}, Paired R l m → Paired R l2 m2 → Paired R (l ++ l2) (m ++ m2)
  | _, _, _, _, .nil, r => r
  | _, _, _, _, .cons r t, q => .cons r (pair_app t q)
theorem valV_mem {κ : Type} [DecidableEq κ] {k : κ} {v : V} : ∀ {kvs : List (κ × V)}, valV kvs k = some v → (k, v) ∈ kvs
  | [], h => by cases h
  | p :: r, h => by
    by_cases e : p.1 = k
    · rw [valV_pos e] at h
      cases h
      rw [← e]
      exact List.mem_cons_self
    · rw [valV_neg e] at h
      exact List.mem_cons_of_mem _ (valV_mem h)
theorem valV_some {κ : Type} [DecidableEq κ] {k : κ} : ∀ {kvs : List (κ × V)}, k ∈ kvs.map (·.1) → ∃ v, valV kvs k = some v
  | [], h => by cases h
  | p :: r, h => by
    by_cases e : p.1 = k
    · exact ⟨_, valV_pos e⟩
    · rw [valV_neg e]
      rcases List.mem_cons.mp h with h | h
      · exact absurd h.symm e
      · exact valV_some h
theorem valV_none {κ : Type} [DecidableEq κ] {k : κ} {kvs : List (κ × V)} (h : k ∉ kvs.map (·.1)) : valV kvs k = none := by
  cases e : valV kvs k with
  | none => rfl
  | some v => exact absurd (List.mem_map.mpr ⟨_, valV_mem e, rfl⟩) h
/-- the search so far: the regions that have a path, each path a tuple -/
structure Bfs (gs : List Gt) (bar rs : List Str) (one : Str) (H : Hp) (kvs : List (Key × V)) (ks : List Str) : Prop where
  keys : kvs.map (·.1) = ks.map Sum.inr
  nod : ks.Nodup
  has : one ∈ ks
  con : ∀ k ∈ ks, Conn gs bar one k ∧ k ∈ rs
  tup : ∀ p ∈ kvs, ∃ (t : Addr) (xs : List V), p.2 = .ref t ∧ H t = some (.tup xs) ∧ xs ≠ [] ∧ xs.length ≤ 2 * kvs.length
theorem Bfs.len {gs : List Gt} {bar rs : List Str} {one : Str} {H : Hp} {kvs : List (Key × V)} {ks : List Str} (h : Bfs gs bar rs one H kvs ks) : kvs.length = ks.length ∧ ks.length ≤ rs.length := by
  have := congrArg List.length h.keys
  rw [List.length_map, List.length_map] at this
  exact ⟨this, nodup_le h.nod fun k hk => (h.con k hk).2⟩
theorem Bfs.mem {gs : List Gt} {bar rs : List Str} {one k : Str} {H : Hp} {kvs : List (Key × V)} {ks : List Str} (h : Bfs gs bar rs one H kvs ks) : Sum.inr k ∈ kvs.map (·.1) ↔ k ∈ ks := by
  rw [h.keys]
  constructor
  · intro z
    obtain ⟨y, hy, e⟩ := List.mem_map.mp z
    cases e
    exact hy
  · exact fun z => List.mem_map.mpr ⟨k, z, rfl⟩
theorem Bfs.get {gs : List Gt} {bar rs : List Str} {one k : Str} {H : Hp} {kvs : List (Key × V)} {ks : List Str} (h : Bfs gs bar rs one H kvs ks) (hk : k ∈ ks) : ∃ (t : Addr) (xs : List V), valV kvs (Sum.inr k) = some (.ref t) ∧ H t = some (.tup xs) ∧ xs ≠ [] ∧ xs.length ≤ 2 * kvs.length := by
  obtain ⟨v, hv⟩ := valV_some (h.mem.mpr hk)
  obtain ⟨t, xs, e, r⟩ := h.tup _ (valV_mem hv)
  have e : v = .ref t := e
  exact ⟨t, xs, by rw [hv, e], r⟩
theorem Bfs.same {gs : List Gt} {bar rs : List Str} {one : Str} {H H' : Hp} {kvs : List (Key × V)} {ks : List Str} (h : Bfs gs bar rs one H kvs ks) (s : ∀ t xs, H t = some (.tup xs) → H' t = some (.tup xs)) : Bfs gs bar rs one H' kvs ks :=
  ⟨h.keys, h.nod, h.has, h.con, fun p hp => by
    obtain ⟨t, xs, e1, e2, e3⟩ := h.tup p hp
    exact ⟨t, xs, e1, s _ _ e2, e3⟩⟩
theorem Bfs.put {gs : List Gt} {bar rs : List Str} {one k : Str} {H : Hp} {kvs : List (Key × V)} {ks : List Str} {t : Addr} {xs : List V} (h : Bfs gs bar rs one H kvs ks) (hk : k ∉ ks) (hc : Conn gs bar one k) (hr : k ∈ rs) (ht : H t = some (.tup xs)) (hx : xs ≠ []) (hl : xs.length ≤ 2 * kvs.length + 2) :
    putK kvs (Sum.inr k) (.ref t) = kvs ++ [(Sum.inr k, .ref t)] ∧ Bfs gs bar rs one H (kvs ++ [(Sum.inr k, .ref t)]) (ks ++ [k]) := by
  refine ⟨putK_new _ (valV_none fun z => hk (h.mem.mp z)), ?_, ?_, List.mem_append_left _ h.has, fun y hy => ?_, fun p hp => ?_⟩
  · rw [List.map_append, List.map_append, h.keys]
    rfl
  · refine List.nodup_append.mpr ⟨h.nod, by simp, fun a ha b hb e => ?_⟩
    rw [List.mem_singleton.mp hb] at e
    exact hk (e ▸ ha)
  · rcases List.mem_append.mp hy with hy | hy
    · exact h.con y hy
    · rw [List.mem_singleton.mp hy]
      exact ⟨hc, hr⟩
  · rw [List.length_append]
    rcases List.mem_append.mp hp with hp | hp
    · obtain ⟨t', xs', e1, e2, e3, e4⟩ := h.tup p hp
      exact ⟨t', xs', e1, e2, e3, by simp; omega⟩
    · rw [List.mem_singleton.mp hp]
      exact ⟨t, xs, rfl, ht, hx, by simp; omega⟩
theorem ifT {c : Bool} {A B : Prop} (h : c = true) (x : A) : if c = true then A else B := by
  rw [if_pos h]
  exact x
theorem ifF {c : Bool} {A B : Prop} (h : c = false) (x : B) : if c = true then A else B := by
  rw [h, if_neg Bool.false_ne_true]
  exact x
/-- what the search hands back -/
theorem Bfs.out {gs : List Gt} {bar rs : List Str} {one other : Str} {H : Hp} {kvs : List (Key × V)} {ks far : List Str} (h : Bfs gs bar rs one H kvs ks) (hc : ∀ k ∈ ks, k ∉ far → ∀ z, Adj gs bar k z → z ∈ ks) (hd : far = [] ∨ other ∈ ks) :
    (valV kvs (Sum.inr other)).getD .non ≠ .non ↔ Conn gs bar one other := by
  by_cases ho : other ∈ ks
  · obtain ⟨t, xs, e, _⟩ := h.get ho
    rw [e]
    exact ⟨fun _ => (h.con _ ho).1, fun _ z => by cases z⟩
  · rw [valV_none fun z => ho (h.mem.mp z)]
    refine ⟨fun z => absurd rfl z, fun z => absurd (closed_conn h.has (fun k hk => ?_) z) ho⟩
    rcases hd with rfl | hd
    · exact hc k hk (by simp)
    · exact absurd hd ho
end WT

set_option Elab.async false
set_option linter.all false
namespace WT
open PySem PySem.Spec PyProof.Rows L2
/-! ### groups by labels: the mathematics -/
def labK (rs : List Str) (lab : Str → Int) : List (Key × V) := rs.map fun x => (Sum.inr x, V.int (lab x))
theorem keys_labK (rs : List Str) (lab : Str → Int) : (labK rs lab).map (·.1) = rs.map Sum.inr := by
  unfold labK
  rw [List.map_map]
  rfl
theorem val_labK {x : Str} {lab : Str → Int} : ∀ {rs : List Str}, x ∈ rs → valV (labK rs lab) (Sum.inr x) = some (.int (lab x))
  | r :: rs, h => by
    by_cases e : r = x
    · subst e
      exact valV_pos (p := (Sum.inr r, V.int (lab r))) rfl
    · have ne : ¬ (Sum.inr r : Key) = Sum.inr x := fun z => e (Sum.inr.inj z)
      have := val_labK (lab := lab) (rs := rs) ((List.mem_cons.mp h).resolve_left fun z => e z.symm)
      exact (valV_neg (p := (Sum.inr r, V.int (lab r))) ne).trans this
theorem put_labK {x : Str} {lab : Str → Int} {c : Int} {rs : List Str} (h : x ∈ rs) : putK (labK rs lab) (Sum.inr x) (.int c) = labK rs (fun z => if z = x then c else lab z) := by
  unfold putK
  rw [if_pos]
  · unfold labK
    rw [List.map_map]
    refine List.map_congr_left fun z _ => ?_
    show (if (Sum.inr z : Key) = Sum.inr x then ((Sum.inr z : Key), V.int c) else (Sum.inr z, V.int (lab z))) = (Sum.inr z, V.int (if z = x then c else lab z))
    by_cases e : z = x
    · rw [if_pos (congrArg Sum.inr e), if_pos e]
    · rw [if_neg (fun q => e (Sum.inr.inj q)), if_neg e]
  · refine List.any_eq_true.mpr ⟨(Sum.inr x, V.int (lab x)), List.mem_map.mpr ⟨x, h, rfl⟩, ?_⟩
    simp
theorem merge_labK {lab : Str → Int} : ∀ (bs as : List Str), (as ++ bs).Nodup → mergeK (labK as lab) (labK bs lab) = labK (as ++ bs) lab
  | [], as, _ => by
    rw [List.append_nil]
    rfl
  | b :: bs, as, h => by
    have h2 : (as ++ [b] ++ bs).Nodup := by
      rw [List.append_assoc]
      exact h
    have nb : b ∉ as := fun z => (List.nodup_append.mp h).2.2 b z b List.mem_cons_self rfl
    have e : putK (labK as lab) (Sum.inr b) (.int (lab b)) = labK (as ++ [b]) lab := by
      rw [putK_new _ (valV_none fun z => ?_)]
      · unfold labK
        rw [List.map_append]
        rfl
      · rw [keys_labK] at z
        obtain ⟨y, hy, q⟩ := List.mem_map.mp z
        cases q
        exact nb hy
    have := merge_labK (lab := lab) bs (as ++ [b]) h2
    rw [List.append_assoc] at this
    rw [← e] at this
    exact this
/-- the place of x -/
def idxS : List Str → Str → Int
  | [], _ => 0
  | y :: r, x => if y = x then 0 else 1 + idxS r x
theorem idxS_at : ∀ {rs : List Str} {i : Nat} {x : Str}, rs.Nodup → rs[i]? = some x → idxS rs x = i
  | [], _, _, _, h => by simp at h
  | y :: r, 0, x, _, h => by
    cases h
    simp [idxS]
  | y :: r, i + 1, x, n, h => by
    have h : r[i]? = some x := h
    have ne : y ≠ x := fun e => (List.nodup_cons.mp n).1 (e ▸ List.mem_of_getElem? h)
    rw [idxS, if_neg ne, idxS_at (List.nodup_cons.mp n).2 h]
    omega
/-- at most t steps from y -/
def ConnN (gs : List Gt) (bar : List Str) (y : Str) : Nat → Str → Prop
  | 0, x => x = y
  | t + 1, x => ∃ u, ConnN gs bar y t u ∧ (u = x ∨ Adj gs bar u x)
section
variable {gs : List Gt} {bar rs : List Str}
theorem ConnN.more {y x : Str} {t : Nat} (h : ConnN gs bar y t x) : ConnN gs bar y (t + 1) x := ⟨x, h, .inl rfl⟩
theorem ConnN.mem (hm : ∀ g ∈ gs, ∀ z ∈ g.2.1, z ∈ rs) {y : Str} (hy : y ∈ rs) : ∀ {t : Nat} {x : Str}, ConnN gs bar y t x → x ∈ rs
  | 0, x, h => by
    rw [show x = y from h]
    exact hy
  | t + 1, x, h => by
    obtain ⟨u, hu, e | a⟩ := h
    · rw [← e]
      exact hu.mem hm hy
    · obtain ⟨g, hg, _, _, hx⟩ := a
      exact hm g hg x hx
theorem connN_or (hm : ∀ g ∈ gs, ∀ z ∈ g.2.1, z ∈ rs) {y : Str} (hy : y ∈ rs) : ∀ t : Nat, (∃ ks : List Str, ks.Nodup ∧ ks.length = t + 1 ∧ ∀ k ∈ ks, ConnN gs bar y t k) ∨ ∀ x, ConnN gs bar y t x → ∀ z, Adj gs bar x z → ConnN gs bar y t z
  | 0 => .inl ⟨[y], by simp, rfl, fun k hk => List.mem_singleton.mp hk⟩
  | t + 1 => by
    rcases connN_or hm hy t with ⟨ks, h1, h2, h3⟩ | h
    · by_cases c : ∀ x, ConnN gs bar y (t + 1) x → ∀ z, Adj gs bar x z → ConnN gs bar y (t + 1) z
      · exact .inr c
      · obtain ⟨x, c⟩ := Classical.not_forall.mp c
        obtain ⟨hx, c⟩ := Classical.not_imp.mp c
        obtain ⟨z, c⟩ := Classical.not_forall.mp c
        obtain ⟨a, nz⟩ := Classical.not_imp.mp c
        refine .inl ⟨x :: ks, List.nodup_cons.mpr ⟨fun hk => nz ⟨x, h3 x hk, .inr a⟩, h1⟩, by rw [List.length_cons, h2], fun k hk => ?_⟩
        rcases List.mem_cons.mp hk with rfl | hk
        · exact hx
        · exact (h3 k hk).more
    · refine .inr fun x hx z a => ?_
      obtain ⟨u, hu, e | b⟩ := hx
      · subst e
        exact (h u hu z a).more
      · exact (h x (h u hu x b) z a).more
theorem connN_all (hm : ∀ g ∈ gs, ∀ z ∈ g.2.1, z ∈ rs) {y x : Str} (hy : y ∈ rs) (h : Conn gs bar y x) : ConnN gs bar y rs.length x := by
  have up : ∀ t, ConnN gs bar y t y := fun t => by
    induction t with
    | zero => rfl
    | succ t ih => exact ih.more
  rcases connN_or (bar := bar) hm hy rs.length with ⟨ks, h1, h2, h3⟩ | c
  · have := nodup_le h1 fun k hk => (h3 k hk).mem hm hy
    omega
  · induction h with
    | refl => exact up _
    | step _ a ih => exact c _ ih _ a
/-- each label is the place of a connected region -/
def Lab (gs : List Gt) (bar rs : List Str) (lab : Str → Int) : Prop := ∀ x ∈ rs, ∃ (i : Nat) (y : Str), rs[i]? = some y ∧ lab x = (i : Int) ∧ Conn gs bar x y
theorem Lab.conn {lab : Str → Int} (L : Lab gs bar rs lab) {x y : Str} (hx : x ∈ rs) (hy : y ∈ rs) (e : lab x = lab y) : Conn gs bar x y := by
  obtain ⟨i, u, h1, h2, h3⟩ := L x hx
  obtain ⟨j, v, k1, k2, k3⟩ := L y hy
  have : i = j := by omega
  subst this
  rw [h1] at k1
  cases k1
  exact h3.trans k3.symm
theorem lab_first (nd : rs.Nodup) : Lab gs bar rs (idxS rs) := fun x hx => by
  obtain ⟨i, hi, e⟩ := List.getElem_of_mem hx
  have : rs[i]? = some x := by rw [List.getElem?_eq_getElem hi, e]
  exact ⟨i, x, this, idxS_at nd this, .refl⟩
/-- what t steps reach is not below -/
def LowL (gs : List Gt) (bar rs : List Str) (t : Nat) (lab : Str → Int) : Prop := ∀ x ∈ rs, ∀ (i : Nat) (y : Str), rs[i]? = some y → ConnN gs bar y t x → lab x ≤ (i : Int)
theorem low_first (nd : rs.Nodup) : LowL gs bar rs 0 (idxS rs) := fun x hx i y hy h => by
  have e : x = y := h
  subst e
  rw [idxS_at nd hy]
  exact Int.le_refl _
/-- within one gateway -/
structure Mid (gs : List Gt) (bar rs ms : List Str) (lab0 : Str → Int) (least : Int) (i : Nat) (lab : Str → Int) : Prop where
  lb : Lab gs bar rs lab
  le : ∀ x ∈ rs, lab x ≤ lab0 x
  low : ∀ m ∈ ms, least ≤ lab m
  dn : ∀ m ∈ ms, m ∈ rs.take i → lab m ≤ least
theorem Mid.hit {ms : List Str} {lab0 lab : Str → Int} {least : Int} {i : Nat} {g : Gt} (M : Mid gs bar rs ms lab0 least i lab) (hm : ∀ m ∈ ms, m ∈ rs) (hg : g ∈ gs) (hb : g.1 ∉ bar) (em : g.2.1 = ms) (L0 : Lab gs bar rs lab0) {m0 : Str} (h0 : m0 ∈ ms) (e0 : least = lab0 m0)
    {x : Str} (hx : rs[i]? = some x) {o : Str} (ho : o ∈ ms) (e : lab x = lab o) : Mid gs bar rs ms lab0 least (i + 1) (fun z => if z = x then least else lab z) := by
  have xr : x ∈ rs := List.mem_of_getElem? hx
  have con : Conn gs bar x m0 := (M.lb.conn xr (hm o ho) e).step ⟨g, hg, hb, em ▸ ho, em ▸ h0⟩
  refine ⟨fun z hz => ?_, fun z hz => ?_, fun m hm' => ?_, fun m hm' ht => ?_⟩
  · show ∃ (i : Nat) (y : Str), rs[i]? = some y ∧ (if z = x then least else lab z) = (i : Int) ∧ Conn gs bar z y
    by_cases c : z = x
    · rw [if_pos c, c, e0]
      obtain ⟨j, y, h1, h2, h3⟩ := L0 m0 (hm m0 h0)
      exact ⟨j, y, h1, h2, con.trans h3⟩
    · rw [if_neg c]
      exact M.lb z hz
  · show (if z = x then least else lab z) ≤ lab0 z
    by_cases c : z = x
    · rw [if_pos c, c]
      exact Int.le_trans (M.low o ho) (e ▸ M.le x xr)
    · rw [if_neg c]
      exact M.le z hz
  · show least ≤ (if m = x then least else lab m)
    by_cases c : m = x
    · rw [if_pos c]
      exact Int.le_refl _
    · rw [if_neg c]
      exact M.low m hm'
  · show (if m = x then least else lab m) ≤ least
    by_cases c : m = x
    · rw [if_pos c]
      exact Int.le_refl _
    · rw [if_neg c]
      rw [List.take_add_one, hx] at ht
      rcases List.mem_append.mp ht with ht | ht
      · exact M.dn m hm' ht
      · exact absurd (by simpa using ht) c
theorem Mid.miss {ms : List Str} {lab0 lab : Str → Int} {least : Int} {i : Nat} (M : Mid gs bar rs ms lab0 least i lab) {x : Str} (hx : rs[i]? = some x) (no : x ∉ ms) : Mid gs bar rs ms lab0 least (i + 1) lab :=
  ⟨M.lb, M.le, M.low, fun m hm ht => by
    rw [List.take_add_one, hx] at ht
    rcases List.mem_append.mp ht with ht | ht
    · exact M.dn m hm ht
    · have : m = x := by simpa using ht
      exact absurd (this ▸ hm) no⟩
/-- within one turn -/
structure Pass (gs : List Gt) (bar rs : List Str) (labT : Str → Int) (j : Nat) (lab : Str → Int) : Prop where
  lb : Lab gs bar rs lab
  le : ∀ x ∈ rs, lab x ≤ labT x
  ad : ∀ g ∈ gs.take j, g.1 ∉ bar → ∀ u ∈ g.2.1, ∀ v ∈ g.2.1, lab v ≤ labT u
theorem pass_first {labT : Str → Int} (L : Lab gs bar rs labT) : Pass gs bar rs labT 0 labT := ⟨L, fun _ _ => Int.le_refl _, fun g hg => nomatch hg⟩
theorem Pass.skip {labT lab : Str → Int} {j : Nat} {g : Gt} (P : Pass gs bar rs labT j lab) (hg : gs[j]? = some g) (hb : g.1 ∈ bar) : Pass gs bar rs labT (j + 1) lab :=
  ⟨P.lb, P.le, fun g' h' nb => by
    rw [List.take_add_one, hg] at h'
    rcases List.mem_append.mp h' with h' | h'
    · exact P.ad g' h' nb
    · have : g' = g := by simpa using h'
      exact absurd (this ▸ hb) nb⟩
theorem Pass.take {labT lab lab2 : Str → Int} {least : Int} {j : Nat} {g : Gt} (P : Pass gs bar rs labT j lab) (hm : ∀ g ∈ gs, ∀ z ∈ g.2.1, z ∈ rs) (hg : gs[j]? = some g) (hl : ∀ m ∈ g.2.1, least ≤ lab m) (M : Mid gs bar rs g.2.1 lab least rs.length lab2) : Pass gs bar rs labT (j + 1) lab2 :=
  ⟨M.lb, fun x hx => Int.le_trans (M.le x hx) (P.le x hx), fun g' h' nb u hu v hv => by
    rw [List.take_add_one, hg] at h'
    rcases List.mem_append.mp h' with h' | h'
    · exact Int.le_trans (M.le v (hm g' (List.mem_of_mem_take h') v hv)) (P.ad g' h' nb u hu v hv)
    · have : g' = g := by simpa using h'
      subst this
      have gm : g' ∈ gs := List.mem_of_getElem? hg
      have := M.dn v hv (by rw [List.take_length]; exact hm g' gm v hv)
      exact Int.le_trans this (Int.le_trans (hl u hu) (P.le u (hm g' gm u hu)))⟩
theorem Pass.low {labT lab : Str → Int} {t : Nat} (P : Pass gs bar rs labT gs.length lab) (hm : ∀ g ∈ gs, ∀ z ∈ g.2.1, z ∈ rs) (L : LowL gs bar rs t labT) : LowL gs bar rs (t + 1) lab := fun x hx i y hy h => by
  obtain ⟨u, hu, e | a⟩ := h
  · subst e
    exact Int.le_trans (P.le u hx) (L u hx i y hy hu)
  · obtain ⟨g, hg, nb, h1, h2⟩ := a
    exact Int.le_trans (P.ad g (by rw [List.take_length]; exact hg) nb u h1 x h2) (L u (hm g hg u h1) i y hy hu)
theorem lab_iff {lab : Str → Int} (hm : ∀ g ∈ gs, ∀ z ∈ g.2.1, z ∈ rs) (L : Lab gs bar rs lab) (W : LowL gs bar rs rs.length lab) {x y : Str} (hx : x ∈ rs) (hy : y ∈ rs) : lab x = lab y ↔ Conn gs bar x y := by
  refine ⟨L.conn hx hy, fun c => ?_⟩
  obtain ⟨i, u, h1, h2, h3⟩ := L x hx
  obtain ⟨j, v, k1, k2, k3⟩ := L y hy
  have a := W x hx j v k1 (connN_all hm (List.mem_of_getElem? k1) (k3.symm.trans c.symm))
  have b := W y hy i u h1 (connN_all hm (List.mem_of_getElem? h1) (h3.symm.trans c))
  omega
end
end WT

set_option Elab.async false
set_option linter.all false
namespace WT
open PySem PySem.Spec PyProof.Rows L2
/-! ### paths: connected regions have one in which no region and no gateway comes twice -/
def Step (gs : List Gt) (bar : List Str) (x n z : Str) : Prop := ∃ g ∈ gs, g.1 = n ∧ n ∉ bar ∧ x ∈ g.2.1 ∧ z ∈ g.2.1
inductive SPath (gs : List Gt) (bar : List Str) : Str → List (Str × Str) → Str → Prop
  | nil (x : Str) : SPath gs bar x [] x
  | cons {x n z y : Str} {l : List (Str × Str)} : Step gs bar x n z → SPath gs bar z l y → SPath gs bar x ((n, z) :: l) y
section
variable {gs : List Gt} {bar : List Str}
theorem SPath.app {x z y : Str} {l m : List (Str × Str)} (h : SPath gs bar x l z) (k : SPath gs bar z m y) : SPath gs bar x (l ++ m) y := by
  induction h with
  | nil => exact k
  | cons s _ ih => exact .cons s (ih k)
theorem SPath.split {y : Str} {m : List (Str × Str)} : ∀ {l : List (Str × Str)} {x : Str}, SPath gs bar x (l ++ m) y → ∃ z, SPath gs bar x l z ∧ SPath gs bar z m y
  | [], x, h => ⟨x, .nil x, h⟩
  | (n, z) :: l, x, h => by
    cases h with
    | cons s t =>
      obtain ⟨u, h1, h2⟩ := SPath.split t
      exact ⟨u, .cons s h1, h2⟩
theorem SPath.end_ {x y : Str} {l : List (Str × Str)} (h : SPath gs bar x l y) : y = (l.map (·.2)).getLastD x := by
  induction h with
  | nil => rfl
  | @cons x n z y l s t ih =>
    rw [ih]
    cases l with
    | nil => rfl
    | cons p l => rfl
theorem SPath.conn {x y : Str} {l : List (Str × Str)} (h : SPath gs bar x l y) : Conn gs bar x y := by
  induction h with
  | nil => exact .refl
  | cons s _ ih =>
    obtain ⟨g, hg, rfl, hb, h1, h2⟩ := s
    exact (Conn.refl.step ⟨g, hg, hb, h1, h2⟩).trans ih
theorem Conn.path {x y : Str} (h : Conn gs bar x y) : ∃ l, SPath gs bar x l y := by
  induction h with
  | refl => exact ⟨[], .nil _⟩
  | step _ a ih =>
    obtain ⟨l, hl⟩ := ih
    obtain ⟨g, hg, hb, h1, h2⟩ := a
    exact ⟨l ++ [(g.1, _)], hl.app (.cons ⟨g, hg, rfl, hb, h1, h2⟩ (.nil _))⟩
theorem twice {α : Type} [DecidableEq α] : ∀ {l : List α}, ¬ l.Nodup → ∃ a l1 l2 l3, l = l1 ++ a :: (l2 ++ a :: l3)
  | [], h => absurd List.nodup_nil h
  | a :: l, h => by
    by_cases c : a ∈ l
    · obtain ⟨s, t, rfl⟩ := List.append_of_mem c
      exact ⟨a, [], s, t, rfl⟩
    · obtain ⟨b, l1, l2, l3, rfl⟩ := twice fun z => h (List.nodup_cons.mpr ⟨c, z⟩)
      exact ⟨b, a :: l1, l2, l3, rfl⟩
/-- a list of pairs cut where the mapped list is cut -/
theorem cut_map {α β : Type} {f : α → β} {b : β} : ∀ {l : List α} {l1 r : List β}, l.map f = l1 ++ b :: r → ∃ m1 a m2, l = m1 ++ a :: m2 ∧ m1.map f = l1 ∧ f a = b ∧ m2.map f = r
  | [], l1, r, h => by
    cases l1 <;> simp at h
  | x :: l, [], r, h => by
    simp at h
    exact ⟨[], x, l, rfl, rfl, h.1, h.2⟩
  | x :: l, y :: l1, r, h => by
    simp at h
    obtain ⟨m1, a, m2, rfl, h2, h3, h4⟩ := cut_map h.2
    exact ⟨x :: m1, a, m2, rfl, by rw [List.map_cons, h2, h.1], h3, h4⟩
/-- names are not used twice: a gateway is known by its name -/
theorem by_name (nd : (gs.map (·.1)).Nodup) {g g' : Gt} (h : g ∈ gs) (h' : g' ∈ gs) (e : g.1 = g'.1) : g = g' := by
  induction gs with
  | nil => cases h
  | cons a gs ih =>
    rw [List.map_cons] at nd
    obtain ⟨n1, n2⟩ := List.nodup_cons.mp nd
    rcases List.mem_cons.mp h with h2 | h2
    · rcases List.mem_cons.mp h' with h3 | h3
      · rw [h2, h3]
      · exact absurd (List.mem_map.mpr ⟨g', h3, by rw [← e, h2]⟩) n1
    · rcases List.mem_cons.mp h' with h3 | h3
      · exact absurd (List.mem_map.mpr ⟨g, h2, by rw [e, h3]⟩) n1
      · exact ih n2 h2 h3
theorem simple_of (nd : (gs.map (·.1)).Nodup) {x y : Str} : ∀ (k : Nat) (l : List (Str × Str)), l.length = k → SPath gs bar x l y → ∃ m, SPath gs bar x m y ∧ (x :: m.map (·.2)).Nodup ∧ (m.map (·.1)).Nodup := by
  intro k
  induction k using Nat.strongRecOn with
  | ind k ih =>
    intro l hl hp
    by_cases h1 : (x :: l.map (·.2)).Nodup
    · by_cases h2 : (l.map (·.1)).Nodup
      · exact ⟨l, hp, h1, h2⟩
      · obtain ⟨n, l1, l2, l3, e⟩ := twice h2
        obtain ⟨m1, p, r, rfl, e1, e2, e3⟩ := cut_map e
        obtain ⟨m2, p', m3, rfl, e4, e5, e6⟩ := cut_map e3
        obtain ⟨u, hu, hr⟩ := hp.split
        obtain ⟨n1, z1⟩ := p
        obtain ⟨n2, z2⟩ := p'
        cases hr with
        | cons s1 t1 =>
          obtain ⟨v, hv, hr2⟩ := t1.split
          cases hr2 with
          | cons s2 t2 =>
            obtain ⟨g1, hg1, a1, b1, c1, d1⟩ := s1
            obtain ⟨g2, hg2, a2, b2, c2, d2⟩ := s2
            have en : n1 = n2 := by
              have e2 : n1 = n := e2
              have e5 : n2 = n := e5
              rw [e2, e5]
            have eg : g1 = g2 := by_name nd hg1 hg2 (by rw [a1, a2, en])
            subst eg
            refine ih _ ?_ (m1 ++ (n1, z2) :: m3) rfl (hu.app (.cons ⟨g1, hg1, a1, b1, c1, d2⟩ t2))
            simp at hl ⊢
            omega
    · obtain ⟨z, l1, l2, l3, e⟩ := twice h1
      cases l1 with
      | nil =>
        rw [List.nil_append] at e
        obtain ⟨ex, er⟩ := List.cons.inj e
        subst ex
        obtain ⟨m1, p, m2, rfl, e1, e2, e3⟩ := cut_map er
        obtain ⟨n1, z1⟩ := p
        have e2 : z1 = x := e2
        subst e2
        obtain ⟨u, hu, hr⟩ := hp.split
        cases hr with
        | cons s1 t1 =>
          refine ih _ ?_ m2 rfl t1
          simp at hl
          omega
      | cons a l1 =>
        obtain ⟨_, er⟩ := List.cons.inj e
        obtain ⟨m1, p, r, rfl, e1, e2, e3⟩ := cut_map er
        obtain ⟨m2, p', m3, rfl, e4, e5, e6⟩ := cut_map e3
        obtain ⟨n1, z1⟩ := p
        obtain ⟨n2, z2⟩ := p'
        have e2 : z1 = z := e2
        have e5 : z2 = z := e5
        obtain ⟨u, hu, hr⟩ := hp.split
        cases hr with
        | cons s1 t1 =>
          obtain ⟨v, hv, hr2⟩ := t1.split
          cases hr2 with
          | cons s2 t2 =>
            refine ih _ ?_ (m1 ++ (n1, z1) :: m3) rfl (hu.app (.cons s1 (by rw [e2, ← e5]; exact t2)))
            simp at hl ⊢
            omega
/-- connected regions have a path in which nothing comes twice -/
theorem Conn.simple (nd : (gs.map (·.1)).Nodup) {x y : Str} (h : Conn gs bar x y) : ∃ m, SPath gs bar x m y ∧ (x :: m.map (·.2)).Nodup ∧ (m.map (·.1)).Nodup := by
  obtain ⟨l, hl⟩ := h.path
  exact simple_of nd l.length l rfl hl
end
end WT

set_option Elab.async false
set_option linter.all false
namespace WT
open PySem PySem.Spec PyProof.Rows L2
/-! ### the search through all paths: its steps, its measure, that it misses none -/
def lastOf (one : Str) (l : List (Str × Str)) : Str := (l.map (·.2)).getLastD one
def kidsOf (bar : List Str) (one : Str) (l : List (Str × Str)) (g : Gt) : List (List (Str × Str)) :=
  if lastOf one l ∈ g.2.1 ∧ g.1 ∉ l.map (·.1) ∧ g.1 ∉ bar then (g.2.1.filter fun z => decide (z ∉ one :: l.map (·.2))).map fun z => l ++ [(g.1, z)] else []
def kids (gs : List Gt) (bar : List Str) (one : Str) (l : List (Str × Str)) : List (List (Str × Str)) := gs.flatMap (kidsOf bar one l)
/-- a path in which nothing comes twice -/
structure GoodP (gs : List Gt) (bar rs : List Str) (one : Str) (l : List (Str × Str)) : Prop where
  path : ∃ z, SPath gs bar one l z
  reg : (one :: l.map (·.2)).Nodup
  gat : (l.map (·.1)).Nodup
  sub : ∀ z ∈ l.map (·.2), z ∈ rs
section
variable {gs : List Gt} {bar rs : List Str} {one : Str}
theorem GoodP.last {l : List (Str × Str)} (h : GoodP gs bar rs one l) : SPath gs bar one l (lastOf one l) := by
  obtain ⟨z, hz⟩ := h.path
  rw [hz.end_] at hz
  exact hz
theorem GoodP.len {l : List (Str × Str)} (h : GoodP gs bar rs one l) (ho : one ∈ rs) : l.length + 1 ≤ rs.length := by
  have := nodup_le (rs := rs) h.reg fun z hz => by
    rcases List.mem_cons.mp hz with e | hz
    · rw [e]
      exact ho
    · exact h.sub z hz
  rw [List.length_cons, List.length_map] at this
  exact this
theorem lastOf_snoc (l : List (Str × Str)) (n z : Str) : lastOf one (l ++ [(n, z)]) = z := by
  unfold lastOf
  rw [List.map_append]
  simp
theorem kids_good {l k : List (Str × Str)} (hm : ∀ g ∈ gs, ∀ z ∈ g.2.1, z ∈ rs) (h : GoodP gs bar rs one l) (hk : k ∈ kids gs bar one l) : GoodP gs bar rs one k ∧ k.length = l.length + 1 := by
  obtain ⟨g, hg, hk⟩ := List.mem_flatMap.mp hk
  unfold kidsOf at hk
  by_cases c : lastOf one l ∈ g.2.1 ∧ g.1 ∉ l.map (·.1) ∧ g.1 ∉ bar
  · rw [if_pos c] at hk
    obtain ⟨z, hz, rfl⟩ := List.mem_map.mp hk
    obtain ⟨z1, z2⟩ := List.mem_filter.mp hz
    have z2 : z ∉ one :: l.map (·.2) := of_decide_eq_true z2
    refine ⟨⟨⟨z, h.last.app (.cons ⟨g, hg, rfl, c.2.2, c.1, z1⟩ (.nil z))⟩, ?_, ?_, ?_⟩, by simp⟩
    · rw [List.map_append, ← List.cons_append]
      refine List.nodup_append.mpr ⟨h.reg, by simp, fun a ha b hb e => ?_⟩
      have hb : b = z := by simpa using hb
      exact z2 (hb ▸ e ▸ ha)
    · rw [List.map_append]
      refine List.nodup_append.mpr ⟨h.gat, by simp, fun a ha b hb e => ?_⟩
      have hb : b = g.1 := by simpa using hb
      exact c.2.1 (hb ▸ e ▸ ha)
    · intro y hy
      rw [List.map_append] at hy
      rcases List.mem_append.mp hy with hy | hy
      · exact h.sub y hy
      · have : y = z := by simpa using hy
        rw [this]
        exact hm g hg z z1
  · rw [if_neg c] at hk
    cases hk
/-- a path that goes on has its next step among the kids -/
theorem kids_has {l r : List (Str × Str)} {n z : Str} (h : GoodP gs bar rs one (l ++ (n, z) :: r)) : l ++ [(n, z)] ∈ kids gs bar one l := by
  obtain ⟨y, hy⟩ := h.path
  obtain ⟨u, h1, h2⟩ := hy.split
  cases h2 with
  | cons s t =>
    obtain ⟨g, hg, rfl, hb, c1, c2⟩ := s
    refine List.mem_flatMap.mpr ⟨g, hg, ?_⟩
    have eu : lastOf one l = u := by
      unfold lastOf
      exact h1.end_.symm
    have r1 := h.reg
    have r2 := h.gat
    rw [List.map_append, ← List.cons_append] at r1
    rw [List.map_append] at r2
    unfold kidsOf
    rw [if_pos ⟨by rw [eu]; exact c1, fun q => (List.nodup_append.mp r2).2.2 _ q g.1 (by simp) rfl, hb⟩]
    exact List.mem_map.mpr ⟨z, List.mem_filter.mpr ⟨c2, decide_eq_true fun q => (List.nodup_append.mp r1).2.2 _ q z (by simp) rfl⟩, rfl⟩
theorem kids_len (hl : ∀ g ∈ gs, g.2.1.length ≤ 100) (l : List (Str × Str)) : (kids gs bar one l).length ≤ gs.length * 100 := by
  unfold kids
  induction gs with
  | nil => exact Nat.zero_le _
  | cons g gs ih =>
    have a := ih fun y hy => hl y (List.mem_cons_of_mem _ hy)
    have b : (kidsOf bar one l g).length ≤ 100 := by
      unfold kidsOf
      by_cases c : lastOf one l ∈ g.2.1 ∧ g.1 ∉ l.map (·.1) ∧ g.1 ∉ bar
      · rw [if_pos c, List.length_map]
        exact Nat.le_trans (List.length_filter_le _ _) (hl g List.mem_cons_self)
      · rw [if_neg c]
        exact Nat.zero_le _
    rw [List.flatMap_cons, List.length_append, List.length_cons, Nat.add_mul]
    omega
/-- the weight of what waits -/
def weigh (M R : Nat) (ls : List (List (Str × Str))) : Nat := (ls.map fun l => (M + 1) ^ (R - l.length)).sum
theorem weigh_app (M R : Nat) (a b : List (List (Str × Str))) : weigh M R (a ++ b) = weigh M R a + weigh M R b := by
  unfold weigh
  rw [List.map_append, List.sum_append]
theorem weigh_same (M R k : Nat) : ∀ ls : List (List (Str × Str)), (∀ l ∈ ls, l.length = k) → weigh M R ls = ls.length * (M + 1) ^ (R - k)
  | [], _ => by simp [weigh]
  | l :: ls, h => by
    have ih := weigh_same M R k ls fun x hx => h x (List.mem_cons_of_mem _ hx)
    unfold weigh at ih ⊢
    rw [List.map_cons, List.sum_cons, ih, h l List.mem_cons_self, List.length_cons, Nat.add_mul]
    omega
/-- the kids weigh less -/
theorem weigh_kids {l : List (Str × Str)} {M : Nat} (hm : ∀ g ∈ gs, ∀ z ∈ g.2.1, z ∈ rs) (ho : one ∈ rs) (h : GoodP gs bar rs one l) (hM : (kids gs bar one l).length ≤ M) : weigh M rs.length (kids gs bar one l) < weigh M rs.length [l] := by
  rw [weigh_same M rs.length (l.length + 1) _ fun k hk => (kids_good hm h hk).2]
  have hl := h.len ho
  have e : weigh M rs.length [l] = (M + 1) ^ (rs.length - l.length) := by simp [weigh]
  rw [e, show rs.length - l.length = (rs.length - (l.length + 1)) + 1 by omega, Nat.pow_succ]
  have p : 0 < (M + 1) ^ (rs.length - (l.length + 1)) := Nat.pow_pos (Nat.succ_pos M)
  calc (kids gs bar one l).length * (M + 1) ^ (rs.length - (l.length + 1)) ≤ M * (M + 1) ^ (rs.length - (l.length + 1)) := Nat.mul_le_mul_right _ hM
    _ < (M + 1) * (M + 1) ^ (rs.length - (l.length + 1)) := Nat.mul_lt_mul_of_pos_right (Nat.lt_succ_self M) p
    _ = (M + 1) ^ (rs.length - (l.length + 1)) * (M + 1) := Nat.mul_comm _ _
end
end WT

set_option Elab.async false
set_option linter.all false
set_option maxRecDepth 100000
set_option maxHeartbeats 4000000
/-! t[lo:hi:st] of a tuple, st neither 0 nor 1. -/
namespace WT
open PySem PySem.Spec PyProof.Rows L2 HT
/-- the items that a stepped slice picks -/
def stepL {α : Type} (xs : List α) (lo hi : Option Int) (st : Int) : List α :=
  (List.range (Builtin.Slice.slicePlaces (Builtin.Slice.sliceAdjust lo hi st (xs.length : Int)).1 (Builtin.Slice.sliceAdjust lo hi st (xs.length : Int)).2 st)).filterMap fun (m : Nat) => xs[((Builtin.Slice.sliceAdjust lo hi st (xs.length : Int)).1 + (m : Int) * st).toNat]?
theorem vals_pick {xs : List V} {us : List Value} (r : Vals xs us) (f : Nat → Nat) : ∀ is : List Nat, Vals (is.filterMap fun m => xs[f m]?) (is.filterMap fun m => us[f m]?)
  | [] => .nil
  | i :: is => by
    have ih := vals_pick r f is
    cases e : xs[f i]? with
    | none =>
      have e2 : us[f i]? = none := by
        rw [List.getElem?_eq_none_iff] at e ⊢
        have := Vals.length r
        omega
      simp only [List.filterMap_cons, e, e2]
      exact ih
    | some x =>
      obtain ⟨u, hu, ru⟩ := r.get e
      simp only [List.filterMap_cons, e, hu]
      exact .cons ru ih
theorem vals_step {xs : List V} {us : List Value} (r : Vals xs us) (lo hi : Option Int) (st : Int) : Vals (stepL xs lo hi st) (stepL us lo hi st) := by
  unfold stepL
  rw [← Vals.length r]
  exact vals_pick r _ _
section
variable {prog : Program} {w : World} {A : Around} {E : Value → Shared → Prop} {s : Shared}
theorem applied_step {sl : Addr} {vl vu : Value} {lo hi : Option Int} {st : Int} {tk : Tok} {n : Nat} {Q : Int × Int × Nat → Shared → Prop} (hs : s.heap.IsSliceOf sl vl vu (.int st tk)) (pl : IsPart vl lo) (pu : IsPart vu hi) (h0 : st ≠ 0)
    (h : Q ((Builtin.Slice.sliceAdjust lo hi st (n : Int)).1, st, Builtin.Slice.slicePlaces (Builtin.Slice.sliceAdjust lo hi st (n : Int)).1 (Builtin.Slice.sliceAdjust lo hi st (n : Int)).2 st) s) : wpAny (model prog w) A (Builtin.Slice.sliceApplied (.ref sl) (pure (n : Int))) Q E s := by
  obtain ⟨ob, hob, hcl, hdt⟩ := id hs
  unfold Builtin.Slice.sliceApplied Builtin.Slice.sliceFields
  refine wpAny_bind (wpAny_bind (wpAny_field hob hdt (x := vl) rfl (wpAny_bind (wpAny_field hob hdt (x := vu) rfl (wpAny_bind (wpAny_field hob hdt (x := .int st tk) rfl (wpAny_pure ?_)))))))
  refine wpAny_bind (slicePart_int ?_)
  show wpAny _ _ (if (st == 0) = true then _ else _) _ _ s
  rw [if_neg (by simpa using h0)]
  refine wpAny_bind (slicePart_ pl (wpAny_bind (slicePart_ pu (wpAny_bind (wpAny_pure ?_)))))
  exact wpAny_pure h
theorem getItem_step {t sl : Addr} {us : List Value} {vl vu : Value} {lo hi : Option Int} {st : Int} {tk : Tok} {Q : Value → Shared → Prop} (ht : IsTup s.heap t us.toArray) (hs : s.heap.IsSliceOf sl vl vu (.int st tk)) (pl : IsPart vl lo) (pu : IsPart vu hi) (h0 : st ≠ 0) (h1 : st ≠ 1)
    (h : Q (.ref s.heap.objs.size) { s with heap := s.heap.push { cls := .type "tuple", data := .seq (stepL us lo hi st).toArray } }) (hsz : (stepL us lo hi st).length ≤ sizeLine) : wpAny (model prog w) A (getItem (.ref t) (.ref sl)) Q E s := by
  have hok : sizeOk (.seq (stepL us lo hi st).toArray) := by
    show (stepL us lo hi st).toArray.size ≤ sizeLine
    rw [List.size_toArray]
    exact hsz
  obtain ⟨ob, hob, hcl, hdt⟩ := id hs
  have hT : s.TypeIs (.ref sl) "slice" := ⟨ob, hob, hcl⟩
  unfold getItem
  try with_reducible refine wpAny_holding ?_
  first | refine wpAny_bind (wpAny_pure ?_) | skip
  refine wpAny_bind (wpAny_sequenceKey ht.typeIs (by decide) ?_)
  refine wpAny_bind (wpAny_callSpecial?_slot (name := Str.ofString "__getitem__") ht.typeIs PyProof.Rows.slot_tuple_getitem (wpAny_call_entry PyProof.Rows.slot_tuple_getitem ht.typeIs entry_tuple_getitem ?_ (args_tuple_getitem _ _)))
  show wpAny _ _ (Builtin.Tuple.tupleItemsOf (.ref t) >>= _) _ _ s
  refine wpAny_bind (tupleItemsOf_ ht (wpAny_bind (wpAny_typeOf hT ?_)))
  rw [if_pos (by decide)]
  refine wpAny_bind (applied_step (n := us.toArray.size) hs pl pu h0 ?_)
  have no1 : (st == (1 : Int)) = false := by simpa using h1
  show wpAny _ _ (if (_ && st == 1 && _) = true then _ else _) _ _ s
  rw [no1, Bool.and_false, Bool.false_and, if_neg Bool.false_ne_true]
  have ep : ((List.range (Builtin.Slice.slicePlaces (Builtin.Slice.sliceAdjust lo hi st (us.toArray.size : Int)).1 (Builtin.Slice.sliceAdjust lo hi st (us.toArray.size : Int)).2 st)).filterMap fun (m : Nat) => us.toArray[((Builtin.Slice.sliceAdjust lo hi st (us.toArray.size : Int)).1 + (m : Int) * st).toNat]?).toArray = (stepL us lo hi st).toArray := by
    unfold stepL
    rw [List.size_toArray]
    simp
  rw [ep]
  first
    | exact wpAny_bind (m := Builtin.Tuple.tupleExact _) (wpAny_newObj_type (wpAny_pure ⟨_, rfl, wpAny_pure h⟩) hok)
    | exact wpAny_bind (m := Builtin.Tuple.tupleExact _) (wpAny_newObj_type (wpAny_bind (wpAny_pure (wpAny_pure ⟨_, rfl, wpAny_pure h⟩))) hok)
    | exact wpAny_bind (wpAny_bind (m := Builtin.Tuple.tupleExact _) (wpAny_newObj_type (wpAny_pure (wpAny_pure ⟨_, rfl, wpAny_pure h⟩)) hok))
    | exact wpAny_bind (wpAny_bind (m := Builtin.Tuple.tupleExact _) (wpAny_newObj_type (wpAny_pure ⟨_, rfl, wpAny_pure h⟩) hok))
end
section
variable {X : Cx}
/-- t[lo:hi:st] -/
def tSl3 (K : PySem.W.Frag) (st : Int) (te : TE) (tl th : TO) (tst : TE) : TE := fun σ H Q => te σ H fun x H1 => tl σ H1 fun l H2 => th σ H2 fun u H3 => tst σ H3 fun z H4 => ∃ a xs, z = .int st ∧ x = .ref a ∧ SqT K H4 a xs ∧ (stepL xs l u st).length ≤ sizeLine ∧ ∀ p, H4 p = none → Q (.ref p) (upd H4 p (.tup (stepL xs l u st)))
theorem pe_slice3 {e est : Expr} {lo hi : Option Expr} {te tst : TE} {tl th : TO} {p2 pos : Pos} (st : Int) (h0 : st ≠ 0) (h1 : st ≠ 1) (he : PE X e te) (hl : PO X lo tl) (hu : PO X hi th) (hst : PE X est tst) : PE X (.Subscript e (.Slice lo hi (some est) p2) pos) (tSl3 X.K st te tl th tst) := by
  refine ⟨fun pins s σ H Q I h => Subscript_ (thn (he.run pins s σ H _ I h) fun v s1 ⟨x, H1, I1, r1, q1⟩ => wpAny_Slice (thn (hl.run pins s1 σ H1 _ I1 q1) fun vl s2 ⟨l, H2, I2, pl, q2⟩ => thn (hu.run pins s2 σ H2 _ I2 q2) fun vu s3 ⟨u, H3, I3, pu, q3⟩ => ?_))⟩
  rw [evalPart_some]
  refine thn (hst.run pins s3 σ H3 _ I3 q3) fun vz s4 ⟨z, H4, I4, r4, q4⟩ => ?_
  obtain ⟨a, xs, rfl, rfl, hx, hz, q⟩ := q4
  obtain ⟨tk, rfl⟩ := r4
  cases r1
  have I5 : Inv X pins σ H4 { s4 with heap := s4.heap.push { cls := .type "slice", data := .fields #[vl, vu, .int st tk] } } := I4.kept (t' := s4.toks) fun b ob z => Heap.get?_push_of_some _ z
  obtain ⟨us, ru, ht, _⟩ := I5.tuple hx
  have rs := vals_step ru l u st
  show wpAny (model X.prog X.w) X.A (subscriptTail e (.Slice lo hi (some est) p2) (.ref a) (.ref s4.heap.objs.size)) (EP X pins σ Q) X.xe { s4 with heap := s4.heap.push { cls := .type "slice", data := .fields #[vl, vu, .int st tk] } }
  refine tail_any (ops := [.ref a, .ref s4.heap.objs.size]) ht.typeIs PyProof.Rows.slot_tuple_getitem.lookup (getItem_step ht (Heap.IsSliceOf.new ..) pl pu h0 h1 ?_ (by rw [← Vals.length rs]; exact hz)) (by with_unfolding_all rfl)
  exact ⟨.ref _, upd H4 _ (.tup (stepL xs l u st)), I5.laid (t' := s4.toks) (fun b o e => Heap.get?_push_of_some _ e) (Nat.le_refl _) ⟨hz, stepL us l u st, rs, ⟨_, Heap.get?_push_size _ rfl, rfl, _, rfl⟩⟩, rfl, q _ (I5.hok.fresh (Nat.le_refl _))⟩
end
end WT

set_option Elab.async false
set_option linter.all false
set_option maxRecDepth 100000
set_option maxHeartbeats 4000000
namespace WT
open PySem PySem.Spec PyProof.Rows L2
/-! ### a path as a tuple; the search through all paths: its state -/
def pathV (one : Str) (l : List (Str × Str)) : List V := V.str one :: l.flatMap fun p => [V.str p.1, V.str p.2]
theorem pathV_len (one : Str) (l : List (Str × Str)) : (pathV one l).length = 2 * l.length + 1 := by
  unfold pathV
  rw [List.length_cons, List.length_flatMap]
  have : ((l.map fun p => [V.str p.1, V.str p.2].length)).sum = 2 * l.length := by
    induction l with
    | nil => rfl
    | cons p l ih =>
      rw [List.map_cons, List.sum_cons, ih]
      simp only [List.length_cons, List.length_nil]
      omega
  rw [this]
theorem pathV_cons (one n z : Str) (l : List (Str × Str)) : pathV one ((n, z) :: l) = V.str one :: V.str n :: pathV z l := by
  unfold pathV
  rw [List.flatMap_cons]
  rfl
theorem pathV_snoc (one n z : Str) (l : List (Str × Str)) : pathV one (l ++ [(n, z)]) = pathV one l ++ [V.str n, V.str z] := by
  unfold pathV
  rw [List.flatMap_append]
  rfl
theorem pathV_even : ∀ (l : List (Str × Str)) (one : Str) (i : Nat), (pathV one l)[2 * i]? = ((one :: l.map (·.2)).map V.str)[i]?
  | [], one, 0 => rfl
  | [], one, i + 1 => by
    unfold pathV
    rw [show 2 * (i + 1) = (2 * i + 1) + 1 by omega]
    rfl
  | (n, z) :: l, one, 0 => rfl
  | (n, z) :: l, one, i + 1 => by
    rw [pathV_cons, show 2 * (i + 1) = 2 * i + 1 + 1 by omega, List.getElem?_cons_succ, List.getElem?_cons_succ, pathV_even l z i]
    rfl
theorem pathV_odd : ∀ (l : List (Str × Str)) (one : Str) (i : Nat), (pathV one l)[2 * i + 1]? = ((l.map (·.1)).map V.str)[i]?
  | [], one, i => by
    unfold pathV
    rfl
  | (n, z) :: l, one, 0 => rfl
  | (n, z) :: l, one, i + 1 => by
    rw [pathV_cons, show 2 * (i + 1) + 1 = 2 * i + 1 + 1 + 1 by omega, List.getElem?_cons_succ, List.getElem?_cons_succ, pathV_odd l z i]
    rfl
theorem pathV_last (one : Str) (l : List (Str × Str)) : atI (pathV one l) (-1) = some (V.str (lastOf one l)) := by
  rcases List.eq_nil_or_concat l with rfl | ⟨m, p, rfl⟩
  · exact atI_last [] _
  · obtain ⟨n, z⟩ := p
    rw [List.concat_eq_append, pathV_snoc, lastOf_snoc, show ([V.str n, V.str z] : List V) = [V.str n] ++ [V.str z] from rfl, ← List.append_assoc]
    exact atI_last _ _
theorem pick_all {α : Type} (ys : List α) : (List.range ys.length).filterMap (fun m => ys[m]?) = ys := by
  induction ys with
  | nil => rfl
  | cons y ys ih =>
    rw [List.length_cons, List.range_succ_eq_map, List.filterMap_cons]
    simp only [List.getElem?_cons_zero, List.filterMap_map]
    congr 1
theorem step_even (one : Str) (l : List (Str × Str)) : stepL (pathV one l) none none 2 = (one :: l.map (·.2)).map V.str := by
  have h := pick_all ((one :: l.map (·.2)).map V.str)
  have e : Builtin.Slice.slicePlaces (Builtin.Slice.sliceAdjust none none 2 ((pathV one l).length : Int)).1 (Builtin.Slice.sliceAdjust none none 2 ((pathV one l).length : Int)).2 2 = ((one :: l.map (·.2)).map V.str).length := by
    rw [pathV_len]
    unfold Builtin.Slice.slicePlaces Builtin.Slice.sliceAdjust
    simp
    omega
  unfold stepL
  rw [e]
  refine Eq.trans ?_ h
  congr 1
  funext m
  have : (Builtin.Slice.sliceAdjust none none 2 ((pathV one l).length : Int)).1 = 0 := rfl
  rw [this, show ((0 : Int) + (m : Int) * 2).toNat = 2 * m by omega]
  exact pathV_even l one m
theorem step_odd (one : Str) (l : List (Str × Str)) : stepL (pathV one l) (some 1) none 2 = (l.map (·.1)).map V.str := by
  have h := pick_all ((l.map (·.1)).map V.str)
  have e0 : (Builtin.Slice.sliceAdjust (some 1) none 2 ((pathV one l).length : Int)).1 = 1 := by
    rw [pathV_len]
    unfold Builtin.Slice.sliceAdjust
    simp
    omega
  have e : Builtin.Slice.slicePlaces (Builtin.Slice.sliceAdjust (some 1) none 2 ((pathV one l).length : Int)).1 (Builtin.Slice.sliceAdjust (some 1) none 2 ((pathV one l).length : Int)).2 2 = ((l.map (·.1)).map V.str).length := by
    rw [e0, pathV_len]
    unfold Builtin.Slice.slicePlaces Builtin.Slice.sliceAdjust
    simp
    split <;> omega
  unfold stepL
  rw [e]
  refine Eq.trans ?_ h
  congr 1
  funext m
  rw [e0, show ((1 : Int) + (m : Int) * 2).toNat = 2 * m + 1 by omega]
  exact pathV_odd l one m
section
variable {gs : List Gt} {bar rs : List Str} {one other : Str}
theorem weigh_kidsD {l : List (Str × Str)} {M D : Nat} (hm : ∀ g ∈ gs, ∀ z ∈ g.2.1, z ∈ rs) (hD : ∀ k, GoodP gs bar rs one k → k.length ≤ D) (h : GoodP gs bar rs one l) (hM : (kids gs bar one l).length ≤ M) : weigh M D (kids gs bar one l) < weigh M D [l] := by
  have e : weigh M D [l] = (M + 1) ^ (D - l.length) := by simp [weigh]
  rw [weigh_same M D (l.length + 1) _ fun k hk => (kids_good hm h hk).2, e]
  have p : ∀ n, 0 < (M + 1) ^ n := fun n => Nat.pow_pos (Nat.succ_pos M)
  cases hk : kids gs bar one l with
  | nil => simp only [List.length_nil, Nat.zero_mul]; exact p _
  | cons k ks =>
    have hk1 : k ∈ kids gs bar one l := by rw [hk]; exact List.mem_cons_self
    have h1 := kids_good hm h hk1
    have h2 := hD k h1.1
    rw [hk] at hM
    rw [show D - l.length = (D - (l.length + 1)) + 1 by omega, Nat.pow_succ]
    calc (k :: ks).length * (M + 1) ^ (D - (l.length + 1)) ≤ M * (M + 1) ^ (D - (l.length + 1)) := Nat.mul_le_mul_right _ hM
      _ < (M + 1) * (M + 1) ^ (D - (l.length + 1)) := Nat.mul_lt_mul_of_pos_right (Nat.lt_succ_self M) (p _)
      _ = (M + 1) ^ (D - (l.length + 1)) * (M + 1) := Nat.mul_comm _ _
theorem weigh_ge (M D : Nat) : ∀ ls : List (List (Str × Str)), ls.length ≤ weigh M D ls
  | [] => Nat.zero_le _
  | l :: ls => by
    have ih := weigh_ge M D ls
    have p : 0 < (M + 1) ^ (D - l.length) := Nat.pow_pos (Nat.succ_pos M)
    unfold weigh at ih ⊢
    rw [List.map_cons, List.sum_cons, List.length_cons]
    omega
/-- the search's state: what waits, what was found -/
structure Srch (gs : List Gt) (bar rs : List Str) (one other : Str) (M D : Nat) (ls fs : List (List (Str × Str))) : Prop where
  wait : ∀ l ∈ ls, GoodP gs bar rs one l
  good : ∀ l ∈ fs, GoodP gs bar rs one l ∧ lastOf one l = other
  all : ∀ m, GoodP gs bar rs one m → lastOf one m = other → m ∈ fs ∨ ∃ l ∈ ls, ∃ r, m = l ++ r
  wt : fs.length + weigh M D ls ≤ (M + 1) ^ D
theorem GoodP.nil : GoodP gs bar rs one [] := ⟨⟨one, .nil one⟩, by simp, by simp, fun z hz => (nomatch hz)⟩
theorem Srch.first (M D : Nat) : Srch gs bar rs one other M D [[]] [] :=
  ⟨fun l hl => by rw [List.mem_singleton.mp hl]; exact .nil, fun l hl => (nomatch hl), fun m _ _ => .inr ⟨[], by simp, m, rfl⟩, by simp [weigh]⟩
theorem Srch.take {M D : Nat} {ls fs : List (List (Str × Str))} {l : List (Str × Str)} (h : Srch gs bar rs one other M D (ls ++ [l]) fs) (e : lastOf one l = other) : Srch gs bar rs one other M D ls (fs ++ [l]) := by
  have hl := h.wait l (by simp)
  refine ⟨fun k hk => h.wait k (by simp [hk]), fun k hk => ?_, fun m hm em => ?_, ?_⟩
  · rcases List.mem_append.mp hk with hk | hk
    · exact h.good k hk
    · rw [List.mem_singleton.mp hk]
      exact ⟨hl, e⟩
  · rcases h.all m hm em with q | ⟨k, hk, r, rfl⟩
    · exact .inl (List.mem_append_left _ q)
    · rcases List.mem_append.mp hk with hk | hk
      · exact .inr ⟨k, hk, r, rfl⟩
      · rw [List.mem_singleton.mp hk] at hm em ⊢
        rcases List.eq_nil_or_concat r with rfl | ⟨s, p, rfl⟩
        · exact .inl (by simp)
        · exfalso
          have r1 := hm.reg
          obtain ⟨n, z⟩ := p
          rw [List.concat_eq_append, ← List.append_assoc, lastOf_snoc] at em
          rw [List.concat_eq_append, ← List.append_assoc, List.map_append, ← List.cons_append] at r1
          have r2 := (List.nodup_append.mp r1).2.2
          have mem : lastOf one l ∈ one :: (l ++ s).map (·.2) := by
            unfold lastOf
            cases hl2 : l.map (·.2) with
            | nil => simp
            | cons a b =>
              rw [List.map_append, hl2]
              have : (a :: b).getLastD one ∈ a :: b := by
                rw [List.getLastD_cons]
                cases b with
                | nil => simp
                | cons c d =>
                  have : (c :: d).getLastD a ∈ c :: d := by
                    rw [List.getLastD_eq_getLast?, List.getLast?_eq_some_getLast (by simp)]
                    exact List.getLast_mem _
                  exact List.mem_cons_of_mem _ this
              exact List.mem_cons_of_mem _ (List.mem_append_left _ this)
          exact r2 _ mem z (by simp) (e.trans em.symm)
  · have w := h.wt
    rw [weigh_app] at w
    have g := weigh_ge M D [l]
    rw [List.length_append]
    simp only [List.length_cons, List.length_nil] at g ⊢
    omega
theorem Srch.grow {M D : Nat} {ls fs : List (List (Str × Str))} {l : List (Str × Str)} (hm : ∀ g ∈ gs, ∀ z ∈ g.2.1, z ∈ rs) (hD : ∀ k, GoodP gs bar rs one k → k.length ≤ D) (hM : (kids gs bar one l).length ≤ M) (h : Srch gs bar rs one other M D (ls ++ [l]) fs) (e : lastOf one l ≠ other) :
    Srch gs bar rs one other M D (ls ++ kids gs bar one l) fs ∧ weigh M D (ls ++ kids gs bar one l) < weigh M D (ls ++ [l]) := by
  have hl := h.wait l (by simp)
  have lt : weigh M D (ls ++ kids gs bar one l) < weigh M D (ls ++ [l]) := by
    rw [weigh_app, weigh_app]
    have := weigh_kidsD hm hD hl hM
    omega
  refine ⟨⟨fun k hk => ?_, h.good, fun m hg em => ?_, ?_⟩, lt⟩
  · rcases List.mem_append.mp hk with hk | hk
    · exact h.wait k (by simp [hk])
    · exact (kids_good hm hl hk).1
  · rcases h.all m hg em with q | ⟨k, hk, r, rfl⟩
    · exact .inl q
    · rcases List.mem_append.mp hk with hk | hk
      · exact .inr ⟨k, List.mem_append_left _ hk, r, rfl⟩
      · rw [List.mem_singleton.mp hk] at hg em ⊢
        cases r with
        | nil =>
          rw [List.append_nil] at em
          exact absurd em e
        | cons p r =>
          obtain ⟨n, z⟩ := p
          exact .inr ⟨l ++ [(n, z)], List.mem_append_right _ (kids_has hg), r, by simp⟩
  · have := h.wt
    omega
/-- what the search found in the end -/
structure AllP (gs : List Gt) (bar rs : List Str) (one other : Str) (fs : List (List (Str × Str))) : Prop where
  good : ∀ l ∈ fs, GoodP gs bar rs one l ∧ lastOf one l = other
  all : ∀ m, GoodP gs bar rs one m → lastOf one m = other → m ∈ fs
theorem Srch.done {M D : Nat} {fs : List (List (Str × Str))} (h : Srch gs bar rs one other M D [] fs) : AllP gs bar rs one other fs ∧ fs.length ≤ (M + 1) ^ D := by
  refine ⟨⟨h.good, fun m hm em => ?_⟩, ?_⟩
  · rcases h.all m hm em with q | ⟨k, hk, _⟩
    · exact q
    · cases hk
  · have := h.wt
    omega
theorem SPath.sub {x y : Str} {l : List (Str × Str)} (hm : ∀ g ∈ gs, ∀ z ∈ g.2.1, z ∈ rs) (h : SPath gs bar x l y) : ∀ z ∈ l.map (·.2), z ∈ rs := by
  induction h with
  | nil => intro z hz; cases hz
  | cons s _ ih =>
    obtain ⟨g, hg, _, _, _, h2⟩ := s
    intro z hz
    rw [List.map_cons] at hz
    rcases List.mem_cons.mp hz with e | hz
    · rw [e]
      exact hm g hg _ h2
    · exact ih z hz
theorem AllP.iff {fs : List (List (Str × Str))} (nd : (gs.map (·.1)).Nodup) (hm : ∀ g ∈ gs, ∀ z ∈ g.2.1, z ∈ rs) (h : AllP gs bar rs one other fs) : fs ≠ [] ↔ Conn gs bar one other := by
  constructor
  · intro q
    obtain ⟨l, hl⟩ := List.exists_mem_of_ne_nil _ q
    obtain ⟨g, e⟩ := h.good l hl
    rw [← e]
    exact g.last.conn
  · intro c q
    obtain ⟨m, h1, h2, h3⟩ := c.simple nd
    have := h.all m ⟨⟨_, h1⟩, h2, h3, h1.sub hm⟩ (by
      unfold lastOf
      exact h1.end_.symm)
    rw [q] at this
    cases this
end
/-- lists of tuples of texts as data -/
theorem lay_tups : ∀ tss : List (List Str), (∀ ts ∈ tss, ∀ s ∈ ts, PyData.strOk s = true) → PyData.canLayAll0 (tss.map fun ts => PyData.tuple (ts.map PyData.str)) = true ∧ PyData.depthAll (tss.map fun ts => PyData.tuple (ts.map PyData.str)) ≤ 1
  | [], _ => ⟨by rw [List.map_nil, PyData.canLayAll0], by rw [List.map_nil, PyData.depthAll]; exact Nat.zero_le _⟩
  | ts :: tss, h => by
    obtain ⟨h1, h2⟩ := lay_tups tss fun x hx => h x (List.mem_cons_of_mem _ hx)
    obtain ⟨g1, g2⟩ := lay_strs ts (h ts List.mem_cons_self)
    rw [List.map_cons, PyData.canLayAll0, PyData.depthAll, h1, PyData.canLay0, PyData.depth, g1, g2]
    exact ⟨rfl, Nat.max_le.mpr ⟨by decide, h2⟩⟩
theorem shaped_tups (tss : List (List Str)) (h : ∀ ts ∈ tss, ∀ s ∈ ts, PyData.strOk s = true) : SeqAt.shaped (.list (tss.map fun ts => PyData.tuple (ts.map PyData.str))) = true := by
  obtain ⟨h1, h2⟩ := lay_tups tss h
  unfold SeqAt.shaped
  rw [PyData.canLay0, PyData.depth, h1]
  simp
  omega
theorem eqv_nilD : ∀ ds : List PyData, PyData.eqv (.list ds) (.list []) = ds.isEmpty
  | [] => by decide +kernel
  | s :: ss => by
    rw [PyData.eqv, PyData.eqvAll]
    rfl
/-- the texts of a path -/
def pathS (one : Str) (l : List (Str × Str)) : List Str := one :: l.flatMap fun p => [p.1, p.2]
theorem pathS_V (one : Str) (l : List (Str × Str)) : (pathS one l).map V.str = pathV one l := by
  unfold pathS pathV
  rw [List.map_cons, List.map_flatMap]
  rfl
theorem dp_paths {K : PySem.W.Frag} {H : Hp} {one : Str} : ∀ {ws : List Addr} {ls : List (List (Str × Str))}, Paired (fun a l => H a = some (.tup (pathV one l))) ws ls → DpAll K H (ws.map V.ref) (ls.map fun l => PyData.tuple ((pathS one l).map PyData.str))
  | _, _, .nil => .nil
  | _, _, .cons h t => .cons (.tup (SqT.of h) (by rw [← pathS_V]; exact dp_strs _)) (dp_paths t)
section
variable {X : Cx} {K : PySem.W.Frag}
theorem op_catTK (hK : X.K = K := by rfl) : OpR X (binaryOp .Add) (rCatT K) := by
  subst hK
  exact op_catT
theorem op_notInK (hK : X.K = K := by rfl) : OpR X (compareOp .NotIn) (rIn K true) := by
  subst hK
  exact op_notIn_seq
theorem op_inK (hK : X.K = K := by rfl) : OpR X (compareOp .In) (rIn K false) := by
  subst hK
  exact op_in_seq
theorem op_neDK (hu : X.A.units + 64 < cLine) (hK : X.K = K := by rfl) : OpR X (compareOp .NotEq) (rNeD K) := by
  subst hK
  exact op_neD hu
theorem pe_slice3K {e est : Expr} {lo hi : Option Expr} {te tst : TE} {tl th : TO} {p2 pos : Pos} (st : Int) (h0 : st ≠ 0) (h1 : st ≠ 1) (he : PE X e te) (hl : PO X lo tl) (hu : PO X hi th) (hst : PE X est tst) (hK : X.K = K := by rfl) : PE X (.Subscript e (.Slice lo hi (some est) p2) pos) (tSl3 K st te tl th tst) := by
  subst hK
  exact pe_slice3 st h0 h1 he hl hu hst
end
end WT

set_option Elab.async false
set_option linter.all false
namespace WT
open PySem
/-- data that repr can show, of at most that depth and length -/
structure Fit (n L : Nat) (d : PyData) : Prop where
  sh : d.showable = true
  de : d.depth ≤ n
  ln : d.shown.length ≤ L
theorem Fit.mono {n L n' L' : Nat} {d : PyData} (f : Fit n L d) (h1 : n ≤ n') (h2 : L ≤ L') : Fit n' L' d := ⟨f.sh, Nat.le_trans f.de h1, Nat.le_trans f.ln h2⟩
theorem fits_all {n L : Nat} : ∀ {ds : List PyData}, (∀ d ∈ ds, Fit n L d) → PyData.showableAll ds = true ∧ PyData.depthAll ds ≤ n ∧ ((PyData.shownAll ds).map (·.length)).sum + 2 * (PyData.shownAll ds).length ≤ ds.length * (L + 2)
  | [], _ => by
    refine ⟨rfl, ?_, ?_⟩
    · rw [PyData.depthAll]
      exact Nat.zero_le _
    · rw [PyData.shownAll]
      simp
  | d :: ds, h => by
    obtain ⟨a, b, c⟩ := fits_all fun x hx => h x (List.mem_cons_of_mem _ hx)
    have f := h d List.mem_cons_self
    refine ⟨?_, ?_, ?_⟩
    · rw [PyData.showableAll, f.sh, a]
      rfl
    · rw [PyData.depthAll]
      exact Nat.max_le.mpr ⟨f.de, b⟩
    · rw [PyData.shownAll]
      have q := f.ln
      simp only [List.map_cons, List.sum_cons, List.length_cons] at c ⊢
      rw [Nat.add_mul]
      omega
theorem fit_list {n L : Nat} {ds : List PyData} (h : ∀ d ∈ ds, Fit n L d) : Fit (n + 1) (ds.length * (L + 2) + 3) (.list ds) := by
  obtain ⟨a, b, c⟩ := fits_all h
  refine ⟨?_, ?_, ?_⟩
  · rw [PyData.showable]
    exact a
  · rw [PyData.depth]
    omega
  · rw [PyData.shown]
    have := listText_len_le (PyData.shownAll ds)
    omega
theorem fit_tuple {n L : Nat} {ds : List PyData} (h : ∀ d ∈ ds, Fit n L d) : Fit (n + 1) (ds.length * (L + 2) + 3) (.tuple ds) := by
  obtain ⟨a, b, c⟩ := fits_all h
  refine ⟨?_, ?_, ?_⟩
  · rw [PyData.showable]
    exact a
  · rw [PyData.depth]
    omega
  · rw [PyData.shown]
    have := tupleText_len_le (PyData.shownAll ds)
    omega
end WT

set_option Elab.async false
set_option linter.all false
set_option maxRecDepth 100000
set_option maxHeartbeats 4000000
/-! Calls with a keyword, and calls that leave a keyword-only parameter out. -/
namespace WT
open PySem PySem.Spec PyProof.Rows L2
section
variable {X : Cx} {cx : CXT} {k n m : Nat} {f : Addr} {fd : FuncData} {ps ks : List Str} {sp : Sp} {E : XK} {x : Str} {p pos : Pos} {e : Expr} {es : List Expr} {kws : List Keyword} {t tk : TA}
theorem run_fnB {pins : List (Addr × Obj)} {σ : L2.St} {H : Hp} {s : Shared} {Q : VK} {us : List Value} {kw : List (Str × Value)} {bs : List Value} {vs : List V} (hgd : X.A.guards = some []) (G : FnG X.prog X.w X.K X.mg X.base cx k f fd ps sp) (hr : Room k X.A)
    (hx : Passes cx X E) (I : Inv X pins σ H s) (hb : BindsTo s fd ⟨us, kw⟩ (ps.zip bs)) (r : Vals vs bs) (h : sp vs H Q E) : wpAny (model X.prog X.w) X.A (call (.ref f) us kw) (EP X pins σ Q) X.xe s := by
  refine wpAny_call (codeAny_mono (G.run X.A X.stack s H ⟨us, kw⟩ bs vs Q E hgd hr I.env0 hb r h) fun r s' hq => ?_)
  cases r with
  | error e => exact hx pins σ H s e s' I hq
  | ok fl =>
    cases fl with
    | ret u => exact I.after hq
    | next => exact hq.elim
    | brk => exact hq.elim
    | cont => exact hq.elim
/-- f(e, .., k = v, ..), the keywords behind the others in the parameters' order -/
def tCallKG (n m : Nat) (sp : Sp) (E : XK) (t tk : TA) : TE := fun σ H Q => t σ H fun vs H1 => tk σ H1 fun zs H2 => vs.length = n ∧ zs.length = m ∧ sp (vs ++ zs) H2 Q E
theorem pe_callKG (hgd : X.A.guards = some []) (G : FnG X.prog X.w X.K X.mg X.base cx k f fd ps sp) (hr : Room k X.A) (hg : Gl X x) (hm : X.mg x = some (.ref f)) (hk : PySem.W.keepIn X.K (.ref f) = true)
    (hb : ∀ (s1 : Shared) (us ws : List Value), X.K.In s1.heap → us.length = n → ws.length = m → BindsTo s1 fd ⟨us, ks.zip ws⟩ (ps.zip (us ++ ws))) (hx : Passes cx X E) (ha : PA X (e :: es) t) (hkw : PK X kws tk)
    (hall : (backToKw pos (keywordEach kws X.env)).all (·.1.isSome) = true := by rfl) (hks : (backToKw pos (keywordEach kws X.env)).filterMap (·.1) = ks := by rfl) (hdb : (x == ("__debug__" : Str)) = false := by decide)
    (he : starEach (e :: es) X.env = (false, eval e X.env) :: starEach es X.env := by rfl) (hpl : ((backTo pos (starEach (e :: es) X.env)).any (·.1) || (backToKw pos (keywordEach kws X.env)).any (·.1.isNone)) = false := by rfl) :
    PE X (.Call (.Name x p) (e :: es) kws pos) (tCallKG n m sp E t tk) := by
  refine ⟨fun pins s σ H Q I h => ?_⟩
  refine wpAny_Call_Name_kw (ld_glob I hg hm ?_ hdb)
  refine PySem.W.callWith_KW (h₀ := X.base) I.ok.mod.kin hk hall (thn (ha.run pos pins s σ H _ I h) fun us s1 ⟨vs, H1, I1, r, q⟩ => ?_) hpl he
  refine thn (hkw.run pos pins s1 σ H1 _ I1 q) fun ws s2 ⟨zs, H2, I2, rz, l1, l2, q2⟩ => ⟨I2.kIn, ?_⟩
  rw [hks]
  exact run_fnB hgd G hr hx I2 (hb s2 us ws I2.kIn ((Vals.length r).symm.trans l1) ((Vals.length rz).symm.trans l2)) (r.append rz) q2
/-- f(e, ..) where defaults fill up -/
def tCallDG (sp : Sp) (dvs : List V) (E : XK) (t : TA) : TE := fun σ H Q => t σ H fun vs H1 => sp (vs ++ dvs) H1 Q E
theorem pe_callDG {dvs : List V} {ds : List Value} (hgd : X.A.guards = some []) (G : FnG X.prog X.w X.K X.mg X.base cx k f fd ps sp) (hr : Room k X.A) (hg : Gl X x) (hm : X.mg x = some (.ref f)) (hk : PySem.W.keepIn X.K (.ref f) = true)
    (hb : Binds X.K fd ps ds) (hd : Vals dvs ds) (hx : Passes cx X E) (ha : PA X (e :: es) t) (hdb : (x == ("__debug__" : Str)) = false := by decide)
    (he : starEach (e :: es) X.env = (false, eval e X.env) :: starEach es X.env := by rfl) (hpl : (backTo pos (starEach es X.env)).any (·.1) = false := by rfl) : PE X (.Call (.Name x p) (e :: es) [] pos) (tCallDG sp dvs E t) := by
  refine ⟨fun pins s σ H Q I h => ?_⟩
  refine wpAny_Call_Name_kw (ld_glob I hg hm ?_ hdb)
  refine PySem.W.callWith_K (h₀ := X.base) I.ok.mod.kin hk (thn (ha.run pos pins s σ H _ I h) fun us s1 ⟨vs, H1, I1, r, q⟩ => ⟨I1.kIn, ?_⟩) he hpl
  have r2 : Vals (vs ++ dvs) (us ++ ds) := r.append hd
  exact run_fnB hgd G hr hx I1 (hb s1 us I1.kIn (by rw [← Vals.length r2]; exact G.len _ _ _ _ q)) r2 q
end
/-- a def with one keyword-only parameter: called with it, called without it -/
structure Dk (P : Program) (w : World) (K : PySem.W.Frag) (mg : Str → Option Value) (base : Heap) (x : Str) (k : Nat) (f : Addr) (fd : FuncData) (ps : List Str) (n : Nat) (kw : Str) (dv : V) (sp : Sp) : Prop where
  g : mg x = some (.ref f)
  kp : PySem.W.keepIn K (.ref f) = true
  G : FnG P w K mg base CX0 k f fd ps sp
  kb : ∀ (s1 : Shared) (us ws : List Value), K.In s1.heap → us.length = n → ws.length = 1 → BindsTo s1 fd ⟨us, ([kw] : List Str).zip ws⟩ (ps.zip (us ++ ws))
  bd : ∃ ds, Vals [dv] ds ∧ Binds K fd ps ds
end WT

set_option Elab.async false
set_option linter.all false
set_option maxRecDepth 100000
set_option maxHeartbeats 4000000
namespace WT
open PySem PySem.Spec PyProof.Rows L2
/-- what comes behind is proved once -/
theorem use_post {α : Type} {T : (α → Hp → Prop) → Prop} {Q : α → Hp → Prop} (G : α → Hp → Prop) (h : ∀ Q' : α → Hp → Prop, (∀ x H', G x H' → Q' x H') → T Q') (q : ∀ x H', G x H' → Q x H') : T Q := h Q q
theorem use_seq {f u : TS} {D : Ends} {σ : L2.St} {H : Hp} (G : L2.St → Hp → Prop) (h : ∀ N : L2.St → Hp → Prop, (∀ σ' H', G σ' H' → N σ' H') → f { D with nx := N } σ H) (q : ∀ σ' H', G σ' H' → u D σ' H') {r b c} : Ends.nx { nx := tSeq f u D, rt := r, bk := b, ct := c } σ H := h (u D) q
theorem call_reprK {X : Cx} {K : PySem.W.Frag} (hgd : X.A.guards = some []) (hu : X.A.units + 64 < cLine) (hK : X.K = K := by rfl) : CallR X (.builtin "repr") (rRepr K) := by
  subst hK
  exact call_repr hgd hu
theorem names_nodup {n : Nat} {ys : List Str} (h : NamesOf n ys) : ys.Nodup := by
  obtain ⟨s, f, rfl, _⟩ := h.ex
  unfold nameList
  refine List.pairwise_map.mpr (List.Pairwise.imp (fun {i j} hij e => hij ?_) List.nodup_range)
  have e := congrArg (fun z : Str => z.cps.toList) e
  simp only [app_cps] at e
  have e := List.append_cancel_left e
  have e : [97 + f + i] = [97 + f + j] := e
  simp at e
  omega
theorem fit_bool (b : Bool) : (PyData.bool b).showable = true ∧ (PyData.bool b).depth ≤ 60 ∧ (PyData.bool b).shown.length ≤ sizeLine ∧ PyData.strOk (PyData.bool b).shown = true := by
  cases b <;> decide +kernel
theorem pot_upd {H : Hp} {a c : Addr} {n : Nat} {o : HO} (h : PotAt H a n) (hc : a ≠ c) : PotAt (upd H c o) a n := by
  obtain ⟨u0, u1, u2, e1, e2⟩ := h
  exact ⟨u0, u1, u2, by rw [upd_ne hc]; exact e1, e2⟩
theorem but_free {H H' : Hp} {a c : Addr} (h : But a H H') (hc : c ≠ a) (n : H' c = none) : H c = none := by
  cases e : H c with
  | none => rfl
  | some o =>
    rw [h _ _ hc e] at n
    cases n
theorem iff_same {b c : Bool} {p : Prop} (h : b = true ↔ p) (k : c = true ↔ p) : b = c := by
  cases b <;> cases c <;> simp_all
theorem gate_len {rs : List Str} {g : Gt} (h : GateOk rs g) : g.2.1 ≠ [] ∧ g.2.1.length ≤ rs.length := by
  obtain ⟨ys, k, h1, h2, h3, h4⟩ := h.from_
  have e1 := h2.length_eq
  have e2 := h1.length_eq
  rw [List.length_take] at e1
  refine ⟨fun z => ?_, by omega⟩
  rw [z] at e1
  simp at e1
  omega

theorem use_seq1 {f u : TS} {D : Ends} {σ : L2.St} {H : Hp} (G : L2.St → Hp → Prop) (h : ∀ N : L2.St → Hp → Prop, (∀ σ' H', G σ' H' → N σ' H') → f { D with nx := N } σ H) (q : ∀ σ' H', G σ' H' → u D σ' H') : tSeq f u D σ H := h (u D) q
theorem perm_map_inv {α β : Type} {f : α → β} {l' m : List β} (h : l'.Perm m) : ∀ {l : List α}, m = l.map f → ∃ k : List α, k.Perm l ∧ l' = k.map f := by
  induction h with
  | nil =>
    intro l e
    cases l with
    | nil => exact ⟨[], .nil, rfl⟩
    | cons _ _ => cases e
  | cons x _ ih =>
    intro l e
    cases l with
    | nil => cases e
    | cons y l =>
      cases e
      obtain ⟨k, h1, h2⟩ := ih rfl
      exact ⟨y :: k, h1.cons y, by rw [h2]; rfl⟩
  | swap x y r =>
    intro l e
    cases l with
    | nil => cases e
    | cons a l =>
      cases l with
      | nil => cases e
      | cons b l =>
        cases e
        exact ⟨b :: a :: l, .swap _ _ _, rfl⟩
  | trans _ _ ih1 ih2 =>
    intro l e
    obtain ⟨k, h1, h2⟩ := ih2 e
    obtain ⟨k2, h3, h4⟩ := ih1 h2
    exact ⟨k2, h3.trans h1, h4⟩
theorem paired_zip {α β : Type} {R : α → β → Prop} : ∀ {l : List α} {m : List β}, Paired R l m → ∀ p ∈ l.zip m, R p.1 p.2
  | _, _, .nil, p, h => by cases h
  | _, _, .cons r t, p, h => by
    rw [List.zip_cons_cons] at h
    rcases List.mem_cons.mp h with e | h
    · rw [e]
      exact r
    · exact paired_zip t p h
theorem zip_paired {α β : Type} {R : α → β → Prop} : ∀ {l : List (α × β)}, (∀ p ∈ l, R p.1 p.2) → Paired R (l.map (·.1)) (l.map (·.2))
  | [], _ => .nil
  | p :: l, h => .cons (h p List.mem_cons_self) (zip_paired fun q hq => h q (List.mem_cons_of_mem _ hq))
theorem zip_fst {α β : Type} {R : α → β → Prop} : ∀ {l : List α} {m : List β}, Paired R l m → (l.zip m).map (·.1) = l ∧ (l.zip m).map (·.2) = m
  | _, _, .nil => ⟨rfl, rfl⟩
  | _, _, .cons r t => by
    obtain ⟨h1, h2⟩ := zip_fst t
    rw [List.zip_cons_cons, List.map_cons, List.map_cons, h1, h2]
    exact ⟨rfl, rfl⟩
/-! gateways and worlds as data -/
def gateD (g : Gt) : PyData := .tuple [.str g.1, .tuple (g.2.1.map PyData.str), .str g.2.2]
def worldD (rs : List Str) (gs : List Gt) : PyData := .tuple [.tuple (rs.map PyData.str), .tuple (gs.map gateD)]
theorem dp_gate {K : PySem.W.Frag} {H : Hp} {a : Addr} {g : Gt} (h : GateAt H a g) : Dp K H (.ref a) (gateD g) := by
  obtain ⟨i, h1, h2⟩ := h
  exact .tup (SqT.of h1) (.cons (.str _) (.cons (.tup (SqT.of h2) (dp_strs _)) (.cons (.str _) .nil)))
theorem alikeAll_strs : ∀ xs ys : List Str, PySem.W.alikeAll (xs.map PyData.str) (ys.map PyData.str) = true
  | [], _ => by rw [List.map_nil, PySem.W.alikeAll]
  | _ :: _, [] => by rw [List.map_cons, List.map_nil, PySem.W.alikeAll]
  | x :: xs, y :: ys => by
    rw [List.map_cons, List.map_cons, PySem.W.alikeAll, alikeAll_strs xs ys, PySem.W.alike]
    rfl
theorem alike_gate (g g' : Gt) : PySem.W.alike (gateD g) (gateD g') = true := by
  unfold gateD
  rw [PySem.W.alike, PySem.W.alikeAll, PySem.W.alikeAll, PySem.W.alikeAll, PySem.W.alike, PySem.W.alike, PySem.W.alike, alikeAll_strs, PySem.W.alikeAll]
  rfl
theorem depthAll_strs : ∀ ss : List Str, PyData.depthAll (ss.map PyData.str) = 0
  | [] => by rw [List.map_nil, PyData.depthAll]
  | s :: ss => by
    rw [List.map_cons, PyData.depthAll, depthAll_strs ss, PyData.depth]
    rfl
theorem depth_gate (g : Gt) : (gateD g).depth ≤ 2 := by
  unfold gateD
  rw [PyData.depth, PyData.depthAll, PyData.depthAll, PyData.depthAll, PyData.depthAll, PyData.depth, PyData.depth, PyData.depth, depthAll_strs]
  decide
mutual
theorem Dp.dt {K : PySem.W.Frag} {H : Hp} : ∀ {v : V} {d : PyData}, Dp K H v d → Dt K H v d
  | _, _, .non => .non
  | _, _, .bl b => .bl b
  | _, _, .int i => .int i
  | _, _, .str x => .str x
  | _, _, .lst h t => .lst h (DpAll.dt t)
  | _, _, .tup h t => .tup h (DpAll.dt t)
theorem DpAll.dt {K : PySem.W.Frag} {H : Hp} : ∀ {vs : List V} {ds : List PyData}, DpAll K H vs ds → DtAll K H vs ds
  | _, _, .nil => .nil
  | _, _, .cons h t => .cons (Dp.dt h) (DpAll.dt t)
end
theorem dp_gates {K : PySem.W.Frag} {H : Hp} : ∀ {as : List Addr} {gs : List Gt}, Paired (GateAt H) as gs → DpAll K H (as.map V.ref) (gs.map gateD)
  | _, _, .nil => .nil
  | _, _, .cons r t => .cons (dp_gate r) (dp_gates t)
theorem dp_world {K : PySem.W.Frag} {H : Hp} {a r g : Addr} {as : List Addr} {rs : List Str} {gs : List Gt} (h : WorldAt H a r g as rs gs) : Dp K H (.ref a) (worldD rs gs) :=
  .tup (SqT.of h.top) (.cons (.tup (SqT.of h.reg) (dp_strs _)) (.cons (.tup (SqT.of h.gat) (dp_gates h.each)) .nil))
end WT

set_option Elab.async false
set_option linter.all false
set_option maxRecDepth 100000
set_option maxHeartbeats 4000000
namespace WT
open PySem PySem.Spec PyProof.Rows L2
theorem lastD_mem {α : Type} : ∀ (l : List α) (d : α), l.getLastD d ∈ d :: l
  | [], d => by simp
  | a :: l, d => by
    rw [List.getLastD_cons]
    exact List.mem_cons_of_mem _ (lastD_mem l a)
theorem lastOf_mem (one : Str) (l : List (Str × Str)) : lastOf one l ∈ one :: l.map (·.2) := lastD_mem _ _
section
variable {gs : List Gt} {bar rs : List Str} {one : Str}
theorem SPath.names {x y : Str} {l : List (Str × Str)} (h : SPath gs bar x l y) : ∀ n ∈ l.map (·.1), n ∈ gs.map (·.1) := by
  induction h with
  | nil => intro n hn; cases hn
  | cons s _ ih =>
    obtain ⟨g, hg, e, _⟩ := s
    intro n hn
    rw [List.map_cons] at hn
    rcases List.mem_cons.mp hn with e2 | hn
    · rw [e2]
      exact List.mem_map.mpr ⟨g, hg, e⟩
    · exact ih n hn
theorem GoodP.lenG {l : List (Str × Str)} (h : GoodP gs bar rs one l) : l.length ≤ gs.length := by
  obtain ⟨z, hz⟩ := h.path
  have := nodup_le (rs := gs.map (·.1)) h.gat hz.names
  rw [List.length_map, List.length_map] at this
  exact this
theorem kidsOf_len {B : Nat} {g : Gt} (hg : g.2.1.length ≤ B + 1) (l : List (Str × Str)) : (kidsOf bar one l g).length ≤ B := by
  unfold kidsOf
  by_cases c : lastOf one l ∈ g.2.1 ∧ g.1 ∉ l.map (·.1) ∧ g.1 ∉ bar
  · rw [if_pos c, List.length_map]
    have : (g.2.1.filter fun z => decide (z ∉ one :: l.map (·.2))).length < g.2.1.length :=
      List.length_filter_lt_length_iff_exists.mpr ⟨lastOf one l, c.1, by
        have := lastOf_mem one l
        simp only [decide_eq_true_eq]
        exact fun z => z this⟩
    omega
  · rw [if_neg c]
    exact Nat.zero_le _
theorem kids_lenX {B : Nat} {gx : Gt} (hx : gx ∈ gs) (hB : ∀ g ∈ gs, g.2.1.length ≤ B + 1) (l : List (Str × Str)) : (kids gs [gx.1] one l).length ≤ (gs.length - 1) * B := by
  have gen : ∀ (hs : List Gt), (∀ g ∈ hs, g.2.1.length ≤ B + 1) → (kids hs [gx.1] one l).length ≤ hs.length * B := fun hs => by
    induction hs with
    | nil => intro _; exact Nat.zero_le _
    | cons g hs ih =>
      intro h
      have a := ih fun y hy => h y (List.mem_cons_of_mem _ hy)
      have b := kidsOf_len (bar := [gx.1]) (one := one) (h g List.mem_cons_self) l
      unfold kids at a ⊢
      rw [List.flatMap_cons, List.length_append, List.length_cons, Nat.add_mul]
      omega
  obtain ⟨g1, g2, rfl⟩ := List.append_of_mem hx
  have e : kids (g1 ++ gx :: g2) [gx.1] one l = kids (g1 ++ g2) [gx.1] one l := by
    unfold kids
    rw [List.flatMap_append, List.flatMap_append, List.flatMap_cons]
    have : kidsOf [gx.1] one l gx = [] := by
      unfold kidsOf
      rw [if_neg fun z => z.2.2 (by simp)]
    rw [this, List.nil_append]
  rw [e]
  have := gen (g1 ++ g2) fun g hg => hB g (by
    rcases List.mem_append.mp hg with h | h
    · exact List.mem_append_left _ h
    · exact List.mem_append_right _ (List.mem_cons_of_mem _ h))
  rw [List.length_append] at this ⊢
  rw [List.length_cons]
  rw [show g1.length + (g2.length + 1) - 1 = g1.length + g2.length by omega]
  exact this
end
/-- a world that is small enough for the search through all paths -/
def Small (rs : List Str) (gs : List Gt) : Prop := ∃ M D : Nat, (M + 1) ^ D < sizeLine ∧ ∀ gx ∈ gs, gx.2.1.length * gx.2.1.length * (M + 1) ^ D < sizeLine ∧ ∀ one ∈ rs, (∀ k, GoodP gs [gx.1] rs one k → k.length ≤ D) ∧ ∀ l, (kids gs [gx.1] one l).length ≤ M
theorem small_of {rs : List Str} {gs : List Gt} (hr : rs.length ≤ 6) (hg : gs.length ≤ 4) (hm : ∀ g ∈ gs, g.2.1.length ≤ rs.length) : Small rs gs := by
  refine ⟨15, 4, by decide, fun gx hx => ⟨?_, fun one ho => ⟨fun k hk => Nat.le_trans hk.lenG hg, fun l => Nat.le_trans (kids_lenX (B := 5) hx (fun g h => Nat.le_trans (hm g h) hr) l) ?_⟩⟩⟩
  · have h6 : gx.2.1.length ≤ 6 := Nat.le_trans (hm gx hx) hr
    have : gx.2.1.length * gx.2.1.length ≤ 6 * 6 := Nat.mul_le_mul h6 h6
    exact Nat.lt_of_le_of_lt (Nat.mul_le_mul_right _ this) (by decide)
  · omega
theorem small_ring {rs : List Str} {gs : List Gt} (hr : rs.length = 8) (hg : gs.length = 8) (hm : ∀ g ∈ gs, g.2.1.length = 2) : Small rs gs := by
  refine ⟨7, 7, by decide, fun gx hx => ⟨?_, fun one ho => ⟨fun k hk => ?_, fun l => Nat.le_trans (kids_lenX (B := 1) hx (fun g h => by rw [hm g h]; decide) l) ?_⟩⟩⟩
  · rw [hm gx hx]
    decide
  · have := hk.len ho
    omega
  · omega
/-! what repr shows of names, gateways, worlds -/
theorem nm_of {s : Str} (h : s.length ≤ 8) (k : s.cps.toList.all (fun c => decide (97 ≤ c) && decide (c ≤ 122)) = true) : NmOk s := by
  refine ⟨h, fun c hc => ?_⟩
  have := List.all_eq_true.mp k c hc
  rw [Bool.and_eq_true] at this
  exact ⟨of_decide_eq_true this.1, of_decide_eq_true this.2⟩
theorem nm_wrap : NmOk "wrap" := nm_of (by decide +kernel) (by decide +kernel)
theorem nm_open : NmOk "open" := nm_of (by decide +kernel) (by decide +kernel)
theorem fit_str {s : Str} (h : NmOk s) : Fit 0 200 (.str s) := by
  refine ⟨rfl, by rw [PyData.depth]; exact Nat.le_refl _, ?_⟩
  have h1 := PyData.shown_le 8 (by decide) (.str s) (by
    rw [PyData.leavesShort, List.all_eq_true]
    intro c hc
    have := h.low c hc
    unfold Low at this
    have e : (16 : Nat) ^ 8 = 4294967296 := by decide
    exact decide_eq_true (by omega))
  have h2 : s.cps.size ≤ 8 := h.len
  rw [PyData.weight] at h1
  omega
theorem fit_strs {ss : List Str} (h : ∀ s ∈ ss, NmOk s) : Fit 1 (ss.length * 202 + 3) (.tuple (ss.map PyData.str)) := by
  have := fit_tuple (n := 0) (L := 200) (ds := ss.map PyData.str) fun d hd => by
    obtain ⟨s, hs, rfl⟩ := List.mem_map.mp hd
    exact fit_str (h s hs)
  rw [List.length_map] at this
  exact this
/-- a world as laws draw it -/
structure WFine (rs : List Str) (gs : List Gt) : Prop where
  rl : rs.length ≤ 10
  gl : gs.length ≤ 10
  rok : ∀ s ∈ rs, NmOk s
  nd : (gs.map (·.1)).Nodup
  each : ∀ g ∈ gs, NmOk g.1 ∧ g.2.1.length ≤ 10 ∧ (∀ y ∈ g.2.1, y ∈ rs) ∧ NmOk g.2.2
theorem fit_gate {rs : List Str} {gs : List Gt} (h : WFine rs gs) {g : Gt} (hg : g ∈ gs) : Fit 2 7000 (gateD g) := by
  obtain ⟨h1, h2, h3, h4⟩ := h.each g hg
  have a := fit_strs fun s hs => h.rok s (h3 s hs)
  have := fit_tuple (n := 1) (L := 2100) (ds := [.str g.1, .tuple (g.2.1.map PyData.str), .str g.2.2]) fun d hd => by
    simp only [List.mem_cons, List.not_mem_nil, or_false] at hd
    rcases hd with rfl | rfl | rfl
    · exact (fit_str h1).mono (by decide) (by decide)
    · exact a.mono (by decide) (by omega)
    · exact (fit_str h4).mono (by decide) (by decide)
  exact this.mono (by decide) (by show 3 * (2100 + 2) + 3 ≤ 7000; decide)
theorem fit_world {rs : List Str} {gs : List Gt} (h : WFine rs gs) : Fit 60 sizeLine (worldD rs gs) := by
  have a := fit_strs h.rok
  have b := fit_tuple (n := 2) (L := 7000) (ds := gs.map gateD) fun d hd => by
    obtain ⟨g, hg, rfl⟩ := List.mem_map.mp hd
    exact fit_gate h hg
  rw [List.length_map] at b
  have l1 := h.rl
  have l2 := h.gl
  have := fit_tuple (n := 3) (L := 80000) (ds := [.tuple (rs.map PyData.str), .tuple (gs.map gateD)]) fun d hd => by
    simp only [List.mem_cons, List.not_mem_nil, or_false] at hd
    rcases hd with rfl | rfl
    · exact a.mono (by decide) (by omega)
    · exact b.mono (by decide) (by omega)
  exact this.mono (by decide) (by show 2 * (80000 + 2) + 3 ≤ sizeLine; decide)
theorem WorldOk.fine {rs : List Str} {gs : List Gt} (h : WorldOk rs gs) : WFine rs gs := by
  obtain ⟨n, h1, h2, h3⟩ := h.reg
  obtain ⟨m, h4, h5⟩ := h.gat
  have l1 := h3.length
  have l2 := h5.length
  rw [List.length_map] at l2
  refine ⟨by omega, by omega, h3.nm, names_nodup h5, fun g hg => ?_⟩
  have k := h.each g hg
  refine ⟨k.nm, by have := k.len; omega, k.sub, ?_⟩
  rcases k.kind with e | e
  · rw [e]
    exact nm_wrap
  · rw [e]
    exact nm_open
theorem lay_ints : ∀ ns : List Int, PyData.canLayAll0 (ns.map PyData.int) = true ∧ PyData.depthAll (ns.map PyData.int) = 0
  | [] => ⟨by rw [List.map_nil, PyData.canLayAll0], by rw [List.map_nil, PyData.depthAll]⟩
  | n :: ns => by
    obtain ⟨h1, h2⟩ := lay_ints ns
    rw [List.map_cons, PyData.canLayAll0, PyData.depthAll, h1, h2, PyData.canLay0, PyData.depth]
    exact ⟨rfl, rfl⟩
theorem shaped_ints (ns : List Int) : SeqAt.shaped (.list (ns.map PyData.int)) = true := by
  obtain ⟨h1, h2⟩ := lay_ints ns
  unfold SeqAt.shaped
  rw [PyData.canLay0, PyData.depth, h1, h2]
  rfl
theorem dp_ints {K : PySem.W.Frag} {H : Hp} : ∀ ns : List Int, DpAll K H (ns.map V.int) (ns.map PyData.int)
  | [] => .nil
  | n :: ns => .cons (.int n) (dp_ints ns)
theorem str_tri (a b : Str) : a.cps.toList < b.cps.toList ∨ a = b ∨ b.cps.toList < a.cps.toList := by
  by_cases h1 : a.cps.toList < b.cps.toList
  · exact .inl h1
  · by_cases h2 : b.cps.toList < a.cps.toList
    · exact .inr (.inr h2)
    · have e : a.cps.toList = b.cps.toList := List.le_antisymm (List.not_lt.mp h2) (List.not_lt.mp h1)
      refine .inr (.inl ?_)
      obtain ⟨⟨x⟩⟩ := a
      obtain ⟨⟨y⟩⟩ := b
      have e : x = y := e
      rw [e]
theorem str_irrefl {a b : Str} (h : a.cps.toList < b.cps.toList) : a ≠ b := fun e => by
  rw [e] at h
  exact List.lt_irrefl _ h
end WT

set_option Elab.async false
set_option linter.all false
set_option maxRecDepth 100000
set_option maxHeartbeats 4000000
namespace WT
open PySem PySem.Spec PyProof.Rows L2
/-! ### the search for a shortest path: what it does, as a function, and that what it finds is shortest -/
abbrev Pth := List (Str × Str)
abbrev Tab := List (Str × Pth)
def keysT (t : Tab) : List Str := t.map (·.1)
def tabGet : Tab → Str → Option Pth
  | [], _ => none
  | p :: t, x => if p.1 = x then some p.2 else tabGet t x
def bfsOne (lr : Pth) (st : Tab × List Str) (e : Str × Str) : Tab × List Str := if e.2 ∈ keysT st.1 then st else (st.1 ++ [(e.2, lr ++ [e])], st.2 ++ [e.2])
def bfsReg (gs : List Gt) (bar : List Str) (st : Tab × List Str) (r : Str) : Tab × List Str := (exitsL gs bar r).foldl (bfsOne ((tabGet st.1 r).getD [])) st
def bfsLev (gs : List Gt) (bar : List Str) (t : Tab) (far : List Str) : Tab × List Str := far.foldl (bfsReg gs bar) (t, [])
def bfs (gs : List Gt) (bar : List Str) (other : Str) : Nat → Tab → List Str → Tab
  | 0, t, _ => t
  | n + 1, t, far => if far = [] ∨ other ∈ keysT t then t else bfs gs bar other n (bfsLev gs bar t far).1 (bfsLev gs bar t far).2
/-- the path that shortest_path hands back -/
def spath (gs : List Gt) (bar rs : List Str) (one other : Str) : Option Pth := tabGet (bfs gs bar other (2 * rs.length + 2) [(one, [])] [one]) other
theorem get_mem : ∀ {t : Tab} {x : Str} {l : Pth}, tabGet t x = some l → (x, l) ∈ t
  | [], _, _, h => by cases h
  | p :: t, x, l, h => by
    unfold tabGet at h
    by_cases c : p.1 = x
    · rw [if_pos c] at h
      cases h
      rw [← c]
      exact List.mem_cons_self
    · rw [if_neg c] at h
      exact List.mem_cons_of_mem _ (get_mem h)
theorem get_some : ∀ {t : Tab} {x : Str}, x ∈ keysT t → ∃ l, tabGet t x = some l
  | [], _, h => by cases h
  | p :: t, x, h => by
    unfold tabGet
    by_cases c : p.1 = x
    · exact ⟨_, by rw [if_pos c]⟩
    · rw [if_neg c]
      rcases List.mem_cons.mp h with e | h
      · exact absurd e.symm c
      · exact get_some h
theorem get_none : ∀ {t : Tab} {x : Str}, x ∉ keysT t → tabGet t x = none
  | [], _, _ => rfl
  | p :: t, x, h => by
    unfold tabGet
    rw [if_neg fun e => h (by rw [← e]; exact List.mem_cons_self)]
    exact get_none fun z => h (List.mem_cons_of_mem _ z)
theorem get_app {t u : Tab} {x : Str} (h : x ∈ keysT t) : tabGet (t ++ u) x = tabGet t x := by
  induction t with
  | nil => cases h
  | cons p t ih =>
    rw [List.cons_append]
    unfold tabGet
    by_cases c : p.1 = x
    · rw [if_pos c, if_pos c]
    · rw [if_neg c, if_neg c]
      rcases List.mem_cons.mp h with e | h
      · exact absurd e.symm c
      · exact ih h
theorem keys_app (t u : Tab) : keysT (t ++ u) = keysT t ++ keysT u := List.map_append
theorem mem_keys {t : Tab} {p : Str × Pth} (h : p ∈ t) : p.1 ∈ keysT t := List.mem_map.mpr ⟨p, h, rfl⟩
section
variable {gs : List Gt} {bar rs : List Str} {one other : Str}
/-- the table after d rounds -/
structure BOk (gs : List Gt) (bar rs : List Str) (one : Str) (d : Nat) (t : Tab) (far : List Str) : Prop where
  nod : (keysT t).Nodup
  sub : ∀ x ∈ keysT t, x ∈ rs
  ok : ∀ p ∈ t, SPath gs bar one p.2 p.1 ∧ p.2.length ≤ d ∧ ∀ m, SPath gs bar one m p.1 → p.2.length ≤ m.length
  all : ∀ x m, SPath gs bar one m x → m.length ≤ d → x ∈ keysT t
  ffar : ∀ p ∈ t, p.1 ∈ far ↔ p.2.length = d
  fsub : ∀ x ∈ far, x ∈ keysT t
/-- what a round has added so far -/
structure BMid (gs : List Gt) (bar rs : List Str) (one : Str) (d : Nat) (t add : Tab) : Prop where
  nod : (keysT (t ++ add)).Nodup
  sub : ∀ x ∈ keysT add, x ∈ rs
  ok : ∀ p ∈ add, SPath gs bar one p.2 p.1 ∧ p.2.length = d + 1
theorem BOk.first (h : one ∈ rs) : BOk gs bar rs one 0 [(one, [])] [one] := by
  refine ⟨by simp [keysT], fun x hx => ?_, fun p hp => ?_, fun x m hm hl => ?_, fun p hp => ?_, fun x hx => ?_⟩
  · rw [List.mem_singleton.mp hx]
    exact h
  · rw [List.mem_singleton.mp hp]
    exact ⟨.nil one, Nat.le_refl _, fun m _ => Nat.zero_le _⟩
  · have : m = [] := List.length_eq_zero_iff.mp (by omega)
    subst this
    cases hm
    exact List.mem_cons_self
  · rw [List.mem_singleton.mp hp]
    simp
  · exact hx
theorem BMid.first {d : Nat} {t : Tab} {far : List Str} (h : BOk gs bar rs one d t far) : BMid gs bar rs one d t [] := ⟨by rw [List.append_nil]; exact h.nod, fun x hx => (nomatch hx), fun p hp => (nomatch hp)⟩
theorem exits_step {x : Str} {e : Str × Str} (h : e ∈ exitsL gs bar x) : Step gs bar x e.1 e.2 := by
  unfold exitsL at h
  obtain ⟨g, hg, he⟩ := List.mem_flatMap.mp h
  by_cases c : x ∈ g.2.1 ∧ g.1 ∉ bar
  · rw [if_pos c] at he
    obtain ⟨y, hy, rfl⟩ := List.mem_map.mp he
    exact ⟨g, hg, rfl, c.2, c.1, (List.mem_filter.mp hy).1⟩
  · rw [if_neg c] at he
    cases he
theorem BMid.one_ {d : Nat} {t add : Tab} {far : List Str} {r : Str} {lr : Pth} {e : Str × Str} (hm : ∀ g ∈ gs, ∀ z ∈ g.2.1, z ∈ rs) (B : BOk gs bar rs one d t far) (h : BMid gs bar rs one d t add) (hr : (r, lr) ∈ t) (hl : lr.length = d) (he : e ∈ exitsL gs bar r) :
    ∃ add', bfsOne lr (t ++ add, keysT add) e = (t ++ add', keysT add') ∧ BMid gs bar rs one d t add' ∧ e.2 ∈ keysT (t ++ add') ∧ ∀ x ∈ keysT (t ++ add), x ∈ keysT (t ++ add') := by
  unfold bfsOne
  by_cases c : e.2 ∈ keysT (t ++ add)
  · rw [if_pos c]
    exact ⟨add, rfl, h, c, fun x hx => hx⟩
  · rw [if_neg c]
    refine ⟨add ++ [(e.2, lr ++ [e])], ?_, ⟨?_, fun x hx => ?_, fun p hp => ?_⟩, ?_, fun x hx => ?_⟩
    · rw [List.append_assoc, keys_app]
      rfl
    · rw [← List.append_assoc, keys_app]
      refine List.nodup_append.mpr ⟨h.nod, by simp [keysT], fun a ha b hb q => ?_⟩
      have hb : b = e.2 := by simpa [keysT] using hb
      exact c (hb ▸ q ▸ ha)
    · rw [keys_app] at hx
      rcases List.mem_append.mp hx with hx | hx
      · exact h.sub x hx
      · have hx : x = e.2 := by simpa [keysT] using hx
        obtain ⟨g, hg, _, _, _, h4⟩ := exits_step he
        rw [hx]
        exact hm g hg _ h4
    · rcases List.mem_append.mp hp with hp | hp
      · exact h.ok p hp
      · rw [List.mem_singleton.mp hp]
        refine ⟨(B.ok _ hr).1.app ?_, by simp [hl]⟩
        have := exits_step he
        exact .cons this (.nil _)
    · rw [← List.append_assoc, keys_app]
      exact List.mem_append_right _ (by simp [keysT])
    · rw [← List.append_assoc, keys_app]
      exact List.mem_append_left _ hx
/-- a region's exits, j of them -/
theorem BMid.reg {d : Nat} {t add : Tab} {far : List Str} {r : Str} {lr : Pth} (hm : ∀ g ∈ gs, ∀ z ∈ g.2.1, z ∈ rs) (B : BOk gs bar rs one d t far) (h : BMid gs bar rs one d t add) (hr : (r, lr) ∈ t) (hl : lr.length = d) :
    ∀ es : List (Str × Str), (∀ e ∈ es, e ∈ exitsL gs bar r) → ∃ add', es.foldl (bfsOne lr) (t ++ add, keysT add) = (t ++ add', keysT add') ∧ BMid gs bar rs one d t add' ∧ (∀ e ∈ es, e.2 ∈ keysT (t ++ add')) ∧ ∀ x ∈ keysT (t ++ add), x ∈ keysT (t ++ add') := by
  intro es
  induction es generalizing add with
  | nil => exact fun _ => ⟨add, rfl, h, fun e he => (nomatch he), fun x hx => hx⟩
  | cons e es ih =>
    intro hes
    obtain ⟨a1, e1, h1, k1, s1⟩ := BMid.one_ hm B h hr hl (hes e List.mem_cons_self)
    obtain ⟨a2, e2, h2, k2, s2⟩ := ih h1 fun x hx => hes x (List.mem_cons_of_mem _ hx)
    refine ⟨a2, by rw [List.foldl_cons, e1, e2], h2, fun x hx => ?_, fun x hx => s2 x (s1 x hx)⟩
    rcases List.mem_cons.mp hx with q | hx
    · rw [q]
      exact s2 _ k1
    · exact k2 x hx
theorem BOk.at_far {d : Nat} {t : Tab} {far : List Str} (B : BOk gs bar rs one d t far) {r : Str} (h : r ∈ far) : ∃ lr, tabGet t r = some lr ∧ (r, lr) ∈ t ∧ lr.length = d := by
  obtain ⟨lr, e⟩ := get_some (B.fsub r h)
  have m := get_mem e
  exact ⟨lr, e, m, (B.ffar _ m).mp h⟩
theorem BMid.lev {d : Nat} {t add : Tab} {far : List Str} (hm : ∀ g ∈ gs, ∀ z ∈ g.2.1, z ∈ rs) (B : BOk gs bar rs one d t far) (h : BMid gs bar rs one d t add) :
    ∀ fs : List Str, (∀ r ∈ fs, r ∈ far) → ∃ add', fs.foldl (bfsReg gs bar) (t ++ add, keysT add) = (t ++ add', keysT add') ∧ BMid gs bar rs one d t add' ∧ (∀ r ∈ fs, ∀ e ∈ exitsL gs bar r, e.2 ∈ keysT (t ++ add')) ∧ ∀ x ∈ keysT (t ++ add), x ∈ keysT (t ++ add') := by
  intro fs
  induction fs generalizing add with
  | nil => exact fun _ => ⟨add, rfl, h, fun e he => (nomatch he), fun x hx => hx⟩
  | cons r fs ih =>
    intro hf
    obtain ⟨lr, e0, m0, l0⟩ := B.at_far (hf r List.mem_cons_self)
    obtain ⟨a1, e1, h1, k1, s1⟩ := BMid.reg hm B h m0 l0 (exitsL gs bar r) fun e he => he
    obtain ⟨a2, e2, h2, k2, s2⟩ := ih h1 fun x hx => hf x (List.mem_cons_of_mem _ hx)
    have er : bfsReg gs bar (t ++ add, keysT add) r = (t ++ a1, keysT a1) := by
      unfold bfsReg
      rw [get_app (B.fsub r (hf r List.mem_cons_self)), e0]
      exact e1
    refine ⟨a2, by rw [List.foldl_cons, er, e2], h2, fun x hx e he => ?_, fun x hx => s2 x (s1 x hx)⟩
    rcases List.mem_cons.mp hx with q | hx
    · rw [q] at he
      exact s2 _ (k1 e he)
    · exact k2 x hx e he
theorem BOk.next {d : Nat} {t : Tab} {far : List Str} (hm : ∀ g ∈ gs, ∀ z ∈ g.2.1, z ∈ rs) (B : BOk gs bar rs one d t far) : ∃ add, bfsLev gs bar t far = (t ++ add, keysT add) ∧ BOk gs bar rs one (d + 1) (t ++ add) (keysT add) := by
  obtain ⟨add, e, h, k, _⟩ := BMid.lev hm B (.first B) far fun r hr => hr
  rw [List.append_nil] at e
  refine ⟨add, e, h.nod, fun x hx => ?_, fun p hp => ?_, fun x m hx hl => ?_, fun p hp => ?_, fun x hx => ?_⟩
  · rw [keys_app] at hx
    rcases List.mem_append.mp hx with hx | hx
    · exact B.sub x hx
    · exact h.sub x hx
  · rcases List.mem_append.mp hp with hp | hp
    · obtain ⟨h1, h2, h3⟩ := B.ok p hp
      exact ⟨h1, by omega, h3⟩
    · obtain ⟨h1, h2⟩ := h.ok p hp
      refine ⟨h1, by omega, fun m hq => ?_⟩
      rcases Nat.lt_or_ge d m.length with q | q
      · omega
      · exfalso
        have n := h.nod
        rw [keys_app] at n
        exact (List.nodup_append.mp n).2.2 _ (B.all _ m hq q) _ (mem_keys hp) rfl
  · rw [keys_app]
    rcases Nat.lt_or_ge d m.length with q | q
    · rcases List.eq_nil_or_concat m with rfl | ⟨m', p, rfl⟩
      · simp at q
      · obtain ⟨n, z⟩ := p
        rw [List.concat_eq_append] at hx hl q
        obtain ⟨y, h1, h2⟩ := hx.split
        cases h2 with
        | cons s s2 =>
          cases s2
          have ml : m'.length = d := by
            simp at hl q
            omega
          obtain ⟨ly, ey⟩ := get_some (B.all y m' h1 (by omega))
          have my := get_mem ey
          obtain ⟨o1, o2, o3⟩ := B.ok _ my
          rcases Nat.lt_or_ge ly.length d with q2 | q2
          · exact List.mem_append_left _ (B.all _ (ly ++ [(n, x)]) (o1.app (.cons s (.nil _))) (by simp; omega))
          · have q3 : ly.length = d := Nat.le_antisymm o2 q2
            have yf : y ∈ far := (B.ffar _ my).mpr q3
            by_cases c : x = y
            · rw [c]
              exact List.mem_append_left _ (mem_keys my)
            · obtain ⟨g, hg, e1, e2, e3, e4⟩ := s
              obtain ⟨ex, hex, q4⟩ := adj_exits (gs := gs) (bar := bar) (x := y) (y := x) ⟨g, hg, by rw [e1]; exact e2, e3, e4⟩ c
              have := k y yf ex hex
              rw [q4, keys_app] at this
              exact this
    · exact List.mem_append_left _ (B.all x m hx q)
  · rcases List.mem_append.mp hp with hp | hp
    · obtain ⟨h1, h2, h3⟩ := B.ok p hp
      constructor
      · intro z
        have n := h.nod
        rw [keys_app] at n
        exact absurd rfl ((List.nodup_append.mp n).2.2 _ (mem_keys hp) _ z)
      · intro z
        omega
    · exact ⟨fun _ => (h.ok p hp).2, fun _ => mem_keys hp⟩
  · rw [keys_app]
    exact List.mem_append_right _ hx
/-- how far the search still can go -/
def bmeas (rs : List Str) (t : Tab) (far : List Str) : Nat := 2 * (rs.length - t.length) + (if far = [] then 0 else 1)
theorem BOk.len {d : Nat} {t : Tab} {far : List Str} (B : BOk gs bar rs one d t far) : t.length ≤ rs.length := by
  have := nodup_le B.nod B.sub
  unfold keysT at this
  rw [List.length_map] at this
  exact this
theorem BOk.less {d : Nat} {t add : Tab} {far : List Str} (B : BOk gs bar rs one d t far) (hf : far ≠ []) (C : BOk gs bar rs one (d + 1) (t ++ add) (keysT add)) : bmeas rs (t ++ add) (keysT add) < bmeas rs t far := by
  have l1 := C.len
  unfold bmeas
  rw [if_neg hf]
  rw [List.length_append] at l1 ⊢
  by_cases e : add = []
  · subst e
    simp [keysT]
  · have : keysT add ≠ [] := fun z => e (by unfold keysT at z; exact List.map_eq_nil_iff.mp z)
    rw [if_neg this]
    have : 0 < add.length := List.length_pos_iff.mpr e
    omega
theorem bfs_stop {t : Tab} {far : List Str} (h : far = [] ∨ other ∈ keysT t) : ∀ n, bfs gs bar other n t far = t
  | 0 => rfl
  | n + 1 => by
    unfold bfs
    rw [if_pos h]
/-- where the search stops, it has found what there is -/
theorem BOk.stop {d : Nat} {t : Tab} {far : List Str} (B : BOk gs bar rs one d t far) (h : far = [] ∨ other ∈ keysT t) : Conn gs bar one other → other ∈ keysT t := by
  intro c
  rcases h with h | h
  · obtain ⟨l, hl⟩ := c.path
    clear c
    have key : ∀ {x : Str} {l : Pth}, SPath gs bar one l x → x ∈ keysT t := fun {x l} h' => by
      have : ∀ (k : Nat) (x : Str) (l : Pth), l.length = k → SPath gs bar one l x → x ∈ keysT t := fun k => by
        induction k with
        | zero => exact fun x l e hx => B.all x l hx (by omega)
        | succ k ih =>
          intro x l e hx
          rcases List.eq_nil_or_concat l with rfl | ⟨m', p, rfl⟩
          · simp at e
          · obtain ⟨n, z⟩ := p
            rw [List.concat_eq_append] at hx e
            obtain ⟨y, h1, h2⟩ := hx.split
            cases h2 with
            | cons s s2 =>
              cases s2
              have yk := ih y m' (by simp at e; omega) h1
              obtain ⟨ly, ey⟩ := get_some yk
              have my := get_mem ey
              obtain ⟨o1, o2, o3⟩ := B.ok _ my
              have nf : ly.length ≠ d := fun q => by
                have := (B.ffar _ my).mpr q
                rw [h] at this
                cases this
              have o2 : ly.length ≤ d := o2
              exact B.all _ (ly ++ [(n, x)]) (o1.app (.cons s (.nil _))) (by simp; omega)
      exact this _ x l rfl h'
    exact key hl
  · exact h
/-- the mirror's run is the invariant's -/
theorem bfs_ok (hm : ∀ g ∈ gs, ∀ z ∈ g.2.1, z ∈ rs) : ∀ (n d : Nat) (t : Tab) (far : List Str), BOk gs bar rs one d t far → bmeas rs t far ≤ n → ∃ d' far', BOk gs bar rs one d' (bfs gs bar other n t far) far' ∧ (far' = [] ∨ other ∈ keysT (bfs gs bar other n t far))
  | 0, d, t, far, B, h => by
    refine ⟨d, far, B, .inl ?_⟩
    unfold bmeas at h
    by_cases c : far = []
    · exact c
    · rw [if_neg c] at h
      omega
  | n + 1, d, t, far, B, h => by
    by_cases c : far = [] ∨ other ∈ keysT t
    · rw [bfs_stop c]
      exact ⟨d, far, B, c⟩
    · obtain ⟨add, e, C⟩ := B.next hm
      have l := B.less (fun z => c (.inl z)) C
      unfold bfs
      rw [if_neg c, e]
      exact bfs_ok hm n (d + 1) (t ++ add) (keysT add) C (Nat.le_of_lt_succ (Nat.lt_of_lt_of_le l h))
theorem bmeas_first : bmeas rs [(one, [])] [one] ≤ 2 * rs.length + 2 := by
  unfold bmeas
  simp
  omega
/-- shortest, or none where there is no path -/
theorem spath_none (hm : ∀ g ∈ gs, ∀ z ∈ g.2.1, z ∈ rs) (ho : one ∈ rs) : spath gs bar rs one other = none ↔ ¬ Conn gs bar one other := by
  obtain ⟨d, far, B, s⟩ := bfs_ok (other := other) hm _ 0 _ _ (BOk.first (gs := gs) (bar := bar) ho) bmeas_first
  unfold spath
  constructor
  · intro h c
    obtain ⟨l, e⟩ := get_some (B.stop s c)
    rw [e] at h
    cases h
  · intro h
    refine get_none fun z => h ?_
    obtain ⟨l, e⟩ := get_some z
    exact (B.ok _ (get_mem e)).1.conn
theorem spath_some (hm : ∀ g ∈ gs, ∀ z ∈ g.2.1, z ∈ rs) (ho : one ∈ rs) {l : Pth} (h : spath gs bar rs one other = some l) : SPath gs bar one l other ∧ ∀ m, SPath gs bar one m other → l.length ≤ m.length := by
  obtain ⟨d, far, B, s⟩ := bfs_ok (other := other) hm _ 0 _ _ (BOk.first (gs := gs) (bar := bar) ho) bmeas_first
  obtain ⟨h1, _, h3⟩ := B.ok _ (get_mem h)
  exact ⟨h1, h3⟩
theorem SPath.good (nd : (gs.map (·.1)).Nodup) {x y : Str} {l : Pth} (h : SPath gs bar x l y) (hl : ∀ m, SPath gs bar x m y → l.length ≤ m.length) : (x :: l.map (·.2)).Nodup ∧ (l.map (·.1)).Nodup := by
  obtain ⟨m, h1, h2, h3⟩ := simple_of nd l.length l rfl h
  by_cases c1 : (x :: l.map (·.2)).Nodup
  · by_cases c2 : (l.map (·.1)).Nodup
    · exact ⟨c1, c2⟩
    · exfalso
      obtain ⟨n, l1, l2, l3, e⟩ := twice c2
      obtain ⟨m1, p, r, rfl, e1, e2, e3⟩ := cut_map e
      obtain ⟨m2, p', m3, rfl, e4, e5, e6⟩ := cut_map e3
      obtain ⟨u, hu, hr⟩ := h.split
      obtain ⟨n1, z1⟩ := p
      obtain ⟨n2, z2⟩ := p'
      cases hr with
      | cons s1 t1 =>
        obtain ⟨v, hv, hr2⟩ := t1.split
        cases hr2 with
        | cons s2 t2 =>
          obtain ⟨g1, hg1, a1, b1, c1, d1⟩ := s1
          obtain ⟨g2, hg2, a2, b2, c2, d2⟩ := s2
          have en : n1 = n2 := by
            have e2 : n1 = n := e2
            have e5 : n2 = n := e5
            rw [e2, e5]
          obtain rfl : g1 = g2 := by_name nd hg1 hg2 (by rw [a1, a2, en])
          have := hl (m1 ++ (n1, z2) :: m3) (hu.app (.cons ⟨g1, hg1, a1, b1, c1, d2⟩ t2))
          simp at this
          omega
  · exfalso
    obtain ⟨z, l1, l2, l3, e⟩ := twice c1
    cases l1 with
    | nil =>
      rw [List.nil_append] at e
      obtain ⟨ex, er⟩ := List.cons.inj e
      subst ex
      obtain ⟨m1, p, m2, rfl, e1, e2, e3⟩ := cut_map er
      obtain ⟨n1, z1⟩ := p
      obtain rfl : z1 = x := e2
      obtain ⟨u, hu, hr⟩ := h.split
      cases hr with
      | cons s1 t1 =>
        have := hl m2 t1
        simp at this
        omega
    | cons a l1 =>
      obtain ⟨_, er⟩ := List.cons.inj e
      obtain ⟨m1, p, r, rfl, e1, e2, e3⟩ := cut_map er
      obtain ⟨m2, p', m3, rfl, e4, e5, e6⟩ := cut_map e3
      obtain ⟨n1, z1⟩ := p
      obtain ⟨n2, z2⟩ := p'
      obtain rfl : z1 = z := e2
      obtain rfl : z2 = z1 := e5
      obtain ⟨u, hu, hr⟩ := h.split
      cases hr with
      | cons s1 t1 =>
        obtain ⟨v, hv, hr2⟩ := t1.split
        cases hr2 with
        | cons s2 t2 =>
          have := hl (m1 ++ (n1, z2) :: m3) (hu.app (.cons s1 t2))
          simp at this
          omega
/-- a shortest path is a path in which nothing comes twice -/
theorem spath_good (nd : (gs.map (·.1)).Nodup) (hm : ∀ g ∈ gs, ∀ z ∈ g.2.1, z ∈ rs) (ho : one ∈ rs) {l : Pth} (h : spath gs bar rs one other = some l) : GoodP gs bar rs one l ∧ lastOf one l = other := by
  obtain ⟨h1, h2⟩ := spath_some hm ho h
  obtain ⟨h3, h4⟩ := h1.good nd h2
  exact ⟨⟨⟨_, h1⟩, h3, h4, h1.sub hm⟩, h1.end_.symm⟩
end
end WT

set_option Elab.async false
set_option linter.all false
namespace WT
open PySem PySem.Spec PyProof.Rows L2
/-- the dict of the search in memory -/
def TabAt (one : Str) (H : Hp) (kvs : List (Key × V)) (t : Tab) : Prop := Paired (fun (kv : Key × V) (p : Str × Pth) => kv.1 = Sum.inr p.1 ∧ ∃ a, kv.2 = .ref a ∧ H a = some (.tup (pathV one p.2))) kvs t
theorem TabAt.same {one : Str} {H H' : Hp} {kvs : List (Key × V)} {t : Tab} (h : TabAt one H kvs t) (s : ∀ c xs, H c = some (.tup xs) → H' c = some (.tup xs)) : TabAt one H' kvs t :=
  Paired.mapP h fun _ _ ⟨e, a, e1, e2⟩ => ⟨e, a, e1, s _ _ e2⟩
theorem TabAt.none_ {one : Str} {H : Hp} {x : Str} : ∀ {kvs : List (Key × V)} {t : Tab}, TabAt one H kvs t → x ∉ keysT t → valV kvs (Sum.inr x) = none
  | _, _, .nil, _ => rfl
  | _, _, .cons (a := kv) (b := p) r t, h => by
    rw [valV_neg fun e => h (by
      rw [r.1] at e
      cases e
      exact List.mem_cons_self)]
    exact TabAt.none_ t fun z => h (List.mem_cons_of_mem _ z)
theorem TabAt.some_ {one : Str} {H : Hp} {x : Str} {l : Pth} : ∀ {kvs : List (Key × V)} {t : Tab}, TabAt one H kvs t → tabGet t x = some l → ∃ a, valV kvs (Sum.inr x) = some (.ref a) ∧ H a = some (.tup (pathV one l))
  | _, _, .nil, h => by cases h
  | _, _, .cons (a := kv) (b := p) r t, h => by
    unfold tabGet at h
    by_cases c : p.1 = x
    · rw [if_pos c] at h
      cases h
      obtain ⟨e, a, e1, e2⟩ := r
      exact ⟨a, by rw [valV_pos (by rw [e, c]), e1], e2⟩
    · rw [if_neg c] at h
      rw [valV_neg fun e => c (by
        rw [r.1] at e
        cases e
        rfl)]
      exact TabAt.some_ t h
theorem TabAt.put {one : Str} {H : Hp} {kvs : List (Key × V)} {t : Tab} {x : Str} {l : Pth} {a : Addr} (h : TabAt one H kvs t) (hx : x ∉ keysT t) (ha : H a = some (.tup (pathV one l))) : putK kvs (Sum.inr x) (.ref a) = kvs ++ [(Sum.inr x, .ref a)] ∧ TabAt one H (kvs ++ [(Sum.inr x, .ref a)]) (t ++ [(x, l)]) :=
  ⟨putK_new _ (h.none_ hx), pair_snoc h ⟨rfl, a, rfl, ha⟩⟩
theorem BMid.len {gs : List Gt} {bar rs : List Str} {one : Str} {d : Nat} {t add : Tab} {far : List Str} (h : BMid gs bar rs one d t add) (B : BOk gs bar rs one d t far) : (t ++ add).length ≤ rs.length := by
  have := nodup_le (rs := rs) h.nod fun x hx => by
    rw [keys_app] at hx
    rcases List.mem_append.mp hx with hx | hx
    · exact B.sub x hx
    · exact h.sub x hx
  unfold keysT at this
  rw [List.length_map] at this
  exact this
/-- a path, or None -/
def PathRes (one : Str) (H : Hp) (v : V) : Option Pth → Prop
  | none => v = .non
  | some l => ∃ t, v = .ref t ∧ H t = some (.tup (pathV one l))
theorem PathRes.same {one : Str} {H H' : Hp} {v : V} {o : Option Pth} (h : PathRes one H v o) (s : Same H H') : PathRes one H' v o := by
  cases o with
  | none => exact h
  | some l =>
    obtain ⟨t, e1, e2⟩ := h
    exact ⟨t, e1, s _ _ e2⟩
end WT

set_option Elab.async false
set_option linter.all false
set_option maxRecDepth 100000
set_option maxHeartbeats 4000000
/-! min(xs, key=len, default=None), xs a list of tuples. -/
namespace WT
open PySem PySem.Spec PyProof.Rows L2
def lenAt (ts : List (Addr × List V)) (i : Nat) : Int := ((ts[i]?).map fun t => (t.2.length : Int)).getD 0
/-- the first of the shortest, or None -/
def tMinLen (K : PySem.W.Frag) (ta : TA) : TE := fun σ H Q => ta σ H fun vs H1 => ∃ (a : Addr) (ts : List (Addr × List V)), vs = [.ref a] ∧ SqL K H1 a (ts.map fun t => V.ref t.1) ∧ (∀ t ∈ ts, SqT K H1 t.1 t.2) ∧ (ts = [] → Q .non H1) ∧ ∀ t ∈ ts, (∀ u ∈ ts, t.2.length ≤ u.2.length) → Q (.ref t.1) H1
section
variable {X : Cx}
/-- what stood, stands -/
def Grown (s s' : Shared) : Prop := ∃ (h' : Heap) (tk : Nat), s' = { s with heap := h', toks := tk } ∧ ∀ b o, s.heap.get? b = some o → h'.get? b = some o
theorem Grown.moved {s s1 s2 : Shared} {ch : List Addr} (g : Grown s s1) (m : Moved ch (fun a b => b = a) s1 s2) (hc : ∀ b ∈ ch, s.heap.objs.size ≤ b) : Grown s s2 := by
  obtain ⟨h', tk, rfl, k⟩ := g
  refine ⟨s2.heap, s2.toks, ?_, fun b o e => m.heap b o (fun hb => absurd (Heap.lt_size e) (Nat.not_lt.mpr (hc b hb))) (k b o e)⟩
  obtain ⟨h2, g2, d2, t2, o2⟩ := s2
  have e1 := m.gens
  have e2 := m.drawn
  have e3 := m.os
  simp only at e1 e2 e3
  subst e1 e2 e3
  rfl
theorem run_minLen {pins : List (Addr × Obj)} {σ : L2.St} {H : Hp} {s : Shared} {Q : VK} {a : Addr} {ts : List (Addr × List V)} (hh : X.A.handled = none) (I : Inv X pins σ H s) (hl : SqL X.K H a (ts.map fun t => V.ref t.1)) (ht : ∀ t ∈ ts, SqT X.K H t.1 t.2)
    (h0 : ts = [] → Q .non H) (h1 : ∀ t ∈ ts, (∀ u ∈ ts, t.2.length ≤ u.2.length) → Q (.ref t.1) H) :
    wpAny (model X.prog X.w) X.A (call (.builtin "min") [.ref a] [(Str.ofString "key", .builtin "len"), (Str.ofString "default", .none)]) (EP X pins σ Q) X.xe s := by
  obtain ⟨its, rv, pl, hz⟩ := I.list hl
  have hlen : its.length = ts.length := by
    have := rv.length
    rw [List.length_map] at this
    exact this.symm
  have at_ : ∀ (i : Nat) (v : Value), its.toArray[i]? = some v → ∃ t, ts[i]? = some t ∧ v = .ref t.1 := fun i v hv => by
    have hv : its[i]? = some v := by simpa using hv
    have hi : i < ts.length := by
      have := (List.getElem?_eq_some_iff.mp hv).1
      omega
    obtain ⟨u, hu, ru⟩ := rv.get (i := i) (x := .ref ts[i].1) (by rw [List.getElem?_map, List.getElem?_eq_getElem hi]; rfl)
    rw [hv] at hu
    cases hu
    exact ⟨ts[i], List.getElem?_eq_getElem hi, ru⟩
  refine call_min_walkKBD (PySem.W.iter_listW (A := X.A.in1) hh pl.isList fun s2 e2 W hst hfp hnew hold => ?_)
  have hbig : ∀ b ∈ s2.heap.objs.size :: [s.heap.objs.size], s.heap.objs.size ≤ b := fun b hb => by
    rcases List.mem_cons.mp hb with rfl | hb
    · rw [e2]
      show s.heap.objs.size ≤ (s.heap.push _).objs.size
      rw [Heap.size_push]
      exact Nat.le_succ _
    · rw [List.mem_singleton.mp hb]
      exact Nat.le_refl _
  refine ⟨s.heap.objs.size, _, _, _, _, _, _, Grown s, fun i k _ => ∃ t, k = .int (lenAt ts i) t, fun i j => decide (lenAt ts i < lenAt ts j), rfl, W, hst, hfp, ?_, ⟨s2.heap, s2.toks, by rw [e2], hold⟩, fun hn s' g => ?_, fun hn v s' hv g => ?_⟩
  · refine ⟨fun s1 s' g m => g.moved m hbig, fun i k s1 s' h _ => h, fun i v s1 o Q' E' hi hv g st hS hQ => ?_, fun i j ki kj s1 Q' E' g hi hj hQ => ?_⟩
    · obtain ⟨t, hti, rfl⟩ := at_ i v hv
      obtain ⟨us, ru, pt, hz2⟩ := I.tuple (ht t (List.mem_of_getElem? hti))
      obtain ⟨h', tk, rfl, k⟩ := g
      refine len_tuple (pt.keeps k) ?_ (hQ _ _ ⟨h', tk + 1 + 1, rfl, k⟩ st hS ⟨tk + 1, ?_⟩ fun j k' hj => hj)
      · have l1 := ru.length
        have l2 := line63
        simp
        omega
      · have l1 := ru.length
        unfold lenAt
        rw [hti]
        simp [l1]
    · obtain ⟨t, rfl⟩ := hi
      obtain ⟨u, rfl⟩ := hj
      exact wpAny_lt_int hQ
  · have : ts = [] := by
      rw [List.size_toArray] at hn
      exact List.length_eq_zero_iff.mp (by omega)
    obtain ⟨h', tk, rfl, k⟩ := g
    exact ⟨.non, H, I.kept (t' := tk) k, rfl, h0 this⟩
  · obtain ⟨t, hti, rfl⟩ := at_ _ v hv
    obtain ⟨h', tk, rfl, k⟩ := g
    have best := argBest_lt (lenAt ts) (its.toArray.size - 1)
    refine ⟨.ref t.1, H, I.kept (t' := tk) k, rfl, h1 t (List.mem_of_getElem? hti) fun u hu => ?_⟩
    obtain ⟨j, hj, ej⟩ := List.getElem_of_mem hu
    have b := best.2 j (by rw [List.size_toArray]; omega)
    have e1 : lenAt ts j = (u.2.length : Int) := by
      unfold lenAt
      rw [List.getElem?_eq_getElem hj, ej]
      rfl
    have e2 : lenAt ts (argBest (fun i j => decide (lenAt ts i < lenAt ts j)) (its.toArray.size - 1)) = (t.2.length : Int) := by
      unfold lenAt at hti ⊢
      rw [hti]
      rfl
    rw [e1, e2] at b
    omega
theorem pe_minLen {e : Expr} {ta : TA} {p p2 k1 k2 k3 pos : Pos} {j : Nat} (hcalm : X.calm = true) (hg : Gl X "min") (hm : X.mg "min" = none) (hg2 : Gl X "len") (hm2 : X.mg "len" = none) (ha : PA X [e] ta)
    (hst : backTo pos (starEach [e] X.env) = (false, eval e X.env) :: backTo pos (starEach [] X.env) := by rfl) (hpl : (backTo pos (starEach [e] X.env)).any (·.1) = false := by rfl) :
    PE X (.Call (.Name "min" p) [e] [⟨some "key", .Name "len" p2, k1⟩, ⟨some "default", .Constant .none j k2, k3⟩] pos) (tMinLen X.K ta) := by
  refine ⟨fun pins s σ H Q I h => ?_⟩
  refine wpAny_Call_Name_kw (ld_blt I hg hm boot_min ?_)
  refine PyProof.Rows.callWith_kw (thn (ha.run pos pins s σ H _ I h) fun us s1 ⟨vs, H1, I1, r1, q1⟩ => ?_) hst hpl
  obtain ⟨a, ts, rfl, hl, ht, h0, h1⟩ := q1
  have ea := Vals.ref1 r1
  subst ea
  show wpAny _ _ (evalAll ((do let v ← eval (.Name "len" p2) X.env; standAt pos; pure v) :: (backToKw pos (keywordEach [⟨some "default", .Constant .none j k2, k3⟩] X.env)).map (·.2))) _ _ s1
  refine wpAny_evalAll_cons (wpAny_bind (ld_blt I1 hg2 hm2 boot_len (wpAny_bind (wpAny_standAt (wpAny_pure ?_)))))
  refine thn ((pk_cons pe_non pk_nil).run pos pins s1 σ H1 (fun vs H2 => vs = [.non] ∧ H2 = H1) I1 ⟨rfl, rfl⟩) fun ws s2 ⟨zs, H2, I2, r2, e2, e3⟩ => ?_
  subst e2 e3
  obtain ⟨u, rfl, ru⟩ := vals1 r2
  obtain rfl : u = Value.none := ru
  exact run_minLen (I2.ok.hd hcalm) I2 hl ht h0 h1
end
end WT

set_option Elab.async false
set_option linter.all false
set_option maxRecDepth 100000
set_option maxHeartbeats 4000000
/-! min(xs, key=len, default=None), told by the place: the first of the shortest. -/
namespace WT
open PySem PySem.Spec PyProof.Rows L2
def lenL (ns : List Nat) (i : Nat) : Int := ((ns[i]?).map fun n => (n : Int)).getD 0
/-- the place of the first of the least -/
def bestIx (ns : List Nat) : Nat := argBest (fun i j => decide (lenL ns i < lenL ns j)) (ns.length - 1)
theorem bestIx_ok (ns : List Nat) (h : ns ≠ []) : ∃ n, ns[bestIx ns]? = some n ∧ ∀ m ∈ ns, n ≤ m := by
  have b := argBest_lt (lenL ns) (ns.length - 1)
  have hl : 0 < ns.length := List.length_pos_iff.mpr h
  have hi : bestIx ns < ns.length := by
    have := b.1
    unfold bestIx
    omega
  refine ⟨ns[bestIx ns], List.getElem?_eq_getElem hi, fun m hm => ?_⟩
  obtain ⟨j, hj, ej⟩ := List.getElem_of_mem hm
  have c := b.2 j (by omega)
  have e1 : lenL ns j = (m : Int) := by
    unfold lenL
    rw [List.getElem?_eq_getElem hj, ej]
    rfl
  have e2 : lenL ns (bestIx ns) = (ns[bestIx ns] : Int) := by
    conv => lhs; unfold lenL
    rw [List.getElem?_eq_getElem hi]
    rfl
  have c2 : lenL ns (bestIx ns) ≤ lenL ns j := c
  rw [e1, e2] at c2
  omega
theorem lenAt_L (ts : List (Addr × List V)) : lenAt ts = lenL (ts.map fun t => t.2.length) := by
  funext i
  unfold lenAt lenL
  rw [List.getElem?_map]
  cases ts[i]? <;> rfl
def tMinLenI (K : PySem.W.Frag) (ta : TA) : TE := fun σ H Q => ta σ H fun vs H1 => ∃ (a : Addr) (ts : List (Addr × List V)), vs = [.ref a] ∧ SqL K H1 a (ts.map fun t => V.ref t.1) ∧ (∀ t ∈ ts, SqT K H1 t.1 t.2) ∧ (ts = [] → Q .non H1) ∧ ∀ t, ts[bestIx (ts.map fun t => t.2.length)]? = some t → Q (.ref t.1) H1
section
variable {X : Cx}
theorem run_minLenI {pins : List (Addr × Obj)} {σ : L2.St} {H : Hp} {s : Shared} {Q : VK} {a : Addr} {ts : List (Addr × List V)} (hh : X.A.handled = none) (I : Inv X pins σ H s) (hl : SqL X.K H a (ts.map fun t => V.ref t.1)) (ht : ∀ t ∈ ts, SqT X.K H t.1 t.2)
    (h0 : ts = [] → Q .non H) (h1 : ∀ t, ts[bestIx (ts.map fun t => t.2.length)]? = some t → Q (.ref t.1) H) :
    wpAny (model X.prog X.w) X.A (call (.builtin "min") [.ref a] [(Str.ofString "key", .builtin "len"), (Str.ofString "default", .none)]) (EP X pins σ Q) X.xe s := by
  obtain ⟨its, rv, pl, hz⟩ := I.list hl
  have hlen : its.length = ts.length := by
    have := rv.length
    rw [List.length_map] at this
    exact this.symm
  have at_ : ∀ (i : Nat) (v : Value), its.toArray[i]? = some v → ∃ t, ts[i]? = some t ∧ v = .ref t.1 := fun i v hv => by
    have hv : its[i]? = some v := by simpa using hv
    have hi : i < ts.length := by
      have := (List.getElem?_eq_some_iff.mp hv).1
      omega
    obtain ⟨u, hu, ru⟩ := rv.get (i := i) (x := .ref ts[i].1) (by rw [List.getElem?_map, List.getElem?_eq_getElem hi]; rfl)
    rw [hv] at hu
    cases hu
    exact ⟨ts[i], List.getElem?_eq_getElem hi, ru⟩
  refine call_min_walkKBD (PySem.W.iter_listW (A := X.A.in1) hh pl.isList fun s2 e2 W hst hfp hnew hold => ?_)
  have hbig : ∀ b ∈ s2.heap.objs.size :: [s.heap.objs.size], s.heap.objs.size ≤ b := fun b hb => by
    rcases List.mem_cons.mp hb with rfl | hb
    · rw [e2]
      show s.heap.objs.size ≤ (s.heap.push _).objs.size
      rw [Heap.size_push]
      exact Nat.le_succ _
    · rw [List.mem_singleton.mp hb]
      exact Nat.le_refl _
  refine ⟨s.heap.objs.size, _, _, _, _, _, _, Grown s, fun i k _ => ∃ t, k = .int (lenAt ts i) t, fun i j => decide (lenAt ts i < lenAt ts j), rfl, W, hst, hfp, ?_, ⟨s2.heap, s2.toks, by rw [e2], hold⟩, fun hn s' g => ?_, fun hn v s' hv g => ?_⟩
  · refine ⟨fun s1 s' g m => g.moved m hbig, fun i k s1 s' h _ => h, fun i v s1 o Q' E' hi hv g st hS hQ => ?_, fun i j ki kj s1 Q' E' g hi hj hQ => ?_⟩
    · obtain ⟨t, hti, rfl⟩ := at_ i v hv
      obtain ⟨us, ru, pt, hz2⟩ := I.tuple (ht t (List.mem_of_getElem? hti))
      obtain ⟨h', tk, rfl, k⟩ := g
      refine len_tuple (pt.keeps k) ?_ (hQ _ _ ⟨h', tk + 1 + 1, rfl, k⟩ st hS ⟨tk + 1, ?_⟩ fun j k' hj => hj)
      · have l1 := ru.length
        have l2 := line63
        simp
        omega
      · have l1 := ru.length
        unfold lenAt
        rw [hti]
        simp [l1]
    · obtain ⟨t, rfl⟩ := hi
      obtain ⟨u, rfl⟩ := hj
      exact wpAny_lt_int hQ
  · have : ts = [] := by
      rw [List.size_toArray] at hn
      exact List.length_eq_zero_iff.mp (by omega)
    obtain ⟨h', tk, rfl, k⟩ := g
    exact ⟨.non, H, I.kept (t' := tk) k, rfl, h0 this⟩
  · obtain ⟨t, hti, rfl⟩ := at_ _ v hv
    obtain ⟨h', tk, rfl, k⟩ := g
    refine ⟨.ref t.1, H, I.kept (t' := tk) k, rfl, h1 t ?_⟩
    unfold bestIx
    rw [← lenAt_L, List.length_map, ← hlen]
    exact hti
theorem pe_minLenI {e : Expr} {ta : TA} {p p2 k1 k2 k3 pos : Pos} {j : Nat} (hcalm : X.calm = true) (hg : Gl X "min") (hm : X.mg "min" = none) (hg2 : Gl X "len") (hm2 : X.mg "len" = none) (ha : PA X [e] ta)
    (hst : backTo pos (starEach [e] X.env) = (false, eval e X.env) :: backTo pos (starEach [] X.env) := by rfl) (hpl : (backTo pos (starEach [e] X.env)).any (·.1) = false := by rfl) :
    PE X (.Call (.Name "min" p) [e] [⟨some "key", .Name "len" p2, k1⟩, ⟨some "default", .Constant .none j k2, k3⟩] pos) (tMinLenI X.K ta) := by
  refine ⟨fun pins s σ H Q I h => ?_⟩
  refine wpAny_Call_Name_kw (ld_blt I hg hm boot_min ?_)
  refine PyProof.Rows.callWith_kw (thn (ha.run pos pins s σ H _ I h) fun us s1 ⟨vs, H1, I1, r1, q1⟩ => ?_) hst hpl
  obtain ⟨a, ts, rfl, hl, ht, h0, h1⟩ := q1
  have ea := Vals.ref1 r1
  subst ea
  show wpAny _ _ (evalAll ((do let v ← eval (.Name "len" p2) X.env; standAt pos; pure v) :: (backToKw pos (keywordEach [⟨some "default", .Constant .none j k2, k3⟩] X.env)).map (·.2))) _ _ s1
  refine wpAny_evalAll_cons (wpAny_bind (ld_blt I1 hg2 hm2 boot_len (wpAny_bind (wpAny_standAt (wpAny_pure ?_)))))
  refine thn ((pk_cons pe_non pk_nil).run pos pins s1 σ H1 (fun vs H2 => vs = [.non] ∧ H2 = H1) I1 ⟨rfl, rfl⟩) fun ws s2 ⟨zs, H2, I2, r2, e2, e3⟩ => ?_
  subst e2 e3
  obtain ⟨u, rfl, ru⟩ := vals1 r2
  obtain rfl : u = Value.none := ru
  exact run_minLenI (I2.ok.hd hcalm) I2 hl ht h0 h1
end
end WT

set_option Elab.async false
set_option linter.all false
set_option maxRecDepth 100000
set_option maxHeartbeats 4000000
namespace WT
open PySem PySem.Spec PyProof.Rows L2
/-! ### the cycle that cycle_through finds, as a function -/
def ltS (a b : Str) : Bool := decide (a.cps.toList < b.cps.toList)
def rowP (ms : List Str) (a : Str) : List (Str × Str) := (ms.filter (ltS a)).map fun b => (a, b)
def pairsP (ms : List Str) : List (Str × Str) := ms.flatMap (rowP ms)
def askP (gs : List Gt) (rs : List Str) (x : Str) (p : Str × Str) : Str × Option Pth := (p.1, spath gs [x] rs p.1 p.2)
def fsOf (ps : List (Str × Option Pth)) : List (Str × Pth) := ps.filterMap fun p => p.2.map fun l => (p.1, l)
def plen (f : Str × Pth) : Nat := (pathV f.1 f.2).length
def bestF (fs : List (Str × Pth)) : Option (Str × Pth) := fs[bestIx (fs.map plen)]?
def cycOf (x : Str) (f : Str × Pth) : List (Str × Str) := (lastOf f.1 f.2, x) :: ((f.1 :: f.2.map (·.2)).dropLast.zip (f.2.map (·.1)))
def cycT (gs : List Gt) (rs : List Str) (g : Gt) : Option (List (Str × Str)) := (bestF (fsOf ((pairsP g.2.1).map (askP gs rs g.1)))).map (cycOf g.1)
def wrapsG (gs : List Gt) : List Gt := gs.filter fun g : Gt => decide (g.2.2 = ("wrap" : Str))
def cycsW (gs : List Gt) (rs : List Str) : List (List (Str × Str)) := (wrapsG gs).filterMap (cycT gs rs)
def scyc (gs : List Gt) (rs : List Str) : Option (List (Str × Str)) := (cycsW gs rs)[bestIx ((cycsW gs rs).map List.length)]?
theorem best_none {fs : List (Str × Pth)} : bestF fs = none ↔ fs = [] := by
  constructor
  · intro h
    by_cases c : fs = []
    · exact c
    · obtain ⟨n, h1, _⟩ := bestIx_ok (fs.map plen) (by simpa using c)
      rw [List.getElem?_map] at h1
      unfold bestF at h
      rw [h] at h1
      cases h1
  · rintro rfl
    rfl
theorem best_some {fs : List (Str × Pth)} {f : Str × Pth} (h : bestF fs = some f) : f ∈ fs ∧ ∀ u ∈ fs, f.2.length ≤ u.2.length := by
  refine ⟨List.mem_of_getElem? h, fun u hu => ?_⟩
  obtain ⟨n, h1, h2⟩ := bestIx_ok (fs.map plen) (by
    intro z
    rw [List.map_eq_nil_iff.mp z] at hu
    cases hu)
  rw [List.getElem?_map] at h1
  unfold bestF at h
  rw [h] at h1
  cases h1
  have := h2 (plen u) (List.mem_map.mpr ⟨u, hu, rfl⟩)
  unfold plen at this
  rw [pathV_len, pathV_len] at this
  omega
theorem mem_pairs {ms : List Str} {a b : Str} : (a, b) ∈ pairsP ms ↔ a ∈ ms ∧ b ∈ ms ∧ a.cps.toList < b.cps.toList := by
  unfold pairsP rowP
  rw [List.mem_flatMap]
  constructor
  · rintro ⟨x, hx, h⟩
    obtain ⟨y, hy, e⟩ := List.mem_map.mp h
    cases e
    obtain ⟨h1, h2⟩ := List.mem_filter.mp hy
    exact ⟨hx, h1, of_decide_eq_true h2⟩
  · rintro ⟨h1, h2, h3⟩
    exact ⟨a, h1, List.mem_map.mpr ⟨b, List.mem_filter.mpr ⟨h2, decide_eq_true h3⟩, rfl⟩⟩
theorem mem_fs {gs : List Gt} {rs : List Str} {x : Str} {ms : List Str} {a : Str} {l : Pth} : (a, l) ∈ fsOf ((pairsP ms).map (askP gs rs x)) ↔ ∃ b, a ∈ ms ∧ b ∈ ms ∧ a.cps.toList < b.cps.toList ∧ spath gs [x] rs a b = some l := by
  unfold fsOf
  rw [List.mem_filterMap]
  constructor
  · rintro ⟨p, hp, h⟩
    obtain ⟨⟨a', b⟩, hq, rfl⟩ := List.mem_map.mp hp
    obtain ⟨l', e1, e2⟩ := Option.map_eq_some_iff.mp h
    cases e2
    obtain ⟨h1, h2, h3⟩ := mem_pairs.mp hq
    exact ⟨b, h1, h2, h3, e1⟩
  · rintro ⟨b, h1, h2, h3, h4⟩
    refine ⟨(a, some l), List.mem_map.mpr ⟨(a, b), mem_pairs.mpr ⟨h1, h2, h3⟩, ?_⟩, rfl⟩
    unfold askP
    rw [h4]
section
variable {gs : List Gt} {bar rs : List Str}
theorem Step.rev {x n z : Str} (h : Step gs bar x n z) : Step gs bar z n x := by
  obtain ⟨g, h1, h2, h3, h4, h5⟩ := h
  exact ⟨g, h1, h2, h3, h5, h4⟩
theorem SPath.rev {x y : Str} {l : Pth} (h : SPath gs bar x l y) : ∃ l', l'.length = l.length ∧ SPath gs bar y l' x := by
  induction h with
  | nil x => exact ⟨[], rfl, .nil x⟩
  | @cons x n z y l s _ ih =>
    obtain ⟨l', h1, h2⟩ := ih
    exact ⟨l' ++ [(n, x)], by simp [h1], h2.app (.cons s.rev (.nil _))⟩
theorem SPath.at_ {x y : Str} {l : Pth} (h : SPath gs bar x l y) : ∀ (i : Nat) (n z : Str), l[i]? = some (n, z) → ∃ u, (x :: l.map (·.2))[i]? = some u ∧ Step gs bar u n z := by
  induction h with
  | nil x => intro i n z h; cases h
  | @cons x n0 z0 y l s _ ih =>
    intro i n z h
    cases i with
    | zero =>
      cases h
      exact ⟨x, rfl, s⟩
    | succ i =>
      obtain ⟨u, h1, h2⟩ := ih i n z h
      exact ⟨u, h1, h2⟩
end
/-- the length of some cycle through the gateway -/
def CycLn (gs : List Gt) (rs : List Str) (g : Gt) (n : Nat) : Prop := ∃ a ∈ g.2.1, ∃ b ∈ g.2.1, b ≠ a ∧ ∃ l, GoodP gs [g.1] rs a l ∧ lastOf a l = b ∧ n = 1 + l.length
/-- the gateway called n has the regions a and b as members -/
def Has (gs : List Gt) (n a b : Str) : Prop := ∃ g ∈ gs, g.1 = n ∧ a ∈ g.2.1 ∧ b ∈ g.2.1
structure IsCyc (gs : List Gt) (rs : List Str) (c : List (Str × Str)) : Prop where
  two : 2 ≤ c.length
  reg : (c.map (·.1)).Nodup
  gat : (c.map (·.2)).Nodup
  join : ∀ (i : Nat) (q : Str × Str) (z : Str), c[i]? = some q → ((c.map (·.1)).tail ++ (c.map (·.1)).take 1)[i]? = some z → Has gs q.2 q.1 z
  short : c.length ≤ rs.length
theorem last_initD {α : Type} : ∀ (l : List α) (d : α), (d :: l).dropLast ++ [l.getLastD d] = d :: l
  | [], d => rfl
  | x :: l, d => by
    rw [List.getLastD_cons]
    show d :: ((x :: l).dropLast ++ [l.getLastD x]) = _
    rw [last_initD l x]
theorem last_init (a : Str) (l : Pth) : (a :: l.map (·.2)).dropLast ++ [lastOf a l] = a :: l.map (·.2) := last_initD _ _
theorem zip_maps (a : Str) (l : Pth) : ((a :: l.map (·.2)).dropLast.zip (l.map (·.1))).map (·.1) = (a :: l.map (·.2)).dropLast ∧ ((a :: l.map (·.2)).dropLast.zip (l.map (·.1))).map (·.2) = l.map (·.1) := by
  have e : (a :: l.map (·.2)).dropLast.length = (l.map (·.1)).length := by simp
  exact ⟨List.map_fst_zip (Nat.le_of_eq e), List.map_snd_zip (Nat.le_of_eq e.symm)⟩
section
variable {gs : List Gt} {rs : List Str}
theorem cycOf_len (x : Str) (f : Str × Pth) : (cycOf x f).length = 1 + f.2.length := by
  unfold cycOf
  rw [List.length_cons, List.length_zip]
  simp
  omega
theorem cycOf_ok (nd : (gs.map (·.1)).Nodup) (hm : ∀ g ∈ gs, ∀ z ∈ g.2.1, z ∈ rs) {g : Gt} (hg : g ∈ gs) {a b : Str} {l : Pth} (ha : a ∈ g.2.1) (hb : b ∈ g.2.1) (ne : a ≠ b) (G : GoodP gs [g.1] rs a l) (e : lastOf a l = b) : IsCyc gs rs (cycOf g.1 (a, l)) := by
  obtain ⟨m1, m2⟩ := zip_maps a l
  have i1 := last_init a l
  have lpos : 0 < l.length := by
    cases l with
    | nil => exact absurd e ne
    | cons _ _ => simp
  have sp : SPath gs [g.1] a l b := by
    rw [← e]
    exact G.last
  refine ⟨by rw [cycOf_len]; show 2 ≤ 1 + l.length; omega, ?_, ?_, fun i q z hq hz => ?_, ?_⟩
  · unfold cycOf
    rw [List.map_cons, m1]
    have p : (lastOf a l :: (a :: l.map (·.2)).dropLast).Perm (a :: l.map (·.2)) := by
      have := List.perm_append_comm (l₁ := [lastOf a l]) (l₂ := (a :: l.map (·.2)).dropLast)
      rw [i1] at this
      exact this
    exact p.nodup_iff.mpr G.reg
  · unfold cycOf
    rw [List.map_cons, m2]
    refine List.nodup_cons.mpr ⟨fun z => ?_, G.gat⟩
    obtain ⟨p, hp, ep⟩ := List.mem_map.mp z
    obtain ⟨i, hi, ei⟩ := List.getElem_of_mem hp
    obtain ⟨n, z2⟩ := p
    obtain ⟨u, _, g2, _, e3, e4, _⟩ := sp.at_ i n z2 (by rw [List.getElem?_eq_getElem hi, ei])
    have ep : n = g.1 := ep
    exact e4 (by rw [ep]; simp)
  · unfold cycOf at hq hz
    rw [List.map_cons, m1, List.tail_cons] at hz
    have hz : ((a :: l.map (·.2)).dropLast ++ [lastOf a l])[i]? = some z := hz
    rw [i1] at hz
    cases i with
    | zero =>
      cases hq
      cases hz
      refine ⟨g, hg, rfl, ?_, ha⟩
      show lastOf a l ∈ g.2.1
      rw [e]
      exact hb
    | succ i =>
      have hq : ((a :: l.map (·.2)).dropLast.zip (l.map (·.1)))[i]? = some q := hq
      have hz : (l.map (·.2))[i]? = some z := hz
      obtain ⟨h1, h2⟩ := List.getElem?_zip_eq_some.mp hq
      rw [List.getElem?_map] at hz h2
      obtain ⟨⟨n, z'⟩, e1, e2⟩ := Option.map_eq_some_iff.mp hz
      rw [e1] at h2
      have e2 : z' = z := e2
      have h2 : n = q.2 := Option.some.inj h2
      obtain ⟨u, e3, g2, f1, f2, f3, f4, f5⟩ := sp.at_ i n z' e1
      have hu : u = q.1 := by
        have : (a :: l.map (·.2)).dropLast[i]? = (a :: l.map (·.2))[i]? := by
          have hlt := (List.getElem?_eq_some_iff.mp h1).1
          rw [List.getElem?_dropLast]
          rw [if_pos]
          rw [List.length_dropLast] at hlt
          exact hlt
        rw [this, e3] at h1
        exact Option.some.inj h1
      exact ⟨g2, f1, by rw [f2, h2], by rw [← hu]; exact f4, by rw [← e2]; exact f5⟩
  · rw [cycOf_len]
    have := G.len (hm g hg a ha)
    show 1 + l.length ≤ rs.length
    omega
theorem cycT_none (hm : ∀ g ∈ gs, ∀ z ∈ g.2.1, z ∈ rs) {g : Gt} (hg : g ∈ gs) : cycT gs rs g = none ↔ ¬ ∃ a ∈ g.2.1, ∃ b ∈ g.2.1, a.cps.toList < b.cps.toList ∧ Conn gs [g.1] a b := by
  unfold cycT
  rw [Option.map_eq_none_iff, best_none]
  constructor
  · rintro h ⟨a, ha, b, hb, lt, c⟩
    cases e : spath gs [g.1] rs a b with
    | none => exact (spath_none hm (hm g hg a ha)).mp e c
    | some l =>
      have : (a, l) ∈ fsOf ((pairsP g.2.1).map (askP gs rs g.1)) := mem_fs.mpr ⟨b, ha, hb, lt, e⟩
      rw [h] at this
      cases this
  · intro h
    refine List.eq_nil_iff_forall_not_mem.mpr fun f hf => h ?_
    obtain ⟨a, l⟩ := f
    obtain ⟨b, h1, h2, h3, h4⟩ := mem_fs.mp hf
    exact ⟨a, h1, b, h2, h3, (spath_some hm (hm g hg a h1) h4).1.conn⟩
/-- what cycle_through finds is a shortest cycle through the gateway -/
theorem cycT_some (nd : (gs.map (·.1)).Nodup) (hm : ∀ g ∈ gs, ∀ z ∈ g.2.1, z ∈ rs) {g : Gt} (hg : g ∈ gs) {c : List (Str × Str)} (h : cycT gs rs g = some c) : IsCyc gs rs c ∧ g.1 ∈ c.map (·.2) ∧ CycLn gs rs g c.length ∧ ∀ n, CycLn gs rs g n → c.length ≤ n := by
  unfold cycT at h
  obtain ⟨⟨a, l⟩, hb, rfl⟩ := Option.map_eq_some_iff.mp h
  obtain ⟨hf, hmin⟩ := best_some hb
  obtain ⟨b, h1, h2, h3, h4⟩ := mem_fs.mp hf
  obtain ⟨G, e⟩ := spath_good nd hm (hm g hg a h1) h4
  refine ⟨cycOf_ok nd hm hg h1 h2 (str_irrefl h3) G e, by unfold cycOf; simp, ⟨a, h1, b, h2, (str_irrefl h3).symm, l, G, e, by rw [cycOf_len]⟩, fun n hn => ?_⟩
  obtain ⟨a', ha', b', hb', ne, m, Gm, em, rfl⟩ := hn
  have sp : SPath gs [g.1] a' m b' := by
    rw [← em]
    exact Gm.last
  rw [cycOf_len]
  show 1 + l.length ≤ 1 + m.length
  rcases str_tri a' b' with q | q | q
  · cases e2 : spath gs [g.1] rs a' b' with
    | none => exact absurd sp.conn ((spath_none hm (hm g hg a' ha')).mp e2)
    | some l2 =>
      have k1 := hmin (a', l2) (mem_fs.mpr ⟨b', ha', hb', q, e2⟩)
      have k2 := (spath_some hm (hm g hg a' ha') e2).2 m sp
      have k1 : l.length ≤ l2.length := k1
      omega
  · exact absurd q.symm ne
  · obtain ⟨m', el, sp'⟩ := sp.rev
    cases e2 : spath gs [g.1] rs b' a' with
    | none => exact absurd sp'.conn ((spath_none hm (hm g hg b' hb')).mp e2)
    | some l2 =>
      have k1 := hmin (b', l2) (mem_fs.mpr ⟨a', hb', ha', q, e2⟩)
      have k2 := (spath_some hm (hm g hg b' hb') e2).2 m' sp'
      have k1 : l.length ≤ l2.length := k1
      omega
theorem scyc_none : scyc gs rs = none ↔ ∀ g ∈ wrapsG gs, cycT gs rs g = none := by
  unfold scyc
  constructor
  · intro h g hg
    cases e : cycT gs rs g with
    | none => rfl
    | some c =>
      have hc : c ∈ cycsW gs rs := List.mem_filterMap.mpr ⟨g, hg, e⟩
      obtain ⟨n, h1, _⟩ := bestIx_ok ((cycsW gs rs).map List.length) (by
        intro z
        rw [List.map_eq_nil_iff.mp z] at hc
        cases hc)
      rw [List.getElem?_map, h] at h1
      cases h1
  · intro h
    have : cycsW gs rs = [] := by
      refine List.eq_nil_iff_forall_not_mem.mpr fun c hc => ?_
      obtain ⟨g, hg, e⟩ := List.mem_filterMap.mp hc
      rw [h g hg] at e
      cases e
    rw [this]
    rfl
theorem scyc_some {c : List (Str × Str)} (h : scyc gs rs = some c) : (∃ g ∈ wrapsG gs, cycT gs rs g = some c) ∧ ∀ g ∈ wrapsG gs, ∀ c', cycT gs rs g = some c' → c.length ≤ c'.length := by
  unfold scyc at h
  have hc := List.mem_of_getElem? h
  obtain ⟨g, hg, e⟩ := List.mem_filterMap.mp hc
  refine ⟨⟨g, hg, e⟩, fun g' hg' c' e' => ?_⟩
  have hc' : c' ∈ cycsW gs rs := List.mem_filterMap.mpr ⟨g', hg', e'⟩
  obtain ⟨n, h1, h2⟩ := bestIx_ok ((cycsW gs rs).map List.length) (by
    intro z
    rw [List.map_eq_nil_iff.mp z] at hc
    cases hc)
  rw [List.getElem?_map, h] at h1
  cases h1
  exact h2 _ (List.mem_map.mpr ⟨c', hc', rfl⟩)
end
theorem pick_same {α β : Type} {f g : α → Option β} : ∀ l : List α, (∀ m ∈ l, f m = g m) → l.filterMap f = l.filterMap g
  | [], _ => rfl
  | x :: l, h => by
    rw [List.filterMap_cons, List.filterMap_cons, h x List.mem_cons_self, pick_same l fun m hm => h m (List.mem_cons_of_mem _ hm)]
theorem step_init (one : Str) (l : Pth) : stepL (pathV one l) none (some (-1)) 2 = ((one :: l.map (·.2)).dropLast).map V.str := by
  have h := pick_all (((one :: l.map (·.2)).dropLast).map V.str)
  have dl : (((one :: l.map (·.2)).dropLast).map V.str).length = l.length := by simp
  have e0 : (Builtin.Slice.sliceAdjust none (some (-1)) 2 ((pathV one l).length : Int)).1 = 0 := rfl
  have e : Builtin.Slice.slicePlaces (Builtin.Slice.sliceAdjust none (some (-1)) 2 ((pathV one l).length : Int)).1 (Builtin.Slice.sliceAdjust none (some (-1)) 2 ((pathV one l).length : Int)).2 2 = l.length := by
    rw [e0, pathV_len]
    unfold Builtin.Slice.slicePlaces Builtin.Slice.sliceAdjust
    simp
    omega
  unfold stepL
  rw [e]
  rw [dl] at h
  refine Eq.trans (pick_same _ fun m hm => ?_) h
  have hm := List.mem_range.mp hm
  rw [e0, show ((0 : Int) + (m : Int) * 2).toNat = 2 * m by omega, pathV_even, List.getElem?_map, List.getElem?_map, List.getElem?_dropLast, if_pos (by simp; omega)]
/-- a cycle in memory, or None -/
def CycRes (H : Hp) (v : V) : Option (List (Str × Str)) → Prop
  | none => v = .non
  | some c => ∃ p us, v = .ref p ∧ H p = some (.tup (us.map V.ref)) ∧ Paired (fun u (q : Str × Str) => H u = some (.tup [.str q.1, .str q.2])) us c
theorem CycRes.same {H H' : Hp} {v : V} {o : Option (List (Str × Str))} (h : CycRes H v o) (s : Same H H') : CycRes H' v o := by
  cases o with
  | none => exact h
  | some l =>
    obtain ⟨p, us, e1, e2, e3⟩ := h
    exact ⟨p, us, e1, s _ _ e2, Paired.mapP e3 fun _ _ z => s _ _ z⟩
theorem pair_zip {H : Hp} : ∀ {us : List Addr} {rs ns : List Str}, Paired (fun t (q : V × V) => H t = some (.tup [q.1, q.2])) us ((rs.map V.str).zip (ns.map V.str)) → Paired (fun u (q : Str × Str) => H u = some (.tup [.str q.1, .str q.2])) us (rs.zip ns)
  | us, [], ns, h => by
    simp at h ⊢
    cases h
    exact .nil
  | us, r :: rs, [], h => by
    simp at h ⊢
    cases h
    exact .nil
  | us, r :: rs, n :: ns, h => by
    rw [List.map_cons, List.map_cons, List.zip_cons_cons] at h
    cases h with
    | cons h t => exact .cons h (pair_zip t)
end WT

set_option Elab.async false
set_option linter.all false
set_option maxRecDepth 100000
set_option maxHeartbeats 4000000
namespace WT
open PySem PySem.Spec PyProof.Rows L2
section
variable {X : Cx}
/-- b is not c, two booleans -/
theorem op_notB : OpR X (compareOp .IsNot) (fun x y H Q => ∃ c d : Bool, x = .bl c ∧ y = .bl d ∧ Q (.bl (c != d)) H) := by
  intro pins s σ H x y v u Q I rx ry h
  obtain ⟨c, d, rfl, rfl, q⟩ := h
  cases rx
  cases ry
  exact isnot_bool (fin_bl I q rfl)
theorem op_eqDK {K : PySem.W.Frag} (hu : X.A.units + 64 < cLine) (hK : X.K = K := by rfl) : OpR X (compareOp .Eq) (rEqD K) := by
  subst hK
  exact op_eqD hu
end
theorem merge_new : ∀ (more kvs : List (Key × V)), ((kvs ++ more).map (·.1)).Nodup → mergeK kvs more = kvs ++ more
  | [], kvs, _ => by
    rw [List.append_nil]
    rfl
  | m :: more, kvs, h => by
    have hn : m.1 ∉ kvs.map (·.1) := fun z => by
      rw [List.map_append] at h
      exact (List.nodup_append.mp h).2.2 _ z m.1 (by simp) rfl
    have e : putK kvs m.1 m.2 = kvs ++ [m] := putK_new _ (valV_none hn)
    have := merge_new more (kvs ++ [m]) (by rw [List.append_assoc]; exact h)
    rw [List.append_assoc] at this
    show mergeK (putK kvs m.1 m.2) more = _
    rw [e]
    exact this
theorem next_mod {c : List (Str × Str)} {i : Nat} (hi : i < c.length) : ((c.map (·.1)).tail ++ (c.map (·.1)).take 1)[i]? = (c[(i + 1) % c.length]?).map (·.1) := by
  cases c with
  | nil => simp at hi
  | cons c0 ct =>
    rw [List.length_cons] at hi ⊢
    show (ct.map (·.1) ++ [c0.1])[i]? = _
    by_cases h : i < ct.length
    · rw [Nat.mod_eq_of_lt (by omega), List.getElem?_append_left (by rw [List.length_map]; exact h), List.getElem?_map]
      rfl
    · obtain rfl : i = ct.length := by omega
      rw [Nat.mod_self, List.getElem?_append_right (by rw [List.length_map]; exact Nat.le_refl _), List.length_map, Nat.sub_self]
      rfl
def cycD (c : List (Str × Str)) : PyData := .tuple (c.map fun q => .tuple [.str q.1, .str q.2])
theorem dp_pairs {K : PySem.W.Frag} {H : Hp} : ∀ {us : List Addr} {c : List (Str × Str)}, Paired (fun u (q : Str × Str) => H u = some (.tup [.str q.1, .str q.2])) us c → DpAll K H (us.map V.ref) (c.map fun q => PyData.tuple [.str q.1, .str q.2])
  | _, _, .nil => .nil
  | _, _, .cons h t => .cons (.tup (SqT.of h) (.cons (.str _) (.cons (.str _) .nil))) (dp_pairs t)
theorem lay_pairs : ∀ c : List (Str × Str), (∀ q ∈ c, PyData.strOk q.1 = true ∧ PyData.strOk q.2 = true) → PyData.canLayAll0 (c.map fun q => PyData.tuple [.str q.1, .str q.2]) = true ∧ PyData.depthAll (c.map fun q => PyData.tuple [.str q.1, .str q.2]) ≤ 1
  | [], _ => ⟨by rw [List.map_nil, PyData.canLayAll0], by rw [List.map_nil, PyData.depthAll]; exact Nat.zero_le _⟩
  | q :: c, h => by
    obtain ⟨h1, h2⟩ := lay_pairs c fun x hx => h x (List.mem_cons_of_mem _ hx)
    obtain ⟨g1, g2⟩ := h q List.mem_cons_self
    have d := lay_strs [q.1, q.2] fun s hs => by
      have : s = q.1 ∨ s = q.2 := by simpa using hs
      rcases this with e | e
      · rw [e]; exact g1
      · rw [e]; exact g2
    have e : ([PyData.str q.1, PyData.str q.2] : List PyData) = [q.1, q.2].map PyData.str := rfl
    rw [List.map_cons, PyData.canLayAll0, PyData.depthAll, h1, PyData.canLay0, PyData.depth, e, d.1, d.2]
    exact ⟨rfl, Nat.max_le.mpr ⟨by decide, h2⟩⟩
theorem shaped_cyc {c : List (Str × Str)} (h : ∀ q ∈ c, PyData.strOk q.1 = true ∧ PyData.strOk q.2 = true) : SeqAt.shaped (cycD c) = true := by
  obtain ⟨h1, h2⟩ := lay_pairs c h
  unfold SeqAt.shaped cycD
  rw [PyData.canLay0, PyData.depth, h1]
  simp
  omega
theorem fit_small : ∀ n : Nat, n < 20 → (PyData.int (n : Int)).showable = true ∧ (PyData.int (n : Int)).depth ≤ 60 ∧ (PyData.int (n : Int)).shown.length ≤ sizeLine := by
  have : ∀ n : Fin 20, (PyData.int ((n.1 : Nat) : Int)).showable = true ∧ (PyData.int ((n.1 : Nat) : Int)).depth ≤ 60 ∧ (PyData.int ((n.1 : Nat) : Int)).shown.length ≤ sizeLine := by decide +kernel
  exact fun n h => this ⟨n, h⟩
end WT

set_option Elab.async false
set_option linter.all false
set_option maxRecDepth 100000
set_option maxHeartbeats 4000000
/-! values of any kind: x in a list or tuple of texts, isinstance. -/
namespace PySem.SeqAt
open AutoSeq1 (wpAny_loadPart')
open MeetsSeq
/-- a text declines to be compared with a dict -/
theorem txt_declines (b : Str) (u : Tok) (l : Addr) (di : Option Addr) (es : Array DictEntry) (ep : Nat) (sl : Array (Option Value)) : Meets (Builtin.«str.__eq__» ⟨[.str b u, .ref l], []⟩) (fun _ Rr st => st.heap.get? l = some { cls := .type "dict", dict := di, data := .dict es ep, slots := sl } ∧ Rr (.ok (.ret .notImplemented)) st) :=
  .of_wp fun pr wd Ar Rr st hyp => by
    obtain ⟨hh, gg, dd, tt, oo⟩ := st
    obtain ⟨hl, hyp⟩ := hyp
    wp_walk using wpAny_loadPart' hl, wpAny_load hl
    exact ⟨_, rfl, hyp⟩
theorem dict_declines (l : Addr) (b : Str) (u : Tok) (ob : Obj) : Meets (Builtin.«dict.__eq__» ⟨[.ref l, .str b u], []⟩) (fun _ Rr st => st.heap.get? l = some ob ∧ ob.cls = .type "dict" ∧ Rr (.ok (.ret .notImplemented)) st) :=
  .of_wp fun pr wd Ar Rr st hyp => by
    obtain ⟨hh, gg, dd, tt, oo⟩ := st
    obtain ⟨hl, hc, hyp⟩ := hyp
    obtain ⟨cl, di, da, sl⟩ := ob
    have hc : cl = .type "dict" := hc
    subst hc
    have f1 := F.sub_str_dict
    wp_walk using wpAny_loadPart' hl, wpAny_load hl
    exact ⟨_, rfl, hyp⟩
end PySem.SeqAt
namespace PySem.SeqAt
section
variable {A : Around} {s : Shared}
theorem eqAt_txt_dict {l : Addr} {ob : Obj} {es : Array DictEntry} {ep : Nat} (b : Str) (u : Tok) (ho : s.heap.get? l = some ob) (hc : ob.cls = .type "dict") (hd : ob.data = .dict es ep) (hu : A.units < cLine) : EqAt A s (.str b u) (.ref l) false := fun pr wd Er Q hq => by
  have rc : ∀ Q' : Value → Shared → Prop, Q' (.bool false) s → wpAny (model pr wd) A (richCompare .Eq (.str b u) (.ref l)) Q' Er s := fun Q' hq' => by
    obtain ⟨cl, di, da, sl⟩ := ob
    simp only at hc hd
    subst hc hd
    refine rc_eq_decline_or (k := false) (typeIs_str s b u) ⟨_, ho, rfl⟩ (by decide) F.sub_dict_str F.slot_str_eq F.slot_dict_eq_refl (fun _ z => ?_) (fun _ z => ?_) (fun _ z => wpAny_of_eq (rfl : isSame (.str b u) (.ref l) = pure false) z) (.inr hu) hq'
    · exact call_meets F.slot_str_eq (typeIs_str s b u) F.entry_str_eq (F.args_str_eq_2 _ _) (txt_declines b u l di es ep sl) ⟨ho, z⟩
    · exact call_meets F.slot_dict_eq_refl ⟨_, ho, rfl⟩ F.entry_dict_eq (F.args_dict_eq_2 _ _) (dict_declines l b u _) ⟨ho, rfl, z⟩
  unfold eqBool
  refine wpAny_holding (wpAny_ite_split (fun hab => absurd (eq_of_beq hab) nofun) (fun _ => ?_))
  exact wpAny_bind (rc _ (wpAny_truthy_bool hq))
end
end PySem.SeqAt
namespace WT
open PySem PySem.Spec PyProof.Rows L2
/-- the data is a text among these -/
def isIn (d : PyData) (ss : List Str) : Bool := match d with
  | .str s => decide (s ∈ ss)
  | _ => false
/-- what an item, a text, answers -/
def eqT (d : PyData) (u : Value) : Bool := match d, u with
  | .str s, .str z _ => z == s
  | _, _ => false
theorem any_eqT (d : PyData) : ∀ {ss : List Str} {us : List Value}, Vals (ss.map V.str) us → us.any (eqT d) = isIn d ss
  | [], _, r => by
    cases r
    cases d <;> rfl
  | s :: ss, _, r => by
    cases r with
    | @cons _ u _ us r t =>
      obtain ⟨tk, rfl⟩ := r
      rw [List.any_cons, any_eqT d t]
      cases d <;> first | rfl | skip
      rename_i z
      show ((s == z) || decide (z ∈ ss)) = decide (z ∈ s :: ss)
      by_cases c : s = z
      · subst c
        simp
      · have c2 : ¬ z = s := fun q => c q.symm
        simp [c, c2]
section
variable {X : Cx} {pins : List (Addr × Obj)} {σ : L2.St} {H : Hp} {s : Shared}
theorem all_eqT (I : Inv X pins σ H s) (hu : X.A.units < cLine) {x : V} {d : PyData} {v : Value} (hd : Dt X.K H x d) (rx : RelV x v) {A : Around} (hA : A.units < cLine) : ∀ {ss : List Str} {us : List Value}, Vals (ss.map V.str) us → ∀ u ∈ us, SeqAt.EqAt A s u v (eqT d u)
  | [], _, r => by
    cases r
    exact fun u hu => by cases hu
  | z :: ss, _, r => by
    cases r with
    | @cons _ u0 _ us r t =>
      intro u hu'
      rcases List.mem_cons.mp hu' with rfl | hu'
      · obtain ⟨tk, rfl⟩ := r
        cases hd with
        | non =>
          cases rx
          exact SeqAt.EqAt.str_none z tk
        | bl b =>
          cases rx
          exact SeqAt.EqAt.str_bool z tk b
        | int i =>
          obtain ⟨t2, rfl⟩ := rx
          exact SeqAt.EqAt.str_int z tk i t2
        | str y =>
          obtain ⟨t2, rfl⟩ := rx
          exact SeqAt.EqAt.str_str z tk y t2
        | lst h _ =>
          cases rx
          obtain ⟨its, _, pl, _⟩ := I.list h
          exact SeqAt.EqAt.str_list z tk pl.isList hA
        | tup h _ =>
          cases rx
          obtain ⟨its, _, pl, _⟩ := I.tuple h
          exact SeqAt.EqAt.str_tuple z tk pl hA
        | dic h _ =>
          cases rx
          obtain ⟨_, _, us2, _, o, es, ep, ho, hx, hdt, _⟩ := dk_rd I.hok h
          exact SeqAt.eqAt_txt_dict z tk ho hx.1 hdt hA
      · exact all_eqT I hu hd rx hA t u hu'
/-- x in a list or a tuple of texts, x any value -/
def rInA (K : PySem.W.Frag) (neg : Bool) : R2 := fun x y H Q => ∃ (p : Addr) (ss : List Str) (d : PyData), y = .ref p ∧ (SqL K H p (ss.map V.str) ∨ SqT K H p (ss.map V.str)) ∧ Dt K H x d ∧ Q (.bl (if neg then !isIn d ss else isIn d ss)) H
theorem op_inA {K : PySem.W.Frag} (hu : X.A.units + 64 < cLine) (hK : X.K = K := by rfl) : OpR X (compareOp .In) (rInA K false) := by
  subst hK
  intro pins s σ H x y v u Q I rx ry h
  obtain ⟨p, ss, d, rfl, hq, hd, q⟩ := h
  cases ry
  have hu' : X.A.units < cLine := by omega
  rcases hq with hq | hq
  · obtain ⟨its, r, pl, _⟩ := I.list hq
    refine SeqAt.in_listAt (eqT d) pl.isList (fun w hw => all_eqT I hu' hd rx ?_ r w (by simpa using hw)) ⟨.bl _, H, I, rfl, ?_⟩
    · simp
      omega
    · rw [show its.toArray.any (eqT d) = its.any (eqT d) by simp, any_eqT d r]
      exact q
  · obtain ⟨its, r, pl, _⟩ := I.tuple hq
    refine SeqAt.in_tupleAt (eqT d) pl (fun w hw => all_eqT I hu' hd rx ?_ r w (by simpa using hw)) ⟨.bl _, H, I, rfl, ?_⟩
    · simp
      omega
    · rw [show its.toArray.any (eqT d) = its.any (eqT d) by simp, any_eqT d r]
      exact q
theorem op_notInA {K : PySem.W.Frag} (hu : X.A.units + 64 < cLine) (hK : X.K = K := by rfl) : OpR X (compareOp .NotIn) (rInA K true) := by
  subst hK
  intro pins s σ H x y v u Q I rx ry h
  obtain ⟨p, ss, d, rfl, hq, hd, q⟩ := h
  cases ry
  have hu' : X.A.units < cLine := by omega
  rcases hq with hq | hq
  · obtain ⟨its, r, pl, _⟩ := I.list hq
    refine SeqAt.notIn_listAt (eqT d) pl.isList (fun w hw => all_eqT I hu' hd rx ?_ r w (by simpa using hw)) ⟨.bl _, H, I, rfl, ?_⟩
    · simp
      omega
    · rw [show its.toArray.any (eqT d) = its.any (eqT d) by simp, any_eqT d r]
      exact q
  · obtain ⟨its, r, pl, _⟩ := I.tuple hq
    refine SeqAt.notIn_tupleAt (eqT d) pl (fun w hw => all_eqT I hu' hd rx ?_ r w (by simpa using hw)) ⟨.bl _, H, I, rfl, ?_⟩
    · simp
      omega
    · rw [show its.toArray.any (eqT d) = its.any (eqT d) by simp, any_eqT d r]
      exact q
end
/-- the kind of data -/
def tyD : PyData → String
  | .none => "NoneType"
  | .bool _ => "bool"
  | .int _ => "int"
  | .str _ => "str"
  | .list _ => "list"
  | .tuple _ => "tuple"
  | .dict _ => "dict"
theorem tyX_of {K : PySem.W.Frag} {H : Hp} {x : V} {d : PyData} (h : Dt K H x d) : TyX K H x (.type (tyD d)) := by
  cases h with
  | non => exact .base .non
  | bl b => exact .base (.bl b)
  | int i => exact .base (.int i)
  | str z => exact .base (.str z)
  | lst h _ =>
    rcases h with (h | ⟨o, h⟩) | ⟨o, its, n, h, hc, _⟩
    · exact .base (.lst h)
    · exact .base (.frz h)
    · exact .kList h hc
  | tup h _ =>
    rcases h with (h | ⟨o, h⟩) | ⟨o, its, n, h, hc, _⟩
    · exact .base (.tup h)
    · exact .fTuple h
    · exact .kTuple h hc
  | dic h _ =>
    rcases h with h | ⟨o, h⟩
    · exact .base (.dK h)
    · exact .fDict h
/-- isinstance(x, T), x any value -/
def rIsiA (K : PySem.W.Frag) : List V → Hp → VK → Prop := fun xs H Q => ∃ (x : V) (T : String) (d : PyData) (b : Bool), xs = [x, .ty T] ∧ Dt K H x d ∧ kitB (tyD d) T = some b ∧ Q (.bl b) H
theorem call_isiA {X : Cx} {K : PySem.W.Frag} (hK : X.K = K := by rfl) : CallR X (.builtin "isinstance") (rIsiA K) := by
  subst hK
  intro pins s σ H xs us Q I r h
  obtain ⟨x, T, d, b, rfl, hd, hk, q⟩ := h
  exact call_isi pins s σ H _ us Q I r ⟨x, .ty T, _, _, b, rfl, .ty T, tyX_of hd, kit_ty hk, q⟩
def isTup : PyData → Bool
  | .tuple _ => true
  | _ => false
def isTxt : PyData → Bool
  | .str _ => true
  | _ => false
theorem kit_tuple : ∀ d : PyData, kitB (tyD d) "tuple" = some (isTup d)
  | .none => show kitB "NoneType" "tuple" = some false by decide +kernel
  | .bool _ => show kitB "bool" "tuple" = some false by decide +kernel
  | .int _ => show kitB "int" "tuple" = some false by decide +kernel
  | .str _ => show kitB "str" "tuple" = some false by decide +kernel
  | .list _ => show kitB "list" "tuple" = some false by decide +kernel
  | .tuple _ => show kitB "tuple" "tuple" = some true by decide +kernel
  | .dict _ => show kitB "dict" "tuple" = some false by decide +kernel
theorem kit_str : ∀ d : PyData, kitB (tyD d) "str" = some (isTxt d)
  | .none => show kitB "NoneType" "str" = some false by decide +kernel
  | .bool _ => show kitB "bool" "str" = some false by decide +kernel
  | .int _ => show kitB "int" "str" = some false by decide +kernel
  | .str _ => show kitB "str" "str" = some true by decide +kernel
  | .list _ => show kitB "list" "str" = some false by decide +kernel
  | .tuple _ => show kitB "tuple" "str" = some false by decide +kernel
  | .dict _ => show kitB "dict" "str" = some false by decide +kernel
end WT

set_option Elab.async false
set_option linter.all false
set_option maxRecDepth 100000
set_option maxHeartbeats 4000000
/-! values near a path: data of small parts, with a weight; a heap without some objects (the hand, a list that grows), so that they stay while those change. -/
namespace WT
open PySem PySem.Spec PyProof.Rows L2
/-- a text of signs below 128 -/
def Asc (s : Str) : Prop := ∀ c ∈ s.cps.toList, c < 128
/-- data of small parts -/
inductive Nr : PyData → Prop
  | non : Nr .none
  | bl (b : Bool) : Nr (.bool b)
  | int (i : Int) (h : (PyData.shown (.int i)).length ≤ 40) (k : PyData.showable (.int i) = true) : Nr (.int i)
  | str (s : Str) (h : Asc s) : Nr (.str s)
  | lst (ds : List PyData) (h : ∀ d ∈ ds, Nr d) : Nr (.list ds)
  | tup (ds : List PyData) (h : ∀ d ∈ ds, Nr d) : Nr (.tuple ds)
  | dic : Nr (.dict [])
theorem short_all {B : Nat} : ∀ {ds : List PyData}, (∀ d ∈ ds, d.showable = true ∧ d.leavesShort B = true) → PyData.showableAll ds = true ∧ PyData.leavesShortAll B ds = true
  | [], _ => ⟨rfl, rfl⟩
  | d :: ds, h => by
    obtain ⟨a, b⟩ := short_all fun x hx => h x (List.mem_cons_of_mem _ hx)
    obtain ⟨c, e⟩ := h d List.mem_cons_self
    rw [PyData.showableAll, PyData.leavesShortAll, a, b, c, e]
    exact ⟨rfl, rfl⟩
theorem Nr.short {d : PyData} (h : Nr d) : d.showable = true ∧ d.leavesShort 40 = true := by
  induction h with
  | non => exact ⟨rfl, rfl⟩
  | bl b => exact ⟨rfl, rfl⟩
  | int i h k => exact ⟨k, by rw [PyData.leavesShort]; exact decide_eq_true h⟩
  | str s h =>
    refine ⟨rfl, ?_⟩
    rw [PyData.leavesShort, List.all_eq_true]
    intro c hc
    have := h c hc
    have e : (16 : Nat) ^ 8 = 4294967296 := by decide
    exact decide_eq_true (by omega)
  | lst ds h ih =>
    rw [PyData.showable, PyData.leavesShort]
    exact short_all ih
  | tup ds h ih =>
    rw [PyData.showable, PyData.leavesShort]
    exact short_all ih
  | dic => exact ⟨by decide +kernel, by decide +kernel⟩
theorem Nr.fit {d : PyData} (h : Nr d) : Fit d.depth (42 * d.weight + 40) d := ⟨h.short.1, Nat.le_refl _, PyData.shown_le 40 (by decide) d h.short.2⟩
/-- no more than this of weight and depth -/
structure Sm (W D : Nat) (d : PyData) : Prop where
  nr : Nr d
  wt : d.weight ≤ W
  de : d.depth ≤ D
theorem Sm.mono {W D W' D' : Nat} {d : PyData} (h : Sm W D d) (h1 : W ≤ W') (h2 : D ≤ D') : Sm W' D' d := ⟨h.nr, Nat.le_trans h.wt h1, Nat.le_trans h.de h2⟩
theorem Sm.fit {W D : Nat} {d : PyData} (h : Sm W D d) : Fit D (42 * W + 40) d := h.nr.fit.mono h.de (by have := h.wt; omega)
/-- parts of small weight all together -/
structure SmA (W D : Nat) (ds : List PyData) : Prop where
  nr : ∀ d ∈ ds, Nr d
  wt : PyData.weightAll ds ≤ W
  de : PyData.depthAll ds ≤ D
theorem w_nil : PyData.weightAll [] = 0 := by rw [PyData.weightAll]
theorem d_nil : PyData.depthAll [] = 0 := by rw [PyData.depthAll]
theorem w_cons (d : PyData) (ds : List PyData) : PyData.weightAll (d :: ds) = d.weight + 1 + PyData.weightAll ds := by rw [PyData.weightAll]
theorem d_cons (d : PyData) (ds : List PyData) : PyData.depthAll (d :: ds) = max d.depth (PyData.depthAll ds) := by rw [PyData.depthAll]
theorem w_app : ∀ (a b : List PyData), PyData.weightAll (a ++ b) = PyData.weightAll a + PyData.weightAll b
  | [], b => by rw [List.nil_append, w_nil, Nat.zero_add]
  | d :: a, b => by
    rw [List.cons_append, w_cons, w_cons, w_app a b]
    omega
theorem d_app : ∀ (a b : List PyData), PyData.depthAll (a ++ b) = max (PyData.depthAll a) (PyData.depthAll b)
  | [], b => by rw [List.nil_append, d_nil, Nat.zero_max]
  | d :: a, b => by
    rw [List.cons_append, d_cons, d_cons, d_app a b]
    omega
theorem w_rev : ∀ a : List PyData, PyData.weightAll a.reverse = PyData.weightAll a
  | [] => rfl
  | d :: a => by
    rw [List.reverse_cons, w_app, w_rev a, w_cons, w_cons, w_nil]
    omega
theorem d_rev : ∀ a : List PyData, PyData.depthAll a.reverse = PyData.depthAll a
  | [] => rfl
  | d :: a => by
    rw [List.reverse_cons, d_app, d_rev a, d_cons, d_cons, d_nil]
    omega
theorem w_len : ∀ a : List PyData, a.length ≤ PyData.weightAll a
  | [] => Nat.zero_le _
  | d :: a => by
    have := w_len a
    rw [List.length_cons, w_cons]
    omega
theorem Sm.parts {W D : Nat} {ds : List PyData} (h : Sm W D (.tuple ds)) : SmA W (D - 1) ds ∧ 1 ≤ D := by
  obtain ⟨a, b, c⟩ := h
  rw [PyData.weight] at b
  rw [PyData.depth] at c
  cases a with
  | tup _ a => exact ⟨⟨a, b, by omega⟩, by omega⟩
theorem SmA.tup {W D : Nat} {ds : List PyData} (h : SmA W D ds) : Sm W (D + 1) (.tuple ds) := ⟨.tup _ h.nr, by rw [PyData.weight]; exact h.wt, by rw [PyData.depth]; have := h.de; omega⟩
theorem SmA.lst {W D : Nat} {ds : List PyData} (h : SmA W D ds) : Sm W (D + 1) (.list ds) := ⟨.lst _ h.nr, by rw [PyData.weight]; exact h.wt, by rw [PyData.depth]; have := h.de; omega⟩
theorem SmA.app {W D W' : Nat} {a b : List PyData} (h : SmA W D a) (k : SmA W' D b) : SmA (W + W') D (a ++ b) :=
  ⟨fun d hd => (List.mem_append.mp hd).elim (h.nr d) (k.nr d), by rw [w_app]; exact Nat.add_le_add h.wt k.wt, by rw [d_app]; exact Nat.max_le.mpr ⟨h.de, k.de⟩⟩
theorem SmA.rev {W D : Nat} {a : List PyData} (h : SmA W D a) : SmA W D a.reverse := ⟨fun d hd => h.nr d (List.mem_reverse.mp hd), by rw [w_rev]; exact h.wt, by rw [d_rev]; exact h.de⟩
theorem SmA.left {W D : Nat} {a b : List PyData} (h : SmA W D (a ++ b)) : SmA W D a := by
  obtain ⟨x, y, z⟩ := h
  rw [w_app] at y
  rw [d_app] at z
  exact ⟨fun d hd => x d (List.mem_append.mpr (.inl hd)), by omega, by omega⟩
theorem SmA.right {W D : Nat} {a b : List PyData} (h : SmA W D (a ++ b)) : SmA W D b := by
  obtain ⟨x, y, z⟩ := h
  rw [w_app] at y
  rw [d_app] at z
  exact ⟨fun d hd => x d (List.mem_append.mpr (.inr hd)), by omega, by omega⟩
theorem SmA.take {W D : Nat} {a : List PyData} (h : SmA W D a) (n : Nat) : SmA W D (a.take n) := by
  rw [← List.take_append_drop n a] at h
  exact h.left
theorem SmA.drop {W D : Nat} {a : List PyData} (h : SmA W D a) (n : Nat) : SmA W D (a.drop n) := by
  rw [← List.take_append_drop n a] at h
  exact h.right
theorem SmA.one {W D : Nat} {d : PyData} (h : Sm W D d) : SmA (W + 1) D [d] := by
  refine ⟨fun x hx => ?_, ?_, ?_⟩
  · rw [List.mem_singleton.mp hx]
    exact h.nr
  · rw [w_cons, w_nil]
    have := h.wt
    omega
  · rw [d_cons, d_nil]
    have := h.de
    omega
theorem SmA.nil (W D : Nat) : SmA W D [] := ⟨fun _ h => absurd h List.not_mem_nil, by rw [w_nil]; exact Nat.zero_le _, by rw [d_nil]; exact Nat.zero_le _⟩
theorem SmA.mono {W D W' D' : Nat} {a : List PyData} (h : SmA W D a) (h1 : W ≤ W') (h2 : D ≤ D') : SmA W' D' a := ⟨h.nr, Nat.le_trans h.wt h1, Nat.le_trans h.de h2⟩
theorem SmA.at {W D : Nat} {a : List PyData} {i : Nat} {d : PyData} (h : SmA W D a) (e : a[i]? = some d) : Sm W D d := by
  obtain ⟨hi, e⟩ := List.getElem?_eq_some_iff.mp e
  have s : a = a.take i ++ (d :: a.drop (i + 1)) := by
    rw [← e, List.getElem_cons_drop, List.take_append_drop]
  rw [s] at h
  obtain ⟨x, y, z⟩ := h.right
  rw [w_cons] at y
  rw [d_cons] at z
  exact ⟨x d List.mem_cons_self, by omega, by omega⟩
/-- one part in the place of another -/
theorem SmA.put {W D C : Nat} {a : List PyData} {i : Nat} {d e : PyData} (h : SmA W D a) (hd : a[i]? = some d) (k : Nr e) (kw : e.weight ≤ 2 * d.weight + C) (kd : e.depth ≤ d.depth + 2) : SmA (2 * W + C) (D + 2) (a.take i ++ [e] ++ a.drop (i + 1)) := by
  obtain ⟨hi, hd⟩ := List.getElem?_eq_some_iff.mp hd
  have s : a = a.take i ++ (d :: a.drop (i + 1)) := by
    rw [← hd, List.getElem_cons_drop, List.take_append_drop]
  have h2 := h
  rw [s] at h2
  obtain ⟨x, y, z⟩ := h2
  rw [w_app, w_cons] at y
  rw [d_app, d_cons] at z
  refine ⟨fun q hq => ?_, ?_, ?_⟩
  · rw [List.append_assoc] at hq
    rcases List.mem_append.mp hq with hq | hq
    · exact x q (List.mem_append.mpr (.inl hq))
    · rcases List.mem_append.mp hq with hq | hq
      · rw [List.mem_singleton.mp hq]
        exact k
      · exact x q (List.mem_append.mpr (.inr (List.mem_cons_of_mem _ hq)))
  · rw [w_app, w_app, w_cons, w_nil]
    omega
  · rw [d_app, d_app, d_cons, d_nil]
    omega
/-- what stands in the place of d: at most twice as heavy, two deeper -/
structure Near (d e : PyData) : Prop where
  nr : Nr e
  wt : e.weight ≤ 2 * d.weight + 110
  de : e.depth ≤ d.depth + 2
theorem Near.sm {W D : Nat} {d e : PyData} (h : Near d e) (k : Sm W D d) : Sm (2 * W + 110) (D + 2) e := ⟨h.nr, by have := h.wt; have := k.wt; omega, by have := h.de; have := k.de; omega⟩
theorem Near.put {a : List PyData} {i : Nat} {d e : PyData} (h : ∀ x ∈ a, Nr x) (hd : a[i]? = some d) (k : Near d e) : Near (.tuple a) (.tuple (a.take i ++ [e] ++ a.drop (i + 1))) := by
  have q := SmA.put (W := PyData.weightAll a) (D := PyData.depthAll a) (C := 110) ⟨h, Nat.le_refl _, Nat.le_refl _⟩ hd k.nr k.wt k.de
  refine ⟨.tup _ q.nr, ?_, ?_⟩
  · rw [PyData.weight, PyData.weight]
    exact q.wt
  · rw [PyData.depth, PyData.depth]
    have := q.de
    omega
/-- the heap without some objects -/
def del (S : Addr → Bool) (H : Hp) : Hp := fun b => if S b = true then none else H b
theorem del_sub (S : Addr → Bool) (H : Hp) : Same (del S H) H := fun b o h => by
  unfold del at h
  split at h
  · cases h
  · exact h
theorem del_but {S : Addr → Bool} {a : Addr} {H H' : Hp} (hS : S a = true) (h : But a H H') : Same (del S H) (del S H') := fun b o e => by
  unfold del at e ⊢
  split at e
  · cases e
  · rename_i n
    rw [if_neg n]
    exact h b o (fun z => n (by rw [z]; exact hS)) e
theorem del_same {S : Addr → Bool} {H H' : Hp} (h : Same H H') : Same (del S H) (del S H') := fun b o e => by
  unfold del at e ⊢
  split at e
  · cases e
  · rename_i n
    rw [if_neg n]
    exact h b o e
theorem del_at {S : Addr → Bool} {b : Addr} {H : Hp} {o : HO} (n : S b = false) (h : H b = some o) : del S H b = some o := by
  unfold del
  rw [if_neg (by rw [n]; exact Bool.false_ne_true)]
  exact h
/-- those objects are there -/
def Live (S : Addr → Bool) (H : Hp) : Prop := ∀ b, S b = true → H b ≠ none
theorem Live.same {S : Addr → Bool} {H H' : Hp} (l : Live S H) (s : Same H H') : Live S H' := fun b h => by
  cases e : H b with
  | none => exact absurd e (l b h)
  | some o =>
    rw [s b o e]
    exact fun z => nomatch z
theorem Live.but {S : Addr → Bool} {a : Addr} {H H' : Hp} (l : Live S H) (s : But a H H') (n : H' a ≠ none) : Live S H' := fun b h => by
  by_cases c : b = a
  · rw [c]
    exact n
  cases e : H b with
  | none => exact absurd e (l b h)
  | some o =>
    rw [s b o c e]
    exact fun z => nomatch z
theorem Live.new {S : Addr → Bool} {H : Hp} {p : Addr} (l : Live S H) (n : H p = none) : S p = false := by
  cases e : S p with
  | false => rfl
  | true => exact absurd n (l p e)
theorem pot_live {S : Addr → Bool} {H H' : Hp} {a : Addr} {b : Nat} (l : Live S H) (s : But a H H') (p : PotAt H' a b) : Live S H' := l.but s (by
  obtain ⟨_, _, _, e, _⟩ := p
  rw [e]
  exact fun z => nomatch z)
/-- a value that is data, those objects apart -/
def Off (K : PySem.W.Frag) (S : Addr → Bool) (H : Hp) (v : V) (d : PyData) : Prop := Dt K (del S H) v d
theorem Off.dt {K : PySem.W.Frag} {S : Addr → Bool} {H : Hp} {v : V} {d : PyData} (h : Off K S H v d) : Dt K H v d := Dt.same (del_sub S H) h
theorem Off.but {K : PySem.W.Frag} {S : Addr → Bool} {a : Addr} {H H' : Hp} {v : V} {d : PyData} (h : Off K S H v d) (hS : S a = true) (b : But a H H') : Off K S H' v d := Dt.same (del_but hS b) h
theorem Off.same {K : PySem.W.Frag} {S : Addr → Bool} {H H' : Hp} {v : V} {d : PyData} (h : Off K S H v d) (b : Same H H') : Off K S H' v d := Dt.same (del_same b) h
/-- upper() of an ASCII text -/
theorem asc_upper {s : Str} (h : Asc s) : Asc (Txt.upper s) ∧ (Txt.upper s).length = s.length := by
  rw [PyProof.Rows.upper_ascii h]
  refine ⟨fun c hc => ?_, ?_⟩
  · have hc : c ∈ (s.cps.map PyProof.Rows.up1).toList := hc
    rw [Array.toList_map] at hc
    obtain ⟨b, hb, rfl⟩ := List.mem_map.mp hc
    have := h b hb
    unfold PyProof.Rows.up1
    split <;> omega
  · show (s.cps.map PyProof.Rows.up1).size = s.cps.size
    rw [Array.size_map]
theorem asc_app {a b : Str} (h : Asc a) (k : Asc b) : Asc (a ++ b) := fun c hc => by
  rw [app_cps] at hc
  exact (List.mem_append.mp hc).elim (h c) (k c)
theorem asc_nm {s : Str} (h : NmOk s) : Asc s := fun c hc => by
  have := h.low c hc
  unfold Low at this
  omega
theorem Nr.strOk {s : Str} (h : Asc s) : PyData.strOk s = true := by
  unfold PyData.strOk
  rw [Array.all_eq_true]
  intro i hi
  have := h s.cps[i] (by rw [Array.mem_toList_iff]; exact Array.getElem_mem hi)
  simp
  omega
end WT

set_option Elab.async false
set_option linter.all false
set_option maxRecDepth 100000
set_option maxHeartbeats 4000000
/-! len(set(xs)), xs a list of different texts. -/
namespace WT
open PySem PySem.Spec PyProof.Rows L2
/-- an empty set -/
abbrev set0 (led : Bool) : Obj := { cls := .type "set", dict := none, data := .set #[] 0 (.fresh 0 0 led) }
abbrev hasIn (ys : List Str) (i : Nat) : Str → Bool := fun y => (ys.take i).any (· == y)
section
variable {P : Program} {w : World} {A : Around} {E : Value → Shared → Prop} {s : Shared}
theorem setOf_kept {h h2 : Heap} {a : Addr} {T : Str → Bool} {n : Nat} (hS : h.SetOf (PySem.strKind P w) a T n) (k : ∀ o, h.get? a = some o → h2.get? a = some o) : h2.SetOf (PySem.strKind P w) a T n := by
  obtain ⟨o, es, ep, tb, ho, r⟩ := hS
  exact ⟨o, es, ep, tb, k o ho, r⟩
theorem fill_texts {I : Addr} {fp wr : List Addr} {G : Array GenState → Array GenState → Prop} {n : Nat} {Pv : Nat → Value → Prop} {St : Nat → Shared → Prop} {R : Result → Shared → Prop} (W : WalksS P w A.in1 I fp wr G n Pv St) (a : Addr) (na : a ∉ fp) (ys : List Str) (nd : ys.Nodup) (en : n = ys.length) (room : ys.length + 1 < scanBound)
    (hv : ∀ i v, Pv i v → ∃ y t, ys[i]? = some y ∧ v = .str y t) : ∀ (k i : Nat) (s : Shared), n - i = k → i ≤ n → St i s → s.heap.SetOf (PySem.strKind P w) a (hasIn ys i) i →
      (∀ s2, Moved (a :: wr) G s s2 → s2.heap.SetOf (PySem.strKind P w) a (hasIn ys n) n → R (.ok (.ret .none)) s2) → codeAny (model P w) A (.builtin "set.update.loop" ⟨[.ref a, .ref I], []⟩) R s := by
  have nw : a ∉ wr := fun z => na (W.sub _ z)
  have more : ∀ b ∈ wr, b ∈ a :: wr := fun b z => List.mem_cons_of_mem _ z
  intro k
  induction k with
  | zero =>
    intro i s e1 e2 st hS q
    obtain rfl : i = n := by omega
    refine codeAny_builtin PyProof.Rows.F.entry_set_update_loop ?_
    rw [Around.under_plainId PyProof.Rows.F.plain_set_update_loop _]
    show wpAny (model P w) A.in1 (pyNext (.ref I) >>= _) _ _ s
    refine wpAny_bind (W.done s _ _ st fun s2 mv => ?_)
    show wpAny (model P w) A.in1 (ret Value.none) _ _ s2
    exact wpAny_pure (q s2 (mv.mono more) (setOf_kept hS fun o z => mv.heap a o nw z))
  | succ k ih =>
    intro i s e1 e2 st hS q
    have lt : i < n := by omega
    refine codeAny_builtin PyProof.Rows.F.entry_set_update_loop ?_
    rw [Around.under_plainId PyProof.Rows.F.plain_set_update_loop _]
    show wpAny (model P w) A.in1 (pyNext (.ref I) >>= _) _ _ s
    refine wpAny_bind (W.item i s _ _ lt st fun v s2 pv st2 mv => ?_)
    obtain ⟨y, t, hy, rfl⟩ := hv i v pv
    have hS2 := setOf_kept hS fun o z => mv.heap a o nw z
    show wpAny (model P w) A.in1 (holding [Value.str y t] (setAdd a (.str y t)) >>= _) _ _ s2
    refine wpAny_bind (wpAny_holding ?_)
    unfold setAdd
    refine wpAny_holding (wpAny_bind ((PySem.strKind P w).pyHash (k := y) (strKind_is _ _ _ _) ?_))
    refine wpAny_setAddHashed_of (knd := PySem.strKind P w) (s := { s2 with toks := s2.toks + 1 }) (strKind_is _ _ _ _) rfl hS2 (by omega) fun h3 sb hS3 => ?_
    have newY : hasIn ys i y = false := by
      refine Bool.eq_false_iff.mpr fun z => ?_
      obtain ⟨x, hx, ex⟩ := List.any_eq_true.mp z
      have ex : x = y := beq_iff_eq.mp ex
      obtain ⟨j, hj, e3⟩ := List.getElem_of_mem hx
      rw [List.length_take] at hj
      have hi := (List.getElem?_eq_some_iff.mp hy).1
      have e4 : ys[j]'(by omega) = ys[i] := by
        rw [(List.getElem?_eq_some_iff.mp hy).2, ← ex, ← e3, List.getElem_take]
      exact (List.pairwise_iff_getElem.mp nd j i (by omega) hi (by omega)) e4
    rw [newY, if_neg Bool.false_ne_true] at hS3
    have hS4 : h3.SetOf (PySem.strKind P w) a (hasIn ys (i + 1)) (i + 1) := by
      refine SetOf_congr hS3 (fun z => ?_) rfl
      show ((ys.take i).any (· == z) || decide (z = y)) = (ys.take (i + 1)).any (· == z)
      rw [List.take_add_one, hy, List.any_append]
      congr 1
      show decide (z = y) = ((y == z) || false)
      rw [Bool.or_false]
      by_cases c : z = y
      · subst c
        simp
      · have c2 : ¬ y = z := fun q => c q.symm
        rw [decide_eq_false c, beq_eq_false_iff_ne.mpr c2]
    refine wpAny_pure ⟨plainId_quiet PyProof.Rows.F.plain_set_update_loop _, ih (i + 1) _ (by omega) lt (W.frame _ s2 _ _ st2 (Nat.le_succ _) fun b hb o z => ?_) hS4 fun s4 mv4 hS5 => ?_⟩
    · rw [sb.2 b (fun z2 : b = a => na (by rw [← z2]; exact hb))]
      exact z
    · refine q s4 (Moved.trans W.gtrans ((mv.mono more).then_heap (Nat.le_succ _) fun b o hb z => ?_) mv4) hS5
      rw [sb.2 b (fun z2 : b = a => hb (by rw [z2]; exact List.mem_cons_self))]
      exact z
theorem set_of_texts {l : Addr} {its : Array Value} {ys : List Str} {Q : Value → Shared → Prop} (calm : A.handled = none) (hl : s.heap.IsList l its) (hi : StrsAre its.toList ys) (nd : ys.Nodup) (room : ys.length + 1 < scanBound)
    (q : ∀ (h2 : Heap) (tk : Nat), h2.SetOf (PySem.strKind P w) s.heap.objs.size (hasIn ys ys.length) ys.length → (∀ b o, b < s.heap.objs.size → s.heap.get? b = some o → h2.get? b = some o) → Q (.ref s.heap.objs.size) { s with heap := h2, toks := tk }) :
    wpAny (model P w) A (call (.type "set") [.ref l]) Q E s := by
  have esz : ys.length = its.size := by rw [← PyProof.Rows.StrsAre.len_eq hi, Array.length_toList]
  have ⟨c1, c2, hmr⟩ := PySem.F.called_set.mro
  have hm1 := PySem.F.called_set.made; have hm2 := PySem.F.called_set.sub
  refine wpAny_call (codeAny_of_tree ?_); show wpAny _ _ (callAny (.type "set") _) _ _ _
  refine wpAny_pure ⟨Code.quiet_builtin _ (by decide +kernel), codeAny_builtin PySem.F.entry_type_call ?_⟩
  rw [Around.under_plain (weight_type_call_type "set" [.ref l] []) (by rfl)]
  have hm3 := PySem.F.called_set.notType; have hm4 := PySem.F.called_set.canCreate
  have hm5 := PySem.F.typeCall_set_1 (.ref l)
  repeat (any_goals (first | assumption | wp_step))
  refine codeAny_mono (PySem.code_set_new_1 (.ref l) (E := E) (Q₁ := fun ob s1 => ∃ led : Bool, ob = .ref s.heap.objs.size ∧ s1 = { s with heap := s.heap.push (set0 led) }) fun led => ⟨led, rfl, rfl⟩) fun r s1 hr => ?_
  cases r with
  | error e => exact hr
  | ok fl =>
    cases fl with
    | ret ob =>
      obtain ⟨led, rfl, rfl⟩ := hr
      have hS : (s.heap.push (set0 led)).get? s.heap.objs.size = some (set0 led) := Heap.get?_push_size _ rfl
      have hT : Shared.TypeIs { s with heap := s.heap.push (set0 led) } (.ref s.heap.objs.size) "set" := ⟨_, hS, rfl⟩
      have hm6 := PySem.F.called_set.init.lookup; have hm7 := PySem.F.called_set.init.bind (.ref s.heap.objs.size)
      repeat (any_goals (first | assumption | wp_step))
      refine codeAny_mono (codeAny_call_builtin (R := wants (fun r s2 => r = .none ∧ ∃ h2 tk, s2 = { s with heap := h2, toks := tk } ∧ h2.SetOf (PySem.strKind P w) s.heap.objs.size (hasIn ys ys.length) ys.length ∧
          (∀ b o, b < s.heap.objs.size → s.heap.get? b = some o → h2.get? b = some o)) E) PySem.F.called_set.init.plain PySem.F.entry_set_init (PySem.check_set_init_1 hT ?_)) fun r2 s2 hr2 => ?_
      · have ⟨⟨ocl, odi, oda, osl⟩, hol, hcl, nl, hdl⟩ := hl
        simp only at hcl hdl
        subst hcl hdl
        have hol2 : (s.heap.push (set0 led)).get? l = some { cls := .type "list", dict := odi, data := .seq its nl, slots := osl } := Heap.get?_push_of_some _ hol
        have hm8 := PySem.F.sub_list_set; have hm9 := PySem.F.sub_list_frozenset
        have hm10 : (Value.type "list" == Value.type "dict") = false := by decide
        have hl2 : (s.heap.push (set0 led)).IsList l its := ⟨_, hol2, rfl, nl, rfl⟩
        unfold Builtin.«set.__init__» noKeywords Builtin.Frozenset.updateFrom
        generalize hIt : pyIter = It
        wp_walk
        subst hIt
        refine wpAny_pyIter_list hl2 (wpAny_bind (wpAny_runValue ?_))
        have lo : l < s.heap.objs.size := Heap.lt_size hol
        have calm3 : A.in1.in1.in1.handled = none := by simp [calm]
        have nl2 : l ≠ (s.heap.push (set0 led)).objs.size := by
          rw [Heap.size_push]
          exact Nat.ne_of_lt (Nat.lt_succ_of_lt lo)
        have nf : s.heap.objs.size ∉ [(s.heap.push (set0 led)).objs.size, l] := by
          rw [Heap.size_push]
          simp only [List.mem_cons, List.not_mem_nil, or_false, not_or]
          exact ⟨Nat.ne_of_lt (Nat.lt_succ_self _), Nat.ne_of_gt lo⟩
        have vals : ∀ (i : Nat) (v : Value), its[i]? = some v → ∃ y t, ys[i]? = some y ∧ v = .str y t := fun i v z => by
          have hlt : i < ys.length := by
            have := (Array.getElem?_eq_some_iff.mp z).1
            omega
          obtain ⟨t, e⟩ := SS.strs_at hi i v (by rw [Array.getElem?_toList]; exact z)
          rw [List.getD_eq_getElem?_getD, List.getElem?_eq_getElem hlt] at e
          exact ⟨ys[i], t, List.getElem?_eq_getElem hlt, e⟩
        refine fill_texts ((Walks.list calm3 _ l nl2 its).toS) s.heap.objs.size nf ys nd esz.symm room vals (its.size - 0) 0 _ (by omega) (Nat.zero_le _) ⟨⟨_, Heap.get?_push_size _ rfl, rfl, rfl⟩, (hl2.push _)⟩ ?hA ?hB
        case hA =>
          have hg : ((s.heap.push (set0 led)).push { cls := .type "list_iterator", data := .fields #[.ref l, .int 0 0] }).get? s.heap.objs.size = some (set0 led) := Heap.get?_push_of_some _ hS
          exact SetOf_congr ((setObjOf_fresh (knd := PySem.strKind P w) led).setOf hg (by unfold scanBound; omega)) (fun _ => rfl) rfl
        case hB =>
          intro s3 mv hS3
          obtain ⟨h3, g3, d3, tk3, os3⟩ := s3
          obtain rfl : g3 = s.gens := mv.gens
          obtain rfl : d3 = s.drawn := mv.drawn
          obtain rfl : os3 = s.os := mv.os
          show wpAny (model P w) _ _ _ _ _
          refine wpAny_pure ?_
          show wpAny (model P w) _ (ret Value.none) _ _ _
          refine wpAny_pure ⟨rfl, h3, tk3, rfl, by rw [← esz] at hS3; exact hS3, fun b o lt z => ?_⟩
          refine mv.heap b o ?_ (Heap.get?_push_of_some _ (Heap.get?_push_of_some _ z))
          rw [Heap.size_push]
          simp only [List.mem_cons, List.not_mem_nil, or_false, not_or]
          exact ⟨Nat.ne_of_lt lt, Nat.ne_of_lt (Nat.lt_succ_of_lt lt)⟩
      · cases r2 with
        | error e => exact hr2
        | ok fl2 =>
          cases fl2 with
          | ret r =>
            obtain ⟨rfl, h2, tk, rfl, hS2, k2⟩ := hr2
            repeat (any_goals (first | assumption | wp_step))
            exact q _ _ hS2 k2
          | _ => exact hr2.elim
    | _ => exact hr.elim
end
section
variable {X : Cx} {K : PySem.W.Frag}
/-- len(set(xs)) -/
def tLenSetS (K : PySem.W.Frag) (ta : TE) : TE := fun σ H Q => ta σ H fun x H1 => ∃ (l : Addr) (ys : List Str), x = .ref l ∧ SqL K H1 l (ys.map V.str) ∧ ys.Nodup ∧ ys.length < 64 ∧ Q (.int ys.length) H1
theorem pe_lenSetS {a : Expr} {ta : TE} {p p2 q pos : Pos} (calm : X.calm = true) (hg : Gl X "len") (hm : X.mg "len" = none) (hg2 : Gl X "set") (hm2 : X.mg "set" = none) (ha : PE X a ta) (hK : X.K = K := by rfl)
    (na : starEach [a] X.env = (false, eval a X.env) :: starEach [] X.env := by rfl) : PE X (.Call (.Name "len" p) [.Call (.Name "set" p2) [a] [] q] [] pos) (tLenSetS K ta) := by
  subst hK
  refine ⟨fun pins s σ H Q I h => Call_ (ld_blt I hg hm PySem.boot_len ?_)⟩
  refine PyProof.Rows.callWith_builtin1 (PyProof.Rows.args_cons (Call_ (ld_blt I hg2 hm2 PyProof.Rows.boot_set ?_)) rfl) rfl rfl
  refine PyProof.Rows.callWith_type1 (PyProof.Rows.args_cons (thn (ha.run pins s σ H _ I h) fun v s1 ⟨x, H1, I1, r1, z⟩ => PyProof.Rows.args_nil ?_) na) na rfl
  obtain ⟨l, ys, rfl, hq, nd, few, z⟩ := z
  cases r1
  obtain ⟨its, rv, pl, _⟩ := I1.list hq
  refine set_of_texts (I1.ok.hd calm) pl.isList (by simpa using strsAre_of rv) nd (by unfold scanBound; omega) fun h2 tk hS k2 => PyProof.Rows.args_nil ?_
  obtain ⟨o, es, ep, t, ho, hex, hd, _, _, _, hf, hn⟩ := hS
  have I2 : Inv X pins σ H1 { s1 with heap := h2, toks := tk } := I1.kept fun b o e => k2 b o (Heap.lt_size e) e
  exact call_len_set ho hex hd hf (by rw [hn]; omega) ⟨.int ys.length, H1, I2.tok _, ⟨_, by rw [hn]⟩, z⟩
end
end WT

set_option Elab.async false
set_option linter.all false
set_option maxRecDepth 100000
set_option maxHeartbeats 4000000
/-! len(set(xs)), xs a list or a tuple of texts: how many different ones. -/
namespace WT
open PySem PySem.Spec PyProof.Rows L2
/-- an empty set -/
abbrev setE (led : Bool) : Obj := { cls := .type "set", dict := none, data := .set #[] 0 (.fresh 0 0 led) }
abbrev hasY (ys : List Str) (i : Nat) : Str → Bool := fun y => (ys.take i).any (· == y)
/-- how many different ones among the first i -/
def disN (ys : List Str) : Nat → Nat
  | 0 => 0
  | i + 1 => disN ys i + (match ys[i]? with | some y => if hasY ys i y = true then 0 else 1 | none => 0)
theorem disN_le (ys : List Str) : ∀ i, disN ys i ≤ i
  | 0 => Nat.le_refl _
  | i + 1 => by
    have := disN_le ys i
    unfold disN
    split
    · split <;> omega
    · omega
theorem hasY_iff {ys : List Str} {i : Nat} {y : Str} : hasY ys i y = true ↔ y ∈ ys.take i := by
  constructor
  · intro z
    obtain ⟨x, hx, ex⟩ := List.any_eq_true.mp z
    rw [← beq_iff_eq.mp ex]
    exact hx
  · intro z
    exact List.any_eq_true.mpr ⟨y, z, by simp⟩
/-- all are different exactly if none is left out -/
theorem disN_all (ys : List Str) : ∀ i, i ≤ ys.length → (disN ys i = i ↔ (ys.take i).Nodup)
  | 0, _ => by simp [disN]
  | i + 1, h => by
    have ih := disN_all ys i (by omega)
    have le := disN_le ys i
    have e : ys[i]? = some ys[i] := List.getElem?_eq_getElem (by omega)
    unfold disN
    rw [e, List.take_add_one, e]
    show disN ys i + (if hasY ys i ys[i] = true then 0 else 1) = i + 1 ↔ (ys.take i ++ [ys[i]]).Nodup
    rw [List.nodup_append]
    by_cases c : hasY ys i ys[i] = true
    · rw [if_pos c]
      constructor
      · intro z
        omega
      · rintro ⟨_, _, z⟩
        exact absurd rfl (z _ (hasY_iff.mp c) _ (by simp))
    · rw [if_neg c]
      constructor
      · intro z
        refine ⟨ih.mp (by omega), by simp, fun a ha b hb q => c (hasY_iff.mpr ?_)⟩
        have hb : b = ys[i] := by simpa using hb
        rw [← hb, ← q]
        exact ha
      · rintro ⟨z, _⟩
        have := ih.mpr z
        omega
section
variable {P : Program} {w : World} {A : Around} {E : Value → Shared → Prop} {s : Shared}
theorem setOf_keeps {h h2 : Heap} {a : Addr} {T : Str → Bool} {n : Nat} (hS : h.SetOf (PySem.strKind P w) a T n) (k : ∀ o, h.get? a = some o → h2.get? a = some o) : h2.SetOf (PySem.strKind P w) a T n := by
  obtain ⟨o, es, ep, tb, ho, r⟩ := hS
  exact ⟨o, es, ep, tb, k o ho, r⟩
theorem fill_all {I : Addr} {fp wr : List Addr} {G : Array GenState → Array GenState → Prop} {n : Nat} {Pv : Nat → Value → Prop} {St : Nat → Shared → Prop} {R : Result → Shared → Prop} (W : WalksS P w A.in1 I fp wr G n Pv St) (a : Addr) (na : a ∉ fp) (ys : List Str) (en : n = ys.length) (room : ys.length + 1 < scanBound)
    (hv : ∀ i v, Pv i v → ∃ y t, ys[i]? = some y ∧ v = .str y t) : ∀ (k i : Nat) (s : Shared), n - i = k → i ≤ n → St i s → s.heap.SetOf (PySem.strKind P w) a (hasY ys i) (disN ys i) →
      (∀ s2, Moved (a :: wr) G s s2 → s2.heap.SetOf (PySem.strKind P w) a (hasY ys n) (disN ys n) → R (.ok (.ret .none)) s2) → codeAny (model P w) A (.builtin "set.update.loop" ⟨[.ref a, .ref I], []⟩) R s := by
  have nw : a ∉ wr := fun z => na (W.sub _ z)
  have more : ∀ b ∈ wr, b ∈ a :: wr := fun b z => List.mem_cons_of_mem _ z
  intro k
  induction k with
  | zero =>
    intro i s e1 e2 st hS q
    obtain rfl : i = n := by omega
    refine codeAny_builtin PyProof.Rows.F.entry_set_update_loop ?_
    rw [Around.under_plainId PyProof.Rows.F.plain_set_update_loop _]
    show wpAny (model P w) A.in1 (pyNext (.ref I) >>= _) _ _ s
    refine wpAny_bind (W.done s _ _ st fun s2 mv => ?_)
    show wpAny (model P w) A.in1 (ret Value.none) _ _ s2
    exact wpAny_pure (q s2 (mv.mono more) (setOf_keeps hS fun o z => mv.heap a o nw z))
  | succ k ih =>
    intro i s e1 e2 st hS q
    have lt : i < n := by omega
    refine codeAny_builtin PyProof.Rows.F.entry_set_update_loop ?_
    rw [Around.under_plainId PyProof.Rows.F.plain_set_update_loop _]
    show wpAny (model P w) A.in1 (pyNext (.ref I) >>= _) _ _ s
    refine wpAny_bind (W.item i s _ _ lt st fun v s2 pv st2 mv => ?_)
    obtain ⟨y, t, hy, rfl⟩ := hv i v pv
    have hS2 := setOf_keeps hS fun o z => mv.heap a o nw z
    show wpAny (model P w) A.in1 (holding [Value.str y t] (setAdd a (.str y t)) >>= _) _ _ s2
    refine wpAny_bind (wpAny_holding ?_)
    unfold setAdd
    refine wpAny_holding (wpAny_bind ((PySem.strKind P w).pyHash (k := y) (strKind_is _ _ _ _) ?_))
    refine wpAny_setAddHashed_of (knd := PySem.strKind P w) (s := { s2 with toks := s2.toks + 1 }) (strKind_is _ _ _ _) rfl hS2 (by have := disN_le ys i; omega) fun h3 sb hS3 => ?_
    have hS4 : h3.SetOf (PySem.strKind P w) a (hasY ys (i + 1)) (disN ys (i + 1)) := by
      refine SetOf_congr hS3 (fun z => ?_) ?_
      · show ((ys.take i).any (· == z) || decide (z = y)) = (ys.take (i + 1)).any (· == z)
        rw [List.take_add_one, hy, List.any_append]
        congr 1
        show decide (z = y) = ((y == z) || false)
        rw [Bool.or_false]
        by_cases c : z = y
        · subst c
          simp
        · have c2 : ¬ y = z := fun q => c q.symm
          rw [decide_eq_false c, beq_eq_false_iff_ne.mpr c2]
      · conv => rhs; unfold disN
        rw [hy]
        show _ = disN ys i + (if hasY ys i y = true then 0 else 1)
        by_cases c : hasY ys i y = true
        · rw [if_pos c, if_pos c]
          rfl
        · rw [if_neg c, if_neg c]
    refine wpAny_pure ⟨plainId_quiet PyProof.Rows.F.plain_set_update_loop _, ih (i + 1) _ (by omega) lt (W.frame _ s2 _ _ st2 (Nat.le_succ _) fun b hb o z => ?_) hS4 fun s4 mv4 hS5 => ?_⟩
    · rw [sb.2 b (fun z2 : b = a => na (by rw [← z2]; exact hb))]
      exact z
    · refine q s4 (Moved.trans W.gtrans ((mv.mono more).then_heap (Nat.le_succ _) fun b o hb z => ?_) mv4) hS5
      rw [sb.2 b (fun z2 : b = a => hb (by rw [z2]; exact List.mem_cons_self))]
      exact z
theorem set_of_any {l : Addr} {its : Array Value} {ys : List Str} {Q : Value → Shared → Prop} (calm : A.handled = none) (hl : s.heap.IsList l its ∨ s.heap.IsTuple l its) (hi : StrsAre its.toList ys) (room : ys.length + 1 < scanBound)
    (q : ∀ (h2 : Heap) (tk : Nat), h2.SetOf (PySem.strKind P w) s.heap.objs.size (hasY ys ys.length) (disN ys ys.length) → (∀ b o, b < s.heap.objs.size → s.heap.get? b = some o → h2.get? b = some o) → Q (.ref s.heap.objs.size) { s with heap := h2, toks := tk }) :
    wpAny (model P w) A (call (.type "set") [.ref l]) Q E s := by
  have esz : ys.length = its.size := by rw [← PyProof.Rows.StrsAre.len_eq hi, Array.length_toList]
  have ⟨c1, c2, hmr⟩ := PySem.F.called_set.mro
  have hm1 := PySem.F.called_set.made; have hm2 := PySem.F.called_set.sub
  refine wpAny_call (codeAny_of_tree ?_); show wpAny _ _ (callAny (.type "set") _) _ _ _
  refine wpAny_pure ⟨Code.quiet_builtin _ (by decide +kernel), codeAny_builtin PySem.F.entry_type_call ?_⟩
  rw [Around.under_plain (weight_type_call_type "set" [.ref l] []) (by rfl)]
  have hm3 := PySem.F.called_set.notType; have hm4 := PySem.F.called_set.canCreate
  have hm5 := PySem.F.typeCall_set_1 (.ref l)
  repeat (any_goals (first | assumption | wp_step))
  refine codeAny_mono (PySem.code_set_new_1 (.ref l) (E := E) (Q₁ := fun ob s1 => ∃ led : Bool, ob = .ref s.heap.objs.size ∧ s1 = { s with heap := s.heap.push (setE led) }) fun led => ⟨led, rfl, rfl⟩) fun r s1 hr => ?_
  cases r with
  | error e => exact hr
  | ok fl =>
    cases fl with
    | ret ob =>
      obtain ⟨led, rfl, rfl⟩ := hr
      have hS : (s.heap.push (setE led)).get? s.heap.objs.size = some (setE led) := Heap.get?_push_size _ rfl
      have hT : Shared.TypeIs { s with heap := s.heap.push (setE led) } (.ref s.heap.objs.size) "set" := ⟨_, hS, rfl⟩
      have hm6 := PySem.F.called_set.init.lookup; have hm7 := PySem.F.called_set.init.bind (.ref s.heap.objs.size)
      repeat (any_goals (first | assumption | wp_step))
      refine codeAny_mono (codeAny_call_builtin (R := wants (fun r s2 => r = .none ∧ ∃ h2 tk, s2 = { s with heap := h2, toks := tk } ∧ h2.SetOf (PySem.strKind P w) s.heap.objs.size (hasY ys ys.length) (disN ys ys.length) ∧
          (∀ b o, b < s.heap.objs.size → s.heap.get? b = some o → h2.get? b = some o)) E) PySem.F.called_set.init.plain PySem.F.entry_set_init (PySem.check_set_init_1 hT ?_)) fun r2 s2 hr2 => ?_
      · rcases hl with hl | hl
        · have ⟨⟨ocl, odi, oda, osl⟩, hol, hcl, nl, hdl⟩ := hl
          simp only at hcl hdl
          subst hcl hdl
          have hol2 : (s.heap.push (setE led)).get? l = some { cls := .type "list", dict := odi, data := .seq its nl, slots := osl } := Heap.get?_push_of_some _ hol
          have hm8 := PySem.F.sub_list_set; have hm9 := PySem.F.sub_list_frozenset
          have hm10 : (Value.type "list" == Value.type "dict") = false := by decide
          have hl2 : (s.heap.push (setE led)).IsList l its := ⟨_, hol2, rfl, nl, rfl⟩
          unfold Builtin.«set.__init__» noKeywords Builtin.Frozenset.updateFrom
          generalize hIt : pyIter = It
          wp_walk
          subst hIt
          refine wpAny_pyIter_list hl2 (wpAny_bind (wpAny_runValue ?_))
          have lo : l < s.heap.objs.size := Heap.lt_size hol
          have calm3 : A.in1.in1.in1.handled = none := by simp [calm]
          have nl2 : l ≠ (s.heap.push (setE led)).objs.size := by
            rw [Heap.size_push]
            exact Nat.ne_of_lt (Nat.lt_succ_of_lt lo)
          have nf : s.heap.objs.size ∉ [(s.heap.push (setE led)).objs.size, l] := by
            rw [Heap.size_push]
            simp only [List.mem_cons, List.not_mem_nil, or_false, not_or]
            exact ⟨Nat.ne_of_lt (Nat.lt_succ_self _), Nat.ne_of_gt lo⟩
          have vals : ∀ (i : Nat) (v : Value), its[i]? = some v → ∃ y t, ys[i]? = some y ∧ v = .str y t := fun i v z => by
            have hlt : i < ys.length := by
              have := (Array.getElem?_eq_some_iff.mp z).1
              omega
            obtain ⟨t, e⟩ := SS.strs_at hi i v (by rw [Array.getElem?_toList]; exact z)
            rw [List.getD_eq_getElem?_getD, List.getElem?_eq_getElem hlt] at e
            exact ⟨ys[i], t, List.getElem?_eq_getElem hlt, e⟩
          refine fill_all ((Walks.list calm3 _ l nl2 its).toS) s.heap.objs.size nf ys esz.symm room vals (its.size - 0) 0 _ (by omega) (Nat.zero_le _) ⟨⟨_, Heap.get?_push_size _ rfl, rfl, rfl⟩, (hl2.push _)⟩ ?hA ?hB
          case hA =>
            have hg : ((s.heap.push (setE led)).push { cls := .type "list_iterator", data := .fields #[.ref l, .int 0 0] }).get? s.heap.objs.size = some (setE led) := Heap.get?_push_of_some _ hS
            exact SetOf_congr ((setObjOf_fresh (knd := PySem.strKind P w) led).setOf hg (by unfold scanBound; omega)) (fun _ => rfl) rfl
          case hB =>
            intro s3 mv hS3
            obtain ⟨h3, g3, d3, tk3, os3⟩ := s3
            obtain rfl : g3 = s.gens := mv.gens
            obtain rfl : d3 = s.drawn := mv.drawn
            obtain rfl : os3 = s.os := mv.os
            show wpAny (model P w) _ _ _ _ _
            refine wpAny_pure ?_
            show wpAny (model P w) _ (ret Value.none) _ _ _
            refine wpAny_pure ⟨rfl, h3, tk3, rfl, by rw [← esz] at hS3; exact hS3, fun b o lt z => ?_⟩
            refine mv.heap b o ?_ (Heap.get?_push_of_some _ (Heap.get?_push_of_some _ z))
            rw [Heap.size_push]
            simp only [List.mem_cons, List.not_mem_nil, or_false, not_or]
            exact ⟨Nat.ne_of_lt lt, Nat.ne_of_lt (Nat.lt_succ_of_lt lt)⟩
        · have ⟨⟨ocl, odi, oda, osl⟩, hol, hcl, nl, hdl⟩ := hl
          simp only at hcl hdl
          subst hcl hdl
          have hol2 : (s.heap.push (setE led)).get? l = some { cls := .type "tuple", dict := odi, data := .seq its nl, slots := osl } := Heap.get?_push_of_some _ hol
          have hm8 := PySem.F.sub_tuple_set; have hm9 := PySem.F.sub_tuple_frozenset
          have hm10 : (Value.type "tuple" == Value.type "dict") = false := by decide
          have hl2 : (s.heap.push (setE led)).IsTuple l its := ⟨_, hol2, rfl, nl, rfl⟩
          unfold Builtin.«set.__init__» noKeywords Builtin.Frozenset.updateFrom
          generalize hIt : pyIter = It
          wp_walk
          subst hIt
          refine wpAny_pyIter_tuple hl2 (wpAny_bind (wpAny_runValue ?_))
          have lo : l < s.heap.objs.size := Heap.lt_size hol
          have calm3 : A.in1.in1.in1.handled = none := by simp [calm]
          have nl2 : l ≠ (s.heap.push (setE led)).objs.size := by
            rw [Heap.size_push]
            exact Nat.ne_of_lt (Nat.lt_succ_of_lt lo)
          have nf : s.heap.objs.size ∉ [(s.heap.push (setE led)).objs.size, l] := by
            rw [Heap.size_push]
            simp only [List.mem_cons, List.not_mem_nil, or_false, not_or]
            exact ⟨Nat.ne_of_lt (Nat.lt_succ_self _), Nat.ne_of_gt lo⟩
          have vals : ∀ (i : Nat) (v : Value), its[i]? = some v → ∃ y t, ys[i]? = some y ∧ v = .str y t := fun i v z => by
            have hlt : i < ys.length := by
              have := (Array.getElem?_eq_some_iff.mp z).1
              omega
            obtain ⟨t, e⟩ := SS.strs_at hi i v (by rw [Array.getElem?_toList]; exact z)
            rw [List.getD_eq_getElem?_getD, List.getElem?_eq_getElem hlt] at e
            exact ⟨ys[i], t, List.getElem?_eq_getElem hlt, e⟩
          refine fill_all ((Walks.tuple calm3 _ l nl2 its).toS) s.heap.objs.size nf ys esz.symm room vals (its.size - 0) 0 _ (by omega) (Nat.zero_le _) ⟨⟨_, Heap.get?_push_size _ rfl, rfl, rfl⟩, (hl2.push _)⟩ ?hA ?hB
          case hA =>
            have hg : ((s.heap.push (setE led)).push { cls := .type "tuple_iterator", data := .fields #[.ref l, .int 0 0] }).get? s.heap.objs.size = some (setE led) := Heap.get?_push_of_some _ hS
            exact SetOf_congr ((setObjOf_fresh (knd := PySem.strKind P w) led).setOf hg (by unfold scanBound; omega)) (fun _ => rfl) rfl
          case hB =>
            intro s3 mv hS3
            obtain ⟨h3, g3, d3, tk3, os3⟩ := s3
            obtain rfl : g3 = s.gens := mv.gens
            obtain rfl : d3 = s.drawn := mv.drawn
            obtain rfl : os3 = s.os := mv.os
            show wpAny (model P w) _ _ _ _ _
            refine wpAny_pure ?_
            show wpAny (model P w) _ (ret Value.none) _ _ _
            refine wpAny_pure ⟨rfl, h3, tk3, rfl, by rw [← esz] at hS3; exact hS3, fun b o lt z => ?_⟩
            refine mv.heap b o ?_ (Heap.get?_push_of_some _ (Heap.get?_push_of_some _ z))
            rw [Heap.size_push]
            simp only [List.mem_cons, List.not_mem_nil, or_false, not_or]
            exact ⟨Nat.ne_of_lt lt, Nat.ne_of_lt (Nat.lt_succ_of_lt lt)⟩
      · cases r2 with
        | error e => exact hr2
        | ok fl2 =>
          cases fl2 with
          | ret r =>
            obtain ⟨rfl, h2, tk, rfl, hS2, k2⟩ := hr2
            repeat (any_goals (first | assumption | wp_step))
            exact q _ _ hS2 k2
          | _ => exact hr2.elim
    | _ => exact hr.elim
end
section
variable {X : Cx} {K : PySem.W.Frag}
/-- len(set(xs)) -/
def tLenSetA (K : PySem.W.Frag) (ta : TE) : TE := fun σ H Q => ta σ H fun x H1 => ∃ (l : Addr) (ys : List Str), x = .ref l ∧ (SqL K H1 l (ys.map V.str) ∨ SqT K H1 l (ys.map V.str)) ∧ ys.length < 4000 ∧ Q (.int (disN ys ys.length)) H1
theorem pe_lenSetA {a : Expr} {ta : TE} {p p2 q pos : Pos} (calm : X.calm = true) (hg : Gl X "len") (hm : X.mg "len" = none) (hg2 : Gl X "set") (hm2 : X.mg "set" = none) (ha : PE X a ta) (hK : X.K = K := by rfl)
    (na : starEach [a] X.env = (false, eval a X.env) :: starEach [] X.env := by rfl) : PE X (.Call (.Name "len" p) [.Call (.Name "set" p2) [a] [] q] [] pos) (tLenSetA K ta) := by
  subst hK
  refine ⟨fun pins s σ H Q I h => Call_ (ld_blt I hg hm PySem.boot_len ?_)⟩
  refine PyProof.Rows.callWith_builtin1 (PyProof.Rows.args_cons (Call_ (ld_blt I hg2 hm2 PyProof.Rows.boot_set ?_)) rfl) rfl rfl
  refine PyProof.Rows.callWith_type1 (PyProof.Rows.args_cons (thn (ha.run pins s σ H _ I h) fun v s1 ⟨x, H1, I1, r1, z⟩ => PyProof.Rows.args_nil ?_) na) na rfl
  obtain ⟨l, ys, rfl, hq, few, z⟩ := z
  cases r1
  have dl := disN_le ys ys.length
  have fin : ∀ (its : List Value), Vals (ys.map V.str) its → (s1.heap.IsList l its.toArray ∨ s1.heap.IsTuple l its.toArray) → wpAny (model X.prog X.w) X.A (call (.type "set") [.ref l]) (fun v s₁ => wpAny (model X.prog X.w) X.A (spliced (backTo pos (starEach [] X.env))) (fun vs s₂ => wpAny (model X.prog X.w) X.A (call (.builtin "len") (v :: vs)) (EP X pins σ Q) X.xe s₂) X.xe s₁) X.xe s1 := fun its rv pl => by
    refine set_of_any (I1.ok.hd calm) pl (by simpa using strsAre_of rv) (by unfold scanBound; omega) fun h2 tk hS k2 => PyProof.Rows.args_nil ?_
    obtain ⟨o, es, ep, t, ho, hex, hd, _, _, _, hf, hn⟩ := hS
    have I2 : Inv X pins σ H1 { s1 with heap := h2, toks := tk } := I1.kept fun b o e => k2 b o (Heap.lt_size e) e
    exact call_len_set ho hex hd hf (by rw [hn]; omega) ⟨.int (disN ys ys.length), H1, I2.tok _, ⟨_, by rw [hn]⟩, z⟩
  rcases hq with hq | hq
  · obtain ⟨its, rv, pl, _⟩ := I1.list hq
    exact fin its rv (.inl pl.isList)
  · obtain ⟨its, rv, pl, _⟩ := I1.tuple hq
    exact fin its rv (.inr pl)
end
end WT

set_option Elab.async false
set_option linter.all false
set_option maxRecDepth 100000
set_option maxHeartbeats 4000000
/-! for x, y, z in zip(a, b, c), three lists. -/
namespace WT
open PySem PySem.Spec PyProof.Rows L2
/-- the three lists as they stand, the items in new triples -/
def It3 (K : PySem.W.Frag) (a b c : Addr) : It where
  go i H := ∃ (xs ys zs : List V) (x y z : V), (SqL K H a xs ∧ xs[i]? = some x) ∧ (SqL K H b ys ∧ ys[i]? = some y) ∧ SqL K H c zs ∧ zs[i]? = some z
  yld i H v H' := ∃ T x y z, v = .ref T ∧ H T = none ∧ H' = upd H T (.tup [x, y, z]) ∧ (∀ l, SqL K H a l → l[i]? = some x) ∧ (∀ l, SqL K H b l → l[i]? = some y) ∧ ∀ l, SqL K H c l → l[i]? = some z
  stop i H := ∃ xs ys zs : List V, (SqL K H a xs ∧ i ≤ xs.length) ∧ (SqL K H b ys ∧ i ≤ ys.length) ∧ (SqL K H c zs ∧ i ≤ zs.length) ∧ (i = xs.length ∨ i = ys.length ∨ i = zs.length)
/-- the cells of the zip -/
structure Sep3 (z TI TO i1 i2 i3 a b c : Addr) : Prop where
  sep : ZipSep3 z TI TO i1 i2 i3 [i1, a] [i2, b] [i3, c]
  n1 : a ≠ i1
  n2 : b ≠ i2
  n3 : c ≠ i3
def tn3 (z TI TO i1 i2 i3 a b c : Addr) (i : Nat) (h : Heap) : Prop := IsZip h z TI TO .none ∧ IsTupOf3 h TI (.ref i1) (.ref i2) (.ref i3) ∧ (∃ u1 u2 u3, IsTupOf3 h TO u1 u2 u3) ∧ h.IsListIter i1 a i ∧ h.IsListIter i2 b i ∧ h.IsListIter i3 c i
theorem turn3 {P : Program} {w : World} {K : PySem.W.Frag} {ets : List Expr} {q : Nat} {tp : Pos} {a b c z TI TO i1 i2 i3 : Addr} (D : Sep3 z TI TO i1 i2 i3 a b c) :
    Turn P w K (.Tuple ets q tp) (It3 K a b c) [z, TI, TO, i1, i2, i3] z (tn3 z TI TO i1 i2 i3 a b c) where
  mem := List.mem_cons_self
  obj := fun i h st d hd => by
    obtain ⟨hz, hTI, ⟨_, _, _, hTO⟩, ⟨o1, e1, _, d1⟩, ⟨o2, e2, _, d2⟩, ⟨o3, e3, _, d3⟩⟩ := st
    simp only [List.mem_cons, List.not_mem_nil, or_false] at hd
    rcases hd with rfl | rfl | rfl | rfl | rfl | rfl
    · exact ⟨_, hz, fun v z => nomatch z⟩
    · exact ⟨_, hTI, fun v z => nomatch z⟩
    · exact ⟨_, hTO, fun v z => nomatch z⟩
    · exact ⟨o1, e1, fun v z => by rw [d1] at z; cases z⟩
    · exact ⟨o2, e2, fun v z => by rw [d2] at z; cases z⟩
    · exact ⟨o3, e3, fun v z => by rw [d3] at z; cases z⟩
  keep := fun i h h' st k => by
    obtain ⟨hz, hTI, ⟨u1, u2, u3, hTO⟩, s1, s2, s3⟩ := st
    exact ⟨k z (by simp) _ hz, k TI (by simp) _ hTI, ⟨u1, u2, u3, k TO (by simp) _ hTO⟩, s1.at fun o z => k i1 (by simp) o z, s2.at fun o z => k i2 (by simp) o z, s3.at fun o z => k i3 (by simp) o z⟩
  item := by
    intro X hP hw hK calm i pins s σ H E I hf st hg
    subst hP hw hK
    obtain ⟨hz, hTI, ⟨w1, w2, w3, hTO⟩, s1, s2, s3⟩ := st
    obtain ⟨xs, ys, zs, x, y, z0, ⟨q1, e1⟩, ⟨q2, e2⟩, q3, e3⟩ := hg
    obtain ⟨t1, r1, l1, _⟩ := I.list q1
    obtain ⟨t2, r2, l2, _⟩ := I.list q2
    obtain ⟨t3, r3, l3, _⟩ := I.list q3
    obtain ⟨u1, a1, b1⟩ := r1.get e1
    obtain ⟨u2, a2, b2⟩ := r2.get e2
    obtain ⟨u3, a3, b3⟩ := r3.get e3
    have calm1 : X.A.in1.handled = none := by simp [I.ok.hd calm]
    have zl : z < s.heap.objs.size := Heap.lt_size hz
    have lt1 := (List.getElem?_eq_some_iff.mp a1).1
    have lt2 := (List.getElem?_eq_some_iff.mp a2).1
    have lt3 := (List.getElem?_eq_some_iff.mp a3).1
    refine wpAny_pyNext_zipD3_item D.sep (Draws.list calm1 i1 a D.n1 t1.toArray) (Draws.list calm1 i2 b D.n2 t2.toArray) (Draws.list calm1 i3 c D.n3 t3.toArray) hz hTI hTO ⟨s1, l1.isList⟩ ⟨s2, l2.isList⟩ ⟨s3, l3.isList⟩ (by simpa using lt1) (by simpa using lt2) (by simpa using lt3)
      fun v1 v2 v3 h2 tk p1 p2 p3 z2 TO2 k1 k2 k3 hT hsz keep => ?_
    have p1 : t1[i]? = some v1 := by simpa using p1
    have p2 : t2[i]? = some v2 := by simpa using p2
    have p3 : t3[i]? = some v3 := by simpa using p3
    obtain rfl : u1 = v1 := by rw [a1] at p1; exact Option.some.inj p1
    obtain rfl : u2 = v2 := by rw [a2] at p2; exact Option.some.inj p2
    obtain rfl : u3 = v3 := by rw [a3] at p3; exact Option.some.inj p3
    refine ⟨_, rfl, wpAny_letOwnedTupleGo_zip (s := { s with heap := h2, toks := tk }) z2 fun h3 z3 sb => ?_⟩
    have hT3 : h3.get? s.heap.objs.size = some { cls := .type "tuple", data := .seq #[u1, u2, u3] } := (sb.2 _ (Nat.ne_of_gt zl)).trans hT
    have new : ObjOk X.prog X.w (upd H s.heap.objs.size (.tup [x, y, z0])) h3 s.heap.objs.size (.tup [x, y, z0]) := ⟨by show 3 ≤ sizeLine; decide, [u1, u2, u3], .cons b1 (.cons b2 (.cons b3 .nil)), ⟨_, hT3, rfl, _, rfl⟩⟩
    have I3 : Inv X pins σ (upd H s.heap.objs.size (.tup [x, y, z0])) { s with heap := h3, toks := tk } := by
      refine I.turnedNew (t' := tk) (ch := [z, TI, TO, i1, i2, i3]) (fun d o hd e => ?_) hf (Nat.le_refl _) new
      simp only [List.mem_cons, List.not_mem_nil, or_false, not_or] at hd
      exact (sb.2 d hd.1).trans (keep d o hd.1 hd.2.2.1 hd.2.2.2.1 hd.2.2.2.2.1 hd.2.2.2.2.2 e)
    refine ⟨.ref s.heap.objs.size, _, I3, rfl, ⟨_, x, y, z0, rfl, I.hok.fresh (Nat.le_refl _), rfl, fun l hl => by rw [I.list_inj hl q1]; exact e1, fun l hl => by rw [I.list_inj hl q2]; exact e2, fun l hl => by rw [I.list_inj hl q3]; exact e3⟩, ⟨z3, ?_, ⟨u1, u2, u3, ?_⟩, ?_, ?_, ?_⟩, fun d hd => ?_⟩
    · exact (sb.2 _ D.sep.TIz).trans (keep _ _ D.sep.TIz D.sep.TITO D.sep.TIi1 D.sep.TIi2 D.sep.TIi3 hTI)
    · exact (sb.2 _ D.sep.TOz).trans TO2
    · exact k1.1.at fun o e => (sb.2 _ (Ne.symm D.sep.zi1)).trans e
    · exact k2.1.at fun o e => (sb.2 _ (Ne.symm D.sep.zi2)).trans e
    · exact k3.1.at fun o e => (sb.2 _ (Ne.symm D.sep.zi3)).trans e
    · have lt : d < s.heap.objs.size := by
        simp only [List.mem_cons, List.not_mem_nil, or_false] at hd
        rcases hd with rfl | rfl | rfl | rfl | rfl | rfl
        · exact zl
        · exact Heap.lt_size hTI
        · exact Heap.lt_size hTO
        · obtain ⟨_, e, _⟩ := s1
          exact Heap.lt_size e
        · obtain ⟨_, e, _⟩ := s2
          exact Heap.lt_size e
        · obtain ⟨_, e, _⟩ := s3
          exact Heap.lt_size e
      rw [upd_ne (Nat.ne_of_lt lt)]
      exact (hf d hd).1
  done := by
    intro X hP hw hK calm i pins s σ H E I hf st hg
    subst hP hw hK
    obtain ⟨hz, hTI, ⟨w1, w2, w3, hTO⟩, s1, s2, s3⟩ := st
    obtain ⟨xs, ys, zs, ⟨q1, e1⟩, ⟨q2, e2⟩, ⟨q3, e3⟩, hend⟩ := hg
    obtain ⟨t1, r1, l1, _⟩ := I.list q1
    obtain ⟨t2, r2, l2, _⟩ := I.list q2
    obtain ⟨t3, r3, l3, _⟩ := I.list q3
    have m1 := r1.length
    have m2 := r2.length
    have m3 := r3.length
    have calm1 : X.A.in1.handled = none := by simp [I.ok.hd calm]
    refine wpAny_pyNext_zipD3_end D.sep (Draws.list calm1 i1 a D.n1 t1.toArray) (Draws.list calm1 i2 b D.n2 t2.toArray) (Draws.list calm1 i3 c D.n3 t3.toArray) hz hTI hTO ⟨s1, l1.isList⟩ ⟨s2, l2.isList⟩ ⟨s3, l3.isList⟩ (by simp; omega) (by simp; omega) (by simp; omega) (by simp; omega)
      fun h2 tk keep => ⟨rfl, I.turnedL (t' := tk) (ch := [z, TI, TO, i1, i2, i3]) (fun d o hd e => ?_) hf⟩
    simp only [List.mem_cons, List.not_mem_nil, or_false, not_or] at hd
    exact keep d o hd.1 hd.2.2.1 hd.2.2.2.1 hd.2.2.2.2.1 hd.2.2.2.2.2 e
  self := fun A i s Q E st h => wpAny_pyIter_zip st.1 h
theorem sep3_mk (n a b c : Nat) (la : a < n) (lb : b < n) (lc : c < n) : Sep3 (n + 5) (n + 3) (n + 4) n (n + 1) (n + 2) a b c := by
  refine ⟨⟨?_, ?_, ?_, ?_, ?_, ?_, ?_, ?_, ?_, ?_, ?_, ?_, ?_, ?_, ?_, ?_, ?_, ?_, ?_, ?_, ?_⟩, ?_, ?_, ?_⟩ <;>
    first
      | exact fun (h : @Eq Nat _ _) => by omega
      | exact List.mem_cons_self
      | (simp only [List.mem_cons, List.not_mem_nil, or_false, not_or]; exact ⟨fun (h : @Eq Nat _ _) => by omega, fun (h : @Eq Nat _ _) => by omega⟩)
def iZip3 (K : PySem.W.Frag) (ta : TA) : TI := fun σ H R => ta σ H fun vs H1 => ∃ a b c xs ys zs, vs = [.ref a, .ref b, .ref c] ∧ SqL K H1 a xs ∧ SqL K H1 b ys ∧ SqL K H1 c zs ∧ R (It3 K a b c) H1
theorem pi_zip3 {X : Cx} {e e2 e3 : Expr} {ta : TA} {p pos tp : Pos} {ets : List Expr} {kk : Nat} (hg : Gl X "zip") (hm : X.mg "zip" = none) (ha : PA X [e, e2, e3] ta)
    (hs : starEach [e, e2, e3] X.env = (false, eval e X.env) :: starEach [e2, e3] X.env := by rfl) (hpl : (backTo pos (starEach [e2, e3] X.env)).any (·.1) = false := by rfl) :
    PI X (.Tuple ets kk tp) (.Call (.Name "zip" p) [e, e2, e3] [] pos) (iZip3 X.K ta) := by
  refine ⟨fun pins s σ H R I h => Call_ (ld_blt I hg hm PyProof.Rows.boot_zip (PyProof.Rows.callWith_type1 (thn (ha.run pos pins s σ H _ I h) fun us s1 ⟨vs, H1, I1, rv, q1⟩ => ?_) hs hpl))⟩
  obtain ⟨a, b, c, xs, ys, zs, rfl, q1, q2, q3, q⟩ := q1
  cases rv with
  | cons r rv =>
    cases rv with
    | cons r' rv =>
      cases rv with
      | cons r'' rv =>
        cases rv
        cases r
        cases r'
        cases r''
        obtain ⟨t1, _, l1, _⟩ := I1.list q1
        obtain ⟨t2, _, l2, _⟩ := I1.list q2
        obtain ⟨t3, _, l3, _⟩ := I1.list q3
        have la : a < s1.heap.objs.size := l1.lt
        have lb : b < s1.heap.objs.size := l2.lt
        have lc : c < s1.heap.objs.size := l3.lt
        refine zip_begins3 (begins_list a t1.toArray) (begins_list b t2.toArray) (begins_list c t3.toArray) l1.isList l2.isList l3.isList fun h2 hz hTI hTO g1 g2 g3 hsz keep => wpAny_pyIter_zip hz ?_
        have I2 : Inv X pins σ H1 { s1 with heap := h2 } := I1.kept (t' := s1.toks) keep
        refine ⟨s1.heap.objs.size + 5, [s1.heap.objs.size + 5, s1.heap.objs.size + 3, s1.heap.objs.size + 4, s1.heap.objs.size, s1.heap.objs.size + 1, s1.heap.objs.size + 2], _, _, H1, rfl, I2, turn3 (sep3_mk s1.heap.objs.size a b c la lb lc), ⟨hz, hTI, ⟨_, _, _, hTO⟩, ⟨_, g1, rfl, rfl⟩, ⟨_, g2, rfl, rfl⟩, ⟨_, g3, rfl, rfl⟩⟩, fun d hd => ?_, q⟩
        have le : s1.heap.objs.size ≤ d := by
          simp only [List.mem_cons, List.not_mem_nil, or_false] at hd
          rcases hd with rfl | rfl | rfl | rfl | rfl | rfl
          · exact Nat.le_add_right _ _
          · exact Nat.le_add_right _ _
          · exact Nat.le_add_right _ _
          · exact Nat.le_refl _
          · exact Nat.le_add_right _ _
          · exact Nat.le_add_right _ _
        exact I1.fpOk le (I1.hok.fresh le)
def YTrip (xs ys zs : List V) : Nat → Hp → V → Hp → Prop := fun i H v H' => ∃ T x y z, v = .ref T ∧ H T = none ∧ H' = upd H T (.tup [x, y, z]) ∧ xs[i]? = some x ∧ ys[i]? = some y ∧ zs[i]? = some z
theorem walk_zip3 {K : PySem.W.Frag} {a b c : Addr} {xs ys zs : List V} {n : Nat} (hn : n = min (min xs.length ys.length) zs.length) : Walk (It3 K a b c) n (fun H => SqL K H a xs ∧ SqL K H b ys ∧ SqL K H c zs) (YTrip xs ys zs) := by
  subst hn
  refine ⟨fun i _ hi q => ?_, fun _ q => ⟨xs, ys, zs, ⟨q.1, by omega⟩, ⟨q.2.1, by omega⟩, ⟨q.2.2, by omega⟩, by omega⟩, fun i H v H' _ q y => ?_⟩
  · have h1 : i < xs.length := by omega
    have h2 : i < ys.length := by omega
    have h3 : i < zs.length := by omega
    exact ⟨xs, ys, zs, xs[i], ys[i], zs[i], ⟨q.1, by simp [h1]⟩, ⟨q.2.1, by simp [h2]⟩, q.2.2, by simp [h3]⟩
  · obtain ⟨T, x, y, z, h1, h2, h3, h4, h5, h6⟩ := y
    exact ⟨T, x, y, z, h1, h2, h3, h4 xs q.1, h5 ys q.2.1, h6 zs q.2.2⟩
end WT

set_option Elab.async false
set_option linter.all false
set_option maxRecDepth 100000
set_option maxHeartbeats 4000000
/-! for x, y, z in zip(a, b, c), three tuples. -/
namespace WT
open PySem PySem.Spec PyProof.Rows L2
def It3T (K : PySem.W.Frag) (a b c : Addr) : It where
  go i H := ∃ (xs ys zs : List V) (x y z : V), (SqT K H a xs ∧ xs[i]? = some x) ∧ (SqT K H b ys ∧ ys[i]? = some y) ∧ SqT K H c zs ∧ zs[i]? = some z
  yld i H v H' := ∃ T x y z, v = .ref T ∧ H T = none ∧ H' = upd H T (.tup [x, y, z]) ∧ (∀ l, SqT K H a l → l[i]? = some x) ∧ (∀ l, SqT K H b l → l[i]? = some y) ∧ ∀ l, SqT K H c l → l[i]? = some z
  stop i H := ∃ xs ys zs : List V, (SqT K H a xs ∧ i ≤ xs.length) ∧ (SqT K H b ys ∧ i ≤ ys.length) ∧ (SqT K H c zs ∧ i ≤ zs.length) ∧ (i = xs.length ∨ i = ys.length ∨ i = zs.length)
def tn3T (z TI TO i1 i2 i3 a b c : Addr) (i : Nat) (h : Heap) : Prop := IsZip h z TI TO .none ∧ IsTupOf3 h TI (.ref i1) (.ref i2) (.ref i3) ∧ (∃ u1 u2 u3, IsTupOf3 h TO u1 u2 u3) ∧ h.IsTupleIter i1 a i ∧ h.IsTupleIter i2 b i ∧ h.IsTupleIter i3 c i
theorem turn3T {P : Program} {w : World} {K : PySem.W.Frag} {ets : List Expr} {q : Nat} {tp : Pos} {a b c z TI TO i1 i2 i3 : Addr} (D : Sep3 z TI TO i1 i2 i3 a b c) :
    Turn P w K (.Tuple ets q tp) (It3T K a b c) [z, TI, TO, i1, i2, i3] z (tn3T z TI TO i1 i2 i3 a b c) where
  mem := List.mem_cons_self
  obj := fun i h st d hd => by
    obtain ⟨hz, hTI, ⟨_, _, _, hTO⟩, ⟨o1, e1, _, d1⟩, ⟨o2, e2, _, d2⟩, ⟨o3, e3, _, d3⟩⟩ := st
    simp only [List.mem_cons, List.not_mem_nil, or_false] at hd
    rcases hd with rfl | rfl | rfl | rfl | rfl | rfl
    · exact ⟨_, hz, fun v z => nomatch z⟩
    · exact ⟨_, hTI, fun v z => nomatch z⟩
    · exact ⟨_, hTO, fun v z => nomatch z⟩
    · exact ⟨o1, e1, fun v z => by rw [d1] at z; cases z⟩
    · exact ⟨o2, e2, fun v z => by rw [d2] at z; cases z⟩
    · exact ⟨o3, e3, fun v z => by rw [d3] at z; cases z⟩
  keep := fun i h h' st k => by
    obtain ⟨hz, hTI, ⟨u1, u2, u3, hTO⟩, s1, s2, s3⟩ := st
    exact ⟨k z (by simp) _ hz, k TI (by simp) _ hTI, ⟨u1, u2, u3, k TO (by simp) _ hTO⟩, s1.at fun o z => k i1 (by simp) o z, s2.at fun o z => k i2 (by simp) o z, s3.at fun o z => k i3 (by simp) o z⟩
  item := by
    intro X hP hw hK calm i pins s σ H E I hf st hg
    subst hP hw hK
    obtain ⟨hz, hTI, ⟨w1, w2, w3, hTO⟩, s1, s2, s3⟩ := st
    obtain ⟨xs, ys, zs, x, y, z0, ⟨q1, e1⟩, ⟨q2, e2⟩, q3, e3⟩ := hg
    obtain ⟨t1, r1, l1, _⟩ := I.tuple q1
    obtain ⟨t2, r2, l2, _⟩ := I.tuple q2
    obtain ⟨t3, r3, l3, _⟩ := I.tuple q3
    obtain ⟨u1, a1, b1⟩ := r1.get e1
    obtain ⟨u2, a2, b2⟩ := r2.get e2
    obtain ⟨u3, a3, b3⟩ := r3.get e3
    have calm1 : X.A.in1.handled = none := by simp [I.ok.hd calm]
    have zl : z < s.heap.objs.size := Heap.lt_size hz
    have lt1 := (List.getElem?_eq_some_iff.mp a1).1
    have lt2 := (List.getElem?_eq_some_iff.mp a2).1
    have lt3 := (List.getElem?_eq_some_iff.mp a3).1
    refine wpAny_pyNext_zipD3_item D.sep (Draws.tuple calm1 i1 a D.n1 t1.toArray) (Draws.tuple calm1 i2 b D.n2 t2.toArray) (Draws.tuple calm1 i3 c D.n3 t3.toArray) hz hTI hTO ⟨s1, l1⟩ ⟨s2, l2⟩ ⟨s3, l3⟩ (by simpa using lt1) (by simpa using lt2) (by simpa using lt3)
      fun v1 v2 v3 h2 tk p1 p2 p3 z2 TO2 k1 k2 k3 hT hsz keep => ?_
    have p1 : t1[i]? = some v1 := by simpa using p1
    have p2 : t2[i]? = some v2 := by simpa using p2
    have p3 : t3[i]? = some v3 := by simpa using p3
    obtain rfl : u1 = v1 := by rw [a1] at p1; exact Option.some.inj p1
    obtain rfl : u2 = v2 := by rw [a2] at p2; exact Option.some.inj p2
    obtain rfl : u3 = v3 := by rw [a3] at p3; exact Option.some.inj p3
    refine ⟨_, rfl, wpAny_letOwnedTupleGo_zip (s := { s with heap := h2, toks := tk }) z2 fun h3 z3 sb => ?_⟩
    have hT3 : h3.get? s.heap.objs.size = some { cls := .type "tuple", data := .seq #[u1, u2, u3] } := (sb.2 _ (Nat.ne_of_gt zl)).trans hT
    have new : ObjOk X.prog X.w (upd H s.heap.objs.size (.tup [x, y, z0])) h3 s.heap.objs.size (.tup [x, y, z0]) := ⟨by show 3 ≤ sizeLine; decide, [u1, u2, u3], .cons b1 (.cons b2 (.cons b3 .nil)), ⟨_, hT3, rfl, _, rfl⟩⟩
    have I3 : Inv X pins σ (upd H s.heap.objs.size (.tup [x, y, z0])) { s with heap := h3, toks := tk } := by
      refine I.turnedNew (t' := tk) (ch := [z, TI, TO, i1, i2, i3]) (fun d o hd e => ?_) hf (Nat.le_refl _) new
      simp only [List.mem_cons, List.not_mem_nil, or_false, not_or] at hd
      exact (sb.2 d hd.1).trans (keep d o hd.1 hd.2.2.1 hd.2.2.2.1 hd.2.2.2.2.1 hd.2.2.2.2.2 e)
    refine ⟨.ref s.heap.objs.size, _, I3, rfl, ⟨_, x, y, z0, rfl, I.hok.fresh (Nat.le_refl _), rfl, fun l hl => by rw [I.tuple_inj hl q1]; exact e1, fun l hl => by rw [I.tuple_inj hl q2]; exact e2, fun l hl => by rw [I.tuple_inj hl q3]; exact e3⟩, ⟨z3, ?_, ⟨u1, u2, u3, ?_⟩, ?_, ?_, ?_⟩, fun d hd => ?_⟩
    · exact (sb.2 _ D.sep.TIz).trans (keep _ _ D.sep.TIz D.sep.TITO D.sep.TIi1 D.sep.TIi2 D.sep.TIi3 hTI)
    · exact (sb.2 _ D.sep.TOz).trans TO2
    · exact k1.1.at fun o e => (sb.2 _ (Ne.symm D.sep.zi1)).trans e
    · exact k2.1.at fun o e => (sb.2 _ (Ne.symm D.sep.zi2)).trans e
    · exact k3.1.at fun o e => (sb.2 _ (Ne.symm D.sep.zi3)).trans e
    · have lt : d < s.heap.objs.size := by
        simp only [List.mem_cons, List.not_mem_nil, or_false] at hd
        rcases hd with rfl | rfl | rfl | rfl | rfl | rfl
        · exact zl
        · exact Heap.lt_size hTI
        · exact Heap.lt_size hTO
        · obtain ⟨_, e, _⟩ := s1
          exact Heap.lt_size e
        · obtain ⟨_, e, _⟩ := s2
          exact Heap.lt_size e
        · obtain ⟨_, e, _⟩ := s3
          exact Heap.lt_size e
      rw [upd_ne (Nat.ne_of_lt lt)]
      exact (hf d hd).1
  done := by
    intro X hP hw hK calm i pins s σ H E I hf st hg
    subst hP hw hK
    obtain ⟨hz, hTI, ⟨w1, w2, w3, hTO⟩, s1, s2, s3⟩ := st
    obtain ⟨xs, ys, zs, ⟨q1, e1⟩, ⟨q2, e2⟩, ⟨q3, e3⟩, hend⟩ := hg
    obtain ⟨t1, r1, l1, _⟩ := I.tuple q1
    obtain ⟨t2, r2, l2, _⟩ := I.tuple q2
    obtain ⟨t3, r3, l3, _⟩ := I.tuple q3
    have m1 := r1.length
    have m2 := r2.length
    have m3 := r3.length
    have calm1 : X.A.in1.handled = none := by simp [I.ok.hd calm]
    refine wpAny_pyNext_zipD3_end D.sep (Draws.tuple calm1 i1 a D.n1 t1.toArray) (Draws.tuple calm1 i2 b D.n2 t2.toArray) (Draws.tuple calm1 i3 c D.n3 t3.toArray) hz hTI hTO ⟨s1, l1⟩ ⟨s2, l2⟩ ⟨s3, l3⟩ (by simp; omega) (by simp; omega) (by simp; omega) (by simp; omega)
      fun h2 tk keep => ⟨rfl, I.turnedL (t' := tk) (ch := [z, TI, TO, i1, i2, i3]) (fun d o hd e => ?_) hf⟩
    simp only [List.mem_cons, List.not_mem_nil, or_false, not_or] at hd
    exact keep d o hd.1 hd.2.2.1 hd.2.2.2.1 hd.2.2.2.2.1 hd.2.2.2.2.2 e
  self := fun A i s Q E st h => wpAny_pyIter_zip st.1 h
def iZip3T (K : PySem.W.Frag) (ta : TA) : TI := fun σ H R => ta σ H fun vs H1 => ∃ a b c xs ys zs, vs = [.ref a, .ref b, .ref c] ∧ SqT K H1 a xs ∧ SqT K H1 b ys ∧ SqT K H1 c zs ∧ R (It3T K a b c) H1
theorem pi_zip3T {X : Cx} {e e2 e3 : Expr} {ta : TA} {p pos tp : Pos} {ets : List Expr} {kk : Nat} (hg : Gl X "zip") (hm : X.mg "zip" = none) (ha : PA X [e, e2, e3] ta)
    (hs : starEach [e, e2, e3] X.env = (false, eval e X.env) :: starEach [e2, e3] X.env := by rfl) (hpl : (backTo pos (starEach [e2, e3] X.env)).any (·.1) = false := by rfl) :
    PI X (.Tuple ets kk tp) (.Call (.Name "zip" p) [e, e2, e3] [] pos) (iZip3T X.K ta) := by
  refine ⟨fun pins s σ H R I h => Call_ (ld_blt I hg hm PyProof.Rows.boot_zip (PyProof.Rows.callWith_type1 (thn (ha.run pos pins s σ H _ I h) fun us s1 ⟨vs, H1, I1, rv, q1⟩ => ?_) hs hpl))⟩
  obtain ⟨a, b, c, xs, ys, zs, rfl, q1, q2, q3, q⟩ := q1
  cases rv with
  | cons r rv =>
    cases rv with
    | cons r' rv =>
      cases rv with
      | cons r'' rv =>
        cases rv
        cases r
        cases r'
        cases r''
        obtain ⟨t1, _, l1, _⟩ := I1.tuple q1
        obtain ⟨t2, _, l2, _⟩ := I1.tuple q2
        obtain ⟨t3, _, l3, _⟩ := I1.tuple q3
        have la : a < s1.heap.objs.size := l1.lt
        have lb : b < s1.heap.objs.size := l2.lt
        have lc : c < s1.heap.objs.size := l3.lt
        refine zip_begins3 (begins_tuple a t1.toArray) (begins_tuple b t2.toArray) (begins_tuple c t3.toArray) l1 l2 l3 fun h2 hz hTI hTO g1 g2 g3 hsz keep => wpAny_pyIter_zip hz ?_
        have I2 : Inv X pins σ H1 { s1 with heap := h2 } := I1.kept (t' := s1.toks) keep
        refine ⟨s1.heap.objs.size + 5, [s1.heap.objs.size + 5, s1.heap.objs.size + 3, s1.heap.objs.size + 4, s1.heap.objs.size, s1.heap.objs.size + 1, s1.heap.objs.size + 2], _, _, H1, rfl, I2, turn3T (sep3_mk s1.heap.objs.size a b c la lb lc), ⟨hz, hTI, ⟨_, _, _, hTO⟩, ⟨_, g1, rfl, rfl⟩, ⟨_, g2, rfl, rfl⟩, ⟨_, g3, rfl, rfl⟩⟩, fun d hd => ?_, q⟩
        have le : s1.heap.objs.size ≤ d := by
          simp only [List.mem_cons, List.not_mem_nil, or_false] at hd
          rcases hd with rfl | rfl | rfl | rfl | rfl | rfl
          · exact Nat.le_add_right _ _
          · exact Nat.le_add_right _ _
          · exact Nat.le_add_right _ _
          · exact Nat.le_refl _
          · exact Nat.le_add_right _ _
          · exact Nat.le_add_right _ _
        exact I1.fpOk le (I1.hok.fresh le)
def YTripT (xs ys zs : List V) : Nat → Hp → V → Hp → Prop := fun i H v H' => ∃ T x y z, v = .ref T ∧ H T = none ∧ H' = upd H T (.tup [x, y, z]) ∧ xs[i]? = some x ∧ ys[i]? = some y ∧ zs[i]? = some z
theorem walk_zip3T {K : PySem.W.Frag} {a b c : Addr} {xs ys zs : List V} {n : Nat} (hn : n = min (min xs.length ys.length) zs.length) : Walk (It3T K a b c) n (fun H => SqT K H a xs ∧ SqT K H b ys ∧ SqT K H c zs) (YTripT xs ys zs) := by
  subst hn
  refine ⟨fun i _ hi q => ?_, fun _ q => ⟨xs, ys, zs, ⟨q.1, by omega⟩, ⟨q.2.1, by omega⟩, ⟨q.2.2, by omega⟩, by omega⟩, fun i H v H' _ q y => ?_⟩
  · have h1 : i < xs.length := by omega
    have h2 : i < ys.length := by omega
    have h3 : i < zs.length := by omega
    exact ⟨xs, ys, zs, xs[i], ys[i], zs[i], ⟨q.1, by simp [h1]⟩, ⟨q.2.1, by simp [h2]⟩, q.2.2, by simp [h3]⟩
  · obtain ⟨T, x, y, z, h1, h2, h3, h4, h5, h6⟩ := y
    exact ⟨T, x, y, z, h1, h2, h3, h4 xs q.1, h5 ys q.2.1, h6 zs q.2.2⟩
end WT

set_option Elab.async false
set_option linter.all false
set_option maxRecDepth 100000
set_option maxHeartbeats 4000000
namespace WT
open PySem PySem.Spec PyProof.Rows L2
/-! ### every second item; values that are paths -/
def evR {α : Type} : List α → List α
  | [] => []
  | [x] => [x]
  | x :: _ :: t => x :: evR t
def odR {α : Type} : List α → List α
  | [] => []
  | [_] => []
  | _ :: y :: t => y :: odR t
theorem evR_len {α : Type} : ∀ xs : List α, (evR xs).length = (xs.length + 1) / 2
  | [] => by simp [evR]
  | [x] => by simp [evR]
  | x :: y :: t => by
    have := evR_len t
    simp only [evR, List.length_cons]
    omega
theorem odR_len {α : Type} : ∀ xs : List α, (odR xs).length = xs.length / 2
  | [] => by simp [odR]
  | [x] => by simp [odR]
  | x :: y :: t => by
    have := odR_len t
    simp only [odR, List.length_cons]
    omega
theorem evR_at {α : Type} : ∀ (xs : List α) (i : Nat), (evR xs)[i]? = xs[2 * i]?
  | [], i => by simp [evR]
  | [x], 0 => rfl
  | [x], i + 1 => by
    show none = _
    rw [List.getElem?_eq_none (by simp; omega)]
  | x :: y :: t, 0 => rfl
  | x :: y :: t, i + 1 => by
    show (evR t)[i]? = (x :: y :: t)[2 * (i + 1)]?
    rw [evR_at t i, show 2 * (i + 1) = 2 * i + 1 + 1 by omega, List.getElem?_cons_succ, List.getElem?_cons_succ]
theorem odR_at {α : Type} : ∀ (xs : List α) (i : Nat), (odR xs)[i]? = xs[2 * i + 1]?
  | [], i => by simp [odR]
  | [x], i => by
    show none = _
    rw [List.getElem?_eq_none (by simp)]
  | x :: y :: t, 0 => rfl
  | x :: y :: t, i + 1 => by
    show (odR t)[i]? = (x :: y :: t)[2 * (i + 1) + 1]?
    rw [odR_at t i, show 2 * (i + 1) + 1 = 2 * i + 1 + 1 + 1 by omega, List.getElem?_cons_succ, List.getElem?_cons_succ]
theorem step_evR {α : Type} (xs : List α) : stepL xs none none 2 = evR xs := by
  have h := pick_all (evR xs)
  have e : Builtin.Slice.slicePlaces (Builtin.Slice.sliceAdjust none none 2 (xs.length : Int)).1 (Builtin.Slice.sliceAdjust none none 2 (xs.length : Int)).2 2 = (evR xs).length := by
    rw [evR_len]
    unfold Builtin.Slice.slicePlaces Builtin.Slice.sliceAdjust
    simp
    split <;> omega
  unfold stepL
  rw [e]
  refine Eq.trans ?_ h
  congr 1
  funext m
  have : (Builtin.Slice.sliceAdjust none none 2 (xs.length : Int)).1 = 0 := rfl
  rw [this, show ((0 : Int) + (m : Int) * 2).toNat = 2 * m by omega]
  exact (evR_at xs m).symm
theorem step_odR {α : Type} (xs : List α) : stepL xs (some 1) none 2 = odR xs := by
  cases xs with
  | nil => rfl
  | cons x xs =>
    have h := pick_all (odR (x :: xs))
    have e0 : (Builtin.Slice.sliceAdjust (some 1) none 2 ((x :: xs).length : Int)).1 = 1 := by
      unfold Builtin.Slice.sliceAdjust
      simp
      omega
    have e : Builtin.Slice.slicePlaces (Builtin.Slice.sliceAdjust (some 1) none 2 ((x :: xs).length : Int)).1 (Builtin.Slice.sliceAdjust (some 1) none 2 ((x :: xs).length : Int)).2 2 = (odR (x :: xs)).length := by
      rw [e0, odR_len]
      unfold Builtin.Slice.slicePlaces Builtin.Slice.sliceAdjust
      simp
      split <;> omega
    unfold stepL
    rw [e]
    refine Eq.trans ?_ h
    congr 1
    funext m
    rw [e0, show ((1 : Int) + (m : Int) * 2).toNat = 2 * m + 1 by omega]
    exact (odR_at (x :: xs) m).symm
theorem evR_map {α β : Type} (f : α → β) : ∀ xs : List α, evR (xs.map f) = (evR xs).map f
  | [] => rfl
  | [x] => rfl
  | x :: y :: t => by
    show f x :: evR (t.map f) = f x :: (evR t).map f
    rw [evR_map f t]
theorem odR_map {α β : Type} (f : α → β) : ∀ xs : List α, odR (xs.map f) = (odR xs).map f
  | [] => rfl
  | [x] => rfl
  | x :: y :: t => by
    show f y :: odR (t.map f) = f y :: (odR t).map f
    rw [odR_map f t]
theorem dt_evR {K : PySem.W.Frag} {H : Hp} : ∀ {xs : List V} {ds : List PyData}, DtAll K H xs ds → DtAll K H (evR xs) (evR ds)
  | _, _, .nil => .nil
  | _, _, .cons h .nil => .cons h .nil
  | _, _, .cons h (.cons _ t) => .cons h (dt_evR t)
theorem dt_odR {K : PySem.W.Frag} {H : Hp} : ∀ {xs : List V} {ds : List PyData}, DtAll K H xs ds → DtAll K H (odR xs) (odR ds)
  | _, _, .nil => .nil
  | _, _, .cons _ .nil => .nil
  | _, _, .cons _ (.cons h t) => .cons h (dt_odR t)
theorem dt_strs {K : PySem.W.Frag} {H : Hp} : ∀ {ss : List Str} {xs : List V}, DtAll K H xs (ss.map PyData.str) → xs = ss.map V.str
  | [], _, h => by
    cases h
    rfl
  | s :: ss, _, h => by
    cases h with
    | cons h t =>
      cases h
      rw [dt_strs t]
      rfl
theorem dt_at {K : PySem.W.Frag} {H : Hp} : ∀ {xs : List V} {ds : List PyData} {i : Nat} {x : V}, DtAll K H xs ds → xs[i]? = some x → ∃ d, ds[i]? = some d ∧ Dt K H x d
  | _, _, _, _, .nil, h => by simp at h
  | _, _, 0, _, .cons h _, e => by
    cases e
    exact ⟨_, rfl, h⟩
  | _, _, i + 1, _, .cons _ t, e => dt_at (i := i) t e
/-- both halves are texts: the whole is -/
theorem halves : ∀ {ds : List PyData} {es os : List Str}, evR ds = es.map PyData.str → odR ds = os.map PyData.str → ∃ ss : List Str, ds = ss.map PyData.str ∧ evR ss = es ∧ odR ss = os
  | [], [], [], _, _ => ⟨[], rfl, rfl, rfl⟩
  | [d], [e], [], h, _ => by
    have : d = .str e := by simpa [evR] using h
    exact ⟨[e], by rw [this]; rfl, rfl, rfl⟩
  | d :: d2 :: t, e :: es, o :: os, h, k => by
    have h1 : d = .str e ∧ evR t = es.map PyData.str := by simpa [evR] using h
    have k1 : d2 = .str o ∧ odR t = os.map PyData.str := by simpa [odR] using k
    obtain ⟨ss, a1, a2, a3⟩ := halves h1.2 k1.2
    exact ⟨e :: o :: ss, by rw [h1.1, k1.1, a1]; rfl, by rw [← a2]; rfl, by rw [← a3]; rfl⟩
  | [], _ :: _, _, h, _ => by simp [evR] at h
  | [], [], _ :: _, _, k => by simp [odR] at k
  | [_], [], _, h, _ => by simp [evR] at h
  | [_], _ :: _ :: _, _, h, _ => by simp [evR] at h
  | [_], [_], _ :: _, _, k => by simp [odR] at k
  | _ :: _ :: _, [], _, h, _ => by simp [evR] at h
  | _ :: _ :: _, _ :: _, [], _, k => by simp [odR] at k
/-- texts that are a path of the world -/
structure PathI (rs : List Str) (gs : List Gt) (ss : List Str) : Prop where
  odd : ss.length % 2 = 1
  reg : ∀ s ∈ evR ss, s ∈ rs
  gat : ∀ s ∈ odR ss, s ∈ gs.map (·.1)
  rnd : (evR ss).Nodup
  gnd : (odR ss).Nodup
  join : ∀ (i : Nat) (n x y : Str), (odR ss)[i]? = some n → (evR ss)[i]? = some x → (evR ss)[i + 1]? = some y → Has gs n x y
def IsPathD (rs : List Str) (gs : List Gt) (d : PyData) : Prop := ∃ ss, d = .tuple (ss.map PyData.str) ∧ PathI rs gs ss
/-- different ones among the known -/
def DiffD (ks : List Str) (ds : List PyData) : Prop := ∃ ss : List Str, ds = ss.map PyData.str ∧ (∀ s ∈ ss, s ∈ ks) ∧ ss.Nodup
theorem strs_inj {a b : List Str} (h : a.map PyData.str = b.map PyData.str) : a = b := by
  induction a generalizing b with
  | nil =>
    cases b with
    | nil => rfl
    | cons _ _ => cases h
  | cons x a ih =>
    cases b with
    | nil => cases h
    | cons y b =>
      injection h with h1 h2
      injection h1 with h1
      rw [h1, ih h2]
theorem all_in_iff {ks : List Str} : ∀ ds : List PyData, (ds.map fun d => isIn d ks).all id = true ↔ ∃ ss : List Str, ds = ss.map PyData.str ∧ ∀ s ∈ ss, s ∈ ks
  | [] => by
    exact ⟨fun _ => ⟨[], rfl, fun s hs => by cases hs⟩, fun _ => rfl⟩
  | d :: ds => by
    have ih := all_in_iff (ks := ks) ds
    rw [List.map_cons, List.all_cons, Bool.and_eq_true, ih]
    constructor
    · rintro ⟨h1, ss, rfl, h2⟩
      cases d with
      | str s =>
        refine ⟨s :: ss, rfl, fun z hz => ?_⟩
        rcases List.mem_cons.mp hz with e | hz
        · rw [e]
          exact of_decide_eq_true h1
        · exact h2 z hz
      | _ => cases h1
    · rintro ⟨ss, e, h2⟩
      cases ss with
      | nil => cases e
      | cons s ss =>
        injection e with e1 e2
        subst e1
        exact ⟨decide_eq_true (h2 s List.mem_cons_self), ss, e2, fun z hz => h2 z (List.mem_cons_of_mem _ hz)⟩
end WT

set_option Elab.async false
set_option linter.all false
set_option maxRecDepth 100000
set_option maxHeartbeats 4000000
/-! slices, sums, reverses of tuples of data; lists of candidates. -/
namespace WT
open PySem PySem.Spec PyProof.Rows L2
theorem fm_congr {α β : Type} {f g : α → Option β} : ∀ {l : List α}, (∀ x ∈ l, f x = g x) → l.filterMap f = l.filterMap g
  | [], _ => rfl
  | x :: l, h => by
    have e := h x List.mem_cons_self
    have t := fm_congr (l := l) fun y hy => h y (List.mem_cons_of_mem _ hy)
    rw [List.filterMap_cons, List.filterMap_cons, e, t]
theorem step_rev {α : Type} (xs : List α) : stepL xs none none (-1) = xs.reverse := by
  have h := pick_all xs.reverse
  have e : Builtin.Slice.slicePlaces (Builtin.Slice.sliceAdjust none none (-1) (xs.length : Int)).1 (Builtin.Slice.sliceAdjust none none (-1) (xs.length : Int)).2 (-1) = xs.reverse.length := by
    rw [List.length_reverse]
    unfold Builtin.Slice.slicePlaces Builtin.Slice.sliceAdjust
    simp
    try split <;> omega
    try omega
  unfold stepL
  rw [e]
  refine Eq.trans ?_ h
  rw [List.length_reverse]
  have q : (Builtin.Slice.sliceAdjust none none (-1) (xs.length : Int)).1 = (xs.length : Int) - 1 := by
    unfold Builtin.Slice.sliceAdjust
    simp
    try omega
  rw [q]
  refine fm_congr fun m hm => ?_
  have hm := List.mem_range.mp hm
  rw [List.getElem?_reverse hm]
  congr 1
  omega
section
variable {K : PySem.W.Frag} {H : Hp}
theorem dt_app : ∀ {xs ys : List V} {ds es : List PyData}, DtAll K H xs ds → DtAll K H ys es → DtAll K H (xs ++ ys) (ds ++ es)
  | [], _, _, _, .nil, k => k
  | _ :: _, _, _, _, .cons h t, k => .cons h (dt_app t k)
theorem dt_rev : ∀ {xs : List V} {ds : List PyData}, DtAll K H xs ds → DtAll K H xs.reverse ds.reverse
  | [], _, .nil => .nil
  | _ :: _, _, .cons h t => by
    rw [List.reverse_cons, List.reverse_cons]
    exact dt_app (dt_rev t) (.cons h .nil)
theorem dt_drop : ∀ {xs : List V} {ds : List PyData} (n : Nat), DtAll K H xs ds → DtAll K H (xs.drop n) (ds.drop n)
  | _, _, 0, h => h
  | [], _, _ + 1, .nil => .nil
  | _ :: _, _, n + 1, .cons _ t => dt_drop n t
theorem dt_take : ∀ {xs : List V} {ds : List PyData} (n : Nat), DtAll K H xs ds → DtAll K H (xs.take n) (ds.take n)
  | _, _, 0, _ => .nil
  | [], _, _ + 1, .nil => .nil
  | _ :: _, _, n + 1, .cons h t => .cons h (dt_take n t)
end
/-- a part of data -/
def cutD (ds : List PyData) (lo hi : Option Int) : List PyData := (ds.drop (HT.sIx ds.length 0 lo)).take (HT.sIx ds.length ds.length hi - HT.sIx ds.length 0 lo)
theorem dt_cut {K : PySem.W.Frag} {H : Hp} {xs : List V} {ds : List PyData} (h : DtAll K H xs ds) (lo hi : Option Int) : DtAll K H (cutV xs lo hi) (cutD ds lo hi) := by
  unfold cutV cutD
  rw [← h.length]
  exact dt_take _ (dt_drop _ h)
theorem SmA.cut {W D : Nat} {ds : List PyData} (h : SmA W D ds) (lo hi : Option Int) : SmA W D (cutD ds lo hi) := (h.drop _).take _
theorem cutD_all {ds : List PyData} {lo hi : Option Int} (h : HT.sIx ds.length 0 lo = 0 ∧ HT.sIx ds.length ds.length hi = ds.length) : cutD ds lo hi = ds := by
  unfold cutD
  rw [h.1, h.2, List.drop_zero, Nat.sub_zero, List.take_length]
theorem cutV_all {ds : List V} {lo hi : Option Int} (h : HT.sIx ds.length 0 lo = 0 ∧ HT.sIx ds.length ds.length hi = ds.length) : cutV ds lo hi = ds := by
  unfold cutV
  rw [h.1, h.2, List.drop_zero, Nat.sub_zero, List.take_length]
/-- a tuple of data, some objects apart -/
structure TupD (K : PySem.W.Frag) (S : Addr → Bool) (H : Hp) (p : Addr) (xs : List V) (ds : List PyData) : Prop where
  sq : SqT K (del S H) p xs
  all : DtAll K (del S H) xs ds
section
variable {K : PySem.W.Frag} {S : Addr → Bool} {a : Addr} {H H' : Hp} {p : Addr} {xs : List V} {ds : List PyData}
theorem TupD.off (h : TupD K S H p xs ds) : Off K S H (.ref p) (.tuple ds) := .tup h.sq h.all
theorem TupD.st (h : TupD K S H p xs ds) : SqT K H p xs := sameT (del_sub S H) h.sq
theorem TupD.but (h : TupD K S H p xs ds) (hS : S a = true) (b : But a H H') : TupD K S H' p xs ds := ⟨sameT (del_but hS b) h.sq, DtAll.same (del_but hS b) h.all⟩
theorem TupD.same (h : TupD K S H p xs ds) (b : Same H H') : TupD K S H' p xs ds := ⟨sameT (del_same b) h.sq, DtAll.same (del_same b) h.all⟩
theorem TupD.new (lv : Live S H) (n : H p = none) (h : DtAll K (del S H) xs ds) : TupD K S (upd H p (.tup xs)) p xs ds :=
  ⟨SqT.of (del_at (lv.new n) upd_same), DtAll.same (del_same (same_new n)) h⟩
theorem off_tup {v : V} (h : Off K S H v (.tuple ds)) : ∃ p xs, v = .ref p ∧ TupD K S H p xs ds := by
  cases h with
  | tup h k => exact ⟨_, _, rfl, h, k⟩
theorem off_str {v : V} {s : Str} (h : Off K S H v (.str s)) : v = .str s := by
  cases h
  rfl
theorem off_lst (lv : Live S H) (n : H p = none) (h : DtAll K (del S H) xs ds) : Off K S (upd H p (.lst xs)) (.ref p) (.list ds) :=
  .lst (SqL.of (del_at (lv.new n) upd_same)) (DtAll.same (del_same (same_new n)) h)
theorem off_dic (lv : Live S H) (n : H p = none) : Off K S (upd H p (.dK [])) (.ref p) (.dict []) :=
  .dic (kvs := []) (ds := []) (Rd.of (del_at (lv.new n) upd_same)) .nil
/-- value[lo:hi] of a tuple -/
theorem sl_any {lo hi : Option Int} {Q : VK} (lv : Live S H) (h : TupD K S H p xs ds) (k : ∀ q H', Same H H' → TupD K S H' q (cutV xs lo hi) (cutD ds lo hi) → Q (.ref q) H') : rSlA K (.ref p) lo hi H Q := by
  refine ⟨p, xs, rfl, h.st, fun c => ?_, fun _ q n => k q _ (same_new n) (.new lv n (dt_cut h.all lo hi))⟩
  refine k p H (fun _ _ e => e) ?_
  rw [cutV_all c, cutD_all (by rw [← h.all.length]; exact c)]
  exact h
theorem sl_lo {σ : L2.St} {lo : Option Int} {Q : VK} (lv : Live S H) (h : TupD K S H p xs ds) (k : ∀ q H', Same H H' → TupD K S H' q (cutV xs lo none) (cutD ds lo none) → Q (.ref q) H') : tNoPart σ H (fun u H3 => rSlA K (.ref p) lo u H3 Q) := sl_any lv h k
/-- one tuple and another -/
theorem cat_any {q : Addr} {ys : List V} {es : List PyData} {Q : VK} (lv : Live S H) (h : TupD K S H p xs ds) (g : TupD K S H q ys es) (hz : xs.length + ys.length ≤ sizeLine) (k : ∀ r H', Same H H' → TupD K S H' r (xs ++ ys) (ds ++ es) → Q (.ref r) H') : rCatA K (.ref p) (.ref q) H Q := by
  refine ⟨p, q, xs, ys, rfl, rfl, h.st, g.st, hz, fun e => ?_, fun _ e => ?_, fun _ _ r n => k r _ (same_new n) (.new lv n (dt_app h.all g.all))⟩
  · subst e
    have := h.all
    cases this
    exact k q H (fun _ _ e => e) g
  · subst e
    have := g.all
    cases this
    refine k p H (fun _ _ e => e) ?_
    rw [List.append_nil, List.append_nil]
    exact h
/-- each of these may stand in the place of d -/
def Cand (K : PySem.W.Frag) (S : Addr → Bool) (H : Hp) (d : PyData) (xs : List V) : Prop := ∀ x ∈ xs, ∃ e, Off K S H x e ∧ Near d e
theorem Cand.but {d : PyData} {xs : List V} (h : Cand K S H d xs) (hS : S a = true) (b : But a H H') : Cand K S H' d xs := fun x hx => by
  obtain ⟨e, h1, h2⟩ := h x hx
  exact ⟨e, h1.but hS b, h2⟩
theorem Cand.same {d : PyData} {xs : List V} (h : Cand K S H d xs) (b : Same H H') : Cand K S H' d xs := fun x hx => by
  obtain ⟨e, h1, h2⟩ := h x hx
  exact ⟨e, h1.same b, h2⟩
theorem Cand.nil {d : PyData} : Cand K S H d [] := fun x hx => absurd hx List.not_mem_nil
theorem Cand.cons {d e : PyData} {x : V} {xs : List V} (h1 : Off K S H x e) (h2 : Near d e) (h : Cand K S H d xs) : Cand K S H d (x :: xs) := fun y hy => by
  rcases List.mem_cons.mp hy with rfl | hy
  · exact ⟨e, h1, h2⟩
  · exact h y hy
theorem Cand.app {d : PyData} {xs ys : List V} (h : Cand K S H d xs) (k : Cand K S H d ys) : Cand K S H d (xs ++ ys) := fun y hy => (List.mem_append.mp hy).elim (h y) (k y)
theorem Cand.rep {d : PyData} {xs : List V} (n : Nat) (h : Cand K S H d xs) : Cand K S H d (List.replicate n xs).flatten := fun y hy => by
  obtain ⟨l, hl, hy⟩ := List.mem_flatten.mp hy
  rw [(List.mem_replicate.mp hl).2] at hy
  exact h y hy
end
theorem asc_cut {s : Str} (lo hi : Option Int) (h : Asc s) : Asc (cutS s lo hi) ∧ (cutS s lo hi).length ≤ s.length :=
  ⟨fun c hc => h c (List.mem_of_mem_drop (List.mem_of_mem_take (by
    have hc : c ∈ (((s.cps.toList.drop (HT.sIx s.length 0 lo)).take (HT.sIx s.length s.length hi - HT.sIx s.length 0 lo)).toArray).toList := hc
    rw [List.toList_toArray] at hc
    exact hc))), cutS_length s lo hi⟩
theorem near_small {d e : PyData} (h : Sm 110 2 e) : Near d e := ⟨h.nr, by have := h.wt; omega, by have := h.de; omega⟩
/-- parts of a tuple near it -/
theorem near_tup {ds es : List PyData} (h : SmA (2 * PyData.weightAll ds + 110) (PyData.depthAll ds + 2) es) : Near (.tuple ds) (.tuple es) := ⟨.tup _ h.nr, by rw [PyData.weight, PyData.weight]; exact h.wt, by rw [PyData.depth, PyData.depth]; have := h.de; omega⟩
theorem near_lst {ds es : List PyData} (h : SmA (2 * PyData.weightAll ds + 110) (PyData.depthAll ds + 2) es) : Near (.tuple ds) (.list es) := ⟨.lst _ h.nr, by rw [PyData.weight, PyData.weight]; exact h.wt, by rw [PyData.depth, PyData.depth]; have := h.de; omega⟩
theorem near_txt {s t : Str} (h : Asc t) (k : t.length ≤ s.length + 1) : Near (.str s) (.str t) := ⟨.str _ h, by rw [PyData.weight, PyData.weight]; have : t.cps.size ≤ s.cps.size + 1 := k; omega, by rw [PyData.depth, PyData.depth]; omega⟩
/-- a tuple of anything != () -/
def rNe0 (K : PySem.W.Frag) : R2 := fun x y H Q => ∃ (a b : Addr) (xs : List V), x = .ref a ∧ y = .ref b ∧ SqT K H a xs ∧ SqT K H b [] ∧ Q (.bl (!xs.isEmpty)) H
theorem op_ne0 {X : Cx} {K : PySem.W.Frag} (hu : X.A.units + 64 < cLine) (hK : X.K = K := by rfl) : OpR X (compareOp .NotEq) (rNe0 K) := by
  subst hK
  intro pins s σ H x y v u Q I rx ry h
  obtain ⟨a, b, xs, rfl, rfl, ha, hb, q⟩ := h
  cases rx
  cases ry
  obtain ⟨its, r1, pl, _⟩ := I.tuple ha
  obtain ⟨its2, r2, pl2, _⟩ := I.tuple hb
  cases r2
  have e := Vals.length r1
  refine SeqAt.RcNeAt.tuples (e := fun _ => true) pl pl2 (by omega) (fun j h1 h2 => absurd h2 (by simp)) _ _ _ _ ?_
  refine ⟨.bl _, H, I, rfl, ?_⟩
  cases xs with
  | nil =>
    cases r1
    exact q
  | cons x xs =>
    cases r1
    exact q
theorem cutD_left {ds : List PyData} {j : Nat} (h : j ≤ ds.length) : cutD ds none (some (j : Int)) = ds.take j := by
  unfold cutD
  rw [HT.sIx_none, HT.sIx_nat, List.drop_zero, Nat.sub_zero, Nat.min_eq_left h]
theorem cutD_right {ds : List PyData} {j : Nat} (h : j ≤ ds.length) : cutD ds (some (j : Int)) none = ds.drop j := by
  unfold cutD
  rw [HT.sIx_none, HT.sIx_nat, Nat.min_eq_left h]
  exact List.take_of_length_le (by rw [List.length_drop]; exact Nat.le_refl _)
theorem depth_at {ds : List PyData} {i : Nat} {d : PyData} (e : ds[i]? = some d) : d.depth ≤ PyData.depthAll ds ∧ d.weight + 1 ≤ PyData.weightAll ds := by
  obtain ⟨hi, e⟩ := List.getElem?_eq_some_iff.mp e
  have s : ds = ds.take i ++ (d :: ds.drop (i + 1)) := by
    rw [← e, List.getElem_cons_drop, List.take_append_drop]
  rw [s, w_app, d_app, w_cons, d_cons]
  omega
end WT

set_option Elab.async false
set_option linter.all false
set_option maxRecDepth 100000
set_option maxHeartbeats 4000000
/-! what values() of k07 needs: how many paths there are at most, the weight of a path, a list that grows. -/
namespace WT
open PySem PySem.Spec PyProof.Rows L2
theorem flat_len {α β : Type} {f : α → List β} {B : Nat} : ∀ {l : List α}, (∀ x ∈ l, (f x).length ≤ B) → (l.flatMap f).length ≤ l.length * B
  | [], _ => by simp
  | x :: l, h => by
    have a := h x List.mem_cons_self
    have b := flat_len (l := l) fun y hy => h y (List.mem_cons_of_mem _ hy)
    rw [List.flatMap_cons, List.length_append, List.length_cons, Nat.add_mul]
    omega
theorem kids_len0 {gs : List Gt} {bar : List Str} {one : Str} {B : Nat} (hB : ∀ g ∈ gs, g.2.1.length ≤ B + 1) (l : List (Str × Str)) : (kids gs bar one l).length ≤ gs.length * B := by
  unfold kids
  exact flat_len fun g hg => kidsOf_len (hB g hg) l
/-- a bound for all paths -/
def Few (rs : List Str) (gs : List Gt) : Prop := ∃ M D : Nat, (M + 1) ^ D ≤ 1000000 ∧ D ≤ 4 ∧ ∀ one ∈ rs, (∀ k, GoodP gs [] rs one k → k.length ≤ D) ∧ ∀ l, (kids gs [] one l).length ≤ M
theorem few_of {rs : List Str} {gs : List Gt} (h : rs.length ≤ 10 ∧ gs.length ≤ 3 ∨ rs.length ≤ 6 ∧ gs.length ≤ 4) (hm : ∀ g ∈ gs, g.2.1.length ≤ rs.length) : Few rs gs := by
  rcases h with ⟨hr, hg⟩ | ⟨hr, hg⟩
  · refine ⟨27, 3, by decide, by decide, fun one ho => ⟨fun k hk => Nat.le_trans hk.lenG hg, fun l => Nat.le_trans (kids_len0 (B := 9) (fun g h => Nat.le_trans (hm g h) hr) l) ?_⟩⟩
    omega
  · refine ⟨20, 4, by decide, by decide, fun one ho => ⟨fun k hk => Nat.le_trans hk.lenG hg, fun l => Nat.le_trans (kids_len0 (B := 5) (fun g h => Nat.le_trans (hm g h) hr) l) ?_⟩⟩
    omega
theorem strs_sm : ∀ {ss : List Str}, (∀ s ∈ ss, NmOk s) → SmA (9 * ss.length) 0 (ss.map PyData.str)
  | [], _ => .nil _ _
  | s :: ss, h => by
    have a : Sm 8 0 (.str s) := ⟨.str _ (asc_nm (h s List.mem_cons_self)), by rw [PyData.weight]; exact (h s List.mem_cons_self).len, by rw [PyData.depth]; exact Nat.le_refl _⟩
    have b := strs_sm (ss := ss) fun y hy => h y (List.mem_cons_of_mem _ hy)
    exact ((SmA.one a).app b).mono (by rw [List.length_cons]; omega) (Nat.le_refl _)
theorem dt_of_strs {K : PySem.W.Frag} {H : Hp} : ∀ ss : List Str, DtAll K H (ss.map V.str) (ss.map PyData.str)
  | [] => .nil
  | s :: ss => .cons (.str s) (dt_of_strs ss)
/-- the hand and the list that grows -/
def both (a F : Addr) : Addr → Bool := fun c => decide (c = a) || decide (c = F)
theorem both_l (a F : Addr) : both a F a = true := by
  unfold both
  simp
theorem both_r (a F : Addr) : both a F F = true := by
  unfold both
  simp
theorem both_no {a F p : Addr} (h1 : p ≠ a) (h2 : p ≠ F) : both a F p = false := by
  unfold both
  simp [h1, h2]
theorem both_live {a F : Addr} {H : Hp} {o u : HO} (h1 : H a = some o) (h2 : H F = some u) : Live (both a F) H := fun b h => by
  unfold both at h
  have : b = a ∨ b = F := by simpa using h
  rcases this with rfl | rfl
  · rw [h1]
    exact fun z => nomatch z
  · rw [h2]
    exact fun z => nomatch z
/-- a list of small data, those objects apart -/
def Vd (K : PySem.W.Frag) (S : Addr → Bool) (H : Hp) (xs : List V) : Prop := ∀ x ∈ xs, ∃ e, Off K S H x e ∧ Sm 1000 6 e
section
variable {K : PySem.W.Frag} {S : Addr → Bool} {a : Addr} {H H' : Hp} {xs ys : List V}
theorem Vd.but (h : Vd K S H xs) (hS : S a = true) (b : But a H H') : Vd K S H' xs := fun x hx => by
  obtain ⟨e, h1, h2⟩ := h x hx
  exact ⟨e, h1.but hS b, h2⟩
theorem Vd.same (h : Vd K S H xs) (b : Same H H') : Vd K S H' xs := fun x hx => by
  obtain ⟨e, h1, h2⟩ := h x hx
  exact ⟨e, h1.same b, h2⟩
theorem Vd.upd {o : HO} (h : Vd K S H xs) (hS : S a = true) : Vd K S (upd H a o) xs := h.but hS But.upd
theorem Vd.nil : Vd K S H [] := fun x hx => absurd hx List.not_mem_nil
theorem Vd.cons {x : V} {e : PyData} (h1 : Off K S H x e) (h2 : Sm 1000 6 e) (h : Vd K S H xs) : Vd K S H (x :: xs) := fun y hy => by
  rcases List.mem_cons.mp hy with rfl | hy
  · exact ⟨e, h1, h2⟩
  · exact h y hy
theorem Vd.app (h : Vd K S H xs) (k : Vd K S H ys) : Vd K S H (xs ++ ys) := fun y hy => (List.mem_append.mp hy).elim (h y) (k y)
/-- a tuple that is neither -/
theorem tup_off {p : Addr} {zs : List V} {ds : List PyData} (n : S p = false) (h : H p = some (.tup zs)) (k : DtAll K (del S H) zs ds) : TupD K S H p zs ds := ⟨SqT.of (del_at n h), k⟩
end
end WT

set_option Elab.async false
set_option linter.all false
set_option maxRecDepth 100000
set_option maxHeartbeats 1000000
/-! written values of any depth, dicts among them; data that repr can show, by weight and depth. -/
namespace WT
open PySem PySem.Spec PyProof.Rows L2
/-- data that repr can show, of at most that weight and depth -/
structure Wf (W D : Nat) (d : PyData) : Prop where
  sh : d.showable = true
  sm : d.leavesShort 40 = true
  wt : d.weight ≤ W
  de : d.depth ≤ D
structure WfA (W D : Nat) (ds : List PyData) : Prop where
  ok : ∀ d ∈ ds, d.showable = true ∧ d.leavesShort 40 = true
  wt : PyData.weightAll ds ≤ W
  de : PyData.depthAll ds ≤ D
theorem Wf.mono {W D W' D' : Nat} {d : PyData} (h : Wf W D d) (h1 : W ≤ W') (h2 : D ≤ D') : Wf W' D' d := ⟨h.sh, h.sm, Nat.le_trans h.wt h1, Nat.le_trans h.de h2⟩
theorem WfA.mono {W D W' D' : Nat} {ds : List PyData} (h : WfA W D ds) (h1 : W ≤ W') (h2 : D ≤ D') : WfA W' D' ds := ⟨h.ok, Nat.le_trans h.wt h1, Nat.le_trans h.de h2⟩
theorem Wf.fit {W D : Nat} {d : PyData} (h : Wf W D d) : Fit D (42 * W + 40) d := ⟨h.sh, h.de, Nat.le_trans (PyData.shown_le 40 (by decide) d h.sm) (by have := h.wt; omega)⟩
theorem Sm.wf {W D : Nat} {d : PyData} (h : Sm W D d) : Wf W D d := ⟨h.nr.short.1, h.nr.short.2, h.wt, h.de⟩
theorem SmA.wf {W D : Nat} {ds : List PyData} (h : SmA W D ds) : WfA W D ds := ⟨fun d hd => (h.nr d hd).short, h.wt, h.de⟩
theorem WfA.tup {W D : Nat} {ds : List PyData} (h : WfA W D ds) : Wf W (D + 1) (.tuple ds) := by
  obtain ⟨a, b⟩ := short_all h.ok
  exact ⟨by rw [PyData.showable]; exact a, by rw [PyData.leavesShort]; exact b, by rw [PyData.weight]; exact h.wt, by rw [PyData.depth]; have := h.de; omega⟩
theorem WfA.lst {W D : Nat} {ds : List PyData} (h : WfA W D ds) : Wf W (D + 1) (.list ds) := by
  obtain ⟨a, b⟩ := short_all h.ok
  exact ⟨by rw [PyData.showable]; exact a, by rw [PyData.leavesShort]; exact b, by rw [PyData.weight]; exact h.wt, by rw [PyData.depth]; have := h.de; omega⟩
theorem WfA.nil (W D : Nat) : WfA W D [] := ⟨fun _ h => absurd h List.not_mem_nil, by rw [w_nil]; exact Nat.zero_le _, by rw [d_nil]; exact Nat.zero_le _⟩
theorem WfA.one {W D : Nat} {d : PyData} (h : Wf W D d) : WfA (W + 1) D [d] := by
  refine ⟨fun x hx => ?_, ?_, ?_⟩
  · rw [List.mem_singleton.mp hx]
    exact ⟨h.sh, h.sm⟩
  · rw [w_cons, w_nil]
    have := h.wt
    omega
  · rw [d_cons, d_nil]
    have := h.de
    omega
theorem WfA.app {W D W' : Nat} {a b : List PyData} (h : WfA W D a) (k : WfA W' D b) : WfA (W + W') D (a ++ b) :=
  ⟨fun d hd => (List.mem_append.mp hd).elim (h.ok d) (k.ok d), by rw [w_app]; have := h.wt; have := k.wt; omega, by rw [d_app]; have := h.de; have := k.de; omega⟩
theorem Wf.dict {W D : Nat} {d : PyData} {k : Str} (h : Wf W D d) (hk : Asc k) : Wf (W + k.cps.size + 2) (D + 1) (.dict [(.str k, d)]) := by
  refine ⟨?_, ?_, ?_, ?_⟩
  · rw [PyData.showable, PyData.showableKv, h.sh, PyData.showable, PyData.showableKv]
    rfl
  · rw [PyData.leavesShort, PyData.leavesShortKv, h.sm, PyData.leavesShortKv, (Nr.short (.str k hk)).2]
    rfl
  · rw [PyData.weight, PyData.weightKv, PyData.weightKv, PyData.weight]
    have := h.wt
    omega
  · rw [PyData.depth, PyData.depthKv, PyData.depthKv, PyData.depth]
    have := h.de
    omega
theorem w_take (n : Nat) (ds : List PyData) : PyData.weightAll (ds.take n) + PyData.weightAll (ds.drop n) = PyData.weightAll ds := by
  rw [← w_app, List.take_append_drop]
theorem d_take (n : Nat) (ds : List PyData) : max (PyData.depthAll (ds.take n)) (PyData.depthAll (ds.drop n)) = PyData.depthAll ds := by
  rw [← d_app, List.take_append_drop]
theorem WfA.take {W D : Nat} {a : List PyData} (h : WfA W D a) (n : Nat) : WfA W D (a.take n) := ⟨fun d hd => h.ok d (List.mem_of_mem_take hd), by have := w_take n a; have := h.wt; omega, by have := d_take n a; have := h.de; omega⟩
theorem WfA.drop {W D : Nat} {a : List PyData} (h : WfA W D a) (n : Nat) : WfA W D (a.drop n) := ⟨fun d hd => h.ok d (List.mem_of_mem_drop hd), by have := w_take n a; have := h.wt; omega, by have := d_take n a; have := h.de; omega⟩
theorem WfA.rev {W D : Nat} {a : List PyData} (h : WfA W D a) : WfA W D a.reverse := ⟨fun d hd => h.ok d (List.mem_reverse.mp hd), by rw [w_rev]; exact h.wt, by rw [d_rev]; exact h.de⟩
/-- texts and tuples of such -/
inductive Tx : PyData → Prop
  | str (s : Str) (h : Asc s) : Tx (.str s)
  | tup (ds : List PyData) (h : ∀ d ∈ ds, Tx d) : Tx (.tuple ds)
theorem Tx.nr {d : PyData} (h : Tx d) : Nr d := by
  induction h with
  | str s h => exact .str s h
  | tup ds h ih => exact .tup ds ih
theorem tx_all {ds : List PyData} (h : ∀ d ∈ ds, Tx d) : WfA (PyData.weightAll ds) (PyData.depthAll ds) ds := ⟨fun d hd => (h d hd).nr.short, Nat.le_refl _, Nat.le_refl _⟩
/-- something else in it -/
def Bn (d e : PyData) : Prop := Wf (2 * d.weight + 200) (d.depth + 16) e
theorem bn_tup {ds es : List PyData} (h : WfA (2 * PyData.weightAll ds + 200) (PyData.depthAll ds + 16) es) : Bn (.tuple ds) (.tuple es) := h.tup.mono (by rw [PyData.weight]; exact Nat.le_refl _) (by rw [PyData.depth]; omega)
theorem WfA.put {W D C : Nat} {a : List PyData} {i : Nat} {d e : PyData} (h : WfA W D a) (hd : a[i]? = some d) (k : Wf (2 * d.weight + C) (d.depth + 16) e) : WfA (2 * W + C) (D + 16) (a.take i ++ [e] ++ a.drop (i + 1)) := by
  obtain ⟨hi, hd⟩ := List.getElem?_eq_some_iff.mp hd
  have s : a = a.take i ++ (d :: a.drop (i + 1)) := by
    rw [← hd, List.getElem_cons_drop, List.take_append_drop]
  have h2 := h
  rw [s] at h2
  obtain ⟨x, y, z⟩ := h2
  rw [w_app, w_cons] at y
  rw [d_app, d_cons] at z
  have kw := k.wt
  have kd := k.de
  refine ⟨fun q hq => ?_, ?_, ?_⟩
  · rw [List.append_assoc] at hq
    rcases List.mem_append.mp hq with hq | hq
    · exact x q (List.mem_append.mpr (.inl hq))
    · rcases List.mem_append.mp hq with hq | hq
      · rw [List.mem_singleton.mp hq]
        exact ⟨k.sh, k.sm⟩
      · exact x q (List.mem_append.mpr (.inr (List.mem_cons_of_mem _ hq)))
  · rw [w_app, w_app, w_cons, w_nil]
    omega
  · rw [d_app, d_app, d_cons, d_nil]
    omega
theorem seq_asg {t : TE} {g : TG} {u : L2.TS} {D : Ends} {σ : L2.St} {H : Hp} (h : t σ H fun v H1 => g v σ H1 (u D)) : tSeq (tAsg t g) u D σ H := h
theorem cons_hd {t : TE} {ts : TA} {σ : L2.St} {H : Hp} {Q : List V → Hp → Prop} (h : t σ H fun x H1 => ts σ H1 fun xs H2 => Q (x :: xs) H2) : tCons t ts σ H Q := h
section
variable {K : PySem.W.Frag} {S : Addr → Bool} {σ : L2.St} {H0 : Hp}
/-- an expression whose value is that data, whatever new objects there are -/
def Lit (K : PySem.W.Frag) (S : Addr → Bool) (σ : L2.St) (H0 : Hp) (t : TE) (d : PyData) : Prop := ∀ (H : Hp) (Q : VK), Same H0 H → (∀ H' x, Same H H' → Off K S H' x d → Q x H') → t σ H Q
def LitA (K : PySem.W.Frag) (S : Addr → Bool) (σ : L2.St) (H0 : Hp) (t : TA) (ds : List PyData) : Prop := ∀ (H : Hp) (Q : List V → Hp → Prop), Same H0 H → (∀ H' xs, Same H H' → DtAll K (del S H') xs ds → Q xs H') → t σ H Q
theorem lit_str (s : Str) : Lit K S σ H0 (tC (.str s)) (.str s) := fun H Q _ k => k H _ (fun _ _ e => e) (.str _)
theorem lit_int (i : Int) : Lit K S σ H0 (tC (.int i)) (.int i) := fun H Q _ k => k H _ (fun _ _ e => e) (.int _)
theorem lit_bl (b : Bool) : Lit K S σ H0 (tC (.bl b)) (.bool b) := fun H Q _ k => k H _ (fun _ _ e => e) (.bl _)
theorem lit_non : Lit K S σ H0 (tC .non) .none := fun H Q _ k => k H _ (fun _ _ e => e) .non
theorem lit_var {i : Nat} {v : V} {d : PyData} (e : σ[i]? = some (some v)) (h : Off K S H0 v d) : Lit K S σ H0 (tVar i) d := fun H Q s k => ⟨v, e, k H _ (fun _ _ e => e) (h.same s)⟩
theorem lit_nil : LitA K S σ H0 tNil [] := fun H Q _ k => k H _ (fun _ _ e => e) .nil
theorem lit_cons {t : TE} {d : PyData} {ts : TA} {ds : List PyData} (h : Lit K S σ H0 t d) (k : LitA K S σ H0 ts ds) : LitA K S σ H0 (tCons t ts) (d :: ds) := fun H Q s q =>
  h H _ s fun H1 x s1 o1 => k H1 _ (s.trans s1) fun H2 xs s2 o2 => q H2 _ (s1.trans s2) (.cons (Off.same o1 s2) o2)
theorem lit_tup {ts : TA} {ds : List PyData} (lv : Live S H0) (h : LitA K S σ H0 ts ds) (l : ds.length ≤ 4000 := by decide) : Lit K S σ H0 (tTup ts) (.tuple ds) := fun H Q s q =>
  h H _ s fun H1 xs s1 o1 => ⟨Nat.le_trans (by rw [DtAll.length o1]; exact l) (by decide), fun p np => q _ _ (s1.trans (same_new np)) (TupD.new (lv.same (s.trans s1)) np o1).off⟩
theorem lit_lst {ts : TA} {ds : List PyData} (lv : Live S H0) (h : LitA K S σ H0 ts ds) (l : ds.length ≤ 4000 := by decide) : Lit K S σ H0 (tLst ts) (.list ds) := fun H Q s q =>
  h H _ s fun H1 xs s1 o1 => ⟨Nat.le_trans (by rw [DtAll.length o1]; exact l) (by decide), fun p np => q _ _ (s1.trans (same_new np)) (off_lst (lv.same (s.trans s1)) np o1)⟩
theorem lit_dnew (lv : Live S H0) : Lit K S σ H0 tDNewK (.dict []) := fun H Q s q p np => q _ _ (same_new np) (off_dic (lv.same s) np)
/-- {k: variable} -/
theorem lit_disp {i : Nat} {v : V} {d : PyData} {k : Str} (lv : Live S H0) (e : σ[i]? = some (some v)) (h : Off K S H0 v d) : Lit K S σ H0 (tDisp [(tC (.str k), tVar i)]) (.dict [(.str k, d)]) := fun H Q s q p np => by
  refine ⟨v, e, upd_same, [(Sum.inr k, v)], rfl, (by show 1 ≤ 15; decide), q _ _ (fun c o ec => ?_) ?_⟩
  · rw [upd_ne (ne_of_none ec np), upd_ne (ne_of_none ec np)]
    exact ec
  · have nS : S p = false := (lv.same s).new np
    have z : Same H (upd (upd H p (.dK [])) p (.dK (mergeK [] [(Sum.inr k, v)]))) := fun c o ec => by
      rw [upd_ne (ne_of_none ec np), upd_ne (ne_of_none ec np)]
      exact ec
    have hv := h.same (s.trans z)
    exact .dic (kvs := [(Sum.inr k, v)]) (ds := [d]) (.inl (del_at nS upd_same)) (.cons hv .nil)
/-- a list of written values -/
theorem lit_list {ts : TA} {ds : List PyData} {H : Hp} {Q : VK} (h : LitA K S σ H0 ts ds) (lv : Live S H0) (s : Same H0 H) (l : ds.length ≤ 4000) (q : ∀ H' p xs, Same H H' → H p = none → H' p = some (.lst xs) → S p = false → DtAll K (del S H') xs ds → Q (.ref p) H') : tLst ts σ H Q :=
  h H _ s fun H1 xs s1 o1 => ⟨Nat.le_trans (by rw [DtAll.length o1]; exact l) (by decide), fun p np => q _ p xs (s1.trans (same_new np)) (s1.free np) upd_same ((lv.same (s.trans s1)).new np) (DtAll.same (del_same (same_new np)) o1)⟩
end
end WT

set_option Elab.async false
set_option linter.all false
set_option maxRecDepth 100000
set_option maxHeartbeats 4000000
/-! is_cycle of any value. -/
namespace WT
open PySem PySem.Spec PyProof.Rows L2
def duoD (p : Str × Str) : PyData := .tuple [.str p.1, .str p.2]
structure CycI (rs : List Str) (gs : List Gt) (ps : List (Str × Str)) : Prop where
  two : 2 ≤ ps.length
  reg : ∀ x ∈ ps.map (·.1), x ∈ rs
  gat : ∀ n ∈ ps.map (·.2), n ∈ gs.map (·.1)
  rnd : (ps.map (·.1)).Nodup
  gnd : (ps.map (·.2)).Nodup
  join : ∀ (i : Nat) (p : Str × Str) (y : Str), ps[i]? = some p → ((ps.map (·.1)).tail ++ (ps.map (·.1)).take 1)[i]? = some y → Has gs p.2 p.1 y
/-- any value that is a cycle -/
def IsCycD (rs : List Str) (gs : List Gt) (d : PyData) : Prop := ∃ ps, d = .tuple (ps.map duoD) ∧ CycI rs gs ps
def isPair : PyData → Bool
  | .tuple [_, _] => true
  | _ => false
def twoD (q : PyData × PyData) : PyData := .tuple [q.1, q.2]
theorem isPair_of {d : PyData} (h : isPair d = true) : ∃ q, d = twoD q := by
  unfold isPair at h
  split at h
  · exact ⟨(_, _), rfl⟩
  · cases h
theorem all_pairs : ∀ ds : List PyData, (ds.map isPair).all id = true ↔ ∃ qs : List (PyData × PyData), ds = qs.map twoD
  | [] => ⟨fun _ => ⟨[], rfl⟩, fun _ => rfl⟩
  | d :: ds => by
    rw [List.map_cons, List.all_cons, Bool.and_eq_true, all_pairs ds]
    constructor
    · rintro ⟨h, qs, rfl⟩
      obtain ⟨q, rfl⟩ := isPair_of h
      exact ⟨q :: qs, rfl⟩
    · rintro ⟨qs, e⟩
      cases qs with
      | nil => cases e
      | cons q qs =>
        rw [List.map_cons] at e
        injection e with e1 e2
        rw [e1]
        exact ⟨rfl, qs, e2⟩
theorem pairs_txt : ∀ {qs : List (PyData × PyData)} {rr nn : List Str}, qs.map (·.1) = rr.map PyData.str → qs.map (·.2) = nn.map PyData.str → ∃ ps : List (Str × Str), qs.map twoD = ps.map duoD ∧ ps.map (·.1) = rr ∧ ps.map (·.2) = nn
  | [], rr, nn, h1, h2 => by
    cases rr with
    | nil =>
      cases nn with
      | nil => exact ⟨[], rfl, rfl, rfl⟩
      | cons _ _ => cases h2
    | cons _ _ => cases h1
  | q :: qs, rr, nn, h1, h2 => by
    cases rr with
    | nil => cases h1
    | cons r rr =>
      cases nn with
      | nil => cases h2
      | cons n nn =>
        simp only [List.map_cons, List.cons.injEq] at h1 h2
        obtain ⟨ps, e1, e2, e3⟩ := pairs_txt h1.2 h2.2
        refine ⟨(r, n) :: ps, ?_, ?_, ?_⟩
        · rw [List.map_cons, List.map_cons, e1]
          congr 1
          unfold twoD duoD
          rw [h1.1, h2.1]
        · rw [List.map_cons, e2]
        · rw [List.map_cons, e3]
theorem two_pair : ∀ {qs : List (PyData × PyData)} {ps : List (Str × Str)}, qs.map twoD = ps.map duoD → qs.map (·.1) = (ps.map (·.1)).map PyData.str ∧ qs.map (·.2) = (ps.map (·.2)).map PyData.str
  | [], [], _ => ⟨rfl, rfl⟩
  | [], _ :: _, h => by cases h
  | _ :: _, [], h => by cases h
  | q :: qs, p :: ps, h => by
    simp only [List.map_cons, List.cons.injEq] at h
    obtain ⟨a, b⟩ := two_pair h.2
    have e := h.1
    unfold twoD duoD at e
    injection e with e
    injection e with e1 e2
    injection e2 with e2 _
    simp only [List.map_cons, a, b, e1, e2]
    exact ⟨trivial, trivial⟩
theorem duoD_two (ps : List (Str × Str)) : ps.map duoD = (ps.map fun p => (PyData.str p.1, PyData.str p.2)).map twoD := by
  rw [List.map_map]
  rfl
theorem pairs_inj {ps qs : List (Str × Str)} (h : ps.map duoD = qs.map duoD) : ps = qs := by
  have a := two_pair (qs := ps.map fun p => (PyData.str p.1, PyData.str p.2)) (ps := qs) (by rw [← duoD_two]; exact h)
  have e1 : ps.map (·.1) = qs.map (·.1) := strs_inj (by rw [← a.1, List.map_map, List.map_map]; rfl)
  have e2 : ps.map (·.2) = qs.map (·.2) := strs_inj (by rw [← a.2, List.map_map, List.map_map]; rfl)
  have : ∀ {ps qs : List (Str × Str)}, ps.map (·.1) = qs.map (·.1) → ps.map (·.2) = qs.map (·.2) → ps = qs := fun {ps} => by
    induction ps with
    | nil =>
      intro qs h _
      cases qs with
      | nil => rfl
      | cons _ _ => cases h
    | cons p ps ih =>
      intro qs h1 h2
      cases qs with
      | nil => cases h1
      | cons q qs =>
        simp only [List.map_cons, List.cons.injEq] at h1 h2
        rw [ih h1.2 h2.2]
        congr 1
        exact Prod.ext h1.1 h2.1
  exact this e1 e2
section
variable {K : PySem.W.Frag} {H : Hp}
theorem dt_two {x : V} {q : PyData × PyData} (h : Dt K H x (twoD q)) : ∃ u a b, x = .ref u ∧ SqT K H u [a, b] ∧ Dt K H a q.1 ∧ Dt K H b q.2 := by
  unfold twoD at h
  cases h with
  | tup h1 h2 =>
    cases h2 with
    | cons k1 k2 =>
      cases k2 with
      | cons k2 k3 =>
        cases k3
        exact ⟨_, _, _, rfl, h1, k1, k2⟩
theorem dt_snoc : ∀ {xs : List V} {ds : List PyData} {x : V} {d : PyData}, DtAll K H xs ds → Dt K H x d → DtAll K H (xs ++ [x]) (ds ++ [d])
  | [], _, _, _, .nil, k => .cons k .nil
  | _ :: _, _, _, _, .cons h t, k => .cons h (dt_snoc t k)
end
end WT
namespace WT
open PySem PySem.Spec PyProof.Rows L2
/-- the first j of ds are such pairs -/
structure PreC (rs : List Str) (gs : List Gt) (ds : List PyData) (j : Nat) (ps : List (Str × Str)) : Prop where
  data : ds.take j = ps.map duoD
  len : ps.length = j
  reg : ∀ x ∈ ps.map (·.1), x ∈ rs
  gat : ∀ n ∈ ps.map (·.2), n ∈ gs.map (·.1)
  rnd : (ps.map (·.1)).Nodup
  gnd : (ps.map (·.2)).Nodup
theorem nodup_snoc {l : List Str} {x : Str} (h : l.Nodup) (k : x ∉ l) : (l ++ [x]).Nodup := by
  refine List.nodup_append.mpr ⟨h, by simp, fun a ha b hb e => ?_⟩
  have hb : b = x := by simpa using hb
  exact k (hb ▸ e ▸ ha)
section
variable {rs : List Str} {gs : List Gt} {ds : List PyData} {j : Nat} {ps : List (Str × Str)}
theorem PreC.next {p : Str × Str} (h : PreC rs gs ds j ps) (hp : ds[j]? = some (duoD p)) (h1 : p.1 ∈ rs) (h2 : p.2 ∈ gs.map (·.1)) (h3 : p.1 ∉ ps.map (·.1)) (h4 : p.2 ∉ ps.map (·.2)) : PreC rs gs ds (j + 1) (ps ++ [p]) := by
  refine ⟨?_, ?_, fun x hx => ?_, fun x hx => ?_, ?_, ?_⟩
  · rw [List.take_add_one, hp, h.data, List.map_append]
    rfl
  · rw [List.length_append, h.len]
    rfl
  · rw [List.map_append] at hx
    rcases List.mem_append.mp hx with hx | hx
    · exact h.reg x hx
    · have : x = p.1 := by simpa using hx
      rw [this]
      exact h1
  · rw [List.map_append] at hx
    rcases List.mem_append.mp hx with hx | hx
    · exact h.gat x hx
    · have : x = p.2 := by simpa using hx
      rw [this]
      exact h2
  · rw [List.map_append]
    exact nodup_snoc h.rnd h3
  · rw [List.map_append]
    exact nodup_snoc h.gnd h4
theorem nodup_no {l : List Str} {j : Nat} {x : Str} (h : l.Nodup) (hx : l[j]? = some x) : x ∉ l.take j := fun z => by
  obtain ⟨i, hi, e⟩ := List.getElem_of_mem z
  rw [List.length_take] at hi
  obtain ⟨hj, ej⟩ := List.getElem?_eq_some_iff.mp hx
  rw [List.getElem_take] at e
  exact (List.pairwise_iff_getElem.mp h i j (by omega) hj (by omega)) (e.trans ej.symm)
theorem PreC.fails (h : PreC rs gs ds j ps) (hj : j < ds.length) (bad : ∀ p, ds[j]? = some (duoD p) → p.1 ∉ rs ∨ p.2 ∉ gs.map (·.1) ∨ p.1 ∈ ps.map (·.1) ∨ p.2 ∈ ps.map (·.2)) : ¬ IsCycD rs gs (.tuple ds) := by
  rintro ⟨qs, e, C⟩
  injection e with e
  have lq : j < qs.length := by rw [e, List.length_map] at hj; exact hj
  have hq : qs[j]? = some qs[j] := List.getElem?_eq_getElem lq
  have ep : qs.take j = ps := pairs_inj (by rw [← h.data, e, List.map_take])
  have a1 : (qs.map (·.1))[j]? = some qs[j].1 := by rw [List.getElem?_map, hq]; rfl
  have a2 : (qs.map (·.2))[j]? = some qs[j].2 := by rw [List.getElem?_map, hq]; rfl
  rcases bad qs[j] (by rw [e, List.getElem?_map, hq]; rfl) with b | b | b | b
  · exact b (C.reg _ (List.mem_of_getElem? a1))
  · exact b (C.gat _ (List.mem_of_getElem? a2))
  · rw [← ep, List.map_take] at b
    exact nodup_no C.rnd a1 b
  · rw [← ep, List.map_take] at b
    exact nodup_no C.gnd a2 b
end
section
variable {K : PySem.W.Frag} {H : Hp}
/-- value[lo:hi] of a tuple -/
theorem sl_dt {p : Addr} {xs : List V} {lo hi : Option Int} {Q : VK} (h : SqT K H p xs) (k : ∀ q H', Same H H' → SqT K H' q (cutV xs lo hi) → Q (.ref q) H') : rSlA K (.ref p) lo hi H Q := by
  refine ⟨p, xs, rfl, h, fun c => k p H (fun _ _ e => e) ?_, fun _ q n => k q _ (same_new n) (SqT.of upd_same)⟩
  have : cutV xs lo hi = xs := by
    unfold cutV
    rw [c.1, c.2, List.drop_zero, Nat.sub_zero, List.take_length]
  rw [this]
  exact h
theorem cutV_left {xs : List V} {j : Nat} (h : j ≤ xs.length) : cutV xs none (some (j : Int)) = xs.take j := by
  unfold cutV
  rw [HT.sIx_none, HT.sIx_nat, List.drop_zero, Nat.sub_zero, Nat.min_eq_left h]
theorem dt_duoD {x : V} {p : Str × Str} (h : Dt K H x (duoD p)) : ∃ u, x = .ref u ∧ SqT K H u [.str p.1, .str p.2] := by
  obtain ⟨u, a, b, e, h1, h2, h3⟩ := dt_two (q := (.str p.1, .str p.2)) h
  cases h2
  cases h3
  exact ⟨u, e, h1⟩
end
end WT

set_option Elab.async false
set_option linter.all false
set_option maxRecDepth 100000
set_option maxHeartbeats 1000000
/-! a def of one parameter and without cells: at its body's head one token is given out; texts of steps, joined texts. -/
namespace WT
open PySem PySem.Spec PyProof.Rows L2
theorem cellsFrom_no : ∀ (names : List (Str × NameKind)) (n : Nat) (acc : List (Str × Addr)), (∀ x ∈ names, x.2 ≠ .cell) → cellsFrom n names acc = acc
  | [], _, _, _ => rfl
  | (x, k) :: r, n, acc, h => by
    have hk : (k == NameKind.cell) = false := beq_eq_false_iff_ne.mpr (h (x, k) List.mem_cons_self)
    rw [cellsFrom, hk]
    exact cellsFrom_no r n acc fun y hy => h y (List.mem_cons_of_mem _ hy)
theorem okGT {P : Program} {w : World} {K : PySem.W.Frag} {mg : Str → Option Value} {base : Heap} {k : Nat} {f : Addr} {fd : FuncData} {p : Str} {sp : Sp} {x qual : Str} {st : Stmt} {N : List Str} (F : Fun K x qual st f fd) (S : FnScope N [p] (defScope st)) (hc : ∀ y ∈ (defScope st).names, y.2 ≠ .cell) (hl : (defScope st).names.lookup p = some .local)
    (hlen : ∀ vs H Q E, sp vs H Q E → vs.length = 1)
    (hbody : ∀ (cdv : Value) (A : Around) (outer : List Env) (s : Shared) (H : Hp) (vs : List V) (Q : VK) (E : XK), A.guards = some [] → Room k (A.deeper (envOfC qual (defScope st) s.heap.objs.size f cdv)) → sp vs H Q E →
      ∃ t, PSsT (cxOf CX0 P w K mg base N qual (defScope st) f cdv A outer s H E).nox (defBody st) t ∧ t { nx := fun _ H' => Q .non H', rt := Q } (start N vs) H) : FnG P w K mg base CX0 (k + 1) f fd [p] sp := by
  obtain ⟨oc, od, kV, doc, pm, an, cdv, ct, osl, rfl, lk, hcd⟩ := F.ex
  refine ⟨hlen, fun A outer s H args us vs Q E hgd hr e0 hb r hsp => ?_⟩
  have up : ∀ b o, base.get? b = some o → s.heap.get? b = some o := fun b o z => (e0.bs b o z).1
  have kin : K.In s.heap := e0.mod.kin.keeps up
  have lim : s.heap.NoLimit := e0.mod.nolimit.keeps up
  have lv := hlen _ _ _ _ hsp
  have lu : us.length = 1 := (Vals.length r).symm.trans lv
  obtain ⟨u, rfl⟩ : ∃ u, us = [u] := by
    match us, lu with
    | [u], _ => exact ⟨u, rfl⟩
  refine codeAny_call_function hr.depth (kin _ _ lk) rfl S.co S.gen rfl (PySem.W.codeRec_of kin hcd) (hb _ _ _ _ ?_)
  refine wpAny_newFunctionEnv hc (fun y hy => ?_) (fun h₁ hns hsb => ?_) S.kind
  · obtain rfl : y = (p, u) := by simpa using hy
    exact hl
  have kp : ∀ b o, s.heap.get? b = some o → h₁.get? b = some o := fun b o e => hsb.extBut b o (Nat.ne_of_lt (Heap.lt_size e)) (Heap.get?_push_of_some _ e)
  obtain ⟨t, ht, hq⟩ := hbody cdv A outer s H vs Q E hgd (hr.deeper _) hsp
  have nc : cellsFrom (s.heap.objs.size + 1) (defScope st).names [] = [] := cellsFrom_no _ _ _ hc
  have y : InCallC s s.heap.objs.size (bindL (envOfC qual (defScope st) s.heap.objs.size f cdv).kindOf ([p].zip [u]) fun _ => none) (cellsFrom (s.heap.objs.size + 1) (defScope st).names []) (bindC (envOfC qual (defScope st) s.heap.objs.size f cdv).kindOf ([p].zip [u]) fun _ => none)
      { s with heap := h₁, toks := s.toks + ([p].zip [u]).length } := by
    have hkp : (envOfC qual (defScope st) s.heap.objs.size f cdv).kindOf p = some .local := hl
    refine ⟨⟨⟨h₁, _, rfl⟩, ?_, kp, Nat.le_refl _⟩, ?_, ?_, ?_⟩
    · show h₁.Ns _ _
      have e : (bindL (envOfC qual (defScope st) s.heap.objs.size f cdv).kindOf ([p].zip [u]) fun _ => none) = fun x => ([p].zip [u]).reverse.lookup x := by
        funext z
        show (bindL (envOfC qual (defScope st) s.heap.objs.size f cdv).kindOf [] (if (envOfC qual (defScope st) s.heap.objs.size f cdv).kindOf p = some .local then fun y => if y = p then some u else none else fun _ => none)) z = List.lookup z [(p, u)]
        rw [if_pos hkp]
        show (if z = p then some u else none) = _
        by_cases c : z = p
        · subst c
          simp [List.lookup]
        · rw [if_neg c]
          have : (z == p) = false := beq_eq_false_iff_ne.mpr c
          simp [List.lookup, this]
      rw [e]
      exact hns
    · rw [nc]
      intro n c h
      cases h
    · rw [nc]
      exact .nil
    · rw [nc]
      intro n c h
      cases h
  have J : Inv (cxOf CX0 P w K mg base N qual (defScope st) f cdv A outer s H E) [] (start N vs) H { s with heap := h₁, toks := s.toks + ([p].zip [u]).length } := inv_start S hr.hd e0 lv r y
  refine ⟨lim.keeps kp, ?_⟩
  have he : newEnv (defScope st) s.heap.objs.size (PySem.W.fnOf x qual (defArgs st) (defBody st) (defScope st) .none kV doc pm an cdv ct).globals (PySem.W.fnOf x qual (defArgs st) (defBody st) (defScope st) .none kV doc pm an cdv ct).closure ((PySem.W.fnOf x qual (defArgs st) (defBody st) (defScope st) .none kV doc pm an cdv ct).qualname ++ ".<locals>.") (some f) (PySem.W.fnOf x qual (defArgs st) (defBody st) (defScope st) .none kV doc pm an cdv ct).code none (PySem.W.fnOf x qual (defArgs st) (defBody st) (defScope st) .none kV doc pm an cdv ct).builtins = envOfC qual (defScope st) s.heap.objs.size f cdv := by
    unfold envOfC
    rw [nc]
    rfl
  have goal : codeAny (model P w) A (.func (defBody st) (envOfC qual (defScope st) s.heap.objs.size f cdv)) (CR CX0 outer P w H s Q E) { s with heap := h₁, toks := s.toks + ([p].zip [u]).length } := by
    refine codeAny_func ?_
    refine wpAny_mono (wpAny_mono (ht [] _ (start N vs) H _ (by show 1 ≤ s.toks + 1; omega) (J.wish _) hq) (fun _ _ q => q.unwish) fun _ _ z => False.elim z) (fun fl s' hs => ?_) fun e s' hs => hs
    cases fl with
    | ret u =>
      obtain ⟨v, σ', H', J', rv, q⟩ := hs
      exact ⟨v, H', J'.os, J'.bare, J'.base, J'.hok, rv, q⟩
    | next =>
      obtain ⟨σ', H', J', q⟩ := hs
      exact ⟨V.non, H', J'.os, J'.bare, J'.base, J'.hok, rfl, q⟩
    | brk =>
      obtain ⟨_, _, _, q⟩ := hs
      exact q.elim
    | cont =>
      obtain ⟨_, _, _, q⟩ := hs
      exact q.elim
  rw [← he] at goal
  exact goal
/-- the text of a part -/
def keyTxt : Key → Str
  | .inl i => toString i
  | .inr s => s
def rStrK : List V → Hp → VK → Prop := fun xs H Q => ∃ k : Key, xs = [kV k] ∧ (∀ i, k = .inl i → i.natAbs.log2 < 1920) ∧ Q (.str (keyTxt k)) H
theorem call_strK {X : Cx} : CallR X (.type "str") rStrK := by
  intro pins s σ H xs us Q I r h
  obtain ⟨k, rfl, hk, q⟩ := h
  cases k with
  | inl i => exact call_str_int pins s σ H _ us Q I r ⟨i, rfl, hk i rfl, q⟩
  | inr a => exact SkE.call_str_str pins s σ H _ us Q I r ⟨a, rfl, q⟩
/-- x is True, x is False: x a truth value, a number, a text -/
theorem op_isT {X : Cx} : OpR X (compareOp .Is) (fun x y H Q => ∃ c : Bool, y = .bl c ∧ ((∃ k, x = kV k) ∨ ∃ b, x = .bl b) ∧ Q (.bl (decide (x = .bl c))) H) := by
  intro pins s σ H x y v u Q I rx ry h
  obtain ⟨c, rfl, hx, q⟩ := h
  cases ry
  rcases hx with ⟨k, rfl⟩ | ⟨b, rfl⟩
  · cases k with
    | inl i =>
      obtain ⟨t, rfl⟩ := rx
      refine wpAny_is_plain rfl (fin_bl I q ?_)
      have e1 : decide (kV (Sum.inl i) = V.bl c) = false := decide_eq_false (by intro z; cases z)
      rw [e1]
      cases c <;> rfl
    | inr a =>
      obtain ⟨t, rfl⟩ := rx
      refine wpAny_is_plain rfl (fin_bl I q ?_)
      have e1 : decide (kV (Sum.inr a) = V.bl c) = false := decide_eq_false (by intro z; cases z)
      rw [e1]
      cases c <;> rfl
  · cases rx
    refine is_bool (fin_bl I q ?_)
    cases b <;> cases c <;> rfl
/-- a comprehension of texts that changes nothing -/
theorem lc_tx {J : It} {n : Nat} {G : Hp → Prop} {Y : Nat → Hp → V → Hp → Prop} (w : Walk J n G Y) {g : TG} {tt : L2.TT} {te : TE} {vs : List Nat} {σ : L2.St} {H1 : Hp} {D : Addr} {Qd : Hp → Prop} (bs : List Str) (hl : bs.length = n) (hz : n ≤ 4000) (nD : H1 D = none) (hG : ∀ H, Same H1 H → G H)
    (hs : ∀ (i : Nat) (x : V) (b : Str) (H2 H3 : Hp) (k : VK) (e : Hp → Prop), bs[i]? = some b → Same H1 H2 → Y i H2 x H3 → (∀ H4, Same H2 H4 → k (.str b) H4) →
      g x (wipe σ vs) H3 fun σ2 H2 => wipe σ2 vs = wipe σ vs ∧ tt σ2 H2 fun t H3 => if t = true then te σ2 H3 k else e H3)
    (hd : ∀ H, Same H1 H → H D = some (.lst (bs.map V.str)) → Qd H) :
    ∃ W : Nat → Nat → Hp → Prop, (∃ m, W 0 m (upd H1 D (.lst []))) ∧ ∀ i m H, W i m H →
      (J.stop i H ∧ Qd H) ∨ (J.go i H ∧ ∃ Nx : Hp → Prop, (∀ H', Nx H' → ∃ m', m' < m ∧ W (i + 1) m' H') ∧ ∀ x H', J.yld i H x H' → g x (wipe σ vs) H' fun σ2 H2 => wipe σ2 vs = wipe σ vs ∧ tt σ2 H2 fun b H3 =>
        if b = true then te σ2 H3 fun y H4 => ∃ acc, H4 D = some (.lst acc) ∧ acc.length < sizeLine ∧ Nx (upd H4 D (.lst (acc ++ [y]))) else Nx H3) := by
  refine lc_it w (fun m H => Same H1 H ∧ H D = some (.lst ((bs.take m).map V.str))) ⟨same_new nD, upd_same⟩ (fun _ H _ h => hG H h.1) (fun i x H H' hi hP hy => ?_) fun H hP => ?_
  · obtain ⟨s2, hD⟩ := hP
    have hb : bs[i]? = some (bs[i]'(by omega)) := List.getElem?_eq_getElem _
    refine hs i x _ H H' _ _ hb s2 hy fun H4 s4 => ⟨_, s4 _ _ hD, ?_, fun c o ed => ?_, ?_⟩
    · rw [List.length_map, List.length_take]
      exact Nat.lt_of_le_of_lt (show min i bs.length ≤ 4000 by omega) (by decide)
    · rw [upd_ne (ne_of_none ed nD)]
      exact s4 _ _ (s2 _ _ ed)
    · rw [upd_same, List.take_add_one, hb, List.map_append]
      rfl
  · obtain ⟨s2, hD⟩ := hP
    rw [← hl, List.take_length] at hD
    exact hd H s2 hD
/-- joined texts -/
theorem join_asc {sep : Str} (hs : Asc sep) : ∀ {ys : List Str}, (∀ y ∈ ys, Asc y) → Asc (Str.join sep ys)
  | [], _ => fun c hc => absurd (show c ∈ ([] : List Nat) from hc) List.not_mem_nil
  | [y], h => h y List.mem_cons_self
  | y :: z :: r, h => by
    show Asc (y ++ sep ++ Str.join sep (z :: r))
    exact asc_app (asc_app (h y List.mem_cons_self) hs) (join_asc hs fun x hx => h x (List.mem_cons_of_mem _ hx))
theorem join_len {sep : Str} {ys : List Str} {B : Nat} (h : ∀ y ∈ ys, y.length ≤ B) : (Str.join sep ys).length ≤ ys.length * (B + sep.length) ∧ (ys.map (·.length)).sum + ys.length * sep.length ≤ ys.length * (B + sep.length) := by
  have k : ∀ ys : List Str, (∀ y ∈ ys, y.length ≤ B) → (ys.map (·.length)).sum ≤ ys.length * B := by
    intro ys
    induction ys with
    | nil => intro _; simp
    | cons y ys ih =>
      intro h
      have a := ih fun x hx => h x (List.mem_cons_of_mem _ hx)
      have b := h y List.mem_cons_self
      rw [List.map_cons, List.sum_cons, List.length_cons, Nat.succ_mul]
      omega
  have a := k ys h
  have b := PySem.StrLaws.join_length_le sep ys
  rw [Nat.mul_add]
  exact ⟨by omega, by omega⟩
end WT

set_option Elab.async false
set_option linter.all false
set_option maxRecDepth 100000
set_option maxHeartbeats 1000000
/-! what the parts of a split text weigh; a text that many times. -/
namespace WT
open PySem PySem.Spec PyProof.Rows L2
theorem app_length (a b : Str) : (a ++ b).length = a.length + b.length := by
  show (a.cps ++ b.cps).size = _
  rw [Array.size_append]
  rfl
theorem join_length (sep : Str) : ∀ ys : List Str, ys ≠ [] → (Str.join sep ys).length + sep.length = (ys.map (·.length)).sum + ys.length * sep.length
  | [], h => absurd rfl h
  | [y], _ => by
    show y.length + sep.length = _
    simp
  | y :: z :: ys, _ => by
    have ih := join_length sep (z :: ys) (List.cons_ne_nil _ _)
    have e : (Str.join sep (y :: z :: ys)).length = y.length + sep.length + (Str.join sep (z :: ys)).length := by
      show (y ++ sep ++ Str.join sep (z :: ys)).length = _
      rw [app_length, app_length]
    rw [e, List.map_cons, List.sum_cons, List.length_cons, Nat.succ_mul]
    omega
theorem split_wt (x y : Str) (hy : y.length = 1) : ((Txt.split x y).map (·.length)).sum + (Txt.split x y).length = x.length + 1 ∧ 1 ≤ (Txt.split x y).length := by
  unfold Txt.split
  split
  · simp
  · split
    · simp
    · have g := StrLaws.glued_between_self x y (x.length + 1)
      have l := length_partsBetween x (Builtin.Str.occurrences x y 0 x.length (x.length + 1)) y.length
      rw [StrLaws.glued_eq_join] at g
      generalize Builtin.Str.partsBetween x (Builtin.Str.occurrences x y 0 x.length (x.length + 1)) y.length = ps at g l
      have ne : ps ≠ [] := fun z => by
        rw [z] at l
        simp at l
      have j := join_length y ps ne
      rw [g, hy, Nat.mul_one] at j
      exact ⟨by omega, by omega⟩
section
variable {X : Cx}
/-- text * number, the number 0 or 1 -/
theorem op_bits {K : PySem.W.Frag} (hK : X.K = K := by rfl) : OpR X (binaryOp .Mult) (fun x y H Q => ∃ (z : Str) (n : Int), x = .str z ∧ y = .int n ∧ 0 ≤ n ∧ n ≤ 1 ∧ ∀ u : Str, u.length ≤ z.length → Q (.str u) H) := by
  intro pins s σ H x y v u Q I rx ry h
  obtain ⟨z, n, rfl, rfl, h0, h1, q⟩ := h
  obtain ⟨t, rfl⟩ := rx
  obtain ⟨t2, rfl⟩ := ry
  have hn : n = 0 ∨ n = 1 := by omega
  refine SB.mul ⟨by rcases hn with rfl | rfl <;> decide, fun a b => ?_, fun a b => ?_⟩ fun t' k => ⟨.str _, H, I.tok k, ⟨t', rfl⟩, q _ ?_⟩
  · rcases hn with rfl | rfl
    · exact absurd (by decide) a
    · exact absurd b (by simp)
  · rcases hn with rfl | rfl
    · exact absurd (by decide) a
    · exact absurd b (by simp)
  · rcases hn with rfl | rfl
    · exact Nat.zero_le _
    · unfold Txt.mul
      simp
end
end WT

set_option Elab.async false
set_option linter.all false
set_option maxRecDepth 100000
set_option maxHeartbeats 1000000
/-! words that are numbers. -/
namespace WT
open PySem PySem.Spec PyProof.Rows L2
abbrev digits10 : Str := "0123456789"
/-- what stands behind a sign -/
def digs : List Nat → List Nat
  | 45 :: r => r
  | l => l
def digB (c : Nat) : Bool := decide (c ∈ digits10.cps.toList)
theorem dig_iff {c : Nat} : digB c = true ↔ 48 ≤ c ∧ c ≤ 57 := by
  unfold digB
  rw [decide_eq_true_iff, show digits10.cps.toList = [48, 49, 50, 51, 52, 53, 54, 55, 56, 57] by decide +kernel]
  simp only [List.mem_cons, List.not_mem_nil, or_false]
  omega
/-- a number as the program sees it -/
def numL (l : List Nat) : Bool := !(digs l).isEmpty && ((digs l).all digB && (decide (l = [48]) || !decide ((digs l).head? = some 48)))
def numB (u : Str) : Bool := numL u.cps.toList
/-- its value -/
def numLV : List Nat → Int
  | 45 :: r => -((NumText.digitsVal r : Nat) : Int)
  | l => ((NumText.digitsVal l : Nat) : Int)
def numV (u : Str) : Int := numLV u.cps.toList
theorem digs_le (l : List Nat) : l.length ≤ (digs l).length + 1 := by
  unfold digs
  split
  · exact Nat.le_refl _
  · exact Nat.le_succ _
theorem num_int {u : Str} (h : numB u = true) (hl : (digs u.cps.toList).length ≤ 600) : intText? u = some (numV u) := by
  unfold numB numL at h
  rw [Bool.and_eq_true, Bool.and_eq_true, List.all_eq_true] at h
  obtain ⟨h1, h2, _⟩ := h
  have len : u.length ≤ 4300 := by
    have := digs_le u.cps.toList
    have e : u.cps.toList.length = u.length := Array.length_toList
    omega
  have ne : digs u.cps.toList ≠ [] := fun z => by
    rw [z] at h1
    cases h1
  unfold numV
  match hu : u.cps.toList, ne, h2 with
  | 45 :: r, ne, h2 =>
    exact intText_neg hu (fun c hc => dig_iff.mp (h2 c hc)) ne len
  | [], ne, _ => exact absurd rfl ne
  | c :: r, ne, h2 =>
    have c45 : c ≠ 45 ∨ c = 45 := by omega
    rcases c45 with c45 | rfl
    · have e : digs (c :: r) = c :: r := by
        unfold digs
        split
        · rename_i heq
          cases heq
          exact absurd rfl c45
        · rfl
      rw [e] at h2
      have := intText_digits (x := u) (by rw [hu]; exact fun c hc => dig_iff.mp (h2 c hc)) (by rw [hu]; exact List.cons_ne_nil _ _) len
      rw [hu] at this
      rw [this]
      unfold numLV
      split
      · rename_i heq
        cases heq
        exact absurd rfl c45
      · rfl
    · exact intText_neg hu (fun c hc => dig_iff.mp (h2 c hc)) ne len
theorem ext_list {a b : Str} (h : a.cps.toList = b.cps.toList) : a = b := by
  cases a with
  | mk a =>
    cases b with
    | mk b => rw [show a = b from Array.toList_inj.mp h]
theorem sub_list (x : Str) (i j : Nat) : (Builtin.Str.strSub x i j).cps.toList = (x.cps.toList.take j).drop i := by
  show (x.cps.extract i j).toList = _
  rw [Array.toList_extract, List.extract_eq_drop_take, List.drop_take]
theorem minus_list : ("-" : Str).cps = #[45] := by decide +kernel
theorem zero_list : ("0" : Str).cps = #[48] := by decide +kernel
theorem sub_at1 (x : Str) (c : Nat) {y : Str} (hy : y.cps = #[c]) : Builtin.Str.subAt x y 0 = decide (x.cps.toList.head? = some c) := by
  unfold Builtin.Str.subAt
  rw [hy]
  have : y.length = 1 := by
    show y.cps.size = 1
    rw [hy]
    rfl
  rw [this]
  have e : (x.cps.extract 0 (0 + 1)).toList = x.cps.toList.take 1 := by
    rw [Array.toList_extract, List.extract_eq_drop_take]
    rfl
  cases h : x.cps.toList with
  | nil =>
    rw [h] at e
    have : x.cps.extract 0 (0 + 1) = #[] := Array.toList_inj.mp e
    rw [this]
    rfl
  | cons a r =>
    rw [h] at e
    have : x.cps.extract 0 (0 + 1) = #[a] := Array.toList_inj.mp e
    rw [this]
    show (#[a] == #[c]) = decide (some a = some c)
    by_cases z : a = c
    · subst z
      simp
    · simp [z]
theorem prefix_list (u : Str) : (Txt.removeprefix u "-").cps.toList = digs u.cps.toList := by
  unfold Txt.removeprefix
  rw [sub_at1 u 45 minus_list]
  have len : u.cps.toList.length = u.length := Array.length_toList
  cases h : u.cps.toList with
  | nil =>
    show (Txt.affix u none).cps.toList = _
    exact h
  | cons a r =>
    rw [h] at len
    by_cases z : a = 45
    · subst z
      rw [show decide ((45 :: r).head? = some 45) = true from decide_eq_true rfl]
      show (if u.length - ("-" : Str).length == u.length then u else Builtin.Str.strSub u ("-" : Str).length u.length).cps.toList = r
      rw [show ("-" : Str).length = 1 from by decide +kernel]
      rw [List.length_cons] at len
      rw [if_neg (by rw [beq_iff_eq]; omega), sub_list, h, ← len]
      simp
    · rw [show decide ((a :: r).head? = some 45) = false from decide_eq_false fun e => z (Option.some.inj e)]
      show u.cps.toList = _
      rw [h]
      unfold digs
      split
      · rename_i heq
        cases heq
        exact absurd rfl z
      · rfl
theorem starts_zero (x : Str) : Txt.startswith x "0" = decide (x.cps.toList.head? = some 48) := by
  unfold Txt.startswith
  rw [sub_at1 x 48 zero_list, show ("0" : Str).length = 1 from by decide +kernel]
  have len : x.cps.toList.length = x.length := Array.length_toList
  cases h : x.cps.toList with
  | nil =>
    show (_ && decide (none = some 48)) = _
    simp
  | cons a r =>
    rw [h, List.length_cons] at len
    rw [decide_eq_true (show 0 + 1 ≤ x.length by omega), Bool.true_and]
theorem slice_from1 (u : Str) : (cutS u (some 1) none).cps.toList = u.cps.toList.drop 1 := by
  unfold cutS
  have len : u.cps.toList.length = u.length := Array.length_toList
  rw [show (1 : Int) = ((1 : Nat) : Int) from rfl, HT.sIx_nat, HT.sIx_none]
  show (u.cps.toList.drop (min 1 u.length)).take (u.length - min 1 u.length) = _
  cases h : u.cps.toList with
  | nil => simp
  | cons a r =>
    rw [h, List.length_cons] at len
    rw [Nat.min_eq_left (by omega), List.drop_succ_cons, List.drop_zero, List.take_of_length_le (by omega)]
theorem slice_to1 (u : Str) : (cutS u none (some 1)).cps.toList = u.cps.toList.take 1 := by
  unfold cutS
  have len : u.cps.toList.length = u.length := Array.length_toList
  rw [show (1 : Int) = ((1 : Nat) : Int) from rfl, HT.sIx_nat, HT.sIx_none]
  show (u.cps.toList.drop 0).take (min 1 u.length - 0) = _
  rw [List.drop_zero, Nat.sub_zero]
  cases h : u.cps.toList with
  | nil => simp
  | cons a r =>
    rw [h, List.length_cons] at len
    rw [Nat.min_eq_left (by omega)]
/-- the law's own digits of a word -/
theorem own_digs (u : Str) : (if (cutS u none (some 1)) = ("-" : Str) then cutS u (some 1) none else u).cps.toList = digs u.cps.toList := by
  by_cases c : (cutS u none (some 1)) = ("-" : Str)
  · rw [if_pos c, slice_from1]
    have h := slice_to1 u
    rw [c, show ("-" : Str).cps.toList = [45] from by rw [minus_list]] at h
    cases e : u.cps.toList with
    | nil =>
      rw [e] at h
      cases h
    | cons a r =>
      rw [e] at h
      have : a = 45 := (List.cons.inj h).1.symm
      subst this
      rfl
  · rw [if_neg c]
    cases e : u.cps.toList with
    | nil => rfl
    | cons a r =>
      unfold digs
      split
      · rename_i heq
        cases heq
        refine absurd (ext_list ?_) c
        rw [slice_to1, e, minus_list]
        rfl
      · rfl
theorem tw_le (p : Nat → Bool) (l : List Nat) : (l.takeWhile p).length ≤ l.length := (List.takeWhile_sublist p).length_le
theorem tw_full (p : Nat → Bool) : ∀ l : List Nat, (l.takeWhile p).length = l.length → l.all p = true
  | [], _ => rfl
  | a :: l, h => by
    cases c : p a with
    | false =>
      rw [List.takeWhile_cons, c] at h
      cases h
    | true =>
      rw [List.takeWhile_cons, c, if_pos rfl, List.length_cons, List.length_cons] at h
      rw [List.all_cons, c, tw_full p l (by omega)]
      rfl
theorem tw_all (p : Nat → Bool) : ∀ l : List Nat, l.all p = true → l.takeWhile p = l
  | [], _ => rfl
  | a :: l, h => by
    rw [List.all_cons, Bool.and_eq_true] at h
    rw [List.takeWhile_cons, h.1, if_pos rfl, tw_all p l h.2]
theorem drop_tw (p : Nat → Bool) : ∀ l : List Nat, (l.drop (l.takeWhile p).length).all p = true → l.all p = true
  | [], _ => rfl
  | a :: l, h => by
    cases c : p a with
    | false =>
      rw [List.takeWhile_cons, c] at h
      exact h
    | true =>
      rw [List.takeWhile_cons, c, if_pos rfl, List.length_cons, List.drop_succ_cons] at h
      rw [List.all_cons, c, drop_tw p l h]
      rfl
theorem strip_list (x : Str) : (Txt.stripChars x digits10).cps.toList = (x.cps.toList.take (x.length - ((x.cps.toList.drop (x.cps.toList.takeWhile digB).length).reverse.takeWhile digB).length)).drop (x.cps.toList.takeWhile digB).length := by
  have len : x.cps.toList.length = x.length := Array.length_toList
  have eg : ∀ c, digits10.cps.contains c = digB c := fun c => by
    unfold digB
    rw [Bool.eq_iff_iff, Array.contains_iff, decide_eq_true_iff, Array.mem_toList_iff]
  have ef : (digits10.cps.contains : Nat → Bool) = digB := funext eg
  unfold Txt.stripChars Txt.stripBy
  rw [ef]
  have lo : stripLo digB true x = (x.cps.toList.takeWhile digB).length := rfl
  have hi : stripHi digB true x (stripLo digB true x) = x.length - ((x.cps.toList.drop (stripLo digB true x)).reverse.takeWhile digB).length := rfl
  by_cases same : stripSame digB true true x = true
  · rw [if_pos same]
    unfold stripSame at same
    rw [Bool.and_eq_true, beq_iff_eq, beq_iff_eq, hi, lo] at same
    rw [same.2, same.1, List.drop_zero, ← len, List.take_length]
  · rw [if_neg same]
    unfold stripped
    rw [sub_list, hi, lo]
/-- nothing is left once all digits at both ends are gone: all are digits -/
theorem strip_all (x : Str) : Txt.stripChars x digits10 = ("" : Str) ↔ x.cps.toList.all digB = true := by
  have len : x.cps.toList.length = x.length := Array.length_toList
  have e := strip_list x
  rw [← len] at e
  generalize x.cps.toList = l at e
  have t1 := tw_le digB l
  have t2 := tw_le digB (l.drop (l.takeWhile digB).length).reverse
  constructor
  · intro h
    rw [h] at e
    have e := congrArg List.length e
    rw [List.length_drop, List.length_take, show ("" : Str).cps.toList.length = 0 from by decide +kernel] at e
    rw [List.length_reverse, List.length_drop] at t2
    refine drop_tw digB l ?_
    have := tw_full digB (l.drop (l.takeWhile digB).length).reverse (by
      rw [List.length_reverse, List.length_drop]
      omega)
    rwa [List.all_reverse] at this
  · intro h
    refine ext_list ?_
    rw [e, tw_all digB l h, show ("" : Str).cps.toList = [] from by decide +kernel]
    simp
end WT

set_option Elab.async false
set_option linter.all false
set_option maxRecDepth 100000
set_option maxHeartbeats 1000000
/-! texts of numbers; data with numbers of up to sixty signs. -/
namespace WT
open PySem PySem.Spec PyProof.Rows L2
theorem replace_free {x z : Str} {c : Nat} (h : c ∉ x.cps.toList) : Txt.replace x ⟨#[c]⟩ z = x := by
  unfold Txt.replace
  have e : Builtin.Str.occurrences x ⟨#[c]⟩ 0 x.length (x.length + 1) = [] := by
    obtain ⟨f, k⟩ := PySem.StrLaws.occ_chain x ⟨#[c]⟩ (x.length + 1)
    cases ho : Builtin.Str.occurrences x ⟨#[c]⟩ 0 x.length (x.length + 1) with
    | nil => rfl
    | cons i r =>
      rw [ho] at k
      exact absurd (List.mem_of_getElem? ((PySem.StrLaws.subAt_one x c i).mp k.2.1)) h
  rw [e]
  rfl
theorem sp_is : (" " : Str) = ⟨#[32]⟩ := by decide +kernel
theorem num_txt (i : Int) : Txt.replace (toString i : Str) " " "-" = (toString i : Str) := by
  rw [sp_is]
  exact replace_free (int_text_free' 32 ⟨by decide, by decide⟩ i)
theorem num_asc (i : Int) : Asc (toString i : Str) := fun c hc => by
  by_cases h : c < 128
  · exact h
  · exact absurd hc (int_text_free' c ⟨by omega, .inr (by omega)⟩ i)
/-- data that repr can show, with longer numbers -/
structure Wh (W D : Nat) (d : PyData) : Prop where
  sh : d.showable = true
  sm : d.leavesShort 60 = true
  wt : d.weight ≤ W
  de : d.depth ≤ D
structure WhA (W D : Nat) (ds : List PyData) : Prop where
  ok : ∀ d ∈ ds, d.showable = true ∧ d.leavesShort 60 = true
  wt : PyData.weightAll ds ≤ W
  de : PyData.depthAll ds ≤ D
theorem Wh.mono {W D W' D' : Nat} {d : PyData} (h : Wh W D d) (h1 : W ≤ W') (h2 : D ≤ D') : Wh W' D' d := ⟨h.sh, h.sm, Nat.le_trans h.wt h1, Nat.le_trans h.de h2⟩
theorem WhA.mono {W D W' D' : Nat} {ds : List PyData} (h : WhA W D ds) (h1 : W ≤ W') (h2 : D ≤ D') : WhA W' D' ds := ⟨h.ok, Nat.le_trans h.wt h1, Nat.le_trans h.de h2⟩
theorem Wh.fit {W D : Nat} {d : PyData} (h : Wh W D d) : Fit D (62 * W + 60) d := ⟨h.sh, h.de, Nat.le_trans (PyData.shown_le 60 (by decide) d h.sm) (by have := h.wt; omega)⟩
theorem WhA.tup {W D : Nat} {ds : List PyData} (h : WhA W D ds) : Wh W (D + 1) (.tuple ds) := by
  obtain ⟨a, b⟩ := short_all h.ok
  exact ⟨by rw [PyData.showable]; exact a, by rw [PyData.leavesShort]; exact b, by rw [PyData.weight]; exact h.wt, by rw [PyData.depth]; have := h.de; omega⟩
theorem WhA.lst {W D : Nat} {ds : List PyData} (h : WhA W D ds) : Wh W (D + 1) (.list ds) := by
  obtain ⟨a, b⟩ := short_all h.ok
  exact ⟨by rw [PyData.showable]; exact a, by rw [PyData.leavesShort]; exact b, by rw [PyData.weight]; exact h.wt, by rw [PyData.depth]; have := h.de; omega⟩
theorem WhA.nil (W D : Nat) : WhA W D [] := ⟨fun _ h => absurd h List.not_mem_nil, by rw [w_nil]; exact Nat.zero_le _, by rw [d_nil]; exact Nat.zero_le _⟩
theorem WhA.cons {W D W' : Nat} {d : PyData} {ds : List PyData} (h : Wh W D d) (k : WhA W' D ds) : WhA (W + 1 + W') D (d :: ds) := by
  refine ⟨fun x hx => ?_, ?_, ?_⟩
  · rcases List.mem_cons.mp hx with rfl | hx
    · exact ⟨h.sh, h.sm⟩
    · exact k.ok x hx
  · rw [w_cons]
    have := h.wt
    have := k.wt
    omega
  · rw [d_cons]
    have := h.de
    have := k.de
    omega
/-- so many of one kind -/
theorem WhA.all {W D : Nat} : ∀ {ds : List PyData}, (∀ d ∈ ds, Wh W D d) → WhA (ds.length * (W + 1)) D ds
  | [], _ => WhA.nil _ _
  | d :: ds, h => (WhA.cons (h d List.mem_cons_self) (WhA.all fun x hx => h x (List.mem_cons_of_mem _ hx))).mono (by rw [List.length_cons, Nat.succ_mul]; omega) (Nat.le_refl _)
theorem wh_str {W D : Nat} {s : Str} (h : Asc s) (l : s.cps.size ≤ W) : Wh W D (.str s) := by
  refine ⟨(Nr.short (.str s h)).1, ?_, by rw [PyData.weight]; exact l, by rw [PyData.depth]; exact Nat.zero_le _⟩
  have := (Nr.short (.str s h)).2
  rw [PyData.leavesShort] at this ⊢
  exact this
end WT

set_option Elab.async false
set_option linter.all false
set_option maxRecDepth 100000
set_option maxHeartbeats 1000000
/-! texts without a run of more than sixty digits. -/
namespace WT
open PySem PySem.Spec PyProof.Rows L2
def okRun : Nat → List Nat → Bool
  | _, [] => true
  | k, c :: r => if digB c then decide (k + 1 ≤ 60) && okRun (k + 1) r else okRun 0 r
def RunOk (s : Str) : Prop := okRun 0 s.cps.toList = true
theorem run_mono : ∀ (l : List Nat) (j k : Nat), j ≤ k → okRun k l = true → okRun j l = true
  | [], _, _, _, _ => rfl
  | c :: l, j, k, h, e => by
    unfold okRun at e ⊢
    by_cases d : digB c = true
    · rw [if_pos d, Bool.and_eq_true, decide_eq_true_iff] at e ⊢
      exact ⟨by omega, run_mono l (j + 1) (k + 1) (by omega) e.2⟩
    · rwa [if_neg d] at e ⊢
theorem run_left : ∀ (x y : List Nat) (k : Nat), okRun k (x ++ y) = true → okRun k x = true
  | [], _, _, _ => rfl
  | c :: x, y, k, e => by
    rw [List.cons_append] at e
    unfold okRun at e ⊢
    by_cases d : digB c = true
    · rw [if_pos d, Bool.and_eq_true, decide_eq_true_iff] at e ⊢
      exact ⟨e.1, run_left x y (k + 1) e.2⟩
    · rw [if_neg d] at e ⊢
      exact run_left x y 0 e
theorem run_right : ∀ (x y : List Nat) (k : Nat), okRun k (x ++ y) = true → okRun 0 y = true
  | [], y, k, e => run_mono y 0 k (Nat.zero_le _) e
  | c :: x, y, k, e => by
    rw [List.cons_append] at e
    unfold okRun at e
    by_cases d : digB c = true
    · rw [if_pos d, Bool.and_eq_true] at e
      exact run_right x y (k + 1) e.2
    · rw [if_neg d] at e
      exact run_right x y 0 e
theorem run_glue {c : Nat} (hc : digB c = false) : ∀ (x y : List Nat) (k : Nat), okRun k x = true → okRun 0 y = true → okRun k (x ++ c :: y) = true
  | [], y, k, _, h => by
    rw [List.nil_append]
    unfold okRun
    rw [hc, if_neg Bool.false_ne_true]
    exact h
  | a :: x, y, k, e, h => by
    rw [List.cons_append]
    unfold okRun at e ⊢
    by_cases d : digB a = true
    · rw [if_pos d, Bool.and_eq_true] at e ⊢
      exact ⟨e.1, run_glue hc x y (k + 1) e.2 h⟩
    · rw [if_neg d] at e ⊢
      exact run_glue hc x y 0 e h
theorem run_len : ∀ (l : List Nat) (k : Nat), k ≤ 60 → l.all digB = true → okRun k l = true → k + l.length ≤ 60
  | [], k, h, _, _ => h
  | c :: l, k, h, a, e => by
    rw [List.all_cons, Bool.and_eq_true] at a
    unfold okRun at e
    rw [if_pos a.1, Bool.and_eq_true, decide_eq_true_iff] at e
    have := run_len l (k + 1) e.1 a.2 e.2
    rw [List.length_cons]
    omega
/-- without a digit -/
theorem run_none : ∀ (l : List Nat) (k : Nat), (∀ c ∈ l, digB c = false) → okRun k l = true
  | [], _, _ => rfl
  | c :: l, k, h => by
    unfold okRun
    rw [h c List.mem_cons_self, if_neg Bool.false_ne_true]
    exact run_none l 0 fun d hd => h d (List.mem_cons_of_mem _ hd)
theorem run_short : ∀ (l : List Nat) (k : Nat), k + l.length ≤ 60 → okRun k l = true
  | [], _, _ => rfl
  | c :: l, k, h => by
    rw [List.length_cons] at h
    unfold okRun
    by_cases d : digB c = true
    · rw [if_pos d, decide_eq_true (by omega), Bool.true_and]
      exact run_short l (k + 1) (by omega)
    · rw [if_neg d]
      exact run_short l 0 (by omega)
theorem RunOk.sub {s a b : Str} {c : Str} (h : RunOk s) (e : s = a ++ b ++ c) : RunOk b := by
  subst e
  unfold RunOk at h
  rw [show (a ++ b ++ c).cps.toList = a.cps.toList ++ b.cps.toList ++ c.cps.toList from by
    show (a.cps ++ b.cps ++ c.cps).toList = _
    rw [Array.toList_append, Array.toList_append]] at h
  exact run_right _ _ 0 (run_left _ _ 0 h)
theorem app_list (a b : Str) : (a ++ b).cps.toList = a.cps.toList ++ b.cps.toList := by
  show (a.cps ++ b.cps).toList = _
  rw [Array.toList_append]
/-- joined by a sign that is no digit -/
theorem run_join {sep : Str} {c : Nat} (hs : sep.cps.toList = [c]) (hc : digB c = false) : ∀ ys : List Str, (∀ y ∈ ys, RunOk y) → RunOk (Str.join sep ys)
  | [], _ => rfl
  | [y], h => h y List.mem_cons_self
  | y :: z :: ys, h => by
    have ih := run_join hs hc (z :: ys) fun t ht => h t (List.mem_cons_of_mem _ ht)
    unfold RunOk
    rw [show (Str.join sep (y :: z :: ys)) = y ++ sep ++ Str.join sep (z :: ys) from rfl, app_list, app_list, hs, List.append_assoc]
    exact run_glue hc _ _ 0 (h y List.mem_cons_self) ih
theorem run_parts {sep : Str} {c : Nat} (hs : sep.cps.toList = [c]) : ∀ ys : List Str, RunOk (Str.join sep ys) → ∀ y ∈ ys, RunOk y
  | [], _, y, hy => by cases hy
  | [y], h, t, ht => by
    rw [List.mem_singleton.mp ht]
    exact h
  | y :: z :: ys, h, t, ht => by
    unfold RunOk at h
    rw [show (Str.join sep (y :: z :: ys)) = y ++ sep ++ Str.join sep (z :: ys) from rfl, app_list, app_list] at h
    rcases List.mem_cons.mp ht with rfl | ht
    · exact run_left _ _ 0 (run_left _ _ 0 h)
    · exact run_parts hs (z :: ys) (run_right _ _ 0 h) t ht
theorem run_split {s sep : Str} {c : Nat} (hs : sep.cps.toList = [c]) (h : RunOk s) : ∀ y ∈ Txt.split s sep, RunOk y := by
  unfold Txt.split
  split
  · intro y hy
    rw [List.mem_singleton.mp hy]
    first | exact h | rfl
  · split
    · intro y hy
      rw [List.mem_singleton.mp hy]
      first | exact h | rfl
    · have g := StrLaws.glued_between_self s sep (s.length + 1)
      rw [StrLaws.glued_eq_join] at g
      exact run_parts hs _ (by rw [g]; exact h)
theorem nl_list : ("\n" : Str).cps.toList = [10] := by decide +kernel
theorem sp_list : (" " : Str).cps.toList = [32] := by decide +kernel
/-- a number's digits in a text that is fine -/
theorem run_num {u : Str} (h : RunOk u) (a : (digs u.cps.toList).all digB = true) : (digs u.cps.toList).length ≤ 60 := by
  have e : ∃ p, u.cps.toList = p ++ digs u.cps.toList := by
    unfold digs
    split
    · rename_i heq
      exact ⟨[45], heq⟩
    · exact ⟨[], rfl⟩
  obtain ⟨p, e⟩ := e
  unfold RunOk at h
  rw [e] at h
  have := run_len _ 0 (Nat.zero_le _) a (run_right _ _ 0 h)
  omega
end WT

set_option Elab.async false
set_option linter.all false
set_option maxRecDepth 100000
/-! what is joined comes apart again. -/
namespace WT
open PySem PySem.Spec PyProof.Rows L2
theorem one_list (c : Nat) : (⟨#[c]⟩ : Str).cps.toList = [c] := rfl
theorem list_inj {a b : Str} (h : a.cps.toList = b.cps.toList) : a = b := by
  cases a
  cases b
  exact congrArg _ (Array.toList_inj.mp h)
theorem cut_first {c : Nat} : ∀ {a b x y : List Nat}, c ∉ a → c ∉ b → a ++ c :: x = b ++ c :: y → a = b ∧ x = y
  | [], [], _, _, _, _, h => ⟨rfl, (List.cons.inj h).2⟩
  | [], q :: b, _, _, _, hb, h => by
    have := (List.cons.inj h).1
    exact absurd (by rw [this]; exact List.mem_cons_self) hb
  | p :: a, [], _, _, ha, _, h => by
    have := (List.cons.inj h).1
    exact absurd (by rw [← this]; exact List.mem_cons_self) ha
  | p :: a, q :: b, x, y, ha, hb, h => by
    obtain ⟨h1, h2⟩ := List.cons.inj h
    obtain ⟨e1, e2⟩ := cut_first (fun z => ha (List.mem_cons_of_mem _ z)) (fun z => hb (List.mem_cons_of_mem _ z)) h2
    exact ⟨by rw [h1, e1], e2⟩
theorem join_two (c : Nat) (y z : Str) (ys : List Str) : (Str.join ⟨#[c]⟩ (y :: z :: ys)).cps.toList = y.cps.toList ++ c :: (Str.join ⟨#[c]⟩ (z :: ys)).cps.toList := by
  rw [show (Str.join ⟨#[c]⟩ (y :: z :: ys)) = y ++ ⟨#[c]⟩ ++ Str.join ⟨#[c]⟩ (z :: ys) from rfl, app_list, app_list, one_list, List.append_assoc]
  rfl
theorem join_inj {c : Nat} : ∀ {as bs : List Str}, as ≠ [] → bs ≠ [] → (∀ p ∈ as, c ∉ p.cps.toList) → (∀ p ∈ bs, c ∉ p.cps.toList) → Str.join ⟨#[c]⟩ as = Str.join ⟨#[c]⟩ bs → as = bs
  | [], _, h, _, _, _, _ => absurd rfl h
  | _, [], _, h, _, _, _ => absurd rfl h
  | [a], [b], _, _, _, _, h => by
    have h : a = b := h
    rw [h]
  | [a], b :: b2 :: bs, _, _, fa, _, h => by
    have e : a.cps.toList = b.cps.toList ++ c :: (Str.join ⟨#[c]⟩ (b2 :: bs)).cps.toList := by
      rw [← join_two]
      exact congrArg (fun z : Str => z.cps.toList) h
    exact absurd (by rw [e]; simp) (fa a List.mem_cons_self)
  | a :: a2 :: as, [b], _, _, _, fb, h => by
    have e : b.cps.toList = a.cps.toList ++ c :: (Str.join ⟨#[c]⟩ (a2 :: as)).cps.toList := by
      rw [← join_two]
      exact (congrArg (fun z : Str => z.cps.toList) h).symm
    exact absurd (by rw [e]; simp) (fb b List.mem_cons_self)
  | a :: a2 :: as, b :: b2 :: bs, _, _, fa, fb, h => by
    have e : a.cps.toList ++ c :: (Str.join ⟨#[c]⟩ (a2 :: as)).cps.toList = b.cps.toList ++ c :: (Str.join ⟨#[c]⟩ (b2 :: bs)).cps.toList := by
      rw [← join_two, ← join_two]
      exact congrArg (fun z : Str => z.cps.toList) h
    obtain ⟨e1, e2⟩ := cut_first (fa a List.mem_cons_self) (fb b List.mem_cons_self) e
    have ih := join_inj (List.cons_ne_nil a2 as) (List.cons_ne_nil b2 bs) (fun p hp => fa p (List.mem_cons_of_mem _ hp)) (fun p hp => fb p (List.mem_cons_of_mem _ hp)) (list_inj e2)
    rw [list_inj e1, ih]
/-- parts without the sign, joined by it, come apart as they were -/
theorem split_join {c : Nat} {ys : List Str} (ne : ys ≠ []) (h : ∀ p ∈ ys, c ∉ p.cps.toList) : Txt.split (Str.join ⟨#[c]⟩ ys) ⟨#[c]⟩ = ys := by
  have w := (split_wt (Str.join ⟨#[c]⟩ ys) ⟨#[c]⟩ rfl).2
  exact join_inj (List.length_pos_iff.mp w) ne (fun p hp => StrLaws.split_free _ c p hp) h (StrLaws.join_split _ _)
theorem join_free {c d : Nat} (n : c ≠ d) : ∀ {ys : List Str}, (∀ p ∈ ys, c ∉ p.cps.toList) → c ∉ (Str.join ⟨#[d]⟩ ys).cps.toList
  | [], _ => fun h => by cases h
  | [y], h => h y List.mem_cons_self
  | y :: z :: ys, h => by
    rw [join_two]
    intro m
    rcases List.mem_append.mp m with m | m
    · exact h y List.mem_cons_self m
    · rcases List.mem_cons.mp m with m | m
      · exact n m
      · exact join_free n (fun p hp => h p (List.mem_cons_of_mem _ hp)) m
end WT

set_option Elab.async false
set_option linter.all false
set_option maxRecDepth 100000
set_option maxHeartbeats 4000000
namespace K35
open PySem PySem.Spec PyProof.Rows L2 WT
abbrev st_labels : Stmt := top 20
theorem sc_labels : FnScope ["_law_draws_here", "_law_many", "_law_letters", "_law_first", "_law_leap", "_law_stem", "_law_index"] ["_law_draws_here", "_law_many"] (defScope st_labels) := ⟨rfl, rfl, rfl, by decide +kernel, rfl, by decide +kernel, by decide +kernel⟩
/-- the stem with a letter within -/
def labelAt (stem : Str) (k c : Nat) : Str := cutS stem none (some (k : Int)) ++ sign c ++ cutS stem (some (k : Int)) none
theorem cut_lo {stem : Str} {k : Nat} (h : k ≤ stem.length) : (cutS stem none (some (k : Int))).cps.toList = stem.cps.toList.take k := by
  unfold cutS
  rw [HT.sIx_none, HT.sIx_nat, Nat.min_eq_left h, List.drop_zero, Nat.sub_zero]
theorem cut_hi {stem : Str} {k : Nat} (h : k ≤ stem.length) : (cutS stem (some (k : Int)) none).cps.toList = stem.cps.toList.drop k := by
  unfold cutS
  rw [HT.sIx_none, HT.sIx_nat, Nat.min_eq_left h]
  refine List.take_of_length_le ?_
  rw [List.length_drop, Array.length_toList]
  exact Nat.le_refl _
theorem label_cps {stem : Str} {k c : Nat} (h : k ≤ stem.length) : (labelAt stem k c).cps.toList = stem.cps.toList.take k ++ [c] ++ stem.cps.toList.drop k := by
  unfold labelAt
  rw [app_cps, app_cps, cut_lo h, cut_hi h]
  rfl
structure LabelsOf (n : Nat) (ys : List Str) : Prop where
  len : ys.length = n
  nm : ∀ y ∈ ys, NmOk y
  nd : ys.Nodup
  srt : sortedS ys = true
  ne : ∀ y ∈ ys, 1 ≤ y.length
theorem label_ne {stem : Str} {k c : Nat} (h : k ≤ stem.length) : 1 ≤ (labelAt stem k c).length := by
  have e := label_cps (c := c) h
  have := congrArg List.length e
  rw [Array.length_toList, List.length_append, List.length_append] at this
  have e2 : ([c] : List Nat).length = 1 := rfl
  show 1 ≤ (labelAt stem k c).cps.size
  omega
theorem label_nm {stem : Str} {k c : Nat} (h : k ≤ stem.length) (l : stem.length ≤ 7) (hs : ∀ x ∈ stem.cps.toList, Low x) (hc : Low c) : NmOk (labelAt stem k c) := by
  have e := label_cps (c := c) h
  refine ⟨?_, fun x hx => ?_⟩
  · have := congrArg List.length e
    rw [Array.length_toList, List.length_append, List.length_append, List.length_take, List.length_drop, Array.length_toList] at this
    have e1 : stem.cps.size = stem.length := rfl
    have e2 : ([c] : List Nat).length = 1 := rfl
    show (labelAt stem k c).cps.size ≤ 8
    omega
  · rw [e] at hx
    rcases List.mem_append.mp hx with hx | hx
    · rcases List.mem_append.mp hx with hx | hx
      · exact hs x (List.mem_of_mem_take hx)
      · rw [List.mem_singleton.mp hx]
        exact hc
    · exact hs x (List.mem_of_mem_drop hx)
theorem label_inj {stem : Str} {k c d : Nat} (h : k ≤ stem.length) (e : labelAt stem k c = labelAt stem k d) : c = d := by
  have := congrArg (fun z : Str => z.cps.toList) e
  rw [label_cps h, label_cps h, List.append_assoc, List.append_assoc] at this
  have := List.append_cancel_left this
  exact (List.cons.inj this).1
/-- the letter of a turn -/
def turnC (first leap : Int) (j : Nat) : Nat := 97 + ((first + leap * (j : Int)) % 26).toNat
theorem turn_low (first leap : Int) (j : Nat) : Low (turnC first leap j) := by
  unfold Low turnC
  omega
theorem turn_inj {first leap : Int} {i j : Nat} (hl : leap = 1 ∨ leap = 3 ∨ leap = 5 ∨ leap = 7 ∨ leap = 9 ∨ leap = 11) (hi : i < 26) (hj : j < 26) (e : turnC first leap i = turnC first leap j) : i = j := by
  unfold turnC at e
  rcases hl with rfl | rfl | rfl | rfl | rfl | rfl <;> omega
theorem labels_ok {stem : Str} {k n : Nat} {first leap : Int} {ys : List Str} (h : k ≤ stem.length) (l : stem.length ≤ 7) (hs : ∀ x ∈ stem.cps.toList, Low x) (hl : leap = 1 ∨ leap = 3 ∨ leap = 5 ∨ leap = 7 ∨ leap = 9 ∨ leap = 11) (hn : n ≤ 20)
    (pm : ys.Perm ((List.range n).map fun j => labelAt stem k (turnC first leap j))) (st : sortedS ys = true) : LabelsOf n ys := by
  refine ⟨?_, fun y hy => ?_, ?_, st, fun y hy => ?_⟩
  · rw [pm.length_eq, List.length_map, List.length_range]
  · obtain ⟨j, _, rfl⟩ := List.mem_map.mp (pm.mem_iff.mp hy)
    exact label_nm h l hs (turn_low _ _ _)
  · refine pm.nodup_iff.mpr (List.pairwise_map.mpr ((List.pairwise_iff_getElem.mpr fun i j hi hj hij e => ?_)))
    rw [List.length_range] at hi hj
    rw [List.getElem_range, List.getElem_range] at e
    have := turn_inj hl (by omega) (by omega) (label_inj h e)
    omega
  · obtain ⟨j, _, rfl⟩ := List.mem_map.mp (pm.mem_iff.mp hy)
    exact label_ne h
theorem label_0 (stem : Str) (c : Nat) : sign c ++ stem = labelAt stem 0 c := list_inj (by
  rw [label_cps (Nat.zero_le _), app_list]
  rfl)
section
variable {P : Program} {w : World} {K : PySem.W.Frag} {mg : Str → Option Value} {base : Heap} {f fT fO : Addr} {fd fdT fdO : FuncData}
/-- mixed(hand, some): the same texts in some order -/
def spMixed (K : PySem.W.Frag) : Sp := fun vs H Q _ => ∃ (a l : Addr) (b : Nat) (ss : List Str), vs = [.ref a, .ref l] ∧ PotAt H a b ∧ b + ss.length ≤ 100000 ∧ (SqL K H l (ss.map V.str) ∨ SqT K H l (ss.map V.str)) ∧ ss.length ≤ 1000 ∧ (∀ s ∈ ss, PyData.strOk s = true) ∧
  ∀ (H' : Hp) (p : Addr) (ys : List Str), But a H H' → PotAt H' a (b + ss.length) → H p = none → H' p = some (.lst (ys.map V.str)) → ys.Perm ss → Q (.ref p) H'
theorem ok_mixed (F : Fun K "_law_mixed" "_law_mixed" st_mixed f fd) (B : Blt mg) (F_below : Df P w K mg base "_law_below" 1 fT fdT ["_law_draws_here", "_law_many"] spDraw) : FnG P w K mg base CX0 2 f fd ["_law_draws_here", "_law_some"] (spMixed K) := by
  refine okG F sc_mixed (fun vs H Q E h => ?_) (fun cdv A outer s H vs Q E hgd hr h => ?_)
  · obtain ⟨_, _, _, _, rfl, _⟩ := h
    rfl
  · obtain ⟨a, l, b, ss, rfl, ha, hb, hl, hlen, hok, q⟩ := h
    refine ⟨_, (pss_cons (ps_par (by rfl) sc_mixed.nd (i := 2) (j := 3) rfl rfl (by decide) rfl rfl (pa_cons (pe_callTy call_list_of (by rfl) B.list (by decide +kernel) (pa_cons (pv 1) pa_nil)) (pa_cons (pe_lst pa_nil) pa_nil)) (by rfl))
      (pss_cons (ps_while PassesOwn.never (pt_cmpR (op_neD hr.units) (pv 2) (pe_lst pa_nil) (nomark _))
       (pss_one (ps_expr (pe_bm PySem.F.plainAttrs_list PySem.F.slot_list_append PySem.F.type_list_append mt_append (pv 3) (pa_cons (pe_bm PySem.F.plainAttrs_list PySem.F.slot_list_pop PySem.F.type_list_pop mt_popAt (pv 2) (pa_cons (pe_callG hgd F_below.G (hr.mono (by decide)) (by rfl) F_below.g F_below.kp F_below.bd pass0 (pa_cons (pv 0) (pa_cons (pe_callB call_len (by rfl) B.len (by decide +kernel) (pa_cons (pv 2) pa_nil)) pa_nil))) pa_nil)) pa_nil)))))
      (pss_one (ps_ret (pv 3))))), ?_⟩
    refine ⟨_, rfl, l, ss.map V.str, rfl, hl, fun L nL => ?_⟩
    refine ⟨(by show 0 ≤ sizeLine; decide), fun D nD => ?_⟩
    refine ⟨_, _, rfl, ?_⟩
    have hnaL : a ≠ L := ha.ne_new nL
    have z1 := same_new nL (o := .lst (ss.map V.str))
    have z2 := same_new nD (o := .lst [])
    have hnaD : a ≠ D := (ha.same z1).ne_new nD
    have hLD : L ≠ D := ne_of_none upd_same nD
    have nD0 : H D = none := by
      rw [← upd_ne (H := H) (o := .lst (ss.map V.str)) (Ne.symm hLD)]
      exact nD
    refine ⟨fun m σ H' => ∃ left found : List Str, σ = [some (.ref a), some (.ref l), some (.ref L), some (.ref D)] ∧ m = left.length ∧ But a H H' ∧ PotAt H' a (b + found.length) ∧ H' L = some (.lst (left.map V.str)) ∧ H' D = some (.lst (found.map V.str)) ∧ (found ++ left).Perm ss,
      ⟨ss.length, ss, [], rfl, rfl, .of (z1.trans z2), (ha.same z1).same z2, z2 _ _ upd_same, upd_same, List.Perm.refl _⟩, fun m σ H' hW => ?_⟩
    obtain ⟨left, found, rfl, rfl, bt, hp, hL, hD, pm⟩ := hW
    have hle : found.length + left.length = ss.length := by
      have := pm.length_eq
      rw [List.length_append] at this
      exact this
    refine ⟨_, rfl, (by show 0 ≤ sizeLine; decide), fun e ne => ?_⟩
    have z3 := same_new ne (o := .lst [])
    have okl : ∀ s ∈ left, PyData.strOk s = true := fun s hs => hok s (pm.mem_iff.mp (List.mem_append_right _ hs))
    refine ⟨_, _, .lst (SqL.of (z3 _ _ hL)) (dp_strs left), .lst (SqL.of upd_same) .nil, shaped_strs left okl, shaped_nil, _, rfl, ?_⟩
    rw [eqv_nil]
    cases left with
    | nil =>
      refine iteF ⟨_, rfl, ?_⟩
      rw [List.append_nil] at pm
      refine q _ D found (bt.trans (.of z3)) ((hp.same z3).more (by omega)) nD0 (z3 _ _ hD) pm
    | cons x left =>
      refine iteT ⟨fun σ' H2 => ∃ left' found' : List Str, σ' = [some (.ref a), some (.ref l), some (.ref L), some (.ref D)] ∧ left'.length = left.length ∧ But a H H2 ∧ PotAt H2 a (b + found'.length) ∧ H2 L = some (.lst (left'.map V.str)) ∧ H2 D = some (.lst (found'.map V.str)) ∧ (found' ++ left').Perm ss,
        fun σ' H2 ⟨l', f', h1, h2, h3⟩ => ⟨left.length, by rw [List.length_cons]; omega, l', f', h1, h2.symm, h3⟩, ?_⟩
      have hl3 := z3 _ _ hL
      have hd3 := z3 _ _ hD
      refine ⟨_, rfl, .inl ⟨rfl, _, SqL.of hd3⟩, _, rfl, .inl ⟨rfl, _, SqL.of hl3⟩, _, rfl, _, rfl, _, ((x :: left).map V.str).length, rfl, .inl ⟨_, SqL.of hl3, rfl⟩, a, b + found.length, (((x :: left).map V.str).length : Int), rfl, hp.same z3, by simp at hle ⊢; omega, by simp <;> omega,
        by simp at hle ⊢; omega, fun H4 r b4 p4 r0 r1 => ?_⟩
      obtain ⟨j, rfl⟩ := Int.eq_ofNat_of_zero_le r0
      have hj : j < (x :: left).length := by
        rw [List.length_map] at r1
        omega
      have hl4 := b4 _ _ (Ne.symm hnaL) hl3
      have hd4 := b4 _ _ (Ne.symm hnaD) hd3
      have hjx : ((x :: left).map V.str)[j]? = some (V.str (x :: left)[j]) := by
        rw [List.getElem?_map, List.getElem?_eq_getElem hj]
        rfl
      have hsq : seqIndex? (j : Int) ((x :: left).map V.str).length = some j := by
        have := (ixN_seq (n := ((x :: left).map V.str).length) (i := (j : Int)) (j := j) (by
          unfold ixN
          rw [if_pos (by omega), if_pos (by rw [List.length_map]; omega)]
          simp)).1
        exact this
      refine ⟨L, _, (j : Int), j, _, rfl, rfl, hl4, by omega, by rw [List.length_cons] at hj; simp at hle; omega, hsq, hjx, ?_⟩
      have hD5 : (upd H4 L (.lst (((x :: left).map V.str).eraseIdx j))) D = some (.lst (found.map V.str)) := by
        rw [upd_ne (Ne.symm hLD)]
        exact hd4
      refine ⟨D, _, _, rfl, rfl, hD5, ?_, ?_⟩
      · rw [List.length_map]
        exact Nat.lt_of_le_of_lt (show found.length ≤ 1000 by simp at hle; omega) (by decide)
      · refine ⟨(x :: left).eraseIdx j, found ++ [(x :: left)[j]], rfl, ?_, ?_, ?_, ?_, ?_, ?_⟩
        · rw [List.length_eraseIdx_of_lt hj]
          rfl
        · intro c o nc ec
          rw [upd_ne (ne_of_none ec nD0), upd_ne (ne_of_none ec nL)]
          exact (bt.trans ((But.of z3).trans b4)) c o nc ec
        · obtain ⟨u0, u1, u2, e1, e2⟩ := p4
          refine ⟨u0, u1, u2, ?_, e2.more ?_⟩
          · rw [upd_ne hnaD, upd_ne hnaL]
            exact e1
          · rw [List.length_append]
            exact Nat.le_refl _
        · rw [upd_ne hLD, upd_same]
          congr 2
          exact map_erase _ _ _
        · rw [upd_same, List.map_append]
          rfl
        · refine List.Perm.trans ?_ pm
          rw [List.append_assoc]
          exact List.Perm.append_left _ (erase_perm _ j hj)
/-- labels(draws, many): a list of so many names, ascending -/
def spLabels : Sp := fun vs H Q _ => ∃ (a : Addr) (b n : Nat), vs = [.ref a, .int n] ∧ PotAt H a b ∧ b ≤ 90000 ∧ n ≤ 20 ∧
  ∀ (H' : Hp) (p : Addr) (ys : List Str), But a H H' → PotAt H' a (b + 3) → H p = none → p ≠ a → H' p = some (.lst (ys.map V.str)) → LabelsOf n ys → Q (.ref p) H'
theorem ok_labels (F : Fun K "_law_labels" "_law_labels" st_labels f fd) (B : Blt mg) (F_below : Df P w K mg base "_law_below" 1 fT fdT ["_law_draws_here", "_law_many"] spDraw)
    (F_choice : Df P w K mg base "_law_choice" 2 fO fdO ["_law_draws_here", "_law_some"] (spPick K)) : FnG P w K mg base CX0 3 f fd ["_law_draws_here", "_law_many"] spLabels := by
  refine okG F sc_labels (fun vs H Q E h => ?_) (fun cdv A outer s H vs Q E hgd hr h => ?_)
  · obtain ⟨_, _, _, rfl, _⟩ := h
    rfl
  · obtain ⟨a, b, n, rfl, ha, hb, hn, q⟩ := h
    refine ⟨_, (pss_cons (ps_asg (pe_tup (pa_cons pe_str (pa_cons (pe_callG hgd F_below.G (hr.mono (by decide)) (by rfl) F_below.g F_below.kp F_below.bd pass0 (pa_cons (pv 0) (pa_cons pe_int pa_nil))) pa_nil))) (pg_tup rfl (pgs_cons (pg_name (i := 2) sc_labels.nd rfl (.inr rfl)) (pgs_cons (pg_name (i := 3) sc_labels.nd rfl (.inr rfl)) pgs_nil))))
      (pss_cons (ps_set (i := 4) sc_labels.nd rfl (.inr rfl) (pe_callG hgd F_choice.G (hr.mono (by decide)) (by rfl) F_choice.g F_choice.kp F_choice.bd pass0 (pa_cons (pv 0) (pa_cons (pe_lst (pa_cons pe_int (pa_cons pe_int (pa_cons pe_int (pa_cons pe_int pa_nil))))) pa_nil))))
      (pss_cons (ps_set (i := 5) sc_labels.nd rfl (.inr rfl) (pe_callG hgd F_choice.G (hr.mono (by decide)) (by rfl) F_choice.g F_choice.kp F_choice.bd pass0 (pa_cons (pv 0) (pa_cons (pe_lst (pa_cons pe_str (pa_cons pe_str (pa_cons pe_str (pa_cons pe_str pa_nil))))) pa_nil))))
      (pss_one (ps_ret (pe_callB cr_sortedS (by rfl) B.sorted (by decide +kernel) (pa_cons (pe_lc (own := [("_law_index", 6)]) (by rfl) sc_labels.nd (pi_range1 (by rfl) B.range (pa_cons (pv 1) pa_nil)) (blkOk_by (own := [("_law_index", 6)]) (N := ["_law_draws_here", "_law_many", "_law_letters", "_law_first", "_law_leap", "_law_stem", "_law_index"]) (sc := defScope st_labels) (by decide +kernel)) (fun _ _ _ _ _ => (pg_name (i := 6) sc_labels.nd rfl (.inl rfl))) (fun _ _ _ _ _ => pts_nil) (fun _ _ _ _ _ => (pe_op op_add_str (pe_ix ix_str (pv 2) (pe_op op_mod (pe_op op_add (pv 3) (pe_op op_mul (pv 4) (pv 6))) pe_int) (fun _ _ => rfl)) (pv 5)))) pa_nil))))))), ?_⟩
    refine ⟨_, rfl, a, b, 26, rfl, ha, by omega, by decide, by decide, fun H1 first b1 p1 f0 f1 => ⟨(by show 2 ≤ sizeLine; decide), fun T nT => ⟨T, _, rfl, SqT.of upd_same, rfl, .str alpha, _, rfl, .int first, [], rfl, rfl, ?_⟩⟩⟩
    have zT := same_new nT (o := .tup [.str alpha, .int first])
    have bt1 := b1.trans (.of zT)
    have p1 := p1.same zT
    refine ⟨_, rfl, (by show 4 ≤ sizeLine; decide), fun l5 n5 => ?_⟩
    have z5 := same_new n5 (o := .lst [.int 1, .int 3, .int 5, .int 7])
    refine .inl ⟨a, l5, _, _, rfl, p1.same z5, by omega, Ne.symm (p1.ne_new n5), .inl (SqL.of upd_same), by show 0 < 4; decide, by show 4 ≤ 20000; decide, fun H5 lv b5 p5 hlv => ?_⟩
    obtain ⟨leap, rfl, hleap⟩ : ∃ leap : Int, lv = .int leap ∧ (leap = 1 ∨ leap = 3 ∨ leap = 5 ∨ leap = 7 ∨ leap = 9 ∨ leap = 11) := by
      simp only [List.mem_cons, List.not_mem_nil, or_false] at hlv
      rcases hlv with rfl | rfl | rfl | rfl
      · exact ⟨_, rfl, .inl rfl⟩
      · exact ⟨_, rfl, .inr (.inl rfl)⟩
      · exact ⟨_, rfl, .inr (.inr (.inl rfl))⟩
      · exact ⟨_, rfl, .inr (.inr (.inr (.inl rfl)))⟩
    have bt5 := bt1.trans ((But.of z5).trans b5)
    refine ⟨_, rfl, (by show 4 ≤ sizeLine; decide), fun l6 n6 => ?_⟩
    have z6 := same_new n6 (o := .lst [.str "", .str "", .str "a", .str "zzzzzzz"])
    refine .inl ⟨a, l6, _, _, rfl, p5.same z6, by omega, Ne.symm (p5.ne_new n6), .inl (SqL.of upd_same), by show 0 < 4; decide, by show 4 ≤ 20000; decide, fun H6 sv b6 p6 hsv => ?_⟩
    obtain ⟨stem, rfl, sten, stl⟩ : ∃ stem : Str, sv = .str stem ∧ stem.length ≤ 7 ∧ ∀ x ∈ stem.cps.toList, Low x := by
      have dl : ∀ s : Str, (s.cps.toList.all fun x => decide (97 ≤ x) && decide (x ≤ 122)) = true → ∀ x ∈ s.cps.toList, Low x := fun s h x hx => by
        have := List.all_eq_true.mp h x hx
        rw [Bool.and_eq_true, decide_eq_true_eq, decide_eq_true_eq] at this
        unfold Low
        omega
      simp only [List.mem_cons, List.not_mem_nil, or_false] at hsv
      rcases hsv with rfl | rfl | rfl | rfl
      · exact ⟨_, rfl, by decide +kernel, dl _ (by decide +kernel)⟩
      · exact ⟨_, rfl, by decide +kernel, dl _ (by decide +kernel)⟩
      · exact ⟨_, rfl, by decide +kernel, dl _ (by decide +kernel)⟩
      · exact ⟨_, rfl, by decide +kernel, dl _ (by decide +kernel)⟩
    have bt6 := bt5.trans ((But.of z6).trans b6)
    clear z5 z6 n5 n6 b5 p5 b6 bt5 p1 bt1 hlv hsv
    refine ⟨_, rfl, (n : Int), rfl, by omega, by omega, fun D2 nD2 => lc_range (lo := 0) (n := (n : Int).toNat) (fun j H' => Same H6 H' ∧ H' D2 = some (.lst (((List.range j).map fun i => sign (turnC first leap i) ++ stem).map V.str)))
      ⟨same_new nD2, upd_same⟩ (fun j H' hj hP => ?_) fun H7 hP => ?_⟩
    · obtain ⟨s6, hD2⟩ := hP
      have hj : j < n := hj
      have h0 := Int.emod_nonneg (first + leap * (0 + (j : Int))) (b := 26) (by decide)
      have h1 := Int.emod_lt_of_pos (first + leap * (0 + (j : Int))) (b := 26) (by decide)
      have ec : atI alpha.cps.toList ((first + leap * (0 + (j : Int))) % 26) = some (turnC first leap j) := by
        obtain ⟨i, hi⟩ := Int.eq_ofNat_of_zero_le h0
        rw [hi]
        refine atI_nat ?_
        rw [alpha_cps, List.getElem?_map, List.getElem?_range (by omega)]
        show some (97 + i) = some (turnC first leap j)
        unfold turnC
        rw [Int.zero_add] at hi
        rw [hi]
        rfl
      refine ⟨rfl, _, rfl, _, rfl, _, rfl, _, rfl, leap, (0 + (j : Int)), rfl, rfl, .inl ⟨by omega, by omega⟩, first, _, rfl, rfl, _, 26, rfl, rfl, (show (0 : Int) < 26 by decide), alpha, _, _, rfl, rfl, by decide +kernel, ec, _, rfl, _, stem, rfl, rfl, Nat.le_trans (show 1 + stem.length ≤ 100 by omega) (by decide), _, hD2, ?_, ?_, ?_⟩
      · rw [List.length_map, List.length_map, List.length_range]
        exact Nat.lt_of_lt_of_le (show j < 30 by omega) (by decide)
      · intro c o e
        rw [upd_ne (ne_of_none e nD2)]
        exact s6 _ _ e
      · rw [upd_same, List.range_succ, List.map_append, List.map_append]
        rfl
    obtain ⟨s6, hD2⟩ := hP
    replace hD2 : H7 D2 = some (.lst (((List.range n).map fun i => sign (turnC first leap i) ++ stem).map V.str)) := hD2
    refine ⟨D2, _, rfl, SqL.of hD2, ?_, fun ys c8 pm8 st8 n8 => ?_⟩
    · rw [List.length_map, List.length_range]
      omega
    have z8 := same_new n8 (o := .lst (ys.map V.str))
    have zz := s6.trans z8
    have c8a : c8 ≠ a := Ne.symm ((p6.same s6).ne_new n8)
    refine q _ c8 ys (bt6.trans (.of zz)) ((p6.same zz).more (by omega)) ?_ c8a upd_same (labels_ok (Nat.zero_le _) sten stl hleap hn (k := 0) (first := first) ?_ st8)
    · exact but_free (bt6.trans (.of s6)) c8a n8
    · have : ((List.range n).map fun i => sign (turnC first leap i) ++ stem) = (List.range n).map fun j => labelAt stem 0 (turnC first leap j) := List.map_congr_left fun i _ => label_0 _ _
      rw [← this]
      exact pm8
end
end K35

set_option Elab.async false
set_option linter.all false
set_option maxRecDepth 100000
set_option maxHeartbeats 4000000
/-! enumerate over a tuple. -/
namespace PySem
open Sem (wp)
theorem newEnumOne {x : Value} {io : Obj} {Hh : Heap → Prop} (Bg : Begins x io Hh) :
    Meets (Builtin.«enumerate.__new__» ⟨[.type "enumerate", x], []⟩) (fun _ Rr st => Hh st.heap ∧
      Rr (.ok (.ret (.ref (st.heap.push io).objs.size))) { st with heap := (st.heap.push io).push { cls := .type "enumerate", data := .fields #[.none, .bool false, .ref st.heap.objs.size, rawInt 0, .none, .none] } }) :=
  .of_wp fun pr wd Ar Rr st hyp => by
    obtain ⟨hh, gg, dd, tt, oo⟩ := st
    obtain ⟨hb, hyp⟩ := hyp
    have hsb := sub_enumerate
    have itr : ∀ {A2 : Around} {E2 : Value → Shared → Prop} {Q2 : Value → Shared → Prop}, Q2 (.ref hh.objs.size) ⟨hh.push io, gg, dd, tt, oo⟩ → wpAny (model pr wd) A2 (pyIter x) Q2 E2 ⟨hh, gg, dd, tt, oo⟩ :=
      fun r => Bg.iter pr wd _ _ ⟨hh, gg, dd, tt, oo⟩ _ hb r
    wp_walk using itr
    refine wpAny_stack_any fun stk => wpAny_pure ?_
    split
    · rename_i cc _ _ _ _ _
      cases (cc == Value.type "enumerate") <;> (wp_walk using itr; exact ⟨_, rfl, hyp⟩)
    · wp_walk using itr
      exact ⟨_, rfl, hyp⟩
theorem enumOne_begins {pr : Program} {wd : World} {Ar : Around} {Er : Value → Shared → Prop} {st : Shared} {x : Value} {io : Obj} {Hh : Heap → Prop} {Q : Value → Shared → Prop} (Bg : Begins x io Hh) (hb : Hh st.heap)
    (h : ∀ h2, IsEnum h2 (st.heap.objs.size + 1) st.heap.objs.size 0 .none → h2.get? st.heap.objs.size = some io → (∀ c oc, st.heap.get? c = some oc → h2.get? c = some oc) → Q (.ref (st.heap.objs.size + 1)) { st with heap := h2 }) :
    wpAny (model pr wd) Ar (call (.type "enumerate") [x]) Q Er st := by
  refine callType_new F.called_enumerate (by decide) (F.typeCall_enumerate_1 _) (F.newCall_enumerate_1 _) (fun ob => F.args_object_init_2 ob _) F.entry_enumerate_new (newEnumOne Bg) ⟨hb, ?_⟩
  have size1 : (st.heap.push io).objs.size = st.heap.objs.size + 1 := Heap.size_push ..
  show _ ∧ _
  rw [size1]
  have isE : IsEnum ((st.heap.push io).push { cls := .type "enumerate", data := .fields #[.none, .bool false, .ref st.heap.objs.size, rawInt 0, .none, .none] }) (st.heap.objs.size + 1) st.heap.objs.size 0 .none := by
    have z := Heap.get?_push_size (st.heap.push io) (o := { cls := .type "enumerate", data := .fields #[.none, .bool false, .ref st.heap.objs.size, rawInt 0, .none, .none] }) rfl
    rw [size1] at z
    exact z
  exact ⟨⟨_, isE, rfl⟩, h _ isE (Heap.get?_push_of_some _ (Heap.get?_push_size _ Bg.free)) fun c oc e => Heap.get?_push_of_some _ (Heap.get?_push_of_some _ e)⟩
end PySem
namespace WT
open PySem PySem.Spec PyProof.Rows L2
/-- the tuple at a, each item in a new pair with its number -/
def IteT (K : PySem.W.Frag) (a : Addr) : It where
  go i H := ∃ (xs : List V) (x : V), SqT K H a xs ∧ xs[i]? = some x
  yld i H v H' := ∃ T x, v = .ref T ∧ H T = none ∧ H' = upd H T (.tup [.int (i : Nat), x]) ∧ ∀ xs, SqT K H a xs → xs[i]? = some x
  stop i H := ∃ xs : List V, SqT K H a xs ∧ i = xs.length
theorem turn_enumT {P : Program} {w : World} {K : PySem.W.Frag} {ets : List Expr} {q : Nat} {tp : Pos} (a e it : Addr) :
    Turn P w K (.Tuple ets q tp) (IteT K a) [e, it] e (fun i h => ((∃ old, IsEnum h e it ((i : Nat) : Int) old) ∧ h.IsTupleIter it a i) ∧ e ≠ it ∧ a ≠ it ∧ a ≠ e) where
  mem := List.mem_cons_self
  obj := fun i h st b hb => by
    obtain ⟨⟨⟨old, he⟩, ⟨o, ho, hc, hd⟩⟩, _⟩ := st
    rcases List.mem_cons.mp hb with rfl | hb
    · exact ⟨_, he, fun v z => nomatch z⟩
    · rw [List.mem_singleton.mp hb]
      exact ⟨o, ho, fun v z => by rw [hd] at z; cases z⟩
  keep := fun i h h' st k => ⟨⟨⟨st.1.1.choose, k e List.mem_cons_self _ st.1.1.choose_spec⟩, st.1.2.at fun o z => k it (by simp) o z⟩, st.2⟩
  item := by
    intro X hP hw hK hc i pins s σ H E I hf st hg
    subst hP hw hK
    obtain ⟨⟨⟨old, he⟩, hit⟩, hne, hai, hae⟩ := st
    obtain ⟨xs, x, hq, hx⟩ := hg
    obtain ⟨its, rv, p, hz⟩ := I.tuple hq
    obtain ⟨u, hu, ru⟩ := rv.get hx
    have le : e < s.heap.objs.size := Heap.lt_size he
    have li : it < s.heap.objs.size := by
      obtain ⟨_, z, _⟩ := hit
      exact Heap.lt_size z
    have hp : s.heap.IsTuple a its.toArray := p
    have hlt : i < its.toArray.size := by
      have := (List.getElem?_eq_some_iff.mp hu).1
      simpa using this
    refine wpAny_pyNext_enum_itemD (Draws.tuple (A := X.A.in1) (show X.A.in1.handled = none from I.ok.hd hc) it a hai its.toArray) he ⟨hit, hp⟩ hlt hne (by simp only [List.mem_cons, List.not_mem_nil, or_false, not_or]; exact ⟨hne, Ne.symm hae⟩) fun y h' tk hy ho hst' hT hsz hk => ?_
    have ey : y = u := by
      have h1 : its.toArray[i]? = some y := hy
      have h2 : its.toArray[i]? = some u := by simpa using hu
      rw [h1] at h2
      exact Option.some.inj h2
    subst ey
    refine ⟨_, rfl, wpAny_letOwnedTupleGo_enum (s := { s with heap := h', toks := tk + 1 }) ho fun h2 he2 sb => ?_⟩
    have hT2 : h2.get? s.heap.objs.size = some { cls := .type "tuple", data := .seq #[.int i tk, y] } := (sb.2 _ (Nat.ne_of_gt le)).trans hT
    have nw : ObjOk X.prog X.w (upd H s.heap.objs.size (.tup [.int (i : Nat), x])) h2 s.heap.objs.size (.tup [.int (i : Nat), x]) :=
      ⟨by show 2 ≤ sizeLine; decide, [.int i tk, y], .cons ⟨_, rfl⟩ (.cons ru .nil), ⟨_, hT2, rfl, _, rfl⟩⟩
    have I1 : Inv X pins σ (upd H s.heap.objs.size (.tup [.int (i : Nat), x])) { s with heap := h2, toks := tk + 1 } :=
      I.turnedNew (ch := [e, it]) (fun b ob hb z => (sb.2 b fun y => hb (by simp [y])).trans (hk b ob (fun y => hb (by simp [y])) (fun y => hb (by simp [y])) z)) hf (Nat.le_refl _) nw
    refine ⟨.ref s.heap.objs.size, _, I1, rfl, ⟨_, x, rfl, I.hok.fresh (Nat.le_refl _), rfl, fun ys hy => by rw [I.tuple_inj hy hq]; exact hx⟩, ⟨⟨⟨y, ?_⟩, hst'.1.at fun o z => (sb.2 it (Ne.symm hne)).trans z⟩, hne, hai, hae⟩, fun b hb => ?_⟩
    · rw [show ((i + 1 : Nat) : Int) = (i : Int) + 1 by omega]
      exact he2
    · have hlb : b < s.heap.objs.size := by
        rcases List.mem_cons.mp hb with rfl | hb
        · exact le
        · rw [List.mem_singleton.mp hb]
          exact li
      rw [upd_ne (Nat.ne_of_lt hlb)]
      exact (hf b hb).1
  done := by
    intro X hP hw hK hc i pins s σ H E I hf st hg
    subst hP hw hK
    obtain ⟨⟨⟨old, he⟩, hit⟩, hne, hai, hae⟩ := st
    obtain ⟨xs, hq, rfl⟩ := hg
    obtain ⟨its, rv, p, hz⟩ := I.tuple hq
    obtain ⟨f0, f1, f2, f3, f4, f5⟩ := hf it (by simp)
    have hp : s.heap.IsTuple a its.toArray := p
    have hl : xs.length = its.toArray.size := by
      have := rv.length
      simp
      omega
    exact wpAny_pyNext_enum_endD (Draws.tuple (A := X.A.in1) (show X.A.in1.handled = none from I.ok.hd hc) it a hai its.toArray) he ⟨hl ▸ hit, hp⟩ fun h' eb => ⟨rfl, I.turned (t' := s.toks) (fun b o hb z => eb b o hb z) f0 f1 f3 f4 f5⟩
  self := fun A i s Q E st h => wpAny_pyIter_enum st.1.1.choose_spec h
def iEnumT (K : PySem.W.Frag) (ta : TA) : TI := fun σ H R => ta σ H fun vs H1 => ∃ a xs, vs = [.ref a] ∧ SqT K H1 a xs ∧ R (IteT K a) H1
theorem pi_enumT {X : Cx} {e : Expr} {ta : TA} {p pos tp : Pos} {ets : List Expr} {q : Nat} (hg : Gl X "enumerate") (hm : X.mg "enumerate" = none) (ha : PA X [e] ta) (hs : starEach [e] X.env = [(false, eval e X.env)] := by rfl) :
    PI X (.Tuple ets q tp) (.Call (.Name "enumerate" p) [e] [] pos) (iEnumT X.K ta) := by
  refine ⟨fun pins s σ H R I h => Call_ (ld_blt I hg hm boot_enumerate (PyProof.Rows.callWith_type1 (thn (ha.run pos pins s σ H _ I h) fun us s1 ⟨vs, H1, I1, r1, q1⟩ => ?_) hs rfl))⟩
  obtain ⟨a, xs, rfl, hq, q⟩ := q1
  obtain ⟨its, rv, p', hz⟩ := I1.tuple hq
  have hp : s1.heap.IsTuple a its.toArray := p'
  cases r1 with
  | cons r rr =>
    cases rr
    cases r
    refine enumOne_begins (begins_tuple a its.toArray) hp fun h2 he hit hk => wpAny_pyIter_enum he ?_
    have la : a < s1.heap.objs.size := by
      obtain ⟨_, z, _⟩ := hp
      exact Heap.lt_size z
    refine ⟨s1.heap.objs.size + 1, [s1.heap.objs.size + 1, s1.heap.objs.size], _, _, H1, rfl, I1.kept (t' := s1.toks) hk, turn_enumT a (s1.heap.objs.size + 1) s1.heap.objs.size, ⟨⟨⟨.none, he⟩, _, hit, rfl, rfl⟩, Nat.succ_ne_self _, Nat.ne_of_lt la, Nat.ne_of_lt (Nat.lt_succ_of_lt la)⟩, fun b hb => ?_, q⟩
    have hle : s1.heap.objs.size ≤ b := by
      rcases List.mem_cons.mp hb with rfl | hb
      · exact Nat.le_succ _
      · rw [List.mem_singleton.mp hb]
        exact Nat.le_refl _
    exact I1.fpOk hle (I1.hok.fresh hle)
/-- a tuple of targets, within a comprehension -/
theorem pg_tupK {X : Cx} {K : PySem.W.Frag} {es : List Expr} {q : Nat} {t : TGs} {n : Nat} {pos : Pos} (hc : X.calm = true) (h : PGs X es t) (hn : (assignEach es X.env).length = n := by rfl) (hst : (assignEach es X.env).findIdx? (·.1) = none := by rfl) (hK : X.K = K := by rfl) :
    PG X (.Tuple es q pos) (gTup K n t) := by
  subst hK
  exact pg_tup hc h hn hst
theorem walk_enumT {K : PySem.W.Frag} {a : Addr} {xs : List V} : Walk (IteT K a) xs.length (fun H => SqT K H a xs) (YPair (fun i => some (.int (i : Nat))) (fun i => xs[i]?)) where
  goes i _ hi h := ⟨xs, xs[i], h, by simp [hi]⟩
  stops _ h := ⟨xs, h, rfl⟩
  yields i H v H' _ h y := by
    obtain ⟨T, x, h1, h2, h3, h4⟩ := y
    exact ⟨T, .int (i : Nat), x, h1, h2, h3, rfl, h4 xs h⟩
end WT

set_option Elab.async false
set_option linter.all false
set_option maxRecDepth 100000
set_option maxHeartbeats 1000000
namespace K35
open PySem PySem.Spec PyProof.Rows L2 WT
abbrev st_gateways : Stmt := top 22
theorem sc_gateways : FnScope ["_law_draws_here", "_law_regions", "_law_names", "_law_way", "_law_found", "_law_ring", "_law_index", "_law_name", "_law_some"] ["_law_draws_here", "_law_regions", "_law_names", "_law_way"] (defScope st_gateways) := ⟨rfl, rfl, rfl, by decide +kernel, rfl, by decide +kernel, by decide +kernel⟩
abbrev st_world : Stmt := top 23
theorem sc_world : FnScope ["_law_draws_here", "_law_most", "_law_way", "_law_many", "_law_regions", "_law_names"] ["_law_draws_here", "_law_most"] (defScope st_world) := ⟨rfl, rfl, rfl, by decide +kernel, rfl, by decide +kernel, by decide +kernel⟩
theorem te_useP {t : TE} {σ : L2.St} {H : Hp} {k : VK} (G : V → Hp → Prop) (ht : ∀ k : VK, (∀ v H', G v H' → k v H') → t σ H k) (hk : ∀ v H', G v H' → k v H') : t σ H k := ht k hk
theorem gn_asg {i : Nat} {v : V} {t : TE} {g : TG} {u : L2.TS} {D : Ends} {σ : L2.St} {H : Hp} {r b c} (h : t (List.set σ i (some v)) H fun v1 H1 => g v1 (List.set σ i (some v)) H1 (u D)) : gName i v σ H (Ends.nx { nx := tSeq (tAsg t g) u D, rt := r, bk := b, ct := c }) := h
theorem use_seqL {f u : TS} {D : Ends} {σ : L2.St} {H : Hp} (G : L2.St → Hp → Prop) (h : ∀ N : L2.St → Hp → Prop, (∀ σ' H', G σ' H' → N σ' H') → f { nx := N, rt := D.rt, bk := D.bk, ct := D.ct } σ H) (q : ∀ σ' H', G σ' H' → u D σ' H') : tSeq f u D σ H := h (u D) q
/-- a test that says b and changes nothing -/
theorem ifS_by {c : TT} {t u : TS} {D : Ends} {σ : L2.St} {H : Hp} (b : Bool) (hc : ∀ Q : Bool → Hp → Prop, Q b H → c σ H Q) (h : if b = true then t D σ H else u D σ H) : tIfS c t u D σ H := hc _ h
structure GOk (rs : List Str) (g : Gt) : Prop where
  nm : NmOk g.1
  lo : 2 ≤ g.2.1.length
  hi : g.2.1.length ≤ 4
  sub : ∀ y ∈ g.2.1, y ∈ rs
  nd : g.2.1.Nodup
  srt : sortedS g.2.1 = true
  kind : g.2.2 = "wrap" ∨ g.2.2 = "open"
structure MapOk (rs : List Str) (gs : List Gt) : Prop where
  reg : ∃ n, 1 ≤ n ∧ n ≤ 10 ∧ LabelsOf n rs
  lg : gs.length ≤ 11
  nd : (gs.map (·.1)).Nodup
  each : ∀ g ∈ gs, GOk rs g
/-- members of a gateway to be -/
def SomeOk (rs ms : List Str) : Prop := ms.length ≤ 4 ∧ ms.Nodup ∧ ∀ y ∈ ms, y ∈ rs
section
variable {P : Program} {w : World} {K : PySem.W.Frag} {mg : Str → Option Value} {base : Heap} {f fB fC fM fL fG : Addr} {fd fdB fdC fdM fdL fdG : FuncData}
/-- gateways(draws, regions, names, way) -/
def spGateways : Sp := fun vs H Q _ => ∃ (a rl nl : Addr) (b n m : Nat) (rs ns : List Str) (way : Int), vs = [.ref a, .ref rl, .ref nl, .int way] ∧ PotAt H a b ∧ b ≤ 80000 ∧ rl ≠ a ∧ nl ≠ a ∧ H rl = some (.lst (rs.map V.str)) ∧ H nl = some (.lst (ns.map V.str)) ∧ 1 ≤ n ∧ n ≤ 10 ∧ m ≤ 11 ∧ LabelsOf n rs ∧ LabelsOf m ns ∧
  ∀ (H' : Hp) (g : Addr) (as : List Addr) (gs : List Gt), But a H H' → PotAt H' a (b + 300) → H' g = some (.tup (as.map V.ref)) → Paired (GateAt H') as gs → gs.length ≤ 11 → (gs.map (·.1)).Nodup → (∀ g ∈ gs, GOk rs g) → Q (.ref g) H'
theorem ok_gateways (F : Fun K "_law_gateways" "_law_gateways" st_gateways f fd) (B : Blt mg) (F_below : Df P w K mg base "_law_below" 1 fB fdB ["_law_draws_here", "_law_many"] spDraw) (F_choice : Df P w K mg base "_law_choice" 2 fC fdC ["_law_draws_here", "_law_some"] (spPick K))
    (F_mixed : Df P w K mg base "_law_mixed" 2 fM fdM ["_law_draws_here", "_law_some"] (spMixed K)) : FnG P w K mg base CX0 3 f fd ["_law_draws_here", "_law_regions", "_law_names", "_law_way"] spGateways := by
  refine okG F sc_gateways (fun vs H Q E h => ?_) (fun cdv A outer s H vs Q E hgd hr h => ?_)
  · obtain ⟨_, _, _, _, _, _, _, _, _, rfl, _⟩ := h
    rfl
  · obtain ⟨a, rl, nl, b, n, m, rs, ns, way, rfl, ha, hb, rla, nla, hrl, hnl, n1, n10, m11, lo, ln, q⟩ := h
    refine ⟨_, (pss_cons (ps_par (by rfl) sc_gateways.nd (i := 4) (j := 5) rfl rfl (by decide) rfl rfl (pa_cons (pe_lst pa_nil) (pa_cons (pe_callG hgd F_mixed.G (hr.mono (by decide)) (by rfl) F_mixed.g F_mixed.kp F_mixed.bd pass0 (pa_cons (pv 0) (pa_cons (pv 1) pa_nil))) pa_nil)) (by rfl))
      (pss_cons (ps_for PassesOwn.never rfl (pi_enum (by rfl) B.enumerate (pa_cons (pv 2) pa_nil)) (pg_tup rfl (pgs_cons (pg_name (i := 6) sc_gateways.nd rfl (.inl rfl)) (pgs_cons (pg_name (i := 7) sc_gateways.nd rfl (.inl rfl)) pgs_nil)))
       (pss_cons (ps_if (PW.pt (pw_and (pt_cmpR op_eq (pv 3) pe_int (nomark _)) (pw_and (pt_cmpR op_lt (pv 6) (pe_callB call_len (by rfl) B.len (by decide +kernel) (pa_cons (pv 5) pa_nil)) (nomark _)) (pw_and1 (pt_cmpR op_gt (pe_callB call_len (by rfl) B.len (by decide +kernel) (pa_cons (pv 5) pa_nil)) pe_int (nomark _))))))
        (pss_one (ps_set (i := 8) sc_gateways.nd rfl (.inl rfl) (pe_lst (pa_cons (pe_ix ix_list (pv 5) (pv 6) (fun _ _ => rfl)) (pa_cons (pe_ix ix_list (pv 5) (pe_op op_mod (pe_op op_add (pv 6) pe_int) (pe_callB call_len (by rfl) B.len (by decide +kernel) (pa_cons (pv 5) pa_nil))) (fun _ _ => rfl)) pa_nil)))))
        (pss_one (ps_if (PW.pt (pw_and (pt_cmpR op_eq (pv 3) pe_int (nomark _)) (pw_and1 (pt_cmpR op_lt (pe_op op_add (pv 6) pe_int) (pe_callB call_len (by rfl) B.len (by decide +kernel) (pa_cons (pv 5) pa_nil)) (nomark _)))))
         (pss_one (ps_set (i := 8) sc_gateways.nd rfl (.inl rfl) (pe_lst (pa_cons (pe_ix ix_list (pv 5) (pe_op op_add (pv 6) pe_int) (fun _ _ => rfl)) (pa_cons (pe_ix ix_list (pv 5) (pe_callG hgd F_below.G (hr.mono (by decide)) (by rfl) F_below.g F_below.kp F_below.bd pass0 (pa_cons (pv 0) (pa_cons (pe_op op_add (pv 6) pe_int) pa_nil))) (fun _ _ => rfl)) pa_nil)))))
         (pss_one (ps_if (pt_cmpR op_eq (pv 3) pe_int (nomark _))
          (pss_one (ps_set (i := 8) sc_gateways.nd rfl (.inl rfl) (pe_lst pa_nil)))
          (pss_one (ps_set (i := 8) sc_gateways.nd rfl (.inl rfl) (pe_slice sl_list (pe_callG hgd F_mixed.G (hr.mono (by decide)) (by rfl) F_mixed.g F_mixed.kp F_mixed.bd pass0 (pa_cons (pv 0) (pa_cons (pv 1) pa_nil))) po_none (po_some (pe_op op_add pe_int (pe_callTy call_int1 (by rfl) B.int (by decide +kernel) (pa_cons (pe_cmpR op_eq (pe_callG hgd F_below.G (hr.mono (by decide)) (by rfl) F_below.g F_below.kp F_below.bd pass0 (pa_cons (pv 0) (pa_cons pe_int pa_nil))) pe_int (nomark _)) pa_nil))))))))))))
       (pss_one (ps_if (pt_cmpR op_gt (pe_callB call_len (by rfl) B.len (by decide +kernel) (pa_cons (pv 8) pa_nil)) pe_int (nomark _))
        (pss_one (ps_expr (pe_bm PySem.F.plainAttrs_list PySem.F.slot_list_append PySem.F.type_list_append mt_append (pv 4) (pa_cons (pe_tup (pa_cons (pv 7) (pa_cons (pe_callTy call_tuple_of (by rfl) B.tuple (by decide +kernel) (pa_cons (pe_callB cr_sortedS (by rfl) B.sorted (by decide +kernel) (pa_cons (pv 8) pa_nil)) pa_nil)) (pa_cons (pe_callG hgd F_choice.G (hr.mono (by decide)) (by rfl) F_choice.g F_choice.kp F_choice.bd pass0 (pa_cons (pv 0) (pa_cons (pe_lst (pa_cons pe_str (pa_cons pe_str (pa_cons pe_str (pa_cons pe_str pa_nil))))) pa_nil))) pa_nil)))) pa_nil))))
        pss_nil))))
      (pss_one (ps_ret (pe_callTy call_tuple_of (by rfl) B.tuple (by decide +kernel) (pa_cons (pv 4) pa_nil)))))), ?_⟩
    have lrs := lo.len
    have lns := ln.len
    -- found, ring
    refine ⟨(by show 0 ≤ sizeLine; decide), fun Fa nF => ?_⟩
    have z0 := same_new nF (o := .lst [])
    have Fa_a : Fa ≠ a := Ne.symm (ha.ne_new nF)
    have hF0 : upd H Fa (.lst []) Fa = some (.lst []) := upd_same
    refine ⟨_, rfl, _, rfl, a, rl, b, rs, rfl, ha.same z0, by omega, .inl (SqL.of (z0 _ _ hrl)), by omega, fun s hs => (lo.nm s hs).ok, fun H1 ri rg b1 p1 nri hri pm => ⟨_, _, rfl, ?_⟩⟩
    have lrg := pm.length_eq
    have bt1 := (But.of z0).trans b1
    have hF1 := b1 _ _ Fa_a hF0
    have ria : ri ≠ a := fun e => by
      obtain ⟨_, _, _, e1, _⟩ := p1
      rw [e, e1] at hri
      injection hri with hri
      injection hri with hri
      match rg, hri with
      | [], h => cases h
      | x :: r, h => cases h
    have riF : ri ≠ Fa := Ne.symm (ne_of_none hF0 nri)
    have bt1F : H Fa = none := nF
    -- for index, name in enumerate(names)
    have hnl1 := bt1 _ _ nla hnl
    have hrl1 := bt1 _ _ rla hrl
    refine ⟨_, rfl, nl, _, rfl, SqL.of hnl1, for_it (walk_enum (xs := ns.map V.str)) (fun j σ H' => ∃ (o6 o7 o8 : Option V) (as : List Addr) (gs : List Gt), σ = [some (.ref a), some (.ref rl), some (.ref nl), some (.int way), some (.ref Fa), some (.ref ri), o6, o7, o8] ∧ But a H H' ∧ PotAt H' a (b + 10 + 20 * j) ∧ H' ri = some (.lst (rg.map V.str)) ∧ H' Fa = some (.lst (as.map V.ref)) ∧ Paired (GateAt H') as gs ∧ (gs.map (·.1)).Sublist (ns.take j) ∧ ∀ g ∈ gs, GOk rs g)
      ⟨none, none, none, [], [], rfl, bt1, p1.more (by omega), hri, hF1, .nil, by simp, fun g hg => by cases hg⟩ (fun j σ H' _ ⟨_, _, _, _, _, _, bt, _⟩ => SqL.of (bt _ _ nla hnl)) (fun j v σ H3 H4 hj hP hY => ?_) (fun σ H3 hP => ?_)⟩
    · obtain ⟨o6, o7, o8, as, gs, rfl, bt3, p3, hri3, hF3, pg, sl, gok⟩ := hP
      obtain ⟨T, x', y', rfl, nT, rfl, e1, e2⟩ := hY
      cases e1
      have e2 : (ns.map V.str)[j]? = some y' := e2
      rw [List.getElem?_map] at e2
      obtain ⟨nm, hnm, rfl⟩ := Option.map_eq_some_iff.mp e2
      have hjn : j < ns.length := (List.getElem?_eq_some_iff.mp hnm).1
      have zT := same_new nT (o := .tup [.int ((j : Nat) : Int), .str nm])
      have hT : upd H3 T (.tup [.int ((j : Nat) : Int), .str nm]) T = some (.tup [.int ((j : Nat) : Int), .str nm]) := upd_same
      have bt4 := bt3.trans (.of zT)
      have p4 := p3.same zT
      have hri4 := zT _ _ hri3
      have hF4 := zT _ _ hF3
      replace pg := Paired.mapP pg fun _ _ z => z.same zT
      generalize upd H3 T (.tup [.int ((j : Nat) : Int), .str nm]) = H4 at hT bt4 p4 hri4 hF4 pg ⊢
      clear zT nT bt3 p3 hri3 hF3
      refine ⟨T, _, rfl, SqT.of hT, rfl, .int ((j : Nat) : Int), _, rfl, .str nm, [], rfl, rfl, ?_⟩
      have lrgm : (rg.map V.str).length = rs.length := by rw [List.length_map, lrg]
      have rnd : rg.Nodup := pm.nodup_iff.mpr lo.nd
      have rin : ∀ y ∈ rg, y ∈ rs := fun y hy => pm.mem_iff.mp hy
      have two : ∀ (i k : Nat) (hi : i < rg.length) (hk : k < rg.length), i ≠ k → SomeOk rs [rg[i], rg[k]] := fun i k hi hk ne => by
        refine ⟨by show 2 ≤ 4; decide, ?_, fun y hy => ?_⟩
        · have : rg[i] ≠ rg[k] := fun e => ne ((List.getElem_inj rnd).mp e)
          simp [this]
        · simp only [List.mem_cons, List.not_mem_nil, or_false] at hy
          rcases hy with rfl | rfl
          · exact rin _ (List.getElem_mem _)
          · exact rin _ (List.getElem_mem _)
      have ixr : ∀ (i : Nat) (hi : i < rg.length) (x : Int), x = (i : Int) → atI (rg.map V.str) x = some (.str rg[i]) := fun i hi x e => by
        rw [e]
        exact atI_nat (j := i) (by rw [List.getElem?_map, List.getElem?_eq_getElem hi]; rfl)
      refine use_seqL (fun σ' H' => ∃ (sl : Addr) (ms : List Str), σ' = [some (.ref a), some (.ref rl), some (.ref nl), some (.int way), some (.ref Fa), some (.ref ri), some (.int ((j : Nat) : Int)), some (.str nm), some (.ref sl)] ∧ But a H4 H' ∧ PotAt H' a (b + 10 + 20 * j + 12) ∧ H' sl = some (.lst (ms.map V.str)) ∧ SomeOk rs ms) (fun N hN => ?_) fun σ' H5 hG => ?_
      · have lens : ∀ (H' : Hp), H' ri = some (.lst (rg.map V.str)) → LenV K (.ref ri) H' (rg.map V.str).length := fun H' h => .inl ⟨_, SqL.of h, rfl⟩
        refine ifS_by (decide (way = 0) && (decide (j < rg.length) && decide (1 < rg.length))) (fun Q hQ => ?_) ?_
        · refine ⟨_, rfl, rfl, _, rfl, ?_⟩
          by_cases w0 : way = 0
          rotate_left
          · refine ifF (decide_eq_false fun z => w0 (V.int.inj z)) ?_
            rw [decide_eq_false w0] at hQ
            exact hQ
          refine ifT (decide_eq_true (by rw [w0])) ⟨_, rfl, _, rfl, _, (rg.map V.str).length, rfl, lens _ hri4, (j : Int), ((rg.map V.str).length : Int), rfl, rfl, _, rfl, ?_⟩
          by_cases w1 : j < rg.length
          rotate_left
          · refine ifF (decide_eq_false (by rw [List.length_map]; omega)) ?_
            rw [decide_eq_false w1, Bool.false_and, Bool.and_false] at hQ
            exact hQ
          refine ifT (decide_eq_true (by rw [List.length_map]; omega)) ⟨_, rfl, _, (rg.map V.str).length, rfl, lens _ hri4, ((rg.map V.str).length : Int), 1, rfl, rfl, _, rfl, ?_⟩
          rw [decide_eq_true w0, decide_eq_true w1, Bool.true_and, Bool.true_and] at hQ
          by_cases w2 : 1 < rg.length
          · rw [decide_eq_true w2] at hQ
            rw [decide_eq_true (show (1 : Int) < ((rg.map V.str).length : Int) by rw [List.length_map]; omega)]
            exact hQ
          · rw [decide_eq_false w2] at hQ
            rw [decide_eq_false (show ¬ (1 : Int) < ((rg.map V.str).length : Int) by rw [List.length_map]; omega)]
            exact hQ
        have q4 : ∀ (L : Addr) (ms : List Str) (H' : Hp), Same H4 H' → H' L = some (.lst (ms.map V.str)) → SomeOk rs ms → N [some (.ref a), some (.ref rl), some (.ref nl), some (.int way), some (.ref Fa), some (.ref ri), some (.int ((j : Nat) : Int)), some (.str nm), some (.ref L)] H' := fun L ms H' s' h k => hN _ _ ⟨L, ms, rfl, .of s', (p4.same s').more (by omega), h, k⟩
        cases cb : (decide (way = 0) && (decide (j < rg.length) && decide (1 < rg.length))) with
        | true =>
          rw [if_pos rfl]
          rw [Bool.and_eq_true, Bool.and_eq_true, decide_eq_true_iff, decide_eq_true_iff, decide_eq_true_iff] at cb
          obtain ⟨w0, w1, w2⟩ := cb
          have hm : (((j : Nat) : Int) + 1) % ((rg.map V.str).length : Int) = (((j + 1) % rg.length : Nat) : Int) := by
            rw [List.length_map, Int.natCast_emod]
            rfl
          have hm2 : (j + 1) % rg.length < rg.length := Nat.mod_lt _ (by omega)
          have hne : j ≠ (j + 1) % rg.length := by
            by_cases y : j + 1 < rg.length
            · rw [Nat.mod_eq_of_lt y]
              omega
            · have : j + 1 = rg.length := by omega
              rw [this, Nat.mod_self]
              omega
          refine ⟨_, rfl, _, rfl, ri, _, ((j : Nat) : Int), .str rg[j], rfl, rfl, SqL.of hri4, ixr j w1 _ rfl, ?_⟩
          refine ⟨_, rfl, _, rfl, ((j : Nat) : Int), 1, rfl, rfl, _, rfl, _, (rg.map V.str).length, rfl, lens _ hri4, ((j : Nat) : Int) + 1, ((rg.map V.str).length : Int), rfl, rfl, by rw [List.length_map]; omega, ri, _, _, .str rg[(j + 1) % rg.length], rfl, rfl, SqL.of hri4, ixr _ hm2 _ hm, (by show 2 ≤ sizeLine; decide), fun l nl => ?_⟩
          exact q4 l [rg[j], rg[(j + 1) % rg.length]] _ (same_new nl) upd_same (two j _ w1 hm2 hne)
        | false =>
          rw [if_neg Bool.false_ne_true]
          refine ifS_by (decide (way = 1) && decide (j + 1 < rg.length)) (fun Q hQ => ?_) ?_
          · refine ⟨_, rfl, rfl, _, rfl, ?_⟩
            by_cases w0 : way = 1
            rotate_left
            · refine ifF (decide_eq_false fun z => w0 (V.int.inj z)) ?_
              rw [decide_eq_false w0] at hQ
              exact hQ
            refine ifT (decide_eq_true (by rw [w0])) ⟨_, rfl, ((j : Nat) : Int), 1, rfl, rfl, _, rfl, _, (rg.map V.str).length, rfl, lens _ hri4, ((j : Nat) : Int) + 1, ((rg.map V.str).length : Int), rfl, rfl, _, rfl, ?_⟩
            rw [decide_eq_true w0, Bool.true_and] at hQ
            by_cases w2 : j + 1 < rg.length
            · rw [decide_eq_true w2] at hQ
              rw [decide_eq_true (show ((j : Nat) : Int) + 1 < ((rg.map V.str).length : Int) by rw [List.length_map]; omega)]
              exact hQ
            · rw [decide_eq_false w2] at hQ
              rw [decide_eq_false (show ¬ ((j : Nat) : Int) + 1 < ((rg.map V.str).length : Int) by rw [List.length_map]; omega)]
              exact hQ
          cases cb2 : (decide (way = 1) && decide (j + 1 < rg.length)) with
          | true =>
            rw [if_pos rfl]
            rw [Bool.and_eq_true, decide_eq_true_iff, decide_eq_true_iff] at cb2
            obtain ⟨w0, w1⟩ := cb2
            refine ⟨_, rfl, _, rfl, ((j : Nat) : Int), 1, rfl, rfl, ri, _, ((j : Nat) : Int) + 1, .str (rg[j + 1]'w1), rfl, rfl, SqL.of hri4, ixr (j + 1) w1 _ rfl, ?_⟩
            refine ⟨_, rfl, _, rfl, _, rfl, ((j : Nat) : Int), 1, rfl, rfl, a, _, ((j : Nat) : Int) + 1, rfl, p4, by omega, by omega, by have h9 : (100 : Int) ≤ (10 : Int) ^ 50 := (by decide); omega, fun H5 d b5 p5 d0 d1 => ?_⟩
            obtain ⟨k, rfl⟩ := Int.eq_ofNat_of_zero_le d0
            have hri5 := b5 _ _ ria hri4
            refine ⟨ri, _, ((k : Nat) : Int), .str (rg[k]'(by omega)), rfl, rfl, SqL.of hri5, ixr k (by omega) _ rfl, (by show 2 ≤ sizeLine; decide), fun l nl => ?_⟩
            have z5 := same_new nl (o := .lst [.str (rg[j + 1]'w1), .str (rg[k]'(by omega))])
            exact hN _ _ ⟨l, [rg[j + 1]'w1, rg[k]'(by omega)], rfl, b5.trans (.of z5), (p5.same z5).more (by omega), upd_same, two (j + 1) k w1 (by omega) (by omega)⟩
          | false =>
            rw [if_neg Bool.false_ne_true]
            refine ⟨_, rfl, rfl, _, rfl, ?_⟩
            by_cases w0 : way = 1
            · refine ifT (decide_eq_true (by rw [w0])) ⟨(by show 0 ≤ sizeLine; decide), fun l nl => q4 l [] _ (same_new nl) upd_same ⟨by show 0 ≤ 4; decide, List.nodup_nil, fun y hy => by cases hy⟩⟩
            · refine ifF (decide_eq_false fun z => w0 (V.int.inj z)) ?_
              have hrl4 := bt4 _ _ rla hrl
              refine ⟨_, rfl, _, rfl, a, rl, _, rs, rfl, p4, by omega, .inl (SqL.of hrl4), by omega, fun s hs => (lo.nm s hs).ok, fun H5 mo ys b5 p5 nmo hmo pmy => ?_⟩
              have ymo : mo ≠ a := fun e => by
                obtain ⟨_, _, _, e1, _⟩ := p5
                rw [e, e1] at hmo
                injection hmo with hmo
                injection hmo with hmo
                match ys, hmo with
                | [], h => cases h
                | x :: r, h => cases h
              refine ⟨_, rfl, a, _, 4, rfl, p5, by omega, by decide, by decide, fun H6 d b6 p6 d0 d1 => ⟨rfl, .inr ⟨_, rfl, 2, _, rfl, rfl, ?_⟩⟩⟩
              have hmo6 := b6 _ _ ymo hmo
              obtain ⟨k, hk, hk2⟩ : ∃ k : Nat, (2 : Int) + (if decide (V.int d = V.int 0) = true then (1 : Int) else 0) = (k : Int) ∧ k ≤ 3 := by
                by_cases y : d = 0
                · exact ⟨3, by rw [if_pos (decide_eq_true (congrArg V.int y))]; rfl, by omega⟩
                · exact ⟨2, by rw [if_neg (by rw [decide_eq_false fun z => y (V.int.inj z)]; decide)]; rfl, by omega⟩
              have lys := pmy.length_eq
              refine ⟨(k : Int), congrArg V.int hk, mo, _, rfl, SqL.of hmo6, fun oc noc => ?_⟩
              have zo := same_new noc (o := .lst (cutV (ys.map V.str) none (some (k : Int))))
              have hoc : upd H6 oc (.lst (cutV (ys.map V.str) none (some (k : Int)))) oc = some (.lst ((ys.take k).map V.str)) := by
                rw [upd_same]
                unfold cutV
                rw [HT.sIx_none, HT.sIx_nat, List.drop_zero, Nat.sub_zero, List.map_take]
                congr 2
                by_cases y : k ≤ (ys.map V.str).length
                · rw [Nat.min_eq_left y]
                · rw [Nat.min_eq_right (by omega), List.take_length, List.take_of_length_le (by omega)]
              exact hN _ _ ⟨oc, ys.take k, rfl, b5.trans (b6.trans (.of zo)), (p6.same zo).more (by omega), hoc, by rw [List.length_take]; omega, (pmy.nodup_iff.mpr lo.nd).sublist (List.take_sublist _ _), fun y hy => pmy.mem_iff.mp (List.mem_of_mem_take hy)⟩
      · obtain ⟨sl', ms, rfl, b5, p5, hsl, ml, mnd, msub⟩ := hG
        have bt5 := bt4.trans b5
        have hri5 := b5 _ _ ria hri4
        have hF5 := b5 _ _ Fa_a hF4
        have pg5 := Paired.mapP pg fun x y (z : GateAt H4 x y) => z.but p4 b5
        have lpg := Paired.length pg5
        have lgs : gs.length ≤ j := by
          have := sl.length_le
          rw [List.length_map, List.length_take] at this
          omega
        have slj : (ns.take (j + 1)) = ns.take j ++ [nm] := by
          rw [List.take_add_one, hnm]
          rfl
        refine ⟨_, rfl, _, (ms.map V.str).length, rfl, .inl ⟨_, SqL.of hsl, rfl⟩, ((ms.map V.str).length : Int), 1, rfl, rfl, _, rfl, ?_⟩
        by_cases c1 : 1 < ms.length
        rotate_left
        · refine ifF (decide_eq_false (by rw [List.length_map]; omega)) ⟨_, _, _, as, gs, rfl, bt5, p5.more (by omega), hri5, hF5, pg5, ?_, gok⟩
          rw [slj]
          exact sl.trans (List.sublist_append_left _ _)
        refine ifT (decide_eq_true (by rw [List.length_map]; omega)) ?_
        refine ⟨_, rfl, .inl ⟨rfl, _, SqL.of hF5⟩, _, rfl, _, rfl, sl', ms, rfl, SqL.of hsl, by omega, fun ws c7 pm7 st7 n7 => ?_⟩
        have z7 := same_new n7 (o := .lst (ws.map V.str))
        refine ⟨c7, _, rfl, .inl ⟨SqL.of upd_same, fun t8 n8 => ?_⟩⟩
        have z8 := same_new n8 (o := .tup (ws.map V.str))
        have ht8 : upd (upd H5 c7 (.lst (ws.map V.str))) t8 (.tup (ws.map V.str)) t8 = some (.tup (ws.map V.str)) := upd_same
        have zz := z7.trans z8
        have bt6 := bt5.trans (.of zz)
        have p6 := p5.same zz
        have hri6 := zz _ _ hri5
        have hF6 := zz _ _ hF5
        have pg6 := Paired.mapP pg5 fun _ _ z => z.same zz
        generalize upd (upd H5 c7 (.lst (ws.map V.str))) t8 (.tup (ws.map V.str)) = H6 at ht8 bt6 p6 hri6 hF6 pg6 ⊢
        clear z7 z8 zz n7 n8 pg5 hF5 hri5 p5 bt5 b5
        refine ⟨_, rfl, (by show 4 ≤ sizeLine; decide), fun l9 n9 => ?_⟩
        have z9 := same_new n9 (o := .lst [.str "wrap", .str "wrap", .str "wrap", .str "open"])
        refine .inl ⟨a, l9, _, _, rfl, p6.same z9, by omega, Ne.symm (p6.ne_new n9), .inl (SqL.of upd_same), by show 0 < 4; decide, by show 4 ≤ 20000; decide, fun H7 kv b7 p7 hkv => ?_⟩
        obtain ⟨kd, rfl, hkd⟩ : ∃ kd : Str, kv = .str kd ∧ (kd = "wrap" ∨ kd = "open") := by
          simp only [List.mem_cons, List.not_mem_nil, or_false] at hkv
          rcases hkv with rfl | rfl | rfl | rfl
          · exact ⟨_, rfl, .inl rfl⟩
          · exact ⟨_, rfl, .inl rfl⟩
          · exact ⟨_, rfl, .inl rfl⟩
          · exact ⟨_, rfl, .inr rfl⟩
        have bt7 := bt6.trans ((But.of z9).trans b7)
        have ht7 := b7 _ _ (p6.ne_tup ht8) (z9 _ _ ht8)
        have hri7 := b7 _ _ ria (z9 _ _ hri6)
        have hF7 := b7 _ _ Fa_a (z9 _ _ hF6)
        have pg7 := Paired.mapP pg6 fun x y (z : GateAt H6 x y) => (z.same z9).but (p6.same z9) b7
        refine ⟨(by show 3 ≤ sizeLine; decide), fun t n => ?_⟩
        have zt := same_new n (o := .tup [.str nm, .ref t8, .str kd])
        have hF8 := zt _ _ hF7
        have htt : upd H7 t (.tup [.str nm, .ref t8, .str kd]) t = some (.tup [.str nm, .ref t8, .str kd]) := upd_same
        have ht9 := zt _ _ ht7
        have pg8 := Paired.mapP pg7 fun _ _ z => z.same zt
        have keepT : ∀ (c : Addr) (xs : List V) (o : HO), upd H7 t (.tup [.str nm, .ref t8, .str kd]) c = some (.tup xs) → upd (upd H7 t (.tup [.str nm, .ref t8, .str kd])) Fa o c = some (.tup xs) := fun c xs o e => by
          rw [upd_ne (ne_of e hF8 (by intro z; cases z))]
          exact e
        have lw := pm7.length_eq
        refine ⟨Fa, _, _, rfl, rfl, hF8, by rw [List.length_map]; exact Nat.lt_of_le_of_lt (show as.length ≤ 100 by omega) (by decide), ?_⟩
        refine ⟨_, _, _, as ++ [t], gs ++ [(nm, ws, kd)], rfl, fun c o nc ec => ?_, WT.pot_upd ((p7.same zt).more (by omega)) (Ne.symm Fa_a), ?_, by rw [upd_same, List.map_append]; rfl, pair_snoc (Paired.mapP pg8 fun _ _ ⟨i, k1, k2⟩ => ⟨i, keepT _ _ _ k1, keepT _ _ _ k2⟩) ⟨t8, keepT _ _ _ htt, keepT _ _ _ ht9⟩, ?_, fun g hg => ?_⟩
        · rw [upd_ne (ne_of_none ec nF)]
          exact zt _ _ (bt7 _ _ nc ec)
        · rw [upd_ne riF]
          exact zt _ _ hri7
        · rw [slj, List.map_append]
          exact sl.append (List.Sublist.refl _)
        · rcases List.mem_append.mp hg with hg | hg
          · exact gok g hg
          · rw [List.mem_singleton.mp hg]
            exact ⟨ln.nm _ (List.mem_of_getElem? hnm), by show 2 ≤ ws.length; omega, by show ws.length ≤ 4; omega, fun y hy => msub y (pm7.mem_iff.mp hy), pm7.nodup_iff.mpr mnd, st7, hkd⟩
    · obtain ⟨o6, o7, o8, as, gs, rfl, bt3, p3, hri3, hF3, pg, sl, gok⟩ := hP
      have lgs : gs.length ≤ 11 := by
        have := sl.length_le
        rw [List.length_map, List.length_take] at this
        omega
      have lj : (ns.map V.str).length ≤ 11 := by
        rw [List.length_map]
        omega
      refine ⟨_, rfl, Fa, _, rfl, .inl ⟨SqL.of hF3, fun t1 n1 => ?_⟩⟩
      have y1 := same_new n1 (o := .tup (as.map V.ref))
      exact q _ t1 as gs (bt3.trans (.of y1)) ((p3.same y1).more (by omega)) upd_same (Paired.mapP pg fun _ _ z => z.same y1) lgs (ln.nd.sublist (sl.trans (List.take_sublist _ _))) gok
/-- world(draws, most) -/
def spWorld : Sp := fun vs H Q _ => ∃ (a : Addr) (b : Nat), vs = [.ref a, .int 10] ∧ PotAt H a b ∧ b ≤ 70000 ∧
  ∀ (H' : Hp) (p r g : Addr) (as : List Addr) (rs : List Str) (gs : List Gt), But a H H' → PotAt H' a (b + 400) → WorldAt H' p r g as rs gs → MapOk rs gs → Q (.ref p) H'
theorem ok_world (F : Fun K "_law_world" "_law_world" st_world f fd) (B : Blt mg) (F_below : Df P w K mg base "_law_below" 1 fB fdB ["_law_draws_here", "_law_many"] spDraw) (F_labels : Df P w K mg base "_law_labels" 3 fL fdL ["_law_draws_here", "_law_many"] spLabels)
    (F_gateways : Df P w K mg base "_law_gateways" 3 fG fdG ["_law_draws_here", "_law_regions", "_law_names", "_law_way"] spGateways) : FnG P w K mg base CX0 4 f fd ["_law_draws_here", "_law_most"] spWorld := by
  refine okG F sc_world (fun vs H Q E h => ?_) (fun cdv A outer s H vs Q E hgd hr h => ?_)
  · obtain ⟨_, _, rfl, _⟩ := h
    rfl
  · obtain ⟨a, b, rfl, ha, hb, q⟩ := h
    refine ⟨_, (pss_cons (ps_par (by rfl) sc_world.nd (i := 2) (j := 3) rfl rfl (by decide) rfl rfl (pa_cons (pe_callG hgd F_below.G (hr.mono (by decide)) (by rfl) F_below.g F_below.kp F_below.bd pass0 (pa_cons (pv 0) (pa_cons pe_int pa_nil))) (pa_cons (pe_op op_add pe_int (pe_callG hgd F_below.G (hr.mono (by decide)) (by rfl) F_below.g F_below.kp F_below.bd pass0 (pa_cons (pv 0) (pa_cons (pv 1) pa_nil)))) pa_nil)) (by rfl))
      (pss_cons (ps_set (i := 4) sc_world.nd rfl (.inl rfl) (pe_callG hgd F_labels.G (hr.mono (by decide)) (by rfl) F_labels.g F_labels.kp F_labels.bd pass0 (pa_cons (pv 0) (pa_cons (pv 3) pa_nil))))
      (pss_cons (ps_set (i := 5) sc_world.nd rfl (.inl rfl) (pe_callG hgd F_labels.G (hr.mono (by decide)) (by rfl) F_labels.g F_labels.kp F_labels.bd pass0 (pa_cons (pv 0) (pa_cons (pe_ifExp (pt_cmpR op_eq (pv 2) pe_int (nomark _)) (pv 3) (pe_callG hgd F_below.G (hr.mono (by decide)) (by rfl) F_below.g F_below.kp F_below.bd pass0 (pa_cons (pv 0) (pa_cons (pe_callB (call_min2 rfl) (by rfl) B.min (by decide +kernel) (pa_cons pe_int (pa_cons (pe_op op_add (pv 1) pe_int) pa_nil))) pa_nil)))) pa_nil))))
      (pss_one (ps_ret (pe_tup (pa_cons (pe_callTy call_tuple_of (by rfl) B.tuple (by decide +kernel) (pa_cons (pv 4) pa_nil)) (pa_cons (pe_callG hgd F_gateways.G (hr.mono (by decide)) (by rfl) F_gateways.g F_gateways.kp F_gateways.bd pass0 (pa_cons (pv 0) (pa_cons (pv 4) (pa_cons (pv 5) (pa_cons (pv 2) pa_nil))))) pa_nil)))))))), ?_⟩
    refine ⟨_, rfl, a, b, 3, rfl, ha, by omega, by decide, by decide, fun H1 way b1 p1 d0 d1 => ?_⟩
    refine ⟨_, rfl, _, rfl, a, _, 10, rfl, p1, by omega, by decide, by decide, fun H2 m b2 p2 m0 m1 => ⟨1, m, rfl, rfl, _, _, rfl, ?_⟩⟩
    obtain ⟨k, rfl⟩ := Int.eq_ofNat_of_zero_le m0
    have bt2 := b1.trans b2
    refine ⟨_, rfl, _, rfl, a, _, 1 + k, rfl, p2, by omega, by omega, fun H3 rl rs b3 p3 _ rla hrl lo => ?_⟩
    have bt3 := bt2.trans b3
    -- names
    refine gn_asg (te_useP (fun x H5 => ∃ (m : Nat) (nl : Addr) (ns : List Str), x = .ref nl ∧ m ≤ 11 ∧ But a H3 H5 ∧ PotAt H5 a (b + 40) ∧ nl ≠ a ∧ H5 nl = some (.lst (ns.map V.str)) ∧ LabelsOf m ns) (fun kk hk => ?_) fun x H5 hx => ?_)
    · have go : ∀ (m : Nat) (H4 : Hp), m ≤ 11 → But a H3 H4 → PotAt H4 a (b + 20) → spLabels [.ref a, .int m] H4 kk E0 := fun m H4 hm bt4 p4 =>
        ⟨a, _, m, rfl, p4, by omega, by omega, fun H5 nl ns b5 p5 _ nla hnl ln => hk _ _ ⟨m, nl, ns, rfl, hm, bt4.trans b5, p5.more (by omega), nla, hnl, ln⟩⟩
      refine ⟨_, rfl, _, rfl, rfl, _, rfl, ?_⟩
      by_cases w0 : way = 0
      · exact ifT (decide_eq_true (by rw [w0])) ⟨_, rfl, go (1 + k) H3 (by omega) (But.refl _ _) (p3.more (by omega))⟩
      · refine ifF (decide_eq_false fun z => w0 (V.int.inj z)) ⟨_, rfl, _, rfl, 10, 2, rfl, rfl, 11, 12, rfl, a, _, 11, rfl, p3, by omega, by decide, by decide, fun H4 m b4 p4 m0 m1 => ?_⟩
        obtain ⟨m, rfl⟩ := Int.eq_ofNat_of_zero_le m0
        exact go m H4 (by omega) b4 (p4.more (by omega))
    obtain ⟨m, nl, ns, rfl, m11, b5, p5, nla, hnl, ln⟩ := hx
    have hrl5 := b5 _ _ rla hrl
    refine ⟨_, rfl, rl, _, rfl, .inl ⟨SqL.of hrl5, fun t1 n1 => ?_⟩⟩
    have z1 := same_new n1 (o := .tup (rs.map V.str))
    have ht1 : upd H5 t1 (.tup (rs.map V.str)) t1 = some (.tup (rs.map V.str)) := upd_same
    have p6 := p5.same z1
    refine ⟨_, rfl, _, rfl, _, rfl, _, rfl, a, rl, nl, _, 1 + k, m, rs, ns, way, rfl, p6, by omega, rla, nla, z1 _ _ hrl5, z1 _ _ hnl, by omega, by omega, m11, lo, ln, fun H7 g as gs b7 p7 hg pg lg nd gok => ⟨(by show 2 ≤ sizeLine; decide), fun t2 n2 => ?_⟩⟩
    have z2 := same_new n2 (o := .tup [.ref t1, .ref g])
    have ht7 := b7 _ _ (p6.ne_tup ht1) ht1
    exact q _ t2 t1 g as rs gs (bt3.trans (b5.trans ((But.of z1).trans (b7.trans (.of z2))))) ((p7.same z2).more (by omega)) ⟨upd_same, z2 _ _ ht7, z2 _ _ hg, Paired.mapP pg fun _ _ z => z.same z2⟩ ⟨⟨1 + k, by omega, by omega, lo⟩, lg, nd, gok⟩
end
end K35

set_option Elab.async false
set_option linter.all false
set_option maxRecDepth 100000
set_option maxHeartbeats 4000000
/-! texts that ascend; gateways sorted as data. -/
namespace WT
open PySem PySem.Spec PyProof.Rows L2 PySem.W
/-- one text before another -/
def Bef (x y : Str) : Prop := x.cps.toList < y.cps.toList
theorem Bef.trans {x y z : Str} (h : Bef x y) (k : Bef y z) : Bef x z := List.lt_trans h k
theorem Bef.ne {x y : Str} (h : Bef x y) : x ≠ y := fun e => by
  subst e
  exact List.lt_irrefl _ h
theorem bef_of {x y : Str} (h : ¬ Bef y x) (ne : x ≠ y) : Bef x y := by
  rcases str_tri x y with h1 | h1 | h1
  · exact h1
  · exact absurd h1 ne
  · exact absurd h1 h
/-- ascending -/
def AscS (ys : List Str) : Prop := ys.Pairwise Bef
theorem AscS.nodup {ys : List Str} (h : AscS ys) : ys.Nodup := List.Pairwise.imp (fun {a b} k => k.ne) h
/-- each before the next -/
def AdjS (ys : List Str) : Prop := ∀ (i : Nat) (x y : Str), ys[i]? = some x → ys[i + 1]? = some y → Bef x y
theorem adj_asc : ∀ {ys : List Str}, AdjS ys ↔ AscS ys
  | [] => ⟨fun _ => List.Pairwise.nil, fun _ i x y h => by simp at h⟩
  | [a] => ⟨fun _ => by unfold AscS; simp, fun _ i x y _ h => by simp at h⟩
  | a :: b :: ys => by
    have ih := adj_asc (ys := b :: ys)
    constructor
    · intro h
      have t : AdjS (b :: ys) := fun i x y h1 h2 => h (i + 1) x y h1 h2
      have ab : Bef a b := h 0 a b rfl rfl
      have k := ih.mp t
      refine List.pairwise_cons.mpr ⟨fun y hy => ?_, k⟩
      rcases List.mem_cons.mp hy with rfl | hy
      · exact ab
      · exact ab.trans ((List.pairwise_cons.mp k).1 y hy)
    · intro h i x y h1 h2
      obtain ⟨k1, k2⟩ := List.pairwise_cons.mp h
      cases i with
      | zero =>
        cases h1
        exact k1 y (List.mem_of_getElem? h2)
      | succ i => exact ih.mpr k2 i x y h1 h2
theorem rise_adj : ∀ {ys : List Str} {p : Str}, risingS p ys = true → (p :: ys).Nodup → AscS (p :: ys)
  | [], p, _, _ => by
    unfold AscS
    simp
  | y :: ys, p, h, nd => by
    unfold risingS at h
    rw [Bool.and_eq_true] at h
    obtain ⟨n1, n2⟩ := List.nodup_cons.mp nd
    have k := rise_adj h.2 n2
    have pb : Bef p y := bef_of (fun z => by
      have := h.1
      rw [ltCps_eq, decide_eq_true (show y.cps.toList < p.cps.toList from z)] at this
      cases this) fun e => n1 (by rw [e]; exact List.mem_cons_self)
    refine List.pairwise_cons.mpr ⟨fun z hz => ?_, k⟩
    rcases List.mem_cons.mp hz with rfl | hz
    · exact pb
    · exact pb.trans ((List.pairwise_cons.mp k).1 z hz)
theorem asc_of {ys : List Str} (h : sortedS ys = true) (nd : ys.Nodup) : AscS ys := by
  cases ys with
  | nil => exact List.Pairwise.nil
  | cons y ys => exact rise_adj h nd
theorem AscS.at {ys : List Str} (h : AscS ys) {i j : Nat} {x y : Str} (hi : ys[i]? = some x) (hj : ys[j]? = some y) (lt : i < j) : Bef x y := by
  obtain ⟨h1, e1⟩ := List.getElem?_eq_some_iff.mp hi
  obtain ⟨h2, e2⟩ := List.getElem?_eq_some_iff.mp hj
  rw [← e1, ← e2]
  exact List.pairwise_iff_getElem.mp h i j h1 h2 lt
/-- the order of gateways whose names differ -/
theorem gate_lt {g g' : Gt} (ne : g.1 ≠ g'.1) (h : dataLe false (fun b : PyData => b) (gateD g) (gateD g') = true) : Bef g.1 g'.1 := by
  have h : (!dataLt (gateD g') (gateD g)) = true := h
  rw [Bool.not_eq_true'] at h
  have e : dataLt (gateD g') (gateD g) = decide (g'.1.cps.toList < g.1.cps.toList) := by
    show dataLt (.tuple [.str g'.1, .tuple (g'.2.1.map PyData.str), .str g'.2.2]) (.tuple [.str g.1, .tuple (g.2.1.map PyData.str), .str g.2.2]) = _
    rw [dataLt_tuple, dataLt_cons (by simp [alike])]
    have ee : PyData.eqv (.str g'.1) (.str g.1) = false := by
      rw [PyData.eqv]
      exact beq_eq_false_iff_ne.mpr fun z => ne z.symm
    rw [ee, if_neg Bool.false_ne_true, dataLt_str]
  rw [e] at h
  exact bef_of (fun z => absurd (show g'.1.cps.toList < g.1.cps.toList from z) (of_decide_eq_false h)) ne
theorem gates_asc {ks : List (Addr × Gt)} {l : List (V × PyData)} (e : l.mergeSort (dataLe false fun b : V × PyData => b.2) = ks.map fun p : Addr × Gt => (V.ref p.1, gateD p.2)) (nd : (ks.map fun p => p.2.1).Nodup) : AscS (ks.map fun p => p.2.1) := by
  have T := sortLe_total (listOrd itemOrd) false fun b : V × PyData => keyToks b.2
  have pw : (l.mergeSort (dataLe false fun b : V × PyData => b.2)).Pairwise fun a b => dataLe false (fun b : V × PyData => b.2) a b = true := List.pairwise_mergeSort (fun a b c => T.trans a b c) (fun a b => by
    have := T.total a b
    rcases this with h | h
    · show (dataLe false (fun b : V × PyData => b.2) a b || _) = true
      rw [show dataLe false (fun b : V × PyData => b.2) a b = true from h]
      rfl
    · show (_ || dataLe false (fun b : V × PyData => b.2) b a) = true
      rw [show dataLe false (fun b : V × PyData => b.2) b a = true from h, Bool.or_true]) l
  rw [e, List.pairwise_map] at pw
  unfold AscS
  rw [List.pairwise_map]
  have nd := List.pairwise_map.mp nd
  exact (pw.and nd).imp fun {a b} ⟨h1, h2⟩ => gate_lt h2 h1
end WT

set_option Elab.async false
set_option linter.all false
set_option maxRecDepth 100000
set_option maxHeartbeats 4000000
/-! Sets of nested tuples of texts, whole numbers and None: adding. -/
namespace WT
open PySem PySem.Spec PyProof.Rows L2
abbrev Rw := Addr × NestedKey
def rws (w : World) (M : List Rw) : List (Int × Value) := M.map fun q => (q.2.hash w, Value.ref q.1)
/-- such a tuple at a -/
def NT (h : Heap) (q : Rw) : Prop := NestedIs h q.2 (.ref q.1) ∧ q.2.depth ≤ 8
theorem NT.up {h h2 : Heap} {q : Rw} (x : NT h q) (k : ∀ b o vs n, h.get? b = some o → o.data = .seq vs n → h2.get? b = some o) : NT h2 q := ⟨NestedIs.at k _ _ x.1, x.2⟩
theorem NT.kd {P : Program} {w : World} {h : Heap} {q : Rw} (x : NT h q) : (nestedKind P w).is h q.2 q.1 := x
theorem NT.store {h h2 : Heap} {a : Addr} {ob : Obj} {en : Array (Int × Value)} {ec : Nat} {tb : SetTable} {q : Rw} (x : NT h q) (h0 : h.get? a = some ob) (hd : ob.data = .set en ec tb) (sb : Heap.SameBut a h h2) : NT h2 q := by
  refine x.up fun b o vs n e z => ?_
  rw [sb.2 b fun e2 : b = a => ?_]
  · exact e
  · rw [e2, h0] at e
    obtain rfl := Option.some.inj e
    rw [hd] at z
    exact nomatch z
section
variable {P : Program} {w : World}
/-- no class statement's doing -/
def NoCls (P : Program) (w : World) (n : Nat) (s : Shared) (v : Value) : Prop := ∀ (A : Around) (E : Value → Shared → Prop) (Z : Bool → Shared → Prop), Z false s → wpAny (model P w) A (ofAClassStatement n v) Z E s
theorem NoCls.plain {n : Nat} {s : Shared} {v : Value} (h : carriedByValue v = true) : NoCls P w n s v := fun A E Z z => by
  cases v with
  | ref a => exact absurd h Bool.false_ne_true
  | _ => cases n <;> exact wpAny_pure z
theorem NoCls.tuple {n : Nat} {s : Shared} {b : Addr} {o : Obj} {vs : Array Value} {m : Nat} (hg : s.heap.get? b = some o) (hc : o.cls = .type "tuple") (hd : o.data = .seq vs m) (q : ∀ v ∈ vs.toList, NoCls P w n s v) : NoCls P w (n + 1) s (.ref b) := fun A E Z z => by
  have hT : s.TypeIs (.ref b) "tuple" := ⟨o, hg, hc⟩
  unfold ofAClassStatement
  refine wpAny_bind (wpAny_typeOf hT ?_)
  dsimp only
  have e : (("tuple" : String) == "tuple") = true := by decide
  simp only [e, if_true, Bool.not_true, Bool.false_eq_true, if_false]
  try refine wpAny_bind (wpAny_pure ?_)
  try simp only [Bool.not_true, Bool.false_eq_true, if_false]
  show wpAny (model P w) A (seqItems? (.ref b) >>= _) Z E s
  refine wpAny_bind (wpAny_seqItems hg hd ?_)
  dsimp only
  refine wpAny_bind ?_
  show wpAny (model P w) A (forIn vs _ _) _ E s
  rw [← Array.forIn_toList]
  refine wpAny_forIn_list _ (fun rest r s2 => r.1 = none ∧ s2 = s ∧ ∀ v ∈ rest, NoCls P w n s v) _ ?_ ?_ _ _ ⟨rfl, rfl, q⟩
  · rintro v rest r s2 ⟨hr, rfl, hl⟩
    refine wpAny_bind (hl v List.mem_cons_self _ _ _ ?_)
    simp only [Bool.false_eq_true, if_false]
    exact wpAny_pure ⟨rfl, rfl, fun u hu => hl u (List.mem_cons_of_mem _ hu)⟩
  · rintro ⟨r1, r2⟩ s2 ⟨hr, rfl, _⟩
    simp only at hr
    subst hr
    exact wpAny_pure z
/-- whatever is said of how it is hashed -/
def AnyHb (P : Program) (w : World) (n : Nat) (s : Shared) (v : Value) : Prop := ∀ (A : Around) (E : Value → Shared → Prop) (Z : Bool → Shared → Prop), (∀ b, Z b s) → wpAny (model P w) A (hashByValue n v) Z E s
theorem AnyHb.plain {k : NestedKey} {n : Nat} {s : Shared} {v : Value} (hk : NestedIs s.heap k v) (h : carriedByValue v = true) : AnyHb P w n s v := fun A E Z z => by
  cases hk with
  | tup => exact absurd h Bool.false_ne_true
  | none => cases n <;> exact wpAny_pure (z _)
  | bool => cases n <;> exact wpAny_pure (z _)
  | int => cases n <;> exact wpAny_pure (z _)
  | text => cases n <;> exact wpAny_pure (z _)
theorem AnyHb.tuple {n : Nat} {s : Shared} {b : Addr} {o : Obj} {vs : Array Value} {m : Nat} (hg : s.heap.get? b = some o) (hc : o.cls = .type "tuple") (hd : o.data = .seq vs m) (q : ∀ v ∈ vs.toList, AnyHb P w n s v) : AnyHb P w (n + 1) s (.ref b) := fun A E Z z => by
  have hT : s.TypeIs (.ref b) "tuple" := ⟨o, hg, hc⟩
  unfold hashByValue
  refine wpAny_bind (wpAny_specialOf hT PySem.F.slot_tuple_hash.lookup ?_)
  show wpAny (model P w) A (seqItems? (.ref b) >>= _) Z E s
  refine wpAny_bind (wpAny_seqItems hg hd ?_)
  refine wpAny_bind ?_
  show wpAny (model P w) A (forIn vs _ _) _ E s
  rw [← Array.forIn_toList]
  refine wpAny_forIn_list _ (fun rest r s2 => r.1 = none ∧ s2 = s ∧ ∀ v ∈ rest, AnyHb P w n s v) _ ?_ ?_ _ _ ⟨rfl, rfl, q⟩
  · rintro v rest r s2 ⟨hr, rfl, hl⟩
    refine wpAny_bind (hl v List.mem_cons_self _ _ _ fun c => ?_)
    cases c
    · simp only [Bool.not_false, if_true]
      exact wpAny_pure (wpAny_pure (z _))
    · simp only [Bool.not_true, Bool.false_eq_true, if_false]
      exact wpAny_pure ⟨rfl, rfl, fun u hu => hl u (List.mem_cons_of_mem _ hu)⟩
  · rintro ⟨r1, r2⟩ s2 ⟨hr, rfl, _⟩
    simp only at hr
    subst hr
    exact wpAny_pure (z _)
mutual
theorem nocls : ∀ (k : NestedKey) (v : Value) (n : Nat) (s : Shared), NestedIs s.heap k v → k.depth ≤ n → NoCls P w n s v
  | .none, _, n, s, x, _ => by cases x; exact .plain rfl
  | .num i, _, n, s, x, _ => by cases x <;> exact .plain rfl
  | .text y, _, n, s, x, _ => by cases x; exact .plain rfl
  | .tup ks, _, n, s, x, hn => by
    cases x with
    | tup hg hc hd hk =>
      simp only [NestedKey.depth] at hn
      cases n with
      | zero => omega
      | succ n => exact .tuple hg hc hd (noclss ks _ n s hk (by omega))
theorem noclss : ∀ (ks : List NestedKey) (vs : List Value) (n : Nat) (s : Shared), NestedAll s.heap ks vs → NestedKey.depthAll ks ≤ n → ∀ v ∈ vs, NoCls P w n s v
  | [], _, n, s, x, _, v, hv => by cases x; cases hv
  | k :: ks, _, n, s, x, hn, v, hv => by
    cases x with
    | cons x1 x2 =>
      simp only [NestedKey.depthAll] at hn
      rcases List.mem_cons.mp hv with e | hv
      · rw [e]; exact nocls k _ n s x1 (by omega)
      · exact noclss ks _ n s x2 (by omega) v hv
end
mutual
theorem anyhb : ∀ (k : NestedKey) (v : Value) (n : Nat) (s : Shared), NestedIs s.heap k v → k.depth ≤ n → AnyHb P w n s v
  | .none, _, n, s, x, _ => by
    have y := x
    cases x
    exact .plain y rfl
  | .num i, _, n, s, x, _ => by
    have y := x
    cases x <;> exact .plain y rfl
  | .text z, _, n, s, x, _ => by
    have y := x
    cases x
    exact .plain y rfl
  | .tup ks, _, n, s, x, hn => by
    cases x with
    | tup hg hc hd hk =>
      simp only [NestedKey.depth] at hn
      cases n with
      | zero => omega
      | succ n => exact .tuple hg hc hd (anyhbs ks _ n s hk (by omega))
theorem anyhbs : ∀ (ks : List NestedKey) (vs : List Value) (n : Nat) (s : Shared), NestedAll s.heap ks vs → NestedKey.depthAll ks ≤ n → ∀ v ∈ vs, AnyHb P w n s v
  | [], _, n, s, x, _, v, hv => by cases x; cases hv
  | k :: ks, _, n, s, x, hn, v, hv => by
    cases x with
    | cons x1 x2 =>
      simp only [NestedKey.depthAll] at hn
      rcases List.mem_cons.mp hv with e | hv
      · rw [e]; exact anyhb k _ n s x1 (by omega)
      · exact anyhbs ks _ n s x2 (by omega) v hv
end
variable {A : Around} {E : Value → Shared → Prop} {s : Shared}
/-- a search among such tuples tells nothing -/
theorem unseen {q : Rw} (hq : NT s.heap q) {ys : List Value} (hy : ∀ y ∈ ys, ∃ r : Rw, y = Value.ref r.1 ∧ NT s.heap r) {Z : Bool → Shared → Prop} (z : Z false s) : wpAny (model P w) A (searchCouldBeSeen (.ref q.1) ys) Z E s := by
  unfold searchCouldBeSeen
  refine wpAny_bind ?_
  refine wpAny_forIn_list _ (fun rest r s2 => r.1 = none ∧ s2 = s ∧ ∀ y ∈ rest, ∃ r : Rw, y = Value.ref r.1 ∧ NT s.heap r) _ ?_ ?_ _ _ ⟨rfl, rfl, hy⟩
  · rintro v rest r s2 ⟨hr, rfl, hl⟩
    obtain ⟨c, rfl, hc⟩ := hl v List.mem_cons_self
    have more : ∀ y ∈ rest, ∃ r : Rw, y = Value.ref r.1 ∧ NT s2.heap r := fun u hu => hl u (List.mem_cons_of_mem _ hu)
    dsimp only
    by_cases g : (q.1 == c.1 || (carriedByValue (.ref q.1) && carriedByValue (.ref c.1))) = true
    · exact wp_if_pos g (wpAny_pure ⟨rfl, rfl, more⟩)
    · refine wp_if_neg g ?_
      refine wpAny_bind ((nestedKind P w).quiet hq.kd ?_)
      simp only [Bool.not_true, Bool.false_eq_true, if_false]
      refine wpAny_bind ((nestedKind P w).quiet hc.kd ?_)
      simp only [Bool.not_true, Bool.false_eq_true, if_false]
      refine wpAny_bind (nocls q.2 _ 8 s2 hq.1 hq.2 _ _ _ ?_)
      simp only [Bool.false_eq_true, if_false]
      refine wpAny_bind (nocls c.2 _ 8 s2 hc.1 hc.2 _ _ _ ?_)
      simp only [Bool.false_eq_true, if_false]
      exact wpAny_pure ⟨rfl, rfl, more⟩
  · rintro ⟨r1, r2⟩ s2 ⟨hr, rfl, _⟩
    simp only at hr
    subst hr
    exact wpAny_pure z
end
end WT

set_option Elab.async false
set_option linter.all false
set_option maxRecDepth 100000
set_option maxHeartbeats 4000000
/-! Sets of nested tuples: the search, adding one. -/
namespace WT
open PySem PySem.Spec PyProof.Rows L2
/-- the set at a has just the tuples M -/
structure KTab (w : World) (h : Heap) (a : Addr) (M : List Rw) (ob : Obj) (en : Array (Int × Value)) (ec : Nat) (tb : SetTable) : Prop where
  at_ : h.get? a = some ob
  ex : ob.ExactSet
  da : ob.data = .set en ec tb
  rows : en.toList = rws w M
  tab : TabOk tb (M.map fun q => q.2.hash w)
  nd : (M.map Prod.snd).Nodup
  all : ∀ q ∈ M, NT h q
  led : w.params.followText "set-order" = true ∨ tb.led = true
  room : M.length * 5 < tb.mask * 3
  few : M.length < 64
def KS (w : World) (h : Heap) (a : Addr) (M : List Rw) : Prop := ∃ ob en ec tb, KTab w h a M ob en ec tb
/-- the first step of a key's way -/
abbrev k0 (w : World) (m : Nat) (k : NestedKey) : SetTable.Probe := runAt m (SetTable.bits (k.hash w) % (m + 1)) (SetTable.bits (k.hash w))
theorem nth_nodummy (m : Nat) : ∀ (n : Nat) (p : SetTable.Probe), p.dummy = none → (nth m p n).dummy = none
  | 0, _, h => h
  | n + 1, p, h => nth_nodummy m n (adv m p) (by unfold adv; split <;> exact h)
section
variable {P : Program} {w : World} {A : Around} {E : Value → Shared → Prop} {s : Shared} {a : Addr} {M : List Rw} {ob : Obj} {en : Array (Int × Value)} {ec : Nat} {tb : SetTable}
theorem KTab.len (R : KTab w s.heap a M ob en ec tb) : en.size = M.length := by
  rw [← Array.length_toList, R.rows]
  exact List.length_map _
theorem KTab.psz (R : KTab w s.heap a M ob en ec tb) : tb.place.toList.length = M.length := by
  rw [Array.length_toList, R.tab.sz, List.length_map]
theorem KTab.fit (R : KTab w s.heap a M ob en ec tb) : tb.fits en.size = true := by
  have z1 := R.psz
  rw [Array.length_toList] at z1
  have z2 := R.len
  have z3 := R.room
  unfold SetTable.fits SetTable.fill
  rw [R.tab.dm, Bool.and_eq_true, beq_iff_eq, decide_eq_true_eq]
  exact ⟨by omega, by show tb.place.size + 0 ≤ tb.mask; omega⟩
theorem KTab.get (R : KTab w s.heap a M ob en ec tb) {i : Nat} {q : Rw} (h : M[i]? = some q) : en[i]? = some (q.2.hash w, Value.ref q.1) := by
  rw [← Array.getElem?_toList, R.rows]
  show (M.map _)[i]? = _
  rw [List.getElem?_map, h]
  rfl
theorem KTab.sound (R : KTab w s.heap a M ob en ec tb) : ¬ tb.gaveWay = true := by
  unfold SetTable.gaveWay
  rw [mask_odd R.tab.mok]
  exact by decide
theorem k_search (R : KTab w s.heap a M ob en ec tb) {x : Rw} (hx : NT s.heap x) (hu : A.units + 8 < cLine) {n : Nat} (nf : n < 10 * SetTable.turns tb.mask) (ne : way tb.mask (x.2.hash w) n ∉ tb.place.toList) (nb : ∀ c, c < n → way tb.mask (x.2.hash w) c ∈ tb.place.toList)
    {Z : SetFound → Shared → Prop} (yes : x.2 ∈ M.map Prod.snd → Z (.there none) s) (no : x.2 ∉ M.map Prod.snd → Z (.free (way tb.mask (x.2.hash w) n) false) s) :
    ∀ (f c : Nat) (st : Option SetTable.Probe), st.getD (tb.probeStart (x.2.hash w)) = nth tb.mask (k0 w tb.mask x.2) c → c ≤ n → n - c < f →
      (∀ (i : Nat) (q : Rw), M[i]? = some q → q.2 = x.2 → ∃ d, c ≤ d ∧ d < n ∧ tb.place.toList[i]? = some (way tb.mask (x.2.hash w) d)) →
      wpAny (model P w) A (setSearchFrom a (.ref x.1) (x.2.hash w) true f st) Z E s
  | 0, c, st, _, _, hf, _ => by omega
  | f + 1, c, st, es, hc, hf, hre => by
    rw [setSearchFrom_succ]
    refine wpAny_bind (wpAny_setState_of R.at_ R.da R.fit ?_)
    dsimp only
    refine wp_if_neg R.sound ?_
    try refine wpAny_bind (wpAny_pure ?_)
    have jump : ∀ d, nth tb.mask (nth tb.mask (k0 w tb.mask x.2) c) d = nth tb.mask (k0 w tb.mask x.2) (c + d) := fun d => (nth_add tb.mask c _ d).symm
    have jj : ∀ d, (nth tb.mask (nth tb.mask (k0 w tb.mask x.2) c) d).j = way tb.mask (x.2.hash w) (c + d) := fun d => by rw [jump]
    have lastj : (nth tb.mask (nth tb.mask (k0 w tb.mask x.2) c) (n - c)).j = way tb.mask (x.2.hash w) n := by rw [jj, show c + (n - c) = n by omega]
    have hat : ∀ (i : Nat) (q : Rw), M[i]? = some q → (en[i]?.map (·.1)).getD 0 = q.2.hash w := fun i q hq => by rw [R.get hq]; rfl
    -- one that is passed is not the key
    have pass : ∀ {i : Nat} {q : Rw} {d : Nat}, M[i]? = some q → q.2 = x.2 → d < n → c ≤ d → tb.place.toList[i]? = some (way tb.mask (x.2.hash w) d) →
        (∀ (k' i' : Nat), k' < d + 1 - c → tb.place.toList[i']? = some (nth tb.mask (nth tb.mask (k0 w tb.mask x.2) c) k').j → (en[i']?.map (·.1)).getD 0 ≠ x.2.hash w) → False := fun {i q d} h1 h2 h3 h4 h5 h6 => by
      refine h6 (d - c) i (by omega) ?_ ((hat i q h1).trans (by rw [h2]))
      rw [jj, show c + (d - c) = d by omega]
      exact h5
    rcases go_spec tb R.tab.ris R.tab.dm (fun i => (en[i]?.map (·.1)).getD 0) (x.2.hash w) (10 * SetTable.turns tb.mask) (n - c) _ (nth_nodummy _ c _ rfl) (by omega) (fun d hd => by rw [jj]; exact nb _ (by omega)) (by rw [lastj]; exact ne) with ⟨d, i, hd, hi, hh, hno, hp⟩ | ⟨hno, hp⟩
    · have hp2 : tb.probe (fun i => (en[i]?.map (·.1)).getD 0) (x.2.hash w) (st.getD (tb.probeStart (x.2.hash w))) = some (.candidate (way tb.mask (x.2.hash w) (c + d)) i (nth tb.mask (k0 w tb.mask x.2) (c + (d + 1)))) := by
        rw [es, ← jj, ← jump]
        exact hp
      rw [hp2]
      dsimp only
      rw [jj] at hi
      have il : i < M.length := by
        have := (List.getElem?_eq_some_iff.mp hi).1
        rw [R.psz] at this
        exact this
      obtain ⟨q, hq⟩ : ∃ q, M[i]? = some q := ⟨_, List.getElem?_eq_getElem il⟩
      have qm := List.mem_of_getElem? hq
      have go : wpAny (model P w) A (searchRest a (.ref x.1) (x.2.hash w) true f en tb (way tb.mask (x.2.hash w) (c + d)) i (nth tb.mask (k0 w tb.mask x.2) (c + (d + 1)))) Z E s := by
        unfold searchRest
        rw [R.get hq]
        dsimp only
        refine wpAny_bind (wpAny_holding ((nestedKind P w).eqBool hu (R.all q qm).kd hx.kd ?_))
        refine wpAny_bind (wpAny_setState_of R.at_ R.da R.fit ?_)
        dsimp only
        by_cases e : q.2 = x.2
        · exact wp_if_pos (by simp [e]) (wpAny_pure (yes (List.mem_map.mpr ⟨q, qm, e⟩)))
        · refine wp_if_neg (by simp [e]) ?_
          try refine wpAny_bind (wpAny_pure ?_)
          rw [sameMem]
          dsimp only
          have sl := slot_live R.tab.ris hi
          simp only [if_true, sl, R.get hq]
          refine wpAny_bind (wpAny_isSame_ref_self (wpAny_bind (wpAny_pure ?_)))
          simp only [if_true]
          refine wp_if_neg (by simp [e]) ?_
          refine k_search R hx hu nf ne nb yes no f (c + (d + 1)) _ rfl (by omega) (by omega) fun i2 q2 z1 z2 => ?_
          obtain ⟨d2, b1, b2, b3⟩ := hre i2 q2 z1 z2
          refine ⟨d2, ?_, b2, b3⟩
          rcases Nat.lt_trichotomy d2 (c + d) with g | g | g
          · exact (pass z1 z2 b2 b1 b3 fun k' i' hk => hno k' i' (by omega)).elim
          · rw [g] at b3
            have sl2 := slot_live R.tab.ris b3
            rw [sl] at sl2
            injection sl2 with ei
            rw [← ei, hq] at z1
            exact absurd ((congrArg Prod.snd (Option.some.inj z1)).trans z2) e
          · omega
      by_cases hl : tb.led = true
      · refine wp_if_neg (by simp [hl]) ?_
        try refine wpAny_bind (wpAny_pure ?_)
        exact go
      · refine wp_if_pos (by simp [hl]) ?_
        refine wpAny_bind (unseen hx (fun y hy => ?_) ?_)
        · obtain ⟨e, he, ee⟩ := List.mem_map.mp hy
          have e1 : e ∈ en ∧ e.1 = x.2.hash w := by simpa using he
          have e2 : e ∈ en.toList := by simpa using e1.1
          rw [R.rows] at e2
          obtain ⟨r, hr, er⟩ := List.mem_map.mp e2
          exact ⟨r, by rw [← ee, ← er], R.all r hr⟩
        · refine wp_if_neg Bool.false_ne_true ?_
          try refine wpAny_bind (wpAny_pure ?_)
          exact go
    · have hp2 : tb.probe (fun i => (en[i]?.map (·.1)).getD 0) (x.2.hash w) (st.getD (tb.probeStart (x.2.hash w))) = some (.empty (way tb.mask (x.2.hash w) n) none) := by
        rw [es, ← lastj]
        exact hp
      rw [hp2]
      dsimp only
      refine wpAny_pure (no fun hm => ?_)
      obtain ⟨q, hq, e⟩ := List.mem_map.mp hm
      obtain ⟨i, hi, ei⟩ := List.getElem_of_mem hq
      have hi2 : M[i]? = some q := by rw [List.getElem?_eq_getElem hi, ei]
      obtain ⟨d, b1, b2, b3⟩ := hre i q hi2 e
      exact pass hi2 e b2 b1 b3 fun k' i' hk => hno k' i' (by omega)
theorem k_search0 (R : KTab w s.heap a M ob en ec tb) {x : Rw} (hx : NT s.heap x) (hu : A.units + 8 < cLine) {Z : SetFound → Shared → Prop} (yes : x.2 ∈ M.map Prod.snd → Z (.there none) s)
    (no : ∀ n, x.2 ∉ M.map Prod.snd → way tb.mask (x.2.hash w) n ∉ tb.place.toList → (∀ c, c < n → way tb.mask (x.2.hash w) c ∈ tb.place.toList) → Z (.free (way tb.mask (x.2.hash w) n) false) s) :
    wpAny (model P w) A (setSearch a (.ref x.1) (x.2.hash w) true) Z E s := by
  have z1 := R.room
  obtain ⟨n, nf, ne, nb⟩ := R.tab.first (by rw [List.length_map]; omega) (x.2.hash w)
  have big : n < 100000 := by
    have : 10 * SetTable.turns tb.mask ≤ 1420 := by
      unfold SetTable.turns
      rcases R.tab.mok with e | e | e <;> omega
    omega
  unfold setSearch
  refine k_search R hx hu nf ne nb yes (fun z => no n z ne nb) 100000 0 none rfl (Nat.zero_le n) big fun i q hq e => ?_
  have g1 : (M.map fun q => q.2.hash w)[i]? = some (x.2.hash w) := by rw [List.getElem?_map, hq, ← e]; rfl
  have g2 : i < tb.place.toList.length := by
    rw [R.psz]
    exact (List.getElem?_eq_some_iff.mp hq).1
  have g3 := List.getElem?_eq_getElem g2
  obtain ⟨d, hd, ed⟩ := R.tab.before ne g1 g3
  exact ⟨d, Nat.zero_le _, hd, by rw [g3, ed]⟩
end
end WT

set_option Elab.async false
set_option linter.all false
set_option maxRecDepth 100000
set_option maxHeartbeats 4000000
/-! Sets of nested tuples: adding one, laying anew. -/
namespace WT
open PySem PySem.Spec PyProof.Rows L2
theorem rws_len {w : World} {M : List Rw} {en : Array (Int × Value)} (h : en.toList = rws w M) : en.size = M.length := by
  rw [← Array.length_toList, h]
  exact List.length_map _
theorem rws_get {w : World} {M : List Rw} {en : Array (Int × Value)} (h : en.toList = rws w M) (i : Nat) : en[i]? = M[i]?.map fun q => (q.2.hash w, Value.ref q.1) := by
  rw [← Array.getElem?_toList, h]
  exact List.getElem?_map
theorem pick_rng {α : Type} (l : List α) : (List.range l.length).filterMap (fun i => l[i]?) = l := by
  have st : ∀ n, n ≤ l.length → (List.range n).filterMap (fun i => l[i]?) = l.take n := by
    intro n
    induction n with
    | zero => exact fun _ => rfl
    | succ n ih =>
      intro hn
      have e : l[n]? = some l[n] := List.getElem?_eq_getElem hn
      rw [List.range_succ, List.filterMap_append, ih (by omega), List.take_add_one, e]
      simp [e]
  have := st l.length (Nat.le_refl _)
  rwa [List.take_length] at this
/-- the entries in a new order -/
theorem rws_order (w : World) {M : List Rw} {en : Array (Int × Value)} (h : en.toList = rws w M) {od : Array Nat} (hp : od.toList.Perm (List.range M.length)) :
    ∃ N, (od.filterMap (en[·]?)).toList = rws w N ∧ N.Perm M ∧ (N.map fun q => q.2.hash w) = od.toList.map fun i => (en.map (·.1)).getD i 0 := by
  refine ⟨od.toList.filterMap fun i => M[i]?, ?_, ?_, ?_⟩
  · rw [Array.toList_filterMap]
    show _ = List.map _ _
    rw [List.map_filterMap]
    refine congrArg (fun g => List.filterMap g od.toList) (funext fun i => ?_)
    exact rws_get h i
  · have := hp.filterMap fun i => M[i]?
    rwa [pick_rng] at this
  · have all : ∀ i ∈ od.toList, i < M.length := fun i hi => List.mem_range.mp (hp.mem_iff.mp hi)
    generalize od.toList = l at all
    induction l with
    | nil => rfl
    | cons i l ih =>
      have e : M[i]? = some (M[i]'(all i List.mem_cons_self)) := List.getElem?_eq_getElem _
      rw [List.filterMap_cons_some e, List.map_cons, List.map_cons, ih fun j hj => all j (List.mem_cons_of_mem _ hj)]
      congr 1
      have e2 : (en.map (·.1))[i]? = some ((M[i]'(all i List.mem_cons_self)).2.hash w) := by
        rw [Array.getElem?_map, rws_get h, e]
        rfl
      simp [Array.getD_eq_getD_getElem?, e2]
section
variable {P : Program} {w : World} {A : Around} {E : Value → Shared → Prop} {s : Shared} {a : Addr} {M : List Rw} {ob : Obj} {en : Array (Int × Value)} {ec : Nat} {tb : SetTable}
theorem k_relay (h0 : s.heap.get? a = some ob) (hx : ob.ExactSet) (hd : ob.data = .set en ec tb) (hr : en.toList = rws w M) (sz : tb.place.size = en.size) (dm : tb.dummies = #[]) (fl : en.size ≤ tb.mask) (nd : (M.map Prod.snd).Nodup) (all : ∀ q ∈ M, NT s.heap q)
    (ld : w.params.followText "set-order" = true ∨ tb.led = true) (few : M.length < 64) {g m : Nat} (eg : SetTable.sizeAbove g - 1 = m) (gm : MaskOk m) (gs : SetTable.sizeAbove g ≤ 128) (gn : M.length * 5 < m * 3) {Z : Unit → Shared → Prop}
    (z : ∀ h2 N, Heap.SameBut a s.heap h2 → KS w h2 a N → N.Perm M → Z () { s with heap := h2 }) : wpAny (model P w) A (setRelay a g) Z E s := by
  have es := rws_len hr
  have fit : tb.fits en.size = true := by
    unfold SetTable.fits SetTable.fill
    rw [dm, Bool.and_eq_true, beq_iff_eq, decide_eq_true_eq]
    exact ⟨by omega, by show tb.place.size + 0 ≤ tb.mask; omega⟩
  obtain ⟨tb2, od, e1, p1, T, e2, e3, _, _⟩ := relaid_ok tb (hs := en.map (·.1)) (wanted := g) eg gm (by rw [Array.size_map]; omega)
  rw [Array.size_map, es] at p1
  obtain ⟨N, r1, r2, r3⟩ := rws_order w hr p1
  rw [← r3] at T
  have es2 : (od.filterMap (en[·]?)).size = en.size := by
    rw [rws_len r1, r2.length_eq, es]
  rw [setRelay_eq]
  refine wpAny_bind (wpAny_setState_of h0 hd fit ?_)
  dsimp only
  refine wp_if_neg (by rw [sizeLine_eq]; omega) ?_
  try refine wpAny_bind (wpAny_pure ?_)
  rw [e1]
  dsimp only
  refine wpAny_bind ?_
  refine wp_if_neg (by simp [es2]) ?_
  try refine wpAny_bind (wpAny_pure ?_)
  refine wpAny_pure ?_
  dsimp only
  refine wpAny_storeSet_of h0 hd ?_ (by rw [es2, es, sizeLine_eq]; omega)
  have sb : Heap.SameBut a s.heap (s.heap.update a (Obj.putSet (od.filterMap (en[·]?)) tb2)) := Heap.SameBut.update s.heap a _
  refine z _ N sb ⟨_, _, ec + 1, tb2, store_at h0 hd, ⟨hx.1, hx.2.1, hx.2.2⟩, rfl, r1, T, (r2.map Prod.snd).nodup_iff.mpr nd, fun q hq => (all q (r2.mem_iff.mp hq)).store h0 hd sb, by rw [e3]; exact ld, ?_, by rw [r2.length_eq]; exact few⟩ r2
  rw [r2.length_eq, e2]
  exact gn
theorem k_add (R : KS w s.heap a M) {x : Rw} (hx : NT s.heap x) (hu : A.units + 8 < cLine) (few : M.length + 1 < 64) {Z : Bool → Shared → Prop}
    (z : ∀ b h2 N, Heap.SameBut a s.heap h2 → KS w h2 a N → (x.2 ∈ M.map Prod.snd → N = M) → (x.2 ∉ M.map Prod.snd → N.Perm (x :: M)) → Z b { s with heap := h2 }) :
    wpAny (model P w) A (setAddHashed a (.ref x.1) (x.2.hash w)) Z E s := by
  have R0 := R
  obtain ⟨ob, en, ec, tb, R⟩ := R
  have es := R.len
  have rm := R.room
  unfold setAddHashed
  refine wpAny_holding ?_
  rw [show (100000 : Nat) = 99999 + 1 from rfl, setAddHashedIn_succ]
  refine wpAny_bind (wpAny_setState_of R.at_ R.da R.fit ?_)
  dsimp only
  refine wp_if_neg (by simp [byScan, Value.scannable]) ?_
  try refine wpAny_bind (wpAny_pure ?_)
  refine wpAny_bind (k_search0 R hx hu (fun hm => ?_) fun n hm ne nb => ?_)
  · dsimp only
    exact wpAny_pure (z false s.heap M (Heap.SameBut.refl a s.heap) R0 (fun _ => rfl) fun c => absurd hm c)
  · dsimp only
    refine wpAny_bind (wpAny_setState_of R.at_ R.da R.fit ?_)
    dsimp only
    obtain ⟨q1, q2, q3, q4, q5, _, _, _, q9⟩ := R.tab.put ne nb
    generalize hpt : tb.put (way tb.mask (x.2.hash w) n) = pt at q1 q3 q4 q5 q9 ⊢
    obtain ⟨tb1, j⟩ := pt
    dsimp only at q1 q3 q4 q5 q9 ⊢
    subst q1
    generalize hj : SetTable.below tb.place (way tb.mask (x.2.hash w) n) = j at q2 q3 ⊢
    have hin : (SetTable.insertAt en j (x.2.hash w, Value.ref x.1)).toList = rws w (M.take j ++ x :: M.drop j) := by
      rw [SetTable.toList_insertAt, R.rows]
      unfold rws
      rw [List.map_append, List.map_cons, List.map_take, List.map_drop]
    have pm : (M.take j ++ x :: M.drop j).Perm (x :: M) := put_perm M j x
    have e1 : ((M.map fun q => q.2.hash w).take j ++ x.2.hash w :: (M.map fun q => q.2.hash w).drop j) = (M.take j ++ x :: M.drop j).map fun q => q.2.hash w := by
      rw [List.map_append, List.map_cons, List.map_take, List.map_drop]
    rw [e1] at q3
    generalize SetTable.insertAt en j (x.2.hash w, Value.ref x.1) = en1 at hin ⊢
    generalize M.take j ++ x :: M.drop j = M1 at hin pm q3
    have l1 : M1.length = M.length + 1 := pm.length_eq
    have es1 : en1.size = M.length + 1 := (rws_len hin).trans l1
    have nd1 : (M1.map Prod.snd).Nodup := (pm.map Prod.snd).nodup_iff.mpr (List.nodup_cons.mpr ⟨hm, R.nd⟩)
    -- however it is hashed
    have rest : ∀ tb2 : SetTable, tb2.mask = tb1.mask → tb2.place = tb1.place → tb2.dummies = tb1.dummies → tb2.led = tb1.led → TabOk tb2 (M1.map fun q => q.2.hash w) → wpAny (model P w) A (do
          storeSet a en1 tb2
          if (!false && tb2.tooFull) = true then do
              setRelay a (SetTable.grown (en.size + 1))
              pure true
            else pure true) Z E s := fun tb2 m2 pl2 dm2 ld2 T2 => by
      refine wpAny_bind (wpAny_storeSet_of R.at_ R.da ?_ (by rw [es1, sizeLine_eq]; omega))
      have sb : Heap.SameBut a s.heap (s.heap.update a (Obj.putSet en1 tb2)) := Heap.SameBut.update s.heap a _
      have h1 := store_at (es' := en1) (t' := tb2) R.at_ R.da
      generalize s.heap.update a (Obj.putSet en1 tb2) = h2 at sb h1 ⊢
      have all1 : ∀ q ∈ M1, NT h2 q := fun q hq => by
        rcases List.mem_cons.mp (pm.mem_iff.mp hq) with e | hq
        · rw [e]; exact hx.store R.at_ R.da sb
        · exact (R.all q hq).store R.at_ R.da sb
      have ld1 : w.params.followText "set-order" = true ∨ tb2.led = true := by rw [ld2, q5]; exact R.led
      have fl2 : tb2.fill = M.length + 1 := by
        have e : tb2.fill = tb1.fill := by
          unfold SetTable.fill
          rw [pl2, dm2]
        rw [e, q9, List.length_map]
      by_cases hf : tb2.tooFull = true
      · refine wp_if_pos (by simp [hf]) ?_
        refine wpAny_bind ?_
        have full : (M.length + 1) * 5 ≥ tb2.mask * 3 := by
          have := hf
          unfold SetTable.tooFull at this
          rw [decide_eq_true_eq, fl2] at this
          exact this
        rw [m2, q4] at full
        rw [es]
        have relay : ∀ m, SetTable.sizeAbove (SetTable.grown (M.length + 1)) - 1 = m → MaskOk m → SetTable.sizeAbove (SetTable.grown (M.length + 1)) ≤ 128 → (M.length + 1) * 5 < m * 3 →
            wpAny (model P w) A (setRelay a (SetTable.grown (M.length + 1))) (fun _ s2 => wpAny (model P w) A (pure true) Z E s2) E { s with heap := h2 } := fun m g1 g2 g3 g4 => by
          refine k_relay (s := { s with heap := h2 }) h1 ⟨R.ex.1, R.ex.2.1, R.ex.2.2⟩ rfl hin ?_ T2.dm ?_ nd1 all1 ld1 (by omega) g1 g2 g3 (by omega) fun h3 N sb3 R3 pm3 => ?_
          · have := T2.sz
            rw [List.length_map] at this
            omega
          · rw [es1, m2, q4]
            rcases R.tab.mok with e | e | e <;> omega
          · exact wpAny_pure (z true h3 N (sb.trans sb3) R3 (fun c => absurd c hm) fun _ => pm3.trans pm)
        rcases R.tab.mok with e | e | e
        · have e4 : M.length = 4 := by rw [e] at full rm; omega
          exact relay 31 (by rw [e4, size_20]) (.inr (.inl rfl)) (by rw [e4, size_20]; decide) (by omega)
        · have e18 : M.length = 18 := by rw [e] at full rm; omega
          exact relay 127 (by rw [e18, size_76]) (.inr (.inr rfl)) (by rw [e18, size_76]; decide) (by omega)
        · rw [e] at full
          omega
      · refine wp_if_neg (by simp [hf]) ?_
        refine wpAny_pure (z true h2 M1 sb ⟨_, en1, _, tb2, h1, ⟨R.ex.1, R.ex.2.1, R.ex.2.2⟩, rfl, hin, T2, nd1, all1, ld1, ?_, by omega⟩ (fun c => absurd c hm) fun _ => pm)
        have := hf
        unfold SetTable.tooFull at this
        rw [decide_eq_true_eq, fl2] at this
        omega
    have T2 : TabOk { tb1 with plain := false } (M1.map fun q => q.2.hash w) := ⟨q3.ris, q3.dm, q3.sz, q3.mok, q3.bd, q3.reach⟩
    by_cases hpl : tb1.plain = true
    · first
        | refine wp_if_pos hpl (wpAny_bind (anyhb x.2 _ 8 s hx.1 hx.2 _ _ _ fun c => ?_))
        | (refine wpAny_bind ?_; refine wp_if_pos hpl ?_; refine anyhb x.2 _ 8 s hx.1 hx.2 _ _ _ fun c => ?_)
      cases c
      · exact rest _ rfl rfl rfl rfl T2
      · exact rest _ rfl rfl rfl rfl q3
    · first
        | refine wp_if_neg hpl (wpAny_bind (wpAny_pure ?_))
        | (refine wpAny_bind ?_; refine wp_if_neg hpl ?_; refine wpAny_pure ?_)
      exact rest _ rfl rfl rfl rfl q3
end
end WT

set_option Elab.async false
set_option linter.all false
set_option maxRecDepth 100000
set_option maxHeartbeats 4000000
/-! Sets of nested tuples, tracked: a set comprehension, sorted(set). -/
namespace WT
open PySem PySem.Spec PyProof.Rows L2
mutual
theorem nk_reads {h : Heap} : ∀ (k : NestedKey) (u : Value) (as : List Addr), Reads h u k.data as → NestedIs h k u ∧ as = []
  | .none, _, _, r => by
    simp only [NestedKey.data] at r
    cases r
    exact ⟨.none, rfl⟩
  | .num i, _, _, r => by
    simp only [NestedKey.data] at r
    cases r
    exact ⟨.int _ _, rfl⟩
  | .text x, _, _, r => by
    simp only [NestedKey.data] at r
    cases r
    exact ⟨.text _ _, rfl⟩
  | .tup ks, _, _, r => by
    simp only [NestedKey.data] at r
    cases r with
    | tuple h1 h2 h3 h4 =>
      obtain ⟨z1, z2⟩ := nks_reads ks _ _ h4
      exact ⟨.tup h1 h2 h3 z1, z2⟩
theorem nks_reads {h : Heap} : ∀ (ks : List NestedKey) (us : List Value) (as : List Addr), ReadsAll h us (NestedKey.datas ks) as → NestedAll h ks us ∧ as = []
  | [], _, _, r => by
    simp only [NestedKey.datas] at r
    cases r
    exact ⟨.nil, rfl⟩
  | k :: ks, _, _, r => by
    simp only [NestedKey.datas] at r
    cases r with
    | cons r1 r2 =>
      obtain ⟨a1, a2⟩ := nk_reads k _ _ r1
      obtain ⟨b1, b2⟩ := nks_reads ks _ _ r2
      exact ⟨.cons a1 b1, by rw [a2, b2]; rfl⟩
end
/-- the set, without the tuples themselves -/
def KS0 (w : World) (h : Heap) (a : Addr) (M : List Rw) : Prop := ∃ ob en ec tb, h.get? a = some ob ∧ ob.ExactSet ∧ ob.data = .set en ec tb ∧ en.toList = rws w M ∧ TabOk tb (M.map fun q => q.2.hash w) ∧ (M.map Prod.snd).Nodup ∧ (∀ q ∈ M, q.2.depth ≤ 8) ∧
  (w.params.followText "set-order" = true ∨ tb.led = true) ∧ M.length * 5 < tb.mask * 3 ∧ M.length < 64
theorem KS.bare {w : World} {h : Heap} {a : Addr} {M : List Rw} (R : KS w h a M) : KS0 w h a M := by
  obtain ⟨ob, en, ec, tb, R⟩ := R
  exact ⟨ob, en, ec, tb, R.at_, R.ex, R.da, R.rows, R.tab, R.nd, fun q hq => (R.all q hq).2, R.led, R.room, R.few⟩
theorem KS0.full {w : World} {h : Heap} {a : Addr} {M : List Rw} (R : KS0 w h a M) (k : ∀ q ∈ M, NestedIs h q.2 (.ref q.1)) : KS w h a M := by
  obtain ⟨ob, en, ec, tb, g1, g2, g3, g4, g5, g6, g7, g8, g9, g10⟩ := R
  exact ⟨ob, en, ec, tb, g1, g2, g3, g4, g5, g6, fun q hq => ⟨k q hq, g7 q hq⟩, g8, g9, g10⟩
def KSO (w : World) (a : Addr) (M : List Rw) : HO := .ext fun h => KS0 w h a M
theorem kso_ok {P : Program} {w : World} {H : Hp} {h : Heap} {a : Addr} {M : List Rw} (R : KS0 w h a M) : ObjOk P w H h a (KSO w a M) := by
  have ⟨ob, en, ec, tb, g, r⟩ := R
  refine ⟨R, ⟨ob, g⟩, fun h1 h2 ⟨ob2, en2, ec2, tb2, g2, r2⟩ k => ⟨ob2, en2, ec2, tb2, k ob2 g2, r2⟩⟩
/-- an empty one -/
theorem ks0_new (w : World) {h : Heap} {a : Addr} (g : h.get? a = some { cls := .type "set", dict := none, data := .set #[] 0 (.fresh 0 0 (!w.params.followText "set-order")) }) : KS0 w h a [] := by
  refine ⟨_, #[], 0, _, g, ⟨rfl, rfl, rfl⟩, rfl, rfl, ⟨List.Pairwise.nil, rfl, rfl, .inl rfl, fun x hx => ?_, fun i k j hi => ?_⟩, List.nodup_nil, fun q hq => absurd hq List.not_mem_nil, ?_, ?_, by decide⟩
  · cases hx
  · simp at hi
  · show _ ∨ (!w.params.followText "set-order") = true
    cases w.params.followText "set-order"
    · exact .inr rfl
    · exact .inl rfl
  · show 0 * 5 < 7 * 3
    decide
section
variable {X : Cx} {pins : List (Addr × Obj)} {σ : L2.St} {H : Hp} {s : Shared}
theorem nk_dp (I : Inv X pins σ H s) {k : NestedKey} {v : V} {u : Value} (d : Dp X.K H v k.data) (r : RelV v u) : NestedIs s.heap k u := by
  obtain ⟨as, q⟩ := Dp.reads I _ _ _ d r
  exact (nk_reads k u as q).1
/-- such a set at D, its tuples too -/
def KSet (K : PySem.W.Frag) (w : World) (H : Hp) (D : Addr) (M : List Rw) : Prop := H D = some (KSO w D M) ∧ ∀ q ∈ M, Dp K H (.ref q.1) q.2.data
theorem kset_get (I : Inv X pins σ H s) {D : Addr} {M : List Rw} (h : KSet X.K X.w H D M) : KS X.w s.heap D M :=
  KS0.full (I.hok D _ h.1).1 fun q hq => nk_dp I (h.2 q hq) rfl
theorem addK_ok {E : Value → Shared → Prop} {D : Addr} {M : List Rw} {x : Rw} {Q : Value → Shared → Prop} (I : Inv X pins σ H s) (h : KSet X.K X.w H D M) (hx : Dp X.K H (.ref x.1) x.2.data) (hd : x.2.depth ≤ 8) (hu : X.A.units + 64 < cLine) (few : M.length + 1 < 64)
    (q : ∀ s2 N, (x.2 ∈ M.map Prod.snd → N = M) → (x.2 ∉ M.map Prod.snd → N.Perm (x :: M)) → Inv X pins σ (upd H D (KSO X.w D N)) s2 → Q .none s2) : wpAny (model X.prog X.w) X.A (call (.builtin "set.add") [.ref D, .ref x.1]) Q E s := by
  have R := kset_get I h
  have hn : NT s.heap x := ⟨nk_dp I hx rfl, hd⟩
  have hT : s.TypeIs (.ref D) "set" := by
    obtain ⟨ob, _, _, _, r⟩ := R
    exact ⟨ob, r.at_, r.ex.1⟩
  refine wpAny_call_entry PySem.F.slot_set_add hT PySem.F.entry_set_add ?_ (PySem.F.args_set_add_2 _ _)
  unfold Builtin.«set.add» Builtin.Frozenset.oneOther
  simp only [List.isEmpty_nil, bind_assoc]
  unfold Builtin.Frozenset.addrOf setAdd
  refine wpAny_bind (wpAny_pure ?_)
  try dsimp only
  refine wpAny_bind (wpAny_pure ?_)
  try dsimp only
  refine wpAny_bind (wpAny_holding (wpAny_bind ((nestedKind X.prog X.w).pyHash (k := x.2) (a := x.1) ?_ hn ?_)))
  · show (X.A.in1).units + 8 < cLine
    simp only [Around.in1_units]
    omega
  refine k_add (s := { s with toks := s.toks + x.2.draws }) R hn ?_ few fun b h2 N sb R2 c1 c2 => ?_
  · simp only [Around.in1_units]
    omega
  show wpAny (model X.prog X.w) _ (ret Value.none) _ _ _
  refine wpAny_pure ⟨_, rfl, q _ N c1 c2 ?_⟩
  have he : ∃ u, h2.get? D = some u := by
    obtain ⟨ob, _, _, _, r⟩ := R2
    exact ⟨ob, r.at_⟩
  exact I.write (e := D) (t' := s.toks + x.2.draws) (by rw [h.1]; trivial) (.inl rfl) (fun b u hb e => (sb.2 b hb).trans e) he (kso_ok R2.bare)
end
end WT

set_option Elab.async false
set_option linter.all false
set_option maxRecDepth 100000
set_option maxHeartbeats 4000000
/-! {f(x) for x in xs}, its items nested tuples; sorted of such a set. -/
namespace WT
open PySem PySem.Spec PyProof.Rows L2 PpSet PySem.W
abbrev newS (w : World) : Obj := { cls := .type "set", dict := none, data := .set #[] 0 (.fresh 0 0 (!w.params.followText "set-order")) }
section
variable {X : Cx}
/-- one turn's end: the item y goes in -/
def PutK (K : PySem.W.Frag) (w : World) (D : Addr) (y : V) (H : Hp) (Nx : Hp → Prop) : Prop := ∃ (q : Rw) (M : List Rw), y = .ref q.1 ∧ KSet K w H D M ∧ Dp K H (.ref q.1) q.2.data ∧ q.2.depth ≤ 8 ∧ M.length + 1 < 64 ∧
  ∀ N, (q.2 ∈ M.map Prod.snd → N = M) → (q.2 ∉ M.map Prod.snd → N.Perm (q :: M)) → Nx (upd H D (KSO w D N))
def tScK (K : PySem.W.Frag) (w : World) (wi : TI) (g : TG) (tt : L2.TT) (te : TE) (vs : List Nat) : TE := fun σ H Q => wi σ H fun J H1 => ∀ D, H1 D = none → ∃ W : Nat → Nat → Hp → Prop, (∃ m, W 0 m (upd H1 D (KSO w D []))) ∧ ∀ i m H, W i m H →
  (J.stop i H ∧ Q (.ref D) H) ∨ (J.go i H ∧ ∃ Nx : Hp → Prop, (∀ H', Nx H' → ∃ m', m' < m ∧ W (i + 1) m' H') ∧ ∀ x H', J.yld i H x H' → g x (wipe σ vs) H' fun σ2 H2 => wipe σ2 vs = wipe σ vs ∧ tt σ2 H2 fun b H3 =>
    if b = true then te σ2 H3 fun y H4 => PutK K w D y H4 Nx else Nx H3)
theorem pe_scK {elt tg iter : Expr} {ifs : List Expr} {scope : Scope} {own : List (PySem.Str × Nat)} {pos : Pos} {wi : TI} {g : TG} {tt : L2.TT} {te : TE} (hc : X.calm = true) (hu : X.A.units + 64 < cLine) (hN : X.N.Nodup) (hi : PI X tg iter wi) (ok : BlkOk X.N X.env.scope scope own)
    (hg : ∀ (s : Shared) (H : Hp) (C : Addr) (cl : List (PySem.Str × Addr)) (fp : List Addr), PG (X.blk s H scope (compEnvC scope cl C X.env) fp) tg g) (ht : ∀ (s : Shared) (H : Hp) (C : Addr) (cl : List (PySem.Str × Addr)) (fp : List Addr), PTs (X.blk s H scope (compEnvC scope cl C X.env) fp) ifs tt)
    (he : ∀ (s : Shared) (H : Hp) (C : Addr) (cl : List (PySem.Str × Addr)) (fp : List Addr), PE (X.blk s H scope (compEnvC scope cl C X.env) fp) elt te) (hs : ∀ x, foldedSetIterable iter X.env x = pure x := by intro _; rfl) :
    PE X (.SetComp elt [⟨tg, iter, ifs, 0⟩] scope pos) (tScK X.K X.w wi g tt te (own.map (·.2))) := by
  refine ⟨fun pins s σ H Q I h => ?_⟩
  rw [eval_SetComp]
  have fr : ∀ y ∈ scope.names, y.2 = .free → ∃ c, X.env.cells.lookup y.1 = some c := fun y hy e => by
    rcases ok.free y hy e with k | k
    · exact I.ok.has _ (.inl k)
    · exact I.ok.has _ (.inr k)
  refine wpAny_comprehension_free rfl hs (closure_ok fr) ok.kind (fun y hy e => by rw [ok.uniq y hy, e]) (thn (hi.run pins s σ H _ I h) fun xv s1 hx => thn hx fun itv s2 h2 => ?_)
  obtain ⟨it, fp, tn, J, H2, e, I2, T, st2, f2, q⟩ := h2
  subst e
  refine newSet_ok (newEnv_comp ?_)
  generalize hD : s2.heap.objs.size = D
  have Dn : H2 D = none := I2.hok.fresh (Nat.le_of_eq hD)
  obtain ⟨W, ⟨m0, w0⟩, turn⟩ := q D Dn
  generalize hs3 : ({ s2 with heap := s2.heap.push (newS X.w) } : Shared) = s3
  have g3 : s3.heap = s2.heap.push (newS X.w) := by rw [← hs3]
  generalize hH3 : upd H2 D (KSO X.w D []) = H3 at w0
  have I3 : Inv X pins σ H3 s3 := by
    rw [← hH3, ← hs3]
    refine I2.laid (t' := s2.toks) (fun b o z => Heap.get?_push_of_some _ z) (Nat.le_of_eq hD) (kso_ok ?_)
    rw [← hD]
    exact ks0_new X.w (Heap.get?_push_size _ rfl)
  have f3 : ∀ b ∈ fp, FpOk X pins H3 b ∧ b < s3.heap.objs.size := fun b hb => by
    obtain ⟨o, e, _⟩ := T.obj _ _ st2 b hb
    have lt := Heap.lt_size e
    refine ⟨⟨?_, (f2 b hb).2⟩, by rw [g3, Heap.size_push]; exact Nat.lt_succ_of_lt lt⟩
    rw [← hH3, upd_ne (by rw [← hD]; exact Nat.ne_of_lt lt)]
    exact (f2 b hb).1
  have st3 : tn 0 s3.heap := T.keep _ _ _ st2 fun b _ o e => by rw [g3]; exact Heap.get?_push_of_some _ e
  have I4 := block_start I3 ok hN f3
  have pg := hg s3 H3 s3.heap.objs.size (cellsFrom (s3.heap.objs.size + 1) scope.names (cloFrom X.env.cells scope.names [])) fp
  have pt := ht s3 H3 s3.heap.objs.size (cellsFrom (s3.heap.objs.size + 1) scope.names (cloFrom X.env.cells scope.names [])) fp
  have pe := he s3 H3 s3.heap.objs.size (cellsFrom (s3.heap.objs.size + 1) scope.names (cloFrom X.env.cells scope.names [])) fp
  show codeAny (model X.prog X.w) X.A (.compStart (.SetComp elt [⟨tg, iter, ifs, 0⟩] scope pos) 0 (.ref it) (.ref D) (compEnvC scope (cellsFrom (s3.heap.objs.size + 1) scope.names (cloFrom X.env.cells scope.names [])) s3.heap.objs.size X.env)) (compPost (model X.prog X.w) X.A X.xe none (EP X pins σ Q) (.ref D) s3.heap.objs.size) { s3 with heap := pushCells (s3.heap.push { cls := .type "dict", data := .dict #[] }) scope.names }
  have nofp : ∀ b ∈ fp, H3 b = none := fun b hb => (f3 b hb).1.1
  generalize hce : compEnvC scope (cellsFrom (s3.heap.objs.size + 1) scope.names (cloFrom X.env.cells scope.names [])) s3.heap.objs.size X.env = ce at I4 pg pt pe ⊢
  have cl : ce.locals = s3.heap.objs.size := by subst hce; rfl
  generalize hs4 : ({ s3 with heap := pushCells (s3.heap.push { cls := .type "dict", data := .dict #[] }) scope.names } : Shared) = s4 at I4 ⊢
  have st4 : tn 0 s4.heap := T.keep _ _ _ st3 fun b _ o e => by rw [← hs4]; exact pushCells_keeps _ _ _ _ (Heap.get?_push_of_some _ e)
  have okfp : ∀ {σ' : L2.St} {H' : Hp} {s' : Shared}, Inv (X.blk s3 H3 scope ce fp) [] σ' H' s' → (∀ b ∈ fp, H' b = none) → ∀ b ∈ fp, FpOk (X.blk s3 H3 scope ce fp) [] H' b := fun I' hn b hb =>
    ⟨hn b hb, (I'.ok.exf b hb).1, I'.ok.exfs b hb, .inl hb, fun x c e => (I'.ok.exf b hb).2 x c e, fun p hp => absurd (show p ∈ ([] : List (Addr × Obj)) ++ [] from hp) (by simp)⟩
  have loop : codeAny (model X.prog X.w) X.A (.compLoop (.SetComp elt [⟨tg, iter, ifs, 0⟩] scope pos) 0 (.ref it) (.ref D) ce) (compPost (model X.prog X.w) X.A X.xe none (EP X pins σ Q) (.ref D) s3.heap.objs.size) s4 := by
    refine compLoopS_any (fun n s' => ∃ i H', Inv (X.blk s3 H3 scope ce fp) [] (wipe σ (own.map (·.2))) H' s' ∧ tn i s'.heap ∧ (∀ b ∈ fp, H' b = none) ∧ W i n H') ?_ m0 ⟨0, H3, I4, st4, nofp, w0⟩
    rintro n s5 ⟨i, H5, I5, st5, n5, w5⟩
    rcases turn i n H5 w5 with ⟨stop, qq⟩ | ⟨go, Nx, hNx, step⟩
    · refine thnF (T.done (X.blk s3 H3 scope ce fp) rfl rfl rfl hc i [] s5 _ H5 (fun _ _ => False) I5 (okfp I5 n5) st5 stop) fun r s6 ⟨hr, I6⟩ => ?_
      subst hr
      have I7 : Inv X pins σ H5 s6 := I3.call' (ch := fp) I6.os I6.base I6.hok I6.bare fun b hb => ⟨(f3 b hb).1.2.2.2.1, (f3 b hb).1.2.1, (f3 b hb).1.2.2.2.2.1, (f3 b hb).1.2.2.2.2.2⟩
      have nC : H5 s3.heap.objs.size = none := by
        have z : H5 ce.locals = none := I6.free
        rwa [cl] at z
      obtain ⟨m, hn, _⟩ := I6.loc
      have hn : s6.heap.Ns ce.locals m := hn
      rw [cl] at hn
      refine ⟨m, hn, fun h6 sb => ?_⟩
      obtain ⟨f0, f1, f2, f3, f4, f5⟩ := I3.fpOk (Nat.le_refl _) nC
      exact ⟨.ref D, H5, I7.turned (t' := s6.toks) (fun b o hb e => (sb.2 b hb).trans e) f0 f1 f3 f4 f5, rfl, qq⟩
    · refine thnF (T.item (X.blk s3 H3 scope ce fp) rfl rfl rfl hc i [] s5 _ H5 (fun _ _ => False) I5 (okfp I5 n5) st5 go) fun r s6 ⟨u, hr, h6⟩ => ?_
      subst hr
      refine thnF h6 fun _ s7 ⟨x, H7, I7, r7, y7, st7, n7⟩ => ?_
      refine thnF (pg.run _ s7 _ H7 x u _ (I7.pinned (okfp I7 n7) (T.obj _ _ st7)) r7 (step x H7 y7)) fun _ s8 ⟨σ8, H8, I8, hw8, q8⟩ => ?_
      refine thnF (pt.run _ s8 σ8 H8 _ I8 q8) fun b s9 ⟨H9, I9, q9⟩ => ?_
      have fin : ∀ {s' : Shared} {H' : Hp}, Inv (X.blk s3 H3 scope ce fp) ([] ++ pinsAt fp s7.heap) σ8 H' s' → Nx H' → ∃ m, m < n ∧ ∃ i H', Inv (X.blk s3 H3 scope ce fp) [] (wipe σ (own.map (·.2))) H' s' ∧ tn i s'.heap ∧ (∀ b ∈ fp, H' b = none) ∧ W i m H' := fun {s' H'} I' nx => by
        obtain ⟨m', hm, w'⟩ := hNx H' nx
        have pin : ∀ b ∈ fp, ∀ o, s7.heap.get? b = some o → s'.heap.get? b = some o ∧ H' b = none := fun b hb o e =>
          let z := I'.pin (b, o) (List.mem_append_right _ (List.mem_append_right _ (mem_pinsAt hb e)))
          ⟨z.1, z.2.1⟩
        refine ⟨m', hm, i + 1, H', (I'.unpinned (pins := [])).weak (by rw [← hw8, wipe_length]) (fun j v e => ?_), T.keep _ _ _ st7 fun b hb o e => (pin b hb o e).1, fun b hb => ?_, w'⟩
        · rw [← hw8] at e
          exact (wipe_some e).1
        · obtain ⟨o, e, _⟩ := T.obj _ _ st7 b hb
          exact (pin b hb o e).2
      cases b with
      | false =>
        simp only [Bool.false_eq_true, if_false] at q9 ⊢
        exact fin I9 q9
      | true =>
        simp only [if_true] at q9 ⊢
        refine thnF (pe.run _ s9 σ8 H9 _ I9 q9) fun z s10 ⟨yv, H10, I10, r10, x0, M, ey, ks, dx, dd, few, nx⟩ => ?_
        subst ey
        cases r10
        exact addK_ok (X := X.blk s3 H3 scope ce fp) I10 ks dx dd hu few fun s11 N c1 c2 I11 => fin I11 (nx N c1 c2)
  exact codeAny_compStart_set loop (T.self X.A 0 _ _ _ st4 loop)
end
end WT

set_option Elab.async false
set_option linter.all false
set_option maxRecDepth 100000
set_option maxHeartbeats 4000000
/-! sorted of a set of nested tuples. -/
namespace WT
open PySem PySem.Spec PyProof.Rows L2 PySem.W
mutual
theorem dpt_le : ∀ k : NestedKey, k.data.depth ≤ k.depth
  | .none => by simp [NestedKey.data, PyData.depth]
  | .num i => by simp [NestedKey.data, PyData.depth]
  | .text x => by simp [NestedKey.data, PyData.depth]
  | .tup ks => by
    have := dpts_le ks
    simp only [NestedKey.data, PyData.depth, NestedKey.depth]
    omega
theorem dpts_le : ∀ ks : List NestedKey, PyData.depthAll (NestedKey.datas ks) ≤ NestedKey.depthAll ks
  | [] => by simp [NestedKey.datas, PyData.depthAll]
  | k :: ks => by
    have h1 := dpt_le k
    have h2 := dpts_le ks
    simp only [NestedKey.datas, PyData.depthAll, NestedKey.depthAll]
    omega
end
/-- the order of the items -/
abbrev leK : Rw → Rw → Bool := dataLe false fun q => q.2.data
theorem leK_sorted (l : List Rw) : (l.mergeSort leK).Pairwise fun a b => leK a b = true := by
  have T := sortLe_total (listOrd itemOrd) false fun b : Rw => keyToks b.2.data
  refine List.pairwise_mergeSort (fun a b c => T.trans a b c) (fun a b => ?_) l
  rcases T.total a b with h | h
  · show (leK a b || _) = true
    rw [show leK a b = true from h]
    rfl
  · show (_ || leK b a) = true
    rw [show leK b a = true from h, Bool.or_true]
section
variable {P : Program} {w : World} {A : Around} {E : Value → Shared → Prop} {s : Shared} {a : Addr} {M : List Rw}
theorem refs_each : ∀ M : List Rw, EachIs (fun v (q : Rw) => v = Value.ref q.1) (M.map fun q => Value.ref q.1) M
  | [] => .nil
  | q :: M => .cons rfl (refs_each M)
theorem each_refs : ∀ {vs : List Value} {M : List Rw}, EachIs (fun v (q : Rw) => v = Value.ref q.1) vs M → vs = M.map fun q => Value.ref q.1
  | _, _, .nil => rfl
  | _, _, .cons h t => by rw [List.map_cons, h, each_refs t]
theorem reads_each {h : Heap} {p : Addr} : ∀ {M : List Rw}, (∀ q ∈ M, Reads h (.ref q.1) q.2.data []) → EachIs (fun v (q : Rw) => ∃ as, Reads h v q.2.data as ∧ p ∉ as) (M.map fun q => Value.ref q.1) M
  | [], _ => .nil
  | q :: M, k => .cons ⟨[], k q List.mem_cons_self, by simp⟩ (reads_each fun r hr => k r (List.mem_cons_of_mem _ hr))
theorem sorted_ks {Q : Value → Shared → Prop} (R : KS w s.heap a M) (calm : A.handled = none) (hu : A.units + 64 < cLine) (hr : ∀ q ∈ M, Reads s.heap (.ref q.1) q.2.data []) (al : AllAlike (M.map fun q => q.2.data)) (so : Sortable (M.map fun q => q.2.data))
    (z : ∀ s2 p (out : Array Value) (c : Nat) (N : List Rw), (∀ b o, s.heap.get? b = some o → s2.heap.get? b = some o) → s2.gens = s.gens → s2.os = s.os → s.heap.objs.size ≤ p → s2.heap.get? p = some (seqObj "list" out c) → out.toList = N.map (fun q => Value.ref q.1) → N.Perm M → N.Pairwise (fun a b => leK a b = true) → Q (.ref p) s2) :
    wpAny (model P w) A (call (.builtin "sorted") [.ref a]) Q E s := by
  obtain ⟨ob, en, ec, tb, R⟩ := R
  have es := R.len
  have few := R.few
  refine Calls.call_function_entry kind_sorted plain_sorted entry_sorted (args_sorted1 _) ?_
  unfold Builtin.«sorted»
  refine wpAny_bind (m := checkCount "sorted" 1 1 _) (wpAny_pure (wpAny_bind (collect_set (A := A.in1) calm ⟨ob, R.at_, R.ex.1, R.da⟩ R.fit (by unfold scanBound; omega) R.tab.ris R.led fun s1 vs k1 hz g1 o1 pm => ?_)))
  rw [R.rows] at pm
  have e0 : (rws w M).map (·.2) = M.map fun q => Value.ref q.1 := by
    unfold rws
    rw [List.map_map]
    rfl
  rw [e0] at pm
  obtain ⟨M2, p2, rfl⟩ := perm_map_inv pm rfl
  have l2 := p2.length_eq
  refine wpAny_bind (wpAny_newList ?_ (by rw [List.length_map, sizeLine_eq]; omega))
  have hoL : (s1.heap.push (seqObj "list" (M2.map fun q => Value.ref q.1).toArray 0)).get? s1.heap.objs.size = some (seqObj "list" (M2.map fun q => Value.ref q.1).toArray 0) := Heap.get?_push_size _ rfl
  have al2 : AllAlike (M2.map fun q => q.2.data) := fun d hd d' hd' => al d ((p2.map _).mem_iff.mp hd) d' ((p2.map _).mem_iff.mp hd')
  have so2 : Sortable (M2.map fun q => q.2.data) := so.imp (fun k d hd => k d ((p2.map _).mem_iff.mp hd)) fun k d hd => k d ((p2.map _).mem_iff.mp hd)
  have kk : ∀ b o, s.heap.get? b = some o → (s1.heap.push (seqObj "list" (M2.map fun q => Value.ref q.1).toArray 0)).get? b = some o := fun b o e => Heap.get?_push_of_some _ (k1 b o e)
  refine wpAny_bind (wpAny_holding (list_sort_data (enc := fun q : Rw => q.2.data) (bs := M2) (s := { s1 with heap := s1.heap.push (seqObj "list" (M2.map fun q => Value.ref q.1).toArray 0) }) hoL (refs_each M2)
    (reads_each fun q hq => PyProof.Rows.Reads.keeps kk (hr q (p2.mem_iff.mp hq))) al2 so2 (by rw [sizeLine_eq]; omega) (fun q hq => ?_) fun out ho he => ?_))
  · have d1 := (R.all q (p2.mem_iff.mp hq)).2
    have d2 := dpt_le q.2
    simp only [Around.in1_units]
    omega
  have eo := each_refs he
  obtain ⟨c, hc⟩ := sortedHeap_at (vs := M2.map fun q => Value.ref q.1) (out := List.toArray out) hoL
  have pn := List.mergeSort_perm M2 leK
  refine wpAny_pure ⟨_, rfl, z _ s1.heap.objs.size (List.toArray out) c (M2.mergeSort leK) (fun b u e => ?_) g1 o1 hz hc (by rw [eo]) (pn.trans p2) (leK_sorted M2)⟩
  have e1 := k1 b u e
  have lt := Heap.lt_size e1
  show (sortedHeap (s1.heap.push (seqObj "list" (M2.map fun q => Value.ref q.1).toArray 0)) s1.heap.objs.size _ _).get? b = some u
  rw [sortedHeap_old (Nat.ne_of_lt lt) (by rw [size_push']; exact Nat.lt_succ_of_lt lt)]
  exact Heap.get?_push_of_some _ e1
end
section
variable {X : Cx}
theorem refs_vals : ∀ M : List Rw, Vals (M.map fun q => V.ref q.1) (M.map fun q => Value.ref q.1)
  | [] => .nil
  | q :: M => .cons rfl (refs_vals M)
/-- sorted(a set of nested tuples) -/
def rSortedK (K : PySem.W.Frag) (w : World) : List V → Hp → VK → Prop := fun vs H Q => ∃ (a : Addr) (M : List Rw), vs = [.ref a] ∧ KSet K w H a M ∧ AllAlike (M.map fun q => q.2.data) ∧ Sortable (M.map fun q => q.2.data) ∧
  ∀ (N : List Rw) (p : Addr), N.Perm M → N.Pairwise (fun a b => leK a b = true) → (N.map Prod.snd).Nodup → N.length < 64 → H p = none → Q (.ref p) (upd H p (.lst (N.map fun q => V.ref q.1)))
theorem cr_sortedK (calm : X.calm = true) (hu : X.A.units + 64 < cLine) : CallR X (.builtin "sorted") (rSortedK X.K X.w) := by
  intro pins s σ H vs us Q I r h
  obtain ⟨a, M, rfl, ks, al, so, q⟩ := h
  rw [Vals.ref1 r]
  have R := kset_get I ks
  have few : M.length < 64 ∧ (M.map Prod.snd).Nodup := by
    obtain ⟨_, _, _, _, R⟩ := R
    exact ⟨R.few, R.nd⟩
  refine sorted_ks R (I.ok.hd calm) hu (fun x hx => ?_) al so fun s2 p out c N k g o hp hg hout pm pw => ?_
  · obtain ⟨as, z⟩ := Dp.reads I _ _ (.ref x.1) (ks.2 x hx) rfl
    have := (nk_reads _ _ as z).2
    rw [this] at z
    exact z
  have ln := pm.length_eq
  have hlen : (N.map fun q => V.ref q.1).length ≤ sizeLine := by rw [List.length_map, sizeLine_eq]; omega
  have hn : H p = none := I.hok.fresh hp
  have J : Inv X pins σ (upd H p (.lst (N.map fun q => V.ref q.1))) { s with heap := s2.heap, gens := s2.gens, drawn := s2.drawn, toks := s2.toks } :=
    I.call (ch := []) (Un.laid k hp hn) (I.hok.laid k hp ⟨hlen, out.toList, c, by rw [hout]; exact refs_vals N, hg⟩) (by rw [g]; exact I.bare) (fun _ z => nomatch z)
  have e : s2 = { s with heap := s2.heap, gens := s2.gens, drawn := s2.drawn, toks := s2.toks } := by
    obtain ⟨x1, x2, x3, x4, x5⟩ := s2
    cases o
    rfl
  rw [e]
  exact ⟨.ref p, _, J, rfl, q N p pm pw ((pm.map Prod.snd).nodup_iff.mpr few.2) (by omega) hn⟩
end
/-- over a tuple that the turns leave as it is -/
theorem sc_tupK {K : PySem.W.Frag} {w : World} {a : Addr} {xs : List V} {g : TG} {tt : L2.TT} {te : TE} {vs : List Nat} {σ : L2.St} {H1 : Hp} {D : Addr} {Qd : Hp → Prop} (Pv : Nat → Hp → Prop) (h0 : Pv 0 (upd H1 D (KSO w D []))) (hl : ∀ i H, i ≤ xs.length → Pv i H → SqT K H a xs)
    (hs : ∀ i x H, xs[i]? = some x → Pv i H → g x (wipe σ vs) H fun σ2 H2 => wipe σ2 vs = wipe σ vs ∧ tt σ2 H2 fun b H3 => if b = true then te σ2 H3 fun y H4 => PutK K w D y H4 (Pv (i + 1)) else Pv (i + 1) H3) (hd : ∀ H, Pv xs.length H → Qd H) :
    ∃ W : Nat → Nat → Hp → Prop, (∃ m, W 0 m (upd H1 D (KSO w D []))) ∧ ∀ i m H, W i m H →
      ((Itt K a).stop i H ∧ Qd H) ∨ ((Itt K a).go i H ∧ ∃ Nx : Hp → Prop, (∀ H', Nx H' → ∃ m', m' < m ∧ W (i + 1) m' H') ∧ ∀ x H', (Itt K a).yld i H x H' → g x (wipe σ vs) H' fun σ2 H2 => wipe σ2 vs = wipe σ vs ∧ tt σ2 H2 fun b H3 =>
        if b = true then te σ2 H3 fun y H4 => PutK K w D y H4 Nx else Nx H3) := by
  refine ⟨fun i m H => m + i = xs.length ∧ Pv i H, ⟨xs.length, rfl, h0⟩, fun i m H ⟨e, p⟩ => ?_⟩
  have q := hl i H (by omega) p
  rcases Nat.lt_or_ge i xs.length with lt | ge
  · refine .inr ⟨⟨xs, xs[i], q, by simp [lt]⟩, Pv (i + 1), fun H2 p2 => ⟨m - 1, by omega, by omega, p2⟩, fun x H2 y => ?_⟩
    obtain ⟨e2, y⟩ := y
    subst e2
    exact hs i x _ (y xs q) p
  · obtain rfl : i = xs.length := by omega
    exact .inl ⟨⟨xs, q, Nat.le_refl _⟩, hd H p⟩
end WT

set_option Elab.async false
set_option linter.all false
set_option maxRecDepth 100000
set_option maxHeartbeats 1000000
/-! The zones of a world, as lists of regions. -/
namespace WT
open PySem PySem.Spec PyProof.Rows L2 PySem.W
instance (x y : Str) : Decidable (Bef x y) := inferInstanceAs (Decidable (x.cps.toList < y.cps.toList))
open Classical in
/-- connected, as a truth value -/
noncomputable def conB (gs : List Gt) (bar : List Str) (x y : Str) : Bool := decide (Conn gs bar x y)
theorem conB_iff {gs : List Gt} {bar : List Str} {x y : Str} : conB gs bar x y = true ↔ Conn gs bar x y := by
  unfold conB
  exact @decide_eq_true_iff _ (Classical.propDecidable _)
/-- an equivalence -/
structure EqvB (R : Str → Str → Bool) : Prop where
  refl : ∀ x, R x x = true
  symm : ∀ {x y}, R x y = true → R y x = true
  trans : ∀ {x y z}, R x y = true → R y z = true → R x z = true
theorem conB_eqv (gs : List Gt) (bar : List Str) : EqvB (conB gs bar) where
  refl := fun x => conB_iff.mpr .refl
  symm := fun h => conB_iff.mpr (conB_iff.mp h).symm
  trans := fun h k => conB_iff.mpr ((conB_iff.mp h).trans (conB_iff.mp k))
def zoneL (R : Str → Str → Bool) (rs : List Str) (x : Str) : List Str := rs.filter (R x)
/-- the first of its zone -/
def headB (R : Str → Str → Bool) (rs : List Str) (x : Str) : Bool := rs.all fun y => !R x y || !decide (Bef y x)
def headsL (R : Str → Str → Bool) (rs : List Str) : List Str := rs.filter (headB R rs)
def zonesL (R : Str → Str → Bool) (rs : List Str) : List (List Str) := (headsL R rs).map (zoneL R rs)
theorem headB_iff {R : Str → Str → Bool} {rs : List Str} {x : Str} : headB R rs x = true ↔ ∀ y ∈ rs, R x y = true → ¬ Bef y x := by
  unfold headB
  rw [List.all_eq_true]
  constructor
  · intro h y hy hr hb
    have := h y hy
    rw [hr, decide_eq_true hb] at this
    cases this
  · intro h y hy
    by_cases hr : R x y = true
    · rw [hr, decide_eq_false (h y hy hr)]
      rfl
    · rw [Bool.not_eq_true] at hr
      rw [hr]
      rfl
theorem mem_zone {R : Str → Str → Bool} {rs : List Str} {x y : Str} : y ∈ zoneL R rs x ↔ y ∈ rs ∧ R x y = true := List.mem_filter
theorem zone_eq {R : Str → Str → Bool} (E : EqvB R) {rs : List Str} {x y : Str} (h : R x y = true) : zoneL R rs x = zoneL R rs y := by
  unfold zoneL
  refine List.filter_congr fun z _ => ?_
  refine Bool.eq_iff_iff.mpr ⟨fun k => E.trans (E.symm h) k, fun k => E.trans h k⟩
theorem mem_heads {R : Str → Str → Bool} {rs : List Str} {x : Str} : x ∈ headsL R rs ↔ x ∈ rs ∧ headB R rs x = true := List.mem_filter
/-- a zone begins with its first region -/
theorem zone_head {R : Str → Str → Bool} (E : EqvB R) {rs : List Str} (A : AscS rs) {x : Str} (hx : x ∈ rs) : ∃ h t, zoneL R rs x = h :: t ∧ h ∈ headsL R rs ∧ R x h = true := by
  have A2 : AscS (zoneL R rs x) := List.Pairwise.filter _ A
  cases e : zoneL R rs x with
  | nil =>
    have : x ∈ zoneL R rs x := mem_zone.mpr ⟨hx, E.refl x⟩
    rw [e] at this
    cases this
  | cons h t =>
    have hm : h ∈ zoneL R rs x := by rw [e]; exact List.mem_cons_self
    obtain ⟨h1, h2⟩ := mem_zone.mp hm
    refine ⟨h, t, rfl, mem_heads.mpr ⟨h1, headB_iff.mpr fun y hy hr hb => ?_⟩, h2⟩
    have ym : y ∈ zoneL R rs x := mem_zone.mpr ⟨hy, E.trans h2 hr⟩
    rw [e] at ym A2
    rcases List.mem_cons.mp ym with z | z
    · rw [z] at hb
      exact hb.ne rfl
    · exact (hb.trans ((List.pairwise_cons.mp A2).1 y z)).ne rfl
theorem head_zone {R : Str → Str → Bool} (E : EqvB R) {rs : List Str} (A : AscS rs) {x : Str} (hx : x ∈ headsL R rs) : ∃ t, zoneL R rs x = x :: t := by
  obtain ⟨h1, h2⟩ := mem_heads.mp hx
  obtain ⟨h, t, e, hh, r⟩ := zone_head E A h1
  have k := mem_heads.mp hh
  have : h = x := by
    rcases str_tri h x with c | c | c
    · exact absurd c (headB_iff.mp h2 h k.1 r)
    · exact c
    · exact absurd c (headB_iff.mp k.2 x h1 (E.symm r))
  exact ⟨t, by rw [e, this]⟩
theorem heads_asc {R : Str → Str → Bool} {rs : List Str} (A : AscS rs) : AscS (headsL R rs) := List.Pairwise.filter _ A
/-- ascending lists of the same texts are the same -/
theorem ascs_ext : ∀ {xs ys : List Str}, AscS xs → AscS ys → (∀ z, z ∈ xs ↔ z ∈ ys) → xs = ys
  | [], [], _, _, _ => rfl
  | [], y :: ys, _, _, h => absurd ((h y).mpr List.mem_cons_self) List.not_mem_nil
  | x :: xs, [], _, _, h => absurd ((h x).mp List.mem_cons_self) List.not_mem_nil
  | x :: xs, y :: ys, a, b, h => by
    obtain ⟨a1, a2⟩ := List.pairwise_cons.mp a
    obtain ⟨b1, b2⟩ := List.pairwise_cons.mp b
    have e : x = y := by
      rcases List.mem_cons.mp ((h x).mp List.mem_cons_self) with c | c
      · exact c
      · rcases List.mem_cons.mp ((h y).mpr List.mem_cons_self) with d | d
        · exact d.symm
        · exact absurd rfl ((b1 x c).trans (a1 y d)).ne
    subst e
    refine congrArg _ (ascs_ext a2 b2 fun z => ⟨fun m => ?_, fun m => ?_⟩)
    · rcases List.mem_cons.mp ((h z).mp (List.mem_cons_of_mem _ m)) with c | c
      · rw [c] at m
        exact absurd rfl (a1 x m).ne
      · exact c
    · rcases List.mem_cons.mp ((h z).mpr (List.mem_cons_of_mem _ m)) with c | c
      · rw [c] at m
        exact absurd rfl (b1 x m).ne
      · exact c
/-- a tuple of texts as data -/
abbrev tupD (l : List Str) : PyData := .tuple (l.map PyData.str)
theorem tup_lt {x y : Str} {xs ys : List Str} (ne : x ≠ y) (h : dataLt (tupD (y :: ys)) (tupD (x :: xs)) = false) : Bef x y := by
  rw [dataLt_tuple, List.map_cons, List.map_cons, dataLt_cons (by simp [alike])] at h
  have ee : PyData.eqv (.str y) (.str x) = false := by
    rw [PyData.eqv]
    exact beq_eq_false_iff_ne.mpr fun z => ne z.symm
  rw [ee, if_neg Bool.false_ne_true, dataLt_str] at h
  exact bef_of (of_decide_eq_false h) ne
theorem tup_le {x y : Str} {xs ys : List Str} (b : Bef x y) : dataLt (tupD (y :: ys)) (tupD (x :: xs)) = false := by
  rw [dataLt_tuple, List.map_cons, List.map_cons, dataLt_cons (by simp [alike])]
  have ee : PyData.eqv (.str y) (.str x) = false := by
    rw [PyData.eqv]
    exact beq_eq_false_iff_ne.mpr fun z => b.ne z.symm
  rw [ee, if_neg Bool.false_ne_true, dataLt_str]
  exact decide_eq_false fun z => absurd rfl (Bef.trans b z).ne
/-- the zones are the only such list -/
theorem zones_only {R : Str → Str → Bool} (E : EqvB R) {rs : List Str} (A : AscS rs) {Z : List (List Str)} (mem : ∀ l, l ∈ Z ↔ ∃ x ∈ rs, l = zoneL R rs x) (nd : Z.Nodup) (srt : Z.Pairwise fun l m => dataLt (tupD m) (tupD l) = false) : Z = zonesL R rs := by
  have hd : ∀ l ∈ Z, ∃ h t, l = h :: t ∧ h ∈ headsL R rs ∧ l = zoneL R rs h := fun l hl => by
    obtain ⟨x, hx, e⟩ := (mem l).mp hl
    obtain ⟨h, t, e2, hh, r⟩ := zone_head E A hx
    exact ⟨h, t, by rw [e, e2], hh, by rw [e, zone_eq E r]⟩
  have eZ : Z = (Z.map fun l => l.headD "").map (zoneL R rs) := by
    rw [List.map_map]
    conv => lhs; rw [← List.map_id Z]
    refine List.map_congr_left fun l hl => ?_
    obtain ⟨h, t, e, _, e2⟩ := hd l hl
    show l = zoneL R rs (l.headD "")
    rw [e] at e2 ⊢
    exact e2
  have asc : AscS (Z.map fun l => l.headD "") := by
    unfold AscS
    rw [List.pairwise_map]
    refine List.Pairwise.imp_of_mem (fun {l m} hl hm ⟨k, ne⟩ => ?_) (srt.and nd)
    obtain ⟨h, t, e, _, e2⟩ := hd l hl
    obtain ⟨h', t', e', _, e2'⟩ := hd m hm
    rw [e, e'] at k ⊢
    refine tup_lt (fun z => ne ?_) k
    have z : h = h' := z
    rw [e2, e2', z]
  have hm : ∀ z, z ∈ (Z.map fun l => l.headD "") ↔ z ∈ headsL R rs := fun z => by
    rw [List.mem_map]
    constructor
    · rintro ⟨l, hl, rfl⟩
      obtain ⟨h, t, e, hh, _⟩ := hd l hl
      rw [e]
      exact hh
    · intro hz
      obtain ⟨t, e⟩ := head_zone E A hz
      exact ⟨zoneL R rs z, (mem _).mpr ⟨z, (mem_heads.mp hz).1, rfl⟩, by rw [e]; rfl⟩
  rw [eZ, ascs_ext asc (heads_asc A) hm]
  rfl
/-- the zones stand in order -/
theorem zones_sorted {R : Str → Str → Bool} (E : EqvB R) {rs : List Str} (A : AscS rs) : (zonesL R rs).Pairwise fun l m => dataLt (tupD m) (tupD l) = false := by
  unfold zonesL
  rw [List.pairwise_map]
  refine List.Pairwise.imp_of_mem (fun {x y} hx hy b => ?_) (heads_asc (R := R) A)
  obtain ⟨t, e⟩ := head_zone E A hx
  obtain ⟨t', e'⟩ := head_zone E A hy
  rw [e, e']
  exact tup_le b
theorem zones_congr {R R' : Str → Str → Bool} {rs : List Str} (h : ∀ x ∈ rs, ∀ y ∈ rs, R x y = R' x y) : zonesL R rs = zonesL R' rs := by
  have h1 : headsL R rs = headsL R' rs := List.filter_congr fun x hx => by
    unfold headB
    refine Bool.eq_iff_iff.mpr ?_
    rw [List.all_eq_true, List.all_eq_true]
    exact ⟨fun k y hy => by rw [← h x hx y hy]; exact k y hy, fun k y hy => by rw [h x hx y hy]; exact k y hy⟩
  unfold zonesL
  rw [h1]
  refine List.map_congr_left fun x hx => ?_
  exact List.filter_congr fun y hy => h x (mem_heads.mp hx).1 y hy
/-- such a tuple as a key -/
abbrev keyT (l : List Str) : NestedKey := .tup (l.map NestedKey.text)
theorem datas_texts : ∀ l : List Str, NestedKey.datas (l.map NestedKey.text) = l.map PyData.str
  | [] => by rw [List.map_nil, NestedKey.datas, List.map_nil]
  | x :: l => by rw [List.map_cons, NestedKey.datas, datas_texts l, NestedKey.data, List.map_cons]
theorem keyT_data (l : List Str) : (keyT l).data = tupD l := by
  rw [NestedKey.data, datas_texts]
theorem depths_texts : ∀ l : List Str, NestedKey.depthAll (l.map NestedKey.text) = 0
  | [] => by rw [List.map_nil, NestedKey.depthAll]
  | x :: l => by rw [List.map_cons, NestedKey.depthAll, depths_texts l, NestedKey.depth]; rfl
theorem keyT_depth (l : List Str) : (keyT l).depth ≤ 8 := by
  rw [NestedKey.depth, depths_texts]
  decide
theorem texts_inj : ∀ {l m : List Str}, l.map NestedKey.text = m.map NestedKey.text → l = m
  | [], [], _ => rfl
  | [], _ :: _, h => nomatch h
  | _ :: _, [], h => nomatch h
  | x :: l, y :: m, h => by
    rw [List.map_cons, List.map_cons] at h
    injection h with h1 h2
    injection h1 with h1
    rw [h1, texts_inj h2]
theorem keyT_inj {l m : List Str} (h : keyT l = keyT m) : l = m := by
  injection h with h
  exact texts_inj h
/-- tuples of texts in memory -/
abbrev TupsAt (H : Hp) : List Addr → List (List Str) → Prop := Paired fun t (l : List Str) => H t = some (.tup (l.map V.str))
theorem tups_at_same {H H' : Hp} {ts : List Addr} {ls : List (List Str)} (h : TupsAt H ts ls) (s : ∀ t xs, H t = some (.tup xs) → H' t = some (.tup xs)) : TupsAt H' ts ls := Paired.mapP h fun _ _ z => s _ _ z
theorem dpT_strs {K : PySem.W.Frag} {H : Hp} {t : Addr} {l : List Str} (h : H t = some (.tup (l.map V.str))) : Dp K H (.ref t) (keyT l).data := by
  rw [keyT_data]
  exact .tup (SqT.of h) (dp_strs l)
/-- the rows that a set of zones has -/
theorem rows_out {R : Str → Str → Bool} (E : EqvB R) {rs : List Str} (A : AscS rs) {N : List Rw} {H : Hp} (hn : ∀ q ∈ N, ∃ l, q.2 = keyT l ∧ H q.1 = some (.tup (l.map V.str)) ∧ ∃ x ∈ rs, l = zoneL R rs x) (all : ∀ x ∈ rs, keyT (zoneL R rs x) ∈ N.map Prod.snd) (nd : (N.map Prod.snd).Nodup)
    (srt : N.Pairwise fun a b => leK a b = true) : TupsAt H (N.map Prod.fst) (zonesL R rs) := by
  obtain ⟨Z, eZ, pZ⟩ : ∃ Z : List (List Str), N.map Prod.snd = Z.map keyT ∧ TupsAt H (N.map Prod.fst) Z ∧ ∀ l ∈ Z, ∃ x ∈ rs, l = zoneL R rs x := by
    clear all nd srt
    induction N with
    | nil => exact ⟨[], rfl, .nil, fun l hl => absurd hl List.not_mem_nil⟩
    | cons q N ih =>
      obtain ⟨Z, e, p, m⟩ := ih fun r hr => hn r (List.mem_cons_of_mem _ hr)
      obtain ⟨l, e1, e2, e3⟩ := hn q List.mem_cons_self
      refine ⟨l :: Z, by rw [List.map_cons, List.map_cons, e, e1], .cons e2 p, fun l' hl => ?_⟩
      rcases List.mem_cons.mp hl with z | z
      · rw [z]; exact e3
      · exact m l' z
  have e : Z = zonesL R rs := by
    refine zones_only E A (fun l => ⟨pZ.2 l, fun ⟨x, hx, e⟩ => ?_⟩) ?_ ?_
    · have := all x hx
      rw [eZ] at this
      obtain ⟨l', h1, h2⟩ := List.mem_map.mp this
      rw [e, ← keyT_inj h2]
      exact h1
    · rw [eZ] at nd
      exact List.Pairwise.of_map keyT (fun _ _ ne z => ne (congrArg keyT z)) nd
    · have s2 : (N.map Prod.snd).Pairwise fun a b => dataLt b.data a.data = false := by
        rw [List.pairwise_map]
        refine srt.imp fun {a b} k => ?_
        have k : (!dataLt b.2.data a.2.data) = true := k
        rwa [Bool.not_eq_true'] at k
      rw [eZ, List.pairwise_map] at s2
      refine s2.imp fun {a b} k => ?_
      rw [keyT_data, keyT_data] at k
      exact k
  rw [← e]
  exact pZ.1
theorem alike_tups : ∀ l m : List Str, alike (tupD l) (tupD m) = true := fun l m => by
  show alike (.tuple _) (.tuple _) = true
  rw [alike, alikeAll_strs]
theorem mem_zones {R : Str → Str → Bool} {rs : List Str} {l : List Str} (h : l ∈ zonesL R rs) : ∃ x ∈ headsL R rs, l = zoneL R rs x := by
  obtain ⟨x, hx, e⟩ := List.mem_map.mp h
  exact ⟨x, hx, e.symm⟩
theorem zone_sub {R : Str → Str → Bool} {rs : List Str} {l : List Str} (h : l ∈ zonesL R rs) : (∀ y ∈ l, y ∈ rs) ∧ l.length ≤ rs.length := by
  obtain ⟨x, _, rfl⟩ := mem_zones h
  exact ⟨fun y hy => (mem_zone.mp hy).1, List.length_filter_le _ _⟩
theorem zones_len {R : Str → Str → Bool} {rs : List Str} : (zonesL R rs).length ≤ rs.length := by
  unfold zonesL
  rw [List.length_map]
  exact List.length_filter_le _ _
theorem zones_flat {R : Str → Str → Bool} (E : EqvB R) {rs : List Str} (A : AscS rs) : (zonesL R rs).flatten.Nodup ∧ ∀ z, z ∈ (zonesL R rs).flatten ↔ z ∈ rs := by
  refine ⟨?_, fun z => ?_⟩
  · unfold List.Nodup
    rw [List.pairwise_flatten]
    refine ⟨fun l hl => ?_, ?_⟩
    · obtain ⟨x, _, rfl⟩ := mem_zones hl
      exact (List.Pairwise.filter _ A).imp fun {a b} h => Bef.ne h
    · unfold zonesL
      rw [List.pairwise_map]
      refine List.Pairwise.imp_of_mem (fun {x y} hx hy b u hu v hv e => ?_) (heads_asc (R := R) A)
      subst e
      have r1 := (mem_zone.mp hu).2
      have r2 := (mem_zone.mp hv).2
      obtain ⟨k1, k2⟩ := mem_heads.mp hx
      obtain ⟨k3, k4⟩ := mem_heads.mp hy
      exact headB_iff.mp k4 x k1 (E.trans r2 (E.symm r1)) b
  · rw [List.mem_flatten]
    constructor
    · rintro ⟨l, hl, hz⟩
      exact (zone_sub hl).1 z hz
    · intro hz
      obtain ⟨h, t, e, hh, r⟩ := zone_head E A hz
      exact ⟨zoneL R rs h, List.mem_map.mpr ⟨h, hh, rfl⟩, mem_zone.mpr ⟨hz, E.symm r⟩⟩
end WT

set_option Elab.async false
set_option linter.all false
set_option maxRecDepth 100000
set_option maxHeartbeats 4000000
/-! all([..]) over any walk; slices of lists and of tuples; zip of two tuples in a comprehension; names, worlds of any data. -/
namespace WT
open PySem PySem.Spec PyProof.Rows L2
/-- a comprehension of booleans that changes nothing -/
theorem lc_bl {J : It} {n : Nat} {G : Hp → Prop} {Y : Nat → Hp → V → Hp → Prop} (w : Walk J n G Y) {g : TG} {tt : TT} {te : TE} {vs : List Nat} {σ : L2.St} {H1 : Hp} {D : Addr} {Qd : Hp → Prop} (bs : List Bool) (hl : bs.length = n) (hz : n ≤ 40000) (nD : H1 D = none) (hG : ∀ H, Same H1 H → G H)
    (hs : ∀ (i : Nat) (x : V) (b : Bool) (H2 H3 : Hp) (k : VK) (e : Hp → Prop), bs[i]? = some b → Same H1 H2 → Y i H2 x H3 → (∀ H4, Same H2 H4 → k (.bl b) H4) →
      g x (wipe σ vs) H3 fun σ2 H2 => wipe σ2 vs = wipe σ vs ∧ tt σ2 H2 fun t H3 => if t = true then te σ2 H3 k else e H3)
    (hd : ∀ H, Same H1 H → H D = some (.lst (bs.map V.bl)) → Qd H) :
    ∃ W : Nat → Nat → Hp → Prop, (∃ m, W 0 m (upd H1 D (.lst []))) ∧ ∀ i m H, W i m H →
      (J.stop i H ∧ Qd H) ∨ (J.go i H ∧ ∃ Nx : Hp → Prop, (∀ H', Nx H' → ∃ m', m' < m ∧ W (i + 1) m' H') ∧ ∀ x H', J.yld i H x H' → g x (wipe σ vs) H' fun σ2 H2 => wipe σ2 vs = wipe σ vs ∧ tt σ2 H2 fun b H3 =>
        if b = true then te σ2 H3 fun y H4 => ∃ acc, H4 D = some (.lst acc) ∧ acc.length < sizeLine ∧ Nx (upd H4 D (.lst (acc ++ [y]))) else Nx H3) := by
  refine lc_it w (fun m H => Same H1 H ∧ H D = some (.lst ((bs.take m).map V.bl))) ⟨same_new nD, upd_same⟩ (fun _ H _ h => hG H h.1) (fun i x H H' hi hP hy => ?_) fun H hP => ?_
  · obtain ⟨s2, hD⟩ := hP
    have hb : bs[i]? = some (bs[i]'(by omega)) := List.getElem?_eq_getElem _
    refine hs i x _ H H' _ _ hb s2 hy fun H4 s4 => ⟨_, s4 _ _ hD, ?_, fun c o ed => ?_, ?_⟩
    · rw [List.length_map, List.length_take]
      exact Nat.lt_of_le_of_lt (show min i bs.length ≤ 40000 by omega) (by decide)
    · rw [upd_ne (ne_of_none ed nD)]
      exact s4 _ _ (s2 _ _ ed)
    · rw [upd_same, List.take_add_one, hb, List.map_append]
      rfl
  · obtain ⟨s2, hD⟩ := hP
    rw [← hl, List.take_length] at hD
    exact hd H s2 hD
theorem walk_zipT {K : PySem.W.Frag} {a b : Addr} {xs ys : List V} {n : Nat} (hn : n = min xs.length ys.length) : Walk (RZ.ItzT K a b) n (fun H => SqT K H a xs ∧ SqT K H b ys) (YPair (fun i => xs[i]?) (fun i => ys[i]?)) := by
  subst hn
  refine ⟨fun i _ hi q => ?_, fun _ q => ⟨xs, ys, q.1, q.2, by omega⟩, fun i H v H' _ q y => ?_⟩
  · have h1 : i < xs.length := by omega
    have h2 : i < ys.length := by omega
    exact ⟨xs, ys, xs[i], ys[i], q.1, q.2, by simp [h1], by simp [h2]⟩
  · obtain ⟨T, x, z, h1, h2, h3, h4, h5⟩ := y
    exact ⟨T, x, z, h1, h2, h3, h4 xs q.1, h5 ys q.2⟩
def rSlTwo (K : PySem.W.Frag) : V → Option Int → Option Int → Hp → VK → Prop := fun x lo hi H Q => rSlL K x lo hi H Q ∨ rSlA K x lo hi H Q
theorem sl_two {X : Cx} {K : PySem.W.Frag} (hK : X.K = K := by rfl) : L2.SlR X (rSlTwo K) := by
  subst hK
  exact L2.SlR.or sl_list sl_tupA
theorem cut_one (ss : List Str) : cutV (ss.map V.str) (some 1) none = (ss.drop 1).map V.str := by
  cases ss with
  | nil => rfl
  | cons a ss =>
    unfold cutV
    rw [show (1 : Int) = ((1 : Nat) : Int) from rfl, HT.sIx_nat, HT.sIx_none, List.length_map, Nat.min_eq_left (by simp), ← List.map_drop]
    exact List.take_of_length_le (by rw [List.length_map, List.length_drop]; exact Nat.le_refl _)
/-- a NAME -/
def nmB (s : Str) : Bool := decide (1 ≤ s.cps.size ∧ s.cps.size ≤ 8) && (s.cps.toList.map fun c => decide (c ∈ alpha.cps.toList)).all id
def nmD : PyData → Bool
  | .str s => nmB s
  | _ => false
/-- each before the next -/
def adjB (ss : List Str) : Bool := ((ss.zip (ss.drop 1)).map fun p => decide (p.1.cps.toList < p.2.cps.toList)).all id
theorem adjB_iff (ss : List Str) : adjB ss = true ↔ AscS ss := by
  rw [← adj_asc]
  unfold adjB AdjS
  rw [List.all_map, List.all_eq_true]
  constructor
  · intro h i x y hx hy
    have : (x, y) ∈ ss.zip (ss.drop 1) := List.mem_of_getElem? (i := i) (by rw [List.getElem?_zip_eq_some]; exact ⟨hx, by rw [List.getElem?_drop, Nat.add_comm]; exact hy⟩)
    have b : x.cps.toList < y.cps.toList := of_decide_eq_true (h _ this)
    exact b
  · rintro h ⟨x, y⟩ hp
    obtain ⟨i, hi⟩ := List.getElem?_of_mem hp
    rw [List.getElem?_zip_eq_some] at hi
    have := hi.2
    rw [List.getElem?_drop, Nat.add_comm] at this
    have b : x.cps.toList < y.cps.toList := h i x y hi.1 this
    exact decide_eq_true b
/-- its texts -/
def txts (ds : List PyData) : List Str := ds.filterMap fun d => match d with
  | .str s => some s
  | _ => none
theorem txts_strs : ∀ ss : List Str, txts (ss.map PyData.str) = ss
  | [] => rfl
  | s :: ss => congrArg (s :: ·) (txts_strs ss)
theorem nm_strs : ∀ {ds : List PyData}, (ds.map nmD).all id = true → ∃ ss : List Str, ds = ss.map PyData.str ∧ ∀ s ∈ ss, nmB s = true
  | [], _ => ⟨[], rfl, fun s hs => by cases hs⟩
  | d :: ds, h => by
    rw [List.map_cons, List.all_cons, Bool.and_eq_true] at h
    obtain ⟨ss, rfl, k⟩ := nm_strs h.2
    cases d with
    | str s =>
      refine ⟨s :: ss, rfl, fun t ht => ?_⟩
      rcases List.mem_cons.mp ht with rfl | ht
      · exact h.1
      · exact k t ht
    | _ => exact absurd h.1 (by simp [nmD])
def regD : PyData → Bool
  | .tuple ds => decide (1 ≤ ds.length ∧ ds.length ≤ 10) && ((ds.map nmD).all id && adjB (txts ds))
  | _ => false
def memD (rs : List Str) : PyData → Bool
  | .tuple ds => decide (2 ≤ ds.length) && ((ds.map fun d => isIn d rs).all id && adjB (txts ds))
  | _ => false
def kinds2 : List Str := ["wrap", "open"]
def gatD (rs : List Str) : PyData → Bool
  | .tuple [n, m, k] => nmD n && (memD rs m && isIn k kinds2)
  | _ => false
def headD : PyData → PyData
  | .tuple (d :: _) => d
  | d => d
def gatsD (rs : List Str) : PyData → Bool
  | .tuple ds => decide (ds.length ≤ 10) && ((ds.map (gatD rs)).all id && adjB (txts (ds.map headD)))
  | _ => false
def partsD : PyData → List PyData
  | .tuple ds => ds
  | _ => []
def wldD : PyData → Bool
  | .tuple [r, g] => regD r && gatsD (txts (partsD r)) g
  | _ => false
end WT

set_option Elab.async false
set_option linter.all false
set_option maxRecDepth 100000
set_option maxHeartbeats 4000000
/-! the search through all paths, with a finer measure. -/
namespace WT
open PySem PySem.Spec PyProof.Rows L2
section
variable {gs : List Gt} {bar rs : List Str} {one other : Str}
def weighF (f : Nat → Nat) (D : Nat) (ls : List (List (Str × Str))) : Nat := (ls.map fun l => f (D - l.length)).sum
theorem weighF_app (f : Nat → Nat) (D : Nat) (a b : List (List (Str × Str))) : weighF f D (a ++ b) = weighF f D a + weighF f D b := by
  unfold weighF
  rw [List.map_append, List.sum_append]
theorem weighF_same (f : Nat → Nat) (D k : Nat) : ∀ ls : List (List (Str × Str)), (∀ l ∈ ls, l.length = k) → weighF f D ls = ls.length * f (D - k)
  | [], _ => by simp [weighF]
  | l :: ls, h => by
    have ih := weighF_same f D k ls fun x hx => h x (List.mem_cons_of_mem _ hx)
    unfold weighF at ih ⊢
    rw [List.map_cons, List.sum_cons, ih, h l List.mem_cons_self, List.length_cons, Nat.add_mul]
    omega
theorem weighF_ge (f : Nat → Nat) (hf : ∀ n, 0 < f n) (D : Nat) : ∀ ls : List (List (Str × Str)), ls.length ≤ weighF f D ls
  | [] => Nat.zero_le _
  | l :: ls => by
    have ih := weighF_ge f hf D ls
    have p : 0 < f (D - l.length) := hf _
    unfold weighF at ih ⊢
    rw [List.map_cons, List.sum_cons, List.length_cons]
    omega
/-- the search's state: what waits, what was found -/
structure SrchF (gs : List Gt) (bar rs : List Str) (one other : Str) (f : Nat → Nat) (D : Nat) (ls fs : List (List (Str × Str))) : Prop where
  wait : ∀ l ∈ ls, GoodP gs bar rs one l
  good : ∀ l ∈ fs, GoodP gs bar rs one l ∧ lastOf one l = other
  all : ∀ m, GoodP gs bar rs one m → lastOf one m = other → m ∈ fs ∨ ∃ l ∈ ls, ∃ r, m = l ++ r
  wt : fs.length + weighF f D ls ≤ f D
theorem SrchF.first (f : Nat → Nat) (D : Nat) : SrchF gs bar rs one other f D [[]] [] :=
  ⟨fun l hl => by rw [List.mem_singleton.mp hl]; exact .nil, fun l hl => (nomatch hl), fun m _ _ => .inr ⟨[], by simp, m, rfl⟩, by simp [weighF]⟩
theorem SrchF.take {f : Nat → Nat} {D : Nat} (hf : ∀ n, 0 < f n) {ls fs : List (List (Str × Str))} {l : List (Str × Str)} (h : SrchF gs bar rs one other f D (ls ++ [l]) fs) (e : lastOf one l = other) : SrchF gs bar rs one other f D ls (fs ++ [l]) := by
  have hl := h.wait l (by simp)
  refine ⟨fun k hk => h.wait k (by simp [hk]), fun k hk => ?_, fun m hm em => ?_, ?_⟩
  · rcases List.mem_append.mp hk with hk | hk
    · exact h.good k hk
    · rw [List.mem_singleton.mp hk]
      exact ⟨hl, e⟩
  · rcases h.all m hm em with q | ⟨k, hk, r, rfl⟩
    · exact .inl (List.mem_append_left _ q)
    · rcases List.mem_append.mp hk with hk | hk
      · exact .inr ⟨k, hk, r, rfl⟩
      · rw [List.mem_singleton.mp hk] at hm em ⊢
        rcases List.eq_nil_or_concat r with rfl | ⟨s, p, rfl⟩
        · exact .inl (by simp)
        · exfalso
          have r1 := hm.reg
          obtain ⟨n, z⟩ := p
          rw [List.concat_eq_append, ← List.append_assoc, lastOf_snoc] at em
          rw [List.concat_eq_append, ← List.append_assoc, List.map_append, ← List.cons_append] at r1
          have r2 := (List.nodup_append.mp r1).2.2
          have mem : lastOf one l ∈ one :: (l ++ s).map (·.2) := by
            unfold lastOf
            cases hl2 : l.map (·.2) with
            | nil => simp
            | cons a b =>
              rw [List.map_append, hl2]
              have : (a :: b).getLastD one ∈ a :: b := by
                rw [List.getLastD_cons]
                cases b with
                | nil => simp
                | cons c d =>
                  have : (c :: d).getLastD a ∈ c :: d := by
                    rw [List.getLastD_eq_getLast?, List.getLast?_eq_some_getLast (by simp)]
                    exact List.getLast_mem _
                  exact List.mem_cons_of_mem _ this
              exact List.mem_cons_of_mem _ (List.mem_append_left _ this)
          exact r2 _ mem z (by simp) (e.trans em.symm)
  · have w := h.wt
    rw [weighF_app] at w
    have g := weighF_ge f hf D [l]
    rw [List.length_append]
    simp only [List.length_cons, List.length_nil] at g ⊢
    omega
theorem SrchF.grow {f : Nat → Nat} {D : Nat} {ls fs : List (List (Str × Str))} {l : List (Str × Str)} (hm : ∀ g ∈ gs, ∀ z ∈ g.2.1, z ∈ rs) (hl : weighF f D (kids gs bar one l) < weighF f D [l]) (h : SrchF gs bar rs one other f D (ls ++ [l]) fs) (e : lastOf one l ≠ other) :
    SrchF gs bar rs one other f D (ls ++ kids gs bar one l) fs ∧ weighF f D (ls ++ kids gs bar one l) < weighF f D (ls ++ [l]) := by
  have lk := hl
  have hl := h.wait l (by simp)
  have lt : weighF f D (ls ++ kids gs bar one l) < weighF f D (ls ++ [l]) := by
    rw [weighF_app, weighF_app]
    omega
  refine ⟨⟨fun k hk => ?_, h.good, fun m hg em => ?_, ?_⟩, lt⟩
  · rcases List.mem_append.mp hk with hk | hk
    · exact h.wait k (by simp [hk])
    · exact (kids_good hm hl hk).1
  · rcases h.all m hg em with q | ⟨k, hk, r, rfl⟩
    · exact .inl q
    · rcases List.mem_append.mp hk with hk | hk
      · exact .inr ⟨k, List.mem_append_left _ hk, r, rfl⟩
      · rw [List.mem_singleton.mp hk] at hg em ⊢
        cases r with
        | nil =>
          rw [List.append_nil] at em
          exact absurd em e
        | cons p r =>
          obtain ⟨n, z⟩ := p
          exact .inr ⟨l ++ [(n, z)], List.mem_append_right _ (kids_has hg), r, by simp⟩
  · have := h.wt
    omega
theorem SrchF.done {f : Nat → Nat} {D : Nat} {fs : List (List (Str × Str))} (h : SrchF gs bar rs one other f D [] fs) : AllP gs bar rs one other fs ∧ fs.length ≤ f D := by
  refine ⟨⟨h.good, fun m hm em => ?_⟩, ?_⟩
  · rcases h.all m hm em with q | ⟨k, hk, _⟩
    · exact q
    · cases hk
  · have := h.wt
    omega
/-- two more steps for each gateway that is left -/
def fan : Nat → Nat
  | 0 => 1
  | r + 1 => 1 + 2 * (r + 1) * fan r
theorem fan_pos : ∀ n, 0 < fan n
  | 0 => Nat.one_pos
  | r + 1 => by
    unfold fan
    omega
theorem fan_le : ∀ {n : Nat}, n ≤ 7 → fan n ≤ 1063623
  | 0, _ => by decide
  | 1, _ => by decide
  | 2, _ => by decide
  | 3, _ => by decide
  | 4, _ => by decide
  | 5, _ => by decide
  | 6, _ => by decide
  | 7, _ => by decide
  | n + 8, h => by omega
theorem flat_filter {α β : Type} {g : α → List β} {p : α → Bool} {B : Nat} : ∀ {l : List α}, (∀ x ∈ l, (g x).length ≤ B) → (∀ x ∈ l, p x = false → g x = []) → (l.flatMap g).length ≤ (l.filter p).length * B
  | [], _, _ => by simp
  | x :: l, h, k => by
    have a := h x List.mem_cons_self
    have b := flat_filter (l := l) (fun y hy => h y (List.mem_cons_of_mem _ hy)) fun y hy => k y (List.mem_cons_of_mem _ hy)
    rw [List.flatMap_cons, List.length_append, List.filter_cons]
    by_cases c : p x = true
    · rw [if_pos c, List.length_cons, Nat.add_mul]
      omega
    · rw [if_neg c, k x List.mem_cons_self (Bool.eq_false_iff.mpr c)]
      simpa using b
/-- how many go on from a path, one gateway barred -/
theorem kids_fan {gx : Gt} {l : List (Str × Str)} (nd : (gs.map (·.1)).Nodup) (hx : gx ∈ gs) (hB : ∀ g ∈ gs, g.2.1.length ≤ 3) (h : GoodP gs [gx.1] rs one l) : (kids gs [gx.1] one l).length ≤ 2 * (gs.length - 1 - l.length) ∧ l.length ≤ gs.length - 1 := by
  obtain ⟨z, hz⟩ := h.path
  have nb : ∀ {x y : Str} {l : List (Str × Str)}, SPath gs [gx.1] x l y → ∀ n ∈ l.map (·.1), n ≠ gx.1 := fun h => by
    induction h with
    | nil => intro n hn; cases hn
    | cons st _ ih =>
      obtain ⟨g, hg, e, nb, _⟩ := st
      intro n hn
      rcases List.mem_cons.mp hn with e2 | hn
      · rw [e2]
        exact fun q => nb (by simpa using q)
      · exact ih n hn
  have ln := hz.names
  have nx := nb hz
  let p : Gt → Bool := fun g => decide (g.1 ∉ gx.1 :: l.map (·.1))
  have a : (kids gs [gx.1] one l).length ≤ (gs.filter p).length * 2 := flat_filter (fun g hg => kidsOf_len (B := 2) (hB g hg) l) fun g hg c => by
    unfold kidsOf
    refine if_neg fun ⟨_, c2, c3⟩ => ?_
    have : ¬ g.1 ∉ gx.1 :: l.map (·.1) := of_decide_eq_false c
    refine this fun q => ?_
    rcases List.mem_cons.mp q with q | q
    · exact c3 (by simpa using q)
    · exact c2 q
  have b : (gx.1 :: l.map (·.1) ++ (gs.filter p).map (·.1)).length ≤ (gs.map (·.1)).length := by
    refine nodup_le (List.nodup_append.mpr ⟨List.nodup_cons.mpr ⟨fun q => nx _ q rfl, h.gat⟩, ?_, fun u hu v hv e => ?_⟩) fun u hu => ?_
    · exact List.Nodup.sublist (List.filter_sublist.map _) nd
    · obtain ⟨g, hg, rfl⟩ := List.mem_map.mp hv
      have : g.1 ∉ gx.1 :: l.map (·.1) := of_decide_eq_true (List.mem_filter.mp hg).2
      exact this (e ▸ hu)
    · rcases List.mem_append.mp hu with hu | hu
      · rcases List.mem_cons.mp hu with rfl | hu
        · exact List.mem_map.mpr ⟨gx, hx, rfl⟩
        · exact ln u hu
      · obtain ⟨g, hg, rfl⟩ := List.mem_map.mp hu
        exact List.mem_map.mpr ⟨g, (List.mem_filter.mp hg).1, rfl⟩
  rw [List.length_append, List.length_cons, List.length_map, List.length_map, List.length_map] at b
  omega
theorem weigh_fan {gx : Gt} {l : List (Str × Str)} (nd : (gs.map (·.1)).Nodup) (hm : ∀ g ∈ gs, ∀ z ∈ g.2.1, z ∈ rs) (hx : gx ∈ gs) (hB : ∀ g ∈ gs, g.2.1.length ≤ 3) (h : GoodP gs [gx.1] rs one l) : weighF fan (gs.length - 1) (kids gs [gx.1] one l) < weighF fan (gs.length - 1) [l] := by
  obtain ⟨a, b⟩ := kids_fan nd hx hB h
  rw [weighF_same fan _ (l.length + 1) _ fun k hk => (kids_good hm h hk).2]
  have e : weighF fan (gs.length - 1) [l] = fan (gs.length - 1 - l.length) := by simp [weighF]
  rw [e]
  cases hr : gs.length - 1 - l.length with
  | zero =>
    rw [hr] at a
    have : (kids gs [gx.1] one l).length = 0 := by omega
    rw [this, Nat.zero_mul]
    exact fan_pos _
  | succ r =>
    rw [hr] at a
    rw [show gs.length - 1 - (l.length + 1) = r by omega]
    have := Nat.mul_le_mul_right (fan r) a
    rw [show fan (r + 1) = 1 + 2 * (r + 1) * fan r from rfl]
    omega
end
end WT

set_option Elab.async false
set_option linter.all false
set_option maxRecDepth 100000
set_option maxHeartbeats 4000000
/-! cycles as data; one more object apart. -/
namespace WT
open PySem PySem.Spec PyProof.Rows L2
/-- region and gateway in turn -/
def hops : Str → List (Str × Str) → List (Str × Str)
  | _, [] => []
  | one, (n, z) :: l => (one, n) :: hops z l
theorem hops_len : ∀ (l : List (Str × Str)) (one : Str), (hops one l).length = l.length
  | [], _ => rfl
  | (n, z) :: l, one => by
    unfold hops
    rw [List.length_cons, hops_len l z]
    rfl
theorem hops_at : ∀ {l : List (Str × Str)} {one : Str} {m : Nat} {p : Str × Str}, (hops one l)[m]? = some p → (pathV one l)[2 * m]? = some (.str p.1) ∧ (pathV one l)[2 * m + 1]? = some (.str p.2)
  | [], _, m, p, h => by
    unfold hops at h
    simp at h
  | (n, z) :: l, one, 0, p, h => by
    unfold hops at h
    cases h
    rw [pathV_cons]
    exact ⟨rfl, rfl⟩
  | (n, z) :: l, one, m + 1, p, h => by
    unfold hops at h
    rw [List.getElem?_cons_succ] at h
    obtain ⟨a, b⟩ := hops_at h
    rw [pathV_cons, show 2 * (m + 1) = 2 * m + 1 + 1 by omega]
    exact ⟨a, b⟩
theorem hops_nm {l : List (Str × Str)} {one : Str} (h : ∀ s ∈ pathS one l, NmOk s) : ∀ p ∈ hops one l, NmOk p.1 ∧ NmOk p.2 := fun p hp => by
  obtain ⟨m, hm⟩ := List.mem_iff_getElem?.mp hp
  obtain ⟨a, b⟩ := hops_at hm
  rw [← pathS_V, List.getElem?_map] at a b
  obtain ⟨x, hx, ex⟩ := Option.map_eq_some_iff.mp a
  obtain ⟨y, hy, ey⟩ := Option.map_eq_some_iff.mp b
  cases ex
  cases ey
  exact ⟨h _ (List.mem_of_getElem? hx), h _ (List.mem_of_getElem? hy)⟩
/-- a cycle's parts -/
structure CycS (ps : List (Str × Str)) : Prop where
  one : 1 ≤ ps.length
  few : ps.length ≤ 8
  nm : ∀ p ∈ ps, NmOk p.1 ∧ NmOk p.2
theorem duo_sm {p : Str × Str} (h : NmOk p.1 ∧ NmOk p.2) : Sm 18 1 (duoD p) := (strs_sm (ss := [p.1, p.2]) fun s hs => by
  have : s = p.1 ∨ s = p.2 := by simpa using hs
  rcases this with e | e
  · rw [e]
    exact h.1
  · rw [e]
    exact h.2).tup
theorem duos_sm : ∀ {ps : List (Str × Str)}, (∀ p ∈ ps, NmOk p.1 ∧ NmOk p.2) → SmA (19 * ps.length) 1 (ps.map duoD)
  | [], _ => .nil _ _
  | p :: ps, h => by
    have b := duos_sm (ps := ps) fun y hy => h y (List.mem_cons_of_mem _ hy)
    exact ((SmA.one (duo_sm (h p List.mem_cons_self))).app b).mono (by rw [List.length_cons]; omega) (Nat.le_refl _)
theorem CycS.sm {ps : List (Str × Str)} (h : CycS ps) : SmA 152 1 (ps.map duoD) := (duos_sm h.nm).mono (by have := h.few; omega) (Nat.le_refl _)
def plus (S : Addr → Bool) (F : Addr) : Addr → Bool := fun c => S c || decide (c = F)
section
variable {K : PySem.W.Frag} {S : Addr → Bool} {a F : Addr} {H : Hp}
theorem plus_l (h : S a = true) : plus S F a = true := by
  unfold plus
  rw [h]
  rfl
theorem plus_r : plus S F F = true := by
  unfold plus
  simp
theorem plus_no {p : Addr} (h1 : S p = false) (h2 : p ≠ F) : plus S F p = false := by
  unfold plus
  simp [h1, h2]
theorem plus_live {o : HO} (l : Live S H) (h : H F = some o) : Live (plus S F) H := fun b hb => by
  unfold plus at hb
  have : S b = true ∨ b = F := by simpa using hb
  rcases this with e | e
  · exact l b e
  · rw [e, h]
    exact fun z => nomatch z
theorem plus_less : Same (del (plus S F) H) (del S H) := fun b o h => by
  unfold del at h ⊢
  by_cases c : S b = true
  · rw [if_pos (by unfold plus; rw [c]; rfl)] at h
    cases h
  · rw [if_neg c]
    split at h
    · cases h
    · exact h
theorem Off.less {x : V} {e : PyData} (h : Off K (plus S F) H x e) : Off K S H x e := Dt.same plus_less h
theorem dt_duo {u : Addr} {p : Str × Str} (n : S u = false) (h : H u = some (.tup [.str p.1, .str p.2])) : Off K S H (.ref u) (duoD p) := .tup (SqT.of (del_at n h)) (.cons (.str _) (.cons (.str _) .nil))
/-- pairs of texts, those objects apart -/
def Duos (S : Addr → Bool) (H : Hp) : List Addr → List (Str × Str) → Prop := Paired fun u p => S u = false ∧ H u = some (.tup [.str p.1, .str p.2])
theorem Duos.all : ∀ {us : List Addr} {ps : List (Str × Str)}, Duos S H us ps → DtAll K (del S H) (us.map V.ref) (ps.map duoD)
  | _, _, .nil => .nil
  | _, _, .cons h t => .cons (dt_duo h.1 h.2) (Duos.all t)
end
end WT

set_option Elab.async false
set_option linter.all false
set_option maxRecDepth 100000
set_option maxHeartbeats 1000000
/-! lists of values of a kind, made one by one by draws from the pot. -/
namespace WT
open PySem PySem.Spec PyProof.Rows L2
/-- only a -/
def sole (a : Addr) : Addr → Bool := fun c => decide (c = a)
theorem sole_at (a : Addr) : sole a a = true := decide_eq_true rfl
theorem sole_live {a : Addr} {H : Hp} {b : Nat} (h : PotAt H a b) : Live (sole a) H := fun c hc => by
  obtain ⟨_, _, _, e, _⟩ := h
  rw [of_decide_eq_true hc, e]
  exact fun z => nomatch z
theorem del_sole (a : Addr) (H : Hp) : But a H (del (sole a) H) := fun c o n h => del_at (decide_eq_false n) h
theorem world_off {K : PySem.W.Frag} {H : Hp} {a p r g : Addr} {as : List Addr} {rs : List Str} {gs : List Gt} {b : Nat} (h : WorldAt H p r g as rs gs) (k : PotAt H a b) : Off K (sole a) H (.ref p) (worldD rs gs) := WT.Dp.dt (dp_world (h.but k (del_sole a H)))
theorem off_plus {K : PySem.W.Frag} {S : Addr → Bool} {H : Hp} {N : Addr} {v : V} {d : PyData} (h : Off K S H v d) (n : H N = none) : Off K (plus S N) H v d := Dt.same (fun c o e => by
  unfold del at e ⊢
  split at e
  · cases e
  · rename_i z
    rw [if_neg fun k => ?_]
    · exact e
    · unfold plus at k
      rcases (Bool.or_eq_true _ _).mp k with k | k
      · exact z k
      · rw [of_decide_eq_true k, n] at e
        cases e) h
theorem but_upd {H H' : Hp} {a N : Addr} {o : HO} (h : But a H H') (n : H N = none) : But a H (upd H' N o) := fun c x nc e => by
  rw [upd_ne (ne_of_none e n)]
  exact h c x nc e
theorem pot_ne {H : Hp} {a N : Addr} {b : Nat} (h : PotAt H a b) (n : H N = none) : a ≠ N := by
  obtain ⟨p0, p1, p2, e, k⟩ := h
  exact ne_of_none e n
/-- values of a kind -/
def Vp (p : PyData → Prop) (K : PySem.W.Frag) (S : Addr → Bool) (H : Hp) (xs : List V) : Prop := ∀ x ∈ xs, ∃ e, Off K S H x e ∧ p e
section
variable {K : PySem.W.Frag} {S : Addr → Bool} {H H' : Hp} {a N : Addr} {xs ys : List V} {p q : PyData → Prop}
theorem Vp.but (h : Vp p K S H xs) (hS : S a = true) (b : But a H H') : Vp p K S H' xs := fun x hx => by
  obtain ⟨e, h1, h2⟩ := h x hx
  exact ⟨e, h1.but hS b, h2⟩
theorem Vp.same (h : Vp p K S H xs) (b : Same H H') : Vp p K S H' xs := fun x hx => by
  obtain ⟨e, h1, h2⟩ := h x hx
  exact ⟨e, h1.same b, h2⟩
theorem Vp.app (h : Vp p K S H xs) (k : Vp p K S H ys) : Vp p K S H (xs ++ ys) := fun y hy => (List.mem_append.mp hy).elim (h y) (k y)
theorem Vp.nil : Vp p K S H [] := fun x hx => absurd hx List.not_mem_nil
theorem Vp.one {x : V} {e : PyData} (h1 : Off K S H x e) (h2 : p e) : Vp p K S H [x] := fun y hy => by
  rw [List.mem_singleton.mp hy]
  exact ⟨e, h1, h2⟩
theorem Vp.minus (h : Vp p K (plus S N) H xs) : Vp p K S H xs := fun x hx => by
  obtain ⟨e, h1, h2⟩ := h x hx
  exact ⟨e, Dt.same plus_less h1, h2⟩
theorem Vp.plus (h : Vp p K S H xs) (n : H N = none) : Vp p K (plus S N) H xs := fun x hx => by
  obtain ⟨e, h1, h2⟩ := h x hx
  exact ⟨e, off_plus h1 n, h2⟩
theorem Vp.imp (h : Vp p K S H xs) (k : ∀ e, p e → q e) : Vp q K S H xs := fun x hx => by
  obtain ⟨e, h1, h2⟩ := h x hx
  exact ⟨e, h1, k e h2⟩
theorem Vp.sub (h : Vp p K S H xs) (k : ∀ y ∈ ys, y ∈ xs) : Vp p K S H ys := fun x hx => h x (k x hx)
theorem Vp.cons {x : V} {e : PyData} (h1 : Off K S H x e) (h2 : p e) (h : Vp p K S H xs) : Vp p K S H (x :: xs) := fun y hy => by
  rcases List.mem_cons.mp hy with rfl | hy
  · exact ⟨e, h1, h2⟩
  · exact h y hy
/-- as data, in order -/
theorem Vp.all : ∀ {xs : List V}, Vp p K S H xs → ∃ ds, DtAll K (del S H) xs ds ∧ ∀ d ∈ ds, p d
  | [], _ => ⟨[], .nil, fun d hd => absurd hd List.not_mem_nil⟩
  | x :: xs, h => by
    obtain ⟨e, h1, h2⟩ := h x List.mem_cons_self
    obtain ⟨ds, k1, k2⟩ := Vp.all (xs := xs) fun y hy => h y (List.mem_cons_of_mem _ hy)
    refine ⟨e :: ds, .cons h1 k1, fun d hd => ?_⟩
    rcases List.mem_cons.mp hd with rfl | hd
    · exact h2
    · exact k2 d hd
end
/-- a comprehension whose items are drawn one by one -/
theorem lc_grow {K : PySem.W.Frag} {J : It} {n : Nat} {G : Hp → Prop} {Y : Nat → Hp → V → Hp → Prop} (w : Walk J n G Y) {g : TG} {tt : L2.TT} {te : TE} {vs : List Nat} {σ : L2.St} {H1 : Hp} {D a : Addr} {Qd : Hp → Prop} (p : PyData → Prop) {b0 : Nat} (c : Nat) (hp : PotAt H1 a b0) (nD : H1 D = none) (hz : n ≤ 4000)
    (hG : ∀ H, But a H1 H → G H) (hY : ∀ j H v H', Y j H v H' → H' = H)
    (hs : ∀ (j : Nat) (v : V) (H2 : Hp) (b2 : Nat) (k : VK) (e : Hp → Prop), j < n → But a H1 H2 → PotAt H2 a b2 → b2 ≤ b0 + c * n → Live (plus (sole a) D) H2 → Y j H2 v H2 →
      (∀ H4 x e b4, But a H2 H4 → PotAt H4 a b4 → b4 ≤ b2 + c → Off K (plus (sole a) D) H4 x e → p e → k x H4) →
      g v (wipe σ vs) H2 fun σ2 H2 => wipe σ2 vs = wipe σ vs ∧ tt σ2 H2 fun t H3 => if t = true then te σ2 H3 k else e H3)
    (hd : ∀ H xs b', But a H1 H → PotAt H a b' → b' ≤ b0 + c * n → H D = some (.lst xs) → xs.length ≤ n → Vp p K (sole a) H xs → Qd H) :
    ∃ W : Nat → Nat → Hp → Prop, (∃ m, W 0 m (upd H1 D (.lst []))) ∧ ∀ i m H, W i m H →
      (J.stop i H ∧ Qd H) ∨ (J.go i H ∧ ∃ Nx : Hp → Prop, (∀ H', Nx H' → ∃ m', m' < m ∧ W (i + 1) m' H') ∧ ∀ x H', J.yld i H x H' → g x (wipe σ vs) H' fun σ2 H2 => wipe σ2 vs = wipe σ vs ∧ tt σ2 H2 fun b H3 =>
        if b = true then te σ2 H3 fun y H4 => ∃ acc, H4 D = some (.lst acc) ∧ acc.length < sizeLine ∧ Nx (upd H4 D (.lst (acc ++ [y]))) else Nx H3) := by
  have Da := pot_ne hp nD
  refine lc_it w (fun m H => But a H1 H ∧ (∃ b', PotAt H a b' ∧ b' ≤ b0 + c * m) ∧ m ≤ n ∧ ∃ xs, H D = some (.lst xs) ∧ xs.length ≤ m ∧ Vp p K (plus (sole a) D) H xs) ⟨but_upd (But.refl _ _) nD, ⟨b0, WT.pot_upd hp Da, by omega⟩, Nat.zero_le _, [], upd_same, Nat.le_refl _, Vp.nil⟩
    (fun _ H _ h => hG H h.1) (fun i x H H' hi hP hy => ?_) fun H hP => ?_
  · obtain ⟨bt, ⟨b', pt, hb⟩, hm, xs, hD, lx, vp⟩ := hP
    have e := hY i H x H' hy
    subst e
    have cn : c * i ≤ c * n := Nat.mul_le_mul_left c hm
    refine hs i x H' b' _ _ hi bt pt (by omega) (plus_live (sole_live pt) hD) hy fun H4 y e b4 bt4 pt4 hb4 oe pe => ?_
    have hD4 := bt4 _ _ (Ne.symm Da) hD
    refine ⟨xs, hD4, Nat.lt_of_le_of_lt (show xs.length ≤ 4000 by omega) (by decide), but_upd (bt.trans bt4) nD, ⟨b4, WT.pot_upd pt4 Da, by rw [Nat.mul_succ]; omega⟩, hi, _, upd_same, by rw [List.length_append, List.length_singleton]; omega, ?_⟩
    exact Vp.but ((vp.but (plus_l (sole_at a)) bt4).app (Vp.one oe pe)) plus_r But.upd
  · obtain ⟨bt, ⟨b', pt, hb⟩, hm, xs, hD, lx, vp⟩ := hP
    exact hd H xs b' bt pt hb hD lx vp.minus
/-- [x for x in xs if x is not None] -/
theorem lc_some {J : It} {n : Nat} {G : Hp → Prop} {Y : Nat → Hp → V → Hp → Prop} (w : Walk J n G Y) {g : TG} {tt : L2.TT} {te : TE} {vs : List Nat} {σ : L2.St} {H1 : Hp} {D : Addr} {Qd : Hp → Prop} (xs : List V) (nD : H1 D = none) (hz : n ≤ 4000)
    (hG : ∀ H, Same H1 H → G H) (hY : ∀ j H v H', Y j H v H' → H' = H ∧ xs[j]? = some v)
    (hs : ∀ (j : Nat) (v : V) (H2 : Hp) (k : VK) (e : Hp → Prop), xs[j]? = some v → Same H1 H2 → (v ≠ .non → k v H2) → (v = .non → e H2) →
      g v (wipe σ vs) H2 fun σ2 H2 => wipe σ2 vs = wipe σ vs ∧ tt σ2 H2 fun t H3 => if t = true then te σ2 H3 k else e H3)
    (hd : ∀ H ys, Same H1 H → H D = some (.lst ys) → ys.length ≤ n → (∀ y ∈ ys, y ∈ xs ∧ y ≠ .non) → Qd H) :
    ∃ W : Nat → Nat → Hp → Prop, (∃ m, W 0 m (upd H1 D (.lst []))) ∧ ∀ i m H, W i m H →
      (J.stop i H ∧ Qd H) ∨ (J.go i H ∧ ∃ Nx : Hp → Prop, (∀ H', Nx H' → ∃ m', m' < m ∧ W (i + 1) m' H') ∧ ∀ x H', J.yld i H x H' → g x (wipe σ vs) H' fun σ2 H2 => wipe σ2 vs = wipe σ vs ∧ tt σ2 H2 fun b H3 =>
        if b = true then te σ2 H3 fun y H4 => ∃ acc, H4 D = some (.lst acc) ∧ acc.length < sizeLine ∧ Nx (upd H4 D (.lst (acc ++ [y]))) else Nx H3) := by
  refine lc_it w (fun m H => Same H1 H ∧ m ≤ n ∧ ∃ ys, H D = some (.lst ys) ∧ ys.length ≤ m ∧ ∀ y ∈ ys, y ∈ xs ∧ y ≠ .non) ⟨same_new nD, Nat.zero_le _, [], upd_same, Nat.le_refl _, fun y hy => absurd hy List.not_mem_nil⟩
    (fun _ H _ h => hG H h.1) (fun i x H H' hi hP hy => ?_) fun H hP => ?_
  · obtain ⟨s, hm, ys, hD, ly, hin⟩ := hP
    obtain ⟨e, hx⟩ := hY i H x H' hy
    subst e
    refine hs i x H' _ _ hx s (fun nx => ?_) fun _ => ⟨s, hi, ys, hD, by omega, hin⟩
    refine ⟨ys, hD, Nat.lt_of_le_of_lt (show ys.length ≤ 4000 by omega) (by decide), fun c o ed => ?_, hi, _, upd_same, by rw [List.length_append, List.length_singleton]; omega, fun y hy => ?_⟩
    · rw [upd_ne (ne_of_none ed nD)]
      exact s _ _ ed
    · rcases List.mem_append.mp hy with hy | hy
      · exact hin y hy
      · rw [List.mem_singleton.mp hy]
        exact ⟨List.mem_of_getElem? hx, nx⟩
  · obtain ⟨s, hm, ys, hD, ly, hin⟩ := hP
    exact hd H ys s hD ly hin
end WT

set_option Elab.async false
set_option linter.all false
set_option maxRecDepth 100000
/-! a comprehension of new tuples of texts. -/
namespace WT
open PySem PySem.Spec PyProof.Rows L2
theorem tup_inj {l m : List Str} (h : tupD l = tupD m) : l = m := by
  injection h with h
  exact go h
where go : ∀ {l m : List Str}, l.map PyData.str = m.map PyData.str → l = m
  | [], [], _ => rfl
  | [], _ :: _, h => by cases h
  | _ :: _, [], h => by cases h
  | a :: l, b :: m, h => by
    obtain ⟨h1, h2⟩ := List.cons.inj h
    rw [PyData.str.inj h1, go h2]
theorem gate_eq {gs : List Gt} (nd : (gs.map (·.1)).Nodup) {g g2 : Gt} (hg : g ∈ gs) (h2 : g2 ∈ gs) (e2 : g.1 = g2.1) : g = g2 := by
  obtain ⟨i, hi, rfl⟩ := List.getElem_of_mem hg
  obtain ⟨j, hj, rfl⟩ := List.getElem_of_mem h2
  have q : i = j := by
    rcases Nat.lt_trichotomy i j with lt | e | lt
    · exact absurd e2 (List.pairwise_iff_getElem.mp (List.pairwise_map.mp nd) i j hi hj lt)
    · exact e
    · exact absurd e2.symm (List.pairwise_iff_getElem.mp (List.pairwise_map.mp nd) j i hj hi lt)
  subst q
  rfl
theorem lc_tups {J : It} {n : Nat} {G : Hp → Prop} {Y : Nat → Hp → V → Hp → Prop} (w : Walk J n G Y) {g : TG} {tt : L2.TT} {te : TE} {vs : List Nat} {σ : L2.St} {H1 : Hp} {D : Addr} {Qd : Hp → Prop} (ls : List (List Str)) (hl : ls.length = n) (hz : n ≤ 40001) (nD : H1 D = none) (hG : ∀ H, Same H1 H → G H)
    (hs : ∀ (i : Nat) (x : V) (l : List Str) (H2 H3 : Hp) (k : VK) (e : Hp → Prop), ls[i]? = some l → Same H1 H2 → Y i H2 x H3 → (∀ t H4, Same H2 H4 → H4 t = some (.tup (l.map V.str)) → k (.ref t) H4) →
      g x (wipe σ vs) H3 fun σ2 H2 => wipe σ2 vs = wipe σ vs ∧ tt σ2 H2 fun t H3 => if t = true then te σ2 H3 k else e H3)
    (hd : ∀ H ts, Same H1 H → H D = some (.lst (ts.map V.ref)) → TupsAt H ts ls → Qd H) :
    ∃ W : Nat → Nat → Hp → Prop, (∃ m, W 0 m (upd H1 D (.lst []))) ∧ ∀ i m H, W i m H →
      (J.stop i H ∧ Qd H) ∨ (J.go i H ∧ ∃ Nx : Hp → Prop, (∀ H', Nx H' → ∃ m', m' < m ∧ W (i + 1) m' H') ∧ ∀ x H', J.yld i H x H' → g x (wipe σ vs) H' fun σ2 H2 => wipe σ2 vs = wipe σ vs ∧ tt σ2 H2 fun b H3 =>
        if b = true then te σ2 H3 fun y H4 => ∃ acc, H4 D = some (.lst acc) ∧ acc.length < sizeLine ∧ Nx (upd H4 D (.lst (acc ++ [y]))) else Nx H3) := by
  refine lc_it w (fun m H => Same H1 H ∧ ∃ ts : List Addr, H D = some (.lst (ts.map V.ref)) ∧ TupsAt H ts (ls.take m)) ⟨same_new nD, [], upd_same, .nil⟩ (fun _ H _ h => hG H h.1) (fun i x H H' hi hP hy => ?_) fun H hP => ?_
  · obtain ⟨s2, ts, hD, hp⟩ := hP
    have hb : ls[i]? = some (ls[i]'(by omega)) := List.getElem?_eq_getElem _
    refine hs i x _ H H' _ _ hb s2 hy fun t H4 s4 ht => ⟨_, s4 _ _ hD, ?_, fun c o ed => ?_, ts ++ [t], ?_, ?_⟩
    · have := Paired.length hp
      rw [List.length_take] at this
      rw [List.length_map]
      exact Nat.lt_of_le_of_lt (show ts.length ≤ 50000 by omega) (by decide)
    · rw [upd_ne (ne_of_none ed nD)]
      exact s4 _ _ (s2 _ _ ed)
    · rw [upd_same, List.map_append]
      rfl
    · have keep : ∀ (c : Addr) (xs : List V) (o : HO), H4 c = some (.tup xs) → upd H4 D o c = some (.tup xs) := fun c xs o e => by
        rw [upd_ne (ne_of e (s4 _ _ hD) (by intro z; cases z))]
        exact e
      rw [List.take_add_one, hb]
      exact pair_snoc (Paired.mapP hp fun a b z => keep _ _ _ (s4 _ _ z)) (keep _ _ _ ht)
  · obtain ⟨s2, ts, hD, hp⟩ := hP
    rw [← hl, List.take_length] at hp
    exact hd H ts s2 hD hp
theorem lc_gatesP {J : It} {n : Nat} {G : Hp → Prop} {Y : Nat → Hp → V → Hp → Prop} (w : Walk J n G Y) {g : TG} {tt : L2.TT} {te : TE} {vs : List Nat} {σ : L2.St} {H1 : Hp} {D : Addr} {Qd : Hp → Prop} (p : Gt → Bool) (as : List Addr) (gs : List Gt) (pr : Paired (GateAt H1) as gs) (hl : gs.length = n) (nD : H1 D = none) (hz : n ≤ 4000)
    (hG : ∀ H, Same H1 H → G H) (hY : ∀ j H v H', Y j H v H' → H' = H ∧ (as.map V.ref)[j]? = some v)
    (hs : ∀ (j : Nat) (t ia : Addr) (gg : Gt) (H2 : Hp) (k : VK) (e : Hp → Prop), gg ∈ gs → Same H1 H2 → H2 t = some (.tup [.str gg.1, .ref ia, .str gg.2.2]) → H2 ia = some (.tup (gg.2.1.map V.str)) → (p gg = true → ∀ H4, Same H2 H4 → k (.ref t) H4) → (p gg = false → ∀ H4, Same H2 H4 → e H4) →
      g (.ref t) (wipe σ vs) H2 fun σ2 H2 => wipe σ2 vs = wipe σ vs ∧ tt σ2 H2 fun t H3 => if t = true then te σ2 H3 k else e H3)
    (hd : ∀ H bs, Same H1 H → H D = some (.lst (bs.map V.ref)) → Paired (GateAt H) bs (gs.filter p) → Qd H) :
    ∃ W : Nat → Nat → Hp → Prop, (∃ m, W 0 m (upd H1 D (.lst []))) ∧ ∀ i m H, W i m H →
      (J.stop i H ∧ Qd H) ∨ (J.go i H ∧ ∃ Nx : Hp → Prop, (∀ H', Nx H' → ∃ m', m' < m ∧ W (i + 1) m' H') ∧ ∀ x H', J.yld i H x H' → g x (wipe σ vs) H' fun σ2 H2 => wipe σ2 vs = wipe σ vs ∧ tt σ2 H2 fun b H3 =>
        if b = true then te σ2 H3 fun y H4 => ∃ acc, H4 D = some (.lst acc) ∧ acc.length < sizeLine ∧ Nx (upd H4 D (.lst (acc ++ [y]))) else Nx H3) := by
  refine lc_it w (fun m H => Same H1 H ∧ ∃ bs, H D = some (.lst (bs.map V.ref)) ∧ Paired (GateAt H) bs ((gs.take m).filter p)) ⟨same_new nD, [], upd_same, .nil⟩
    (fun _ H _ h => hG H h.1) (fun i x H H' hi hP hy => ?_) fun H hP => ?_
  · obtain ⟨s, bs, hD, pb⟩ := hP
    obtain ⟨e, hx⟩ := hY i H x H' hy
    subst e
    rw [List.getElem?_map] at hx
    obtain ⟨t, ht, rfl⟩ := Option.map_eq_some_iff.mp hx
    obtain ⟨gg, hgg, ia, e1, e2⟩ := pair_at (Paired.mapP pr fun _ _ z => z.same s) ht
    have hgm := List.mem_of_getElem? hgg
    have lb : bs.length ≤ i := by
      rw [Paired.length pb]
      exact Nat.le_trans (List.length_filter_le _ _) (by rw [List.length_take]; exact Nat.min_le_left _ _)
    have tk : ∀ b, p gg = b → (gs.take (i + 1)).filter p = (gs.take i).filter p ++ (if b = true then [gg] else []) := fun b eb => by
      rw [List.take_add_one, hgg, List.filter_append]
      cases b <;> simp [eb]
    refine hs i t ia gg H' _ _ hgm s e1 e2 (fun pt H4 s4 => ?_) fun pf H4 s4 => ⟨s.trans s4, bs, s4 _ _ hD, by rw [tk _ pf]; simpa using Paired.mapP pb fun _ _ z => z.same s4⟩
    have hD4 := s4 _ _ hD
    have keep : ∀ (c : Addr) (xs : List V) (o : HO), H4 c = some (.tup xs) → upd H4 D o c = some (.tup xs) := fun c xs o e => by
      rw [upd_ne (ne_of e hD4 (by intro z; cases z))]
      exact e
    refine ⟨_, hD4, by rw [List.length_map]; exact Nat.lt_of_le_of_lt (show bs.length ≤ 4000 by omega) (by decide), fun c o ed => ?_, bs ++ [t], by rw [upd_same, List.map_append]; rfl, ?_⟩
    · rw [upd_ne (ne_of_none ed nD)]
      exact s4 _ _ (s _ _ ed)
    · rw [tk _ pt, if_pos rfl]
      exact pair_snoc (Paired.mapP pb fun _ _ ⟨i, k1, k2⟩ => ⟨i, keep _ _ _ (s4 _ _ k1), keep _ _ _ (s4 _ _ k2)⟩) ⟨ia, keep _ _ _ (s4 _ _ e1), keep _ _ _ (s4 _ _ e2)⟩
  · obtain ⟨s, bs, hD, pb⟩ := hP
    rw [← hl, List.take_length] at pb
    exact hd H bs s hD pb
end WT

set_option Elab.async false
set_option linter.all false
set_option maxRecDepth 100000
set_option maxHeartbeats 4000000
/-! a law's own way to say what a name, ascending names and a world are, and that it is the same. -/
namespace WT
open PySem PySem.Spec PyProof.Rows L2
theorem eqvA_strs : ∀ (a b : List Str), PyData.eqvAll (a.map PyData.str) (b.map PyData.str) = decide (a = b)
  | [], [] => by decide +kernel
  | [], _ :: _ => by
    rw [List.map_nil, List.map_cons, PyData.eqvAll]
    rfl
  | _ :: _, [] => by
    rw [List.map_nil, List.map_cons, PyData.eqvAll]
    rfl
  | x :: a, y :: b => by
    rw [List.map_cons, List.map_cons, PyData.eqvAll, eqvA_strs a b, PyData.eqv]
    by_cases h : x = y
    · subst h
      by_cases k : a = b
      · subst k
        simp
      · simp [k]
    · rw [show (x == y) = false from beq_eq_false_iff_ne.mpr h]
      simp [h]
theorem eqv_strs (a b : List Str) : PyData.eqv (.list (a.map PyData.str)) (.list (b.map PyData.str)) = decide (a = b) := by
  rw [PyData.eqv, eqvA_strs]
theorem Bef.irr {x : Str} (h : Bef x x) : False := h.ne rfl
theorem asc_ext : ∀ {a b : List Str}, AscS a → AscS b → (∀ y, y ∈ a ↔ y ∈ b) → a = b
  | [], [], _, _, _ => rfl
  | [], y :: _, _, _, h => absurd ((h y).mpr List.mem_cons_self) List.not_mem_nil
  | x :: _, [], _, _, h => absurd ((h x).mp List.mem_cons_self) List.not_mem_nil
  | x :: a, y :: b, ha, hb, h => by
    obtain ⟨a1, a2⟩ := List.pairwise_cons.mp ha
    obtain ⟨b1, b2⟩ := List.pairwise_cons.mp hb
    have e : x = y := by
      rcases List.mem_cons.mp ((h x).mp List.mem_cons_self) with e | e
      · exact e
      · rcases List.mem_cons.mp ((h y).mpr List.mem_cons_self) with e2 | e2
        · exact e2.symm
        · exact ((b1 x e).trans (a1 y e2)).irr.elim
    subst e
    have t : a = b := asc_ext a2 b2 fun y => by
      constructor
      · intro hy
        rcases List.mem_cons.mp ((h y).mp (List.mem_cons_of_mem _ hy)) with e | e
        · subst e
          exact ((a1 y hy).irr).elim
        · exact e
      · intro hy
        rcases List.mem_cons.mp ((h y).mpr (List.mem_cons_of_mem _ hy)) with e | e
        · subst e
          exact ((b1 y hy).irr).elim
        · exact e
    rw [t]
theorem sub_len : ∀ {a b : List Str}, a.Nodup → (∀ y ∈ a, y ∈ b) → a.length ≤ b.length
  | [], _, _, _ => Nat.zero_le _
  | x :: a, b, nd, h => by
    obtain ⟨n1, n2⟩ := List.nodup_cons.mp nd
    have hx := h x List.mem_cons_self
    have k : ∀ y ∈ a, y ∈ b.erase x := fun y hy => (List.mem_erase_of_ne fun e => n1 (by rw [← e]; exact hy)).mpr (h y (List.mem_cons_of_mem _ hy))
    have := sub_len n2 k
    rw [List.length_erase_of_mem hx] at this
    have p := List.length_pos_of_mem hx
    rw [List.length_cons]
    omega
/-- xs == sorted(set(xs)) -/
theorem srt_eq {ss zs : List Str} (h : sortedS zs = true) (nd : zs.Nodup) (e : ∀ y, y ∈ zs ↔ y ∈ ss) : PyData.eqv (.list (ss.map PyData.str)) (.list (zs.map PyData.str)) = adjB ss := by
  rw [eqv_strs]
  have az := asc_of h nd
  cases c : adjB ss with
  | true => exact decide_eq_true (asc_ext ((adjB_iff ss).mp c) az fun y => (e y).symm)
  | false =>
    refine decide_eq_false fun z => ?_
    subst z
    rw [(adjB_iff ss).mpr az] at c
    cases c
theorem nm_asc {s : Str} (h : nmB s = true) : Asc s := fun c hc => by
  unfold nmB at h
  rw [Bool.and_eq_true, List.all_map, List.all_eq_true] at h
  have k : c ∈ alpha.cps.toList := of_decide_eq_true (h.2 c hc)
  have all : ∀ c ∈ alpha.cps.toList, c < 128 := by decide +kernel
  exact all c k
theorem nm_ok {s : Str} (h : nmB s = true) : PyData.strOk s = true := Nr.strOk (nm_asc h)
/-- so many ascending names -/
def namD (lo hi : Nat) : PyData → Bool
  | .tuple ds => decide (lo ≤ ds.length ∧ ds.length ≤ hi) && ((ds.map nmD).all id && adjB (txts ds))
  | _ => false
theorem namD_reg (d : PyData) : namD 1 10 d = regD d := by
  cases d <;> rfl
/-- a gateway as the law sees it -/
def gatL (rs : List Str) : PyData → Bool
  | .tuple [n, m, k] => nmD n && (namD 2 10 m && ((partsD m).map fun d => isIn d rs).all id) && (isTxt k && isIn k kinds2)
  | _ => false
theorem isIn_txt {d : PyData} {ss : List Str} (h : isIn d ss = true) : isTxt d = true := by
  cases d <;> first | rfl | cases h
theorem nam_mem {rs : List Str} (hn : ∀ s ∈ rs, nmB s = true) (hl : rs.length ≤ 10) (m : PyData) : (namD 2 10 m && ((partsD m).map fun d => isIn d rs).all id) = memD rs m := by
  cases m with
  | tuple ds =>
    show (namD 2 10 (.tuple ds) && (ds.map fun d => isIn d rs).all id) = (decide (2 ≤ ds.length) && ((ds.map fun d => isIn d rs).all id && adjB (txts ds)))
    cases c : (ds.map fun d => isIn d rs).all id with
    | false => simp
    | true =>
      obtain ⟨ss, rfl, hin⟩ := (all_in_iff ds).mp c
      show ((decide (2 ≤ (ss.map PyData.str).length ∧ (ss.map PyData.str).length ≤ 10) && (((ss.map PyData.str).map nmD).all id && adjB (txts (ss.map PyData.str)))) && true) = _
      rw [txts_strs, Bool.and_true, Bool.true_and, List.length_map]
      have a : ((ss.map PyData.str).map nmD).all id = true := by
        rw [List.map_map, List.all_map, List.all_eq_true]
        exact fun s hs => hn s (hin s hs)
      rw [a, Bool.true_and]
      cases k : adjB ss with
      | false => simp
      | true =>
        have := sub_len ((adjB_iff ss).mp k).nodup hin
        by_cases g : 2 ≤ ss.length
        · rw [decide_eq_true g, decide_eq_true (show 2 ≤ ss.length ∧ ss.length ≤ 10 by omega)]
        · rw [decide_eq_false g, decide_eq_false (fun z => g z.1)]
  | _ => rfl
theorem gatL_eq {rs : List Str} (hn : ∀ s ∈ rs, nmB s = true) (hl : rs.length ≤ 10) (d : PyData) : gatL rs d = gatD rs d := by
  match d with
  | .tuple [n, m, k] =>
    show (nmD n && (namD 2 10 m && ((partsD m).map fun d => isIn d rs).all id) && (isTxt k && isIn k kinds2)) = (nmD n && (memD rs m && isIn k kinds2))
    rw [nam_mem hn hl, Bool.and_assoc]
    cases c : isIn k kinds2 with
    | true => rw [isIn_txt c]; rfl
    | false => rw [Bool.and_false]
  | .tuple [] => rfl
  | .tuple [_] => rfl
  | .tuple [_, _] => rfl
  | .tuple (_ :: _ :: _ :: _ :: _) => rfl
  | .none => rfl
  | .bool _ => rfl
  | .int _ => rfl
  | .str _ => rfl
  | .list _ => rfl
  | .dict _ => rfl
end WT

set_option Elab.async false
set_option linter.all false
set_option maxRecDepth 100000
set_option maxHeartbeats 1000000
/-! steps of any data, as the program says it by roles, and what that is word by word. -/
namespace WT
open PySem PySem.Spec PyProof.Rows L2
/-- the wrapping gateways -/
def wrapsW (gs : List Gt) : List Str := (gs.filter fun g : Gt => decide (g.2.2 = ("wrap" : Str))).map (·.1)
def isInt : PyData → Bool
  | .int _ => true
  | _ => false
def isBoo : PyData → Bool
  | .bool _ => true
  | _ => false
def isNum : PyData → Bool
  | .int _ => true
  | .bool _ => true
  | _ => false
theorem num_not_boo (d : PyData) : (isNum d && !isBoo d) = isInt d := by
  cases d <;> rfl
theorem kit_int : ∀ d : PyData, kitB (tyD d) "int" = some (isNum d)
  | .none => show kitB "NoneType" "int" = some false by decide +kernel
  | .bool _ => show kitB "bool" "int" = some true by decide +kernel
  | .int _ => show kitB "int" "int" = some true by decide +kernel
  | .str _ => show kitB "str" "int" = some false by decide +kernel
  | .list _ => show kitB "list" "int" = some false by decide +kernel
  | .tuple _ => show kitB "tuple" "int" = some false by decide +kernel
  | .dict _ => show kitB "dict" "int" = some false by decide +kernel
theorem kit_bool : ∀ d : PyData, kitB (tyD d) "bool" = some (isBoo d)
  | .none => show kitB "NoneType" "bool" = some false by decide +kernel
  | .bool _ => show kitB "bool" "bool" = some true by decide +kernel
  | .int _ => show kitB "int" "bool" = some false by decide +kernel
  | .str _ => show kitB "str" "bool" = some false by decide +kernel
  | .list _ => show kitB "list" "bool" = some false by decide +kernel
  | .tuple _ => show kitB "tuple" "bool" = some false by decide +kernel
  | .dict _ => show kitB "dict" "bool" = some false by decide +kernel
/-- a text other than root -/
def notRoot : PyData → Bool
  | .str s => !decide (s = ("root" : Str))
  | _ => true
/-- whether data plays a role -/
def partD (rs : List Str) (gs : List Gt) (role : Str) (d : PyData) : Bool :=
  if role = ("region" : Str) then isIn d rs else if role = ("gateway" : Str) then isIn d (gs.map (·.1)) else if role = ("wrapping" : Str) then isIn d (wrapsW gs)
  else if role = ("integer" : Str) then isInt d else if role = ("assigned" : Str) then nmD d && notRoot d else nmD d
section
variable {rs : List Str} {gs : List Gt} {d : PyData}
theorem part_region : partD rs gs "region" d = isIn d rs := by
  unfold partD
  rw [if_pos rfl]
theorem part_gateway : partD rs gs "gateway" d = isIn d (gs.map (·.1)) := by
  unfold partD
  rw [if_neg (by decide +kernel), if_pos rfl]
theorem part_wrapping : partD rs gs "wrapping" d = isIn d (wrapsW gs) := by
  unfold partD
  rw [if_neg (by decide +kernel), if_neg (by decide +kernel), if_pos rfl]
theorem part_integer : partD rs gs "integer" d = isInt d := by
  unfold partD
  rw [if_neg (by decide +kernel), if_neg (by decide +kernel), if_neg (by decide +kernel), if_pos rfl]
theorem part_assigned : partD rs gs "assigned" d = (nmD d && notRoot d) := by
  unfold partD
  rw [if_neg (by decide +kernel), if_neg (by decide +kernel), if_neg (by decide +kernel), if_neg (by decide +kernel), if_pos rfl]
theorem part_name : partD rs gs "name" d = nmD d := by
  unfold partD
  rw [if_neg (by decide +kernel), if_neg (by decide +kernel), if_neg (by decide +kernel), if_neg (by decide +kernel), if_neg (by decide +kernel)]
end
/-- the roles of the parts behind each word -/
def rolesL : List (Str × List Str) := [("new", ["region", "assigned"]), ("number", ["region", "assigned", "integer"]), ("drop", ["region", "assigned"]), ("enter", ["region", "assigned", "gateway", "region"]),
  ("put", ["region", "name", "name", "name"]), ("get", ["region", "name", "name", "assigned"]), ("same", ["region", "name", "name"]), ("revoke", ["wrapping"])]
def rolesOf (w : Str) : Option (List Str) := (rolesL.find? fun p => decide (p.1 = w)).map (·.2)
/-- whether the gateway leads from the one to the other -/
def leadsD (gs : List Gt) : List PyData → Bool
  | [.str r, _, .str g, .str s] => (gs.any fun x : Gt => decide (x.1 = g) && (decide (s ∈ x.2.1) && decide (r ∈ x.2.1))) && !decide (s = r)
  | _ => false
def stepD (rs : List Str) (gs : List Gt) : PyData → Bool
  | .tuple (.str w :: ds) => match rolesOf w with
    | none => false
    | some rl => decide (ds.length = rl.length) && (((rl.zip ds).map fun p => partD rs gs p.1 p.2).all id && (!decide (w = ("enter" : Str)) || leadsD gs ds))
  | _ => false
theorem step_cons {rs : List Str} {gs : List Gt} {w : Str} {ds : List PyData} {rl : List Str} (e : rolesOf w = some rl) :
    stepD rs gs (.tuple (.str w :: ds)) = (decide (ds.length = rl.length) && (((rl.zip ds).map fun p => partD rs gs p.1 p.2).all id && (!decide (w = ("enter" : Str)) || leadsD gs ds))) := by
  show (match rolesOf w with | none => false | some rl => _) = _
  rw [e]
theorem step_none {rs : List Str} {gs : List Gt} {w : Str} {ds : List PyData} (e : rolesOf w = none) : stepD rs gs (.tuple (.str w :: ds)) = false := by
  show (match rolesOf w with | none => false | some rl => _) = _
  rw [e]
theorem roles_none {w : Str} (h : ∀ p ∈ rolesL, p.1 ≠ w) : rolesOf w = none := by
  unfold rolesOf
  rw [List.find?_eq_none.mpr fun p hp => by simpa using h p hp]
  rfl
theorem step_short {rs : List Str} {gs : List Gt} {d : PyData} (h : ∀ (w : Str) (ds : List PyData), d ≠ .tuple (.str w :: ds)) : stepD rs gs d = false := by
  unfold stepD
  split
  · rename_i w ds
    exact absurd rfl (h w ds)
  · rfl
/-- only of the right length -/
theorem step_len {rs : List Str} {gs : List Gt} {w : Str} {ds : List PyData} {rl : List Str} (e : rolesOf w = some rl) (h : ds.length ≠ rl.length) : stepD rs gs (.tuple (.str w :: ds)) = false := by
  rw [step_cons e, decide_eq_false h, Bool.false_and]
section
variable {rs : List Str} {gs : List Gt} {a x y z : PyData} {w : Str}
theorem step_new : stepD rs gs (.tuple [.str "new", a, x]) = (isIn a rs && (nmD x && notRoot x)) := by
  rw [step_cons (rl := ["region", "assigned"]) (by decide +kernel)]
  simp only [List.zip_cons_cons, List.zip_nil_left, List.map_cons, List.map_nil, List.all_cons, List.all_nil, part_region, part_assigned, id, Bool.and_true, List.length_cons, List.length_nil]
  rw [decide_eq_false (show ¬ ("new" : Str) = "enter" by decide +kernel)]
  simp
theorem step_drop : stepD rs gs (.tuple [.str "drop", a, x]) = (isIn a rs && (nmD x && notRoot x)) := by
  rw [step_cons (rl := ["region", "assigned"]) (by decide +kernel)]
  simp only [List.zip_cons_cons, List.zip_nil_left, List.map_cons, List.map_nil, List.all_cons, List.all_nil, part_region, part_assigned, id, Bool.and_true, List.length_cons, List.length_nil]
  rw [decide_eq_false (show ¬ ("drop" : Str) = "enter" by decide +kernel)]
  simp
theorem step_number : stepD rs gs (.tuple [.str "number", a, x, y]) = (isIn a rs && ((nmD x && notRoot x) && isInt y)) := by
  rw [step_cons (rl := ["region", "assigned", "integer"]) (by decide +kernel)]
  simp only [List.zip_cons_cons, List.zip_nil_left, List.map_cons, List.map_nil, List.all_cons, List.all_nil, part_region, part_assigned, part_integer, id, Bool.and_true, List.length_cons, List.length_nil]
  rw [decide_eq_false (show ¬ ("number" : Str) = "enter" by decide +kernel)]
  simp
theorem step_same : stepD rs gs (.tuple [.str "same", a, x, y]) = (isIn a rs && (nmD x && nmD y)) := by
  rw [step_cons (rl := ["region", "name", "name"]) (by decide +kernel)]
  simp only [List.zip_cons_cons, List.zip_nil_left, List.map_cons, List.map_nil, List.all_cons, List.all_nil, part_region, part_name, id, Bool.and_true, List.length_cons, List.length_nil]
  rw [decide_eq_false (show ¬ ("same" : Str) = "enter" by decide +kernel)]
  simp
theorem step_put : stepD rs gs (.tuple [.str "put", a, x, y, z]) = (isIn a rs && (nmD x && (nmD y && nmD z))) := by
  rw [step_cons (rl := ["region", "name", "name", "name"]) (by decide +kernel)]
  simp only [List.zip_cons_cons, List.zip_nil_left, List.map_cons, List.map_nil, List.all_cons, List.all_nil, part_region, part_name, id, Bool.and_true, List.length_cons, List.length_nil]
  rw [decide_eq_false (show ¬ ("put" : Str) = "enter" by decide +kernel)]
  simp
theorem step_get : stepD rs gs (.tuple [.str "get", a, x, y, z]) = (isIn a rs && (nmD x && (nmD y && (nmD z && notRoot z)))) := by
  rw [step_cons (rl := ["region", "name", "name", "assigned"]) (by decide +kernel)]
  simp only [List.zip_cons_cons, List.zip_nil_left, List.map_cons, List.map_nil, List.all_cons, List.all_nil, part_region, part_name, part_assigned, id, Bool.and_true, List.length_cons, List.length_nil]
  rw [decide_eq_false (show ¬ ("get" : Str) = "enter" by decide +kernel)]
  simp
theorem step_enter : stepD rs gs (.tuple [.str "enter", a, x, y, z]) = (isIn a rs && ((nmD x && notRoot x) && (isIn y (gs.map (·.1)) && (isIn z rs && leadsD gs [a, x, y, z])))) := by
  rw [step_cons (rl := ["region", "assigned", "gateway", "region"]) (by decide +kernel)]
  simp only [List.zip_cons_cons, List.zip_nil_left, List.map_cons, List.map_nil, List.all_cons, List.all_nil, part_region, part_gateway, part_assigned, id, Bool.and_true, List.length_cons, List.length_nil]
  simp only [decide_true, Bool.true_and, Bool.not_true, Bool.false_or, Bool.and_assoc]
theorem step_revoke : stepD rs gs (.tuple [.str "revoke", a]) = isIn a (wrapsW gs) := by
  rw [step_cons (rl := ["wrapping"]) (by decide +kernel)]
  simp only [List.zip_cons_cons, List.zip_nil_left, List.map_cons, List.map_nil, List.all_cons, List.all_nil, part_wrapping, id, Bool.and_true, List.length_cons, List.length_nil]
  rw [decide_eq_false (show ¬ ("revoke" : Str) = "enter" by decide +kernel)]
  simp
end
/-- one gateway of each name -/
theorem any_one {gs : List Gt} (nd : (gs.map (·.1)).Nodup) {g : Gt} (hg : g ∈ gs) (f : Gt → Bool) : (gs.any fun x : Gt => decide (x.1 = g.1) && f x) = f g := by
  have u : ∀ {l : List Gt}, (l.map (·.1)).Nodup → ∀ x ∈ l, ∀ y ∈ l, x.1 = y.1 → x = y := by
    intro l
    induction l with
    | nil => intro _ x hx; cases hx
    | cons h t ih =>
      intro n x hx y hy e
      rw [List.map_cons, List.nodup_cons] at n
      rcases List.mem_cons.mp hx with ex | hx1
      · rcases List.mem_cons.mp hy with ey | hy1
        · rw [ex, ey]
        · exact absurd (List.mem_map.mpr ⟨y, hy1, by rw [← e, ex]⟩) n.1
      · rcases List.mem_cons.mp hy with ey | hy1
        · exact absurd (List.mem_map.mpr ⟨x, hx1, by rw [e, ey]⟩) n.1
        · exact ih n.2 x hx1 y hy1 e
  cases c : f g with
  | true => exact List.any_eq_true.mpr ⟨g, hg, by rw [c]; simp⟩
  | false =>
    refine List.any_eq_false.mpr fun x hx => ?_
    by_cases e : x.1 = g.1
    · rw [u nd x hx g hg e, c]
      simp
    · simp [e]
theorem mem_wraps {gs : List Gt} {s : Str} : s ∈ wrapsW gs ↔ ∃ g ∈ gs, g.2.2 = ("wrap" : Str) ∧ g.1 = s := by
  unfold wrapsW
  constructor
  · intro h
    obtain ⟨g, hg, e⟩ := List.mem_map.mp h
    obtain ⟨h1, h2⟩ := List.mem_filter.mp hg
    exact ⟨g, h1, of_decide_eq_true h2, e⟩
  · rintro ⟨g, h1, h2, h3⟩
    exact List.mem_map.mpr ⟨g, List.mem_filter.mpr ⟨h1, decide_eq_true h2⟩, h3⟩
end WT

set_option Elab.async false
set_option linter.all false
set_option maxRecDepth 100000
set_option maxHeartbeats 1000000
/-! trails of any data. -/
namespace WT
open PySem PySem.Spec PyProof.Rows L2
/-- the i-th part of a tuple, if it is a text -/
def partS (d : PyData) (i : Nat) : Str := match d with
  | .tuple ds => match ds[i]? with
    | some (.str s) => s
    | _ => ""
  | _ => ""
/-- two different members -/
def leadD (a b : PyData) (ms : List Str) : Bool := isIn a ms && (isIn b ms && !PyData.eqv a b)
/-- a crossing of the world -/
def crossD (gs : List Gt) (d : PyData) : Bool := match d with
  | .tuple [n, a, b] => isIn n (wrapsW gs) && gs.any fun g => isIn n [g.1] && leadD a b g.2.1
  | _ => false
/-- what stands one behind the other fits -/
noncomputable def nextD (rs : List Str) (gs : List Gt) (b c : PyData) : Bool := !decide (partS b 0 = partS c 0) && conB gs (wrapsW gs) (partS b 2) (partS c 1)
noncomputable def trailD (rs : List Str) (gs : List Gt) (d : PyData) : Bool := match d with
  | .tuple ds => ds.all (crossD gs) && (ds.zip (ds.drop 1)).all fun p => nextD rs gs p.1 p.2
  | _ => false
theorem isIn_str {d : PyData} {ss : List Str} (h : isIn d ss = true) : ∃ s ∈ ss, d = .str s := by
  cases d with
  | str s => exact ⟨s, of_decide_eq_true h, rfl⟩
  | _ => cases h
theorem isIn_one {a b : Str} : isIn (.str a) [b] = decide (b = a) := by
  show decide (a ∈ [b]) = _
  by_cases e : b = a
  · rw [decide_eq_true e, decide_eq_true (by rw [e]; exact List.mem_cons_self)]
  · rw [decide_eq_false e, decide_eq_false fun z => e (List.mem_singleton.mp z).symm]
/-- what a crossing is -/
theorem cross_parts {gs : List Gt} {d : PyData} (h : crossD gs d = true) : ∃ n a b : Str, d = .tuple [.str n, .str a, .str b] ∧ ∃ g ∈ gs, g.1 = n ∧ a ∈ g.2.1 ∧ b ∈ g.2.1 := by
  unfold crossD at h
  split at h
  · rename_i n a b
    rw [Bool.and_eq_true, List.any_eq_true] at h
    obtain ⟨h1, g, hg, h2⟩ := h
    obtain ⟨s, _, rfl⟩ := isIn_str h1
    rw [Bool.and_eq_true, isIn_one] at h2
    obtain ⟨h3, h4⟩ := h2
    unfold leadD at h4
    rw [Bool.and_eq_true, Bool.and_eq_true] at h4
    obtain ⟨x, hx, rfl⟩ := isIn_str h4.1
    obtain ⟨y, hy, rfl⟩ := isIn_str h4.2.1
    exact ⟨s, x, y, rfl, g, hg, of_decide_eq_true h3, hx, hy⟩
  · cases h
/-- with one gateway of each name -/
theorem cross_by {gs : List Gt} (nd : (gs.map (·.1)).Nodup) {n : Str} {a b : PyData} {g : Gt} (hg : g ∈ gs) (en : g.1 = n) (hw : n ∈ wrapsW gs) : crossD gs (.tuple [.str n, a, b]) = leadD a b g.2.1 := by
  have e1 : isIn (.str n) (wrapsW gs) = true := decide_eq_true hw
  show (isIn (.str n) (wrapsW gs) && gs.any fun g => isIn (.str n) [g.1] && leadD a b g.2.1) = _
  rw [e1, Bool.true_and]
  cases c : leadD a b g.2.1 with
  | true => exact List.any_eq_true.mpr ⟨g, hg, by rw [isIn_one, decide_eq_true en, c]; rfl⟩
  | false =>
    refine List.any_eq_false.mpr fun g2 h2 z => ?_
    rw [Bool.and_eq_true, isIn_one] at z
    have e2 : g2.1 = g.1 := (of_decide_eq_true z.1).trans en.symm
    have : g2 = g := by
      obtain ⟨i, hi, rfl⟩ := List.getElem_of_mem hg
      obtain ⟨j, hj, rfl⟩ := List.getElem_of_mem h2
      have q : i = j := by
        rcases Nat.lt_trichotomy i j with lt | e | lt
        · exact absurd e2.symm (List.pairwise_iff_getElem.mp (List.pairwise_map.mp nd) i j hi hj lt)
        · exact e
        · exact absurd e2 (List.pairwise_iff_getElem.mp (List.pairwise_map.mp nd) j i hj hi lt)
      subst q
      rfl
    rw [this, c] at z
    cases z.2
theorem cross_no {gs : List Gt} {n : PyData} {a b : PyData} (h : isIn n (wrapsW gs) = false) : crossD gs (.tuple [n, a, b]) = false := by
  show (isIn n (wrapsW gs) && _) = false
  rw [h]
  rfl
/-- zones of two regions are the same exactly if they are connected -/
theorem zone_same {R : Str → Str → Bool} (E : EqvB R) {rs : List Str} {x y : Str} (hx : x ∈ rs) (hy : y ∈ rs) : zoneL R rs x = zoneL R rs y ↔ R x y = true := by
  refine ⟨fun e => ?_, zone_eq E⟩
  have : y ∈ zoneL R rs y := mem_zone.mpr ⟨hy, E.refl y⟩
  rw [← e] at this
  exact (mem_zone.mp this).2
end WT

set_option Elab.async false
set_option linter.all false
set_option maxRecDepth 100000
set_option maxHeartbeats 1000000
/-! some of the gateways, by any test. -/
namespace WT
open PySem PySem.Spec PyProof.Rows L2
theorem lay_gates : ∀ gs : List Gt, (∀ g ∈ gs, PyData.strOk g.1 = true ∧ PyData.strOk g.2.2 = true ∧ ∀ s ∈ g.2.1, PyData.strOk s = true) → PyData.canLayAll0 (gs.map gateD) = true ∧ PyData.depthAll (gs.map gateD) ≤ 2
  | [], _ => ⟨by rw [List.map_nil, PyData.canLayAll0], by rw [List.map_nil, PyData.depthAll]; exact Nat.zero_le _⟩
  | g :: gs, h => by
    obtain ⟨h1, h2⟩ := lay_gates gs fun x hx => h x (List.mem_cons_of_mem _ hx)
    obtain ⟨g1, g2, g3⟩ := h g List.mem_cons_self
    obtain ⟨m1, m2⟩ := lay_strs g.2.1 g3
    refine ⟨?_, ?_⟩
    · rw [List.map_cons, PyData.canLayAll0, h1]
      unfold gateD
      rw [PyData.canLay0, PyData.canLayAll0, PyData.canLayAll0, PyData.canLayAll0, PyData.canLayAll0, PyData.canLay0, PyData.canLay0, PyData.canLay0, m1, g1, g2]
      rfl
    · rw [List.map_cons, PyData.depthAll]
      unfold gateD at h2 ⊢
      rw [PyData.depth, d_cons, d_cons, d_cons, d_nil, PyData.depth, PyData.depth, PyData.depth, m2]
      exact Nat.max_le.mpr ⟨by decide, h2⟩
theorem shaped_gates {gs : List Gt} (h : ∀ g ∈ gs, PyData.strOk g.1 = true ∧ PyData.strOk g.2.2 = true ∧ ∀ s ∈ g.2.1, PyData.strOk s = true) : SeqAt.shaped (.list (gs.map gateD)) = true := by
  obtain ⟨h1, h2⟩ := lay_gates gs h
  unfold SeqAt.shaped
  rw [PyData.canLay0, PyData.depth, h1]
  simp
  omega
theorem lc_gates {J : It} {n : Nat} {G : Hp → Prop} {Y : Nat → Hp → V → Hp → Prop} (w : Walk J n G Y) {g : TG} {tt : L2.TT} {te : TE} {vs : List Nat} {σ : L2.St} {H1 : Hp} {D : Addr} {Qd : Hp → Prop} (as : List Addr) (gs : List Gt) (pr : Paired (GateAt H1) as gs) (nD : H1 D = none) (hz : n ≤ 4000)
    (hG : ∀ H, Same H1 H → G H) (hY : ∀ j H v H', Y j H v H' → H' = H ∧ (as.map V.ref)[j]? = some v)
    (hs : ∀ (j : Nat) (t ia : Addr) (gg : Gt) (H2 : Hp) (k : VK) (e : Hp → Prop), gg ∈ gs → Same H1 H2 → H2 t = some (.tup [.str gg.1, .ref ia, .str gg.2.2]) → H2 ia = some (.tup (gg.2.1.map V.str)) → (∀ H4, Same H2 H4 → k (.ref t) H4) → (∀ H4, Same H2 H4 → e H4) →
      g (.ref t) (wipe σ vs) H2 fun σ2 H2 => wipe σ2 vs = wipe σ vs ∧ tt σ2 H2 fun t H3 => if t = true then te σ2 H3 k else e H3)
    (hd : ∀ H bs gb, Same H1 H → H D = some (.lst (bs.map V.ref)) → Paired (GateAt H) bs gb → (∀ x ∈ gb, x ∈ gs) → bs.length ≤ n → Qd H) :
    ∃ W : Nat → Nat → Hp → Prop, (∃ m, W 0 m (upd H1 D (.lst []))) ∧ ∀ i m H, W i m H →
      (J.stop i H ∧ Qd H) ∨ (J.go i H ∧ ∃ Nx : Hp → Prop, (∀ H', Nx H' → ∃ m', m' < m ∧ W (i + 1) m' H') ∧ ∀ x H', J.yld i H x H' → g x (wipe σ vs) H' fun σ2 H2 => wipe σ2 vs = wipe σ vs ∧ tt σ2 H2 fun b H3 =>
        if b = true then te σ2 H3 fun y H4 => ∃ acc, H4 D = some (.lst acc) ∧ acc.length < sizeLine ∧ Nx (upd H4 D (.lst (acc ++ [y]))) else Nx H3) := by
  refine lc_it w (fun m H => Same H1 H ∧ m ≤ n ∧ ∃ bs gb, H D = some (.lst (bs.map V.ref)) ∧ Paired (GateAt H) bs gb ∧ (∀ x ∈ gb, x ∈ gs) ∧ bs.length ≤ m) ⟨same_new nD, Nat.zero_le _, [], [], upd_same, .nil, fun y hy => absurd hy List.not_mem_nil, Nat.le_refl _⟩
    (fun _ H _ h => hG H h.1) (fun i x H H' hi hP hy => ?_) fun H hP => ?_
  · obtain ⟨s, hm, bs, gb, hD, pb, hin, lb⟩ := hP
    obtain ⟨e, hx⟩ := hY i H x H' hy
    subst e
    rw [List.getElem?_map] at hx
    obtain ⟨t, ht, rfl⟩ := Option.map_eq_some_iff.mp hx
    obtain ⟨gg, hgg, ia, e1, e2⟩ := pair_at (Paired.mapP pr fun _ _ z => z.same s) ht
    have hgm := List.mem_of_getElem? hgg
    refine hs i t ia gg H' _ _ hgm s e1 e2 (fun H4 s4 => ?_) fun H4 s4 => ⟨s.trans s4, hi, bs, gb, s4 _ _ hD, Paired.mapP pb fun _ _ z => z.same s4, hin, by omega⟩
    have hD4 := s4 _ _ hD
    have keep : ∀ (c : Addr) (xs : List V) (o : HO), H4 c = some (.tup xs) → upd H4 D o c = some (.tup xs) := fun c xs o e => by
      rw [upd_ne (ne_of e hD4 (by intro z; cases z))]
      exact e
    refine ⟨_, hD4, by rw [List.length_map]; exact Nat.lt_of_le_of_lt (show bs.length ≤ 4000 by omega) (by decide), fun c o ed => ?_, hi, bs ++ [t], gb ++ [gg], by rw [upd_same, List.map_append]; rfl, ?_, fun y hy => ?_, by rw [List.length_append, List.length_singleton]; omega⟩
    · rw [upd_ne (ne_of_none ed nD)]
      exact s4 _ _ (s _ _ ed)
    · exact pair_snoc (Paired.mapP pb fun _ _ ⟨i, k1, k2⟩ => ⟨i, keep _ _ _ (s4 _ _ k1), keep _ _ _ (s4 _ _ k2)⟩) ⟨ia, keep _ _ _ (s4 _ _ e1), keep _ _ _ (s4 _ _ e2)⟩
    · rcases List.mem_append.mp hy with hy | hy
      · exact hin y hy
      · rw [List.mem_singleton.mp hy]
        exact hgm
  · obtain ⟨s, hm, bs, gb, hD, pb, hin, lb⟩ := hP
    exact hd H bs gb s hD pb hin lb
end WT

set_option Elab.async false
set_option linter.all false
set_option maxRecDepth 100000
set_option maxHeartbeats 1000000
namespace K35
open PySem PySem.Spec PyProof.Rows L2 WT
abbrev st_zone : Stmt := top 24
theorem sc_zone : FnScope ["_law_world_here", "_law_region", "_law_found", "_law_last", "_law_later", "_law_name", "_law_some", "_law_kind", "_law_one"] ["_law_world_here", "_law_region"] (defScope st_zone) := ⟨rfl, rfl, rfl, by decide +kernel, rfl, by decide +kernel, by decide +kernel⟩
def opB (g : Gt) : Bool := decide (g.2.2 = ("open" : Str))
def wrB (g : Gt) : Bool := decide (g.2.2 = ("wrap" : Str))
theorem adj_open {rs : List Str} {gs : List Gt} (W : MapOk rs gs) {x y : Str} : Adj gs (wrapsW gs) x y ↔ Adj (gs.filter opB) [] x y := by
  constructor
  · rintro ⟨g, hg, h1, h2, h3⟩
    refine ⟨g, List.mem_filter.mpr ⟨hg, ?_⟩, List.not_mem_nil, h2, h3⟩
    rcases (W.each g hg).kind with e | e
    · exact absurd (mem_wraps.mpr ⟨g, hg, e, rfl⟩) h1
    · exact decide_eq_true e
  · rintro ⟨g, hg, _, h2, h3⟩
    obtain ⟨hg, e⟩ := List.mem_filter.mp hg
    refine ⟨g, hg, fun m => ?_, h2, h3⟩
    obtain ⟨g', hg', e', en⟩ := mem_wraps.mp m
    have : g' = g := gate_eq W.nd hg' hg en
    rw [this] at e'
    rw [show g.2.2 = ("open" : Str) from of_decide_eq_true e] at e'
    exact absurd e' (by decide +kernel)
theorem conn_open {rs : List Str} {gs : List Gt} (W : MapOk rs gs) {x y : Str} : Conn gs (wrapsW gs) x y ↔ Conn (gs.filter opB) [] x y := by
  constructor
  · intro h
    induction h with
    | refl => exact .refl
    | step _ a ih => exact ih.step ((adj_open W).mp a)
  · intro h
    induction h with
    | refl => exact .refl
    | step _ a ih => exact ih.step ((adj_open W).mpr a)
theorem sub_len {ks rs : List Str} (hn : ks.Nodup) (hs : ∀ k ∈ ks, k ∈ rs) : ks.length ≤ rs.length := nodup_le hn hs
/-- found, and those found last -/
structure Zn (gb : List Gt) (rs : List Str) (st : Str) (fs ws : List Str) : Prop where
  nd : fs.Nodup
  sub : ∀ s ∈ fs, s ∈ rs
  has : st ∈ fs
  conn : ∀ s ∈ fs, Conn gb [] st s
  last : ∀ s ∈ ws, s ∈ fs
  clo : ∀ x ∈ fs, x ∉ ws → ∀ z, Adj gb [] x z → z ∈ fs
/-- those found later -/
structure Zl (gs : List Gt) (rs : List Str) (st : Str) (fs ws ls : List Str) (j : Nat) : Prop where
  nd : (fs ++ ls).Nodup
  sub : ∀ s ∈ ls, s ∈ rs
  conn : ∀ s ∈ ls, Conn (gs.filter opB) [] st s
  all : ∀ g ∈ gs.take j, opB g = true → (∃ y ∈ g.2.1, y ∈ ws) → ∀ z ∈ g.2.1, z ∈ fs ++ ls
theorem Zl.skip {gs : List Gt} {rs fs ws ls : List Str} {st : Str} {j : Nat} {g : Gt} (h : Zl gs rs st fs ws ls j) (hg : gs[j]? = some g) (n : ¬ (opB g = true ∧ ∃ y ∈ g.2.1, y ∈ ws)) : Zl gs rs st fs ws ls (j + 1) := ⟨h.nd, h.sub, h.conn, fun g' hg' o y => by
  rw [List.take_add_one, hg] at hg'
  rcases List.mem_append.mp hg' with m | m
  · exact h.all g' m o y
  · have : g' = g := by simpa using m
    rw [this] at o y
    exact absurd ⟨o, y⟩ n⟩
theorem Zl.more {gs : List Gt} {rs fs ws ls : List Str} {st : Str} {j : Nat} {g : Gt} (h : Zl gs rs st fs ws ls j) (k : Zn (gs.filter opB) rs st fs ws) (hg : gs[j]? = some g) (o : opB g = true) (y : ∃ y ∈ g.2.1, y ∈ ws) (gnd : g.2.1.Nodup) (gsub : ∀ z ∈ g.2.1, z ∈ rs) :
    Zl gs rs st fs ws (ls ++ g.2.1.filter fun z => decide (z ∉ fs) && decide (z ∉ ls)) (j + 1) := by
  have gm := List.mem_of_getElem? hg
  have fm : ∀ z, z ∈ (g.2.1.filter fun z => decide (z ∉ fs) && decide (z ∉ ls)) ↔ z ∈ g.2.1 ∧ z ∉ fs ∧ z ∉ ls := fun z => by
    rw [List.mem_filter, Bool.and_eq_true, decide_eq_true_iff, decide_eq_true_iff]
  refine ⟨?_, fun s hs => ?_, fun s hs => ?_, fun g' hg' o' y' z hz => ?_⟩
  · rw [← List.append_assoc]
    refine List.nodup_append.mpr ⟨h.nd, List.Pairwise.filter _ gnd, fun a ha b hb e => ?_⟩
    obtain ⟨_, n1, n2⟩ := (fm b).mp hb
    rw [← e] at n1 n2
    exact (List.mem_append.mp ha).elim n1 n2
  · rcases List.mem_append.mp hs with m | m
    · exact h.sub s m
    · exact gsub s ((fm s).mp m).1
  · rcases List.mem_append.mp hs with m | m
    · exact h.conn s m
    · obtain ⟨y, y1, y2⟩ := y
      exact (k.conn y (k.last y y2)).step ⟨g, List.mem_filter.mpr ⟨gm, o⟩, List.not_mem_nil, y1, ((fm s).mp m).1⟩
  · rw [← List.append_assoc]
    rw [List.take_add_one, hg] at hg'
    rcases List.mem_append.mp hg' with m | m
    · exact List.mem_append_left _ (h.all g' m o' y' z hz)
    · have : g' = g := by simpa using m
      rw [this] at hz
      by_cases c : z ∈ fs ++ ls
      · exact List.mem_append_left _ c
      · refine List.mem_append_right _ ((fm z).mpr ⟨hz, fun e => c (List.mem_append_left _ e), fun e => c (List.mem_append_right _ e)⟩)
theorem Zl.done {gs : List Gt} {rs fs ws ls : List Str} {st : Str} {j : Nat} (h : Zl gs rs st fs ws ls j) (k : Zn (gs.filter opB) rs st fs ws) (e : j = gs.length) : Zn (gs.filter opB) rs st (fs ++ ls) ls := by
  refine ⟨h.nd, fun s hs => (List.mem_append.mp hs).elim (k.sub s) (h.sub s), List.mem_append_left _ k.has, fun s hs => (List.mem_append.mp hs).elim (k.conn s) (h.conn s), fun s hs => List.mem_append_right _ hs, fun x hx nx z a => ?_⟩
  have hx := (List.mem_append.mp hx).resolve_right nx
  by_cases c : x ∈ ws
  · obtain ⟨g, hg, _, h1, h2⟩ := a
    obtain ⟨hg, o⟩ := List.mem_filter.mp hg
    exact h.all g (by rw [e, List.take_length]; exact hg) o ⟨x, h1, c⟩ z h2
  · exact List.mem_append_left _ (k.clo x hx c z a)
theorem Zn.all {gb : List Gt} {rs fs : List Str} {st : Str} (k : Zn gb rs st fs []) : ∀ s, s ∈ fs ↔ Conn gb [] st s := fun s => ⟨k.conn s, fun c => closed_conn k.has (fun x hx z a => k.clo x hx List.not_mem_nil z a) c⟩
section
variable {P : Program} {w : World} {K : PySem.W.Frag} {mg : Str → Option Value} {base : Heap} {f : Addr} {fd : FuncData}
/-- zone(world, region) -/
def spZone : Sp := fun vs H Q _ => ∃ (wa r g : Addr) (as : List Addr) (rs : List Str) (gs : List Gt) (st : Str), vs = [.ref wa, .str st] ∧ WorldAt H wa r g as rs gs ∧ MapOk rs gs ∧ st ∈ rs ∧
  ∀ (H' : Hp) (p : Addr) (fs : List Str), Same H H' → H p = none → H' p = some (.lst (fs.map V.str)) → fs.length ≤ 10 → (∀ s, s ∈ fs ↔ conB gs (wrapsW gs) st s = true) → Q (.ref p) H'
theorem ok_zone (F : Fun K "_law_zone" "_law_zone" st_zone f fd) (B : Blt mg) (hany : mg "any" = none) : FnG P w K mg base CX0 1 f fd ["_law_world_here", "_law_region"] spZone := by
  refine okG F sc_zone (fun vs H Q E h => ?_) (fun cdv A outer s H vs Q E hgd hr h => ?_)
  · obtain ⟨_, _, _, _, _, _, _, rfl, _⟩ := h
    rfl
  · obtain ⟨wa, r, g, as, rs, gs, st, rfl, hw, W, hst, q⟩ := h
    refine ⟨_, (pss_cons (ps_asg (pe_tup (pa_cons (pe_lst (pa_cons (pv 1) pa_nil)) (pa_cons (pe_lst (pa_cons (pv 1) pa_nil)) pa_nil))) (pg_tup rfl (pgs_cons (pg_name (i := 2) sc_zone.nd rfl (.inr rfl)) (pgs_cons (pg_name (i := 3) sc_zone.nd rfl (.inr rfl)) pgs_nil))))
      (pss_cons (ps_while PassesOwn.never (pt_cmpR (op_neD hr.units) (pv 3) (pe_lst pa_nil) (nomark _))
       (pss_cons (ps_set (i := 4) sc_zone.nd rfl (.inr rfl) (pe_lst pa_nil))
       (pss_cons (ps_for PassesOwn.never rfl (pi_tup (pe_ix ix_tup (pv 0) pe_int (fun _ _ => rfl))) (pg_tup rfl (pgs_cons (pg_name (i := 5) sc_zone.nd rfl (.inl rfl)) (pgs_cons (pg_name (i := 6) sc_zone.nd rfl (.inl rfl)) (pgs_cons (pg_name (i := 7) sc_zone.nd rfl (.inl rfl)) pgs_nil))))
        (pss_one (ps_if (PW.pt (pw_and (pt_cmpR op_eq (pv 7) pe_str (nomark _)) (pw_and1 (pt_val (pe_callB (cr_any rfl) (by rfl) hany (by decide +kernel) (pa_cons (pe_lc (own := [("_law_one", 8)]) (by rfl) sc_zone.nd (pi_tup (pv 6)) (blkOk_by (own := [("_law_one", 8)]) (N := ["_law_world_here", "_law_region", "_law_found", "_law_last", "_law_later", "_law_name", "_law_some", "_law_kind", "_law_one"]) (sc := defScope st_zone) (by decide +kernel)) (fun _ _ _ _ _ => (pg_name (i := 8) sc_zone.nd rfl (.inl rfl))) (fun _ _ _ _ _ => pts_nil) (fun _ _ _ _ _ => (pe_cmpR (op_inA (K := K) hr.units) (pv 8) (pv 3) (by rfl)))) pa_nil))))))
         (pss_one (ps_expr (pe_bm PySem.F.plainAttrs_list PySem.F.slot_list_extend PySem.F.type_list_extend mt_extend (pv 4) (pa_cons (pe_lc (own := [("_law_one", 8)]) (by rfl) sc_zone.nd (pi_tup (pv 6)) (blkOk_by (own := [("_law_one", 8)]) (N := ["_law_world_here", "_law_region", "_law_found", "_law_last", "_law_later", "_law_name", "_law_some", "_law_kind", "_law_one"]) (sc := defScope st_zone) (by decide +kernel)) (fun _ _ _ _ _ => (pg_name (i := 8) sc_zone.nd rfl (.inl rfl))) (fun _ _ _ _ _ => (pts_one (PW.pt (pw_and (pt_cmpR (op_notInA (K := K) hr.units) (pv 8) (pv 2) (by rfl)) (pw_and1 (pt_cmpR (op_notInA (K := K) hr.units) (pv 8) (pv 4) (by rfl))))))) (fun _ _ _ _ _ => (pv 8))) pa_nil))))
         pss_nil)))
       (pss_one (ps_asg (pe_tup (pa_cons (pe_op op_cat (pv 2) (pv 4)) (pa_cons (pv 4) pa_nil))) (pg_tup rfl (pgs_cons (pg_name (i := 2) sc_zone.nd rfl (.inr rfl)) (pgs_cons (pg_name (i := 3) sc_zone.nd rfl (.inr rfl)) pgs_nil))))))))
      (pss_one (ps_ret (pv 2))))), ?_⟩
    obtain ⟨nr, _, nr10, lo⟩ := W.reg
    have lrs : rs.length ≤ 10 := by
      have := lo.len
      omega
    have nms := lo.nm
    have hlen := Paired.length hw.each
    have lg := W.lg
    have big : (1000 : Nat) ≤ sizeLine := by decide
    refine ⟨_, rfl, (by show 1 ≤ sizeLine; decide), fun Fa nF => ⟨_, rfl, (by show 1 ≤ sizeLine; decide), fun L nL => ⟨(by show 2 ≤ sizeLine; decide), fun T nT => ⟨T, _, rfl, SqT.of upd_same, rfl, .ref Fa, _, rfl, .ref L, [], rfl, rfl, ?_⟩⟩⟩⟩
    have z0 := same_new nF (o := .lst [.str st])
    have z1 := same_new nL (o := .lst [.str st])
    have z2 := same_new nT (o := .tup [.ref Fa, .ref L])
    have hF0 : upd H Fa (.lst [.str st]) Fa = some (.lst [.str st]) := upd_same
    refine ⟨fun m σ H' => ∃ (Fa L : Addr) (fs ws : List Str) (v4 v5 v6 v7 : Option V), σ = [some (.ref wa), some (.str st), some (.ref Fa), some (.ref L), v4, v5, v6, v7, none] ∧ m = 2 * (10 - fs.length) + (if ws = [] then 0 else 1) ∧ Same H H' ∧ H Fa = none ∧
        H' L = some (.lst (ws.map V.str)) ∧ H' Fa = some (.lst (fs.map V.str)) ∧ Zn (gs.filter opB) rs st fs ws,
      ⟨_, Fa, L, [st], [st], none, none, none, none, rfl, rfl, z0.trans (z1.trans z2), nF, z2 _ _ upd_same, z2 _ _ (z1 _ _ hF0), ⟨by simp, fun s hs => by rw [List.mem_singleton.mp hs]; exact hst, List.mem_cons_self, fun s hs => by rw [List.mem_singleton.mp hs]; exact .refl, fun s hs => hs, fun x hx nx => absurd hx nx⟩⟩, fun m σ H' hW => ?_⟩
    clear z0 z1 z2 nT hF0 nL nF Fa L T
    obtain ⟨Fa, L, fs, ws, v4, v5, v6, v7, rfl, rfl, sm, nF, hL, hF, zn⟩ := hW
    have lfs : fs.length ≤ 10 := Nat.le_trans (sub_len zn.nd zn.sub) lrs
    -- while last != []
    refine ⟨_, rfl, (by show 0 ≤ sizeLine; decide), fun e ne => ?_⟩
    have z3 := same_new ne (o := .lst [])
    refine ⟨_, _, .lst (SqL.of (z3 _ _ hL)) (dp_strs _), .lst (SqL.of upd_same) .nil, shaped_strs _ (fun s hs => (nms s (zn.sub s (zn.last s hs))).ok), shaped_nil, _, rfl, ?_⟩
    rw [eqv_nil]
    have hL3 := z3 _ _ hL
    have hF3 := z3 _ _ hF
    have sm3 := sm.trans z3
    generalize upd H' e (.lst []) = H3 at hL3 hF3 sm3 ⊢
    clear z3 ne hL hF sm
    by_cases cw : ws = []
    · subst cw
      refine iteF ⟨_, rfl, ?_⟩
      refine q _ Fa fs sm3 nF hF3 lfs fun s => ?_
      rw [zn.all s, conB_iff, conn_open W]
    have wne : ws ≠ [] := cw
    refine ifT (by cases ws with | nil => exact absurd rfl cw | cons _ _ => rfl) ?_
    rw [if_neg cw]
    refine ⟨fun σ' H2 => ∃ (Fa' L' : Addr) (fs' ws' : List Str) (v4 v5 v6 v7 : Option V), σ' = [some (.ref wa), some (.str st), some (.ref Fa'), some (.ref L'), v4, v5, v6, v7, none] ∧ 2 * (10 - fs'.length) + (if ws' = [] then 0 else 1) < 2 * (10 - fs.length) + 1 ∧ Same H H2 ∧ H Fa' = none ∧
        H2 L' = some (.lst (ws'.map V.str)) ∧ H2 Fa' = some (.lst (fs'.map V.str)) ∧ Zn (gs.filter opB) rs st fs' ws',
      fun σ' H2 ⟨Fa', L', fs', ws', v4, v5, v6, v7, h1, h2, h3⟩ => ⟨_, h2, Fa', L', fs', ws', v4, v5, v6, v7, h1, rfl, h3⟩, ?_⟩
    -- later = []
    refine ⟨(by show 0 ≤ sizeLine; decide), fun La nLa => ?_⟩
    have z4 := same_new nLa (o := .lst [])
    have sm4 := sm3.trans z4
    have hw4 := hw.same sm4
    have nLaH : H La = none := sm3.free nLa
    have La_L : L ≠ La := ne_of_none hL3 nLa
    have La_F : Fa ≠ La := ne_of_none hF3 nLa
    have hL4 := z4 _ _ hL3
    have hF4 := z4 _ _ hF3
    have hLa4 : upd H3 La (.lst []) La = some (.lst []) := upd_same
    generalize upd H3 La (.lst []) = H4 at sm4 hw4 hL4 hF4 hLa4 ⊢
    clear z4 nLa
    refine ⟨_, rfl, wa, _, 1, .ref g, rfl, rfl, SqT.of hw4.top, atI_nat (j := 1) rfl, g, rfl, ⟨_, SqT.of hw4.gat⟩, for_it (walk_tup (xs := as.map V.ref)) (fun j σ H2 => ∃ (ls : List Str) (v5 v6 v7 : Option V), σ = [some (.ref wa), some (.str st), some (.ref Fa), some (.ref L), some (.ref La), v5, v6, v7, none] ∧ Same H H2 ∧ H2 L = some (.lst (ws.map V.str)) ∧ H2 Fa = some (.lst (fs.map V.str)) ∧ H2 La = some (.lst (ls.map V.str)) ∧ Zl gs rs st fs ws ls j)
      ⟨[], _, _, _, rfl, sm4, hL4, hF4, hLa4, ⟨by rw [List.append_nil]; exact zn.nd, fun s h => absurd h List.not_mem_nil, fun s h => absurd h List.not_mem_nil, fun g h => absurd h List.not_mem_nil⟩⟩ (fun j σ H2 _ ⟨_, _, _, _, _, s', _⟩ => SqT.of (s' _ _ hw.gat)) (fun j v σ H5 H5' hj hP hY => ?_) (fun σ H5 hP => ?_)⟩
    · obtain ⟨ls, v5, v6, v7, rfl, sm5, hL5, hF5, hLa5, zl⟩ := hP
      obtain ⟨rfl, hv⟩ := hY
      rw [List.getElem?_map] at hv
      obtain ⟨t, ht, rfl⟩ := Option.map_eq_some_iff.mp hv
      obtain ⟨gg, hgg, ia, e1, e2⟩ := pair_at (hw.same sm5).each ht
      have gk := W.each gg (List.mem_of_getElem? hgg)
      have ghi := gk.hi
      have lls : fs.length + ls.length ≤ 10 := by
        have := sub_len zl.nd fun s hs => (List.mem_append.mp hs).elim (zn.sub s) (zl.sub s)
        rw [List.length_append] at this
        omega
      refine ⟨t, _, rfl, SqT.of e1, rfl, .str gg.1, _, rfl, .ref ia, _, rfl, .str gg.2.2, [], rfl, rfl, ?_⟩
      refine ⟨_, rfl, rfl, _, rfl, ?_⟩
      by_cases co : gg.2.2 = ("open" : Str)
      rotate_left
      · exact ifF (decide_eq_false fun z => co (V.str.inj z)) ⟨ls, _, _, _, rfl, sm5, hL5, hF5, hLa5, zl.skip hgg fun z => co (of_decide_eq_true z.1)⟩
      refine ifT (decide_eq_true (congrArg V.str co)) ?_
      refine ⟨_, rfl, ia, rfl, ⟨_, SqT.of e2⟩, fun D nD => lc_bl (walk_tup (xs := gg.2.1.map V.str)) (gg.2.1.map fun y => decide (y ∈ ws)) (by rw [List.length_map, List.length_map]) (by rw [List.length_map]; omega) nD (fun H8 s8 => SqT.of (s8 _ _ e2)) (fun i x c H8 H9 k e hc s8 hY hk => ?_) fun H8 s8 hD => ?_⟩
      · obtain ⟨rfl, hx⟩ := hY
        rw [List.getElem?_map] at hx hc
        obtain ⟨y, hy, rfl⟩ := Option.map_eq_some_iff.mp hx
        rw [hy] at hc
        cases hc
        exact ⟨rfl, _, rfl, _, rfl, L, ws, .str y, rfl, .inl (SqL.of (s8 _ _ hL5)), .str y, hk _ fun _ _ e => e⟩
      have sm8 := sm5.trans s8
      have hL8 := s8 _ _ hL5
      have hF8 := s8 _ _ hF5
      have hLa8 := s8 _ _ hLa5
      have e28 := s8 _ _ e2
      refine ⟨D, _, rfl, SqL.of hD, _, rfl, ?_⟩
      have an : (gg.2.1.map fun y => decide (y ∈ ws)).any id = gg.2.1.any fun y => decide (y ∈ ws) := by
        rw [List.any_map]
        rfl
      rw [an]
      cases ca : gg.2.1.any fun y => decide (y ∈ ws) with
      | false =>
        refine ifF rfl ⟨ls, _, _, _, rfl, sm8, hL8, hF8, hLa8, zl.skip hgg fun ⟨_, y, y1, y2⟩ => ?_⟩
        have := List.any_eq_false.mp ca y y1
        exact this (decide_eq_true y2)
      | true =>
        obtain ⟨y, y1, y2⟩ := List.any_eq_true.mp ca
        refine ifT rfl ?_
        refine ⟨_, rfl, .inl ⟨rfl, _, SqL.of hLa8⟩, ?_⟩
        refine ⟨_, rfl, ia, rfl, ⟨_, SqT.of e28⟩, fun D2 nD2 => lc_tup (K := K) (a := ia) (xs := gg.2.1.map V.str) (fun m H' => Same H8 H' ∧ H' D2 = some (.lst (((gg.2.1.take m).filter fun y => decide (y ∉ fs) && decide (y ∉ ls)).map V.str)))
          ⟨same_new nD2, upd_same⟩ (fun m H' _ ⟨s', _⟩ => SqT.of (s' _ _ e28)) (fun m v H6 hm hP => ?_) fun H6 hP => ?_⟩
        · obtain ⟨s6, hD2⟩ := hP
          rw [List.getElem?_map] at hm
          obtain ⟨y, hy, rfl⟩ := Option.map_eq_some_iff.mp hm
          have tk : gg.2.1.take (m + 1) = gg.2.1.take m ++ [y] := by
            rw [List.take_add_one, hy]
            rfl
          refine ⟨rfl, _, rfl, _, rfl, Fa, fs, .str y, rfl, .inl (SqL.of (s6 _ _ hF8)), .str y, _, rfl, ?_⟩
          by_cases c1 : y ∈ fs
          · refine ifF ?_ ⟨s6, ?_⟩
            · show (!decide (y ∈ fs)) = false
              rw [decide_eq_true c1]
              rfl
            · rw [hD2, tk, List.filter_append]
              simp [c1]
          refine ifT ?_ ⟨_, rfl, _, rfl, La, ls, .str y, rfl, .inl (SqL.of (s6 _ _ hLa8)), .str y, _, rfl, ?_⟩
          · show (!decide (y ∈ fs)) = true
            rw [decide_eq_false c1]
            rfl
          by_cases c2 : y ∈ ls
          · refine ifF ?_ ⟨s6, ?_⟩
            · show (!decide (y ∈ ls)) = false
              rw [decide_eq_true c2]
              rfl
            · rw [hD2, tk, List.filter_append]
              simp [c2]
          refine ifT ?_ ⟨_, rfl, _, hD2, ?_, ?_, ?_⟩
          · show (!decide (y ∈ ls)) = true
            rw [decide_eq_false c2]
            rfl
          · rw [List.length_map]
            exact Nat.lt_of_le_of_lt (Nat.le_trans (List.length_filter_le _ _) (show (gg.2.1.take m).length ≤ 10 by rw [List.length_take]; omega)) (by decide)
          · intro d o ed
            rw [upd_ne (ne_of_none ed nD2)]
            exact s6 _ _ ed
          · rw [upd_same, tk, List.filter_append, List.map_append]
            simp [c1, c2]
        obtain ⟨s6, hD2⟩ := hP
        rw [List.length_map, List.take_length] at hD2
        have D2a : D2 ≠ La := Ne.symm (ne_of_none hLa8 nD2)
        have hLa6 := s6 _ _ hLa8
        have lfil : (gg.2.1.filter fun y => decide (y ∉ fs) && decide (y ∉ ls)).length ≤ 4 := Nat.le_trans (List.length_filter_le _ _) ghi
        refine ⟨La, D2, _, _, rfl, rfl, hLa6, hD2, by rw [List.length_map, List.length_map]; omega, ?_⟩
        refine ⟨ls ++ gg.2.1.filter fun y => decide (y ∉ fs) && decide (y ∉ ls), _, _, _, rfl, fun c o ec => ?_, ?_, ?_, by rw [upd_same, List.map_append], zl.more zn hgg (decide_eq_true co) ⟨y, y1, of_decide_eq_true y2⟩ gk.nd gk.sub⟩
        · rw [upd_ne (ne_of_none ec nLaH)]
          exact s6 _ _ (sm8 _ _ ec)
        · rw [upd_ne La_L]
          exact s6 _ _ hL8
        · rw [upd_ne La_F]
          exact s6 _ _ hF8
    · obtain ⟨ls, v5, v6, v7, rfl, sm5, hL5, hF5, hLa5, zl⟩ := hP
      have zn2 := zl.done zn (by rw [List.length_map, hlen])
      have l2 := Nat.le_trans (sub_len zn2.nd zn2.sub) lrs
      rw [List.length_append] at l2
      refine ⟨_, rfl, _, rfl, Fa, La, _, _, rfl, rfl, hF5, hLa5, by rw [List.length_map, List.length_map]; omega, fun c nc => ⟨_, rfl, (by show 2 ≤ sizeLine; decide), fun T nT => ⟨T, _, rfl, SqT.of upd_same, rfl, .ref c, _, rfl, .ref La, [], rfl, rfl, ?_⟩⟩⟩
      have z1 := same_new nc (o := .lst (fs.map V.str ++ ls.map V.str))
      have z2 := same_new nT (o := .tup [.ref c, .ref La])
      refine ⟨c, La, fs ++ ls, ls, _, _, _, _, rfl, ?_, sm5.trans (z1.trans z2), sm5.free nc, z2 _ _ (z1 _ _ hLa5), ?_, zn2⟩
      · rw [List.length_append]
        by_cases y : ls = []
        · rw [if_pos y]
          omega
        · rw [if_neg y]
          have : 0 < ls.length := List.length_pos_iff.mpr y
          omega
      · rw [z2 _ _ (show upd H5 c (.lst (fs.map V.str ++ ls.map V.str)) c = some (.lst (fs.map V.str ++ ls.map V.str)) from upd_same), List.map_append]
end
end K35

set_option Elab.async false
set_option linter.all false
set_option maxRecDepth 100000
set_option maxHeartbeats 2000000
/-! an error that is caught under a name and kept beyond the clause. -/
namespace WT
open PySem PySem.Spec PyProof.Rows L2
/-- an object that was caught stands at a: its class, its dict -/
def cxo (a : Addr) (cls : Value) (d : Option Addr) : HO := .ext fun h => ∃ (oe : Obj) (vs : Array Value), h.get? a = some oe ∧ Zc cls d oe ∧ oe.data = .fields vs
theorem cxo_ok {P : Program} {w : World} {H : Hp} {h : Heap} {a : Addr} {cls : Value} {d : Option Addr} {oe : Obj} {vs : Array Value} (e : h.get? a = some oe) (z : Zc cls d oe) (hd : oe.data = .fields vs) : ObjOk P w H h a (cxo a cls d) :=
  ⟨⟨oe, vs, e, z, hd⟩, ⟨oe, e⟩, fun _ _ ⟨o, v, q, r⟩ k => ⟨o, v, k o q, r⟩⟩
section
variable {X : Cx} {pins : List (Addr × Obj)} {σ : L2.St} {H : Hp} {s : Shared}
/-- an object that nobody tracks, and that was not there at the start, may be tracked from now on -/
theorem inv_track {a : Addr} {u : HO} (I : Inv X pins σ H s) (na : H a = none) (n0 : X.s_0.heap.get? a = none) (nL : a ≠ X.env.locals) (nC : ∀ x c, X.env.cells.lookup x = some c → c ≠ a) (nP : ∀ p ∈ X.pn ++ pins, p.1 ≠ a)
    (ho : ObjOk X.prog X.w (upd H a u) s.heap a u) : Inv X pins σ (upd H a u) s := by
  have ne0 : ∀ b o, X.s_0.heap.get? b = some o → b ≠ a := fun b o e z => by
    rw [z, n0] at e
    cases e
  have neS : ∀ b o, H b = some o → b ≠ a := fun b o e => ne_of_none e na
  refine ⟨I.ok, I.os, I.bare, ⟨I.base.keep, I.base.slot, fun b o e n hq => ?_, I.base.there, fun b xs e => ?_, fun b o v e => ?_, fun b ps e => ?_⟩, I.loc, I.cell, ?_, fun x c e => ?_, fun p hp => ?_, fun b v e => ?_, I.len⟩
  · rw [upd_ne (ne0 b o e)]
    exact I.base.free b o e n hq
  · have q := I.base.tups b xs e
    rw [upd_ne (neS _ _ q)]
    exact q
  · have q := I.base.frzs b o v e
    rw [upd_ne (neS _ _ q)]
    exact q
  · obtain ⟨m, q⟩ := I.base.tbls b ps e
    exact ⟨m, by rw [upd_ne (neS _ _ q)]; exact q⟩
  · rw [upd_ne (Ne.symm nL)]
    exact I.free
  · rw [upd_ne (nC x c e)]
    exact I.freeC x c e
  · obtain ⟨e, n, r⟩ := I.pin p hp
    exact ⟨e, by rw [upd_ne (nP p hp)]; exact n, r⟩
  · by_cases hb : b = a
    · subst hb
      rw [upd_same] at e
      cases e
      exact ho
    · rw [upd_ne hb] at e
      exact (I.hok b v e).stay (fun c w _ q => q) (fun c q => by rw [upd_ne (neS _ _ q)]; exact q) fun c xs q => by rw [upd_ne (neS _ _ q)]; exact q
end
/-- an error of the body is of the class c, is bound to slot i, and is tracked when the suite is through -/
def wKeep (K : PySem.W.Frag) (c : Value) (i n : Nat) (ts : Addr → Value → Option Addr → L2.TS) (D : Ends) : WX := fun cls d σ H => PySem.W.exmOne K cls c = some true ∧
  (σ.length = n → ∀ a, H a = none → ts a cls d { nx := fun σ' H' => H' a = none → D.nx (σ'.set i none) (upd H' a (cxo a cls d)), rt := fun _ _ => False, bk := fun _ _ => False, ct := fun _ _ => False } (σ.set i (some (.ref a))) H)
section
variable {X : Cx} {x n : Str} {c : Value} {i : Nat} {body suite : List Stmt} {b₀ : Stmt} {np pos pos' : Pos} {tb : WX → L2.TS} {ts : Addr → Value → Option Addr → L2.TS}
/-- where the object of an error in the air stands: none of the frames, none of the start, none of the pinned ones -/
theorem sky_new {pins : List (Addr × Obj)} {σ : L2.St} {H : Hp} {sI : Shared} {B h : Heap} {a : Addr} {Z : Obj → Prop} (J : Inv X pins σ H sI) (hs : X.stack = X.env :: X.outer) (hf : X.env.frame = some X.env.locals) (hex : X.ex = [])
    (nb : ∀ b o, sI.heap.get? b = some o → b ∉ frs X.stack → B.get? b = some o) (fl : HandSPX.FlyingZ B (X.env :: X.outer) a Z h) : a ≠ X.env.locals ∧ a ∉ X.fs ∧ X.s_0.heap.get? a = none ∧ ∀ p ∈ X.pn ++ pins, p.1 ≠ a := by
  have nfr : a ∉ frs (X.env :: X.outer) := fun hm => by
    obtain ⟨o, vs, e, _, hd⟩ := fl.there
    obtain ⟨_, o', e', q⟩ := fl.2.2.1.mem hm
    rw [e] at e'
    cases e'
    exact q _ hd
  have nI : sI.heap.get? a = none := by
    cases e : sI.heap.get? a with
    | none => rfl
    | some o =>
      have z := nb a o e (by rw [hs]; exact nfr)
      rw [show B.get? a = none from fl.2.1] at z
      cases z
  refine ⟨fun z => nfr (List.mem_filterMap.mpr ⟨X.env, List.mem_cons_self, by rw [hf, z]⟩), fun hm => ?_, ?_, fun p hp z => ?_⟩
  · obtain ⟨e, he, q⟩ := List.mem_filterMap.mp hm
    exact nfr (List.mem_filterMap.mpr ⟨e, List.mem_cons_of_mem _ he, q⟩)
  · cases e : X.s_0.heap.get? a with
    | none => rfl
    | some o =>
      obtain ⟨o', z⟩ := J.base.there a o e (by rw [hex]; exact fun z => nomatch z)
      rw [nI] at z
      cases z
  · have e := (J.pin p hp).1
    rw [z, nI] at e
    cases e
/-- behind the suite: the name goes, the object that was held apart is tracked -/
theorem keep_end {pins : List (Addr × Obj)} {σ : L2.St} {H : Hp} {s : Shared} {a : Addr} {oe : Obj} {vs : Array Value} {cls : Value} {d : Option Addr} {Q : L2.St → Hp → Prop} (ok : X.Ok) (hN : X.N.Nodup) (hi : X.N[i]? = some n) (hln : X.env.kindOf n = some .local)
    (S : Inv (X.suite a ((a, oe) :: (X.pn ++ pins))) [] σ H s) (hz : Zc cls d oe) (hd : oe.data = .fields vs) (n0 : X.s_0.heap.get? a = none) (nL : a ≠ X.env.locals) (nP : ∀ p ∈ X.pn ++ pins, p.1 ≠ a) (q : H a = none → Q (σ.set i none) (upd H a (cxo a cls d))) :
    wpAny (model X.prog X.w) X.A (do bindName X.env n .none; unbindBehindTheSuite X.env n pos') (fun _ s' => ∃ σ' H', Inv X pins σ' H' s' ∧ Q σ' H') X.xe s := by
  refine gone_ok (X := X.suite a ((a, oe) :: (X.pn ++ pins))) S hN hi hln fun s' S' => ?_
  obtain ⟨e, na, _, _, nc⟩ := S'.pin (a, oe) (List.mem_append_left _ List.mem_cons_self)
  have J : Inv X pins (σ.set i none) H s' := S'.unsuite ok
  refine ⟨_, _, inv_track J na n0 nL (fun y c' ec z => ?_) nP (cxo_ok e hz hd), q na⟩
  obtain ⟨v, o, ho, hv⟩ := J.cell y c' ec
  rw [z, show s'.heap.get? a = some oe from e] at ho
  cases ho
  exact nc v hv
theorem ps_try_keep (hs : X.stack = X.env :: X.outer) (hf : X.env.frame = some X.env.locals) (hex : X.ex = []) (hN : X.N.Nodup) (hi : X.N[i]? = some n) (hln : X.env.kindOf n = some .local) (hg : Gl X x) (hdb : (x == ("__debug__" : Str)) = false) (hm : X.mg x = some c)
    (hb : ∀ (W : WX) (pn : List (Addr × Obj)) (xe : Value → Shared → Prop), Takes (X.tr pn xe) W → PassesOwn (model X.prog X.w) X.A X.env xe → PSs (X.tr pn xe) body (tb W))
    (hsu : ∀ (a : Addr) (oe : Obj) (cls : Value) (d : Option Addr) (pn : List (Addr × Obj)), Zc cls d oe → (∃ vs, oe.data = .fields vs) → PSs (X.suite a ((a, oe) :: pn)) (b₀ :: suite) (ts a cls d)) :
    PS X (.Try body [.ExceptHandler (some (.Name x np)) (some n) (b₀ :: suite) pos'] [] [] pos) (fun D σ H => tb (wKeep X.K c i X.N.length ts D) D σ H) := by
  refine ⟨fun pins s σ H D I h => ?_⟩
  have ok := I.ok
  refine wpAny_Try_except (wpAny_mono ((hb (wKeep X.K c i X.N.length ts D) (X.pn ++ pins) _ (fun u s' xx => ?_) PassesOwn.looking).run [] s σ H D (I.toTry _) h) (fun fl s1 hsp => ?_) fun e s1 he => he)
  · obtain ⟨a, B, sI, _, σ', H', cls, d, rfl, J', nb, up, sky, na, os, ag, hx, hyes⟩ := xx
    have J : Inv X pins σ' H' sI := J'.ofTry ok
    refine Sky.land Zc.steady (by rw [ok.frames, hs]) hf (by rw [← hs]; exact sky) fun h3 fl3 up3 => ?_
    have J3 : Inv X pins σ' H' { s' with heap := h3 } := J.landed nb fl3.1 (up.trans up3) os ag
    obtain ⟨nL, nF, n0, nP⟩ := sky_new J hs hf hex nb fl3
    obtain ⟨o3, v3, e3, z3, d3⟩ := fl3.there
    refine wpAny_handleBy_cons (codeAny_handlers_test ?_) (by intro q; cases q)
    refine ld_glob (X := X.suite a ((a, o3) :: (X.pn ++ pins))) (J3.suite e3 d3 na nL nF) hg hm ?_ hdb
    refine (PySem.W.exm_one (M := model X.prog X.w) J3.kIn (fun A Q E s k q => wpAny_typeOf_ref (k _ _ e3) (by rw [z3.1]; exact q)) hx).here ?_
    refine codeAny_handlers_suite_as (HandSPX.lands_againZ fl3 fun h4 fl4 up4 => ?_)
    have J4 : Inv X pins σ' H' { s' with heap := h4 } := J.landed nb fl4.1 ((up.trans up3).trans up4) os ag
    obtain ⟨o4, v4, e4, z4, d4⟩ := fl4.there
    refine store_ok (X := X.suite a ((a, o4) :: (X.pn ++ pins))) (v := .ref a) (J4.suite e4 d4 na nL nF) hN hi (.inl hln) rfl (fun s5 S5 => ?_) (.inr hln)
    refine wpAny_mono ((hsu a o4 cls d (X.pn ++ pins) z4 ⟨_, d4⟩).run [] s5 _ H' _ S5 (hyes J.len a na)) (fun fl s6 hsp => ?_) fun _ _ z => False.elim z
    match fl, hsp with
    | .next, ⟨σ6, H6, S6, q6⟩ => exact keep_end ok hN hi hln S6 z4 d4 n0 nL nP q6
    | .brk, ⟨_, _, _, q6⟩ => exact q6.elim
    | .cont, ⟨_, _, _, q6⟩ => exact q6.elim
    | .ret _, ⟨_, _, _, _, _, q6⟩ => exact q6.elim
  · match fl, hsp with
    | .next, ⟨σ', H', J', q⟩ => exact wpAny_execs_nil ⟨σ', H', J'.ofTry ok, q⟩
    | .brk, ⟨σ', H', J', q⟩ => exact ⟨σ', H', J'.ofTry ok, q⟩
    | .cont, ⟨σ', H', J', q⟩ => exact ⟨σ', H', J'.ofTry ok, q⟩
    | .ret _, ⟨v, σ', H', J', r, q⟩ => exact ⟨v, σ', H', J'.ofTry ok, r, q⟩
end
/-! ### the error that was kept -/
/-- an error of the class at C, caught and kept, stands at a; its fields -/
def Cgt (H : Hp) (a C : Addr) (fs : List (Str × V)) : Prop := (fs = [] ∧ ∃ d, H a = some (cxo a (.ref C) d) ∧ (d = none ∨ ∃ b gs, d = some b ∧ H b = some (.xd gs))) ∨ ∃ d, H a = some (cxo a (.ref C) (some d)) ∧ H d = some (.xd fs)
theorem Cgt.same {H H' : Hp} {a C : Addr} {fs : List (Str × V)} (e : Cgt H a C fs) (s : Same H H') : Cgt H' a C fs := by
  rcases e with ⟨z, d, e, q⟩ | ⟨d, e1, e2⟩
  · refine .inl ⟨z, d, s _ _ e, ?_⟩
    rcases q with q | ⟨b, gs, q1, q2⟩
    · exact .inl q
    · exact .inr ⟨b, gs, q1, s _ _ q2⟩
  · exact .inr ⟨d, s _ _ e1, s _ _ e2⟩
section
variable {X : Cx}
theorem Cgt.at {pins : List (Addr × Obj)} {σ : L2.St} {H : Hp} {s : Shared} {a C : Addr} {fs : List (Str × V)} (e : Cgt H a C fs) (I : Inv X pins σ H s) :
    ∃ (ox : Obj) (od : Option Obj), PySem.W.InstAt s.heap a ox C od ∧ (fs ≠ [] → ∃ o, od = some o ∧ ∀ n : Str, ∃ u, PySem.W.lookIn n o = some u ∧ RelO (fs.lookup n) u) := by
  rcases e with ⟨z, d, e, q⟩ | ⟨d, e1, e2⟩
  · obtain ⟨⟨ox, vs, ho, hz, hd⟩, _, _⟩ := I.hok a _ e
    rcases q with rfl | ⟨b, gs, rfl, q⟩
    · exact ⟨ox, none, ⟨ho, hz.1, by unfold PySem.W.notCls; rw [hd], by rw [hz.2]; trivial⟩, fun y => absurd z y⟩
    · obtain ⟨mA, hns, rel⟩ := I.hok b _ q
      obtain ⟨od, hod, hl⟩ := lookIn_ns hns
      exact ⟨ox, some od, ⟨ho, hz.1, by unfold PySem.W.notCls; rw [hd], by rw [hz.2]; exact hod⟩, fun y => absurd z y⟩
  · obtain ⟨⟨ox, vs, ho, hz, hd⟩, _, _⟩ := I.hok a _ e1
    obtain ⟨mA, hns, rel⟩ := I.hok d _ e2
    obtain ⟨od, hod, hl⟩ := lookIn_ns hns
    exact ⟨ox, some od, ⟨ho, hz.1, by unfold PySem.W.notCls; rw [hd], by rw [hz.2]; exact hod⟩, fun _ => ⟨od, rfl, fun n => ⟨mA n, hl n, rel n⟩⟩⟩
/-- isinstance(e, c), e an error that was kept -/
def rIsCgt (K : PySem.W.Frag) : List V → Hp → VK → Prop := fun xs H Q => ∃ (a C : Addr) (fs : List (Str × V)) (c : V) (cv : Value) (b : Bool), xs = [.ref a, c] ∧ Cgt H a C fs ∧ ExcC K C ∧ (∀ u, RelV c u → u = cv) ∧ PySem.W.kitOne K (.ref C) cv = some b ∧ Q (.bl b) H
theorem call_isCgt : CallR X (.builtin "isinstance") (rIsCgt X.K) := by
  intro pins s σ H xs us Q I r h
  obtain ⟨a, C, fs, c, cv, b, rfl, e, T, hc, hk, q⟩ := h
  obtain ⟨u, u', rfl, rx, rt⟩ := vals2 r
  obtain rfl : u = Value.ref a := rx
  obtain rfl := hc _ rt
  obtain ⟨ox, od, J, _⟩ := e.at I
  have hcl : (PySem.W.clsIn X.K C).isSome = true := by
    obtain ⟨cd, h1, _⟩ := PySem.W.any_some T.hd
    rw [h1]
    rfl
  exact PySem.W.kia_one (PySem.W.kitx_exc (ox := ox) (od := od) hcl T.hg T.hk T.hs T.ha T.hn T.ht T.hm) I.kIn J hk (fun z => nomatch z) fun tk => ⟨.bl b, H, I.kept (t' := tk) fun _ _ z => z, rfl, q⟩
/-- e.f, e an error that was kept -/
def tCgtF (K : PySem.W.Frag) (n : Str) (te : TE) : TE := fun σ H Q => te σ H fun x H1 => ∃ (a C : Addr) (fs : List (Str × V)) (v : V), x = .ref a ∧ Cgt H1 a C fs ∧ ExcC K C ∧ PySem.W.findIn K (.ref C) n = some none ∧ fs.lookup n = some v ∧ Q v H1
theorem pe_cgtF {e : Expr} {te : TE} {pos : Pos} {n : Str} (he : PE X e te) (hb : attributeBase e n X.env (eval e X.env) = eval e X.env := by rfl) : PE X (.Attribute e n pos) (tCgtF X.K n te) := by
  refine ⟨fun pins s σ H Q I h => ?_⟩
  refine attr_of hb (thn (he.run pins s σ H _ I h) fun u s1 hh => ?_)
  obtain ⟨x, H1, I1, rx, a, C, fs, v, rfl, e1, T, hno, hl, q⟩ := hh
  obtain rfl : u = Value.ref a := rx
  obtain ⟨ox, od, J, k⟩ := e1.at I1
  obtain ⟨o, rfl, k2⟩ := k (fun z => by rw [z] at hl; cases hl)
  obtain ⟨u, hu, ru⟩ := k2 n
  rw [hl] at ru
  cases u with
  | none => exact ru.elim
  | some u =>
    exact HandSPX.exc_get I1.kIn J T.hg T.hk T.hs (PySem.W.findObj_own T.hd hno rfl hu) (handed_of ru) ⟨v, H1, I1.tok _, ru, q⟩
end
end WT
namespace WT
open PySem PySem.Spec PyProof.Rows L2 LamX
/-- a(), the lambda that was handed over, as a statement: tl is what its body's reading makes of it -/
def tAct (f c' : Addr) (q : Str) (tl : XK → Hp → VK → Prop) (W : WX) : L2.TS := fun D σ H =>
  ∃ E : XK, (∀ cls d σ' H', E cls d H' → W cls d σ' H') ∧ σ[0]? = some (some (.ref f)) ∧ H c' = some (CodeO c' q) ∧ tl E H fun _ H1 => D.nx σ H1
theorem pss_act {Z : Cx} {f c' : Addr} {q a : Str} {tl : XK → Hp → VK → Prop} {W : WX} {p1 p2 p3 : Pos}
    (act : ∀ E : XK, (∀ cls d σ' H', E cls d H' → W cls d σ' H') → PE Z (.Call (.Name a p1) [] [] p2) (fun σZ HZ Q => σZ[0]? = some (some (.ref f)) ∧ HZ c' = some (CodeO c' q) ∧ tl E HZ Q)) :
    PSs Z [.Expr (.Call (.Name a p1) [] [] p2) p3] (tAct f c' q tl W) := by
  refine ⟨fun pins s σ H D I h => ?_⟩
  obtain ⟨E, hW, h1, h2, h3⟩ := h
  exact (pss_one (ps_expr (act E hW))).run pins s σ H D I ⟨h1, h2, h3⟩
end WT

set_option Elab.async false
set_option linter.all false
set_option maxRecDepth 100000
set_option maxHeartbeats 2000000
/-! text == any value; a def that raises an own error. -/
namespace PySem.SeqAt
theorem rcAt_txt_dict {A : Around} {s : Shared} {l : Addr} {ob : Obj} {es : Array DictEntry} {ep : Nat} (b : Str) (u : Tok) (ho : s.heap.get? l = some ob) (hc : ob.cls = .type "dict") (hd : ob.data = .dict es ep) (hu : A.units < cLine) : RcAt A s (.str b u) (.ref l) false := fun pr wd Er Q' hq' => by
  obtain ⟨cl, di, da, sl⟩ := ob
  simp only at hc hd
  subst hc hd
  refine rc_eq_decline_or (k := false) (typeIs_str s b u) ⟨_, ho, rfl⟩ (by decide) F.sub_dict_str F.slot_str_eq F.slot_dict_eq_refl (fun _ z => ?_) (fun _ z => ?_) (fun _ z => wpAny_of_eq (rfl : isSame (.str b u) (.ref l) = pure false) z) (.inr hu) hq'
  · exact call_meets F.slot_str_eq (typeIs_str s b u) F.entry_str_eq (F.args_str_eq_2 _ _) (txt_declines b u l di es ep sl) ⟨ho, z⟩
  · exact call_meets F.slot_dict_eq_refl ⟨_, ho, rfl⟩ F.entry_dict_eq (F.args_dict_eq_2 _ _) (dict_declines l b u _) ⟨ho, rfl, z⟩
end PySem.SeqAt
namespace WT
open PySem PySem.Spec PyProof.Rows L2
/-- the data is this text -/
def isT (d : PyData) (z : Str) : Bool := match d with
  | .str s => z == s
  | _ => false
theorem isT_iff {d : PyData} {z : Str} : isT d z = true ↔ d = .str z := by
  cases d with
  | str s =>
    show (z == s) = true ↔ _
    rw [beq_iff_eq]
    exact ⟨fun h => by rw [h], fun h => by cases h; rfl⟩
  | _ => exact ⟨fun h => Bool.noConfusion h, fun h => PyData.noConfusion h⟩
section
variable {X : Cx}
def rEqT (K : PySem.W.Frag) : R2 := fun x y H Q => ∃ (z : Str) (d : PyData), x = .str z ∧ Dt K H y d ∧ Q (.bl (isT d z)) H
theorem op_eqTA {K : PySem.W.Frag} (hu : X.A.units + 64 < cLine) (hK : X.K = K := by rfl) : OpR X (compareOp .Eq) (rEqT K) := by
  subst hK
  intro pins s σ H x y v u Q I rx ry h
  obtain ⟨z, d, rfl, hd, q⟩ := h
  obtain ⟨tk, rfl⟩ := rx
  have hA : X.A.units < cLine := by omega
  have rc : SeqAt.RcAt X.A s (.str z tk) u (isT d z) := by
    cases hd with
    | non =>
      cases ry
      exact SeqAt.RcAt.str_none z tk
    | bl b =>
      cases ry
      exact SeqAt.RcAt.str_bool z tk b
    | int i =>
      obtain ⟨t2, rfl⟩ := ry
      exact SeqAt.RcAt.str_int z tk i t2
    | str y =>
      obtain ⟨t2, rfl⟩ := ry
      exact SeqAt.RcAt.str_str z tk y t2
    | lst h _ =>
      cases ry
      obtain ⟨its, _, pl, _⟩ := I.list h
      exact SeqAt.RcAt.str_list z tk pl.isList hA
    | tup h _ =>
      cases ry
      obtain ⟨its, _, pl, _⟩ := I.tuple h
      exact SeqAt.RcAt.str_tuple z tk pl hA
    | dic h _ =>
      cases ry
      obtain ⟨_, _, us2, _, o, es, ep, ho, hx, hdt, _⟩ := dk_rd I.hok h
      exact SeqAt.rcAt_txt_dict z tk ho hx.1 hdt hA
  exact rc _ _ _ _ ⟨.bl _, H, I, rfl, q⟩
end
/-- a def that may raise, as a caller knows it -/
structure DfX (P : Program) (w : World) (K : PySem.W.Frag) (mg : Str → Option Value) (base : Heap) (x : Str) (k : Nat) (f : Addr) (fd : FuncData) (ps : List Str) (sp : Sp) : Prop where
  g : mg x = some (.ref f)
  kp : PySem.W.keepIn K (.ref f) = true
  bd : Binds K fd ps []
  G : FnOk P w K mg base (L2.CX P w) k f fd ps sp
def sp1 (C : Addr) (f : Str) : Sp := fun vs H Q _ => ∃ (a : Addr) (v : V), vs = [.ref a, v] ∧ H a = some (exo a C none) ∧ ∀ dx, H dx = none → dx ≠ a → Q .non (upd (upd H dx (exd dx [(f, v)])) a (exo a C (some dx)))
/-- an own error with one field, as its maker knows it -/
structure Mk1 (P : Program) (w : World) (K : PySem.W.Frag) (mg : Str → Option Value) (base : Heap) (x n : Str) (C fI : Addr) (fd : FuncData) : Prop where
  g : mg x = some (.ref C)
  oex : OexC K C
  i : PySem.W.findIn K (.ref C) "__init__" = some (some (.ref fI))
  t : PySem.W.typeIn K (.ref fI) = some (.type "function")
  bd : Binds K fd ["self", n] []
  G : FnOk P w K mg base CX0 1 fI fd ["self", n] (sp1 C n)
/-- what __init__ of an own error with one field keeps -/
theorem rz_at {C : Addr} {n : Str} {v : V} {H1 : Hp} {Q : XK} (h : ∀ dx, H1 dx = none → Q (.ref C) (some dx) (upd H1 dx (.xd [(n, v)]))) : ∀ a, H1 a = none → sp1 C n (.ref a :: ([v] ++ [])) (upd H1 a (exo a C none))
    (fun u H2 => u = .non ∧ ∃ (d : Addr) (fs : List (Str × V)), H2 a = some (exo a C (some d)) ∧ H2 d = some (exd d fs) ∧ H1 d = none ∧ Q (.ref C) (some d) (upd (L2.del H2 a) d (.xd fs))) (fun _ _ _ => False) := by
  intro a na
  refine ⟨a, v, rfl, upd_same, fun dx nd ne => ⟨rfl, dx, [(n, v)], upd_same, by rw [upd_ne ne]; exact upd_same, ?_, ?_⟩⟩
  · rw [upd_ne ne] at nd
    exact nd
  · rw [upd_ne ne] at nd
    have e : upd (L2.del (upd (upd (upd H1 a (exo a C none)) dx (exd dx [(n, v)])) a (exo a C (some dx))) a) dx (.xd [(n, v)]) = upd H1 dx (.xd [(n, v)]) := by
      funext b
      by_cases h1 : b = dx
      · rw [h1, upd_same, upd_same]
      · rw [upd_ne h1, upd_ne h1]
        by_cases h2 : b = a
        · rw [h2, L2.del_same, na]
        · rw [L2.del_ne h2, upd_ne h2, upd_ne h1, upd_ne h2]
    rw [e]
    exact h dx nd
end WT

set_option Elab.async false
set_option linter.all false
set_option maxRecDepth 100000
set_option maxHeartbeats 1000000
/-! defs that raise nothing, known without the guards. -/
namespace WT
open PySem PySem.Spec PyProof.Rows L2
structure DfO (P : Program) (w : World) (K : PySem.W.Frag) (mg : Str → Option Value) (base : Heap) (x : Str) (k : Nat) (f : Addr) (fd : FuncData) (ps : List Str) (sp : Sp) : Prop where
  g : mg x = some (.ref f)
  kp : PySem.W.keepIn K (.ref f) = true
  bd : Binds K fd ps []
  G : FnOk P w K mg base CX0 k f fd ps sp
/-- a def known without the guards is known with them -/
theorem DfO.df {P : Program} {w : World} {K : PySem.W.Frag} {mg : Str → Option Value} {base : Heap} {x : Str} {k : Nat} {f : Addr} {fd : FuncData} {ps : List Str} {sp : Sp} (D : DfO P w K mg base x k f fd ps sp) : Df P w K mg base x k f fd ps sp := ⟨D.g, D.kp, D.bd, .of D.G⟩
end WT

set_option Elab.async false
set_option linter.all false
set_option maxRecDepth 100000
set_option maxHeartbeats 4000000
namespace K35
open PySem PySem.Spec PyProof.Rows L2 WT
abbrev st_exits : Stmt := top 8
theorem sc_exits : FnScope ["world", "region", "without", "ways", "name", "those", "kind", "other"] ["world", "region", "without"] (defScope st_exits) := ⟨rfl, rfl, rfl, by decide +kernel, rfl, by decide +kernel, by decide +kernel⟩
section
variable {P : Program} {w : World} {K : PySem.W.Frag} {mg : Str → Option Value} {base : Heap} {f : Addr} {fd : FuncData}
def PairAt (H : Hp) (t : Addr) (e : Str × Str) : Prop := H t = some (.tup [.str e.1, .str e.2])
/-- exits(world, region, without) -/
def spExits (K : PySem.W.Frag) : Sp := fun vs H Q _ => ∃ (wa r g wo : Addr) (as : List Addr) (rs : List Str) (gs : List Gt) (x : Str) (bar : List Str), vs = [.ref wa, .str x, .ref wo] ∧ WorldAt H wa r g as rs gs ∧ SqT K H wo (bar.map V.str) ∧ gs.length ≤ 100 ∧ (∀ g ∈ gs, g.2.1.length ≤ 100) ∧
  ∀ (H' : Hp) (p : Addr) (ts : List Addr), Same H H' → H p = none → H' p = some (.lst (ts.map V.ref)) → Paired (PairAt H') ts (exitsL gs bar x) → Q (.ref p) H'
theorem ok_exits (F : Fun K "exits" "exits" st_exits f fd) : FnOk P w K mg base CX0 1 f fd ["world", "region", "without"] (spExits K) := by
  refine F.ok sc_exits (fun vs H Q E h => ?_) (fun cdv A outer s H vs Q E hr h => ?_)
  · obtain ⟨_, _, _, _, _, _, _, _, _, rfl, _⟩ := h
    rfl
  · obtain ⟨wa, r, g, wo, as, rs, gs, x, bar, rfl, hw, hwo, hgl, hil, q⟩ := h
    refine ⟨_, (pss_cons (ps_set (i := 3) sc_exits.nd rfl (.inl rfl) (pe_lst pa_nil))
      (pss_cons (ps_for PassesOwn.never rfl (pi_tup (pe_ix ix_tup (pv 0) pe_int (fun _ _ => rfl))) (pg_tup rfl (pgs_cons (pg_name (i := 4) sc_exits.nd rfl (.inr rfl)) (pgs_cons (pg_name (i := 5) sc_exits.nd rfl (.inl rfl)) (pgs_cons (pg_name (i := 6) sc_exits.nd rfl (.inl rfl)) pgs_nil))))
       (pss_one (ps_if (PW.pt (pw_and (pt_cmpR op_in_seq (pv 1) (pv 5) (by rfl)) (pw_and1 (pt_cmpR op_notIn_seq (pv 4) (pv 2) (by rfl)))))
        (pss_one (ps_expr (pe_bm PySem.F.plainAttrs_list PySem.F.slot_list_extend PySem.F.type_list_extend mt_extend (pv 3) (pa_cons (pe_lc (own := [("other", 7)]) (by rfl) sc_exits.nd (pi_tup (pv 5)) (blkOk_by (own := [("other", 7)]) (N := ["world", "region", "without", "ways", "name", "those", "kind", "other"]) (sc := defScope st_exits) (by decide +kernel)) (fun _ _ _ _ _ => (pg_name (i := 7) sc_exits.nd rfl (.inl rfl))) (fun _ _ _ _ _ => (pts_one (pt_cmpR op_ne (pv 7) (pv 1) (nomark _)))) (fun _ _ _ _ _ => (pe_tup (pa_cons (pv 4) (pa_cons (pv 7) pa_nil))))) pa_nil))))
        pss_nil)))
      (pss_one (ps_ret (pv 3))))), ?_⟩
    refine ⟨(by show 0 ≤ sizeLine; decide), fun D nD => ?_⟩
    have z0 := same_new nD (o := .lst [])
    have hw0 := hw.same z0
    have hlen := Paired.length hw.each
    refine ⟨_, rfl, wa, _, 1, .ref g, rfl, rfl, SqT.of hw0.top, atI_nat (j := 1) rfl, g, rfl, ⟨_, SqT.of hw0.gat⟩, for_it (walk_tup (xs := as.map V.ref))
      (fun j σ H' => ∃ (v4 v5 v6 : Option V) (ts : List Addr), σ = [some (.ref wa), some (.str x), some (.ref wo), some (.ref D), v4, v5, v6, none] ∧ Same H H' ∧ H' D = some (.lst (ts.map V.ref)) ∧ Paired (PairAt H') ts (exitsL (gs.take j) bar x))
      ⟨none, none, none, [], rfl, z0, upd_same, .nil⟩ (fun j σ H' _ ⟨_, _, _, _, _, sm, _⟩ => SqT.of (hw.same sm).gat) (fun j v σ H2 H3 hj hP hY => ?_) (fun σ H' hP => ?_)⟩
    · obtain ⟨v4, v5, v6, ts, rfl, sm, hD, prs⟩ := hP
      obtain ⟨rfl, hv⟩ := hY
      rw [List.length_map] at hj
      rw [List.getElem?_map, List.getElem?_eq_getElem hj] at hv
      cases hv
      have hj2 : j < gs.length := by omega
      obtain ⟨gg, hgg, ia, e1, e2⟩ := pair_at (hw.same sm).each (List.getElem?_eq_getElem hj)
      rw [List.getElem?_eq_getElem hj2] at hgg
      have hgj : gs[j] = gg := Option.some.inj hgg
      have step : exitsL (gs.take (j + 1)) bar x = exitsL (gs.take j) bar x ++ (if x ∈ gg.2.1 ∧ gg.1 ∉ bar then (gg.2.1.filter fun y => decide (y ≠ x)).map fun y => (gg.1, y) else []) := by
        unfold exitsL
        rw [List.take_add_one, List.getElem?_eq_getElem hj2, hgj, List.flatMap_append]
        simp
      refine ⟨_, [.str gg.1, .ref ia, .str gg.2.2], rfl, SqT.of e1, rfl, .str gg.1, _, rfl, .ref ia, _, rfl, .str gg.2.2, [], rfl, rfl, ?_⟩
      -- region in those and name not in without
      refine ⟨_, rfl, _, rfl, ia, _, rfl, .inr (SqT.of e2), rfl, WT.flat_strs _, _, rfl, ?_⟩
      rw [inV_str]
      by_cases c1 : x ∈ gg.2.1
      · rw [decide_eq_true c1]
        refine iteT ⟨_, rfl, _, rfl, wo, _, rfl, .inr (sameT sm hwo), rfl, WT.flat_strs _, _, rfl, ?_⟩
        rw [inV_str]
        by_cases c2 : gg.1 ∈ bar
        · rw [decide_eq_true c2]
          refine iteF ⟨_, _, _, ts, rfl, sm, hD, ?_⟩
          rw [step, if_neg fun z => z.2 c2, List.append_nil]
          exact prs
        · rw [decide_eq_false c2]
          refine iteT ?_
          rw [if_pos ⟨c1, c2⟩] at step
          refine ⟨_, rfl, .inl ⟨rfl, _, SqL.of hD⟩, _, rfl, ia, rfl, ⟨_, SqT.of e2⟩, fun L nL => lc_tup (K := K) (a := ia) (xs := gg.2.1.map V.str) (fun m H' => Same H3 H' ∧ ∃ us : List Addr, H' L = some (.lst (us.map V.ref)) ∧ Paired (PairAt H') us (((gg.2.1.take m).filter fun y => decide (y ≠ x)).map fun y => (gg.1, y)))
            ⟨same_new nL, [], upd_same, .nil⟩ (fun m H' _ ⟨s', _⟩ => SqT.of (s' _ _ e2)) (fun m v H4 hm hP => ?_) fun H4 hP => ?_⟩
          · obtain ⟨s4, us, hL, pu⟩ := hP
            rw [List.getElem?_map] at hm
            obtain ⟨y, hy, rfl⟩ := Option.map_eq_some_iff.mp hm
            have stp : (gg.2.1.take (m + 1)).filter (fun y => decide (y ≠ x)) = (gg.2.1.take m).filter (fun y => decide (y ≠ x)) ++ (if y ≠ x then [y] else []) := by
              rw [List.take_add_one, hy, List.filter_append]
              by_cases c : y = x
              · rw [if_neg fun z => z c]
                simp [c]
              · rw [if_pos c]
                simp [c]
            refine ⟨rfl, _, rfl, _, rfl, rfl, _, rfl, ?_⟩
            by_cases c : y = x
            · subst c
              rw [show (!decide (V.str y = V.str y)) = false by simp]
              refine iteF ⟨s4, us, hL, ?_⟩
              rw [stp, if_neg fun z => z rfl, List.append_nil]
              exact pu
            · rw [show (!decide (V.str y = V.str x)) = true by simp [c]]
              refine iteT ⟨_, rfl, _, rfl, (by show 2 ≤ sizeLine; decide), fun t nt => ?_⟩
              have z5 := same_new nt (o := .tup [.str gg.1, .str y])
              have hul : us.length ≤ 100 := by
                have e := Paired.length pu
                rw [List.length_map] at e
                have l1 := List.length_filter_le (fun y => decide (y ≠ x)) (gg.2.1.take m)
                have l2 : (gg.2.1.take m).length ≤ gg.2.1.length := by rw [List.length_take]; exact Nat.min_le_right _ _
                have l3 := hil gg (hgj ▸ List.getElem_mem hj2)
                omega
              have keepL : ∀ (c : Addr) (xs : List V) (o : HO), upd H4 t (.tup [.str gg.1, .str y]) c = some (.tup xs) → upd (upd H4 t (.tup [.str gg.1, .str y])) L o c = some (.tup xs) := fun c xs o e => by
                rw [upd_ne (ne_of e (z5 _ _ hL) (by intro z; cases z))]
                exact e
              refine ⟨_, z5 _ _ hL, ?_, ?_, us ++ [t], ?_, ?_⟩
              · rw [List.length_map]
                exact Nat.lt_of_le_of_lt hul (by decide)
              · intro c o ec
                rw [upd_ne (ne_of_none ec nL)]
                exact z5 _ _ (s4 _ _ ec)
              · rw [upd_same, List.map_append]
                rfl
              · rw [stp, if_pos c, List.map_append]
                exact pair_snoc (Paired.mapP pu fun c e h => keepL _ _ _ (z5 _ _ h)) (keepL _ _ _ upd_same)
          · obtain ⟨s4, us, hL, pu⟩ := hP
            rw [List.length_map, List.take_length] at pu
            have hD4 := s4 _ _ hD
            have nLD : L ≠ D := Ne.symm (ne_of_none hD nL)
            refine ⟨D, L, _, _, rfl, rfl, hD4, hL, ?_, ?_⟩
            · rw [List.length_map, List.length_map]
              have a1 := Paired.length prs
              have a2 := Paired.length pu
              have b1 := exits_len (gs := gs.take j) (bar := bar) (x := x) fun g hg => hil g (List.mem_of_mem_take hg)
              have b2 : (gs.take j).length ≤ gs.length := by rw [List.length_take]; exact Nat.min_le_right _ _
              have b3 : ((gg.2.1.filter fun y => decide (y ≠ x)).map fun y => (gg.1, y)).length ≤ 100 := by
                rw [List.length_map]
                exact Nat.le_trans (List.length_filter_le _ _) (hil gg (hgj ▸ List.getElem_mem hj2))
              have b4 : (gs.take j).length * 100 ≤ 100 * 100 := Nat.mul_le_mul (by omega) (by omega)
              exact Nat.le_trans (show ts.length + us.length ≤ 20000 by omega) (by decide)
            · have keepD : ∀ (c : Addr) (xs : List V) (o : HO), H4 c = some (.tup xs) → upd H4 D o c = some (.tup xs) := fun c xs o e => by
                rw [upd_ne (ne_of e hD4 (by intro z; cases z))]
                exact e
              refine ⟨_, _, _, ts ++ us, rfl, ?_, ?_, ?_⟩
              · intro c o ec
                rw [upd_ne (ne_of_none ec nD)]
                exact s4 _ _ (sm _ _ ec)
              · rw [upd_same, List.map_append]
              · rw [step]
                exact pair_app (Paired.mapP prs fun c e h => keepD _ _ _ (s4 _ _ h)) (Paired.mapP pu fun c e h => keepD _ _ _ h)
      · rw [decide_eq_false c1]
        refine iteF (iteF ⟨_, _, _, ts, rfl, sm, hD, ?_⟩)
        rw [step, if_neg fun z => c1 z.1, List.append_nil]
        exact prs
    · obtain ⟨v4, v5, v6, ts, rfl, sm, hD, prs⟩ := hP
      rw [List.length_map, hlen, List.take_length] at prs
      exact ⟨_, rfl, q _ D ts sm nD hD prs⟩
end
end K35

set_option Elab.async false
set_option linter.all false
set_option maxRecDepth 100000
set_option maxHeartbeats 4000000
namespace K35
open PySem PySem.Spec PyProof.Rows L2 WT
abbrev st_shortest_path : Stmt := top 9
theorem sc_shortest_path : FnScope ["world", "one", "other", "without", "paths", "farthest", "reached", "region", "name", "behind"] ["world", "one", "other", "without"] (defScope st_shortest_path) := ⟨rfl, rfl, rfl, by decide +kernel, rfl, by decide +kernel, by decide +kernel⟩
section
variable {P : Program} {w : World} {K : PySem.W.Frag} {mg : Str → Option Value} {base : Heap} {f fE : Addr} {fd fdE : FuncData}
/-- shortest_path(world, one, other, without): there is one exactly if they are connected -/
def spShort (K : PySem.W.Frag) : Sp := fun vs H Q _ => ∃ (wa r g wo : Addr) (as : List Addr) (rs : List Str) (gs : List Gt) (one other : Str) (bar : List Str), vs = [.ref wa, .str one, .str other, .ref wo] ∧ WorldAt H wa r g as rs gs ∧ SqT K H wo (bar.map V.str) ∧ rs.length ≤ 100 ∧ gs.length ≤ 100 ∧
  (∀ g ∈ gs, g.2.1.length ≤ 100 ∧ ∀ y ∈ g.2.1, y ∈ rs) ∧ one ∈ rs ∧ ∀ (H' : Hp) (v : V), Same H H' → (v ≠ .non ↔ Conn gs bar one other) → Q v H'
theorem ok_shortest_path (F : Fun K "shortest_path" "shortest_path" st_shortest_path f fd) (F_exits : DfO P w K mg base "exits" 1 fE fdE ["world", "region", "without"] (spExits K)) : FnOk P w K mg base CX0 2 f fd ["world", "one", "other", "without"] (spShort K) := by
  refine F.ok sc_shortest_path (fun vs H Q E h => ?_) (fun cdv A outer s H vs Q E hr h => ?_)
  · obtain ⟨_, _, _, _, _, _, _, _, _, _, rfl, _⟩ := h
    rfl
  · obtain ⟨wa, r, g, wo, as, rs, gs, one, other, bar, rfl, hw, hwo, hrl, hgl, hil, hone, q⟩ := h
    refine ⟨_, (pss_cons (ps_set (i := 4) sc_shortest_path.nd rfl (.inl rfl) (pe_disp (pps_cons (pv 1) (pe_tup (pa_cons (pv 1) pa_nil)) pps_nil) (by rfl) (by rfl) (fun z => by cases z) (by decide)))
      (pss_cons (ps_set (i := 5) sc_shortest_path.nd rfl (.inl rfl) (pe_lst (pa_cons (pv 1) pa_nil)))
      (pss_cons (ps_while PassesOwn.never (PW.pt (pw_and (pt_truth (pv 5) (by intro _; rfl)) (pw_and1 (pt_cmp (pc_dnotin (hu_of hr) (pv 2) (pv 4))))))
       (pss_cons (ps_set (i := 6) sc_shortest_path.nd rfl (.inl rfl) (pe_lst pa_nil))
       (pss_cons (ps_for PassesOwn.never rfl (pi_list (pv 5)) (pg_name (i := 7) sc_shortest_path.nd rfl (.inl rfl))
        (pss_one (ps_for PassesOwn.never rfl (pi_list (pe_call F_exits.G (hr.mono (by decide)) (by rfl) F_exits.g F_exits.kp F_exits.bd .nil pass0 (pa_cons (pv 0) (pa_cons (pv 7) (pa_cons (pv 3) pa_nil))))) (pg_tup rfl (pgs_cons (pg_name (i := 8) sc_shortest_path.nd rfl (.inl rfl)) (pgs_cons (pg_name (i := 9) sc_shortest_path.nd rfl (.inl rfl)) pgs_nil)))
         (pss_one (ps_if (pt_cmp (pc_dnotin (hu_of hr) (pv 9) (pv 4)))
          (pss_cons (ps_dput (hu_of hr) (pv 4) (pv 9) (pe_op op_catT (pe_dget (hu_of hr) (pv 4) (pv 7) (fun _ _ => rfl)) (pe_tup (pa_cons (pv 8) (pa_cons (pv 9) pa_nil)))) rfl)
          (pss_one (ps_expr (pe_bm PySem.F.plainAttrs_list PySem.F.slot_list_append PySem.F.type_list_append mt_append (pv 6) (pa_cons (pv 9) pa_nil)))))
          pss_nil)))))
       (pss_one (ps_set (i := 5) sc_shortest_path.nd rfl (.inl rfl) (pv 6))))))
      (pss_one (ps_ret (pe_dget1 (hu_of hr) (pv 4) (pv 2) ⟨by rfl, by rfl, by rfl, by rfl⟩)))))), ?_⟩
    -- paths = {one: (one,)}
    intro d nd
    refine ⟨_, rfl, _, rfl, (by show 1 ≤ sizeLine; decide), fun t0 nt0 => ?_⟩
    have z0 := same_new nd (o := .dK [])
    have z1 := same_new nt0 (o := .tup [.str one])
    have hd1 := z1 _ _ (show (upd H d (.dK [])) d = some (.dK []) from upd_same)
    refine ⟨hd1, [(Sum.inr one, .ref t0)], rfl, (by show 1 ≤ 15; decide), ?_⟩
    -- farthest = [one]
    refine ⟨_, rfl, (by show 1 ≤ sizeLine; decide), fun fl0 nfl0 => ?_⟩
    have ntd : t0 ≠ d := Ne.symm (ne_of_none (show (upd H d (.dK [])) d = some (.dK []) from upd_same) nt0)
    have ht2 : (upd (upd (upd H d (.dK [])) t0 (.tup [.str one])) d (.dK (mergeK [] [(Sum.inr one, .ref t0)]))) t0 = some (.tup [.str one]) := by
      rw [upd_ne ntd]
      exact upd_same
    have z2 := same_new nfl0 (o := .lst [.str one])
    have sm0 : Same H (upd (upd (upd (upd H d (.dK [])) t0 (.tup [.str one])) d (.dK (mergeK [] [(Sum.inr one, .ref t0)]))) fl0 (.lst [.str one])) := fun c o e => by
      refine z2 _ _ ?_
      rw [upd_ne (ne_of_none e nd)]
      exact z1 _ _ (z0 _ _ e)
    have bfs0 : Bfs gs bar rs one (upd (upd (upd (upd H d (.dK [])) t0 (.tup [.str one])) d (.dK (mergeK [] [(Sum.inr one, .ref t0)]))) fl0 (.lst [.str one])) [(Sum.inr one, .ref t0)] [one] :=
      ⟨rfl, by simp, by simp, fun k hk => by rw [List.mem_singleton.mp hk]; exact ⟨.refl, hone⟩, fun p hp => by
        rw [List.mem_singleton.mp hp]
        exact ⟨t0, _, rfl, z2 _ _ ht2, by simp, by simp⟩⟩
    refine ⟨fun m σ H' => ∃ (kvs : List (Key × V)) (ks far : List Str) (fl : Addr) (v6 v7 v8 v9 : Option V), σ = [some (.ref wa), some (.str one), some (.str other), some (.ref wo), some (.ref d), some (.ref fl), v6, v7, v8, v9] ∧ Same H H' ∧ H fl = none ∧ H' d = some (.dK kvs) ∧ H' fl = some (.lst (far.map V.str)) ∧
        Bfs gs bar rs one H' kvs ks ∧ (∀ k ∈ far, k ∈ ks) ∧ (∀ k ∈ ks, k ∉ far → ∀ z, Adj gs bar k z → z ∈ ks) ∧ m = 2 * (rs.length - ks.length) + (if far = [] then 0 else 1),
      ⟨_, [(Sum.inr one, .ref t0)], [one], [one], fl0, none, none, none, none, rfl, sm0, ?_, ?_, upd_same, bfs0, fun k hk => hk, fun k hk nk => absurd hk nk, rfl⟩, fun m σ H' hW => ?_⟩
    · cases e : H fl0 with
      | none => rfl
      | some o =>
        have : (upd (upd (upd H d (.dK [])) t0 (.tup [.str one])) d (.dK (mergeK [] [(Sum.inr one, .ref t0)]))) fl0 = some o := by
          rw [upd_ne (ne_of_none e nd)]
          exact z1 _ _ (z0 _ _ e)
        rw [nfl0] at this
        cases this
    · exact z2 _ _ upd_same
    obtain ⟨kvs, ks, far, fl, v6, v7, v8, v9, rfl, sm, nfl, hd, hfl, bf, hfar, hcl, rfl⟩ := hW
    -- while farthest and other not in paths
    have ret : (far = [] ∨ other ∈ ks) → Q ((valV kvs (Sum.inr other)).getD .non) H' := fun hdn => q _ _ sm (bf.out hcl hdn)
    refine ⟨_, rfl, _, .inl ⟨_, SqL.of hfl, rfl⟩, ?_⟩
    cases far with
    | nil =>
      refine ifF rfl (ifF rfl ?_)
      exact ⟨_, rfl, d, rfl, .inl ⟨_, .inl hd⟩, _, rfl, _, DGet.k (k := Sum.inr other) hd, ret (.inl rfl)⟩
    | cons y far =>
      refine ifT rfl ⟨_, rfl, _, rfl, d, _, rfl, DGet.k (k := Sum.inr other) hd, _, rfl, ?_⟩
      by_cases ho : other ∈ ks
      · obtain ⟨t, xs, e, _⟩ := bf.get ho
        refine ifF (by rw [e]; rfl) ?_
        exact ⟨_, rfl, d, rfl, .inl ⟨_, .inl hd⟩, _, rfl, _, DGet.k (k := Sum.inr other) hd, ret (.inr ho)⟩
      · refine ifT (by rw [valV_none fun z => ho (bf.mem.mp z)]; rfl) ?_
        generalize hfr : y :: far = fr at *
        have frn : fr ≠ [] := by
          rw [← hfr]
          simp
        clear hfr
        refine ⟨fun σ' H2 => ∃ (kvs2 : List (Key × V)) (rch : List Str) (rl : Addr) (v6 v7 v8 v9 : Option V), σ' = [some (.ref wa), some (.str one), some (.str other), some (.ref wo), some (.ref d), some (.ref rl), v6, v7, v8, v9] ∧ Same H H2 ∧ H rl = none ∧ H2 d = some (.dK kvs2) ∧ H2 rl = some (.lst (rch.map V.str)) ∧
            Bfs gs bar rs one H2 kvs2 (ks ++ rch) ∧ (∀ k ∈ fr, ∀ z, Adj gs bar k z → z ∈ ks ++ rch), ?_, ?_⟩
        · intro σ' H2 hN
          obtain ⟨kvs2, rch, rl, u6, u7, u8, u9, rfl, sm2, nrl, hd2, hrl2, bf2, hcl2⟩ := hN
          have l1 := bf2.len.2
          rw [List.length_append] at l1
          refine ⟨_, ?_, kvs2, ks ++ rch, rch, rl, u6, u7, u8, u9, rfl, sm2, nrl, hd2, hrl2, bf2, fun k hk => List.mem_append_right _ hk, fun k hk nk z hz => ?_, rfl⟩
          · rw [if_neg frn, List.length_append]
            by_cases e : rch = []
            · rw [if_pos e, e]
              simp
            · rw [if_neg e]
              have : 0 < rch.length := List.length_pos_iff.mpr e
              omega
          · rcases List.mem_append.mp hk with hk | hk
            · by_cases kf : k ∈ fr
              · exact hcl2 k kf z hz
              · exact List.mem_append_left _ (hcl k hk kf z hz)
            · exact absurd hk nk
        -- reached = []
        refine ⟨(by show 0 ≤ sizeLine; decide), fun rl nrl => ?_⟩
        have z3 := same_new nrl (o := .lst [])
        have nrlH : H rl = none := sm.free nrl
        have nlf : fl ≠ rl := ne_of_none hfl nrl
        have nld : d ≠ rl := ne_of_none hd nrl
        have nfd : fl ≠ d := ne_of hfl hd (by intro z; cases z)
        refine ⟨_, rfl, fl, rfl, ⟨_, SqL.of (z3 _ _ hfl)⟩, for_it (walk_list (xs := fr.map V.str))
          (fun i σ' H2 => ∃ (kvs2 : List (Key × V)) (rch : List Str) (v7 v8 v9 : Option V), σ' = [some (.ref wa), some (.str one), some (.str other), some (.ref wo), some (.ref d), some (.ref fl), some (.ref rl), v7, v8, v9] ∧ Same H H2 ∧ H2 d = some (.dK kvs2) ∧ H2 fl = some (.lst (fr.map V.str)) ∧ H2 rl = some (.lst (rch.map V.str)) ∧
            Bfs gs bar rs one H2 kvs2 (ks ++ rch) ∧ (∀ k ∈ fr.take i, ∀ z, Adj gs bar k z → z ∈ ks ++ rch))
          ⟨kvs, [], v7, v8, v9, rfl, sm.trans z3, z3 _ _ hd, z3 _ _ hfl, upd_same, by rw [List.append_nil]; exact bf.same fun t xs e => z3 _ _ e, fun k hk => (nomatch hk)⟩ (fun i σ' H2 _ ⟨_, _, _, _, _, _, _, _, h, _⟩ => SqL.of h) (fun i v σ' H2 H3 hi hP hY => ?_) (fun σ' H2 hP => ?_)⟩
        · obtain ⟨kvs2, rch, u7, u8, u9, rfl, sm2, hd2, hfl2, hrl2, bf2, hcl2⟩ := hP
          obtain ⟨rfl, hv⟩ := hY
          rw [List.getElem?_map] at hv
          obtain ⟨x, hx, rfl⟩ := Option.map_eq_some_iff.mp hv
          have hxk : x ∈ ks := hfar x (List.mem_of_getElem? hx)
          refine ⟨_, rfl, _, rfl, _, rfl, wa, r, g, wo, as, rs, gs, x, bar, rfl, hw.same sm2, sameT sm2 hwo, hgl, fun g hg => (hil g hg).1, fun H4 p ts s4 np hp prs => ?_⟩
          have hlp := Paired.length prs
          refine ⟨p, rfl, ⟨_, SqL.of hp⟩, for_it (walk_list (xs := ts.map V.ref))
            (fun j σ' H5 => ∃ (kvs5 : List (Key × V)) (rc5 : List Str) (v8 v9 : Option V), σ' = [some (.ref wa), some (.str one), some (.str other), some (.ref wo), some (.ref d), some (.ref fl), some (.ref rl), some (.str x), v8, v9] ∧ Same H H5 ∧ H5 d = some (.dK kvs5) ∧ H5 fl = some (.lst (fr.map V.str)) ∧ H5 rl = some (.lst (rc5.map V.str)) ∧ H5 p = some (.lst (ts.map V.ref)) ∧
              Paired (PairAt H5) ts (exitsL gs bar x) ∧ Bfs gs bar rs one H5 kvs5 (ks ++ rc5) ∧ (∀ k ∈ fr.take i, ∀ z, Adj gs bar k z → z ∈ ks ++ rc5) ∧ ∀ e ∈ (exitsL gs bar x).take j, e.2 ∈ ks ++ rc5)
            ⟨kvs2, rch, u8, u9, rfl, sm2.trans s4, s4 _ _ hd2, s4 _ _ hfl2, s4 _ _ hrl2, hp, prs, bf2.same fun t xs e => s4 _ _ e, hcl2, fun e he => (nomatch he)⟩ (fun j σ' H5 _ ⟨_, _, _, _, _, _, _, _, _, h, _⟩ => SqL.of h) (fun j v σ' H5 H6 hj hP hY => ?_) (fun σ' H5 hP => ?_)⟩
          · obtain ⟨kvs5, rc5, w8, w9, rfl, sm5, hd5, hfl5, hrl5, hp5, prs5, bf5, hcl5, hex5⟩ := hP
            obtain ⟨rfl, hv⟩ := hY
            rw [List.getElem?_map] at hv
            obtain ⟨t, ht, rfl⟩ := Option.map_eq_some_iff.mp hv
            obtain ⟨e, he, het⟩ := pair_at prs5 ht
            have hem : e ∈ exitsL gs bar x := List.mem_of_getElem? he
            have hadj := exits_adj hem
            have hsnoc : ∀ rc : List Str, (∀ e' ∈ (exitsL gs bar x).take j, e'.2 ∈ ks ++ rc) → e.2 ∈ ks ++ rc → ∀ e' ∈ (exitsL gs bar x).take (j + 1), e'.2 ∈ ks ++ rc := fun rc h1 h2 e' he' => by
              rw [List.take_add_one, he] at he'
              rcases List.mem_append.mp he' with z | z
              · exact h1 e' z
              · have : e' = e := by simpa using z
                rw [this]
                exact h2
            refine ⟨t, [.str e.1, .str e.2], rfl, SqT.of het, rfl, .str e.1, _, rfl, .str e.2, [], rfl, rfl, ?_⟩
            refine ⟨_, rfl, _, rfl, d, _, rfl, DGet.k (k := Sum.inr e.2) hd5, _, rfl, ?_⟩
            by_cases hin : e.2 ∈ ks ++ rc5
            · obtain ⟨t', xs', ev, _⟩ := bf5.get hin
              refine ifF (by rw [ev]; rfl) ?_
              exact ⟨kvs5, rc5, _, _, rfl, sm5, hd5, hfl5, hrl5, hp5, prs5, bf5, hcl5, hsnoc rc5 hex5 hin⟩
            · refine ifT (by rw [valV_none fun z => hin (bf5.mem.mp z)]; rfl) ?_
              obtain ⟨tp, xs, ev, htp, hxs, hxl⟩ := bf5.get (k := x) (List.mem_append_left _ hxk)
              have hkl := bf5.len
              -- paths[behind] = paths[region] + (name, behind)
              refine ⟨_, rfl, _, rfl, d, .ref tp, rfl, by rw [← ev]; exact DGet.k (k := Sum.inr x) hd5, _, rfl, _, rfl, (by show 2 ≤ sizeLine; decide), fun t7 n7 => ?_⟩
              have z7 := same_new n7 (o := .tup [.str e.1, .str e.2])
              refine ⟨tp, t7, xs, [.str e.1, .str e.2], rfl, rfl, SqT.of (z7 _ _ htp), SqT.of upd_same, hxs, ?_, fun z => (List.cons_ne_nil _ _ z).elim, fun _ t8 n8 => ?_⟩
              · show xs.length + 2 ≤ sizeLine
                exact Nat.le_trans (show xs.length + 2 ≤ 300 by omega) (by decide)
              have z8 := same_new n8 (o := .tup (xs ++ [.str e.1, .str e.2]))
              have z78 := z7.trans z8
              have hd8 := z78 _ _ hd5
              refine ⟨_, rfl, _, rfl, d, _, rfl, DPut.k (k := Sum.inr e.2) hd8 ?_, ?_⟩
              · exact Nat.lt_of_le_of_lt (show kvs5.length ≤ 100 by omega) (by decide)
              have bf8 := bf5.same (H' := upd (upd H6 t7 (.tup [.str e.1, .str e.2])) t8 (.tup (xs ++ [.str e.1, .str e.2]))) fun t xs e => z78 _ _ e
              obtain ⟨hput, bf9⟩ := bf8.put (k := e.2) (t := t8) (xs := xs ++ [.str e.1, .str e.2]) hin ((bf5.con x (List.mem_append_left _ hxk)).1.step hadj)
                (by obtain ⟨g', hg', _, _, hy⟩ := hadj; exact (hil g' hg').2 _ hy) upd_same (by simp) (by simp; omega)
              have keepd : ∀ (c : Addr) (xs' : List V) (o : HO), upd (upd H6 t7 (.tup [.str e.1, .str e.2])) t8 (.tup (xs ++ [.str e.1, .str e.2])) c = some (.tup xs') → upd (upd (upd H6 t7 (.tup [.str e.1, .str e.2])) t8 (.tup (xs ++ [.str e.1, .str e.2]))) d o c = some (.tup xs') := fun c xs' o ec => by
                rw [upd_ne (ne_of ec hd8 (by intro z; cases z))]
                exact ec
              have hrl9 : (upd (upd (upd H6 t7 (.tup [.str e.1, .str e.2])) t8 (.tup (xs ++ [.str e.1, .str e.2]))) d (.dK (putK kvs5 (Sum.inr e.2) (.ref t8)))) rl = some (.lst (rc5.map V.str)) := by
                rw [upd_ne (Ne.symm nld)]
                exact z78 _ _ hrl5
              refine ⟨_, rfl, .inl ⟨rfl, _, SqL.of hrl9⟩, _, rfl, rl, _, _, rfl, rfl, hrl9, ?_, ?_⟩
              · rw [List.length_map]
                have := bf5.len.2
                rw [List.length_append] at this
                exact Nat.lt_of_le_of_lt (show rc5.length ≤ 100 by omega) (by decide)
              · have keepr : ∀ (c : Addr) (xs' : List V) (o : HO), (upd (upd (upd H6 t7 (.tup [.str e.1, .str e.2])) t8 (.tup (xs ++ [.str e.1, .str e.2]))) d (.dK (putK kvs5 (Sum.inr e.2) (.ref t8)))) c = some (.tup xs') → upd (upd (upd (upd H6 t7 (.tup [.str e.1, .str e.2])) t8 (.tup (xs ++ [.str e.1, .str e.2]))) d (.dK (putK kvs5 (Sum.inr e.2) (.ref t8)))) rl o c = some (.tup xs') := fun c xs' o ec => by
                  rw [upd_ne (ne_of ec hrl9 (by intro z; cases z))]
                  exact ec
                have app : ks ++ rc5 ++ [e.2] = ks ++ (rc5 ++ [e.2]) := List.append_assoc ..
                refine ⟨kvs5 ++ [(Sum.inr e.2, .ref t8)], rc5 ++ [e.2], _, _, rfl, ?_, ?_, ?_, ?_, ?_, ?_, ?_, ?_, ?_⟩
                · intro c o ec
                  rw [upd_ne (ne_of_none ec nrlH), upd_ne (ne_of_none ec nd)]
                  exact z78 _ _ (sm5 _ _ ec)
                · rw [upd_ne nld, upd_same, hput]
                · rw [upd_ne nlf, upd_ne nfd]
                  exact z78 _ _ hfl5
                · rw [upd_same, List.map_append]
                  rfl
                · have npr : p ≠ rl := fun z => by
                    rw [z, hrl2] at np
                    cases np
                  have npd : p ≠ d := fun z => by
                    rw [z, hd2] at np
                    cases np
                  rw [upd_ne npr, upd_ne npd]
                  exact z78 _ _ hp5
                · exact Paired.mapP prs5 fun c e' hc => keepr _ _ _ (keepd _ _ _ (z78 _ _ hc))
                · rw [← app]
                  exact bf9.same fun t xs e => keepr _ _ _ (keepd _ _ _ e)
                · intro k hk z hz
                  rw [← app]
                  exact List.mem_append_left _ (hcl5 k hk z hz)
                · refine hsnoc _ (fun e' he' => ?_) ?_
                  · rw [← app]
                    exact List.mem_append_left _ (hex5 e' he')
                  · rw [← app]
                    exact List.mem_append_right _ (by simp)
          · obtain ⟨kvs5, rc5, w8, w9, rfl, sm5, hd5, hfl5, hrl5, hp5, prs5, bf5, hcl5, hex5⟩ := hP
            rw [List.length_map, hlp, List.take_length] at hex5
            refine ⟨kvs5, rc5, _, _, _, rfl, sm5, hd5, hfl5, hrl5, bf5, fun k hk z hz => ?_⟩
            rw [List.take_add_one, hx] at hk
            rcases List.mem_append.mp hk with hk | hk
            · exact hcl5 k hk z hz
            · have hkx : k = x := by simpa using hk
              subst hkx
              by_cases hzk : z = k
              · rw [hzk]
                exact List.mem_append_left _ hxk
              · obtain ⟨e, he, rfl⟩ := adj_exits hz hzk
                exact hex5 e he
        · obtain ⟨kvs2, rch, u7, u8, u9, rfl, sm2, hd2, hfl2, hrl2, bf2, hcl2⟩ := hP
          rw [List.length_map, List.take_length] at hcl2
          exact ⟨_, rfl, kvs2, rch, rl, _, _, _, _, rfl, sm2, nrlH, hd2, hrl2, bf2, hcl2⟩
end
end K35

set_option Elab.async false
set_option linter.all false
set_option maxRecDepth 100000
set_option maxHeartbeats 1000000
/-! Calls with a keyword of defs that are known without the guards. -/
namespace WT
open PySem PySem.Spec PyProof.Rows L2
section
variable {X : Cx} {cx : CXT} {k n m : Nat} {f : Addr} {fd : FuncData} {ps ks : List Str} {sp : Sp} {E : XK} {x : Str} {p pos : Pos} {e : Expr} {es : List Expr} {kws : List Keyword} {t tk : TA}
theorem run_fnO {pins : List (Addr × Obj)} {σ : L2.St} {H : Hp} {s : Shared} {Q : VK} {us : List Value} {kw : List (Str × Value)} {bs : List Value} {vs : List V} (G : FnOk X.prog X.w X.K X.mg X.base cx k f fd ps sp) (hr : Room k X.A)
    (hx : Passes cx X E) (I : Inv X pins σ H s) (hb : BindsTo s fd ⟨us, kw⟩ (ps.zip bs)) (r : Vals vs bs) (h : sp vs H Q E) : wpAny (model X.prog X.w) X.A (call (.ref f) us kw) (EP X pins σ Q) X.xe s := by
  refine wpAny_call (codeAny_mono (G.run X.A X.stack s H ⟨us, kw⟩ bs vs Q E hr I.env0 hb r h) fun r s2 hq => ?_)
  cases r with
  | error e => exact hx pins σ H s e s2 I hq
  | ok fl =>
    cases fl with
    | ret u => exact I.after hq
    | next => exact hq.elim
    | brk => exact hq.elim
    | cont => exact hq.elim
theorem pe_callKO (G : FnOk X.prog X.w X.K X.mg X.base cx k f fd ps sp) (hr : Room k X.A) (hg : Gl X x) (hm : X.mg x = some (.ref f)) (hk : PySem.W.keepIn X.K (.ref f) = true)
    (hb : ∀ (s1 : Shared) (us ws : List Value), X.K.In s1.heap → us.length = n → ws.length = m → BindsTo s1 fd ⟨us, ks.zip ws⟩ (ps.zip (us ++ ws))) (hx : Passes cx X E) (ha : PA X (e :: es) t) (hkw : PK X kws tk)
    (hall : (backToKw pos (keywordEach kws X.env)).all (·.1.isSome) = true := by rfl) (hks : (backToKw pos (keywordEach kws X.env)).filterMap (·.1) = ks := by rfl) (hdb : (x == ("__debug__" : Str)) = false := by decide)
    (he : starEach (e :: es) X.env = (false, eval e X.env) :: starEach es X.env := by rfl) (hpl : ((backTo pos (starEach (e :: es) X.env)).any (·.1) || (backToKw pos (keywordEach kws X.env)).any (·.1.isNone)) = false := by rfl) :
    PE X (.Call (.Name x p) (e :: es) kws pos) (tCallKG n m sp E t tk) := by
  refine ⟨fun pins s σ H Q I h => wpAny_Call_Name_kw (ld_glob I hg hm ?_ hdb)⟩
  refine PySem.W.callWith_KW (h₀ := X.base) I.ok.mod.kin hk hall (thn (ha.run pos pins s σ H _ I h) fun us s1 ⟨vs, H1, I1, r, q⟩ => ?_) hpl he
  refine thn (hkw.run pos pins s1 σ H1 _ I1 q) fun ws s2 ⟨zs, H2, I2, rz, l1, l2, q2⟩ => ⟨I2.kIn, ?_⟩
  rw [hks]
  exact run_fnO G hr hx I2 (hb s2 us ws I2.kIn ((Vals.length r).symm.trans l1) ((Vals.length rz).symm.trans l2)) (r.append rz) q2
end
/-- a def with one keyword-only parameter, known without the guards -/
structure DkO (P : Program) (w : World) (K : PySem.W.Frag) (mg : Str → Option Value) (base : Heap) (x : Str) (k : Nat) (f : Addr) (fd : FuncData) (ps : List Str) (n : Nat) (kw : Str) (dv : V) (sp : Sp) : Prop where
  g : mg x = some (.ref f)
  kp : PySem.W.keepIn K (.ref f) = true
  G : FnOk P w K mg base CX0 k f fd ps sp
  kb : ∀ (s1 : Shared) (us ws : List Value), K.In s1.heap → us.length = n → ws.length = 1 → BindsTo s1 fd ⟨us, ([kw] : List Str).zip ws⟩ (ps.zip (us ++ ws))
  bd : ∃ ds, Vals [dv] ds ∧ Binds K fd ps ds
end WT

set_option Elab.async false
set_option linter.all false
set_option maxRecDepth 100000
set_option maxHeartbeats 4000000
namespace K35
open PySem PySem.Spec PyProof.Rows L2 WT
abbrev st_connected : Stmt := top 10
theorem sc_connected : FnScope ["world", "one", "other", "without"] ["world", "one", "other", "without"] (defScope st_connected) := ⟨rfl, rfl, rfl, by decide +kernel, rfl, by decide +kernel, by decide +kernel⟩
section
variable {P : Program} {w : World} {K : PySem.W.Frag} {mg : Str → Option Value} {base : Heap} {f fS : Addr} {fd fdS : FuncData}
/-- connected(world, one, other, without) -/
def spConn (K : PySem.W.Frag) : Sp := fun vs H Q _ => ∃ (wa r g wo : Addr) (as : List Addr) (rs : List Str) (gs : List Gt) (one other : Str) (bar : List Str), vs = [.ref wa, .str one, .str other, .ref wo] ∧ WorldAt H wa r g as rs gs ∧ SqT K H wo (bar.map V.str) ∧ rs.length ≤ 100 ∧ gs.length ≤ 100 ∧
  (∀ g ∈ gs, g.2.1.length ≤ 100 ∧ ∀ y ∈ g.2.1, y ∈ rs) ∧ one ∈ rs ∧ ∀ (H' : Hp) (c : Bool), Same H H' → (c = true ↔ Conn gs bar one other) → Q (.bl c) H'
theorem ok_connected (F : Fun K "connected" "connected" st_connected f fd) (F_shortest_path : DfO P w K mg base "shortest_path" 2 fS fdS ["world", "one", "other", "without"] (spShort K)) : FnOk P w K mg base CX0 3 f fd ["world", "one", "other", "without"] (spConn K) := by
  refine F.ok sc_connected (fun vs H Q E h => ?_) (fun cdv A outer s H vs Q E hr h => ?_)
  · obtain ⟨_, _, _, _, _, _, _, _, _, _, rfl, _⟩ := h
    rfl
  · obtain ⟨wa, r, g, wo, as, rs, gs, one, other, bar, rfl, hw, hwo, hrl, hgl, hil, hone, q⟩ := h
    refine ⟨_, (pss_one (ps_ret (pe_cmpR op_notN (pe_call F_shortest_path.G (hr.mono (by decide)) (by rfl) F_shortest_path.g F_shortest_path.kp F_shortest_path.bd .nil pass0 (pa_cons (pv 0) (pa_cons (pv 1) (pa_cons (pv 2) (pa_cons (pv 3) pa_nil))))) pe_non (nomark _)))), ?_⟩
    refine ⟨_, rfl, _, rfl, _, rfl, _, rfl, wa, r, g, wo, as, rs, gs, one, other, bar, rfl, hw, hwo, hrl, hgl, hil, hone, fun H' v sm hv => ⟨rfl, q H' _ sm ?_⟩⟩
    rw [← hv]
    simp
/-- how connected is called: with its keyword, and without it -/
theorem dk_connected {T D : Addr} {oc : Value} {od : Option Addr} {doc pm : Value} {an : Option Addr} {cdv ct : Value} {osl : Array (Option Value)}
    (hfd : fd = PySem.W.fnOf "connected" "connected" (defArgs st_connected) (defBody st_connected) (defScope st_connected) .none (.ref D) doc pm an cdv ct) (lk : K.lookup f = some ⟨oc, od, .func fd, osl⟩) (hcd : PySem.W.codeIn K cdv "connected" = true)
    (kp : PySem.W.keepIn K (.ref f) = true) (hns : PySem.W.nsIn K D "without" = some (some (.ref T))) (g : mg "connected" = some (.ref f)) (G : FnOk P w K mg base CX0 3 f fd ["world", "one", "other", "without"] (spConn K)) :
    DkO P w K mg base "connected" 3 f fd ["world", "one", "other", "without"] 3 "without" (.ref T) (spConn K) where
  g := g
  kp := kp
  G := G
  kb := fun s1 us ws X l1 l2 => by
    subst hfd
    match us, ws, l1, l2 with
    | [_, _, _], [_], _, _ => exact .of_eq rfl
  bd := by
    have F : FunD K "connected" "connected" (defArgs st_connected) (defBody st_connected) (defScope st_connected) [] [("without", .ref T)] f fd :=
      ⟨⟨oc, od, .none, .ref D, doc, pm, an, cdv, ct, osl, hfd, lk, hcd, .inl ⟨rfl, rfl⟩, .inr ⟨D, rfl, fun q hq => by
        rw [List.mem_singleton.mp hq]
        exact ⟨.ref T, hns, rfl⟩⟩⟩, kp⟩
    refine F.binds0 (ps := ["world", "one", "other", "without"]) 3 (by simp) rfl fun D doc pm an cdv ct us ks l1 l2 => ?_
    match us, ks, l1, l2 with
    | [_, _, _], [_], _, _ => exact ⟨_, _, _, _, _, _, rfl, rfl, rfl⟩
end
end K35

set_option Elab.async false
set_option linter.all false
set_option maxRecDepth 100000
set_option maxHeartbeats 1000000
namespace K35
open PySem PySem.Spec PyProof.Rows L2 WT
abbrev st_wrapping_names : Stmt := top 4
theorem sc_wrapping_names : FnScope ["world", "name", "those", "kind"] ["world"] (defScope st_wrapping_names) := ⟨rfl, rfl, rfl, by decide +kernel, rfl, by decide +kernel, by decide +kernel⟩
abbrev st_zone_of : Stmt := top 11
theorem sc_zone_of : FnScope ["world", "region", "walls", "other"] ["world", "region"] (defScope st_zone_of) := ⟨rfl, rfl, rfl, by decide +kernel, rfl, by decide +kernel, by decide +kernel⟩
abbrev st_zones : Stmt := top 12
theorem sc_zones : FnScope ["world", "region"] ["world"] (defScope st_zones) := ⟨rfl, rfl, rfl, by decide +kernel, rfl, by decide +kernel, by decide +kernel⟩
section
variable {P : Program} {w : World} {K : PySem.W.Frag} {mg : Str → Option Value} {base : Heap} {f fW fC fZ : Addr} {fd fdW fdC fdZ : FuncData} {dT : Addr}
def spWnames : Sp := fun vs H Q _ => ∃ (wa r g : Addr) (as : List Addr) (rs : List Str) (gs : List Gt), vs = [.ref wa] ∧ WorldAt H wa r g as rs gs ∧ gs.length ≤ 100 ∧
  ∀ (H' : Hp) (p : Addr), Same H H' → H' p = some (.tup ((wrapsW gs).map V.str)) → Q (.ref p) H'
theorem ok_wrapping_names (F : Fun K "wrapping_names" "wrapping_names" st_wrapping_names f fd) (B : Blt mg) : FnOk P w K mg base CX0 1 f fd ["world"] spWnames := by
  refine F.ok sc_wrapping_names (fun vs H Q E h => ?_) (fun cdv A outer s H vs Q E hr h => ?_)
  · obtain ⟨_, _, _, _, _, _, rfl, _⟩ := h
    rfl
  · obtain ⟨wa, r, g, as, rs, gs, rfl, hw, hgl, q⟩ := h
    refine ⟨_, (pss_one (ps_ret (pe_callTy call_tuple_of (by rfl) B.tuple (by decide +kernel) (pa_cons (pe_lc (own := [("name", 1), ("those", 2), ("kind", 3)]) (by rfl) sc_wrapping_names.nd (pi_tup (pe_ix ix_tup (pv 0) pe_int (fun _ _ => rfl))) (blkOk_by (own := [("name", 1), ("those", 2), ("kind", 3)]) (N := ["world", "name", "those", "kind"]) (sc := defScope st_wrapping_names) (by decide +kernel)) (fun _ _ _ _ _ => (pg_tupK (K := K) (n := 3) rfl (pgs_cons (pg_name (i := 1) sc_wrapping_names.nd rfl (.inl rfl)) (pgs_cons (pg_name (i := 2) sc_wrapping_names.nd rfl (.inl rfl)) (pgs_cons (pg_name (i := 3) sc_wrapping_names.nd rfl (.inl rfl)) pgs_nil))))) (fun _ _ _ _ _ => (pts_one (pt_cmpR op_eq (pv 3) pe_str (nomark _)))) (fun _ _ _ _ _ => (pv 1))) pa_nil)))), ?_⟩
    have hlen := Paired.length hw.each
    refine ⟨_, rfl, wa, _, 1, .ref g, rfl, rfl, SqT.of hw.top, atI_nat (j := 1) rfl, g, rfl, ⟨_, SqT.of hw.gat⟩, fun N nN => lc_tup (K := K) (a := g) (xs := as.map V.ref) (fun m H' => Same H H' ∧ H' N = some (.lst ((wrapsW (gs.take m)).map V.str)))
      ⟨same_new nN, by rw [upd_same]; rfl⟩ (fun m H' _ ⟨s', _⟩ => SqT.of (s' _ _ hw.gat)) (fun m v H2 hm hP => ?_) fun H2 hP => ?_⟩
    · obtain ⟨s2, hN⟩ := hP
      rw [List.getElem?_map] at hm
      obtain ⟨t, ht, rfl⟩ := Option.map_eq_some_iff.mp hm
      obtain ⟨gg, hgg, ia, e1, e2⟩ := pair_at (hw.same s2).each ht
      have stp : wrapsW (gs.take (m + 1)) = wrapsW (gs.take m) ++ (if gg.2.2 = ("wrap" : Str) then [gg.1] else []) := by
        unfold wrapsW
        rw [List.take_add_one, hgg, List.filter_append, List.map_append]
        by_cases c : gg.2.2 = ("wrap" : Str)
        · rw [if_pos c]
          simp [c]
        · rw [if_neg c]
          simp [c]
      refine ⟨t, [.str gg.1, .ref ia, .str gg.2.2], rfl, SqT.of e1, rfl, .str gg.1, _, rfl, .ref ia, _, rfl, .str gg.2.2, [], rfl, rfl, rfl, _, rfl, rfl, _, rfl, ?_⟩
      by_cases c : gg.2.2 = ("wrap" : Str)
      · refine ifT (by simp [c]) ⟨_, rfl, _, hN, ?_, ?_, ?_⟩
        · have l1 : (wrapsW (gs.take m)).length ≤ gs.length := by
            unfold wrapsW
            rw [List.length_map]
            refine Nat.le_trans (List.length_filter_le _ _) ?_
            rw [List.length_take]
            exact Nat.min_le_right _ _
          rw [List.length_map]
          exact Nat.lt_of_le_of_lt (show (wrapsW (gs.take m)).length ≤ 100 by omega) (by decide)
        · intro c o ec
          rw [upd_ne (ne_of_none ec nN)]
          exact s2 _ _ ec
        · rw [upd_same, stp, if_pos c, List.map_append]
          rfl
      · refine ifF (by simp [c]) ⟨s2, ?_⟩
        rw [stp, if_neg c, List.append_nil]
        exact hN
    · obtain ⟨s2, hN⟩ := hP
      rw [List.length_map, hlen, List.take_length] at hN
      exact ⟨N, _, rfl, .inl ⟨SqL.of hN, fun t nt => q _ t (s2.trans (same_new nt)) upd_same⟩⟩
/-- a world as the searches want it -/
def WIn (rs : List Str) (gs : List Gt) : Prop := rs.length ≤ 60 ∧ gs.length ≤ 100 ∧ ∀ g ∈ gs, g.2.1.length ≤ 100 ∧ ∀ y ∈ g.2.1, y ∈ rs
/-- zone_of(world, region) -/
def spZoneOf (K : PySem.W.Frag) : Sp := fun vs H Q _ => ∃ (wa r g : Addr) (as : List Addr) (rs : List Str) (gs : List Gt) (x : Str), vs = [.ref wa, .str x] ∧ WorldAt H wa r g as rs gs ∧ WIn rs gs ∧ x ∈ rs ∧
  ∀ (H' : Hp) (p : Addr), Same H H' → H' p = some (.tup ((zoneL (conB gs (wrapsW gs)) rs x).map V.str)) → Q (.ref p) H'
theorem ok_zone_of (F : Fun K "zone_of" "zone_of" st_zone_of f fd) (B : Blt mg) (F_wrapping_names : DfO P w K mg base "wrapping_names" 1 fW fdW ["world"] spWnames) (F_connected : DkO P w K mg base "connected" 3 fC fdC ["world", "one", "other", "without"] 3 "without" (.ref dT) (spConn K)) :
    FnOk P w K mg base CX0 4 f fd ["world", "region"] (spZoneOf K) := by
  refine F.ok sc_zone_of (fun vs H Q E h => ?_) (fun cdv A outer s H vs Q E hr h => ?_)
  · obtain ⟨_, _, _, _, _, _, _, rfl, _⟩ := h
    rfl
  · obtain ⟨wa, r, g, as, rs, gs, x, rfl, hw, ⟨hrl, hgl, hin⟩, hx, q⟩ := h
    refine ⟨_, (pss_cons (ps_set (i := 2) sc_zone_of.nd rfl (.inr rfl) (pe_call F_wrapping_names.G (hr.mono (by decide)) (by rfl) F_wrapping_names.g F_wrapping_names.kp F_wrapping_names.bd .nil pass0 (pa_cons (pv 0) pa_nil)))
      (pss_one (ps_ret (pe_callTy call_tuple_of (by rfl) B.tuple (by decide +kernel) (pa_cons (pe_lc (own := [("other", 3)]) (by rfl) sc_zone_of.nd (pi_tup (pe_ix ix_tup (pv 0) pe_int (fun _ _ => rfl))) (blkOk_by (own := [("other", 3)]) (N := ["world", "region", "walls", "other"]) (sc := defScope st_zone_of) (by decide +kernel)) (fun _ _ _ _ _ => (pg_name (i := 3) sc_zone_of.nd rfl (.inl rfl))) (fun _ _ _ _ _ => (pts_one (pt_val (pe_callKO (n := 3) (m := 1) (ks := ["without"]) F_connected.G (hr.mono (by decide)) (by rfl) F_connected.g F_connected.kp F_connected.kb pass0 (pa_cons (pv 0) (pa_cons (pv 1) (pa_cons (pv 3) pa_nil))) (pk_cons (pv 2) pk_nil))))) (fun _ _ _ _ _ => (pv 3))) pa_nil))))), ?_⟩
    refine ⟨_, rfl, wa, r, g, as, rs, gs, rfl, hw, hgl, fun H1 p s1 hp => ?_⟩
    have hw1 := hw.same s1
    refine ⟨_, rfl, wa, _, 0, .ref r, rfl, rfl, SqT.of hw1.top, atI_nat (j := 0) rfl, r, rfl, ⟨_, SqT.of hw1.reg⟩, fun D nD => lc_tup (K := K) (a := r) (xs := rs.map V.str) (fun m H' => Same H1 H' ∧ H' D = some (.lst ((zoneL (conB gs (wrapsW gs)) (rs.take m) x).map V.str)))
      ⟨same_new nD, by rw [upd_same]; rfl⟩ (fun m H' _ ⟨s', _⟩ => SqT.of (s' _ _ hw1.reg)) (fun m v H2 hm hP => ?_) fun H2 hP => ?_⟩
    · obtain ⟨s2, hD⟩ := hP
      rw [List.getElem?_map] at hm
      obtain ⟨y, hy, rfl⟩ := Option.map_eq_some_iff.mp hm
      have stp : zoneL (conB gs (wrapsW gs)) (rs.take (m + 1)) x = zoneL (conB gs (wrapsW gs)) (rs.take m) x ++ (if conB gs (wrapsW gs) x y = true then [y] else []) := by
        unfold zoneL
        rw [List.take_add_one, hy, List.filter_append]
        by_cases c : conB gs (wrapsW gs) x y = true
        · rw [if_pos c]
          simp [c]
        · rw [if_neg c]
          simp [c]
      refine ⟨rfl, _, rfl, _, rfl, _, rfl, _, rfl, rfl, rfl, wa, r, g, p, as, rs, gs, x, y, wrapsW gs, rfl, hw1.same s2, SqT.of (s2 _ _ hp), by omega, hgl, hin, hx, fun H3 c s3 hc => ?_⟩
      have ec : c = conB gs (wrapsW gs) x y := iff_same hc conB_iff
      refine ⟨_, rfl, ?_⟩
      by_cases cc : c = true
      · refine ifT cc ⟨_, rfl, _, s3 _ _ hD, ?_, ?_, ?_⟩
        · have l1 : (zoneL (conB gs (wrapsW gs)) (rs.take m) x).length ≤ rs.length := by
            refine Nat.le_trans (List.length_filter_le _ _) ?_
            rw [List.length_take]
            exact Nat.min_le_right _ _
          rw [List.length_map]
          exact Nat.lt_of_le_of_lt (show (zoneL (conB gs (wrapsW gs)) (rs.take m) x).length ≤ 100 by omega) (by decide)
        · intro c o ec
          rw [upd_ne (ne_of_none ec nD)]
          exact s3 _ _ (s2 _ _ ec)
        · rw [upd_same, stp, if_pos (by rw [← ec]; exact cc), List.map_append]
          rfl
      · refine ifF (by rw [Bool.not_eq_true] at cc; exact cc) ⟨s2.trans s3, ?_⟩
        rw [stp, if_neg (by rw [← ec]; exact cc), List.append_nil]
        exact s3 _ _ hD
    · obtain ⟨s2, hD⟩ := hP
      rw [List.length_map, List.take_length] at hD
      exact ⟨D, _, rfl, .inl ⟨SqL.of hD, fun t nt => q _ t ((s1.trans s2).trans (same_new nt)) upd_same⟩⟩
/-- zones(world) -/
def spZones : Sp := fun vs H Q _ => ∃ (wa r g : Addr) (as : List Addr) (rs : List Str) (gs : List Gt), vs = [.ref wa] ∧ WorldAt H wa r g as rs gs ∧ WIn rs gs ∧ AscS rs ∧
  ∀ (H' : Hp) (p : Addr) (ts : List Addr), Same H H' → H' p = some (.tup (ts.map V.ref)) → TupsAt H' ts (zonesL (conB gs (wrapsW gs)) rs) → Q (.ref p) H'
theorem ok_zones (F : Fun K "zones" "zones" st_zones f fd) (B : Blt mg) (F_zone_of : DfO P w K mg base "zone_of" 4 fZ fdZ ["world", "region"] (spZoneOf K)) : FnOk P w K mg base CX0 5 f fd ["world"] spZones := by
  refine F.ok sc_zones (fun vs H Q E h => ?_) (fun cdv A outer s H vs Q E hr h => ?_)
  · obtain ⟨_, _, _, _, _, _, rfl, _⟩ := h
    rfl
  · obtain ⟨wa, r, g, as, rs, gs, rfl, hw, hin, asc, q⟩ := h
    refine ⟨_, (pss_one (ps_ret (pe_callTy call_tuple_of (by rfl) B.tuple (by decide +kernel) (pa_cons (pe_callB (cr_sortedK (by rfl) hr.units) (by rfl) B.sorted (by decide +kernel) (pa_cons (pe_scK (own := [("region", 1)]) (by rfl) hr.units sc_zones.nd (pi_tup (pe_ix ix_tup (pv 0) pe_int (fun _ _ => rfl))) (blkOk_by (own := [("region", 1)]) (N := ["world", "region"]) (sc := defScope st_zones) (by decide +kernel)) (fun _ _ _ _ _ => (pg_name (i := 1) sc_zones.nd rfl (.inl rfl))) (fun _ _ _ _ _ => pts_nil) (fun _ _ _ _ _ => (pe_call F_zone_of.G (hr.mono (by decide)) (by rfl) F_zone_of.g F_zone_of.kp F_zone_of.bd .nil pass0 (pa_cons (pv 0) (pa_cons (pv 1) pa_nil))))) pa_nil)) pa_nil)))), ?_⟩
    have hrl := hin.1
    refine ⟨_, rfl, wa, _, 0, .ref r, rfl, rfl, SqT.of hw.top, atI_nat (j := 0) rfl, r, rfl, ⟨_, SqT.of hw.reg⟩, fun D nD => sc_tupK (K := K) (w := w) (a := r) (xs := rs.map V.str)
      (fun m H' => Same H H' ∧ ∃ M : List Rw, H' D = some (KSO w D M) ∧ (∀ q ∈ M, ∃ l, q.2 = keyT l ∧ H' q.1 = some (.tup (l.map V.str)) ∧ ∃ x ∈ rs, l = zoneL (conB gs (wrapsW gs)) rs x) ∧ (∀ x ∈ rs.take m, keyT (zoneL (conB gs (wrapsW gs)) rs x) ∈ M.map Prod.snd) ∧ M.length ≤ m)
      ⟨same_new nD, [], upd_same, fun q hq => absurd hq List.not_mem_nil, fun x hx => absurd hx List.not_mem_nil, Nat.le_refl _⟩ (fun m H' _ ⟨s', _⟩ => SqT.of (s' _ _ hw.reg)) (fun m v H2 hm hP => ?_) fun H2 hP => ?_⟩
    · obtain ⟨s2, M, hD, hM, aM, lM⟩ := hP
      rw [List.getElem?_map] at hm
      obtain ⟨x, hx, rfl⟩ := Option.map_eq_some_iff.mp hm
      have xr := List.mem_of_getElem? hx
      have mlt : m < rs.length := (List.getElem?_eq_some_iff.mp hx).1
      refine ⟨rfl, _, rfl, _, rfl, wa, r, g, as, rs, gs, x, rfl, hw.same s2, hin, xr, fun H3 t s3 ht => ?_⟩
      have hD3 := s3 _ _ hD
      have hM3 : ∀ q ∈ M, ∃ l, q.2 = keyT l ∧ H3 q.1 = some (.tup (l.map V.str)) ∧ ∃ x ∈ rs, l = zoneL (conB gs (wrapsW gs)) rs x := fun q hq => by
        obtain ⟨l, e1, e2, e3⟩ := hM q hq
        exact ⟨l, e1, s3 _ _ e2, e3⟩
      refine ⟨(t, keyT (zoneL (conB gs (wrapsW gs)) rs x)), M, rfl, ⟨hD3, fun q hq => ?_⟩, dpT_strs ht, keyT_depth _, by omega, fun N c1 c2 => ?_⟩
      · obtain ⟨l, e1, e2, _⟩ := hM3 q hq
        rw [e1]
        exact dpT_strs e2
      have keep : ∀ (c : Addr) (xs : List V) (o : HO), H3 c = some (.tup xs) → upd H3 D o c = some (.tup xs) := fun c xs o e => by
        rw [upd_ne (ne_of e hD3 (by intro z; cases z))]
        exact e
      have old : ∀ q ∈ M, ∃ l, q.2 = keyT l ∧ (upd H3 D (KSO w D N)) q.1 = some (.tup (l.map V.str)) ∧ ∃ x ∈ rs, l = zoneL (conB gs (wrapsW gs)) rs x := fun q hq => by
        obtain ⟨l, e1, e2, e3⟩ := hM3 q hq
        exact ⟨l, e1, keep _ _ _ e2, e3⟩
      refine ⟨fun c o ec => ?_, N, upd_same, ?_⟩
      · rw [upd_ne (ne_of_none ec nD)]
        exact s3 _ _ (s2 _ _ ec)
      have tk : ∀ (Y : List NestedKey), (∀ k ∈ M.map Prod.snd, k ∈ Y) → keyT (zoneL (conB gs (wrapsW gs)) rs x) ∈ Y → ∀ y ∈ rs.take (m + 1), keyT (zoneL (conB gs (wrapsW gs)) rs y) ∈ Y := fun Y h1 h2 y hy => by
        rw [List.take_add_one, hx] at hy
        rcases List.mem_append.mp hy with z | z
        · exact h1 _ (aM y z)
        · have : y = x := by simpa using z
          rw [this]
          exact h2
      rcases Classical.em (keyT (zoneL (conB gs (wrapsW gs)) rs x) ∈ M.map Prod.snd) with c | c
      · have e := c1 c
        rw [e]
        rw [e] at old
        exact ⟨old, tk _ (fun _ z => z) c, by omega⟩
      · have pm := c2 c
        refine ⟨fun q hq => ?_, tk _ (fun k hk => (pm.map Prod.snd).mem_iff.mpr (List.mem_cons_of_mem _ hk)) ((pm.map Prod.snd).mem_iff.mpr List.mem_cons_self), by rw [pm.length_eq, List.length_cons]; omega⟩
        rcases List.mem_cons.mp (pm.mem_iff.mp hq) with z | z
        · rw [z]
          exact ⟨_, rfl, keep _ _ _ ht, x, xr, rfl⟩
        · exact old q z
    · obtain ⟨s2, M, hD, hM, aM, lM⟩ := hP
      rw [List.length_map, List.take_length] at aM
      have dM : ∀ q ∈ M, ∃ l, q.2.data = tupD l := fun q hq => by
        obtain ⟨l, e1, _⟩ := hM q hq
        exact ⟨l, by rw [e1, keyT_data]⟩
      refine ⟨D, M, rfl, ⟨hD, fun q hq => ?_⟩, ?_, .inl ?_, fun N L pm pw nd few nL => ?_⟩
      · obtain ⟨l, e1, e2, _⟩ := hM q hq
        rw [e1]
        exact dpT_strs e2
      · intro d hd d' hd'
        obtain ⟨q1, h1, rfl⟩ := List.mem_map.mp hd
        obtain ⟨q2, h2, rfl⟩ := List.mem_map.mp hd'
        obtain ⟨l1, e1⟩ := dM q1 h1
        obtain ⟨l2, e2⟩ := dM q2 h2
        show PySem.W.alike q1.2.data q2.2.data = true
        rw [e1, e2]
        exact alike_tups l1 l2
      · intro d hd
        obtain ⟨q1, h1, rfl⟩ := List.mem_map.mp hd
        obtain ⟨l, e1, _, x, hx, e3⟩ := hM q1 h1
        obtain ⟨h, t, e4, _⟩ := zone_head (conB_eqv gs (wrapsW gs)) asc hx
        refine ⟨.str h, t.map PyData.str, ?_⟩
        show q1.2.data = _
        rw [e1, keyT_data, e3, e4]
        rfl
      have zL := same_new nL (o := .lst (N.map fun q => V.ref q.1))
      have out : TupsAt H2 (N.map Prod.fst) (zonesL (conB gs (wrapsW gs)) rs) := rows_out (conB_eqv gs (wrapsW gs)) asc (fun q hq => hM q (pm.mem_iff.mp hq)) (fun x hx => (pm.map Prod.snd).mem_iff.mpr (aM x hx)) nd pw
      refine ⟨L, _, rfl, .inl ⟨SqL.of upd_same, fun t nt => ?_⟩⟩
      have zt := same_new nt (o := .tup (N.map fun q => V.ref q.1))
      refine q _ t (N.map Prod.fst) ((s2.trans zL).trans zt) ?_ (tups_at_same out fun c xs e => zt _ _ (zL _ _ e))
      rw [upd_same, List.map_map]
      rfl
end
end K35

set_option Elab.async false
set_option linter.all false
set_option maxRecDepth 100000
set_option maxHeartbeats 4000000
/-! x = {k: v for a in as for b in bs}. -/
namespace WT
open PySem PySem.Spec PyProof.Rows L2
theorem dc2_out (kx vx t0 i0 t1 i1 : Expr) (ifs0 ifs1 : List Expr) (scope : Scope) (pos : Pos) (it acc : Value) (env : Env) :
    compTurn (.DictComp kx vx [⟨t0, i0, ifs0, 0⟩, ⟨t1, i1, ifs1, 0⟩] scope pos) 0 it acc env = (do
      standAt i0.pos
      match ← pyNext it with
      | none => pure (.done .next)
      | some v =>
        letOwnedTupleGo t0 it v
        assign t0 env v
        let mut yes := true
        for c in ifs0 do
          if yes then yes ← isTrue c env (eval c env)
        if yes then
          let xs ← eval i1 env
          standAt i1.pos
          let xs ← foldedSetIterable i1 env xs
          let _ ← runOwn (.compStart (.DictComp kx vx [⟨t0, i0, ifs0, 0⟩, ⟨t1, i1, ifs1, 0⟩] scope pos) 1 (← holding [xs] (pyIter xs)) acc env) env
        again (.compLoop (.DictComp kx vx [⟨t0, i0, ifs0, 0⟩, ⟨t1, i1, ifs1, 0⟩] scope pos) 0 it acc env)) := by rfl
theorem dc2_in (kx vx t0 i0 t1 i1 : Expr) (ifs0 ifs1 : List Expr) (scope : Scope) (pos : Pos) (it : Value) (D : Addr) (env : Env) :
    compTurn (.DictComp kx vx [⟨t0, i0, ifs0, 0⟩, ⟨t1, i1, ifs1, 0⟩] scope pos) 1 it (.ref D) env = (do
      standAt i1.pos
      match ← pyNext it with
      | none => pure (.done .next)
      | some v =>
        letOwnedTupleGo t1 it v
        assign t1 env v
        let mut yes := true
        for c in ifs1 do
          if yes then yes ← isTrue c env (eval c env)
        if yes then
          (do
            let kv ← eval kx env
            let vv ← holding [kv] (eval vx env)
            standAt { kx.pos with endLine := vx.pos.endLine, endCol := vx.pos.endCol }
            holding [kv, vv] (dictSet D kv vv))
        again (.compLoop (.DictComp kx vx [⟨t0, i0, ifs0, 0⟩, ⟨t1, i1, ifs1, 0⟩] scope pos) 1 it (.ref D) env)) := by rfl
section
variable {P : Program} {w : World} {A : Around} {R : Result → Shared → Prop} {s : Shared} {kx vx t0 i0 t1 i1 : Expr} {ifs0 ifs1 : List Expr} {scope : Scope} {pos : Pos} {it : Value} {D : Addr} {env : Env}
abbrev tests (env : Env) (ifs : List Expr) : Sem Bool := forIn ifs true fun c r => if r = true then do let ok ← isTrue c env (eval c env); pure (ForInStep.yield ok) else pure (ForInStep.yield r)
abbrev notR (P : Program) (w : World) (A : Around) (env : Env) (R : Result → Shared → Prop) : Value → Shared → Prop := notedBy (model P w) A env fun e s2 => R (.error e) s2
theorem dc2_outer (hs : ∀ x, foldedSetIterable i1 env x = pure x) (J : Nat → Shared → Prop)
    (turn : ∀ n s, J n s → wpAny (model P w) A (pyNext it) (fun r s1 => match r with
      | none => R (.ok .next) s1
      | some v => wpAny (model P w) A (letOwnedTupleGo t0 it v) (fun _ s2 => wpAny (model P w) A (assign t0 env v) (fun _ s3 => wpAny (model P w) A (tests env ifs0) (fun ok s4 =>
            if ok = true then wpAny (model P w) A (eval i1 env) (fun x s5 => wpAny (model P w) A (pyIter x) (fun it1 s6 =>
              codeAny (model P w) A (.compStart (.DictComp kx vx [⟨t0, i0, ifs0, 0⟩, ⟨t1, i1, ifs1, 0⟩] scope pos) 1 it1 (.ref D) env) (fun r s7 => match r with
                | .ok _ => ∃ m, m < n ∧ J m s7
                | .error _ => False) s6) (notR P w A env R) s5) (notR P w A env R) s4
            else ∃ m, m < n ∧ J m s4) (notR P w A env R) s3) (notR P w A env R) s2) (notR P w A env R) s1) (notR P w A env R) s)
    (n : Nat) (h : J n s) : codeAny (model P w) A (.compLoop (.DictComp kx vx [⟨t0, i0, ifs0, 0⟩, ⟨t1, i1, ifs1, 0⟩] scope pos) 0 it (.ref D) env) R s := by
  refine codeAny_loop rfl J (fun n s hJ => ?_) n h
  show wpAny (model P w) A ((compTurn (.DictComp kx vx [⟨t0, i0, ifs0, 0⟩, ⟨t1, i1, ifs1, 0⟩] scope pos) 0 it (.ref D) env).onRaise (fun x => do noteFrame x env; theTreesLotGoes x)) _ _ s
  refine wpAny_noted ?_
  rw [dc2_out]
  refine wpAny_bind (wpAny_standAt (wpAny_bind (wpAny_mono (turn n s hJ) (fun r s1 h1 => ?_) fun _ _ z => z)))
  cases r with
  | none => exact wpAny_pure h1
  | some v =>
    refine wpAny_bind (wpAny_mono h1 (fun _ s2 h2 => wpAny_bind (wpAny_mono h2 (fun _ s3 h3 => wpAny_bind (wpAny_mono h3 (fun ok s4 h4 => ?_) fun _ _ z => z)) fun _ _ z => z)) fun _ _ z => z)
    cases ok with
    | false => exact wpAny_pure ⟨rfl, h4⟩
    | true =>
      refine wpAny_bind (wpAny_mono h4 (fun x s5 h5 => ?_) fun _ _ z => z)
      refine wpAny_bind (wpAny_standAt (wpAny_bind (wpAny_of_eq (hs x) (wpAny_bind (wpAny_holding (wpAny_mono h5 (fun it1 s6 h6 => ?_) fun _ _ z => z))))))
      refine wpAny_bind (wpAny_runOwn ?_)
      rw [Around.mark_none]
      refine codeAny_mono h6 fun r s7 hr => ?_
      cases r with
      | ok f =>
        first
          | exact wpAny_pure ⟨rfl, hr⟩
          | exact wpAny_bind (wpAny_pure (wpAny_pure ⟨rfl, hr⟩))
      | error e => exact hr.elim
theorem dc2_inner (J : Nat → Shared → Prop)
    (turn : ∀ n s, J n s → wpAny (model P w) A (pyNext it) (fun r s1 => match r with
      | none => R (.ok .next) s1
      | some v => wpAny (model P w) A (letOwnedTupleGo t1 it v) (fun _ s2 => wpAny (model P w) A (assign t1 env v) (fun _ s3 => wpAny (model P w) A (tests env ifs1) (fun ok s4 =>
            if ok = true then wpAny (model P w) A (eval kx env) (fun kv s5 => wpAny (model P w) A (eval vx env) (fun vv s6 =>
              wpAny (model P w) A (dictSet D kv vv) (fun _ s7 => ∃ m, m < n ∧ J m s7) (notR P w A env R) s6) (notR P w A env R) s5) (notR P w A env R) s4
            else ∃ m, m < n ∧ J m s4) (notR P w A env R) s3) (notR P w A env R) s2) (notR P w A env R) s1) (notR P w A env R) s)
    (n : Nat) (h : J n s) : codeAny (model P w) A (.compLoop (.DictComp kx vx [⟨t0, i0, ifs0, 0⟩, ⟨t1, i1, ifs1, 0⟩] scope pos) 1 it (.ref D) env) R s := by
  refine codeAny_loop rfl J (fun n s hJ => ?_) n h
  show wpAny (model P w) A ((compTurn (.DictComp kx vx [⟨t0, i0, ifs0, 0⟩, ⟨t1, i1, ifs1, 0⟩] scope pos) 1 it (.ref D) env).onRaise (fun x => do noteFrame x env; theTreesLotGoes x)) _ _ s
  refine wpAny_noted ?_
  rw [dc2_in]
  refine wpAny_bind (wpAny_standAt (wpAny_bind (wpAny_mono (turn n s hJ) (fun r s1 h1 => ?_) fun _ _ z => z)))
  cases r with
  | none => exact wpAny_pure h1
  | some v =>
    refine wpAny_bind (wpAny_mono h1 (fun _ s2 h2 => wpAny_bind (wpAny_mono h2 (fun _ s3 h3 => wpAny_bind (wpAny_mono h3 (fun ok s4 h4 => ?_) fun _ _ z => z)) fun _ _ z => z)) fun _ _ z => z)
    cases ok with
    | false => exact wpAny_pure ⟨rfl, h4⟩
    | true =>
      exact wpAny_bind (wpAny_bind (wpAny_mono h4 (fun kv s5 h5 => wpAny_bind (wpAny_holding (wpAny_mono h5 (fun vv s6 h6 => wpAny_bind (wpAny_standAt (wpAny_holding (wpAny_mono h6 (fun _ s7 h7 => wpAny_pure ⟨rfl, h7⟩) fun _ _ z => z)))) fun _ _ z => z))) fun _ _ z => z))
theorem dc2_start0 {acc : Value} (h0 : codeAny (model P w) A (.compLoop (.DictComp kx vx [⟨t0, i0, ifs0, 0⟩, ⟨t1, i1, ifs1, 0⟩] scope pos) 0 it acc env) R s)
    (h : wpAny (model P w) A (pyIter it) (fun it2 s2 => codeAny (model P w) A (.compLoop (.DictComp kx vx [⟨t0, i0, ifs0, 0⟩, ⟨t1, i1, ifs1, 0⟩] scope pos) 0 it2 acc env) R s2) (notR P w A env R) s) :
    codeAny (model P w) A (.compStart (.DictComp kx vx [⟨t0, i0, ifs0, 0⟩, ⟨t1, i1, ifs1, 0⟩] scope pos) 0 it acc env) R s := by
  refine codeAny_of_tree ?_
  show wpAny (model P w) _ ((compStart (.DictComp kx vx [⟨t0, i0, ifs0, 0⟩, ⟨t1, i1, ifs1, 0⟩] scope pos) 0 it acc env).onRaise (fun x => do noteFrame x env; standAt theWindowsPlace)) _ _ s
  refine wpAny_notedAt ?_
  unfold compStart
  show wpAny (model P w) _ (ask >>= _) _ _ s
  refine wpAny_bind (wpAny_askSetting (wpAny_ite ?_))
  split
  · first
      | exact wpAny_bind (wpAny_pure (wpAny_pure (And.intro rfl h0)))
      | exact wpAny_pure (And.intro rfl h0)
  · first
      | exact wpAny_bind (wpAny_rule (wpAny_bind (wpAny_standAt (wpAny_bind (wpAny_mono h (fun it2 s2 h2 => wpAny_pure (And.intro rfl h2)) fun _ _ x => x)))))
      | (refine wpAny_bind (wpAny_rule ?_); show wpAny (model P w) _ (standAt i0.pos >>= _) _ _ s; exact wpAny_bind (wpAny_standAt (wpAny_bind (wpAny_mono h (fun it2 s2 h2 => wpAny_pure (And.intro rfl h2)) fun _ _ x => x))))
theorem dc2_start1 {acc : Value} (h0 : codeAny (model P w) A (.compLoop (.DictComp kx vx [⟨t0, i0, ifs0, 0⟩, ⟨t1, i1, ifs1, 0⟩] scope pos) 1 it acc env) R s)
    (h : wpAny (model P w) A (pyIter it) (fun it2 s2 => codeAny (model P w) A (.compLoop (.DictComp kx vx [⟨t0, i0, ifs0, 0⟩, ⟨t1, i1, ifs1, 0⟩] scope pos) 1 it2 acc env) R s2) (notR P w A env R) s) :
    codeAny (model P w) A (.compStart (.DictComp kx vx [⟨t0, i0, ifs0, 0⟩, ⟨t1, i1, ifs1, 0⟩] scope pos) 1 it acc env) R s := by
  refine codeAny_of_tree ?_
  show wpAny (model P w) _ ((compStart (.DictComp kx vx [⟨t0, i0, ifs0, 0⟩, ⟨t1, i1, ifs1, 0⟩] scope pos) 1 it acc env).onRaise (fun x => do noteFrame x env; standAt theWindowsPlace)) _ _ s
  refine wpAny_notedAt ?_
  unfold compStart
  show wpAny (model P w) _ (ask >>= _) _ _ s
  refine wpAny_bind (wpAny_askSetting (wpAny_ite ?_))
  split
  · first
      | exact wpAny_bind (wpAny_pure (wpAny_pure (And.intro rfl h0)))
      | exact wpAny_pure (And.intro rfl h0)
  · first
      | exact wpAny_bind (wpAny_rule (wpAny_bind (wpAny_standAt (wpAny_bind (wpAny_mono h (fun it2 s2 h2 => wpAny_pure (And.intro rfl h2)) fun _ _ x => x)))))
      | (refine wpAny_bind (wpAny_rule ?_); show wpAny (model P w) _ (standAt i1.pos >>= _) _ _ s; exact wpAny_bind (wpAny_standAt (wpAny_bind (wpAny_mono h (fun it2 s2 h2 => wpAny_pure (And.intro rfl h2)) fun _ _ x => x))))
end
theorem dc_swaps {kx vx : Expr} {gs : List Comprehension} {scope : Scope} {pos py : Pos} {y : Str} {l : Nat} {env : Env} (hk : env.scope.kind = .function) (hy : env.scope.names.lookup y = some .local) (hl : (py.line == pos.line) = true)
    (ha : (scope.names.any fun (n, k) => n == y && (k == .local || k == .cell)) = false) : swapsWith (.DictComp kx vx gs scope pos) (some (.Name y py)) l env = pure true := by
  have e1 : env.kindOf y = some .local := hy
  have e2 : env.blockKind = .function := by unfold Env.blockKind; rw [hk]; rfl
  unfold swapsWith
  simp only [e2, e1, ha, Expr.pos, hl]
  rfl
section
variable {X : Cx}
/-- D the new dict; behind the first clause the second source's own loop, from which Nx is reached -/
def tDc2 (wi : TI) (g : TG) (tt : L2.TT) (wi1 : TI) (g1 : TG) (tt1 : L2.TT) (tk tv : TE) (vs vs1 : List Nat) : TE := fun σ H Q => wi σ H fun J H1 => ∀ D, H1 D = none → ∃ W : Nat → Nat → Hp → Prop, (∃ m, W 0 m (upd H1 D (.dK []))) ∧ ∀ i m H, W i m H →
  (J.stop i H ∧ Q (.ref D) H) ∨ (J.go i H ∧ ∃ Nx : Hp → Prop, (∀ H2, Nx H2 → ∃ m2, m2 < m ∧ W (i + 1) m2 H2) ∧ ∀ x H2, J.yld i H x H2 → g x (wipe σ vs) H2 fun σ2 H3 => wipe σ2 vs = wipe σ vs ∧ tt σ2 H3 fun b H4 =>
    if b = true then wi1 σ2 H4 fun J1 H5 => ∃ W1 : Nat → Nat → Hp → Prop, (∃ m, W1 0 m H5) ∧ ∀ j k H, W1 j k H →
      (J1.stop j H ∧ Nx H) ∨ (J1.go j H ∧ ∃ Nx1 : Hp → Prop, (∀ H2, Nx1 H2 → ∃ k2, k2 < k ∧ W1 (j + 1) k2 H2) ∧ ∀ x H2, J1.yld j H x H2 → g1 x (wipe σ2 vs1) H2 fun σ3 H6 => wipe σ3 vs1 = wipe σ2 vs1 ∧ tt1 σ3 H6 fun b H7 =>
        if b = true then tk σ3 H7 fun y H8 => tv σ3 H8 fun z H9 => ∃ kvs q, y = kV q ∧ H9 D = some (.dK kvs) ∧ kvs.length < sizeLine ∧ Nx1 (upd H9 D (.dK (putK kvs q z))) else Nx1 H7)
    else Nx H4)
theorem ps_setDc2 {i : Nat} {y : Str} {py : Pos} {kx vx tg iter tg1 iter1 : Expr} {ifs ifs1 : List Expr} {scope : Scope} {own : List (PySem.Str × Nat)} {vs1 : List Nat} {pos spos : Pos} {wi wi1 : TI} {g g1 : TG} {tt tt1 : L2.TT} {tk tv : TE} (hc : X.calm = true) (hN : X.N.Nodup) (hy : X.N[i]? = some y) (hyl : X.env.scope.names.lookup y = some .local)
    (hsw : swapsWith (.DictComp kx vx [⟨tg, iter, ifs, 0⟩, ⟨tg1, iter1, ifs1, 0⟩] scope pos) (some (.Name y py)) spos.line X.env = pure true) (hi : PI X tg iter wi) (ok : BlkOk X.N X.env.scope scope own) (hv : ∀ i ∈ vs1, i ∈ own.map (·.2))
    (hg : ∀ (s : Shared) (H : Hp) (C : Addr) (cl : List (PySem.Str × Addr)) (fp : List Addr), PG (X.blk s H scope (compEnvC scope cl C X.env) fp) tg g) (ht : ∀ (s : Shared) (H : Hp) (C : Addr) (cl : List (PySem.Str × Addr)) (fp : List Addr), PTs (X.blk s H scope (compEnvC scope cl C X.env) fp) ifs tt)
    (hi1 : ∀ (s : Shared) (H : Hp) (C : Addr) (cl : List (PySem.Str × Addr)) (fp : List Addr), PI (X.blk s H scope (compEnvC scope cl C X.env) fp) tg1 iter1 wi1)
    (hg1 : ∀ (s : Shared) (H : Hp) (C : Addr) (cl : List (PySem.Str × Addr)) (fp : List Addr), PG (X.blk s H scope (compEnvC scope cl C X.env) fp) tg1 g1) (ht1 : ∀ (s : Shared) (H : Hp) (C : Addr) (cl : List (PySem.Str × Addr)) (fp : List Addr), PTs (X.blk s H scope (compEnvC scope cl C X.env) fp) ifs1 tt1)
    (hkx : ∀ (s : Shared) (H : Hp) (C : Addr) (cl : List (PySem.Str × Addr)) (fp : List Addr), PE (X.blk s H scope (compEnvC scope cl C X.env) fp) kx tk) (hvx : ∀ (s : Shared) (H : Hp) (C : Addr) (cl : List (PySem.Str × Addr)) (fp : List Addr), PE (X.blk s H scope (compEnvC scope cl C X.env) fp) vx tv)
    (hs : ∀ x, foldedSetIterable iter X.env x = pure x := by intro _; rfl) (hs1 : ∀ env x, foldedSetIterable iter1 env x = pure x := by intro _ _; rfl) :
    PS X (.Assign [.Name y py] (.DictComp kx vx [⟨tg, iter, ifs, 0⟩, ⟨tg1, iter1, ifs1, 0⟩] scope pos) spos) (tAsg (tDc2 wi g tt wi1 g1 tt1 tk tv (own.map (·.2)) vs1) (gName i)) := by
  refine ⟨fun pins s σ H Dn I h => ?_⟩
  rw [exec_Assign_Name_used _ _ _ _ hsw]
  refine wpAny_bind (wpAny_standAt (wpAny_bind ?_))
  show wpAny (model X.prog X.w) X.A (do let _ ← comprehension (.DictComp kx vx [⟨tg, iter, ifs, 0⟩, ⟨tg1, iter1, ifs1, 0⟩] scope pos) scope X.env (firstIterPos [⟨tg, iter, ifs, 0⟩, ⟨tg1, iter1, ifs1, 0⟩] pos) newDict false (eval iter X.env) (some (assign (.Name y py) X.env))) _ _ s
  have h : tDc2 wi g tt wi1 g1 tt1 tk tv (own.map (·.2)) vs1 σ H (fun x H1 => gName i x σ H1 Dn.nx) := h
  have fr : ∀ y ∈ scope.names, y.2 = .free → ∃ c, X.env.cells.lookup y.1 = some c := fun y hy e => by
    rcases ok.free y hy e with k | k
    · exact I.ok.has _ (.inl k)
    · exact I.ok.has _ (.inr k)
  refine wpAny_bind (thn (Q := fun _ s2 => SP X pins Dn .next s2) (wpAny_comprehension_free rfl hs (closure_ok fr) ok.kind (fun y hy e => by rw [ok.uniq y hy, e]) (thn (hi.run pins s σ H _ I h) fun xv s1 hx => thn hx fun itv s2 h2 => ?_)) fun _ s2 hq => wpAny_pure (wpAny_pure hq))
  obtain ⟨it, fp, tn, J, H2, e, I2, T, st2, f2, q⟩ := h2
  subst e
  refine wpAny_newObj_type (newEnv_comp ?_)
  generalize hD : s2.heap.objs.size = D
  have nD : H2 D = none := I2.hok.fresh (Nat.le_of_eq hD)
  obtain ⟨W, ⟨m0, w0⟩, turn⟩ := q D nD
  generalize hs3 : ({ s2 with heap := s2.heap.push { cls := .type "dict", data := .dict #[] } } : Shared) = s3
  have g3 : s3.heap = s2.heap.push { cls := .type "dict", data := .dict #[] } := by rw [← hs3]
  generalize hH3 : upd H2 D (.dK []) = H3 at w0
  have I3 : Inv X pins σ H3 s3 := by
    rw [← hH3, ← hs3]
    refine I2.laid (t' := s2.toks) (fun b o z => Heap.get?_push_of_some _ z) (Nat.le_of_eq hD) ?_
    rw [← hD]
    exact dk_empty s2.heap I2.big
  have f3 : ∀ b ∈ fp, FpOk X pins H3 b ∧ b < s3.heap.objs.size := fun b hb => by
    obtain ⟨o, e, _⟩ := T.obj _ _ st2 b hb
    have lt := Heap.lt_size e
    refine ⟨⟨?_, (f2 b hb).2⟩, by rw [g3, Heap.size_push]; exact Nat.lt_succ_of_lt lt⟩
    rw [← hH3, upd_ne (by rw [← hD]; exact Nat.ne_of_lt lt)]
    exact (f2 b hb).1
  have st3 : tn 0 s3.heap := T.keep _ _ _ st2 fun b _ o e => by rw [g3]; exact Heap.get?_push_of_some _ e
  have I4 := block_start I3 ok hN f3
  have pg := hg s3 H3 s3.heap.objs.size (cellsFrom (s3.heap.objs.size + 1) scope.names (cloFrom X.env.cells scope.names [])) fp
  have pt := ht s3 H3 s3.heap.objs.size (cellsFrom (s3.heap.objs.size + 1) scope.names (cloFrom X.env.cells scope.names [])) fp
  have pk := hkx s3 H3 s3.heap.objs.size (cellsFrom (s3.heap.objs.size + 1) scope.names (cloFrom X.env.cells scope.names [])) fp
  have pv := hvx s3 H3 s3.heap.objs.size (cellsFrom (s3.heap.objs.size + 1) scope.names (cloFrom X.env.cells scope.names [])) fp
  have pi1 := hi1 s3 H3 s3.heap.objs.size (cellsFrom (s3.heap.objs.size + 1) scope.names (cloFrom X.env.cells scope.names [])) fp
  have pg1 := hg1 s3 H3 s3.heap.objs.size (cellsFrom (s3.heap.objs.size + 1) scope.names (cloFrom X.env.cells scope.names [])) fp
  have pt1 := ht1 s3 H3 s3.heap.objs.size (cellsFrom (s3.heap.objs.size + 1) scope.names (cloFrom X.env.cells scope.names [])) fp
  show codeAny (model X.prog X.w) X.A (.compStart (.DictComp kx vx [⟨tg, iter, ifs, 0⟩, ⟨tg1, iter1, ifs1, 0⟩] scope pos) 0 (.ref it) (.ref D) (compEnvC scope (cellsFrom (s3.heap.objs.size + 1) scope.names (cloFrom X.env.cells scope.names [])) s3.heap.objs.size X.env)) (compPost (model X.prog X.w) X.A X.xe (some (assign (.Name y py) X.env)) (fun _ s2 => SP X pins Dn .next s2) (.ref D) s3.heap.objs.size) { s3 with heap := pushCells (s3.heap.push { cls := .type "dict", data := .dict #[] }) scope.names }
  have nofp : ∀ b ∈ fp, H3 b = none := fun b hb => (f3 b hb).1.1
  generalize hce : compEnvC scope (cellsFrom (s3.heap.objs.size + 1) scope.names (cloFrom X.env.cells scope.names [])) s3.heap.objs.size X.env = ce at I4 pg pt pk pv pi1 pg1 pt1 ⊢
  have cl : ce.locals = s3.heap.objs.size := by subst hce; rfl
  generalize hs4 : ({ s3 with heap := pushCells (s3.heap.push { cls := .type "dict", data := .dict #[] }) scope.names } : Shared) = s4 at I4 ⊢
  have st4 : tn 0 s4.heap := T.keep _ _ _ st3 fun b _ o e => by rw [← hs4]; exact pushCells_keeps _ _ _ _ (Heap.get?_push_of_some _ e)
  have okfp : ∀ {σ' : L2.St} {H' : Hp} {s' : Shared}, Inv (X.blk s3 H3 scope ce fp) [] σ' H' s' → (∀ b ∈ fp, H' b = none) → ∀ b ∈ fp, FpOk (X.blk s3 H3 scope ce fp) [] H' b := fun I' hn b hb =>
    ⟨hn b hb, (I'.ok.exf b hb).1, I'.ok.exfs b hb, .inl hb, fun x c e => (I'.ok.exf b hb).2 x c e, fun p hp => absurd (show p ∈ ([] : List (Addr × Obj)) ++ [] from hp) (by simp)⟩
  have loop : codeAny (model X.prog X.w) X.A (.compLoop (.DictComp kx vx [⟨tg, iter, ifs, 0⟩, ⟨tg1, iter1, ifs1, 0⟩] scope pos) 0 (.ref it) (.ref D) ce) (compPost (model X.prog X.w) X.A X.xe (some (assign (.Name y py) X.env)) (fun _ s2 => SP X pins Dn .next s2) (.ref D) s3.heap.objs.size) s4 := by
    refine dc2_outer (hs1 ce) (fun n s' => ∃ i H', Inv (X.blk s3 H3 scope ce fp) [] (wipe σ (own.map (·.2))) H' s' ∧ tn i s'.heap ∧ (∀ b ∈ fp, H' b = none) ∧ W i n H') ?_ m0 ⟨0, H3, I4, st4, nofp, w0⟩
    rintro n s5 ⟨i', H5, I5, st5, n5, w5⟩
    rcases turn i' n H5 w5 with ⟨stop, qq⟩ | ⟨go, Nx, hNx, step⟩
    · refine thnF (T.done (X.blk s3 H3 scope ce fp) rfl rfl rfl hc i' [] s5 _ H5 (fun _ _ => False) I5 (okfp I5 n5) st5 stop) fun r s6 ⟨hr, I6⟩ => ?_
      subst hr
      have I7 : Inv X pins σ H5 s6 := I3.call' (ch := fp) I6.os I6.base I6.hok I6.bare fun b hb => ⟨(f3 b hb).1.2.2.2.1, (f3 b hb).1.2.1, (f3 b hb).1.2.2.2.2.1, (f3 b hb).1.2.2.2.2.2⟩
      have nC : H5 s3.heap.objs.size = none := by
        have z : H5 ce.locals = none := I6.free
        rwa [cl] at z
      obtain ⟨m, hn, _⟩ := I6.loc
      have hn : s6.heap.Ns ce.locals m := hn
      rw [cl] at hn
      show wpAny (model X.prog X.w) _ (assign (.Name y py) X.env (.ref D)) _ _ _
      refine wpAny_assign_Name (store_ok2 (v := V.ref D) I7 hN hy (.inl hyl) rfl (fun s7 I8 ⟨a, sb, ha⟩ => ?_) (.inr hyl))
      obtain ⟨f0, f1, f2, f3, f4, f5⟩ := I3.fpOk (Nat.le_refl _) nC
      have ne : s3.heap.objs.size ≠ a := by
        rcases ha with z | z
        · rw [z]; exact f1
        · exact fun e => f4 y a z e.symm
      refine ⟨m, hn.sameBut sb ne, fun h3 sb3 => ?_⟩
      exact ⟨_, H5, I8.turned (t' := s7.toks) (fun b o hb e => (sb3.2 b hb).trans e) f0 f1 f3 f4 f5, qq⟩
    · refine thnF (T.item (X.blk s3 H3 scope ce fp) rfl rfl rfl hc i' [] s5 _ H5 (fun _ _ => False) I5 (okfp I5 n5) st5 go) fun r s6 ⟨u, hr, h6⟩ => ?_
      subst hr
      refine thnF h6 fun _ s7 ⟨x, H7, I7, r7, y7, st7, n7⟩ => ?_
      refine thnF (pg.run _ s7 _ H7 x u _ (I7.pinned (okfp I7 n7) (T.obj _ _ st7)) r7 (step x H7 y7)) fun _ s8 ⟨σ8, H8, I8, hw8, q8⟩ => ?_
      refine thnF (pt.run _ s8 σ8 H8 _ I8 q8) fun b s9 ⟨H9, I9, q9⟩ => ?_
      have fin : ∀ {σ9 : L2.St} {s' : Shared} {H' : Hp}, Inv (X.blk s3 H3 scope ce fp) ([] ++ pinsAt fp s7.heap) σ9 H' s' → (wipe σ (own.map (·.2))).length = σ9.length → (∀ (j : Nat) v, (wipe σ (own.map (·.2)))[j]? = some (some v) → σ9[j]? = some (some v)) → Nx H' →
          ∃ m, m < n ∧ ∃ i H', Inv (X.blk s3 H3 scope ce fp) [] (wipe σ (own.map (·.2))) H' s' ∧ tn i s'.heap ∧ (∀ b ∈ fp, H' b = none) ∧ W i m H' := fun {σ9 s' H'} I' hl hk nx => by
        obtain ⟨m', hm, w'⟩ := hNx H' nx
        have pin : ∀ b ∈ fp, ∀ o, s7.heap.get? b = some o → s'.heap.get? b = some o ∧ H' b = none := fun b hb o e =>
          let z := I'.pin (b, o) (List.mem_append_right _ (List.mem_append_right _ (mem_pinsAt hb e)))
          ⟨z.1, z.2.1⟩
        refine ⟨m', hm, i' + 1, H', (I'.unpinned (pins := [])).weak hl hk, T.keep _ _ _ st7 fun b hb o e => (pin b hb o e).1, fun b hb => ?_, w'⟩
        obtain ⟨o, e, _⟩ := T.obj _ _ st7 b hb
        exact (pin b hb o e).2
      have l8 : (wipe σ (own.map (·.2))).length = σ8.length := by rw [← hw8, wipe_length]
      have k8 : ∀ (j : Nat) v, (wipe σ (own.map (·.2)))[j]? = some (some v) → σ8[j]? = some (some v) := fun j v e => by
        rw [← hw8] at e
        exact (wipe_some e).1
      have k9 : ∀ (j : Nat) v, (wipe σ (own.map (·.2)))[j]? = some (some v) → (wipe σ8 vs1)[j]? = some (some v) := fun j v e => by
        rw [← hw8] at e
        obtain ⟨e1, e2⟩ := wipe_some e
        rw [wipe_out fun z => e2 (hv j z)]
        exact e1
      cases b with
      | false =>
        simp only [Bool.false_eq_true, if_false] at q9 ⊢
        exact fin I9 l8 k8 q9
      | true =>
        simp only [if_true] at q9 ⊢
        refine thnF (pi1.run _ s9 σ8 H9 _ I9 q9) fun xv s10 hx => thnF hx fun itv s11 h11 => ?_
        obtain ⟨it1, fp1, tn1, J1, H11, e1, I11, T1, st11, f11, W1, ⟨m1, w1⟩, turn1⟩ := h11
        subst e1
        have okfp1 : ∀ {H' : Hp}, (∀ b ∈ fp1, H' b = none) → ∀ b ∈ fp1, FpOk (X.blk s3 H3 scope ce fp) ([] ++ pinsAt fp s7.heap) H' b := fun hn b hb => ⟨hn b hb, (f11 b hb).2⟩
        have loop1 : codeAny (model X.prog X.w) X.A (.compLoop (.DictComp kx vx [⟨tg, iter, ifs, 0⟩, ⟨tg1, iter1, ifs1, 0⟩] scope pos) 1 (.ref it1) (.ref D) ce)
            (fun r s' => match r with
              | .ok _ => ∃ m, m < n ∧ ∃ i H', Inv (X.blk s3 H3 scope ce fp) [] (wipe σ (own.map (·.2))) H' s' ∧ tn i s'.heap ∧ (∀ b ∈ fp, H' b = none) ∧ W i m H'
              | .error _ => False) s11 := by
          refine dc2_inner (fun k s' => ∃ j H', Inv (X.blk s3 H3 scope ce fp) ([] ++ pinsAt fp s7.heap) (wipe σ8 vs1) H' s' ∧ tn1 j s'.heap ∧ (∀ b ∈ fp1, H' b = none) ∧ W1 j k H') ?_ m1 ⟨0, H11, I11.weak (wipe_length _ _) (fun j v e => (wipe_some e).1), st11, fun b hb => (f11 b hb).1, w1⟩
          rintro k s12 ⟨j, H12, I12, st12, n12, w12⟩
          rcases turn1 j k H12 w12 with ⟨stop1, nx1⟩ | ⟨go1, Nx1, hNx1, step1⟩
          · refine thnF (T1.done (X.blk s3 H3 scope ce fp) rfl rfl rfl hc j _ s12 (wipe σ8 vs1) H12 (fun _ _ => False) I12 (okfp1 n12) st12 stop1) fun r s13 ⟨hr, I13⟩ => ?_
            subst hr
            exact fin I13 (l8.trans (wipe_length σ8 vs1).symm) k9 nx1
          · refine thnF (T1.item (X.blk s3 H3 scope ce fp) rfl rfl rfl hc j _ s12 (wipe σ8 vs1) H12 (fun _ _ => False) I12 (okfp1 n12) st12 go1) fun r s13 ⟨u1, hr, h13⟩ => ?_
            subst hr
            refine thnF h13 fun _ s14 ⟨x1, H14, I14, r14, y14, st14, n14⟩ => ?_
            refine thnF (pg1.run _ s14 (wipe σ8 vs1) H14 x1 u1 _ (I14.pinned (okfp1 n14) (T1.obj _ _ st14)) r14 (step1 x1 H14 y14)) fun _ s15 ⟨σ15, H15, I15, hw15, q15⟩ => ?_
            refine thnF (pt1.run _ s15 σ15 H15 _ I15 q15) fun b1 s16 ⟨H16, I16, q16⟩ => ?_
            have fin1 : ∀ {s' : Shared} {H' : Hp}, Inv (X.blk s3 H3 scope ce fp) (([] ++ pinsAt fp s7.heap) ++ pinsAt fp1 s14.heap) σ15 H' s' → Nx1 H' → ∃ m, m < k ∧ ∃ j H', Inv (X.blk s3 H3 scope ce fp) ([] ++ pinsAt fp s7.heap) (wipe σ8 vs1) H' s' ∧ tn1 j s'.heap ∧ (∀ b ∈ fp1, H' b = none) ∧ W1 j m H' := fun {s' H'} I' nx => by
              obtain ⟨m', hm, w'⟩ := hNx1 H' nx
              have pin : ∀ b ∈ fp1, ∀ o, s14.heap.get? b = some o → s'.heap.get? b = some o ∧ H' b = none := fun b hb o e =>
                let z := I'.pin (b, o) (List.mem_append_right _ (List.mem_append_right _ (mem_pinsAt hb e)))
                ⟨z.1, z.2.1⟩
              refine ⟨m', hm, j + 1, H', I'.unpinned.weak (by rw [← hw15, wipe_length]) (fun j v e => by rw [← hw15] at e; exact (wipe_some e).1), T1.keep _ _ _ st14 fun b hb o e => (pin b hb o e).1, fun b hb => ?_, w'⟩
              obtain ⟨o, e, _⟩ := T1.obj _ _ st14 b hb
              exact (pin b hb o e).2
            cases b1 with
            | false =>
              simp only [Bool.false_eq_true, if_false] at q16 ⊢
              exact fin1 I16 q16
            | true =>
              simp only [if_true] at q16 ⊢
              refine thnF (pk.run _ s16 σ15 H16 _ I16 q16) fun z s17 ⟨yk, H17, I17, r17, q17⟩ => ?_
              refine thnF (pv.run _ s17 σ15 H17 _ I17 q17) fun z2 s18 ⟨yv, H18, I18, r18, kvs, kk, ek, hD18, few, nx⟩ => ?_
              subst ek
              exact d_dictSet (X := X.blk s3 H3 scope ce fp) I18 hD18 few r17 r18 fun s19 I19 => fin1 I19 nx
        exact dc2_start1 loop1 (T1.self X.A 0 _ _ _ st11 loop1)
  exact dc2_start0 loop (T.self X.A 0 _ _ _ st4 loop)
end
end WT
namespace WT
open PySem PySem.Spec PyProof.Rows L2
/-- a loop's W by an invariant, whatever a turn's body is -/
theorem walk_V {J : It} {n : Nat} {G : Hp → Prop} {Y : Nat → Hp → V → Hp → Prop} (w : Walk J n G Y) {Body : V → Hp → (Hp → Prop) → Prop} {Qd : Hp → Prop} {H0 : Hp} (Pv : Nat → Hp → Prop) (h0 : Pv 0 H0) (hG : ∀ i H, i ≤ n → Pv i H → G H)
    (hs : ∀ i x H H2, i < n → Pv i H → Y i H x H2 → Body x H2 (Pv (i + 1))) (hd : ∀ H, Pv n H → Qd H) :
    ∃ W : Nat → Nat → Hp → Prop, (∃ m, W 0 m H0) ∧ ∀ i m H, W i m H → (J.stop i H ∧ Qd H) ∨ (J.go i H ∧ ∃ Nx : Hp → Prop, (∀ H2, Nx H2 → ∃ m2, m2 < m ∧ W (i + 1) m2 H2) ∧ ∀ x H2, J.yld i H x H2 → Body x H2 Nx) := by
  refine ⟨fun i m H => m + i = n ∧ Pv i H, ⟨n, rfl, h0⟩, fun i m H ⟨e, p⟩ => ?_⟩
  rcases Nat.lt_or_ge i n with lt | ge
  · exact .inr ⟨w.goes i H lt (hG i H (by omega) p), Pv (i + 1), fun H2 p2 => ⟨m - 1, by omega, by omega, p2⟩, fun x H2 y => hs i x H H2 lt p (w.yields i H x H2 lt (hG i H (by omega) p) y)⟩
  · obtain rfl : i = n := by omega
    exact .inl ⟨w.stops H (hG _ H (by omega) p), hd H p⟩
end WT

set_option Elab.async false
set_option linter.all false
set_option maxRecDepth 100000
set_option maxHeartbeats 1000000
namespace K35
open PySem PySem.Spec PyProof.Rows L2 WT
abbrev st_members : Stmt := top 5
theorem sc_members : FnScope ["world", "name", "gateway"] ["world", "name"] (defScope st_members) := ⟨rfl, rfl, rfl, by decide +kernel, rfl, by decide +kernel, by decide +kernel⟩
abbrev st_leads : Stmt := top 6
theorem sc_leads : FnScope ["world", "name", "start", "end", "those"] ["world", "name", "start", "end"] (defScope st_leads) := ⟨rfl, rfl, rfl, by decide +kernel, rfl, by decide +kernel, by decide +kernel⟩
abbrev st_is_crossing : Stmt := top 14
theorem sc_is_crossing : FnScope ["world", "value", "gateway", "start", "end"] ["world", "value"] (defScope st_is_crossing) := ⟨rfl, rfl, rfl, by decide +kernel, rfl, by decide +kernel, by decide +kernel⟩
theorem dt_three {K : PySem.W.Frag} {H : Hp} {xs : List V} {ds : List PyData} (h : DtAll K H xs ds) (l : xs.length = 3) : ∃ v1 v2 v3 d1 d2 d3, xs = [v1, v2, v3] ∧ ds = [d1, d2, d3] ∧ Dt K H v1 d1 ∧ Dt K H v2 d2 ∧ Dt K H v3 d3 :=
  match xs, ds, h, l with
  | [v1, v2, v3], [d1, d2, d3], .cons h1 (.cons h2 (.cons h3 .nil)), _ => ⟨v1, v2, v3, d1, d2, d3, rfl, rfl, h1, h2, h3⟩
section
variable {P : Program} {w : World} {K : PySem.W.Frag} {mg : Str → Option Value} {base : Heap} {f fM fW fL : Addr} {fd fdM fdW fdL : FuncData}
/-- members(world, name), name a gateway -/
def spMembers : Sp := fun vs H Q _ => ∃ (wa r g : Addr) (as : List Addr) (rs : List Str) (gs : List Gt) (x : Str), vs = [.ref wa, .str x] ∧ WorldAt H wa r g as rs gs ∧ (∃ g ∈ gs, g.1 = x) ∧
  ∀ (i : Addr) (g : Gt), g ∈ gs → g.1 = x → H i = some (.tup (g.2.1.map V.str)) → Q (.ref i) H
theorem ok_members (F : Fun K "members" "members" st_members f fd) : FnOk P w K mg base CX0 1 f fd ["world", "name"] spMembers := by
  refine F.ok sc_members (fun vs H Q E h => ?_) (fun cdv A outer s H vs Q E hr h => ?_)
  · obtain ⟨_, _, _, _, _, _, _, rfl, _⟩ := h
    rfl
  · obtain ⟨wa, r, g, as, rs, gs, x, rfl, hw, hx, q⟩ := h
    refine ⟨_, (pss_cons (ps_for PassesOwn.never rfl (pi_tup (pe_ix ix_tup (pv 0) pe_int (fun _ _ => rfl))) (pg_name (i := 2) sc_members.nd rfl (.inl rfl))
       (pss_one (ps_if (pt_cmpR op_eq (pe_ix ix_tup (pv 2) pe_int (fun _ _ => rfl)) (pv 1) (nomark _))
        (pss_one (ps_ret (pe_ix ix_tup (pv 2) pe_int (fun _ _ => rfl))))
        pss_nil)))
      (pss_one ps_never)), ?_⟩
    have hlen := Paired.length hw.each
    refine ⟨_, rfl, wa, _, 1, .ref g, rfl, rfl, SqT.of hw.top, atI_nat (j := 1) rfl, g, rfl, ⟨_, SqT.of hw.gat⟩, for_it (walk_tup (xs := as.map V.ref)) (fun j σ H' => ∃ v2 : Option V, σ = [some (.ref wa), some (.str x), v2] ∧ H' = H ∧ ∀ g ∈ gs.take j, g.1 ≠ x)
      ⟨none, rfl, rfl, fun g hg => nomatch hg⟩ (fun j σ H' _ ⟨_, _, e, _⟩ => by rw [e]; exact SqT.of hw.gat) (fun j v σ H2 H3 hj hP hY => ?_) (fun σ H2 hP => ?_)⟩
    · obtain ⟨v2, rfl, rfl, hno⟩ := hP
      obtain ⟨rfl, hv⟩ := hY
      rw [List.getElem?_map] at hv
      obtain ⟨t, ht, rfl⟩ := Option.map_eq_some_iff.mp hv
      obtain ⟨gg, hgg, ia, e1, e2⟩ := pair_at hw.each ht
      refine ⟨_, rfl, t, _, 0, .str gg.1, rfl, rfl, SqT.of e1, atI_nat (j := 0) rfl, _, rfl, rfl, _, rfl, ?_⟩
      by_cases c : gg.1 = x
      · exact ifT (by simp [c]) ⟨_, rfl, t, _, 1, .ref ia, rfl, rfl, SqT.of e1, atI_nat (j := 1) rfl, q ia gg (List.mem_of_getElem? hgg) c e2⟩
      · refine ifF (by simp [c]) ⟨_, rfl, rfl, fun g hg => ?_⟩
        rw [List.take_add_one, hgg] at hg
        rcases List.mem_append.mp hg with hg | hg
        · exact hno g hg
        · have : g = gg := by simpa using hg
          rw [this]
          exact c
    · obtain ⟨v2, rfl, rfl, hno⟩ := hP
      rw [List.length_map, hlen, List.take_length] at hno
      obtain ⟨g, hg, e⟩ := hx
      exact absurd e (hno g hg)
/-- leads(world, name, start, end): name a gateway, the others any values -/
def spLeads (K : PySem.W.Frag) : Sp := fun vs H Q _ => ∃ (wa r g : Addr) (as : List Addr) (rs : List Str) (gs : List Gt) (n : Str) (x y : V) (a b : PyData), vs = [.ref wa, .str n, x, y] ∧ WorldAt H wa r g as rs gs ∧ Dt K H x a ∧ Dt K H y b ∧ (∃ g ∈ gs, g.1 = n) ∧
  ∀ g ∈ gs, g.1 = n → Q (.bl (leadD a b g.2.1)) H
theorem ok_leads (F : Fun K "leads" "leads" st_leads f fd) (F_members : DfO P w K mg base "members" 1 fM fdM ["world", "name"] spMembers) : FnOk P w K mg base CX0 2 f fd ["world", "name", "start", "end"] (spLeads K) := by
  refine F.ok sc_leads (fun vs H Q E h => ?_) (fun cdv A outer s H vs Q E hr h => ?_)
  · obtain ⟨_, _, _, _, _, _, _, _, _, _, _, rfl, _⟩ := h
    rfl
  · obtain ⟨wa, r, g, as, rs, gs, n, x, y, a, b, rfl, hw, da, db, hx, q⟩ := h
    refine ⟨_, (pss_cons (ps_set (i := 4) sc_leads.nd rfl (.inl rfl) (pe_call F_members.G (hr.mono (by decide)) (by rfl) F_members.g F_members.kp F_members.bd .nil pass0 (pa_cons (pv 0) (pa_cons (pv 1) pa_nil))))
      (pss_one (ps_ret (pe_and (pe_cmpR (op_inA (K := K) hr.units) (pv 2) (pv 4) (by rfl)) (pe_and (pe_cmpR (op_inA (K := K) hr.units) (pv 3) (pv 4) (by rfl)) (pe_one (pe_cmpR op_ne (pv 2) (pv 3) (nomark _)))))))), ?_⟩
    refine ⟨_, rfl, _, rfl, wa, r, g, as, rs, gs, n, rfl, hw, hx, fun i gg hgg en hi => ?_⟩
    have q' := q gg hgg en
    unfold leadD at q'
    refine ⟨_, rfl, _, rfl, i, gg.2.1, a, rfl, .inr (SqT.of hi), da, _, rfl, ?_⟩
    cases c : isIn a gg.2.1 with
    | false =>
      rw [c, Bool.false_and] at q'
      exact ifF rfl q'
    | true =>
      rw [c, Bool.true_and] at q'
      refine ifT rfl ⟨_, rfl, _, rfl, i, gg.2.1, b, rfl, .inr (SqT.of hi), db, _, rfl, ?_⟩
      cases c2 : isIn b gg.2.1 with
      | false =>
        rw [c2, Bool.false_and] at q'
        exact ifF rfl q'
      | true =>
        rw [c2, Bool.true_and] at q'
        obtain ⟨s1, _, rfl⟩ := isIn_str c
        obtain ⟨s2, _, rfl⟩ := isIn_str c2
        cases da
        cases db
        refine ifT rfl ⟨_, rfl, _, rfl, rfl, ?_⟩
        rw [show decide (V.str s1 = V.str s2) = PyData.eqv (.str s1) (.str s2) from by
          rw [PyData.eqv]
          by_cases z : s1 = s2
          · rw [z]
            simp
          · rw [decide_eq_false fun y => z (V.str.inj y)]
            exact (beq_eq_false_iff_ne.mpr z).symm]
        exact q'
/-- is_crossing(world, value), any value -/
def spIsCross (K : PySem.W.Frag) : Sp := fun vs H Q _ => ∃ (wa r g : Addr) (as : List Addr) (rs : List Str) (gs : List Gt) (x : V) (d : PyData), vs = [.ref wa, x] ∧ WorldAt H wa r g as rs gs ∧ gs.length ≤ 100 ∧ (gs.map (·.1)).Nodup ∧ Dt K H x d ∧
  ∀ H', Same H H' → Q (.bl (crossD gs d)) H'
theorem ok_is_crossing (F : Fun K "is_crossing" "is_crossing" st_is_crossing f fd) (B : Blt mg) (hisi : mg "isinstance" = none) (F_wrapping_names : DfO P w K mg base "wrapping_names" 1 fW fdW ["world"] spWnames) (F_leads : DfO P w K mg base "leads" 2 fL fdL ["world", "name", "start", "end"] (spLeads K)) :
    FnOk P w K mg base CX0 3 f fd ["world", "value"] (spIsCross K) := by
  refine F.ok sc_is_crossing (fun vs H Q E h => ?_) (fun cdv A outer s H vs Q E hr h => ?_)
  · obtain ⟨_, _, _, _, _, _, _, _, rfl, _⟩ := h
    rfl
  · obtain ⟨wa, r, g, as, rs, gs, x, d, rfl, hw, hgl, nd, hd, q⟩ := h
    refine ⟨_, (pss_cons (ps_if (PW.pt (pw_or (pt_not (pt_val (pe_callB (call_isiA (K := K)) (by rfl) hisi (by decide +kernel) (pa_cons (pv 1) (pa_cons (pe_bltn (v := .ty "tuple") (by rfl) B.tuple (by decide +kernel) rfl) pa_nil))))) (pw_or1 (pt_cmpR op_ne (pe_callB call_len (by rfl) B.len (by decide +kernel) (pa_cons (pv 1) pa_nil)) pe_int (nomark _)))))
       (pss_one (ps_ret pe_bl))
       pss_nil)
      (pss_cons (ps_asg (pv 1) (pg_tup rfl (pgs_cons (pg_name (i := 2) sc_is_crossing.nd rfl (.inl rfl)) (pgs_cons (pg_name (i := 3) sc_is_crossing.nd rfl (.inl rfl)) (pgs_cons (pg_name (i := 4) sc_is_crossing.nd rfl (.inl rfl)) pgs_nil)))))
      (pss_one (ps_ret (pe_and (pe_cmpR (op_inA (K := K) hr.units) (pv 2) (pe_call F_wrapping_names.G (hr.mono (by decide)) (by rfl) F_wrapping_names.g F_wrapping_names.kp F_wrapping_names.bd .nil pass0 (pa_cons (pv 0) pa_nil)) (by rfl)) (pe_one (pe_call F_leads.G (hr.mono (by decide)) (by rfl) F_leads.g F_leads.kp F_leads.bd .nil pass0 (pa_cons (pv 0) (pa_cons (pv 2) (pa_cons (pv 3) (pa_cons (pv 4) pa_nil))))))))))), ?_⟩
    have no : crossD gs d = false → Q (.bl false) H := fun e => by
      have := q H fun _ _ z => z
      rwa [e] at this
    refine ⟨_, rfl, x, "tuple", d, isTup d, rfl, hd, kit_tuple d, _, rfl, ?_⟩
    cases hd with
    | @tup a xs ds hx hds =>
      refine ifF rfl ?_
      have lx := DtAll.length hds
      refine ⟨_, rfl, _, xs.length, rfl, .inr ⟨_, hx, rfl⟩, rfl, _, rfl, ?_⟩
      by_cases c1 : xs.length = 3
      · refine ifF (c := !decide (V.int (xs.length : Int) = V.int 3)) (by rw [c1]; rfl) ?_
        obtain ⟨v1, v2, v3, d1, d2, d3, rfl, rfl, h1, h2, h3⟩ := dt_three hds c1
        refine ⟨_, rfl, a, _, rfl, hx, rfl, _, _, rfl, _, _, rfl, _, _, rfl, rfl, ?_⟩
        refine ⟨_, rfl, _, rfl, wa, r, g, as, rs, gs, rfl, hw, hgl, fun H1 p s1 hp => ⟨p, wrapsW gs, d1, rfl, .inr (SqT.of hp), h1.same s1, _, rfl, ?_⟩⟩
        cases c : isIn d1 (wrapsW gs) with
        | false =>
          have := q H1 s1
          rw [cross_no c] at this
          exact ifF rfl this
        | true =>
          obtain ⟨n, hn, rfl⟩ := isIn_str c
          obtain ⟨gg, hg, _, en⟩ := mem_wraps.mp hn
          cases h1
          refine ifT rfl ⟨_, rfl, _, rfl, _, rfl, _, rfl, wa, r, g, as, rs, gs, n, v2, v3, d2, d3, rfl, hw.same s1, h2.same s1, h3.same s1, ⟨gg, hg, en⟩, fun g2 hg2 en2 => ?_⟩
          have := q H1 s1
          rwa [cross_by nd hg2 en2 hn] at this
      · refine ifT (c := !decide (V.int (xs.length : Int) = V.int 3)) (by rw [decide_eq_false fun z => c1 (by have := V.int.inj z; omega)]; rfl) (no ?_)
        unfold crossD
        split
        · rename_i e
          cases e
          exact absurd lx c1
        · rfl
    | _ => exact ifT rfl (no rfl)
end
end K35

set_option Elab.async false
set_option linter.all false
set_option maxRecDepth 100000
set_option maxHeartbeats 4000000
/-! sorted of a tuple, of a dict's values: alike data. -/
namespace WT
open PySem PySem.Spec PyProof.Rows L2 PySem.W
abbrev VD := V × PyData
/-- new for the tracked heap, since it is new behind what the heap grew to -/
def NewAt (h : Heap) (p : Addr) : Prop := h.get? p = none ∧ ∃ h1 : Heap, (∀ b o, h.get? b = some o → h1.get? b = some o) ∧ h1.objs.size ≤ p
theorem vd_sorted (l : List VD) : (l.mergeSort (dataLe false Prod.snd)).Pairwise fun a b => dataLt b.2 a.2 = false := by
  have T := sortLe_total (listOrd itemOrd) false fun b : VD => keyToks b.2
  have pw : (l.mergeSort (dataLe false Prod.snd)).Pairwise fun a b => dataLe false Prod.snd a b = true := List.pairwise_mergeSort (fun a b c => T.trans a b c) (fun a b => by
    rcases T.total a b with h | h
    · show (dataLe false Prod.snd a b || _) = true
      rw [show dataLe false Prod.snd a b = true from h]
      rfl
    · show (_ || dataLe false Prod.snd b a) = true
      rw [show dataLe false Prod.snd b a = true from h, Bool.or_true]) l
  refine pw.imp fun {a b} h => ?_
  have h : (!dataLt b.2 a.2) = true := h
  rwa [Bool.not_eq_true'] at h
theorem kv_vals {κ : Type} : ∀ {kvs : List (κ × V)} {vs : List (κ × Value)}, KV kvs vs → Vals (kvs.map Prod.snd) (vs.map Prod.snd)
  | _, _, .nil => .nil
  | _, _, .cons h t => .cons h.2 (kv_vals t)
/-- t + u, whichever of the two it gives -/
theorem catA_any {K : PySem.W.Frag} {H : Hp} {Q : VK} {t u : Addr} {xs ys : List V} (ht : H t = some (.tup xs)) (hu : H u = some (.tup ys)) (few : xs.length + ys.length ≤ sizeLine) (h : ∀ (q : Addr) (H7 : Hp), Same H H7 → H7 q = some (.tup (xs ++ ys)) → Q (.ref q) H7) : rCatA K (.ref t) (.ref u) H Q := by
  refine ⟨t, u, xs, ys, rfl, rfl, SqT.of ht, SqT.of hu, few, fun e => h u H (fun _ _ z => z) ?_, fun _ e => h t H (fun _ _ z => z) ?_, fun _ _ p np => h p _ (same_new np) upd_same⟩
  · rw [e, List.nil_append]
    exact hu
  · rw [e, List.append_nil]
    exact ht
section
variable {P : Program} {w : World} {A : Around} {E : Value → Shared → Prop} {s : Shared}
/-- whatever is collected into these values -/
theorem sorted_col {x : Value} {bs : List VD} {Q : Value → Shared → Prop} (hu : A.units + 64 < cLine)
    (col : ∀ (Z : List Value → Shared → Prop), (∀ (h2 : Heap) (tk : Nat) (vs : List Value), (∀ b o, s.heap.get? b = some o → h2.get? b = some o) → EachIs (fun v (b : VD) => RelV b.1 v) vs bs → Z vs { s with heap := h2, toks := tk }) → wpAny (model P w) A.in1 (collect x) Z E s)
    (hr : ∀ vs, EachIs (fun v (b : VD) => RelV b.1 v) vs bs → EachIs (fun v (b : VD) => Reads s.heap v b.2 []) vs bs) (al : AllAlike (bs.map Prod.snd)) (so : Sortable (bs.map Prod.snd)) (dp : ∀ b ∈ bs, b.2.depth ≤ 60) (few : bs.length ≤ sizeLine)
    (z : ∀ (h2 : Heap) (tk : Nat) (p : Addr) (out : Array Value) (c : Nat), (∀ b o, s.heap.get? b = some o → h2.get? b = some o) → NewAt s.heap p → h2.get? p = some (seqObj "list" out c) → Vals ((bs.mergeSort (dataLe false Prod.snd)).map Prod.fst) out.toList → Q (.ref p) { s with heap := h2, toks := tk }) :
    wpAny (model P w) A (call (.builtin "sorted") [x]) Q E s := by
  refine Calls.call_function_entry kind_sorted plain_sorted entry_sorted (args_sorted1 _) ?_
  unfold Builtin.«sorted»
  refine wpAny_bind (m := checkCount "sorted" 1 1 _) (wpAny_pure (wpAny_bind (col _ fun h2 tk vs k2 ev => ?_)))
  have lv := ev.length
  refine wpAny_bind (wpAny_newList ?_ (by omega))
  have hoL : (h2.push (seqObj "list" vs.toArray 0)).get? h2.objs.size = some (seqObj "list" vs.toArray 0) := Heap.get?_push_size _ rfl
  have kk : ∀ b o, s.heap.get? b = some o → (h2.push (seqObj "list" vs.toArray 0)).get? b = some o := fun b o e => Heap.get?_push_of_some _ (k2 b o e)
  refine wpAny_bind (wpAny_holding (list_sort_data (enc := Prod.snd) (bs := bs) (s := { s with heap := h2.push (seqObj "list" vs.toArray 0), toks := tk }) hoL ev
    ((hr vs ev).mono fun v b r => ⟨[], PyProof.Rows.Reads.keeps kk r, List.not_mem_nil⟩) al so few (fun b hb => ?_) fun out ho he => ?_))
  · have := dp b hb
    simp only [Around.in1_units]
    omega
  obtain ⟨c, hc⟩ := sortedHeap_at (vs := vs) (out := List.toArray out) hoL
  have s0 : s.heap.get? h2.objs.size = none := by
    cases e : s.heap.get? h2.objs.size with
    | none => rfl
    | some o => exact absurd (Heap.lt_size (k2 _ _ e)) (Nat.lt_irrefl _)
  refine wpAny_pure ⟨_, rfl, z _ tk h2.objs.size (List.toArray out) c (fun b u e => ?_) ⟨s0, h2, k2, Nat.le_refl _⟩ hc (vals_each he)⟩
  have e1 := k2 b u e
  have lt := Heap.lt_size e1
  rw [sortedHeap_old (Nat.ne_of_lt lt) (by rw [size_push']; exact Nat.lt_succ_of_lt lt)]
  exact Heap.get?_push_of_some _ e1
end
section
variable {X : Cx}
theorem free_H {pins : List (Addr × Obj)} {σ : L2.St} {H : Hp} {s : Shared} (I : Inv X pins σ H s) {p : Addr} (hp : NewAt s.heap p) : H p = none := by
  obtain ⟨_, h1, k, z⟩ := hp
  exact (I.hok.kept k).fresh z
/-- what is laid by such a sort -/
theorem col_done {pins : List (Addr × Obj)} {σ : L2.St} {H : Hp} {s : Shared} (I : Inv X pins σ H s) {ys : List V} {h2 : Heap} {tk : Nat} {p : Addr} {out : Array Value} {c : Nat} (few : ys.length ≤ sizeLine) (k : ∀ b o, s.heap.get? b = some o → h2.get? b = some o) (hp : NewAt s.heap p)
    (hg : h2.get? p = some (seqObj "list" out c)) (hv : Vals ys out.toList) : Inv X pins σ (upd H p (.lst ys)) { s with heap := h2, toks := tk } :=
  I.laidN (t' := tk) k hp.1 (free_H I hp) (show ObjOk X.prog X.w _ h2 p (.lst ys) from ⟨few, out.toList, c, hv, hg⟩)
/-- no list and no dict in it: so no address of one is read -/
theorem plain_reads {pins : List (Addr × Obj)} {σ : L2.St} {H : Hp} {s : Shared} (I : Inv X pins σ H s) {bs : List VD} (hd : ∀ b ∈ bs, ∃ k : NestedKey, b.2 = k.data ∧ Dp X.K H b.1 b.2) :
    ∀ vs, EachIs (fun v (b : VD) => RelV b.1 v) vs bs → EachIs (fun v (b : VD) => Reads s.heap v b.2 []) vs bs := by
  intro vs e
  induction e with
  | nil => exact .nil
  | @cons v b vs bs h _ ih =>
    obtain ⟨k, e1, e2⟩ := hd b List.mem_cons_self
    obtain ⟨as, r⟩ := Dp.reads I _ _ _ e2 h
    have : as = [] := by
      rw [e1] at r
      exact (nk_reads k _ as r).2
    rw [this] at r
    exact .cons r (ih fun x hx => hd x (List.mem_cons_of_mem _ hx))
/-- sorted(t), a tuple of texts -/
def rSortedTS (K : PySem.W.Frag) : List V → Hp → VK → Prop := fun vs H Q => ∃ (a : Addr) (ys : List Str), vs = [.ref a] ∧ SqT K H a (ys.map V.str) ∧ ys.length ≤ 4000 ∧ ∀ (zs : List Str) (p : Addr), zs.Perm ys → zs.Pairwise (fun x y => ¬ Bef y x) → H p = none → Q (.ref p) (upd H p (.lst (zs.map V.str)))
theorem text_sort (ys : List Str) : ∃ zs : List Str, zs.Perm ys ∧ zs.Pairwise (fun x y => ¬ Bef y x) ∧ ((ys.map fun y => ((V.str y, PyData.str y) : VD)).mergeSort (dataLe false Prod.snd)) = zs.map fun y => (V.str y, PyData.str y) := by
  obtain ⟨zs, pz, ez⟩ := perm_map_inv (f := fun y : Str => ((V.str y, PyData.str y) : VD)) (List.mergeSort_perm (ys.map fun y => ((V.str y, PyData.str y) : VD)) (dataLe false Prod.snd)) rfl
  refine ⟨zs, pz, ?_, ez⟩
  have T := sortLe_total (listOrd itemOrd) false fun b : VD => keyToks b.2
  have pw : ((ys.map fun y => ((V.str y, PyData.str y) : VD)).mergeSort (dataLe false Prod.snd)).Pairwise fun a b => dataLe false Prod.snd a b = true := List.pairwise_mergeSort (fun a b c => T.trans a b c) (fun a b => by
    rcases T.total a b with h | h
    · show (dataLe false Prod.snd a b || _) = true
      rw [show dataLe false Prod.snd a b = true from h]
      rfl
    · show (_ || dataLe false Prod.snd b a) = true
      rw [show dataLe false Prod.snd b a = true from h, Bool.or_true]) _
  rw [ez, List.pairwise_map] at pw
  refine pw.imp fun {a b} h hb => ?_
  have h : (!dataLt (.str b) (.str a)) = true := h
  rw [dataLt_str, decide_eq_true (show b.cps.toList < a.cps.toList from hb)] at h
  cases h
theorem cr_sortedTS (hu : X.A.units + 64 < cLine) : CallR X (.builtin "sorted") (rSortedTS X.K) := by
  intro pins s σ H vs us Q I r h
  obtain ⟨a, ys, rfl, hs, few, q⟩ := h
  obtain ⟨its, rv, ⟨o, ho, hc, n, hd⟩, hz⟩ := I.tuple hs
  rw [Vals.ref1 r]
  obtain ⟨zs, pz, srt, ez⟩ := text_sort ys
  have e := each_vals (bs := ys.map fun y => ((V.str y, PyData.str y) : VD)) (us := its) (by rw [List.map_map]; exact rv)
  have lz := pz.length_eq
  have li : its.length = ys.length := by rw [← rv.length, List.length_map]
  have few2 : ys.length ≤ sizeLine := Nat.le_trans few (by decide)
  refine sorted_col (bs := ys.map fun y => ((V.str y, PyData.str y) : VD)) hu (fun Z hZ => ?_) (plain_reads I fun b hb => ?_) ?_ (.inr ?_) (fun b hb => ?_) (by rw [List.length_map]; exact few2) fun h2 tk p out c k hp hg hv => ?_
  · refine wpAny_collect_seq a (.inr rfl) ho hc hd (fun h2 k2 => ?_) (by rw [List.size_toArray, li]; exact few2)
    exact hZ h2 s.toks its k2 e
  · obtain ⟨y, _, rfl⟩ := List.mem_map.mp hb
    exact ⟨.text y, by rw [NestedKey.data], .str y⟩
  · intro d hd d' hd'
    rw [List.map_map] at hd hd'
    obtain ⟨x, _, rfl⟩ := List.mem_map.mp hd
    obtain ⟨y, _, rfl⟩ := List.mem_map.mp hd'
    show alike (.str x) (.str y) = true
    simp [alike]
  · intro d hd
    rw [List.map_map] at hd
    obtain ⟨x, _, rfl⟩ := List.mem_map.mp hd
    exact ⟨fun z => (by cases z), fun xs z => (by cases z)⟩
  · obtain ⟨y, _, rfl⟩ := List.mem_map.mp hb
    show (PyData.str y).depth ≤ 60
    simp [PyData.depth]
  · rw [ez, List.map_map] at hv
    exact ⟨.ref p, _, col_done I (ys := zs.map V.str) (by rw [List.length_map, lz]; exact few2) k hp hg hv, rfl, q zs p pz srt (free_H I hp)⟩
/-- sorted(d.values()), tuples of texts none of which is empty -/
def tSortVals (K : PySem.W.Frag) (td : TE) : TE := fun σ H Q => td σ H fun x H1 => ∃ (a : Addr) (kvs : List (Key × V)) (bs : List VD), x = .ref a ∧ H1 a = some (.dK kvs) ∧ kvs.map Prod.snd = bs.map Prod.fst ∧ (∀ b ∈ bs, ∃ k : NestedKey, b.2 = k.data ∧ Dp K H1 b.1 b.2) ∧ AllAlike (bs.map Prod.snd) ∧ Sortable (bs.map Prod.snd) ∧
  (∀ b ∈ bs, b.2.depth ≤ 60) ∧ bs.length ≤ 4000 ∧ ∀ p, H1 p = none → Q (.ref p) (upd H1 p (.lst ((bs.mergeSort (dataLe false Prod.snd)).map Prod.fst)))
theorem pe_sortVals {o : Expr} {p pos apos mpos : Pos} {td : TE} (calm : X.calm = true) (hu : X.A.units + 64 < cLine) (hg : Gl X "sorted") (hm : X.mg "sorted" = none) (hd : PE X o td) (hbase : attributeBase o "values" X.env (eval o X.env) = eval o X.env := by rfl) (hline : (apos.endLine == mpos.line) = true := by rfl)
    (hse : starEach [Expr.Call (.Attribute o "values" apos) [] [] mpos] X.env = [(false, eval (Expr.Call (.Attribute o "values" apos) [] [] mpos) X.env)] := by rfl) :
    PE X (.Call (.Name "sorted" p) [.Call (.Attribute o "values" apos) [] [] mpos] [] pos) (tSortVals X.K td) := by
  refine ⟨fun pins s σ H Q I h => wpAny_Call_Name_kw (ld_blt I hg hm (u := .builtin "sorted") (by first | rfl | decide +kernel) ?_ (by first | decide +kernel | decide) (by first | decide +kernel | decide))⟩
  rw [hse]
  refine PySem.callWith_builtin1 (wpAny_Call_method0_late hbase hline (thn (hd.run pins s σ H _ I h) fun v s1 ⟨x, H1, I1, r1, a, kvs, bs, ex, ha, ev, dd, al, so, dp, few, q⟩ => ?_))
  subst ex
  obtain rfl : v = Value.ref a := r1
  obtain ⟨_, hsys, vs, rel, dof⟩ := dk_of I1.hok ha
  obtain ⟨ep, dat⟩ := dof.dictAt
  have dat2 := dat
  obtain ⟨ob, es, ho, ex, hdat, hko, hpr, hnd⟩ := dat2
  refine ⟨"dict", "dict.values", PySem.F.plainAttrs_dict, PySem.F.slot_dict_values, PySem.F.type_dict_values, ⟨ob, ho, ex.1⟩, fun b e => ?_, Calls.callWith_builtin rfl (PySem.evalArgs_none ?_)⟩
  · cases e
    exact ⟨ob, ho, ex.2.1⟩
  refine call_meetsIn PySem.F.slot_dict_values ⟨ob, ho, ex.1⟩ PySem.F.entry_dict_values (PySem.F.args_dict_values_1 _) (meets_dict_values (mixKind X.prog X.w) a hsys) ⟨⟨vs, dof⟩, ?_⟩
  have k1 : ∀ b u, s1.heap.get? b = some u → (s1.heap.push { cls := .type "dict_values", data := .fields #[.ref a] }).get? b = some u := fun b u e => Heap.get?_push_of_some _ e
  have dat1 : (s1.heap.push { cls := .type "dict_values", data := .fields #[.ref a] }).DictAt (mixKind X.prog X.w) a vs ep := dat.keep k1
  have lv : vs.length = bs.length := by
    have e1 := congrArg List.length ev
    rw [List.length_map, List.length_map] at e1
    rw [← e1]
    exact (KV.length rel).symm
  have I2 : Inv X pins σ H1 { s1 with heap := s1.heap.push { cls := .type "dict_values", data := .fields #[.ref a] } } := I1.kept (t' := s1.toks) k1
  refine sorted_col (bs := bs) (s := { s1 with heap := s1.heap.push { cls := .type "dict_values", data := .fields #[.ref a] } }) hu (fun Z hZ => ?_) (plain_reads I2 dd) al so dp (Nat.le_trans few (by decide)) fun h2 tk p out c k hp hg hv => ?_
  · refine kdu_collect (kdl_values (knd := mixKind X.prog X.w) (r := s1.heap.objs.size) (d := a) (kvs := vs) (ep := ep)) (I1.ok.hd calm) ⟨⟨_, Heap.get?_push_size _ rfl, rfl, rfl⟩, dat1⟩ (by rw [lv]; exact Nat.le_trans few (by decide)) fun h2 tk acc k2 it => hZ h2 tk acc.toList k2 ?_
    have ev2 : acc.toList = vs.map Prod.snd := by
      refine kdl_vals_eq acc.toList (by rw [Array.length_toList]; exact it.1) fun j v hv => it.2 j v (by rw [← Array.getElem?_toList]; exact hv)
    rw [ev2]
    refine each_vals ?_
    rw [← ev]
    exact kv_vals rel
  · exact ⟨.ref p, _, col_done I2 (by rw [List.length_map, List.length_mergeSort]; exact Nat.le_trans few (by decide)) k hp hg hv, rfl, q p (free_H I2 hp)⟩
end
end WT

set_option Elab.async false
set_option linter.all false
set_option maxRecDepth 100000
set_option maxHeartbeats 1000000
namespace K35
open PySem PySem.Spec PyProof.Rows L2 WT
abbrev st_is_trail : Stmt := top 15
theorem sc_is_trail : FnScope ["world", "value", "zone_with", "before", "behind", "crossing", "zone", "region"] ["world", "value"] (defScope st_is_trail) := ⟨rfl, rfl, rfl, by decide +kernel, rfl, by decide +kernel, by decide +kernel⟩
theorem pi_tupK {X : Cx} {K : PySem.W.Frag} {tg e : Expr} {te : TE} (he : PE X e te) (hK : X.K = K := by rfl) : PI X tg e (iTup K te) := by
  subst hK
  exact pi_tup he
/-- the regions so far have their zones -/
def ZDone (R : Str → Str → Bool) (rs : List Str) (H : Hp) (kvs : List (Key × V)) (done : Str → Prop) : Prop := ∀ x, done x → ∃ t : Addr, valV kvs (Sum.inr x) = some (.ref t) ∧ H t = some (.tup ((zoneL R rs x).map V.str))
theorem ZDone.same {R : Str → Str → Bool} {rs : List Str} {H H' : Hp} {kvs : List (Key × V)} {done : Str → Prop} (h : ZDone R rs H kvs done) (s : ∀ t xs, H t = some (.tup xs) → H' t = some (.tup xs)) : ZDone R rs H' kvs done := fun x hx => by
  obtain ⟨t, h1, h2⟩ := h x hx
  exact ⟨t, h1, s _ _ h2⟩
theorem zone_in {R : Str → Str → Bool} (E : EqvB R) {rs l : List Str} (h : l ∈ zonesL R rs) {x : Str} (hx : x ∈ l) : zoneL R rs x = l := by
  obtain ⟨y, _, rfl⟩ := mem_zones h
  exact (zone_eq E (mem_zone.mp hx).2).symm
theorem cut_1 (xs : List V) : cutV xs (some 1) none = xs.drop 1 := by
  cases xs with
  | nil => rfl
  | cons a xs =>
    unfold cutV
    rw [show (1 : Int) = ((1 : Nat) : Int) from rfl, HT.sIx_nat, HT.sIx_none, Nat.min_eq_left (by simp)]
    exact List.take_of_length_le (by rw [List.length_drop]; exact Nat.le_refl _)
/-- a crossing in memory -/
theorem cross_dt {K : PySem.W.Frag} {H : Hp} {u : V} {d : PyData} {rs : List Str} {gs : List Gt} (h : Dt K H u d) (c : crossD gs d = true) (m : ∀ g ∈ gs, ∀ y ∈ g.2.1, y ∈ rs) : ∃ (t : Addr) (n a b : Str), u = .ref t ∧ SqT K H t [.str n, .str a, .str b] ∧ a ∈ rs ∧ b ∈ rs ∧ partS d 0 = n ∧ partS d 1 = a ∧ partS d 2 = b := by
  obtain ⟨n, a, b, rfl, g, hg, _, ha, hb⟩ := cross_parts c
  cases h with
  | @tup t xs ds hx hds =>
    obtain ⟨v1, v2, v3, d1, d2, d3, rfl, e, h1, h2, h3⟩ := dt_three hds (DtAll.length hds)
    injection e with e1 e
    injection e with e2 e
    injection e with e3 e
    subst e1 e2 e3
    cases h1
    cases h2
    cases h3
    exact ⟨t, n, a, b, rfl, hx, m g hg a ha, m g hg b hb, rfl, rfl, rfl⟩
section
variable {P : Program} {w : World} {K : PySem.W.Frag} {mg : Str → Option Value} {base : Heap} {f fC fZ : Addr} {fd fdC fdZ : FuncData}
/-- is_trail(world, value), any value -/
def spIsTrail (K : PySem.W.Frag) : Sp := fun vs H Q _ => ∃ (wa r g : Addr) (as : List Addr) (rs : List Str) (gs : List Gt) (x : V) (d : PyData), vs = [.ref wa, x] ∧ WorldAt H wa r g as rs gs ∧ WIn rs gs ∧ AscS rs ∧ (gs.map (·.1)).Nodup ∧ (∀ s ∈ rs, PyData.strOk s = true) ∧ Dt K H x d ∧ d.weight ≤ 40000 ∧
  ∀ H', Same H H' → Q (.bl (trailD rs gs d)) H'
theorem ok_is_trail (F : Fun K "is_trail" "is_trail" st_is_trail f fd) (B : Blt mg) (hisi : mg "isinstance" = none) (hzip : mg "zip" = none) (F_is_crossing : DfO P w K mg base "is_crossing" 3 fC fdC ["world", "value"] (spIsCross K)) (F_zones : DfO P w K mg base "zones" 5 fZ fdZ ["world"] spZones) :
    FnOk P w K mg base CX0 6 f fd ["world", "value"] (spIsTrail K) := by
  refine F.ok sc_is_trail (fun vs H Q E h => ?_) (fun cdv A outer s H vs Q E hr h => ?_)
  · obtain ⟨_, _, _, _, _, _, _, _, rfl, _⟩ := h
    rfl
  · obtain ⟨wa, r, g, as, rs, gs, x, d, rfl, hw, win, asc, nd, rok, hd, wt, q⟩ := h
    refine ⟨_, (pss_cons (ps_if (PW.pt (pw_or (pt_not (pt_val (pe_callB (call_isiA (K := K)) (by rfl) hisi (by decide +kernel) (pa_cons (pv 1) (pa_cons (pe_bltn (v := .ty "tuple") (by rfl) B.tuple (by decide +kernel) rfl) pa_nil))))) (pw_or1 (pt_not (pt_val (pe_callB (cr_all rfl) (by rfl) B.all (by decide +kernel) (pa_cons (pe_lc (own := [("crossing", 5)]) (by rfl) sc_is_trail.nd (pi_tup (pv 1)) (blkOk_by (own := [("crossing", 5)]) (N := ["world", "value", "zone_with", "before", "behind", "crossing", "zone", "region"]) (sc := defScope st_is_trail) (by decide +kernel)) (fun _ _ _ _ _ => (pg_name (i := 5) sc_is_trail.nd rfl (.inl rfl))) (fun _ _ _ _ _ => pts_nil) (fun _ _ _ _ _ => (pe_call F_is_crossing.G (hr.mono (by decide)) (by rfl) F_is_crossing.g F_is_crossing.kp F_is_crossing.bd .nil pass0 (pa_cons (pv 0) (pa_cons (pv 5) pa_nil))))) pa_nil)))))))
       (pss_one (ps_ret pe_bl))
       pss_nil)
      (pss_cons (ps_setDc2 (i := 2) (own := [("zone", 6), ("region", 7)]) (vs1 := [7]) (by rfl) sc_is_trail.nd rfl rfl (dc_swaps rfl rfl rfl (by decide +kernel)) (pi_tup (pe_call F_zones.G (hr.mono (by decide)) (by rfl) F_zones.g F_zones.kp F_zones.bd .nil pass0 (pa_cons (pv 0) pa_nil))) (blkOk_by (own := [("zone", 6), ("region", 7)]) (N := ["world", "value", "zone_with", "before", "behind", "crossing", "zone", "region"]) (sc := defScope st_is_trail) (by decide +kernel)) (by decide) (fun _ _ _ _ _ => (pg_name (i := 6) sc_is_trail.nd rfl (.inl rfl))) (fun _ _ _ _ _ => pts_nil) (fun _ _ _ _ _ => (pi_tupK (K := K) (pv 6))) (fun _ _ _ _ _ => (pg_name (i := 7) sc_is_trail.nd rfl (.inl rfl))) (fun _ _ _ _ _ => pts_nil) (fun _ _ _ _ _ => (pv 7)) (fun _ _ _ _ _ => (pv 6)))
      (pss_cons (ps_for PassesOwn.never rfl (RZ.pi_zipA (by rfl) hzip (pa_cons (pv 1) (pa_cons (pe_slice (sl_two (K := K)) (pv 1) (po_some pe_int) po_none) pa_nil))) (pg_tup rfl (pgs_cons (pg_name (i := 3) sc_is_trail.nd rfl (.inl rfl)) (pgs_cons (pg_name (i := 4) sc_is_trail.nd rfl (.inl rfl)) pgs_nil)))
       (pss_one (ps_if (PW.pt (pw_or (pt_cmpR op_eq (pe_ix ix_tup (pv 3) pe_int (fun _ _ => rfl)) (pe_ix ix_tup (pv 4) pe_int (fun _ _ => rfl)) (nomark _)) (pw_or1 (pt_cmpR (op_neD hr.units) (pe_dget (hu_of hr) (pv 2) (pe_ix ix_tup (pv 3) pe_int (fun _ _ => rfl)) (fun _ _ => rfl)) (pe_dget (hu_of hr) (pv 2) (pe_ix ix_tup (pv 4) pe_int (fun _ _ => rfl)) (fun _ _ => rfl)) (nomark _)))))
        (pss_one (ps_ret pe_bl))
        pss_nil)))
      (pss_one (ps_ret pe_bl))))), ?_⟩
    have no : ∀ H', Same H H' → trailD rs gs d = false → Q (.bl false) H' := fun H' s' e => by
      have := q H' s'
      rwa [e] at this
    refine ⟨_, rfl, x, "tuple", d, isTup d, rfl, hd, kit_tuple d, _, rfl, ?_⟩
    cases hd with
    | @tup a xs ds hx hds =>
      refine ifF rfl ?_
      have lx := DtAll.length hds
      have wl : ds.length ≤ 40000 := by
        have := w_len ds
        rw [PyData.weight] at wt
        omega
      refine ⟨_, rfl, a, rfl, ⟨_, hx⟩, fun D nD => lc_bl (walk_tup (xs := xs)) (ds.map (crossD gs)) (by rw [List.length_map, lx]) (by omega) nD (fun H2 s2 => sameT s2 hx) (fun i v b H2 H3 k e hb s2 hY hk => ?_) fun H2 s2 hD => ?_⟩
      · obtain ⟨rfl, hv⟩ := hY
        rw [List.getElem?_map] at hb
        obtain ⟨d0, hd0, rfl⟩ := Option.map_eq_some_iff.mp hb
        obtain ⟨d1, e1, h0⟩ := dt_at hds hv
        rw [hd0] at e1
        cases e1
        refine ⟨rfl, _, rfl, _, rfl, wa, r, g, as, rs, gs, v, d0, rfl, hw.same s2, win.2.1, nd, h0.same s2, hk⟩
      · refine ⟨D, _, rfl, SqL.of hD, _, rfl, ?_⟩
        cases cc : (ds.map (crossD gs)).all id with
        | false =>
          refine ifT rfl (no H2 s2 ?_)
          show (ds.all (crossD gs) && _) = false
          rw [show ds.all (crossD gs) = (ds.map (crossD gs)).all id from by rw [List.all_map]; rfl, cc]
          rfl
        | true =>
          refine ifF rfl ?_
          have E := conB_eqv gs (wrapsW gs)
          refine ⟨_, rfl, wa, r, g, as, rs, gs, rfl, hw.same s2, win, asc, fun H3 p ts s3 hp hts => ⟨p, rfl, ⟨_, SqT.of hp⟩, fun D2 nD2 => walk_V (walk_tup (xs := ts.map V.ref))
            (fun i H' => Same H3 H' ∧ ∃ kvs, H' D2 = some (.dK kvs) ∧ kvs.length ≤ i * 60 ∧ ZDone (conB gs (wrapsW gs)) rs H' kvs (fun x => ∃ l ∈ (zonesL (conB gs (wrapsW gs)) rs).take i, x ∈ l))
            ⟨same_new nD2, [], upd_same, Nat.le_refl _, fun x ⟨l, hl, _⟩ => absurd hl List.not_mem_nil⟩ (fun i H' _ ⟨s', _⟩ => SqT.of (s' _ _ hp)) (fun i v H4 H5 hi hP hY => ?_) fun H4 hP => ?_⟩⟩
          · obtain ⟨s4, kvs, hD4, lk, zd⟩ := hP
            obtain ⟨rfl, hv⟩ := hY
            rw [List.getElem?_map] at hv
            obtain ⟨t, ht, rfl⟩ := Option.map_eq_some_iff.mp hv
            obtain ⟨l, hl, htl⟩ := pair_at hts ht
            have lm := List.mem_of_getElem? hl
            have ll := (zone_sub lm).2
            have hr60 := win.1
            have i60 : i < 60 := by
              have h1 := (List.getElem?_eq_some_iff.mp hl).1
              have h2 : (zonesL (conB gs (wrapsW gs)) rs).length ≤ rs.length := zones_len
              omega
            refine ⟨rfl, ⟨_, rfl, t, rfl, ⟨_, SqT.of (s4 _ _ htl)⟩, walk_V (walk_tup (xs := l.map V.str))
              (fun j H' => Same H3 H' ∧ ∃ kvs, H' D2 = some (.dK kvs) ∧ kvs.length ≤ i * 60 + j ∧ ZDone (conB gs (wrapsW gs)) rs H' kvs (fun x => (∃ l ∈ (zonesL (conB gs (wrapsW gs)) rs).take i, x ∈ l) ∨ x ∈ l.take j))
              ⟨s4, kvs, hD4, lk, fun x hx => hx.elim (zd x) fun z => absurd z List.not_mem_nil⟩ (fun j H' _ ⟨s', _⟩ => SqT.of (s' _ _ htl)) (fun j v H6 H7 hj hP hY => ?_) fun H6 hP => ?_⟩⟩
            · obtain ⟨s6, kvs6, hD6, lk6, zd6⟩ := hP
              obtain ⟨rfl, hv⟩ := hY
              rw [List.getElem?_map] at hv
              obtain ⟨y, hy, rfl⟩ := Option.map_eq_some_iff.mp hv
              have hj2 : j < l.length := (List.getElem?_eq_some_iff.mp hy).1
              refine ⟨rfl, _, rfl, _, rfl, kvs6, Sum.inr y, rfl, hD6, Nat.lt_of_le_of_lt (show kvs6.length ≤ 10000 by omega) (by decide), fun c o ec => ?_, _, upd_same, ?_, fun x hx => ?_⟩
              · rw [upd_ne (ne_of_none ec nD2)]
                exact s6 _ _ ec
              · have := length_putK kvs6 (Sum.inr y) (V.ref t)
                omega
              · have keep : ∀ (c : Addr) (xs : List V) (o : HO), H7 c = some (.tup xs) → upd H7 D2 o c = some (.tup xs) := fun c xs o e => by
                  rw [upd_ne (ne_of e hD6 (by intro z; cases z))]
                  exact e
                by_cases c : x = y
                · refine ⟨t, by rw [valV_put, if_pos (congrArg Sum.inr c)], keep _ _ _ ?_⟩
                  rw [c, zone_in E lm (List.mem_of_getElem? hy)]
                  exact s6 _ _ htl
                · have hx' : (∃ l ∈ (zonesL (conB gs (wrapsW gs)) rs).take i, x ∈ l) ∨ x ∈ l.take j := by
                    refine hx.imp id fun z => ?_
                    rw [List.take_add_one, hy] at z
                    rcases List.mem_append.mp z with z | z
                    · exact z
                    · exact absurd (by simpa using z) c
                  obtain ⟨t2, h1, h2⟩ := zd6 x hx'
                  exact ⟨t2, by rw [valV_put, if_neg fun z => c (Sum.inr.inj z)]; exact h1, keep _ _ _ h2⟩
            · obtain ⟨s6, kvs6, hD6, lk6, zd6⟩ := hP
              rw [List.length_map] at lk6 zd6
              refine ⟨s6, kvs6, hD6, by rw [Nat.add_mul]; omega, fun x ⟨l2, hl2, hx⟩ => zd6 x ?_⟩
              rw [List.take_add_one, hl] at hl2
              rcases List.mem_append.mp hl2 with z | z
              · exact .inl ⟨l2, z, hx⟩
              · have : l2 = l := by simpa using z
                rw [this] at hx
                exact .inr (by rw [List.take_length]; exact hx)
          · obtain ⟨s4, kvs, hD4, lk, zd⟩ := hP
            rw [List.length_map, Paired.length hts, List.take_length] at zd
            have zd : ZDone (conB gs (wrapsW gs)) rs H4 kvs (· ∈ rs) := fun x hx => zd x (List.mem_flatten.mp (((zones_flat E asc).2 x).mpr hx))
            have s24 := s3.trans s4
            have hx4 := sameT (s2.trans s24) hx
            have hds4 := DtAll.same (s2.trans s24) hds
            have m : ∀ g ∈ gs, ∀ y ∈ g.2.1, y ∈ rs := fun g hg => (win.2.2 g hg).2
            have val : trailD rs gs (.tuple ds) = (ds.zip (ds.drop 1)).all fun p => nextD rs gs p.1 p.2 := by
              show (ds.all (crossD gs) && _) = _
              rw [show ds.all (crossD gs) = (ds.map (crossD gs)).all id from by rw [List.all_map]; rfl, cc, Bool.true_and]
            have each : ∀ d ∈ ds, crossD gs d = true := fun d hd => by
              have := List.all_eq_true.mp cc (crossD gs d) (List.mem_map.mpr ⟨d, hd, rfl⟩)
              exact this
            refine ⟨_, rfl, _, rfl, 1, rfl, Or.inr (sl_dt hx4 fun tl H5 s5 htl => ?_)⟩
            rw [cut_1] at htl
            have hx5 := sameT s5 hx4
            have lz : (ds.zip (ds.drop 1)).length = min xs.length (xs.drop 1).length := by
              rw [List.length_zip, List.length_drop, List.length_drop, lx]
            refine ⟨a, tl, _, _, rfl, .inr ⟨hx5, htl, for_it (walk_zipT rfl) (fun j σ H' => ∃ v3 v4 : Option V, σ = [some (.ref wa), some (.ref a), some (.ref D2), v3, v4, none, none, none] ∧ Same H5 H' ∧ ∀ p ∈ (ds.zip (ds.drop 1)).take j, nextD rs gs p.1 p.2 = true)
              ⟨none, none, rfl, fun _ _ e => e, fun p hp => absurd hp List.not_mem_nil⟩ (fun j σ H' _ ⟨_, _, _, s', _⟩ => ⟨sameT s' hx5, sameT s' htl⟩) (fun j v σ H6 H7 hj hP hY => ?_) (fun σ H6 hP => ?_)⟩⟩
            · obtain ⟨v3, v4, rfl, s6, ok6⟩ := hP
              obtain ⟨T, u1, u2, rfl, nT, rfl, e1, e2⟩ := hY
              have e1 : xs[j]? = some u1 := e1
              have e2 : (xs.drop 1)[j]? = some u2 := e2
              rw [List.getElem?_drop] at e2
              obtain ⟨d1, k1, h1⟩ := dt_at hds4 e1
              obtain ⟨d2, k2, h2⟩ := dt_at hds4 e2
              have c1 := each d1 (List.mem_of_getElem? k1)
              have c2 := each d2 (List.mem_of_getElem? k2)
              have zT := same_new nT (o := .tup [u1, u2])
              have s47 := s5.trans (s6.trans zT)
              obtain ⟨t1, n1, a1, b1, rfl, S1, ra1, rb1, p10, p11, p12⟩ := cross_dt (h1.same s47) c1 m
              obtain ⟨t2, n2, a2, b2, rfl, S2, ra2, rb2, p20, p21, p22⟩ := cross_dt (h2.same s47) c2 m
              have zj : (ds.zip (ds.drop 1))[j]? = some (d1, d2) := by
                rw [List.getElem?_zip_eq_some]
                exact ⟨k1, by rw [List.getElem?_drop]; exact k2⟩
              have nx : nextD rs gs d1 d2 = (!decide (n1 = n2) && conB gs (wrapsW gs) b1 a2) := by
                unfold nextD
                rw [p10, p20, p12, p21]
              have bad : nextD rs gs d1 d2 = false → ∀ H', Same H5 H' → Q (.bl false) H' := fun e H' s' => by
                have := q H' (s2.trans (s24.trans (s5.trans s')))
                rw [val] at this
                rw [show ((ds.zip (ds.drop 1)).all fun p => nextD rs gs p.1 p.2) = false from List.all_eq_false.mpr ⟨(d1, d2), List.mem_of_getElem? zj, by rw [e]; exact Bool.false_ne_true⟩] at this
                exact this
              have s57 := s6.trans zT
              refine ⟨T, _, rfl, SqT.of upd_same, rfl, _, _, rfl, _, _, rfl, rfl, ?_⟩
              refine ⟨_, rfl, t1, _, 0, .str n1, rfl, rfl, S1, atI_nat (j := 0) rfl, _, rfl, t2, _, 0, .str n2, rfl, rfl, S2, atI_nat (j := 0) rfl, rfl, _, rfl, ?_⟩
              by_cases c : n1 = n2
              · refine ifT (by rw [c]; simp) (ifT rfl (bad ?_ _ s57))
                rw [nx, decide_eq_true c]
                rfl
              · refine ifF (by simp [c]) ?_
                rw [decide_eq_false c, Bool.not_false, Bool.true_and] at nx
                obtain ⟨z1, w1, q1⟩ := zd b1 rb1
                obtain ⟨z2, w2, q2⟩ := zd a2 ra2
                have hD7 := s47 _ _ hD4
                have q1 := s47 _ _ q1
                have q2 := s47 _ _ q2
                have sh : ∀ x, SeqAt.shaped (tupD (zoneL (conB gs (wrapsW gs)) rs x)) = true := fun x => shaped_strsT _ fun s hs => rok s (mem_zone.mp hs).1
                refine ⟨_, rfl, _, rfl, t1, _, 2, .str b1, rfl, rfl, S1, atI_nat (j := 2) rfl, D2, _, rfl, by rw [← w1]; exact DGet.k (k := Sum.inr b1) hD7, _, rfl, _, rfl, t2, _, 1, .str a2, rfl, rfl, S2, atI_nat (j := 1) rfl, D2, _, rfl, by rw [← w2]; exact DGet.k (k := Sum.inr a2) hD7, ?_⟩
                refine ⟨_, _, .tup (SqT.of q1) (dp_strs _), .tup (SqT.of q2) (dp_strs _), sh b1, sh a2, _, rfl, ?_⟩
                rw [PyData.eqv, eqvA_strs]
                cases cb : conB gs (wrapsW gs) b1 a2 with
                | true =>
                  rw [decide_eq_true ((zone_same E rb1 ra2).mpr cb)]
                  refine ifF rfl ⟨_, _, rfl, s57, fun p hp => ?_⟩
                  rw [List.take_add_one, zj] at hp
                  rcases List.mem_append.mp hp with z | z
                  · exact ok6 p z
                  · have : p = (d1, d2) := by simpa using z
                    rw [this, nx, cb]
                | false =>
                  rw [decide_eq_false fun z => by rw [(zone_same E rb1 ra2).mp z] at cb; cases cb]
                  exact ifT rfl (bad (by rw [nx, cb]) _ s57)
            · obtain ⟨v3, v4, rfl, s6, ok6⟩ := hP
              rw [← lz, List.take_length] at ok6
              have := q H6 (s2.trans (s24.trans (s5.trans s6)))
              rw [val, List.all_eq_true.mpr ok6] at this
              exact this
    | _ => exact ifT rfl (no H (fun _ _ z => z) rfl)
end
end K35

set_option Elab.async false
set_option linter.all false
set_option maxRecDepth 100000
set_option maxHeartbeats 4000000
namespace WT
open PySem PySem.Spec PyProof.Rows L2
/-- the members of each gateway, by its name -/
def InsAt (H : Hp) : List (Key × V) → List Gt → Prop := Paired fun (kv : Key × V) (g : Gt) => kv.1 = Sum.inr g.1 ∧ ∃ ia, kv.2 = .ref ia ∧ H ia = some (.tup (g.2.1.map V.str))
theorem InsAt.get {H : Hp} {kvs : List (Key × V)} {gs : List Gt} {g : Gt} (h : InsAt H kvs gs) (hg : g ∈ gs) (nd : (gs.map (·.1)).Nodup) : ∃ ia, valV kvs (Sum.inr g.1) = some (.ref ia) ∧ H ia = some (.tup (g.2.1.map V.str)) := by
  unfold InsAt at h
  induction h with
  | nil => cases hg
  | @cons kv g0 kvs gs r t ih =>
    obtain ⟨n1, n2⟩ := List.nodup_cons.mp nd
    by_cases c : g0.1 = g.1
    · have e : g0 = g := by
        rcases List.mem_cons.mp hg with e | hg
        · exact e.symm
        · exact absurd (List.mem_map.mpr ⟨g, hg, c.symm⟩) n1
      obtain ⟨k1, ia, k2, k3⟩ := r
      rw [e] at k1 k3
      exact ⟨ia, by rw [valV_pos k1, k2], k3⟩
    · rcases List.mem_cons.mp hg with e | hg
      · exact absurd (by rw [e]) c
      · obtain ⟨k1, _⟩ := r
        rw [valV_neg fun z => c (Sum.inr.inj (k1.symm.trans z))]
        exact ih hg n2
theorem InsAt.keys {H : Hp} {kvs : List (Key × V)} {gs : List Gt} (h : InsAt H kvs gs) : kvs.map (·.1) = (gs.map (·.1)).map Sum.inr := by
  unfold InsAt at h
  induction h with
  | nil => rfl
  | cons r _ ih => rw [List.map_cons, List.map_cons, List.map_cons, ih, r.1]
theorem InsAt.none_ {H : Hp} {kvs : List (Key × V)} {gs : List Gt} {n : Str} (h : InsAt H kvs gs) (hn : n ∉ gs.map (·.1)) : valV kvs (Sum.inr n) = none := by
  refine valV_none fun z => ?_
  rw [h.keys] at z
  obtain ⟨m, hm, e⟩ := List.mem_map.mp z
  cases e
  exact hn hm
/-- range(i, j, 2) -/
theorem rg2 {i j : Nat} (hi : i < 2) (hj : j < 1000000) : RgC (i : Int) (j : Int) 2 ((j + 1 - i) / 2) := by
  have e : Builtin.Range.rangeSize (i : Int) (j : Int) 2 = (((j + 1 - i) / 2 : Nat) : Int) := by
    unfold Builtin.Range.rangeSize
    rw [if_pos (by decide)]
    split <;> omega
  refine ⟨by decide, by decide, ?_, e⟩
  unfold Builtin.Range.small
  rw [e]
  have b : ∀ z : Int, -4000000 ≤ z → z ≤ 4000000 → Builtin.Range.rangeFitsLong z = true := fun z h1 h2 => by
    unfold Builtin.Range.rangeFitsLong
    rw [decide_eq_true (by omega), decide_eq_true (by omega)]
    rfl
  rw [b (i : Int) (by omega) (by omega), b (j : Int) (by omega) (by omega), b 2 (by omega) (by omega), b ((((j + 1 - i) / 2 : Nat)) : Int) (by omega) (by omega), if_pos (by decide), b ((j : Int) + (2 - 1)) (by omega) (by omega)]
  simp
/-- the law's own look at the parts, so far -/
structure PreP (rs : List Str) (gs : List Gt) (ds : List PyData) (j : Nat) (ss : List Str) : Prop where
  len : ss.length = j
  data : ds.take j = ss.map PyData.str
  reg : ∀ s ∈ evR ss, s ∈ rs
  gat : ∀ s ∈ odR ss, s ∈ gs.map (·.1)
  rnd : (evR ss).Nodup
  gnd : (odR ss).Nodup
theorem evR_snoc {α : Type} : ∀ (ss : List α) (s : α), evR (ss ++ [s]) = if ss.length % 2 = 0 then evR ss ++ [s] else evR ss
  | [], s => by simp [evR]
  | [x], s => by simp [evR]
  | x :: y :: t, s => by
    have := evR_snoc t s
    show x :: evR (t ++ [s]) = _
    rw [this]
    have e : (x :: y :: t).length % 2 = t.length % 2 := by
      simp only [List.length_cons]
      omega
    rw [e]
    by_cases c : t.length % 2 = 0
    · rw [if_pos c, if_pos c]
      rfl
    · rw [if_neg c, if_neg c]
      rfl
theorem odR_snoc {α : Type} : ∀ (ss : List α) (s : α), odR (ss ++ [s]) = if ss.length % 2 = 0 then odR ss else odR ss ++ [s]
  | [], s => by simp [odR]
  | [x], s => by simp [odR]
  | x :: y :: t, s => by
    have := odR_snoc t s
    show y :: odR (t ++ [s]) = _
    rw [this]
    have e : (x :: y :: t).length % 2 = t.length % 2 := by
      simp only [List.length_cons]
      omega
    rw [e]
    by_cases c : t.length % 2 = 0
    · rw [if_pos c, if_pos c]
      rfl
    · rw [if_neg c, if_neg c]
      rfl
theorem mem_evR {α : Type} {ss : List α} {s : α} : s ∈ evR ss ↔ ∃ i : Nat, ss[2 * i]? = some s := by
  constructor
  · intro h
    obtain ⟨i, hi⟩ := List.getElem?_of_mem h
    exact ⟨i, by rw [← evR_at]; exact hi⟩
  · rintro ⟨i, h⟩
    rw [← evR_at] at h
    exact List.mem_of_getElem? h
theorem mem_odR {α : Type} {ss : List α} {s : α} : s ∈ odR ss ↔ ∃ i : Nat, ss[2 * i + 1]? = some s := by
  constructor
  · intro h
    obtain ⟨i, hi⟩ := List.getElem?_of_mem h
    exact ⟨i, by rw [← odR_at]; exact hi⟩
  · rintro ⟨i, h⟩
    rw [← odR_at] at h
    exact List.mem_of_getElem? h
theorem nodup_at {α : Type} {l : List α} (h : l.Nodup) {i j : Nat} {x : α} (hi : l[i]? = some x) (hj : l[j]? = some x) : i = j := by
  obtain ⟨a1, a2⟩ := List.getElem?_eq_some_iff.mp hi
  obtain ⟨b1, b2⟩ := List.getElem?_eq_some_iff.mp hj
  rcases Nat.lt_trichotomy i j with q | q | q
  · exact absurd (a2.trans b2.symm) (List.pairwise_iff_getElem.mp h i j a1 b1 q)
  · exact q
  · exact absurd (b2.trans a2.symm) (List.pairwise_iff_getElem.mp h j i b1 a1 q)
/-- what a path has at a place that was looked at -/
theorem PreP.part {rs : List Str} {gs : List Gt} {ds : List PyData} {j : Nat} {ss ss' : List Str} (h : PreP rs gs ds j ss) (e : ds = ss'.map PyData.str) (hj : j ≤ ds.length) : ss'.take j = ss := by
  have := h.data
  rw [e, ← List.map_take] at this
  exact strs_inj this
theorem PreP.next {rs : List Str} {gs : List Gt} {ds : List PyData} {j : Nat} {ss : List Str} {s : Str} (h : PreP rs gs ds j ss) (hs : ds[j]? = some (.str s)) (h1 : j % 2 = 0 → s ∉ evR ss ∧ s ∈ rs) (h2 : j % 2 = 1 → s ∉ odR ss ∧ s ∈ gs.map (·.1)) : PreP rs gs ds (j + 1) (ss ++ [s]) := by
  have l := h.len
  refine ⟨by rw [List.length_append, l]; rfl, by rw [List.take_add_one, hs, h.data, List.map_append]; rfl, ?_, ?_, ?_, ?_⟩
  · rw [evR_snoc, l]
    by_cases c : j % 2 = 0
    · rw [if_pos c]
      intro z hz
      rcases List.mem_append.mp hz with hz | hz
      · exact h.reg z hz
      · rw [List.mem_singleton.mp hz]
        exact (h1 c).2
    · rw [if_neg c]
      exact h.reg
  · rw [odR_snoc, l]
    by_cases c : j % 2 = 0
    · rw [if_pos c]
      exact h.gat
    · rw [if_neg c]
      intro z hz
      rcases List.mem_append.mp hz with hz | hz
      · exact h.gat z hz
      · rw [List.mem_singleton.mp hz]
        exact (h2 (by omega)).2
  · rw [evR_snoc, l]
    by_cases c : j % 2 = 0
    · rw [if_pos c]
      refine List.nodup_append.mpr ⟨h.rnd, by simp, fun a ha b hb q => (h1 c).1 ?_⟩
      rw [List.mem_singleton.mp hb] at q
      rw [← q]
      exact ha
    · rw [if_neg c]
      exact h.rnd
  · rw [odR_snoc, l]
    by_cases c : j % 2 = 0
    · rw [if_pos c]
      exact h.gnd
    · rw [if_neg c]
      refine List.nodup_append.mpr ⟨h.gnd, by simp, fun a ha b hb q => (h2 (by omega)).1 ?_⟩
      rw [List.mem_singleton.mp hb] at q
      rw [← q]
      exact ha
/-- a part that fails: no path -/
theorem PreP.fails {rs : List Str} {gs : List Gt} {ds : List PyData} {j : Nat} {ss : List Str} (h : PreP rs gs ds j ss) (hj : j < ds.length) (bad : ∀ s, ds[j]? = some (.str s) → (j % 2 = 0 ∧ (s ∈ evR ss ∨ s ∉ rs)) ∨ (j % 2 = 1 ∧ (s ∈ odR ss ∨ s ∉ gs.map (·.1)))) : ¬ IsPathD rs gs (.tuple ds) := by
  rintro ⟨ss', e, p⟩
  injection e with e
  have pre := h.part e (by omega)
  have lj : j < ss'.length := by
    rw [e, List.length_map] at hj
    exact hj
  have hs' : ss'[j]? = some ss'[j] := List.getElem?_eq_getElem lj
  have at_ : ∀ i : Nat, i < j → ss[i]? = ss'[i]? := fun i hi => by
    rw [← pre, List.getElem?_take, if_pos hi]
  have lim : ∀ {i : Nat} {z : Str}, ss[i]? = some z → i < j := fun {i z} q => by
    have := (List.getElem?_eq_some_iff.mp q).1
    rw [h.len] at this
    exact this
  have hd : ds[j]? = some (.str ss'[j]) := by
    rw [e, List.getElem?_map, hs']
    rfl
  rcases bad _ hd with ⟨c, b⟩ | ⟨c, b⟩
  · have e2 : (evR ss')[j / 2]? = some ss'[j] := by
      rw [evR_at, show 2 * (j / 2) = j by omega]
      exact hs'
    rcases b with b | b
    · obtain ⟨i, hi⟩ := mem_evR.mp b
      have l1 := lim hi
      rw [at_ _ l1, ← evR_at] at hi
      have := nodup_at p.rnd hi e2
      omega
    · exact b (p.reg _ (List.mem_of_getElem? e2))
  · have e2 : (odR ss')[j / 2]? = some ss'[j] := by
      rw [odR_at, show 2 * (j / 2) + 1 = j by omega]
      exact hs'
    rcases b with b | b
    · obtain ⟨i, hi⟩ := mem_odR.mp b
      have l1 := lim hi
      rw [at_ _ l1, ← odR_at] at hi
      have := nodup_at p.gnd hi e2
      omega
    · exact b (p.gat _ (List.mem_of_getElem? e2))
end WT

set_option Elab.async false
set_option linter.all false
set_option maxRecDepth 100000
set_option maxHeartbeats 1000000
namespace K35
open PySem PySem.Spec PyProof.Rows L2 WT
abbrev st_due : Stmt := top 25
theorem sc_due : FnScope ["_law_world_here", "_law_value", "_law_wrapping", "_law_one", "_law_some", "_law_name", "_law_kind", "_law_part", "_law_other"] ["_law_world_here", "_law_value"] (defScope st_due) := ⟨rfl, rfl, rfl, by decide +kernel, rfl, by decide +kernel, by decide +kernel⟩
theorem ix_tupK {X : Cx} {K : PySem.W.Frag} (hK : X.K = K := by rfl) : IxR X (rIxT K) := by
  subst hK
  exact ix_tup
theorem wr_names (gs : List Gt) : (gs.filter wrB).map (·.1) = wrapsW gs := rfl
theorem isin_s (s : Str) (ss : List Str) : isIn (.str s) ss = decide (s ∈ ss) := rfl
theorem cross_false {gs : List Gt} {d : PyData} (h : ¬ ∃ n a b : Str, d = .tuple [.str n, .str a, .str b]) : crossD gs d = false := by
  cases c : crossD gs d with
  | false => rfl
  | true =>
    obtain ⟨n, a, b, e, _⟩ := cross_parts c
    exact absurd ⟨n, a, b, e⟩ h
section
variable {P : Program} {w : World} {K : PySem.W.Frag} {mg : Str → Option Value} {base : Heap} {f fZ : Addr} {fd fdZ : FuncData}
/-- the law's due(world, value) -/
def spDue (K : PySem.W.Frag) : Sp := fun vs H Q _ => ∃ (wa r g : Addr) (as : List Addr) (rs : List Str) (gs : List Gt) (x : V) (d : PyData), vs = [.ref wa, x] ∧ WorldAt H wa r g as rs gs ∧ MapOk rs gs ∧ Dt K H x d ∧ d.weight ≤ 40000 ∧ ∀ H', Same H H' → Q (.bl (trailD rs gs d)) H'
theorem ok_due (F : Fun K "_law_due" "_law_due" st_due f fd) (B : Blt mg) (hisi : mg "isinstance" = none) (hstr : mg "str" = none) (hzip : mg "zip" = none) (F_zone : Df P w K mg base "_law_zone" 1 fZ fdZ ["_law_world_here", "_law_region"] spZone) : FnG P w K mg base CX0 2 f fd ["_law_world_here", "_law_value"] (spDue K) := by
  refine okG F sc_due (fun vs H Q E h => ?_) (fun cdv A outer s H vs Q E hgd hr h => ?_)
  · obtain ⟨_, _, _, _, _, _, _, _, rfl, _⟩ := h
    rfl
  · obtain ⟨wa, r, g, as, rs, gs, x, d, rfl, hw, W, hd, wt, q⟩ := h
    refine ⟨_, (pss_cons (ps_if (pt_not (pt_val (pe_callB (call_isiA (K := K)) (by rfl) hisi (by decide +kernel) (pa_cons (pv 1) (pa_cons (pe_bltn (v := .ty "tuple") (by rfl) B.tuple (by decide +kernel) rfl) pa_nil)))))
       (pss_one (ps_ret pe_bl))
       pss_nil)
      (pss_cons (ps_set (i := 2) sc_due.nd rfl (.inl rfl) (pe_callTy (call_dictP rfl) (by rfl) B.dict (by decide +kernel) (pa_cons (pe_lc (own := [("_law_name", 5), ("_law_some", 4), ("_law_kind", 6)]) (by rfl) sc_due.nd (pi_tup (pe_ix ix_tup (pv 0) pe_int (fun _ _ => rfl))) (blkOk_by (own := [("_law_name", 5), ("_law_some", 4), ("_law_kind", 6)]) (N := ["_law_world_here", "_law_value", "_law_wrapping", "_law_one", "_law_some", "_law_name", "_law_kind", "_law_part", "_law_other"]) (sc := defScope st_due) (by decide +kernel)) (fun _ _ _ _ _ => (pg_tupK (K := K) (n := 3) rfl (pgs_cons (pg_name (i := 5) sc_due.nd rfl (.inl rfl)) (pgs_cons (pg_name (i := 4) sc_due.nd rfl (.inl rfl)) (pgs_cons (pg_name (i := 6) sc_due.nd rfl (.inl rfl)) pgs_nil))))) (fun _ _ _ _ _ => (pts_one (pt_cmpR op_eq (pv 6) pe_str (nomark _)))) (fun _ _ _ _ _ => (pe_tup (pa_cons (pv 5) (pa_cons (pv 4) pa_nil))))) pa_nil)))
      (pss_cons (ps_for PassesOwn.never rfl (pi_tup (pv 1)) (pg_name (i := 3) sc_due.nd rfl (.inl rfl))
       (pss_cons (ps_if (PW.pt (pw_or (pt_not (pt_val (pe_callB (call_isiA (K := K)) (by rfl) hisi (by decide +kernel) (pa_cons (pv 3) (pa_cons (pe_bltn (v := .ty "tuple") (by rfl) B.tuple (by decide +kernel) rfl) pa_nil))))) (pw_or (pt_cmpR op_ne (pe_callB call_len (by rfl) B.len (by decide +kernel) (pa_cons (pv 3) pa_nil)) pe_int (nomark _)) (pw_or1 (pt_not (pt_val (pe_callB (cr_all rfl) (by rfl) B.all (by decide +kernel) (pa_cons (pe_lc (own := [("_law_part", 7)]) (by rfl) sc_due.nd (pi_tup (pv 3)) (blkOk_by (own := [("_law_part", 7)]) (N := ["_law_world_here", "_law_value", "_law_wrapping", "_law_one", "_law_some", "_law_name", "_law_kind", "_law_part", "_law_other"]) (sc := defScope st_due) (by decide +kernel)) (fun _ _ _ _ _ => (pg_name (i := 7) sc_due.nd rfl (.inl rfl))) (fun _ _ _ _ _ => pts_nil) (fun _ _ _ _ _ => (pe_callB (call_isiA (K := K)) (by rfl) hisi (by decide +kernel) (pa_cons (pv 7) (pa_cons (pe_bltn (v := .ty "str") (by rfl) hstr (by decide +kernel) rfl) pa_nil))))) pa_nil))))))))
        (pss_one (ps_ret pe_bl))
        pss_nil)
       (pss_cons (ps_set (i := 4) sc_due.nd rfl (.inl rfl) (pe_dget2 (hu_of hr) (pv 2) (pe_ix (ix_tupK (K := K)) (pv 3) pe_int (fun _ _ => rfl)) (pe_tup pa_nil) ⟨by rfl, by rfl, by rfl, by rfl⟩))
       (pss_one (ps_if (PW.pt (pw_or (pt_cmpR (op_notInA (K := K) hr.units) (pe_ix (ix_tupK (K := K)) (pv 3) pe_int (fun _ _ => rfl)) (pv 4) (by rfl)) (pw_or (pt_cmpR (op_notInA (K := K) hr.units) (pe_ix (ix_tupK (K := K)) (pv 3) pe_int (fun _ _ => rfl)) (pv 4) (by rfl)) (pw_or1 (pt_cmpR op_eq (pe_ix (ix_tupK (K := K)) (pv 3) pe_int (fun _ _ => rfl)) (pe_ix (ix_tupK (K := K)) (pv 3) pe_int (fun _ _ => rfl)) (nomark _))))))
        (pss_one (ps_ret pe_bl))
        pss_nil)))))
      (pss_one (ps_ret (pe_callB (cr_all rfl) (by rfl) B.all (by decide +kernel) (pa_cons (pe_lc (own := [("_law_one", 3), ("_law_other", 8)]) (by rfl) sc_due.nd (RZ.pi_zipA (by rfl) hzip (pa_cons (pv 1) (pa_cons (pe_slice (sl_two (K := K)) (pv 1) (po_some pe_int) po_none) pa_nil))) (blkOk_by (own := [("_law_one", 3), ("_law_other", 8)]) (N := ["_law_world_here", "_law_value", "_law_wrapping", "_law_one", "_law_some", "_law_name", "_law_kind", "_law_part", "_law_other"]) (sc := defScope st_due) (by decide +kernel)) (fun _ _ _ _ _ => (pg_tupK (K := K) (n := 2) rfl (pgs_cons (pg_name (i := 3) sc_due.nd rfl (.inl rfl)) (pgs_cons (pg_name (i := 8) sc_due.nd rfl (.inl rfl)) pgs_nil)))) (fun _ _ _ _ _ => pts_nil) (fun _ _ _ _ _ => (pe_and (pe_cmpR op_ne (pe_ix (ix_tupK (K := K)) (pv 3) pe_int (fun _ _ => rfl)) (pe_ix (ix_tupK (K := K)) (pv 8) pe_int (fun _ _ => rfl)) (nomark _)) (pe_one (pe_cmpR (op_inA (K := K) hr.units) (pe_ix (ix_tupK (K := K)) (pv 8) pe_int (fun _ _ => rfl)) (pe_callG hgd F_zone.G (hr.mono (by decide)) (by rfl) F_zone.g F_zone.kp F_zone.bd pass0 (pa_cons (pv 0) (pa_cons (pe_ix (ix_tupK (K := K)) (pv 3) pe_int (fun _ _ => rfl)) pa_nil))) (by rfl)))))) pa_nil))))))), ?_⟩
    have no : ∀ H', Same H H' → trailD rs gs d = false → Q (.bl false) H' := fun H' s' e => by
      have := q H' s'
      rwa [e] at this
    have hlen := Paired.length hw.each
    have lgs := W.lg
    refine ⟨_, rfl, x, "tuple", d, isTup d, rfl, hd, kit_tuple d, _, rfl, ?_⟩
    cases hd with
    | @tup p xs ds hx hds =>
      refine ifF rfl ?_
      have lx := DtAll.length hds
      have wl : ds.length ≤ 40000 := by
        have := w_len ds
        rw [PyData.weight] at wt
        omega
      -- wrapping
      refine ⟨_, rfl, wa, _, 1, .ref g, rfl, rfl, SqT.of hw.top, atI_nat (j := 1) rfl, g, rfl, ⟨_, SqT.of hw.gat⟩, fun N nN => lc_tup (K := K) (a := g) (xs := as.map V.ref) (fun m H' => Same H H' ∧ ∃ (us : List Addr) (kvs : List (Key × V)), H' N = some (.lst (us.map V.ref)) ∧ Paired (fun t (kv : Key × V) => H' t = some (.tup [kV kv.1, kv.2])) us kvs ∧ InsAt H' kvs ((gs.take m).filter wrB))
        ⟨same_new nN, [], [], upd_same, .nil, .nil⟩ (fun m H' _ ⟨s', _⟩ => SqT.of (s' _ _ hw.gat)) (fun m v H2 hm hP => ?_) fun H2 hP => ?_⟩
      · obtain ⟨s2, us, kvs, hN, hus, hin⟩ := hP
        rw [List.getElem?_map] at hm
        obtain ⟨t, ht, rfl⟩ := Option.map_eq_some_iff.mp hm
        obtain ⟨gg, hgg, ia, e1, e2⟩ := pair_at (hw.same s2).each ht
        have l1 := Paired.length hus
        have l2 := Paired.length hin
        have l3 : ((gs.take m).filter wrB).length ≤ gs.length := Nat.le_trans (List.length_filter_le _ _) (by rw [List.length_take]; exact Nat.min_le_right _ _)
        refine ⟨t, [.str gg.1, .ref ia, .str gg.2.2], rfl, SqT.of e1, rfl, .str gg.1, _, rfl, .ref ia, _, rfl, .str gg.2.2, [], rfl, rfl, rfl, _, rfl, rfl, _, rfl, ?_⟩
        by_cases c : gg.2.2 = ("wrap" : Str)
        rotate_left
        · refine ifF (decide_eq_false fun z => c (V.str.inj z)) ⟨s2, us, kvs, hN, hus, ?_⟩
          rw [List.take_add_one, hgg, List.filter_append]
          have : wrB gg = false := decide_eq_false c
          simpa [this] using hin
        refine ifT (decide_eq_true (congrArg V.str c)) ⟨_, rfl, _, rfl, (by show 2 ≤ sizeLine; decide), fun tn ntn => ?_⟩
        have zt := same_new ntn (o := .tup [.str gg.1, .ref ia])
        have hN3 := zt _ _ hN
        have ht3 : upd H2 tn (.tup [.str gg.1, .ref ia]) tn = some (.tup [.str gg.1, .ref ia]) := upd_same
        generalize upd H2 tn (.tup [.str gg.1, .ref ia]) = H3 at zt hN3 ht3 ⊢
        have keep : ∀ (c : Addr) (xs : List V) (o : HO), H3 c = some (.tup xs) → upd H3 N o c = some (.tup xs) := fun c xs o e => by
          rw [upd_ne (ne_of e hN3 (by intro z; cases z))]
          exact e
        refine ⟨_, hN3, ?_, fun d o ed => ?_, us ++ [tn], kvs ++ [(Sum.inr gg.1, .ref ia)], ?_, ?_, ?_⟩
        · rw [List.length_map]
          exact Nat.lt_of_le_of_lt (show us.length ≤ 100 by omega) (by decide)
        · rw [upd_ne (ne_of_none ed nN)]
          exact zt _ _ (s2 _ _ ed)
        · rw [upd_same, List.map_append]
          rfl
        · exact pair_snoc (Paired.mapP hus fun _ _ z => keep _ _ _ (zt _ _ z)) (keep _ _ _ ht3)
        · rw [List.take_add_one, hgg, List.filter_append]
          have : wrB gg = true := decide_eq_true c
          rw [show (some gg).toList.filter wrB = [gg] from by simp [this]]
          exact pair_snoc (Paired.mapP hin fun _ _ ⟨k1, i, k2, k3⟩ => ⟨k1, i, k2, keep _ _ _ (zt _ _ k3)⟩) ⟨rfl, ia, rfl, keep _ _ _ (zt _ _ e2)⟩
      obtain ⟨s2, us, kvs, hN, hus, hin⟩ := hP
      rw [List.length_map, hlen, List.take_length] at hin
      have ndw : ((gs.filter wrB).map (·.1)).Nodup := List.Pairwise.sublist ((List.filter_sublist).map _) W.nd
      have knd : (kvs.map (·.1)).Nodup := by
        rw [hin.keys]
        exact List.pairwise_map.mpr (List.Pairwise.imp (fun {a b} h e => h (by cases e; rfl)) ndw)
      refine ⟨N, us, kvs, rfl, SqL.of hN, Paired.mapP hus (fun _ _ z => SqT.of z), fun di ndi => ?_⟩
      rw [show mergeK [] kvs = kvs from merge_new kvs [] knd]
      have zd := same_new ndi (o := .dK kvs)
      have s3 := s2.trans zd
      have hdi : upd H2 di (.dK kvs) di = some (.dK kvs) := upd_same
      have hin3 : InsAt (upd H2 di (.dK kvs)) kvs (gs.filter wrB) := Paired.mapP hin fun _ _ ⟨k1, i, k2, k3⟩ => ⟨k1, i, k2, zd _ _ k3⟩
      generalize upd H2 di (.dK kvs) = H3 at s3 hdi hin3 ⊢
      clear zd s2 hus hN nN hin ndi
      have hx3 := sameT s3 hx
      have hds3 := DtAll.same s3 hds
      have val : trailD rs gs (.tuple ds) = (ds.all (crossD gs) && (ds.zip (ds.drop 1)).all fun p => nextD rs gs p.1 p.2) := rfl
      have bad : ∀ e ∈ ds, crossD gs e = false → ∀ H', Same H3 H' → Q (.bl false) H' := fun e he ce H' s' => no H' (s3.trans s') (by
        rw [val, show ds.all (crossD gs) = false from List.all_eq_false.mpr ⟨e, he, by rw [ce]; exact Bool.false_ne_true⟩]
        rfl)
      -- for one in value
      refine ⟨_, rfl, p, rfl, ⟨_, hx3⟩, for_it (walk_tup (xs := xs)) (fun j σ H' => ∃ v3 v4 : Option V, σ = [some (.ref wa), some (.ref p), some (.ref di), v3, v4, none, none, none, none] ∧ Same H3 H' ∧ ∀ e ∈ ds.take j, crossD gs e = true)
        ⟨none, none, rfl, fun _ _ e => e, fun e h => absurd h List.not_mem_nil⟩ (fun j σ H' _ ⟨_, _, _, s', _⟩ => sameT s' hx3) (fun j v σ H5 H6 hj hP hY => ?_) (fun σ H5 hP => ?_)⟩
      · obtain ⟨v3, v4, rfl, s5, ok5⟩ := hP
        obtain ⟨rfl, hv⟩ := hY
        obtain ⟨e, he, hde⟩ := dt_at hds3 hv
        have em := List.mem_of_getElem? he
        have hde5 := hde.same s5
        have okn : crossD gs e = true → ∀ u ∈ ds.take (j + 1), crossD gs u = true := fun ce u hu => by
          rw [List.take_add_one, he] at hu
          rcases List.mem_append.mp hu with z | z
          · exact ok5 u z
          · have : u = e := by simpa using z
            rw [this]
            exact ce
        refine ⟨_, rfl, v, "tuple", e, isTup e, rfl, hde5, kit_tuple e, _, rfl, ?_⟩
        cases hde5 with
        | @tup t ys es hy hes =>
          have ly := DtAll.length hes
          refine ifF rfl ⟨_, rfl, _, ys.length, rfl, .inr ⟨_, hy, rfl⟩, rfl, _, rfl, ?_⟩
          by_cases l3 : ys.length = 3
          rotate_left
          · refine ifT (by simpa using fun z : ((ys.length : Int) = 3) => l3 (by omega)) (ifT rfl (bad _ em (cross_false fun ⟨n, a, b, y⟩ => ?_) _ s5))
            injection y with y
            rw [y] at ly
            exact l3 ly
          refine ifF (by rw [l3]; rfl) ?_
          have les : es.length = 3 := by omega
          refine ⟨_, rfl, t, rfl, ⟨_, hy⟩, fun D nD => lc_bl (walk_tup (xs := ys)) (es.map isTxt) (by rw [List.length_map, ly]) (by omega) nD (fun H8 s8 => sameT s8 hy) (fun i z c H8 H9 k e2 hc s8 hY hk => ?_) fun H8 s8 hD => ?_⟩
          · obtain ⟨rfl, hz⟩ := hY
            obtain ⟨e3, he3, hd3⟩ := dt_at hes hz
            rw [List.getElem?_map, he3] at hc
            cases hc
            exact ⟨rfl, _, rfl, z, "str", e3, isTxt e3, rfl, hd3.same s8, kit_str e3, hk _ fun _ _ e => e⟩
          have s58 := s5.trans s8
          refine ⟨D, _, rfl, SqL.of hD, _, rfl, ?_⟩
          cases ct : (es.map isTxt).all id with
          | false =>
            refine ifT rfl (bad _ em (cross_false fun ⟨n, a, b, y⟩ => ?_) _ s58)
            injection y with y
            rw [y] at ct
            cases ct
          | true =>
          refine ifF rfl ?_
          obtain ⟨n, a, b, rfl⟩ : ∃ n a b : Str, es = [.str n, .str a, .str b] := by
            match es, les, ct with
            | [d1, d2, d3], _, ct =>
              simp only [List.map_cons, List.map_nil, List.all_cons, List.all_nil, id, Bool.and_true, Bool.and_eq_true] at ct
              obtain ⟨c1, c2, c3⟩ := ct
              have tx : ∀ d, isTxt d = true → ∃ s, d = .str s := fun d h => by cases d <;> first | exact ⟨_, rfl⟩ | cases h
              obtain ⟨s1, rfl⟩ := tx d1 c1
              obtain ⟨s2, rfl⟩ := tx d2 c2
              obtain ⟨s3, rfl⟩ := tx d3 c3
              exact ⟨_, _, _, rfl⟩
          obtain ⟨v1, v2, v3', d1, d2, d3, rfl, ee, h1, h2, h3⟩ := dt_three hes ly
          injection ee with q1 ee
          injection ee with q2 ee
          injection ee with q3 ee
          subst q1 q2 q3
          cases h1
          cases h2
          cases h3
          have hy8 := sameT s8 hy
          have hdi8 := s58 _ _ hdi
          -- some = wrapping.get(one[0], ())
          refine ⟨_, rfl, di, rfl, .inl ⟨_, .inl hdi8⟩, _, rfl, t, _, 0, .str n, rfl, rfl, hy8, atI_nat (j := 0) rfl, (by show 0 ≤ sizeLine; decide), fun te nte => ?_⟩
          have zt := same_new nte (o := .tup [])
          have hte : upd H8 te (.tup []) te = some (.tup []) := upd_same
          have s5t := s58.trans zt
          have hy9 := sameT zt hy8
          have hdi9 := zt _ _ hdi8
          generalize upd H8 te (.tup []) = H9 at hte s5t hy9 hdi9 ⊢
          refine ⟨_, DGet.k (k := Sum.inr n) hdi9, ?_⟩
          by_cases hn : n ∈ wrapsW gs
          rotate_left
          · rw [hin3.none_ (by rw [wr_names]; exact hn)]
            refine ⟨_, rfl, t, _, 1, .str a, rfl, rfl, hy9, atI_nat (j := 1) rfl, _, rfl, te, [], .str a, rfl, .inr (SqT.of hte), .str a, _, rfl, ?_⟩
            exact ifT rfl (ifT rfl (bad _ em (cross_no (by rw [isin_s, decide_eq_false hn])) _ s5t))
          obtain ⟨gg, hg, ew, en⟩ := mem_wraps.mp hn
          have hgw : gg ∈ gs.filter wrB := List.mem_filter.mpr ⟨hg, decide_eq_true ew⟩
          obtain ⟨ia, hv, hia⟩ := hin3.get hgw ndw
          rw [en] at hv
          have cr2 : crossD gs (.tuple [.str n, .str a, .str b]) = (decide (a ∈ gg.2.1) && (decide (b ∈ gg.2.1) && !decide (a = b))) := by
            rw [cross_by W.nd hg en hn]
            unfold leadD
            rw [isin_s, isin_s, PyData.eqv]
            rfl
          rw [hv]
          have hia9 := s5t _ _ hia
          refine ⟨_, rfl, t, _, 1, .str a, rfl, rfl, hy9, atI_nat (j := 1) rfl, _, rfl, ia, gg.2.1, .str a, rfl, .inr (SqT.of hia9), .str a, _, rfl, ?_⟩
          by_cases ma : a ∈ gg.2.1
          rotate_left
          · refine ifT (by simp [isin_s, ma]) (ifT rfl (bad _ em (by rw [cr2, decide_eq_false ma]; rfl) _ s5t))
          refine ifF (by simp [isin_s, ma]) ⟨_, rfl, t, _, 2, .str b, rfl, rfl, hy9, atI_nat (j := 2) rfl, _, rfl, ia, gg.2.1, .str b, rfl, .inr (SqT.of hia9), .str b, _, rfl, ?_⟩
          by_cases mb : b ∈ gg.2.1
          rotate_left
          · refine ifT (by simp [isin_s, mb]) (ifT rfl (bad _ em (by rw [cr2, decide_eq_false mb, Bool.false_and, Bool.and_false]) _ s5t))
          refine ifF (by simp [isin_s, mb]) ⟨_, rfl, t, _, 1, .str a, rfl, rfl, hy9, atI_nat (j := 1) rfl, _, rfl, t, _, 2, .str b, rfl, rfl, hy9, atI_nat (j := 2) rfl, rfl, _, rfl, ?_⟩
          rw [decide_eq_true ma, decide_eq_true mb, Bool.true_and, Bool.true_and] at cr2
          by_cases ab : a = b
          · refine ifT (decide_eq_true (by rw [ab])) (bad _ em (by rw [cr2, decide_eq_true ab]; rfl) _ s5t)
          · exact ifF (decide_eq_false fun z => ab (V.str.inj z)) ⟨_, _, rfl, s5t, okn (by rw [cr2, decide_eq_false ab]; rfl)⟩
        | _ => exact ifT rfl (ifT rfl (bad _ em (cross_false fun ⟨n, a, b, y⟩ => by cases y) _ s5))
      · obtain ⟨v3, v4, rfl, s5, ok5⟩ := hP
        rw [lx, List.take_length] at ok5
        have s35 := s3.trans s5
        have hx5 := sameT s5 hx3
        have hds5 := DtAll.same s5 hds3
        have al : ds.all (crossD gs) = true := List.all_eq_true.mpr ok5
        rw [al, Bool.true_and] at val
        refine ⟨_, rfl, _, rfl, 1, rfl, Or.inr (sl_dt hx5 fun tl H6 s6 htl => ?_)⟩
        rw [cut_1] at htl
        have hx6 := sameT s6 hx5
        have lz : (ds.zip (ds.drop 1)).length = min xs.length (xs.drop 1).length := by
          rw [List.length_zip, List.length_drop, List.length_drop, lx]
        refine ⟨p, tl, _, _, rfl, .inr ⟨hx6, htl, fun D nD => lc_bl (walk_zipT rfl) ((ds.zip (ds.drop 1)).map fun q => nextD rs gs q.1 q.2) (by rw [List.length_map, lz]) (by omega) nD (fun H8 s8 => ⟨sameT s8 hx6, sameT s8 htl⟩) (fun i v c H8 H9 k e hc s8 hY hk => ?_) fun H8 s8 hD => ?_⟩⟩
        · obtain ⟨T, u1, u2, rfl, nT, rfl, e1, e2⟩ := hY
          have e1 : xs[i]? = some u1 := e1
          have e2 : (xs.drop 1)[i]? = some u2 := e2
          rw [List.getElem?_drop] at e2
          obtain ⟨d1, k1, h1⟩ := dt_at hds5 e1
          obtain ⟨d2, k2, h2⟩ := dt_at hds5 e2
          have zT := same_new nT (o := .tup [u1, u2])
          have s69 := s6.trans (s8.trans zT)
          obtain ⟨n1, a1, b1, rfl, g1, hg1, _, ra1, rb1⟩ := cross_parts (ok5 d1 (List.mem_of_getElem? k1))
          obtain ⟨n2, a2, b2, rfl, g2, hg2, _, ra2, rb2⟩ := cross_parts (ok5 d2 (List.mem_of_getElem? k2))
          rw [List.getElem?_map, show (ds.zip (ds.drop 1))[i]? = some (.tuple [.str n1, .str a1, .str b1], .tuple [.str n2, .str a2, .str b2]) from by
            rw [List.getElem?_zip_eq_some]
            exact ⟨k1, by rw [List.getElem?_drop]; exact k2⟩] at hc
          cases hc
          cases h1.same s69 with
          | @tup t1 y1 e1 hy1 he1 =>
          cases h2.same s69 with
          | @tup t2 y2 e2 hy2 he2 =>
          obtain ⟨w1, w2, w3, f1, f2, f3, rfl, ee, r1, r2, r3⟩ := dt_three he1 (DtAll.length he1)
          injection ee with q1 ee
          injection ee with q2 ee
          injection ee with q3 ee
          subst q1 q2 q3
          cases r1
          cases r2
          cases r3
          obtain ⟨w1, w2, w3, f1, f2, f3, rfl, ee, r1, r2, r3⟩ := dt_three he2 (DtAll.length he2)
          injection ee with q1 ee
          injection ee with q2 ee
          injection ee with q3 ee
          subst q1 q2 q3
          cases r1
          cases r2
          cases r3
          refine ⟨T, _, rfl, SqT.of upd_same, rfl, _, _, rfl, _, _, rfl, rfl, rfl, ?_⟩
          have nx : nextD rs gs (.tuple [.str n1, .str a1, .str b1]) (.tuple [.str n2, .str a2, .str b2]) = (!decide (n1 = n2) && conB gs (wrapsW gs) b1 a2) := rfl
          have hk2 : ∀ b H', nextD rs gs (.tuple [.str n1, .str a1, .str b1]) (.tuple [.str n2, .str a2, .str b2]) = b → Same H8 H' → k (.bl b) H' := fun b H' e s' => by
            rw [← e]
            exact hk H' s'
          rw [nx] at hk2
          refine ⟨_, rfl, t1, _, 0, .str n1, rfl, rfl, hy1, atI_nat (j := 0) rfl, _, rfl, t2, _, 0, .str n2, rfl, rfl, hy2, atI_nat (j := 0) rfl, rfl, _, rfl, ?_⟩
          by_cases c : n1 = n2
          · exact ifF (by rw [c]; simp) (hk2 false _ (by rw [decide_eq_true c]; rfl) zT)
          refine ifT (by rw [decide_eq_false fun z => c (V.str.inj z)]; rfl) ?_
          rw [decide_eq_false c, Bool.not_false, Bool.true_and] at hk2
          refine ⟨_, rfl, t2, _, 1, .str a2, rfl, rfl, hy2, atI_nat (j := 1) rfl, _, rfl, _, rfl, t1, _, 2, .str b1, rfl, rfl, hy1, atI_nat (j := 2) rfl, ?_⟩
          refine ⟨wa, r, g, as, rs, gs, b1, rfl, hw.same (s35.trans s69), W, (W.each g1 hg1).sub _ rb1, fun H9 pz fs sf _ hpz _ ex => ?_⟩
          refine ⟨pz, fs, .str a2, rfl, .inl (SqL.of hpz), .str a2, hk2 _ _ ?_ (zT.trans sf)⟩
          show conB gs (wrapsW gs) b1 a2 = decide (a2 ∈ fs)
          cases cb : conB gs (wrapsW gs) b1 a2 with
          | true => exact (decide_eq_true ((ex a2).mpr cb)).symm
          | false => exact (decide_eq_false fun z => by rw [(ex a2).mp z] at cb; cases cb).symm
        · refine ⟨D, _, rfl, SqL.of hD, ?_⟩
          have := q H8 (s35.trans (s6.trans s8))
          rw [val] at this
          rw [List.all_map]
          exact this
    | _ => exact ifT rfl (no H (fun _ _ z => z) rfl)
end
end K35

set_option Elab.async false
set_option linter.all false
set_option maxRecDepth 100000
set_option maxHeartbeats 1000000
namespace K35
open PySem PySem.Spec PyProof.Rows L2 WT
abbrev st_trail : Stmt := top 26
theorem sc_trail : FnScope ["_law_draws_here", "_law_world_here", "_law_count", "_law_found", "_law_turn", "_law_some", "_law_zone_here", "_law_name", "_law_regions", "_law_kind", "_law_start", "_law_one", "_law_region"] ["_law_draws_here", "_law_world_here", "_law_count"] (defScope st_trail) := ⟨rfl, rfl, rfl, by decide +kernel, rfl, by decide +kernel, by decide +kernel⟩
theorem ix_listK {X : Cx} {K : PySem.W.Frag} (hK : X.K = K := by rfl) : IxR X (rIxL K) := by
  subst hK
  exact ix_list
theorem cr_anyK {X : Cx} {K : PySem.W.Frag} (hcalm : X.calm = true) (hK : X.K = K := by rfl) : CallR X (.builtin "any") (rAny K) := by
  subst hK
  exact cr_any hcalm
/-- a test that says b and makes new things only -/
theorem ifS_byS {c : TT} {t u : TS} {D : Ends} {σ : L2.St} {H : Hp} (b : Bool) (hc : ∀ Q : Bool → Hp → Prop, (∀ H', Same H H' → Q b H') → c σ H Q) (h : ∀ H', Same H H' → if b = true then t D σ H' else u D σ H') : tIfS c t u D σ H := hc _ h
theorem use_seqR {f u : TS} {D : Ends} {σ : L2.St} {H : Hp} (G : L2.St → Hp → Prop) (h : ∀ N : L2.St → Hp → Prop, (∀ σ' H', G σ' H' → N σ' H') → f { D with nx := N } σ H) (q : ∀ σ' H', G σ' H' → u D σ' H') {r b c} : Ends.nx { nx := tSeq f u D, rt := r, bk := b, ct := c } σ H := h (u D) q
theorem atI_last {α : Type} (xs : List α) (x : α) : atI (xs ++ [x]) (-1) = some x := by
  unfold atI
  have e : ixN (xs ++ [x]).length (-1) = some xs.length := by
    unfold ixN
    simp
    omega
  rw [e]
  simp
/-- a crossing -/
abbrev Cr := Str × Str × Str
def crV (c : Cr) : List V := [.str c.1, .str c.2.1, .str c.2.2]
def crL (c : Cr) : List Str := [c.1, c.2.1, c.2.2]
def crD (c : Cr) : PyData := .tuple ((crL c).map PyData.str)
def CrNm (c : Cr) : Prop := NmOk c.1 ∧ NmOk c.2.1 ∧ NmOk c.2.2
/-- a new trail -/
def TrailN (H0 H : Hp) (t : Addr) (cs : List Cr) : Prop := ∃ ts : List Addr, H0 t = none ∧ (∀ u ∈ ts, H0 u = none) ∧ H t = some (.tup (ts.map V.ref)) ∧ Paired (fun u c => H u = some (.tup (crV c))) ts cs
theorem dp_crs {K : PySem.W.Frag} {H : Hp} : ∀ {ts : List Addr} {cs : List Cr}, Paired (fun u c => H u = some (.tup (crV c))) ts cs → DpAll K H (ts.map V.ref) (cs.map crD)
  | _, _, .nil => .nil
  | _, _, .cons h t => .cons (.tup (SqT.of h) (.cons (.str _) (.cons (.str _) (.cons (.str _) .nil)))) (dp_crs t)
theorem shaped_crs {cs : List Cr} (h : ∀ c ∈ cs, CrNm c) : SeqAt.shaped (.list (cs.map crD)) = true := by
  have := shaped_tups (cs.map crL) fun ts hts s hs => by
    obtain ⟨c, hc, rfl⟩ := List.mem_map.mp hts
    have k := h c hc
    unfold crL at hs
    simp only [List.mem_cons, List.not_mem_nil, or_false] at hs
    rcases hs with rfl | rfl | rfl
    · exact k.1.ok
    · exact k.2.1.ok
    · exact k.2.2.ok
  rw [List.map_map] at this
  exact this
theorem two_other {ys : List Str} {h : Str} (nd : ys.Nodup) (l : 2 ≤ ys.length) : 0 < (ys.filter fun y => decide (y ≠ h)).length := by
  match ys, nd, l with
  | x :: y :: r, nd, _ =>
    refine List.length_pos_iff.mpr fun e => ?_
    have k : ∀ z ∈ x :: y :: r, z = h := fun z hz => by
      have := List.filter_eq_nil_iff.mp e z hz
      simpa using this
    have a := k x List.mem_cons_self
    have b := k y (List.mem_cons_of_mem _ List.mem_cons_self)
    rw [List.nodup_cons] at nd
    exact nd.1 (by rw [a, ← b]; exact List.mem_cons_self)
/-- crossings that are a trail -/
def TrOk (rs : List Str) (gs : List Gt) (cs : List Cr) : Prop := (∀ c ∈ cs, crossD gs (crD c) = true) ∧ ∀ i c c', cs[i]? = some c → cs[i + 1]? = some c' → nextD rs gs (crD c) (crD c') = true
def trE (cs : List Cr) : PyData := .tuple (cs.map crD)
theorem TrOk.ok {rs : List Str} {gs : List Gt} {cs : List Cr} (h : TrOk rs gs cs) : trailD rs gs (trE cs) = true := by
  unfold trailD trE
  rw [Bool.and_eq_true]
  refine ⟨List.all_eq_true.mpr fun d hd => ?_, List.all_eq_true.mpr fun p hp => ?_⟩
  · obtain ⟨c, hc, rfl⟩ := List.mem_map.mp hd
    exact h.1 c hc
  · obtain ⟨d1, d2⟩ := p
    obtain ⟨i, hi⟩ := List.mem_iff_getElem?.mp hp
    rw [List.getElem?_zip_eq_some, List.getElem?_drop, List.getElem?_map, List.getElem?_map] at hi
    obtain ⟨h1, h3⟩ := hi
    obtain ⟨c1, hc1, rfl⟩ := Option.map_eq_some_iff.mp h1
    obtain ⟨c2, hc2, rfl⟩ := Option.map_eq_some_iff.mp h3
    rw [Nat.add_comm] at hc2
    exact h.2 i c1 c2 hc1 hc2
theorem TrOk.snoc {rs : List Str} {gs : List Gt} {cs : List Cr} {c : Cr} (h : TrOk rs gs cs) (hc : crossD gs (crD c) = true) (hn : ∀ ci cl, cs = ci ++ [cl] → nextD rs gs (crD cl) (crD c) = true) : TrOk rs gs (cs ++ [c]) := by
  refine ⟨fun x hx => (List.mem_append.mp hx).elim (h.1 x) fun m => by rw [List.mem_singleton.mp m]; exact hc, fun i x y hx hy => ?_⟩
  by_cases lt : i + 1 < cs.length
  · rw [List.getElem?_append_left lt] at hy
    rw [List.getElem?_append_left (by omega)] at hx
    exact h.2 i x y hx hy
  · rw [List.getElem?_append_right (by omega)] at hy
    have e : i + 1 = cs.length := by
      have := (List.getElem?_eq_some_iff.mp hy).1
      rw [List.length_singleton] at this
      omega
    rw [e, Nat.sub_self] at hy
    cases hy
    rw [List.getElem?_append_left (by omega)] at hx
    rcases List.eq_nil_or_concat cs with rfl | ⟨ci, cl, hcl⟩
    · cases hx
    rw [List.concat_eq_append] at hcl
    have : x = cl := by
      rw [hcl] at hx e
      rw [List.length_append, List.length_singleton] at e
      have ei : i = ci.length := by omega
      rw [ei] at hx
      simpa using hx.symm
    rw [this]
    exact hn ci cl hcl
section
variable {P : Program} {w : World} {K : PySem.W.Frag} {mg : Str → Option Value} {base : Heap} {f fZ fC : Addr} {fd fdZ fdC : FuncData}
/-- trail(draws, world, count) -/
def spTrail : Sp := fun vs H Q _ => ∃ (a wa r g : Addr) (as : List Addr) (rs : List Str) (gs : List Gt) (b m : Nat), vs = [.ref a, .ref wa, .int m] ∧ PotAt H a b ∧ b ≤ 80000 ∧ m ≤ 100 ∧ WorldAt H wa r g as rs gs ∧ MapOk rs gs ∧
  ∀ (H' : Hp) (t : Addr) (cs : List Cr) (b' : Nat), But a H H' → PotAt H' a b' → b' ≤ b + 400 → TrailN H H' t cs → (∀ c ∈ cs, CrNm c) → cs.length ≤ 100 → TrOk rs gs cs → Q (.ref t) H'
theorem ok_trail (F : Fun K "_law_trail" "_law_trail" st_trail f fd) (B : Blt mg) (hany : mg "any" = none) (F_zone : Df P w K mg base "_law_zone" 1 fZ fdZ ["_law_world_here", "_law_region"] spZone) (F_choice : Df P w K mg base "_law_choice" 2 fC fdC ["_law_draws_here", "_law_some"] (spPick K)) :
    FnG P w K mg base CX0 3 f fd ["_law_draws_here", "_law_world_here", "_law_count"] spTrail := by
  refine okG F sc_trail (fun vs H Q E h => ?_) (fun cdv A outer s H vs Q E hgd hr h => ?_)
  · obtain ⟨_, _, _, _, _, _, _, _, _, rfl, _⟩ := h
    rfl
  · obtain ⟨a, wa, r, g, as, rs, gs, b, m, rfl, ha, hb, hm, hw, W, q⟩ := h
    refine ⟨_, (pss_cons (ps_set (i := 3) sc_trail.nd rfl (.inr rfl) (pe_lst pa_nil))
      (pss_cons (ps_for PassesOwn.never rfl (pi_range1 (by rfl) B.range (pa_cons (pv 2) pa_nil)) (pg_name (i := 4) sc_trail.nd rfl (.inl rfl))
       (pss_cons (ps_setLc (i := 5) (own := [("_law_one", 11)]) (by rfl) sc_trail.nd rfl rfl (sw_true rfl rfl rfl (by decide +kernel)) (pi_tup (pe_ix ix_tup (pv 1) pe_int (fun _ _ => rfl))) (blkOk_by (own := [("_law_one", 11)]) (N := ["_law_draws_here", "_law_world_here", "_law_count", "_law_found", "_law_turn", "_law_some", "_law_zone_here", "_law_name", "_law_regions", "_law_kind", "_law_start", "_law_one", "_law_region"]) (sc := defScope st_trail) (by decide +kernel)) (fun _ _ _ _ _ => (pg_name (i := 11) sc_trail.nd rfl (.inl rfl))) (fun _ _ _ _ _ => (pts_one (pt_cmpR op_eq (pe_ix (ix_tupK (K := K)) (pv 11) pe_int (fun _ _ => rfl)) pe_str (nomark _)))) (fun _ _ _ _ _ => (pv 11)))
       (pss_cons (ps_if (pt_cmpR (op_neD hr.units) (pv 3) (pe_lst pa_nil) (nomark _))
        (pss_cons (ps_set (i := 6) sc_trail.nd rfl (.inr rfl) (pe_callG hgd F_zone.G (hr.mono (by decide)) (by rfl) F_zone.g F_zone.kp F_zone.bd pass0 (pa_cons (pv 1) (pa_cons (pe_ix (ix_tupK (K := K)) (pe_ix (ix_listK (K := K)) (pv 3) (pe_un un_neg pe_int) (fun _ _ => rfl)) pe_int (fun _ _ => rfl)) pa_nil))))
        (pss_one (ps_setLc (i := 5) (own := [("_law_one", 11)]) (by rfl) sc_trail.nd rfl rfl (sw_true rfl rfl rfl (by decide +kernel)) (pi_list (pv 5)) (blkOk_by (own := [("_law_one", 11)]) (N := ["_law_draws_here", "_law_world_here", "_law_count", "_law_found", "_law_turn", "_law_some", "_law_zone_here", "_law_name", "_law_regions", "_law_kind", "_law_start", "_law_one", "_law_region"]) (sc := defScope st_trail) (by decide +kernel)) (fun _ _ _ _ _ => (pg_name (i := 11) sc_trail.nd rfl (.inl rfl))) (fun _ _ _ _ _ => (pts_one (PW.pt (pw_and (pt_cmpR op_ne (pe_ix (ix_tupK (K := K)) (pv 11) pe_int (fun _ _ => rfl)) (pe_ix (ix_tupK (K := K)) (pe_ix (ix_listK (K := K)) (pv 3) (pe_un un_neg pe_int) (fun _ _ => rfl)) pe_int (fun _ _ => rfl)) (nomark _)) (pw_and1 (pt_val (pe_callB (cr_anyK (K := K) (by rfl)) (by rfl) hany (by decide +kernel) (pa_cons (pe_lc (own := [("_law_region", 12)]) (by rfl) sc_trail.nd (pi_tupK (K := K) (pe_ix (ix_tupK (K := K)) (pv 11) pe_int (fun _ _ => rfl))) (blkOk_by (own := [("_law_region", 12)]) (N := ["_law_draws_here", "_law_world_here", "_law_count", "_law_found", "_law_turn", "_law_some", "_law_zone_here", "_law_name", "_law_regions", "_law_kind", "_law_start", "_law_one", "_law_region"]) (scope := { kind := .function, names := [(".0", .local), ("_law_region", .local), ("_law_zone_here", .free)], isGenerator := false, isCoroutine := false }) (sc := { kind := .function, names := [(".0", .local), ("_law_one", .local), ("any", .globalImplicit), ("_law_found", .cell), ("_law_zone_here", .cell)], isGenerator := false, isCoroutine := false }) (by decide +kernel)) (fun _ _ _ _ _ => (pg_name (i := 12) sc_trail.nd rfl (.inl rfl))) (fun _ _ _ _ _ => pts_nil) (fun _ _ _ _ _ => (pe_cmpR (op_inA (K := K) hr.units) (pv 12) (pv 6) (by rfl)))) pa_nil)))))))) (fun _ _ _ _ _ => (pv 11)))))
        pss_nil)
       (pss_one (ps_if (pt_cmpR (op_neD hr.units) (pv 5) (pe_lst pa_nil) (nomark _))
        (pss_cons (ps_asg (pe_callG hgd F_choice.G (hr.mono (by decide)) (by rfl) F_choice.g F_choice.kp F_choice.bd pass0 (pa_cons (pv 0) (pa_cons (pv 5) pa_nil))) (pg_tup rfl (pgs_cons (pg_name (i := 7) sc_trail.nd rfl (.inl rfl)) (pgs_cons (pg_name (i := 8) sc_trail.nd rfl (.inl rfl)) (pgs_cons (pg_name (i := 9) sc_trail.nd rfl (.inl rfl)) pgs_nil)))))
        (pss_cons (ps_if (pt_cmpR (op_neD hr.units) (pv 3) (pe_lst pa_nil) (nomark _))
         (pss_one (ps_set (i := 10) sc_trail.nd rfl (.inr rfl) (pe_callG hgd F_choice.G (hr.mono (by decide)) (by rfl) F_choice.g F_choice.kp F_choice.bd pass0 (pa_cons (pv 0) (pa_cons (pe_lc (own := [("_law_region", 12)]) (by rfl) sc_trail.nd (pi_tup (pv 8)) (blkOk_by (own := [("_law_region", 12)]) (N := ["_law_draws_here", "_law_world_here", "_law_count", "_law_found", "_law_turn", "_law_some", "_law_zone_here", "_law_name", "_law_regions", "_law_kind", "_law_start", "_law_one", "_law_region"]) (sc := defScope st_trail) (by decide +kernel)) (fun _ _ _ _ _ => (pg_name (i := 12) sc_trail.nd rfl (.inl rfl))) (fun _ _ _ _ _ => (pts_one (pt_cmpR (op_inA (K := K) hr.units) (pv 12) (pv 6) (by rfl)))) (fun _ _ _ _ _ => (pv 12))) pa_nil)))))
         (pss_one (ps_set (i := 10) sc_trail.nd rfl (.inr rfl) (pe_callG hgd F_choice.G (hr.mono (by decide)) (by rfl) F_choice.g F_choice.kp F_choice.bd pass0 (pa_cons (pv 0) (pa_cons (pe_callTy call_list_of (by rfl) B.list (by decide +kernel) (pa_cons (pv 8) pa_nil)) pa_nil))))))
        (pss_one (ps_expr (pe_bm PySem.F.plainAttrs_list PySem.F.slot_list_append PySem.F.type_list_append mt_append (pv 3) (pa_cons (pe_tup (pa_cons (pv 7) (pa_cons (pv 10) (pa_cons (pe_callG hgd F_choice.G (hr.mono (by decide)) (by rfl) F_choice.g F_choice.kp F_choice.bd pass0 (pa_cons (pv 0) (pa_cons (pe_lc (own := [("_law_region", 12)]) (by rfl) sc_trail.nd (pi_tup (pv 8)) (blkOk_by (own := [("_law_region", 12)]) (N := ["_law_draws_here", "_law_world_here", "_law_count", "_law_found", "_law_turn", "_law_some", "_law_zone_here", "_law_name", "_law_regions", "_law_kind", "_law_start", "_law_one", "_law_region"]) (sc := defScope st_trail) (by decide +kernel)) (fun _ _ _ _ _ => (pg_name (i := 12) sc_trail.nd rfl (.inl rfl))) (fun _ _ _ _ _ => (pts_one (pt_cmpR op_ne (pv 12) (pv 10) (nomark _)))) (fun _ _ _ _ _ => (pv 12))) pa_nil))) pa_nil)))) pa_nil))))))
        pss_nil)))))
      (pss_one (ps_ret (pe_callTy call_tuple_of (by rfl) B.tuple (by decide +kernel) (pa_cons (pv 3) pa_nil)))))), ?_⟩
    have hlen := Paired.length hw.each
    have lgs := W.lg
    obtain ⟨nr, _, nr10, lo⟩ := W.reg
    refine ⟨(by show 0 ≤ sizeLine; decide), fun Fa nF => ?_⟩
    have z0 := same_new nF (o := .lst [])
    have Fa_a : Fa ≠ a := Ne.symm (ha.ne_new nF)
    have hF0 : upd H Fa (.lst []) Fa = some (.lst []) := upd_same
    have gkOk : ∀ x ∈ gs, PyData.strOk x.1 = true ∧ PyData.strOk x.2.2 = true ∧ ∀ s ∈ x.2.1, PyData.strOk s = true := fun x hx => by
      have k := W.each x hx
      refine ⟨k.nm.ok, ?_, fun s hs => (lo.nm s (k.sub s hs)).ok⟩
      rcases k.kind with e | e
      · rw [e]
        exact nm_wrap.ok
      · rw [e]
        exact nm_open.ok
    -- for turn in range(count)
    refine ⟨_, rfl, (m : Int), rfl, by omega, by omega, for_it (walk_range (lo := 0) (n := ((m : Int)).toNat)) (fun j σ H' => ∃ (o4 o5 o6 o7 o8 o9 o10 : Option V) (ts : List Addr) (cs : List Cr) (b' : Nat), σ = [some (.ref a), some (.ref wa), some (.int m), some (.ref Fa), o4, o5, o6, o7, o8, o9, o10, none, none] ∧ But a H H' ∧ PotAt H' a b' ∧ b' ≤ b + 3 * j ∧ H' Fa = some (.lst (ts.map V.ref)) ∧ Paired (fun u c => H' u = some (.tup (crV c))) ts cs ∧ (∀ c ∈ cs, CrNm c) ∧ cs.length ≤ j ∧ TrOk rs gs cs ∧ ∀ u ∈ ts, H u = none)
      ⟨none, none, none, none, none, none, none, [], [], b, rfl, .of z0, ha.same z0, by omega, hF0, .nil, fun c hc => absurd hc List.not_mem_nil, Nat.le_refl _, ⟨fun c hc => absurd hc List.not_mem_nil, fun i c c' h => by cases h⟩, fun u h => absurd h List.not_mem_nil⟩ (fun _ _ _ _ _ => trivial) (fun j v σ H3 H3' hj hP hY => ?_) (fun σ H3 hP => ?_)⟩
    · obtain ⟨o4, o5, o6, o7, o8, o9, o10, ts, cs, b', rfl, bt3, p3, hb3, hF3, pc3, nm, lc, tr, fr⟩ := hP
      obtain ⟨rfl, rfl⟩ := hY
      have hj2 : j < m := by simpa using hj
      have lts := Paired.length pc3
      have hw3 := hw.but ha bt3
      -- some
      refine ⟨_, rfl, wa, _, 1, .ref g, rfl, rfl, SqT.of hw3.top, atI_nat (j := 1) rfl, g, rfl, ⟨_, SqT.of hw3.gat⟩, fun D nD => lc_gatesP (walk_tup (xs := as.map V.ref)) wrB as gs hw3.each (by rw [List.length_map, hlen]) nD (by rw [List.length_map]; omega) (fun H s => SqT.of (s _ _ hw3.gat)) (fun j H v H' h => ⟨h.1, h.2⟩) (fun j t ia gg H4 k e hg s4 e1 e2 hk he => ?_) fun H4 bs s4 hD pb => ?_⟩
      · refine ⟨rfl, _, rfl, t, _, 2, .str gg.2.2, rfl, rfl, SqT.of e1, atI_nat (j := 2) rfl, rfl, _, rfl, ?_⟩
        by_cases c : gg.2.2 = ("wrap" : Str)
        · exact ifT (decide_eq_true (congrArg V.str c)) ⟨_, rfl, hk (decide_eq_true c) _ fun _ _ e => e⟩
        · exact ifF (decide_eq_false fun z => c (V.str.inj z)) (he (decide_eq_false c) _ fun _ _ e => e)
      have bt4 := bt3.trans (.of s4)
      have p4 := p3.same s4
      have hF4 := s4 _ _ hF3
      have pc4 : Paired (fun u c => H4 u = some (.tup (crV c))) ts cs := Paired.mapP pc3 fun _ _ z => s4 _ _ z
      have Da : D ≠ a := Ne.symm (p3.ne_new nD)
      have lbs : bs.length ≤ 11 := by
        rw [Paired.length pb]
        exact Nat.le_trans (List.length_filter_le _ _) lgs
      clear bt3 p3 hF3 pc3 s4 nD hw3
      have lastU : ∀ (ci : List Cr) (cl : Cr), cs = ci ++ [cl] → ∀ H5 : Hp, Paired (fun u c => H5 u = some (.tup (crV c))) ts cs → ∃ ti u, ts = ti ++ [u] ∧ H5 u = some (.tup (crV cl)) := fun ci cl hcl H5 pc => by
        rcases List.eq_nil_or_concat ts with ets | ⟨ti, u, hti⟩
        · rw [ets, hcl] at lts
          simp at lts
        · rw [List.concat_eq_append] at hti
          refine ⟨ti, u, hti, ?_⟩
          have l1 : ti.length = ci.length := by
            rw [hti, hcl] at lts
            simpa using lts
          have at1 : ts[ti.length]? = some u := by
            rw [hti]
            simp
          obtain ⟨c, hc, hcu⟩ := pair_at pc at1
          rw [hcl, l1] at hc
          simp at hc
          rw [hc]
          exact hcu
      have inr : ∀ cl ∈ cs, cl.2.2 ∈ rs := fun cl hcl => by
        obtain ⟨n, x, y, e, g0, hg0, _, _, hy⟩ := cross_parts (tr.1 cl hcl)
        injection e with e
        injection e with _ e
        injection e with _ e
        injection e with e _
        injection e with e
        rw [e]
        exact (W.each g0 hg0).sub _ hy
      -- if found != []
      refine use_seqR (fun σ' H' => ∃ (S : Addr) (b8 : List Addr) (g8 : List Gt) (o6' : Option V), σ' = [some (.ref a), some (.ref wa), some (.int m), some (.ref Fa), some (.int ((0 : Int) + (j : Nat))), some (.ref S), o6', o7, o8, o9, o10, none, none] ∧ But a H4 H' ∧ PotAt H' a b' ∧ S ≠ a ∧ H' S = some (.lst (b8.map V.ref)) ∧ Paired (GateAt H') b8 g8 ∧ (∀ x ∈ g8, x ∈ gs ∧ x.2.2 = ("wrap" : Str)) ∧ b8.length ≤ 11 ∧
        ∀ ci cl, cs = ci ++ [cl] → (∀ x ∈ g8, x.1 ≠ cl.1 ∧ ∃ y ∈ x.2.1, conB gs (wrapsW gs) cl.2.2 y = true) ∧ ∃ (z : Addr) (zs : List Str), o6' = some (.ref z) ∧ H' z = some (.lst (zs.map V.str)) ∧ z ≠ a ∧ ∀ s, s ∈ zs ↔ conB gs (wrapsW gs) cl.2.2 s = true) (fun N hN => ?_) fun σ' H8 hG => ?_
      · refine ifS_byS (!decide (cs = [])) (fun Q hQ => ?_) fun H5 s5 => ?_
        · refine ⟨_, rfl, (by show 0 ≤ sizeLine; decide), fun ee nee => ?_⟩
          have ze := same_new nee (o := .lst [])
          refine ⟨_, _, .lst (SqL.of (ze _ _ hF4)) (dp_crs (Paired.mapP pc4 fun _ _ k => ze _ _ k)), .lst (SqL.of upd_same) .nil, shaped_crs nm, shaped_nil, _, rfl, ?_⟩
          rw [eqv_nilD]
          have := hQ _ ze
          cases cs with
          | nil => simpa using this
          | cons _ _ => simpa using this
        have p5 := p4.same s5
        have hF5 := s5 _ _ hF4
        have hD5 := s5 _ _ hD
        have pb5 := Paired.mapP pb fun _ _ z => z.same s5
        have pc5 : Paired (fun u c => H5 u = some (.tup (crV c))) ts cs := Paired.mapP pc4 fun _ _ z => s5 _ _ z
        have wr : ∀ x ∈ gs.filter wrB, x ∈ gs ∧ x.2.2 = ("wrap" : Str) := fun x hx => ⟨(List.mem_filter.mp hx).1, of_decide_eq_true (List.mem_filter.mp hx).2⟩
        rcases List.eq_nil_or_concat cs with ecs | ⟨ci, cl, hcl⟩
        · rw [decide_eq_true ecs]
          exact hN _ _ ⟨D, bs, _, o6, rfl, .of s5, p5, Da, hD5, pb5, wr, lbs, fun ci cl h => by rw [ecs] at h; simp at h⟩
        rw [List.concat_eq_append] at hcl
        rw [decide_eq_false (show ¬ cs = [] by rw [hcl]; simp)]
        refine (if_pos (show (!false) = true from rfl)).mpr ?_
        obtain ⟨ti, u, eu, hu⟩ := lastU ci cl hcl H5 pc5
        have atl : atI (ts.map V.ref) (-1) = some (.ref u) := by
          rw [eu, List.map_append]
          exact atI_last _ _
        have clm : cl ∈ cs := by
          rw [hcl]
          simp
        have hw5 := (hw.but ha bt4).same s5
        refine ⟨_, rfl, _, rfl, 1, rfl, Fa, _, -1, .ref u, rfl, rfl, SqL.of hF5, atl, u, _, 2, .str cl.2.2, rfl, rfl, SqT.of hu, atI_nat (j := 2) rfl, ?_⟩
        refine ⟨wa, r, g, as, rs, gs, cl.2.2, rfl, hw5, W, inr cl clm, fun H6 z zs s6 nz hz lzs ex => ?_⟩
        have za : z ≠ a := Ne.symm (p5.ne_new nz)
        have hF6 := s6 _ _ hF5
        have hu6 := s6 _ _ hu
        have pb6 := Paired.mapP pb5 fun _ _ z => z.same s6
        have hD6 := s6 _ _ hD5
        refine ⟨_, rfl, D, rfl, ⟨_, SqL.of hD6⟩, fun D2 nD2 => lc_gatesP (walk_list (xs := bs.map V.ref)) (fun x => decide (x.1 ≠ cl.1) && x.2.1.any fun y => decide (y ∈ zs)) bs (gs.filter wrB) pb6 (by rw [List.length_map]; exact (Paired.length pb6).symm) nD2 (by rw [List.length_map]; omega) (fun H s => SqL.of (s _ _ hD6)) (fun j H v H' h => ⟨h.1, h.2⟩) (fun j t ia gg H7 k e hg s7 e1 e2 hk he => ?_) fun H7 b8 s7 hD2 pb8 => ?_⟩
        · have hF7 := s7 _ _ hF6
          have hu7 := s7 _ _ hu6
          refine ⟨rfl, _, rfl, t, _, 0, .str gg.1, rfl, rfl, SqT.of e1, atI_nat (j := 0) rfl, _, rfl, 1, rfl, Fa, _, -1, .ref u, rfl, rfl, SqL.of hF7, atl, u, _, 0, .str cl.1, rfl, rfl, SqT.of hu7, atI_nat (j := 0) rfl, rfl, _, rfl, ?_⟩
          by_cases c : gg.1 = cl.1
          · exact ifF (by rw [decide_eq_true (congrArg V.str c)]; rfl) (ifF rfl (he (by simp [c]) _ fun _ _ e => e))
          refine ifT (by rw [decide_eq_false fun z => c (V.str.inj z)]; rfl) ?_
          have ghi := (W.each gg (wr gg hg).1).hi
          refine ⟨_, rfl, t, _, 1, .ref ia, rfl, rfl, SqT.of e1, atI_nat (j := 1) rfl, ia, rfl, ⟨_, SqT.of e2⟩, fun D3 nD3 => lc_bl (walk_tup (xs := gg.2.1.map V.str)) (gg.2.1.map fun y => decide (y ∈ zs)) (by rw [List.length_map, List.length_map]) (by rw [List.length_map]; omega) nD3 (fun H8 s8 => SqT.of (s8 _ _ e2)) (fun i x c H8 H9 k e hc s8 hY hk => ?_) fun H8 s8 hD3 => ?_⟩
          · obtain ⟨rfl, hx⟩ := hY
            rw [List.getElem?_map] at hx hc
            obtain ⟨y, hy, rfl⟩ := Option.map_eq_some_iff.mp hx
            rw [hy] at hc
            cases hc
            exact ⟨rfl, _, rfl, _, rfl, z, zs, .str y, rfl, .inl (SqL.of (s8 _ _ (s7 _ _ hz))), .str y, hk _ fun _ _ e => e⟩
          refine ⟨D3, _, rfl, SqL.of hD3, _, rfl, ?_⟩
          have an : (gg.2.1.map fun y => decide (y ∈ zs)).any id = gg.2.1.any fun y => decide (y ∈ zs) := by
            rw [List.any_map]
            rfl
          rw [an]
          cases ca : gg.2.1.any fun y => decide (y ∈ zs) with
          | false => exact ifF rfl (he (by rw [ca, Bool.and_false]) _ s8)
          | true => exact ifT rfl ⟨_, rfl, hk (by rw [ca, Bool.and_true]; exact decide_eq_true c) _ s8⟩
        have l8 : b8.length ≤ 11 := by
          rw [Paired.length pb8]
          exact Nat.le_trans (List.length_filter_le _ _) (Nat.le_trans (List.length_filter_le _ _) lgs)
        refine hN _ _ ⟨D2, b8, _, some (.ref z), rfl, (But.of s5).trans ((But.of s6).trans (.of s7)), (p5.same s6).same s7, Ne.symm ((p5.same s6).ne_new nD2), hD2, pb8, fun x hx => wr x (List.mem_filter.mp hx).1, l8, fun ci' cl' h => ?_⟩
        have : cl' = cl := by
          rw [hcl] at h
          have := List.append_inj_right' h rfl
          simpa using this.symm
        subst this
        refine ⟨fun x hx => ?_, z, zs, rfl, s7 _ _ hz, za, ex⟩
        have := (List.mem_filter.mp hx).2
        rw [Bool.and_eq_true, decide_eq_true_iff] at this
        obtain ⟨y, y1, y2⟩ := List.any_eq_true.mp this.2
        exact ⟨this.1, y, y1, (ex y).mp (of_decide_eq_true y2)⟩
      obtain ⟨S, b8, g8, o6', rfl, b48, p8, Sa, hS, pb8, gin, l8, lst⟩ := hG
      have bt8 := bt4.trans b48
      have hF8 := b48 _ _ Fa_a hF4
      have pc8 : Paired (fun u c => H8 u = some (.tup (crV c))) ts cs := Paired.mapP pc4 fun _ _ z => b48 _ _ (p4.ne_tup z) z
      clear bt4 p4 hF4 pc4 hD pb
      -- if some != []
      refine ⟨_, rfl, (by show 0 ≤ sizeLine; decide), fun ee nee => ?_⟩
      have ze := same_new nee (o := .lst [])
      refine ⟨_, _, .lst (SqL.of (ze _ _ hS)) (dp_gates (Paired.mapP pb8 fun _ _ k => k.same ze)), .lst (SqL.of upd_same) .nil, shaped_gates fun x hx => gkOk x (gin x hx).1, shaped_nil, _, rfl, ?_⟩
      rw [eqv_nilD]
      have bt9 := bt8.trans (But.of ze)
      have p9 := p8.same ze
      have hF9 := ze _ _ hF8
      have hS9 := ze _ _ hS
      have pc9 : Paired (fun u c => upd H8 ee (.lst []) u = some (.tup (crV c))) ts cs := Paired.mapP pc8 fun _ _ z => ze _ _ z
      have pb9 : Paired (GateAt (upd H8 ee (.lst []))) b8 g8 := Paired.mapP pb8 fun _ _ k => k.same ze
      have lst9 : ∀ ci cl, cs = ci ++ [cl] → (∀ x ∈ g8, x.1 ≠ cl.1 ∧ ∃ y ∈ x.2.1, conB gs (wrapsW gs) cl.2.2 y = true) ∧ ∃ (z : Addr) (zs : List Str), o6' = some (.ref z) ∧ upd H8 ee (.lst []) z = some (.lst (zs.map V.str)) ∧ z ≠ a ∧ ∀ s, s ∈ zs ↔ conB gs (wrapsW gs) cl.2.2 s = true := fun ci cl h => by
        obtain ⟨h1, z, zs, h2, h3, h4, h5⟩ := lst ci cl h
        exact ⟨h1, z, zs, h2, ze _ _ h3, h4, h5⟩
      generalize upd H8 ee (.lst []) = H9 at bt9 p9 hF9 hS9 pc9 pb9 lst9 ⊢
      have lst8n : ∀ ci cl, cs = ci ++ [cl] → ∀ x ∈ g8, x.1 ≠ cl.1 := fun ci cl h x hx => ((lst9 ci cl h).1 x hx).1
      clear bt8 p8 hF8 hS pc8 pb8 ze nee lst
      by_cases cb : g8 = []
      · rw [cb]
        exact ifF rfl ⟨_, _, _, _, _, _, _, ts, cs, b', rfl, bt9, p9, by omega, hF9, pc9, nm, by omega, tr, fr⟩
      refine ifT (by
        cases g8 with
        | nil => exact absurd rfl cb
        | cons _ _ => rfl) ?_
      have l89 := Paired.length pb9
      have lb0 : 0 < b8.length := by
        have := List.length_pos_iff.mpr cb
        omega
      refine ⟨_, rfl, _, rfl, .inl ⟨a, S, _, b8.map V.ref, rfl, p9, by omega, Sa, .inl (SqL.of hS9), by rw [List.length_map]; omega, by rw [List.length_map]; omega, fun H10 x10 b10 p10 hx10 => ?_⟩⟩
      obtain ⟨tg, htg, rfl⟩ := List.mem_map.mp hx10
      obtain ⟨i, hi⟩ := List.mem_iff_getElem?.mp htg
      obtain ⟨gg, hgg, hga⟩ := pair_at pb9 hi
      obtain ⟨ia, e1, e2⟩ := hga.but p9 b10
      have g8m := List.mem_of_getElem? hgg
      obtain ⟨gm, gw⟩ := gin gg g8m
      have gk := W.each gg gm
      refine ⟨tg, _, rfl, SqT.of e1, rfl, .str gg.1, _, rfl, .ref ia, _, rfl, .str gg.2.2, [], rfl, rfl, ?_⟩
      have bt10 := bt9.trans b10
      have hF10 := b10 _ _ Fa_a hF9
      have pc10 : Paired (fun u c => H10 u = some (.tup (crV c))) ts cs := Paired.mapP pc9 fun _ _ z => b10 _ _ (p9.ne_tup z) z
      have ghi := gk.hi
      have glo := gk.lo
      have lst10 : ∀ ci cl, cs = ci ++ [cl] → (∀ x ∈ g8, x.1 ≠ cl.1 ∧ ∃ y ∈ x.2.1, conB gs (wrapsW gs) cl.2.2 y = true) ∧ ∃ (z : Addr) (zs : List Str), o6' = some (.ref z) ∧ H10 z = some (.lst (zs.map V.str)) ∧ z ≠ a ∧ ∀ s, s ∈ zs ↔ conB gs (wrapsW gs) cl.2.2 s = true := fun ci cl h => by
        obtain ⟨h1, z, zs, h2, h3, h4, h5⟩ := lst9 ci cl h
        exact ⟨h1, z, zs, h2, b10 _ _ h4 h3, h4, h5⟩
      clear bt9 p9 hF9 hS9 pc9 pb9 b10 hx10 lst9 hga
      -- start
      refine use_seqR (fun σ' H' => ∃ st : Str, σ' = [some (.ref a), some (.ref wa), some (.int m), some (.ref Fa), some (.int ((0 : Int) + (j : Nat))), some (.ref S), o6', some (.str gg.1), some (.ref ia), some (.str gg.2.2), some (.str st), none, none] ∧ But a H10 H' ∧ PotAt H' a (b' + 1 + 1) ∧ st ∈ gg.2.1 ∧ ∀ ci cl, cs = ci ++ [cl] → conB gs (wrapsW gs) cl.2.2 st = true) (fun N hN => ?_) fun σ' H12 hG => ?_
      · refine ifS_byS (!decide (cs = [])) (fun Q hQ => ?_) fun H11 s11 => ?_
        · refine ⟨_, rfl, (by show 0 ≤ sizeLine; decide), fun ee nee => ?_⟩
          have ze := same_new nee (o := .lst [])
          refine ⟨_, _, .lst (SqL.of (ze _ _ hF10)) (dp_crs (Paired.mapP pc10 fun _ _ k => ze _ _ k)), .lst (SqL.of upd_same) .nil, shaped_crs nm, shaped_nil, _, rfl, ?_⟩
          rw [eqv_nilD]
          have := hQ _ ze
          cases cs with
          | nil => simpa using this
          | cons _ _ => simpa using this
        have p11 := p10.same s11
        have e211 := s11 _ _ e2
        rcases List.eq_nil_or_concat cs with ecs | ⟨ci, cl, hcl⟩
        · rw [decide_eq_true ecs]
          refine (if_neg (show ¬ (!true) = true by simp)).mpr ?_
          refine ⟨_, rfl, _, rfl, ia, gg.2.1.map V.str, rfl, .inr (SqT.of e211), fun l nl => ?_⟩
          have z := same_new nl (o := .lst (gg.2.1.map V.str))
          refine .inl ⟨a, l, _, gg.2.1.map V.str, rfl, p11.same z, by omega, Ne.symm (p11.ne_new nl), .inl (SqL.of upd_same), by rw [List.length_map]; omega, by rw [List.length_map]; omega, fun H12 x12 b12 p12 hx12 => ?_⟩
          obtain ⟨st, hst, rfl⟩ := List.mem_map.mp hx12
          exact hN _ _ ⟨st, rfl, (But.of s11).trans ((But.of z).trans b12), p12, hst, fun ci cl h => by rw [ecs] at h; simp at h⟩
        rw [List.concat_eq_append] at hcl
        rw [decide_eq_false (show ¬ cs = [] by rw [hcl]; simp)]
        refine (if_pos (show (!false) = true from rfl)).mpr ?_
        obtain ⟨gall, z, zs, rfl, hz, za, ex⟩ := lst10 ci cl hcl
        have hz11 := s11 _ _ hz
        refine ⟨_, rfl, _, rfl, ia, rfl, ⟨_, SqT.of e211⟩, fun D3 nD3 => lc_tup (K := K) (a := ia) (xs := gg.2.1.map V.str) (fun n H' => Same H11 H' ∧ H' D3 = some (.lst (((gg.2.1.take n).filter fun y => decide (y ∈ zs)).map V.str)))
          ⟨same_new nD3, upd_same⟩ (fun n H' _ ⟨s', _⟩ => SqT.of (s' _ _ e211)) (fun n v H13 hm' hP => ?_) fun H13 hP => ?_⟩
        · obtain ⟨s13, hD3⟩ := hP
          rw [List.getElem?_map] at hm'
          obtain ⟨y, hy, rfl⟩ := Option.map_eq_some_iff.mp hm'
          have tk : gg.2.1.take (n + 1) = gg.2.1.take n ++ [y] := by
            rw [List.take_add_one, hy]
            rfl
          refine ⟨rfl, _, rfl, _, rfl, z, zs, .str y, rfl, .inl (SqL.of (s13 _ _ hz11)), .str y, _, rfl, ?_⟩
          by_cases cy : y ∈ zs
          · refine ifT (decide_eq_true cy) ⟨_, rfl, _, hD3, ?_, ?_, ?_⟩
            · rw [List.length_map]
              exact Nat.lt_of_le_of_lt (Nat.le_trans (List.length_filter_le _ _) (show (gg.2.1.take n).length ≤ 10 by rw [List.length_take]; omega)) (by decide)
            · intro d o ed
              rw [upd_ne (ne_of_none ed nD3)]
              exact s13 _ _ ed
            · rw [upd_same, tk, List.filter_append, List.map_append]
              simp [cy]
          · refine ifF (decide_eq_false cy) ⟨s13, ?_⟩
            rw [hD3, tk, List.filter_append]
            simp [cy]
        obtain ⟨s13, hD3⟩ := hP
        rw [List.length_map, List.take_length] at hD3
        obtain ⟨_, y, y1, y2⟩ := gall gg g8m
        have pos : 0 < (gg.2.1.filter fun y => decide (y ∈ zs)).length := List.length_pos_of_mem (List.mem_filter.mpr ⟨y1, decide_eq_true ((ex y).mpr y2)⟩)
        have lfl : (gg.2.1.filter fun y => decide (y ∈ zs)).length ≤ 10 := Nat.le_trans (List.length_filter_le _ _) (by omega)
        refine .inl ⟨a, D3, _, (gg.2.1.filter fun y => decide (y ∈ zs)).map V.str, rfl, p11.same s13, by omega, Ne.symm (p11.ne_new nD3), .inl (SqL.of hD3), by rw [List.length_map]; exact pos, by rw [List.length_map]; omega, fun H12 x12 b12 p12 hx12 => ?_⟩
        obtain ⟨st, hst, rfl⟩ := List.mem_map.mp hx12
        obtain ⟨st1, st2⟩ := List.mem_filter.mp hst
        refine hN _ _ ⟨st, rfl, (But.of s11).trans ((But.of s13).trans b12), p12, st1, fun ci' cl' h => ?_⟩
        have : cl' = cl := by
          rw [hcl] at h
          have := List.append_inj_right' h rfl
          simpa using this.symm
        rw [this]
        exact (ex st).mp (of_decide_eq_true st2)
      obtain ⟨st, rfl, b12, p12, hst, hcon⟩ := hG
      have bt12 := bt10.trans b12
      have hF12 := b12 _ _ Fa_a hF10
      have pc12 : Paired (fun u c => H12 u = some (.tup (crV c))) ts cs := Paired.mapP pc10 fun _ _ z => b12 _ _ (p10.ne_tup z) z
      have e22 := b12 _ _ (p10.ne_tup e2) e2
      clear bt10 hF10 pc10 lst10 e1
      -- found.append((name, start, choice(..)))
      refine ⟨_, rfl, .inl ⟨rfl, _, SqL.of hF12⟩, _, rfl, _, rfl, _, rfl, _, rfl, ia, rfl, ⟨_, SqT.of e22⟩, fun D3 nD3 => lc_tup (K := K) (a := ia) (xs := gg.2.1.map V.str) (fun n H' => Same H12 H' ∧ H' D3 = some (.lst (((gg.2.1.take n).filter fun y => decide (y ≠ st)).map V.str)))
        ⟨same_new nD3, upd_same⟩ (fun n H' _ ⟨s', _⟩ => SqT.of (s' _ _ e22)) (fun n v H11 hm' hP => ?_) fun H11 hP => ?_⟩
      · obtain ⟨s11, hD3⟩ := hP
        rw [List.getElem?_map] at hm'
        obtain ⟨y, hy, rfl⟩ := Option.map_eq_some_iff.mp hm'
        have tk : gg.2.1.take (n + 1) = gg.2.1.take n ++ [y] := by
          rw [List.take_add_one, hy]
          rfl
        refine ⟨rfl, _, rfl, _, rfl, rfl, _, rfl, ?_⟩
        by_cases cy : y = st
        · refine ifF (by rw [decide_eq_true (congrArg V.str cy)]; rfl) ⟨s11, ?_⟩
          rw [hD3, tk, List.filter_append]
          simp [cy]
        · refine ifT (by rw [decide_eq_false fun z => cy (V.str.inj z)]; rfl) ⟨_, rfl, _, hD3, ?_, ?_, ?_⟩
          · rw [List.length_map]
            exact Nat.lt_of_le_of_lt (Nat.le_trans (List.length_filter_le _ _) (show (gg.2.1.take n).length ≤ 10 by rw [List.length_take]; omega)) (by decide)
          · intro d o ed
            rw [upd_ne (ne_of_none ed nD3)]
            exact s11 _ _ ed
          · rw [upd_same, tk, List.filter_append, List.map_append]
            simp [cy]
      obtain ⟨s11, hD3⟩ := hP
      rw [List.length_map, List.take_length] at hD3
      have pos := two_other (h := st) gk.nd gk.lo
      have lfl : (gg.2.1.filter fun y => decide (y ≠ st)).length ≤ 10 := Nat.le_trans (List.length_filter_le _ _) (by omega)
      have p11 := p12.same s11
      refine .inl ⟨a, D3, _, (gg.2.1.filter fun y => decide (y ≠ st)).map V.str, rfl, p11, by omega, Ne.symm (p12.ne_new nD3), .inl (SqL.of hD3), by rw [List.length_map]; exact pos, by rw [List.length_map]; omega, fun H13 x13 b13 p13 hx13 => ⟨(by show 3 ≤ sizeLine; decide), fun tc ntc => ?_⟩⟩
      obtain ⟨en, hen, rfl⟩ := List.mem_map.mp hx13
      obtain ⟨en1, en2⟩ := List.mem_filter.mp hen
      have zc := same_new ntc (o := .tup [.str gg.1, .str st, .str en])
      have b1213 := (But.of s11).trans b13
      have hF13 := zc _ _ (b1213 _ _ Fa_a hF12)
      have keepT : ∀ (c : Addr) (xs : List V) (o : HO), upd H13 tc (.tup [.str gg.1, .str st, .str en]) c = some (.tup xs) → upd (upd H13 tc (.tup [.str gg.1, .str st, .str en])) Fa o c = some (.tup xs) := fun c xs o e => by
        rw [upd_ne (ne_of e hF13 (by intro z; cases z))]
        exact e
      refine ⟨Fa, _, _, rfl, rfl, hF13, by rw [List.length_map]; exact Nat.lt_of_le_of_lt (show ts.length ≤ 200 by omega) (by decide), ?_⟩
      refine ⟨_, _, _, _, _, _, _, ts ++ [tc], cs ++ [(gg.1, st, en)], b' + 1 + 1 + 1, rfl, fun c o nc ec => ?_, WT.pot_upd (p13.same zc) (Ne.symm Fa_a), by omega, by rw [upd_same, List.map_append]; rfl, pair_snoc (Paired.mapP pc12 fun _ _ z => keepT _ _ _ (zc _ _ (b1213 _ _ (p12.ne_tup z) z))) (keepT _ _ _ upd_same), fun c hc => ?_, by rw [List.length_append, List.length_singleton]; omega, tr.snoc ?_ fun ci cl h => ?_, fun u hu => ?_⟩
      · rw [upd_ne (ne_of_none ec nF)]
        exact zc _ _ (b1213 _ _ nc (bt12 _ _ nc ec))
      · rcases List.mem_append.mp hc with hc | hc
        · exact nm c hc
        · rw [List.mem_singleton.mp hc]
          exact ⟨gk.nm, lo.nm _ (gk.sub _ hst), lo.nm _ (gk.sub _ en1)⟩
      · show crossD gs (.tuple [.str gg.1, .str st, .str en]) = true
        rw [cross_by W.nd gm rfl (mem_wraps.mpr ⟨gg, gm, gw, rfl⟩)]
        have m1 : isIn (.str st) gg.2.1 = true := decide_eq_true hst
        have m2 : isIn (.str en) gg.2.1 = true := decide_eq_true en1
        have ne : ¬ st = en := fun e => (of_decide_eq_true en2) e.symm
        have m3 : PyData.eqv (.str st) (.str en) = false := by
          rw [PyData.eqv]
          exact decide_eq_false ne
        unfold leadD
        rw [m1, m2, m3]
        rfl
      · show (!decide (cl.1 = gg.1) && conB gs (wrapsW gs) cl.2.2 st) = true
        rw [hcon ci cl h, decide_eq_false fun e => ((lst8n ci cl h) gg g8m) e.symm]
        rfl
      · rcases List.mem_append.mp hu with hu | hu
        · exact fr u hu
        · rw [List.mem_singleton.mp hu]
          exact but_free (bt12.trans b1213) (Ne.symm (p13.ne_new ntc)) ntc
    · obtain ⟨o4, o5, o6, o7, o8, o9, o10, ts, cs, b', rfl, bt3, p3, hb3, hF3, pc, nm, lc, tr, fr⟩ := hP
      have lm : cs.length ≤ m := by simpa using lc
      have bm : b' ≤ b + 3 * m := by simpa using hb3
      refine ⟨_, rfl, Fa, _, rfl, .inl ⟨SqL.of hF3, fun t1 n1 => ?_⟩⟩
      have y1 := same_new n1 (o := .tup (ts.map V.ref))
      exact q _ t1 cs b' (bt3.trans (.of y1)) (p3.same y1) (by omega) ⟨ts, but_free bt3 (Ne.symm (p3.ne_new n1)) n1, fr, upd_same, Paired.mapP pc fun _ _ z => y1 _ _ z⟩ nm (by omega) tr
end
end K35

set_option Elab.async false
set_option linter.all false
set_option maxRecDepth 100000
set_option maxHeartbeats 1000000
/-! what a text tells as a world, line by line. -/
namespace WT
open PySem PySem.Spec PyProof.Rows L2
abbrev nl : Str := "\n"
abbrev sp1c : Str := " "
/-- a gateway by the words of its line -/
def gwW : List Str → PyData
  | k :: n :: ms => .tuple [.str n, .tuple (ms.map PyData.str), .str k]
  | _ => .none
def gwD (l : Str) : PyData := gwW (Txt.split l sp1c)
/-- the lines of gateways, from that number on -/
def rdGo (rs : List Str) : Nat → List PyData → List Str → Nat ⊕ PyData
  | _, acc, [] => .inr (.tuple [.tuple (rs.map PyData.str), .tuple acc])
  | n, acc, l :: ls => if gatsD rs (.tuple (acc ++ [gwD l])) = true then rdGo rs (n + 1) (acc ++ [gwD l]) ls else .inl n
def rdHead (ws ls : List Str) : Nat ⊕ PyData := match ws with
  | [] => .inl 0
  | w :: rs => if w = "regions" ∧ regD (.tuple (rs.map PyData.str)) = true then rdGo rs 1 [] ls else .inl 0
def rdT (s : Str) : Nat ⊕ PyData := match Txt.split s nl with
  | [] => .inl 0
  | l :: ls => rdHead (Txt.split l sp1c) ls
def rdD : PyData → Nat ⊕ PyData
  | .str s => rdT s
  | _ => .inl 0
/-- how it is told -/
def toldD : Nat ⊕ PyData → PyData
  | .inl n => .tuple [.str "line", .int (n : Int)]
  | .inr d => .tuple [.str "returned", d]
theorem w_str (s : Str) : PyData.weight (.str s) = s.length := by
  rw [PyData.weight]
  rfl
theorem w_strs : ∀ ws : List Str, PyData.weightAll (ws.map PyData.str) = (ws.map (·.length)).sum + ws.length
  | [] => by
    rw [List.map_nil, w_nil]
    rfl
  | w :: ws => by
    rw [List.map_cons, w_cons, w_strs ws, w_str, List.map_cons, List.sum_cons, List.length_cons]
    omega
theorem w_none : PyData.weight .none ≤ 2 := by
  rw [PyData.weight]
  decide
theorem gw_wt (l : Str) : (gwD l).weight ≤ l.length + 3 := by
  have h := (split_wt l sp1c (by decide)).1
  unfold gwD
  generalize Txt.split l sp1c = ws at h
  match ws, h with
  | [], h => exact Nat.le_trans w_none (by omega)
  | [_], h => exact Nat.le_trans w_none (by omega)
  | k :: n :: ms, h =>
    show PyData.weight (.tuple [.str n, .tuple (ms.map PyData.str), .str k]) ≤ _
    rw [PyData.weight, w_cons, w_cons, w_cons, w_nil, w_str, w_str, PyData.weight, w_strs]
    simp only [List.map_cons, List.sum_cons, List.length_cons] at h
    omega
theorem gws_wt : ∀ ls : List Str, PyData.weightAll (ls.map gwD) ≤ (ls.map (·.length)).sum + 4 * ls.length
  | [] => by
    rw [List.map_nil, w_nil]
    exact Nat.zero_le _
  | l :: ls => by
    have h1 := gws_wt ls
    have h2 := gw_wt l
    rw [List.map_cons, w_cons, List.map_cons, List.sum_cons, List.length_cons]
    omega
theorem sum_take (ls : List Str) (j : Nat) : ((ls.take j).map (·.length)).sum ≤ (ls.map (·.length)).sum ∧ (ls.take j).length ≤ ls.length := by
  refine ⟨?_, by rw [List.length_take]; omega⟩
  have h : (ls.map (·.length)).sum = ((ls.take j).map (·.length)).sum + ((ls.drop j).map (·.length)).sum := by
    rw [← List.sum_append, ← List.map_append, List.take_append_drop]
  omega
/-- each line is no longer than all -/
theorem line_le {ls : List Str} {l : Str} (h : l ∈ ls) : l.length ≤ (ls.map (·.length)).sum := by
  induction ls with
  | nil => cases h
  | cons x ls ih =>
    rw [List.map_cons, List.sum_cons]
    rcases List.mem_cons.mp h with rfl | h
    · omega
    · have := ih h
      omega
/-! ### one gateway more -/
def lastS : List Str → Str
  | [] => ""
  | [x] => x
  | _ :: y :: r => lastS (y :: r)
def lastB (a : List Str) (n : Str) : Bool := match a with
  | [] => true
  | x :: r => decide ((lastS (x :: r)).cps.toList < n.cps.toList)
theorem adj_snoc (n : Str) : ∀ a : List Str, adjB (a ++ [n]) = (adjB a && lastB a n)
  | [] => rfl
  | [x] => by
    show (decide (x.cps.toList < n.cps.toList) && true) = (true && decide (x.cps.toList < n.cps.toList))
    simp
  | x :: y :: r => by
    show (decide (x.cps.toList < y.cps.toList) && adjB ((y :: r) ++ [n])) = ((decide (x.cps.toList < y.cps.toList) && adjB (y :: r)) && lastB (y :: r) n)
    rw [adj_snoc n (y :: r), Bool.and_assoc]
theorem heads (gs : List Gt) : txts ((gs.map gateD).map headD) = gs.map (·.1) := by
  rw [List.map_map, ← txts_strs (gs.map (·.1)), List.map_map]
  rfl
theorem gats_snoc {rs : List Str} {gs : List Gt} (g : Gt) (h : gatsD rs (.tuple (gs.map gateD)) = true) : gatsD rs (.tuple (gs.map gateD ++ [gateD g])) = (decide (gs.length < 10) && (gatD rs (gateD g) && lastB (gs.map (·.1)) g.1)) := by
  have h0 : (decide ((gs.map gateD).length ≤ 10) && (((gs.map gateD).map (gatD rs)).all id && adjB (txts ((gs.map gateD).map headD)))) = true := h
  rw [Bool.and_eq_true, Bool.and_eq_true] at h0
  obtain ⟨_, h2, h3⟩ := h0
  show (decide ((gs.map gateD ++ [gateD g]).length ≤ 10) && (((gs.map gateD ++ [gateD g]).map (gatD rs)).all id && adjB (txts ((gs.map gateD ++ [gateD g]).map headD)))) = _
  have e1 : txts ((gs.map gateD ++ [gateD g]).map headD) = gs.map (·.1) ++ [g.1] := by
    have := heads (gs ++ [g])
    rw [show (gs ++ [g]).map gateD = gs.map gateD ++ [gateD g] from List.map_append .., show (gs ++ [g]).map (·.1) = gs.map (·.1) ++ [g.1] from List.map_append ..] at this
    exact this
  have e2 : decide ((gs.map gateD ++ [gateD g]).length ≤ 10) = decide (gs.length < 10) := by
    rw [List.length_append, List.length_map, List.length_singleton]
    exact decide_eq_decide.mpr (by omega)
  rw [heads] at h3
  rw [e1, e2, adj_snoc, h3, List.map_append, List.all_append, h2, Bool.true_and, Bool.true_and]
  show (_ && ((gatD rs (gateD g) && true) && _)) = _
  rw [Bool.and_true]
/-- the law's own way to say that a line fits -/
def fit1 (gs : List Gt) (k n : Str) (ms : List Str) : Bool := decide (3 < ms.length + 2) && (isIn (.str k) kinds2 && (nmB n && decide ((lastS (gs.map (·.1))).cps.toList < n.cps.toList)))
def fit2 (gs : List Gt) (k n : Str) (ms : List Str) : Bool := fit1 gs k n ms && (decide (gs.length < 10) && namD 2 10 (.tuple (ms.map PyData.str)))
theorem last_name {gs : List Gt} {n : Str} : (nmB n && decide ((lastS (gs.map (·.1))).cps.toList < n.cps.toList)) = (nmB n && lastB (gs.map (·.1)) n) := by
  cases h : nmB n with
  | false => rfl
  | true =>
    cases gs with
    | nil =>
      show (true && decide (([] : List Nat) < n.cps.toList)) = true
      unfold nmB at h
      rw [Bool.and_eq_true] at h
      have l := (of_decide_eq_true h.1).1
      cases e : n.cps.toList with
      | nil =>
        have : n.cps.size = 0 := by
          rw [← Array.length_toList, e]
          rfl
        omega
      | cons a r => rw [decide_eq_true (List.nil_lt_cons a r)]; rfl
    | cons g gs => rfl
theorem fits_eq {rs : List Str} {gs : List Gt} (hn : ∀ s ∈ rs, nmB s = true) (hl : rs.length ≤ 10) (h : gatsD rs (.tuple (gs.map gateD)) = true) (k n : Str) (ms : List Str) :
    gatsD rs (.tuple (gs.map gateD ++ [gateD (n, ms, k)])) = (fit2 gs k n ms && ((ms.map PyData.str).map fun d => isIn d rs).all id) := by
  rw [gats_snoc _ h]
  show (decide (gs.length < 10) && ((nmB n && (memD rs (.tuple (ms.map PyData.str)) && isIn (.str k) kinds2)) && lastB (gs.map (·.1)) n)) = _
  have e := nam_mem hn hl (.tuple (ms.map PyData.str))
  rw [show partsD (.tuple (ms.map PyData.str)) = ms.map PyData.str from rfl] at e
  rw [← e]
  unfold fit2 fit1
  rw [last_name]
  have m2 : namD 2 10 (.tuple (ms.map PyData.str)) = true → decide (3 < ms.length + 2) = true := fun z => by
    have z : (decide (2 ≤ (ms.map PyData.str).length ∧ (ms.map PyData.str).length ≤ 10) && _) = true := z
    rw [Bool.and_eq_true, List.length_map] at z
    have := (of_decide_eq_true z.1).1
    exact decide_eq_true (by omega)
  cases m : namD 2 10 (.tuple (ms.map PyData.str)) with
  | false => simp
  | true =>
    rw [m2 m]
    generalize decide (gs.length < 10) = c
    generalize lastB (gs.map (·.1)) n = l
    generalize isIn (.str k) kinds2 = i
    generalize ((ms.map PyData.str).map fun d => isIn d rs).all id = al
    generalize nmB n = b
    cases c <;> cases l <;> cases i <;> cases al <;> cases b <;> rfl
theorem fits_few {rs : List Str} {acc : List PyData} {ws : List Str} (h : ws.length ≤ 3) : gatsD rs (.tuple (acc ++ [gwW ws])) = false := by
  have g : gatD rs (gwW ws) = false := by
    match ws, h with
    | [], _ => rfl
    | [_], _ => rfl
    | [k, n], _ =>
      show (nmB n && (memD rs (.tuple []) && isIn (.str k) kinds2)) = false
      rw [show memD rs (.tuple []) = false from rfl]
      simp
    | [k, n, m], _ =>
      show (nmB n && (memD rs (.tuple [.str m]) && isIn (.str k) kinds2)) = false
      rw [show memD rs (.tuple [.str m]) = false from rfl]
      simp
  show (decide ((acc ++ [gwW ws]).length ≤ 10) && (((acc ++ [gwW ws]).map (gatD rs)).all id && adjB (txts ((acc ++ [gwW ws]).map headD)))) = false
  have e : ((acc ++ [gwW ws]).map (gatD rs)).all id = false := by
    rw [List.map_append, List.all_append, show ([gwW ws].map (gatD rs)).all id = (gatD rs (gwW ws) && true) from rfl, g]
    simp
  rw [e]
  simp
/-! ### what is told can be shown -/
theorem kind_asc {k : Str} (h : isIn (.str k) kinds2 = true) : Asc k := by
  have h := of_decide_eq_true h
  rcases List.mem_cons.mp h with rfl | h
  · exact asc_nm nm_wrap
  · rw [List.mem_singleton.mp h]
    exact asc_nm nm_open
end WT

set_option Elab.async false
set_option linter.all false
set_option maxRecDepth 100000
set_option maxHeartbeats 1000000
namespace K35
open PySem PySem.Spec PyProof.Rows L2 WT
abbrev st_odd : Stmt := top 27
theorem sc_odd : FnScope ["_law_draws_here", "_law_world_here", "_law_value", "_law_names", "_law_some", "_law_one"] ["_law_draws_here", "_law_world_here", "_law_value"] (defScope st_odd) := ⟨rfl, rfl, rfl, by decide +kernel, rfl, by decide +kernel, by decide +kernel⟩
theorem te_useNm {t : TE} {σ : L2.St} {H : Hp} {k : VK} (G : List Str → Prop) (ht : ∀ k : VK, (∀ L ns H', Same H H' → H L = none → H' L = some (.lst (ns.map V.str)) → G ns → k (.ref L) H') → t σ H k) (hk : ∀ L ns H', Same H H' → H L = none → H' L = some (.lst (ns.map V.str)) → G ns → k (.ref L) H') : t σ H k := ht k hk
section
variable {P : Program} {w : World} {K : PySem.W.Frag} {mg : Str → Option Value} {base : Heap} {f fO : Addr} {fd fdO : FuncData}
/-- odd(draws, world, value): something near a value -/
def spOdd (K : PySem.W.Frag) : Sp := fun vs H Q _ => ∃ (S : Addr → Bool) (a wa r g : Addr) (as : List Addr) (rs : List Str) (gs : List Gt) (b : Nat) (v : V) (d : PyData), vs = [.ref a, .ref wa, v] ∧ S a = true ∧ Live S H ∧ PotAt H a b ∧ b ≤ 90000 ∧ WorldAt H wa r g as rs gs ∧ MapOk rs gs ∧ Off K S H v d ∧ Nr d ∧ d.weight ≤ 6000 ∧
  ∀ H' x e, But a H H' → PotAt H' a (b + 3) → Off K S H' x e → Near d e → Q x H'
theorem ok_odd (F : Fun K "_law_odd" "_law_odd" st_odd f fd) (B : Blt mg) (hisi : mg "isinstance" = none) (F_choice : Df P w K mg base "_law_choice" 2 fO fdO ["_law_draws_here", "_law_some"] (spPick K)) : FnG P w K mg base CX0 3 f fd ["_law_draws_here", "_law_world_here", "_law_value"] (spOdd K) := by
  refine okG F sc_odd (fun vs H Q E h => ?_) (fun cdv A outer s H vs Q E hgd hr h => ?_)
  · obtain ⟨_, _, _, _, _, _, _, _, _, _, _, rfl, _⟩ := h
    rfl
  · obtain ⟨S, a, wa, r, g, as, rs, gs, b, v, d, rfl, hSa, lv, hp, hb, hw, W, hv, nd, wd, q⟩ := h
    refine ⟨_, (pss_cons (ps_set (i := 3) sc_odd.nd rfl (.inl rfl) (pe_op op_cat (pe_op op_cat (pe_lc (own := [("_law_one", 5)]) (by rfl) sc_odd.nd (pi_tup (pe_ix ix_tup (pv 1) pe_int (fun _ _ => rfl))) (blkOk_by (own := [("_law_one", 5)]) (N := ["_law_draws_here", "_law_world_here", "_law_value", "_law_names", "_law_some", "_law_one"]) (sc := defScope st_odd) (by decide +kernel)) (fun _ _ _ _ _ => (pg_name (i := 5) sc_odd.nd rfl (.inl rfl))) (fun _ _ _ _ _ => pts_nil) (fun _ _ _ _ _ => (pe_ix (ix_tupK (K := K)) (pv 5) pe_int (fun _ _ => rfl)))) (pe_callTy call_list_of (by rfl) B.list (by decide +kernel) (pa_cons (pe_ix ix_tup (pv 1) pe_int (fun _ _ => rfl)) pa_nil))) (pe_lst (pa_cons pe_str (pa_cons pe_str pa_nil)))))
      (pss_cons (ps_set (i := 4) sc_odd.nd rfl (.inl rfl) (pe_lst (pa_cons pe_non (pa_cons pe_bl (pa_cons pe_int (pa_cons (pe_tup pa_nil) (pa_cons (pe_lst pa_nil) (pa_cons pe_dnewK (pa_cons pe_str (pa_cons (pe_callG hgd F_choice.G (hr.mono (by decide)) (by rfl) F_choice.g F_choice.kp F_choice.bd pass0 (pa_cons (pv 0) (pa_cons (pv 3) pa_nil))) (pa_cons (pe_callG hgd F_choice.G (hr.mono (by decide)) (by rfl) F_choice.g F_choice.kp F_choice.bd pass0 (pa_cons (pv 0) (pa_cons (pv 3) pa_nil))) pa_nil)))))))))))
      (pss_cons (ps_if (pt_val (pe_callB (call_isiA (K := K)) (by rfl) hisi (by decide +kernel) (pa_cons (pv 2) (pa_cons (pe_bltn (v := .ty "tuple") (by rfl) B.tuple (by decide +kernel) rfl) pa_nil))))
       (pss_one (ps_set (i := 4) sc_odd.nd rfl (.inl rfl) (pe_op op_cat (pe_slice sl_list (pv 4) po_none (po_some pe_int)) (pe_op op_rep (pe_lst (pa_cons (pe_callTy call_list_of (by rfl) B.list (by decide +kernel) (pa_cons (pv 2) pa_nil)) (pa_cons (pe_slice sl_tupA (pv 2) po_none (po_some (pe_un un_neg pe_int))) (pa_cons (pe_slice sl_tupA (pv 2) (po_some pe_int) po_none) (pa_cons (pe_slice3 (-1) (by decide) (by decide) (pv 2) po_none po_none (pe_un un_neg pe_int)) (pa_cons (pe_op op_catA (pv 2) (pe_slice sl_tupA (pv 2) (po_some (pe_un un_neg pe_int)) po_none)) (pa_cons (pe_op op_catA (pv 2) (pe_tup (pa_cons pe_str pa_nil))) pa_nil))))))) pe_int))))
       pss_nil)
      (pss_one (ps_ret (pe_callG hgd F_choice.G (hr.mono (by decide)) (by rfl) F_choice.g F_choice.kp F_choice.bd pass0 (pa_cons (pv 0) (pa_cons (pv 4) pa_nil)))))))), ?_⟩
    have hlen := Paired.length hw.each
    have lgs := W.lg
    obtain ⟨nr, _, nr10, lo⟩ := W.reg
    have lrs := lo.len
    have big : (200002 : Nat) ≤ sizeLine := by decide
    -- names
    refine seq_asg (te_useNm (fun ns => (∀ s ∈ ns, Asc s ∧ s.length ≤ 8) ∧ 0 < ns.length ∧ ns.length ≤ 30) (fun k hk => ?_) fun Ln ns H1 s1 nLn hLn gns => ?_)
    · refine ⟨_, rfl, wa, _, 1, .ref g, rfl, rfl, SqT.of hw.top, atI_nat (j := 1) rfl, g, rfl, ⟨_, SqT.of hw.gat⟩, fun D nD => lc_tx (walk_tup (xs := as.map V.ref)) (gs.map (·.1)) (by rw [List.length_map, List.length_map]; exact hlen.symm) (by rw [List.length_map]; omega) nD (fun H s => SqT.of (s _ _ hw.gat)) (fun i x c H2 H3 k e hc s2 hY hk => ?_) fun H2 s2 hD => ?_⟩
      · obtain ⟨rfl, hx⟩ := hY
        rw [List.getElem?_map] at hx hc
        obtain ⟨t, ht, rfl⟩ := Option.map_eq_some_iff.mp hx
        obtain ⟨gg, hgg, ia, e1, e2⟩ := pair_at (hw.same s2).each ht
        rw [hgg] at hc
        cases hc
        exact ⟨rfl, _, rfl, t, _, 0, .str gg.1, rfl, rfl, SqT.of e1, atI_nat (j := 0) rfl, hk _ fun _ _ e => e⟩
      have hw2 := hw.same s2
      refine ⟨_, rfl, wa, _, 0, .ref r, rfl, rfl, SqT.of hw2.top, atI_nat (j := 0) rfl, r, _, rfl, .inr (SqT.of hw2.reg), fun l nl => ?_⟩
      have zl := same_new nl (o := .lst (rs.map V.str))
      refine ⟨D, l, _, _, rfl, rfl, zl _ _ hD, upd_same, by rw [List.length_map, List.length_map, List.length_map]; omega, fun c nc => ?_⟩
      have zc := same_new nc (o := .lst ((gs.map (·.1)).map V.str ++ rs.map V.str))
      have hc : upd (upd H2 l (.lst (rs.map V.str))) c (.lst ((gs.map (·.1)).map V.str ++ rs.map V.str)) c = some (.lst ((gs.map (·.1)).map V.str ++ rs.map V.str)) := upd_same
      refine ⟨(by show 2 ≤ sizeLine; decide), fun l2 nl2 => ?_⟩
      have z2 := same_new nl2 (o := .lst [.str "none", .str ""])
      have zz := (zl.trans zc).trans z2
      refine ⟨c, l2, _, _, rfl, rfl, z2 _ _ hc, upd_same, by rw [List.length_append, List.length_map, List.length_map, List.length_map]; show gs.length + rs.length + 2 ≤ sizeLine; omega, fun M nM => ?_⟩
      refine hk M (gs.map (·.1) ++ rs ++ (["none", ""] : List Str)) _ ((s2.trans zz).trans (same_new nM)) ?_ ?_ ⟨fun s hs => ?_, by simp; omega, by rw [List.length_append, List.length_append, List.length_map]; show gs.length + rs.length + 2 ≤ 30; omega⟩
      · exact (s2.trans zz).free nM
      · rw [upd_same, List.map_append, List.map_append]
        rfl
      · rcases List.mem_append.mp hs with h | h
        · rcases List.mem_append.mp h with h | h
          · obtain ⟨g0, hg0, rfl⟩ := List.mem_map.mp h
            have k := (W.each g0 hg0).nm
            exact ⟨asc_nm k, k.len⟩
          · exact ⟨asc_nm (lo.nm s h), (lo.nm s h).len⟩
        · simp only [List.mem_cons, List.not_mem_nil, or_false] at h
          rcases h with rfl | rfl
          · exact ⟨by unfold Asc; decide +kernel, by decide +kernel⟩
          · exact ⟨by unfold Asc; decide +kernel, by decide +kernel⟩
    have hp1 := hp.same s1
    have hw1 := hw.same s1
    replace hv := hv.same s1
    have lv1 := lv.same s1
    have asc_a : Asc "a" := by unfold Asc; decide +kernel
    -- some = [..]
    refine ⟨(by show 0 ≤ sizeLine; decide), fun t0 n0 => ?_⟩
    have z0 := same_new n0 (o := .tup [])
    have a0 : TupD K S _ t0 [] [] := TupD.new lv1 n0 .nil
    generalize upd H1 t0 (.tup []) = H2 at z0 a0 ⊢
    refine ⟨(by show 0 ≤ sizeLine; decide), fun l0 n1 => ?_⟩
    have z1 := same_new n1 (o := .lst [])
    have a1 : Off K S _ (.ref l0) (.list []) := off_lst (lv1.same z0) n1 .nil
    replace a0 := (a0.same z1).off
    replace z1 := z0.trans z1
    generalize upd H2 l0 (.lst []) = H3 at z1 a0 a1 ⊢
    refine fun d0 n2 => ?_
    have z2 := same_new n2 (o := .dK [])
    have a2 : Off K S _ (.ref d0) (.dict []) := off_dic (lv1.same z1) n2
    replace a0 := a0.same z2
    replace a1 := a1.same z2
    replace z2 := z1.trans z2
    generalize upd H3 d0 (.dK []) = H4 at z2 a0 a1 a2 ⊢
    have hLn4 := z2 _ _ hLn
    have p4 := hp1.same z2
    have Lna : Ln ≠ a := by
      obtain ⟨_, _, _, h, _⟩ := hp
      exact Ne.symm (ne_of_none h nLn)
    refine ⟨_, rfl, _, rfl, .inl ⟨a, Ln, b, ns.map V.str, rfl, p4, by omega, Lna, .inl (SqL.of hLn4), by rw [List.length_map]; exact gns.2.1, by rw [List.length_map]; have := gns.2.2; omega, fun H5 x5 b5 p5 hx5 => ?_⟩⟩
    obtain ⟨y5, hy5, rfl⟩ := List.mem_map.mp hx5
    have hLn5 := b5 _ _ Lna hLn4
    refine ⟨_, rfl, _, rfl, .inl ⟨a, Ln, b + 1, ns.map V.str, rfl, p5, by omega, Lna, .inl (SqL.of hLn5), by rw [List.length_map]; exact gns.2.1, by rw [List.length_map]; have := gns.2.2; omega, fun H6 x6 b6 p6 hx6 => ?_⟩⟩
    obtain ⟨y6, hy6, rfl⟩ := List.mem_map.mp hx6
    have b46 := b5.trans b6
    have bt6 : But a H H6 := (But.of (s1.trans z2)).trans b46
    have lv6 := pot_live lv bt6 p6
    replace a0 := a0.but hSa b46
    replace a1 := a1.but hSa b46
    replace a2 := a2.but hSa b46
    replace hv := (hv.same z2).but hSa b46
    have hw6 := hw.but hp bt6
    refine ⟨(by show 9 ≤ sizeLine; decide), fun L nL => ?_⟩
    have sL := same_new nL (o := .lst [.non, .bl true, .int 0, .ref t0, .ref l0, .ref d0, .str "a", .str y5, .str y6])
    have nstr : ∀ y ∈ ns, Near d (.str y) := fun y hy => near_small ⟨.str _ (gns.1 y hy).1, by rw [w_str]; have := (gns.1 y hy).2; omega, by rw [PyData.depth]; decide⟩
    have C : Cand K S H6 d [.non, .bl true, .int 0, .ref t0, .ref l0, .ref d0, .str "a", .str y5, .str y6] :=
      .cons .non (near_small ⟨.non, by decide +kernel, by decide +kernel⟩) <| .cons (.bl _) (near_small ⟨.bl _, by decide +kernel, by decide +kernel⟩) <|
      .cons (.int _) (near_small ⟨.int _ (by decide +kernel) (by decide +kernel), by decide +kernel, by decide +kernel⟩) <|
      .cons a0 (near_small ⟨.tup _ fun _ h => absurd h List.not_mem_nil, by decide +kernel, by decide +kernel⟩) <| .cons a1 (near_small ⟨.lst _ fun _ h => absurd h List.not_mem_nil, by decide +kernel, by decide +kernel⟩) <| .cons a2 (near_small ⟨.dic, by decide +kernel, by decide +kernel⟩) <|
      .cons (.str _) (near_small ⟨.str _ asc_a, by decide +kernel, by decide +kernel⟩) <| .cons (.str _) (nstr y5 hy5) <| .cons (.str _) (nstr y6 hy6) .nil
    have C3 : Cand K S H6 d [.non, .bl true, .int 0] :=
      .cons .non (near_small ⟨.non, by decide +kernel, by decide +kernel⟩) <| .cons (.bl _) (near_small ⟨.bl _, by decide +kernel, by decide +kernel⟩) <|
      .cons (.int _) (near_small ⟨.int _ (by decide +kernel) (by decide +kernel), by decide +kernel, by decide +kernel⟩) .nil
    replace C := C.same sL
    replace C3 := C3.same sL
    have hL : upd H6 L (.lst [.non, .bl true, .int 0, .ref t0, .ref l0, .ref d0, .str "a", .str y5, .str y6]) L = some (.lst [.non, .bl true, .int 0, .ref t0, .ref l0, .ref d0, .str "a", .str y5, .str y6]) := upd_same
    have p7 := p6.same sL
    have bt7 := bt6.trans (.of sL)
    have lv7 := lv6.same sL
    replace hv := hv.same sL
    have La : L ≠ a := Ne.symm (p6.ne_new nL)
    generalize upd H6 L (.lst [.non, .bl true, .int 0, .ref t0, .ref l0, .ref d0, .str "a", .str y5, .str y6]) = H7 at C C3 hL p7 bt7 lv7 hv ⊢
    obtain ⟨cs, ecs⟩ : ∃ cs : List V, cs = [.non, .bl true, .int 0, .ref t0, .ref l0, .ref d0, .str "a", .str y5, .str y6] := ⟨_, rfl⟩
    have lcs : cs.length = 9 := by rw [ecs]; rfl
    have tcs : cutV cs none (some 3) = [.non, .bl true, .int 0] := by rw [ecs]; rfl
    rw [← ecs] at C hL
    clear ecs a0 a1 a2 n0 n1 n2 z0 z1 z2 sL hw6 b46 b5 b6 p4 p5 p6 bt6 lv6 hx5 hx6
    have fin : ∀ (H' : Hp) (M : Addr) (xs : List V), Same H7 H' → M ≠ a → H' M = some (.lst xs) → Cand K S H' d xs → 0 < xs.length → xs.length ≤ 20000 → spPick K [.ref a, .ref M] H' (fun x H2 => Q x H2) E0 := fun H' M xs s n hL c l0 l1 =>
      .inl ⟨a, M, b + 1 + 1, xs, rfl, p7.same s, by omega, n, .inl (SqL.of hL), l0, l1, fun H2 x bt pt hx => by
        obtain ⟨e, h1, h2⟩ := c x hx
        exact q H2 x e (bt7.trans ((But.of s).trans bt)) pt (h1.but hSa bt) h2⟩
    refine ⟨_, rfl, v, "tuple", d, isTup d, rfl, hv.dt, kit_tuple d, _, rfl, ?_⟩
    by_cases ct : isTup d = true
    rotate_left
    · refine ifF (Bool.eq_false_iff.mpr ct) ?_
      exact ⟨_, rfl, _, rfl, fin H7 L cs (fun _ _ e => e) La hL C (by omega) (by omega)⟩
    obtain ⟨ds, rfl⟩ : ∃ ds, d = .tuple ds := by
      cases d <;> first | exact ⟨_, rfl⟩ | cases ct
    obtain ⟨p, xs, rfl, hT⟩ := off_tup hv
    refine ifT rfl ?_
    have nds : SmA (PyData.weightAll ds) (PyData.depthAll ds) ds := ⟨by cases nd; assumption, Nat.le_refl _, Nat.le_refl _⟩
    have lx := hT.all.length
    have wl := w_len ds
    rw [PyData.weight] at wd
    clear hv C
    -- some[:3]
    refine ⟨_, rfl, 3, rfl, L, _, rfl, SqL.of hL, fun L3 m3 => ?_⟩
    rw [tcs]
    have y0 := same_new m3 (o := .lst [.non, .bl true, .int 0])
    have hL3 : upd H7 L3 (.lst [.non, .bl true, .int 0]) L3 = some (.lst [.non, .bl true, .int 0]) := upd_same
    have L3a : L3 ≠ a := Ne.symm (p7.ne_new m3)
    replace C3 := C3.same y0
    replace hT := hT.same y0
    have sL := y0
    generalize upd H7 L3 (.lst [.non, .bl true, .int 0]) = HL at sL hL3 C3 hT ⊢
    -- list(value)
    refine ⟨_, rfl, p, xs, rfl, .inr hT.st, fun q1 m1 => ?_⟩
    have z1 := same_new m1 (o := .lst xs)
    have c1 : Off K S _ (.ref q1) (.list ds) := off_lst (lv7.same sL) m1 hT.all
    replace hT := hT.same z1
    replace C3 := C3.same z1
    replace hL3 := z1 _ _ hL3
    replace sL := sL.trans z1
    generalize upd HL q1 (.lst xs) = G1 at hT C3 hL3 sL c1 ⊢
    -- value[:-1]
    refine ⟨_, rfl, 1, rfl, -1, rfl, sl_any (lv7.same sL) hT fun q3 G3 z3 c3 => ?_⟩
    replace c3 := c3.off
    replace hT := hT.same z3
    replace C3 := C3.same z3
    replace hL3 := z3 _ _ hL3
    replace sL := sL.trans z3
    replace c1 := c1.same z3
    -- value[1:]
    refine ⟨_, rfl, 1, rfl, sl_lo (lv7.same sL) hT fun q2 G2 z2 c2 => ?_⟩
    replace c2 := c2.off
    replace hT := hT.same z2
    replace C3 := C3.same z2
    replace hL3 := z2 _ _ hL3
    replace sL := sL.trans z2
    replace c1 := c1.same z2
    replace c3 := c3.same z2
    -- value[::-1]
    refine ⟨_, rfl, 1, rfl, p, xs, rfl, rfl, hT.st, (by rw [step_rev, List.length_reverse]; omega), ?_⟩
    rw [step_rev]
    refine fun q6 m6 => ?_
    have z6 := same_new m6 (o := .tup xs.reverse)
    have c6 : Off K S _ (.ref q6) (.tuple ds.reverse) := (TupD.new (lv7.same sL) m6 (dt_rev hT.all)).off
    replace hT := hT.same z6
    replace C3 := C3.same z6
    replace hL3 := z6 _ _ hL3
    replace sL := sL.trans z6
    replace c1 := c1.same z6
    replace c2 := c2.same z6
    replace c3 := c3.same z6
    generalize upd G2 q6 (.tup xs.reverse) = G6 at hT C3 hL3 sL c1 c2 c3 c6 ⊢
    -- value + value[-1:]
    refine ⟨_, rfl, _, rfl, 1, rfl, -1, rfl, sl_lo (lv7.same sL) hT fun q4 G4 z4 c4 => ?_⟩
    replace hT := hT.same z4
    replace C3 := C3.same z4
    replace hL3 := z4 _ _ hL3
    replace sL := sL.trans z4
    replace c1 := c1.same z4
    replace c2 := c2.same z4
    replace c3 := c3.same z4
    replace c6 := c6.same z4
    refine cat_any (lv7.same sL) hT c4 (by have := cutV_length xs (some (-1)) none; omega) fun q5 G5 z5 c5 => ?_
    replace c5 := c5.off
    replace hT := hT.same z5
    replace C3 := C3.same z5
    replace hL3 := z5 _ _ hL3
    replace sL := sL.trans z5
    replace c1 := c1.same z5
    replace c2 := c2.same z5
    replace c3 := c3.same z5
    replace c6 := c6.same z5
    -- value + ("a",)
    refine ⟨_, rfl, (by show 1 ≤ sizeLine; decide), fun q7 m7 => ?_⟩
    have z7 := same_new m7 (o := .tup [.str "a"])
    have c7 : TupD K S _ q7 [.str "a"] [.str "a"] := TupD.new (lv7.same sL) m7 (.cons (.str _) .nil)
    replace hT := hT.same z7
    replace C3 := C3.same z7
    replace hL3 := z7 _ _ hL3
    replace sL := sL.trans z7
    replace c1 := c1.same z7
    replace c2 := c2.same z7
    replace c3 := c3.same z7
    replace c5 := c5.same z7
    replace c6 := c6.same z7
    generalize upd G5 q7 (.tup [.str "a"]) = G7 at hT C3 hL3 sL c1 c2 c3 c5 c6 c7 ⊢
    refine cat_any (lv7.same sL) hT c7 (by show xs.length + 1 ≤ sizeLine; omega) fun q8 G8 z8 c8 => ?_
    replace c8 := c8.off
    replace C3 := C3.same z8
    replace hL3 := z8 _ _ hL3
    replace sL := sL.trans z8
    replace c1 := c1.same z8
    replace c2 := c2.same z8
    replace c3 := c3.same z8
    replace c5 := c5.same z8
    replace c6 := c6.same z8
    have sa : Sm 1 0 (.str "a") := ⟨.str _ asc_a, by decide +kernel, by decide +kernel⟩
    have D : Cand K S G8 (.tuple ds) [.ref q1, .ref q3, .ref q2, .ref q6, .ref q5, .ref q8] :=
      .cons c1 (near_lst (nds.mono (by omega) (by omega))) <| .cons c3 (near_tup ((nds.cut _ _).mono (by omega) (by omega))) <| .cons c2 (near_tup ((nds.cut _ _).mono (by omega) (by omega))) <|
      .cons c6 (near_tup (nds.rev.mono (by omega) (by omega))) <| .cons c5 (near_tup ((nds.app (nds.cut _ _)).mono (by omega) (by omega))) <| .cons c8 (near_tup ((nds.app ((SmA.one sa).mono (Nat.le_refl _) (Nat.zero_le _))).mono (by omega) (by omega))) .nil
    refine ⟨(by show 6 ≤ sizeLine; decide), fun M nM => ?_⟩
    have z9 := same_new nM (o := .lst [.ref q1, .ref q3, .ref q2, .ref q6, .ref q5, .ref q8])
    refine ⟨M, 2, _, rfl, rfl, upd_same, by decide, by decide, (by show 12 ≤ sizeLine; decide), fun R nR => ?_⟩
    have z10 := same_new nR (o := .lst (List.replicate (2 : Int).toNat [V.ref q1, .ref q3, .ref q2, .ref q6, .ref q5, .ref q8]).flatten)
    replace D := (D.rep (2 : Int).toNat).same (z9.trans z10)
    replace C3 := C3.same (z9.trans z10)
    replace hL3 := z10 _ _ (z9 _ _ hL3)
    replace sL := sL.trans (z9.trans z10)
    refine ⟨L3, R, _, _, rfl, rfl, hL3, upd_same, (by show 3 + 12 ≤ sizeLine; decide), fun W' nW => ?_⟩
    have Wa : W' ≠ a := Ne.symm ((p7.same sL).ne_new nW)
    have z11 := same_new nW (o := .lst ([.non, .bl true, .int 0] ++ (List.replicate (2 : Int).toNat [V.ref q1, .ref q3, .ref q2, .ref q6, .ref q5, .ref q8]).flatten))
    exact ⟨_, rfl, _, rfl, fin _ W' _ (sL.trans z11) Wa upd_same ((C3.app D).same z11) (by show 0 < 15; decide) (by show 15 ≤ 20000; decide)⟩
end
end K35

set_option Elab.async false
set_option linter.all false
set_option maxRecDepth 100000
/-! a tuple of anything == (). -/
namespace WT
open PySem PySem.Spec PyProof.Rows L2
def rEq0 (K : PySem.W.Frag) : R2 := fun x y H Q => ∃ (a b : Addr) (xs : List V), x = .ref a ∧ y = .ref b ∧ SqT K H a xs ∧ SqT K H b [] ∧ Q (.bl xs.isEmpty) H
theorem op_eq0 {X : Cx} {K : PySem.W.Frag} (hu : X.A.units + 64 < cLine) (hK : X.K = K := by rfl) : OpR X (compareOp .Eq) (rEq0 K) := by
  subst hK
  intro pins s σ H x y v u Q I rx ry h
  obtain ⟨a, b, xs, rfl, rfl, ha, hb, q⟩ := h
  cases rx
  cases ry
  obtain ⟨its, r1, pl, _⟩ := I.tuple ha
  obtain ⟨its2, r2, pl2, _⟩ := I.tuple hb
  cases r2
  have e := Vals.length r1
  refine SeqAt.RcAt.tuples (e := fun _ => true) pl pl2 (by omega) (fun j h1 h2 => absurd h2 (by simp)) _ _ _ _ ?_
  refine ⟨.bl _, H, I, rfl, ?_⟩
  cases xs with
  | nil =>
    cases r1
    exact q
  | cons x xs =>
    cases r1
    exact q
end WT

set_option Elab.async false
set_option linter.all false
set_option maxRecDepth 100000
set_option maxHeartbeats 1000000
namespace K35
open PySem PySem.Spec PyProof.Rows L2 WT
abbrev st_bent : Stmt := top 28
theorem sc_bent : FnScope ["_law_draws_here", "_law_world_here", "_law_value", "_law_at"] ["_law_draws_here", "_law_world_here", "_law_value"] (defScope st_bent) := ⟨rfl, rfl, rfl, by decide +kernel, rfl, by decide +kernel, by decide +kernel⟩
section
variable {P : Program} {w : World} {K : PySem.W.Frag} {mg : Str → Option Value} {base : Heap} {f : Addr} {fd : FuncData}
/-- bent(draws, world, value) for values of a depth below k: something changed in it -/
def spBent (K : PySem.W.Frag) (k : Nat) : Sp := fun vs H Q _ => ∃ (S : Addr → Bool) (a wa r g : Addr) (as : List Addr) (rs : List Str) (gs : List Gt) (b : Nat) (v : V) (d : PyData), vs = [.ref a, .ref wa, v] ∧ S a = true ∧ Live S H ∧ PotAt H a b ∧ b + 5 * k ≤ 80000 ∧ WorldAt H wa r g as rs gs ∧ MapOk rs gs ∧ Off K S H v d ∧ Nr d ∧ d.weight ≤ 6000 ∧ d.depth < k ∧
  ∀ H' x e b', But a H H' → PotAt H' a b' → b' ≤ b + 5 * k → Off K S H' x e → Near d e → Q x H'
-- omega
theorem ok_bent {fO fT : Addr} {fdO fdT : FuncData} (F : Fun K "_law_bent" "_law_bent" st_bent f fd) (B : Blt mg) (hisi : mg "isinstance" = none) (F_odd : Df P w K mg base "_law_odd" 3 fO fdO ["_law_draws_here", "_law_world_here", "_law_value"] (spOdd K))
    (F_below : Df P w K mg base "_law_below" 1 fT fdT ["_law_draws_here", "_law_many"] spDraw) (g : mg "_law_bent" = some (.ref f)) (kp : PySem.W.keepIn K (.ref f) = true) (bd : Binds K fd ["_law_draws_here", "_law_world_here", "_law_value"] []) :
    ∀ k, FnG P w K mg base CX0 (k + 4) f fd ["_law_draws_here", "_law_world_here", "_law_value"] (spBent K k)
  | 0 => ⟨fun vs H Q E h => by obtain ⟨_, _, _, _, _, _, _, _, _, _, _, _, _, _, _, _, _, _, _, _, _, z, _⟩ := h; omega, fun _ _ _ _ _ _ _ _ _ _ _ _ _ _ h => by obtain ⟨_, _, _, _, _, _, _, _, _, _, _, _, _, _, _, _, _, _, _, _, _, z, _⟩ := h; omega⟩
  | k + 1 => by
    have F_bent : Df P w K mg base "_law_bent" (k + 4) f fd ["_law_draws_here", "_law_world_here", "_law_value"] (spBent K k) := ⟨g, kp, bd, ok_bent F B hisi F_odd F_below g kp bd k⟩
    refine okG F sc_bent (fun vs H Q E h => ?_) (fun cdv A outer s H vs Q E hgd hr h => ?_)
    · obtain ⟨_, _, _, _, _, _, _, _, _, _, _, rfl, _⟩ := h
      rfl
    · obtain ⟨S, a, wa, r, gr, as, rs, gs, b, v, d, rfl, hSa, lv, hp, hb, hw, W, hv, nd, wd, dk, q⟩ := h
      refine ⟨_, (pss_cons (ps_if (PW.pt (pw_or (pt_not (pt_val (pe_callB (call_isiA (K := K)) (by rfl) hisi (by decide +kernel) (pa_cons (pv 2) (pa_cons (pe_bltn (v := .ty "tuple") (by rfl) B.tuple (by decide +kernel) rfl) pa_nil))))) (pw_or (pt_cmpR (op_eq0 (K := K) hr.units) (pv 2) (pe_tup pa_nil) (nomark _)) (pw_or1 (pt_cmpR op_eq (pe_callG hgd F_below.G (hr.mono (by omega)) (by rfl) F_below.g F_below.kp F_below.bd pass0 (pa_cons (pv 0) (pa_cons pe_int pa_nil))) pe_int (nomark _))))))
       (pss_one (ps_ret (pe_callG hgd F_odd.G (hr.mono (by omega)) (by rfl) F_odd.g F_odd.kp F_odd.bd pass0 (pa_cons (pv 0) (pa_cons (pv 1) (pa_cons (pv 2) pa_nil))))))
       pss_nil)
      (pss_cons (ps_set (i := 3) sc_bent.nd rfl (.inl rfl) (pe_callG hgd F_below.G (hr.mono (by omega)) (by rfl) F_below.g F_below.kp F_below.bd pass0 (pa_cons (pv 0) (pa_cons (pe_callB call_len (by rfl) B.len (by decide +kernel) (pa_cons (pv 2) pa_nil)) pa_nil))))
      (pss_one (ps_ret (pe_op op_catA (pe_op op_catA (pe_slice sl_tupA (pv 2) po_none (po_some (pv 3))) (pe_tup (pa_cons (pe_callG hgd F_bent.G (hr.mono (by omega)) (by rfl) F_bent.g F_bent.kp F_bent.bd pass0 (pa_cons (pv 0) (pa_cons (pv 1) (pa_cons (pe_ix ix_tup (pv 2) (pv 3) (fun _ _ => rfl)) pa_nil)))) pa_nil))) (pe_slice sl_tupA (pv 2) (po_some (pe_op op_add (pv 3) pe_int)) po_none)))))), ?_⟩
      have odd : ∀ {H' : Hp} {b' : Nat}, But a H H' → PotAt H' a b' → b' ≤ b + 1 → Off K S H' v d → spOdd K [.ref a, .ref wa, v] H' (fun x H2 => Q x H2) E0 := fun bt pt hb' hv' =>
        ⟨S, a, wa, r, gr, as, rs, gs, _, v, d, rfl, hSa, pot_live lv bt pt, pt, by omega, hw.but hp bt, W, hv', nd, wd, fun H2 x e bt2 pt2 ho hn => q H2 x e _ (bt.trans bt2) pt2 (by omega) ho hn⟩
      refine ⟨_, rfl, v, "tuple", d, isTup d, rfl, hv.dt, kit_tuple d, _, rfl, ?_⟩
      by_cases ct : isTup d = true
      rotate_left
      · refine ifT (by rw [Bool.eq_false_iff.mpr ct]; rfl) (ifT rfl ?_)
        exact ⟨_, rfl, _, rfl, _, rfl, odd (But.refl _ _) hp (by omega) hv⟩
      obtain ⟨ds, rfl⟩ : ∃ ds, d = .tuple ds := by
        cases d <;> first | exact ⟨_, rfl⟩ | cases ct
      obtain ⟨p, xs, rfl, hT⟩ := off_tup hv
      refine ifF rfl ?_
      refine ⟨_, rfl, (by show 0 ≤ sizeLine; decide), fun t nt => ?_⟩
      have z := same_new nt (o := .tup [])
      refine ⟨p, t, xs, rfl, rfl, sameT z hT.st, SqT.of upd_same, _, rfl, ?_⟩
      by_cases cn : xs = []
      · subst cn
        refine ifT rfl (ifT rfl ?_)
        exact ⟨_, rfl, _, rfl, _, rfl, odd (But.of z) (hp.same z) (by omega) (hv.same z)⟩
      have cn2 : xs.isEmpty = false := by
        cases xs with
        | nil => exact absurd rfl cn
        | cons _ _ => rfl
      refine ifF cn2 ?_
      refine ⟨_, rfl, a, b, 5, rfl, hp.same z, (by omega), (by decide), (by decide), fun H1 r1 bt pt r0 r5 => ⟨rfl, _, rfl, ?_⟩⟩
      replace bt := (But.of z).trans bt
      by_cases c : r1 = 0
      · refine ifT (decide_eq_true (by rw [c])) ?_
        exact ⟨_, rfl, _, rfl, _, rfl, odd bt pt (by omega) (hv.but hSa bt)⟩
      refine ifF (decide_eq_false fun z => c (V.int.inj z)) ?_
      have lx := hT.all.length
      have wl := w_len ds
      have wd' := wd
      rw [PyData.weight] at wd'
      rw [PyData.depth] at dk
      have big : (200002 : Nat) ≤ sizeLine := by decide
      have x0 : 0 < xs.length := List.length_pos_iff.mpr cn
      have ndp : ∀ x ∈ ds, Nr x := by
        cases nd
        assumption
      -- at
      refine ⟨_, rfl, _, rfl, _, xs.length, rfl, .inr ⟨_, (hT.but hSa bt).st, rfl⟩, a, b + 1, (xs.length : Int), rfl, pt, (by omega), (by omega), (by have h9 : (100000 : Int) ≤ (10 : Int) ^ 50 := (by decide); omega), fun H2 r2 bt2 pt2 q0 q1 => ?_⟩
      replace bt2 := bt.trans bt2
      obtain ⟨j, rfl⟩ := Int.eq_ofNat_of_zero_le q0
      have hj : j < xs.length := by omega
      obtain ⟨dj, hdj, hoj⟩ := dt_at hT.all (List.getElem?_eq_getElem hj)
      obtain ⟨dd, dw⟩ := depth_at hdj
      have hT2 := hT.but hSa bt2
      -- value[:at]
      refine ⟨_, rfl, _, rfl, (j : Int), rfl, sl_any (pot_live lv bt2 pt2) hT2 fun q1 G1 z1 c1 => ?_⟩
      -- (bent(draws, world, value[at]),)
      refine ⟨_, rfl, _, rfl, _, rfl, _, rfl, p, _, (j : Int), xs[j], rfl, rfl, (hT2.same z1).st, atI_nat (j := j) (List.getElem?_eq_getElem hj), S, a, wa, r, gr, as, rs, gs, b + 1 + 1, xs[j], dj, rfl, hSa, (pot_live lv bt2 pt2).same z1, pt2.same z1, (by omega), (hw.but hp bt2).same z1, W, ?_, ndp dj (List.mem_of_getElem? hdj), (by omega), (by omega), fun H3 y e b3 bt3 pt3 hb3 ho hn => ?_⟩
      · exact Off.but hoj hSa (bt2.trans (.of z1))
      have ha3 := pot_live ((pot_live lv bt2 pt2).same z1) bt3 pt3
      refine ⟨(by show 1 ≤ sizeLine; decide), fun t1 n1 => ?_⟩
      have z3 := same_new n1 (o := .tup [y])
      have c3 : TupD K S _ t1 [y] [e] := TupD.new ha3 n1 (.cons ho .nil)
      have hT3 := (hT2.same z1).but hSa (bt3.trans (.of z3))
      replace c1 := c1.but hSa (bt3.trans (.of z3))
      replace pt3 := pt3.same z3
      have bt4 := bt2.trans ((But.of z1).trans (bt3.trans (.of z3)))
      replace ha3 := ha3.same z3
      generalize upd H3 t1 (.tup [y]) = G3 at c3 hT3 c1 pt3 bt4 ha3 ⊢
      have l1 := cutV_length xs none (some (j : Int))
      refine cat_any ha3 c1 c3 (by simp only [List.length_singleton]; omega) fun q4 G4 z4 c4 => ?_
      -- value[at + 1:]
      refine ⟨_, rfl, _, rfl, (j : Int), 1, rfl, rfl, (j : Int) + 1, rfl, sl_lo (ha3.same z4) (hT3.same z4) fun q5 G5 z5 c5 => ?_⟩
      have l2 := cutV_length xs (some ((j : Int) + 1)) none
      refine cat_any ((ha3.same z4).same z5) (c4.same z5) c5 (by rw [List.length_append, List.length_singleton]; omega) fun q6 G6 z6 c6 => ?_
      have zz := z4.trans (z5.trans z6)
      refine q G6 _ _ b3 (bt4.trans (.of zz)) (pt3.same zz) (by omega) c6.off ?_
      rw [cutD_left (by omega), show ((j : Int) + 1) = ((j + 1 : Nat) : Int) from rfl, cutD_right (by omega)]
      exact Near.put ndp hdj hn
end
end K35

set_option Elab.async false
set_option linter.all false
set_option maxRecDepth 100000
set_option maxHeartbeats 1000000
namespace K35
open PySem PySem.Spec PyProof.Rows L2 WT
abbrev st_right : Stmt := top 29
theorem sc_right : FnScope ["_law_world_here", "_law_value", "_law_kept"] ["_law_world_here", "_law_value"] (defScope st_right) := ⟨rfl, rfl, rfl, by decide +kernel, rfl, by decide +kernel, by decide +kernel⟩
theorem wf_txt {s : Str} (h : NmOk s) : Wf 8 0 (.str s) := by
  have k := Nr.short (.str s (asc_nm h))
  exact ⟨k.1, k.2, by rw [w_str]; exact h.len, by rw [PyData.depth]; exact Nat.le_refl _⟩
theorem wfa_all {W D : Nat} : ∀ {ds : List PyData}, (∀ d ∈ ds, Wf W D d) → WfA (ds.length * (W + 1)) D ds
  | [], _ => WfA.nil _ _
  | d :: ds, h => by
    have := (WfA.one (h d List.mem_cons_self)).app (wfa_all fun x hx => h x (List.mem_cons_of_mem _ hx))
    exact this.mono (by rw [List.length_cons, Nat.succ_mul]; omega) (Nat.le_refl _)
theorem world_wf {rs : List Str} {gs : List Gt} (mo : MapOk rs gs) : Wf 800 4 (worldD rs gs) := by
  obtain ⟨nr, nr1, nr2, lo⟩ := mo.reg
  have lrs := lo.len
  have lgs := mo.lg
  have nmsW : ∀ ss : List Str, (∀ s ∈ ss, NmOk s) → WfA (ss.length * 9) 0 (ss.map PyData.str) := fun ss h => by
    have := wfa_all (W := 8) (D := 0) (ds := ss.map PyData.str) fun d hd => by
      obtain ⟨s, hs, rfl⟩ := List.mem_map.mp hd
      exact wf_txt (h s hs)
    rw [List.length_map] at this
    exact this
  have w1 : Wf 90 2 (.tuple (rs.map PyData.str)) := (nmsW rs lo.nm).tup.mono (by omega) (by decide)
  have wg : ∀ d ∈ gs.map gateD, Wf 55 1 d ∨ Wf 60 2 d := fun d hd => by
    obtain ⟨gg, hgg, rfl⟩ := List.mem_map.mp hd
    have k := mo.each gg hgg
    have khi := k.hi
    have m := (nmsW gg.2.1 fun y hy => lo.nm y (k.sub y hy)).tup
    have kk : NmOk gg.2.2 := by
      rcases k.kind with e | e
      · rw [e]
        exact nm_wrap
      · rw [e]
        exact nm_open
    refine .inr ?_
    have a1 := WfA.one ((wf_txt k.nm).mono (Nat.le_refl 8) (show 0 ≤ 1 by decide))
    have a2 := WfA.one (m.mono (show gg.2.1.length * 9 ≤ 36 by omega) (Nat.le_refl 1))
    have a3 := WfA.one ((wf_txt kk).mono (Nat.le_refl 8) (show 0 ≤ 1 by decide))
    exact ((a1.app (a2.app a3)).tup).mono (by decide) (by decide)
  have wg2 : ∀ d ∈ gs.map gateD, Wf 60 2 d := fun d hd => (wg d hd).elim (fun h => h.mono (by decide) (by decide)) id
  have w2 := wfa_all wg2
  rw [List.length_map] at w2
  have w2 : Wf 671 3 (.tuple (gs.map gateD)) := w2.tup.mono (by omega) (Nat.le_refl _)
  exact (((WfA.one (w1.mono (Nat.le_refl _) (show 2 ≤ 3 by decide))).app (WfA.one w2)).tup).mono (by decide) (Nat.le_refl _)
/-- a value to ask -/
structure Vl (d : PyData) : Prop where
  nr : Nr d
  wt : d.weight ≤ 6000
  de : d.depth ≤ 4
theorem pair_fit {rs : List Str} {gs : List Gt} (mo : MapOk rs gs) {d : PyData} (h : Vl d) : (PyData.tuple [worldD rs gs, d]).showable = true ∧ (PyData.tuple [worldD rs gs, d]).depth ≤ 60 ∧ (PyData.tuple [worldD rs gs, d]).shown.length ≤ sizeLine := by
  have w : Wf 6000 4 d := (Sm.wf ⟨h.nr, h.wt, h.de⟩)
  have f := (((WfA.one ((world_wf mo).mono (Nat.le_refl _) (show 4 ≤ 4 by decide))).app (WfA.one w)).tup).fit
  exact ⟨f.sh, Nat.le_trans f.de (by decide), Nat.le_trans f.ln (by decide)⟩
theorem MapOk.win {rs : List Str} {gs : List Gt} (h : MapOk rs gs) : WIn rs gs := by
  obtain ⟨n, n1, hn, l⟩ := h.reg
  have := l.len
  refine ⟨by omega, Nat.le_trans h.lg (by decide), fun g hg => ⟨Nat.le_trans (h.each g hg).hi (by decide), (h.each g hg).sub⟩⟩
theorem MapOk.asc {rs : List Str} {gs : List Gt} (h : MapOk rs gs) : AscS rs := by
  obtain ⟨n, _, hn, l⟩ := h.reg
  exact asc_of l.srt l.nd
theorem MapOk.ok {rs : List Str} {gs : List Gt} (h : MapOk rs gs) : ∀ s ∈ rs, PyData.strOk s = true := by
  obtain ⟨n, _, hn, l⟩ := h.reg
  exact fun s hs => (l.nm s hs).ok
theorem bl_fit (b : Bool) : (PyData.bool b).showable = true ∧ (PyData.bool b).depth ≤ 60 ∧ (PyData.bool b).shown.length ≤ sizeLine := by
  cases b
  · exact ⟨by decide +kernel, by decide +kernel, Nat.le_trans (by decide +kernel : (PyData.bool false).shown.length ≤ 10) (by decide)⟩
  · exact ⟨by decide +kernel, by decide +kernel, Nat.le_trans (by decide +kernel : (PyData.bool true).shown.length ≤ 10) (by decide)⟩
section
variable {P : Program} {w : World} {K : PySem.W.Frag} {mg : Str → Option Value} {base : Heap} {f fT fU : Addr} {fd fdT fdU : FuncData}
/-- right(world, value) -/
def spRight (K : PySem.W.Frag) : Sp := fun vs H Q _ => ∃ (wa r g : Addr) (as : List Addr) (rs : List Str) (gs : List Gt) (v : V) (d : PyData), vs = [.ref wa, v] ∧ WorldAt H wa r g as rs gs ∧ MapOk rs gs ∧ Dt K H v d ∧ Vl d ∧ ∀ H', Same H H' → Q (.bl true) H'
theorem ok_right (F : Fun K "_law_right" "_law_right" st_right f fd) (B : Blt mg) (F_is_trail : Df P w K mg base "is_trail" 6 fT fdT ["world", "value"] (spIsTrail K)) (F_due : Df P w K mg base "_law_due" 2 fU fdU ["_law_world_here", "_law_value"] (spDue K)) : FnG P w K mg base CX0 7 f fd ["_law_world_here", "_law_value"] (spRight K) := by
  refine okG F sc_right (fun vs H Q E h => ?_) (fun cdv A outer s H vs Q E hgd hr h => ?_)
  · obtain ⟨_, _, _, _, _, _, _, _, rfl, _⟩ := h
    rfl
  · obtain ⟨wa, r, g, as, rs, gs, v, d, rfl, hw, W, hd, vl, q⟩ := h
    refine ⟨_, (pss_cons (ps_set (i := 2) sc_right.nd rfl (.inl rfl) (pe_callB (call_repr hgd hr.units) (by rfl) B.repr (by decide +kernel) (pa_cons (pe_tup (pa_cons (pv 0) (pa_cons (pv 1) pa_nil))) pa_nil)))
      (pss_one (ps_ret (pe_and (pe_cmpR op_eq (pe_callB (call_repr hgd hr.units) (by rfl) B.repr (by decide +kernel) (pa_cons (pe_callG hgd F_is_trail.G (hr.mono (by decide)) (by rfl) F_is_trail.g F_is_trail.kp F_is_trail.bd pass0 (pa_cons (pv 0) (pa_cons (pv 1) pa_nil))) pa_nil)) (pe_callB (call_repr hgd hr.units) (by rfl) B.repr (by decide +kernel) (pa_cons (pe_callG hgd F_due.G (hr.mono (by decide)) (by rfl) F_due.g F_due.kp F_due.bd pass0 (pa_cons (pv 0) (pa_cons (pv 1) pa_nil))) pa_nil)) (nomark _)) (pe_one (pe_cmpR op_eq (pe_callB (call_repr hgd hr.units) (by rfl) B.repr (by decide +kernel) (pa_cons (pe_tup (pa_cons (pv 0) (pa_cons (pv 1) pa_nil))) pa_nil)) (pv 2) (nomark _))))))), ?_⟩
    have pf := pair_fit W vl
    refine ⟨_, rfl, _, rfl, (by show 2 ≤ sizeLine; decide), fun t nt => ?_⟩
    have zt := same_new nt (o := .tup [.ref wa, v])
    refine ⟨.ref t, .tuple [worldD rs gs, d], rfl, .tup (SqT.of upd_same) (.cons (WT.Dp.dt (dp_world (hw.same zt))) (.cons (hd.same zt) .nil)), pf.1, pf.2.1, pf.2.2, ?_⟩
    have vwt := vl.wt
    refine ⟨_, rfl, _, rfl, wa, r, g, as, rs, gs, v, d, rfl, hw.same zt, W.win, W.asc, W.nd, W.ok, hd.same zt, by omega, fun H2 s2 => ?_⟩
    have z2 := zt.trans s2
    have bf := bl_fit (trailD rs gs d)
    refine ⟨_, .bool (trailD rs gs d), rfl, .bl _, bf.1, bf.2.1, bf.2.2, ?_⟩
    refine ⟨_, rfl, _, rfl, wa, r, g, as, rs, gs, v, d, rfl, hw.same z2, W, hd.same z2, by omega, fun H3 s3 => ?_⟩
    have z3 := z2.trans s3
    refine ⟨_, .bool (trailD rs gs d), rfl, .bl _, bf.1, bf.2.1, bf.2.2, rfl, _, rfl, ?_⟩
    rw [decide_eq_true rfl]
    refine (if_pos rfl).mpr ?_
    refine ⟨_, rfl, _, rfl, (by show 2 ≤ sizeLine; decide), fun u nu => ?_⟩
    have zu := same_new nu (o := .tup [.ref wa, v])
    have z4 := z3.trans zu
    refine ⟨.ref u, .tuple [worldD rs gs, d], rfl, .tup (SqT.of upd_same) (.cons (WT.Dp.dt (dp_world (hw.same z4))) (.cons (hd.same z4) .nil)), pf.1, pf.2.1, pf.2.2, _, rfl, rfl, ?_⟩
    rw [decide_eq_true rfl]
    exact q _ z4
end
end K35

set_option Elab.async false
set_option linter.all false
set_option maxRecDepth 100000
set_option maxHeartbeats 1000000
/-! lists of values drawn one by one: as many as asked. -/
namespace WT
open PySem PySem.Spec PyProof.Rows L2
/-- a comprehension whose items are drawn one by one -/
theorem lc_growN {K : PySem.W.Frag} {J : It} {n : Nat} {G : Hp → Prop} {Y : Nat → Hp → V → Hp → Prop} (w : Walk J n G Y) {g : TG} {tt : L2.TT} {te : TE} {vs : List Nat} {σ : L2.St} {H1 : Hp} {D a : Addr} {Qd : Hp → Prop} (p : PyData → Prop) {b0 : Nat} (c : Nat) (hp : PotAt H1 a b0) (nD : H1 D = none) (hz : n ≤ 4000)
    (hG : ∀ H, But a H1 H → G H) (hY : ∀ j H v H', Y j H v H' → H' = H)
    (hs : ∀ (j : Nat) (v : V) (H2 : Hp) (b2 : Nat) (k : VK) (e : Hp → Prop), j < n → But a H1 H2 → PotAt H2 a b2 → b2 ≤ b0 + c * n → Live (plus (sole a) D) H2 → Y j H2 v H2 →
      (∀ H4 x e b4, But a H2 H4 → PotAt H4 a b4 → b4 ≤ b2 + c → Off K (plus (sole a) D) H4 x e → p e → k x H4) →
      g v (wipe σ vs) H2 fun σ2 H2 => wipe σ2 vs = wipe σ vs ∧ tt σ2 H2 fun t H3 => if t = true then te σ2 H3 k else e H3)
    (hd : ∀ H xs b', But a H1 H → PotAt H a b' → b' ≤ b0 + c * n → H D = some (.lst xs) → xs.length = n → Vp p K (sole a) H xs → Qd H) :
    ∃ W : Nat → Nat → Hp → Prop, (∃ m, W 0 m (upd H1 D (.lst []))) ∧ ∀ i m H, W i m H →
      (J.stop i H ∧ Qd H) ∨ (J.go i H ∧ ∃ Nx : Hp → Prop, (∀ H', Nx H' → ∃ m', m' < m ∧ W (i + 1) m' H') ∧ ∀ x H', J.yld i H x H' → g x (wipe σ vs) H' fun σ2 H2 => wipe σ2 vs = wipe σ vs ∧ tt σ2 H2 fun b H3 =>
        if b = true then te σ2 H3 fun y H4 => ∃ acc, H4 D = some (.lst acc) ∧ acc.length < sizeLine ∧ Nx (upd H4 D (.lst (acc ++ [y]))) else Nx H3) := by
  have Da := pot_ne hp nD
  refine lc_it w (fun m H => But a H1 H ∧ (∃ b', PotAt H a b' ∧ b' ≤ b0 + c * m) ∧ m ≤ n ∧ ∃ xs, H D = some (.lst xs) ∧ xs.length = m ∧ Vp p K (plus (sole a) D) H xs) ⟨but_upd (But.refl _ _) nD, ⟨b0, WT.pot_upd hp Da, by omega⟩, Nat.zero_le _, [], upd_same, rfl, Vp.nil⟩
    (fun _ H _ h => hG H h.1) (fun i x H H' hi hP hy => ?_) fun H hP => ?_
  · obtain ⟨bt, ⟨b', pt, hb⟩, hm, xs, hD, lx, vp⟩ := hP
    have e := hY i H x H' hy
    subst e
    have cn : c * i ≤ c * n := Nat.mul_le_mul_left c hm
    refine hs i x H' b' _ _ hi bt pt (by omega) (plus_live (sole_live pt) hD) hy fun H4 y e b4 bt4 pt4 hb4 oe pe => ?_
    have hD4 := bt4 _ _ (Ne.symm Da) hD
    refine ⟨xs, hD4, Nat.lt_of_le_of_lt (show xs.length ≤ 4000 by omega) (by decide), but_upd (bt.trans bt4) nD, ⟨b4, WT.pot_upd pt4 Da, by rw [Nat.mul_succ]; omega⟩, hi, _, upd_same, by rw [List.length_append, List.length_singleton]; omega, ?_⟩
    exact Vp.but ((vp.but (plus_l (sole_at a)) bt4).app (Vp.one oe pe)) plus_r But.upd
  · obtain ⟨bt, ⟨b', pt, hb⟩, hm, xs, hD, lx, vp⟩ := hP
    exact hd H xs b' bt pt hb hD lx vp.minus
end WT

set_option Elab.async false
set_option linter.all false
set_option maxRecDepth 100000
set_option maxHeartbeats 1000000
/-! d.get(k) of a dict of the module with texts as keys. -/
namespace WT
open PySem PySem.Spec PyProof.Rows L2
/-- a dict of the module; what it holds at a text -/
def KDic (K : PySem.W.Frag) (w : World) (a : Addr) : Prop := ∃ (es : Array DictEntry) (n : Nat), K.lookup a = some ⟨.type "dict", none, .dict es n, #[]⟩ ∧ PySem.W.KeysLit w.params es.toList ∧ (a == sysModules) = false
def KGet (K : PySem.W.Frag) (w : World) (a : Addr) (z : Str) (o : Option V) : Prop := ∃ (es : Array DictEntry) (n : Nat) (r : Option Value), K.lookup a = some ⟨.type "dict", none, .dict es n, #[]⟩ ∧ PySem.W.KeysLit w.params es.toList ∧ (a == sysModules) = false ∧
  findBy Value.isStrOf es z = r ∧ RelO o r
def tKGet1 (K : PySem.W.Frag) (w : World) (td ty : TE) : TE := fun σ H Q => td σ H fun x H1 => ∃ a, x = .ref a ∧ KDic K w a ∧ ty σ H1 fun y H2 => ∃ (z : Str) (o : Option V), y = .str z ∧ KGet K w a z o ∧ Q (o.getD .non) H2
theorem pe_kget1 {X : Cx} {o e : Expr} {apos cpos : Pos} {td ty : TE} (ho : PE X o td) (he : PE X e ty) (m : M1 X o "get" apos e cpos) : PE X (.Call (.Attribute o "get" apos) [e] [] cpos) (tKGet1 X.K X.w td ty) := by
  refine ⟨fun pins s σ H Q I h => ?_⟩
  refine wpAny_Call_method m.base m.few m.line PySem.F.plainAttrs_dict PySem.F.slot_dict_get PySem.F.type_dict_get (thn (ho.run pins s σ H _ I h) fun u s1 ⟨x, H1, I1, rx, a, ex, d, q1⟩ => ?_)
  subst ex
  obtain rfl : u = Value.ref a := rx
  obtain ⟨es, n, hl, hk, hs⟩ := d
  have hm := PySem.W.mapOf_K (prog := X.prog) (w := X.w) I1.kIn hl hk
  refine ⟨hm.typeIs, fun b q => ?_, ?_⟩
  · cases q
    exact ⟨_, I1.kIn _ _ hl, rfl⟩
  rw [m.trees]
  refine Calls.callWith_builtin rfl (Calls.evalArgs_plain (Calls.spliced_cons (thn (he.run pins s1 σ H1 _ I1 q1) fun iv s2 ⟨y, H2, I2, ry, z, ov, ey, g, q2⟩ => Calls.spliced_nil ?_)))
  subst ey
  obtain ⟨t, rfl⟩ := (show ∃ t, iv = Value.str z t from ry)
  obtain ⟨es', n', r, hl', hk', _, hf, rel⟩ := g
  have hm' := PySem.W.mapOf_K (prog := X.prog) (w := X.w) I2.kIn hl' hk'
  refine call_meetsIn PySem.F.slot_dict_get hm'.typeIs PySem.F.entry_dict_get (PySem.F.args_dict_get_2 _ _) (meets_dict_get (strKind X.prog X.w) a (strKind_is X.prog X.w z t) hs) ⟨_, hm', ?_⟩
  refine ⟨ov.getD .non, H2, I2.tok _, ?_, q2⟩
  show RelV _ ((findBy Value.isStrOf es' z).getD .none)
  rw [hf]
  cases ov with
  | none => cases r with
    | none => exact rfl
    | some _ => exact rel.elim
  | some v => cases r with
    | none => exact rel.elim
    | some u => exact rel
/-- a dict of so many texts, value by value -/
theorem kget_list {K : PySem.W.Frag} {w : World} {a : Addr} {es : List DictEntry} {n : Nat} {ks : List (Str × V)} (hl : K.lookup a = some ⟨.type "dict", none, .dict es.toArray n, #[]⟩) (hk : PySem.W.KeysLit w.params es) (hs : (a == sysModules) = false)
    (hp : Paired (fun (e : DictEntry) (p : Str × V) => (∃ t, e.key = .str p.1 t) ∧ RelV p.2 e.val) es ks) (z : Str) : KGet K w a z ((ks.find? fun p => decide (p.1 = z)).map (·.2)) := by
  refine ⟨_, n, _, hl, hk, hs, rfl, ?_⟩
  unfold findBy
  rw [List.find?_toArray]
  clear hl hk
  induction hp with
  | nil => exact trivial
  | @cons e p es ks h t ih =>
    obtain ⟨⟨tk, e1⟩, e2⟩ := h
    rw [List.find?_cons, List.find?_cons, e1]
    have q : Value.isStrOf z (.str p.1 tk) = decide (p.1 = z) := by
      by_cases c : p.1 = z
      · subst c
        simp [Value.isStrOf]
      · simp [Value.isStrOf, c]
        try exact fun h => c h.symm
    rw [q]
    cases decide (p.1 = z) with
    | true => exact e2
    | false => exact ih
end WT

set_option Elab.async false
set_option linter.all false
set_option maxRecDepth 100000
set_option maxHeartbeats 2000000
namespace K35
open PySem PySem.Spec PyProof.Rows L2 WT
abbrev st_law : Stmt := top 30
theorem sc_law : FnScope ["_law_script", "_law_k", "_law_draws_here", "_law_world_here", "_law_some", "_law_bent_here", "_law_value", "_law_count", "_law_turn", "_law_trail_here"] ["_law_script"] (defScope st_law) := ⟨rfl, rfl, rfl, by decide +kernel, rfl, by decide +kernel, by decide +kernel⟩
theorem op_isBl {X : Cx} : OpR X (compareOp .Is) (fun x y H Q => ∃ c d : Bool, x = .bl c ∧ y = .bl d ∧ Q (.bl (c == d)) H) := by
  intro pins s σ H x y v u Q I rx ry h
  obtain ⟨c, d, rfl, rfl, q⟩ := h
  cases rx
  cases ry
  refine is_bool ?_
  exact fin_bl I q rfl
/-- a value that is a trail -/
def PT (rs : List Str) (gs : List Gt) (d : PyData) : Prop := (Nr d ∧ d.weight ≤ 2900 ∧ d.depth ≤ 2) ∧ trailD rs gs d = true
theorem PT.vl {rs : List Str} {gs : List Gt} {d : PyData} (h : PT rs gs d) : Vl d := ⟨h.1.1, Nat.le_trans h.1.2.1 (by decide), Nat.le_trans h.1.2.2 (by decide)⟩
theorem PT.near {rs : List Str} {gs : List Gt} {d e : PyData} (h : PT rs gs d) (n : Near d e) : Vl e := ⟨n.nr, by have := n.wt; have := h.1.2.1; omega, by have := n.de; have := h.1.2.2; omega⟩
theorem tr_pt {rs : List Str} {gs : List Gt} {cs : List Cr} (h : ∀ c ∈ cs, CrNm c) (l : cs.length ≤ 100) (t : TrOk rs gs cs) : PT rs gs (trE cs) := by
  have each : ∀ d ∈ cs.map crD, Wf 27 1 d ∧ Nr d := fun d hd => by
    obtain ⟨c, hc, rfl⟩ := List.mem_map.mp hd
    have k := h c hc
    refine ⟨((((WfA.one (wf_txt k.1)).app ((WfA.one (wf_txt k.2.1)).app (WfA.one (wf_txt k.2.2)))).tup).mono (by decide) (by decide)), .tup _ fun x hx => ?_⟩
    unfold crL at hx
    simp only [List.map_cons, List.map_nil, List.mem_cons, List.not_mem_nil, or_false] at hx
    rcases hx with rfl | rfl | rfl
    · exact .str _ (asc_nm k.1)
    · exact .str _ (asc_nm k.2.1)
    · exact .str _ (asc_nm k.2.2)
  have w := wfa_all fun d hd => (each d hd).1
  rw [List.length_map] at w
  have w2 := w.tup
  exact ⟨⟨.tup _ fun x hx => (each x hx).2, Nat.le_trans w2.wt (by omega), w2.de⟩, t.ok⟩
theorem off_trail {K : PySem.W.Frag} {S : Addr → Bool} {H0 H : Hp} {t : Addr} {cs : List Cr} (lv : Live S H0) (h : TrailN H0 H t cs) : Off K S H (.ref t) (trE cs) := by
  obtain ⟨ts, nt, fr, ht, pc⟩ := h
  have out : ∀ c, H0 c = none → S c = false := fun c n => by
    cases e : S c with
    | false => rfl
    | true => exact absurd n (lv c e)
  refine .tup (SqT.of (del_at (out t nt) ht)) ?_
  clear ht
  induction pc with
  | nil => exact .nil
  | @cons u c l m hu pc ih =>
    exact .cons (.tup (SqT.of (del_at (out u (fr u List.mem_cons_self)) hu)) (.cons (.str _) (.cons (.str _) (.cons (.str _) .nil)))) (ih fun x hx => fr x (List.mem_cons_of_mem _ hx))
section
variable {P : Program} {w : World} {K : PySem.W.Frag} {mg : Str → Option Value} {base : Heap} {f fD fW fB fT fC fN fI fR : Addr} {fd fdD fdW fdB fdT fdC fdN fdI fdR : FuncData}
def spLaw (K : PySem.W.Frag) : Sp := fun vs H Q _ => ∃ (a : Addr) (ns : List Int), vs = [.ref a] ∧ SqL K H a (ns.map V.int) ∧ ns.length ≤ 63 ∧ ∀ H', Q (.bl true) H'
theorem ok_law (F : Fun K "law" "law" st_law f fd) (B : Blt mg) (F_draws : Df P w K mg base "_law_draws" 1 fD fdD ["_law_script", "_law_k"] (spDraws K)) (F_world : Df P w K mg base "_law_world" 4 fW fdW ["_law_draws_here", "_law_most"] spWorld)
    (F_below : Df P w K mg base "_law_below" 1 fB fdB ["_law_draws_here", "_law_many"] spDraw) (F_trail : Df P w K mg base "_law_trail" 3 fT fdT ["_law_draws_here", "_law_world_here", "_law_count"] spTrail) (F_choice : Df P w K mg base "_law_choice" 2 fC fdC ["_law_draws_here", "_law_some"] (spPick K))
    (F_bent : Df P w K mg base "_law_bent" 7 fN fdN ["_law_draws_here", "_law_world_here", "_law_value"] (spBent K 3)) (F_is_trail : Df P w K mg base "is_trail" 6 fI fdI ["world", "value"] (spIsTrail K)) (F_right : Df P w K mg base "_law_right" 7 fR fdR ["_law_world_here", "_law_value"] (spRight K)) :
    FnG P w K mg base CX0 8 f fd ["_law_script"] (spLaw K) := by
  refine okG F sc_law (fun vs H Q E h => ?_) (fun cdv A outer s H vs Q E hgd hr h => ?_)
  · obtain ⟨_, _, rfl, _⟩ := h
    rfl
  · obtain ⟨a, ns, rfl, hs, hl, q⟩ := h
    refine ⟨_, (pss_cons (ps_for PassesOwn.never rfl (pi_range1 (by rfl) B.range (pa_cons (pe_callB (call_max2 rfl) (by rfl) B.max (by decide +kernel) (pa_cons pe_int (pa_cons (pe_callB (call_min2 rfl) (by rfl) B.min (by decide +kernel) (pa_cons pe_int (pa_cons (pe_callB call_len (by rfl) B.len (by decide +kernel) (pa_cons (pv 0) pa_nil)) pa_nil))) pa_nil))) pa_nil)) (pg_name (i := 1) sc_law.nd rfl (.inl rfl))
       (pss_cons (ps_set (i := 2) sc_law.nd rfl (.inr rfl) (pe_callG hgd F_draws.G (hr.mono (by decide)) (by rfl) F_draws.g F_draws.kp F_draws.bd pass0 (pa_cons (pv 0) (pa_cons (pv 1) pa_nil))))
       (pss_cons (ps_set (i := 3) sc_law.nd rfl (.inr rfl) (pe_callG hgd F_world.G (hr.mono (by decide)) (by rfl) F_world.g F_world.kp F_world.bd pass0 (pa_cons (pv 2) (pa_cons pe_int pa_nil))))
       (pss_cons (ps_set (i := 4) sc_law.nd rfl (.inr rfl) (pe_lc (own := [("_law_count", 7)]) (by rfl) sc_law.nd (pi_tup (pe_tup (pa_cons pe_int (pa_cons pe_int (pa_cons pe_int (pa_cons pe_int (pa_cons pe_int (pa_cons (pe_callG hgd F_below.G (hr.mono (by decide)) (by rfl) F_below.g F_below.kp F_below.bd pass0 (pa_cons (pv 2) (pa_cons pe_int pa_nil))) pa_nil)))))))) (blkOk_by (own := [("_law_count", 7)]) (N := ["_law_script", "_law_k", "_law_draws_here", "_law_world_here", "_law_some", "_law_bent_here", "_law_value", "_law_count", "_law_turn", "_law_trail_here"]) (sc := defScope st_law) (by decide +kernel)) (fun _ _ _ _ _ => (pg_name (i := 7) sc_law.nd rfl (.inl rfl))) (fun _ _ _ _ _ => pts_nil) (fun _ _ _ _ _ => (pe_callG hgd F_trail.G (hr.mono (by decide)) (by rfl) F_trail.g F_trail.kp F_trail.bd pass0 (pa_cons (pv 2) (pa_cons (pv 3) (pa_cons (pv 7) pa_nil)))))))
       (pss_cons (ps_setLc (i := 5) (own := [("_law_turn", 8)]) (by rfl) sc_law.nd rfl rfl (sw_true rfl rfl rfl (by decide +kernel)) (pi_range1 (by rfl) B.range (pa_cons pe_int pa_nil)) (blkOk_by (own := [("_law_turn", 8)]) (N := ["_law_script", "_law_k", "_law_draws_here", "_law_world_here", "_law_some", "_law_bent_here", "_law_value", "_law_count", "_law_turn", "_law_trail_here"]) (sc := defScope st_law) (by decide +kernel)) (fun _ _ _ _ _ => (pg_name (i := 8) sc_law.nd rfl (.inl rfl))) (fun _ _ _ _ _ => pts_nil) (fun _ _ _ _ _ => (pe_callG hgd F_bent.G (hr.mono (by decide)) (by rfl) F_bent.g F_bent.kp F_bent.bd pass0 (pa_cons (pv 2) (pa_cons (pv 3) (pa_cons (pe_callG hgd F_choice.G (hr.mono (by decide)) (by rfl) F_choice.g F_choice.kp F_choice.bd pass0 (pa_cons (pv 2) (pa_cons (pv 4) pa_nil))) pa_nil))))))
       (pss_cons (ps_if (pt_not (pt_val (pe_callB (cr_all rfl) (by rfl) B.all (by decide +kernel) (pa_cons (pe_lc (own := [("_law_trail_here", 9)]) (by rfl) sc_law.nd (pi_list (pv 4)) (blkOk_by (own := [("_law_trail_here", 9)]) (N := ["_law_script", "_law_k", "_law_draws_here", "_law_world_here", "_law_some", "_law_bent_here", "_law_value", "_law_count", "_law_turn", "_law_trail_here"]) (sc := defScope st_law) (by decide +kernel)) (fun _ _ _ _ _ => (pg_name (i := 9) sc_law.nd rfl (.inl rfl))) (fun _ _ _ _ _ => pts_nil) (fun _ _ _ _ _ => (pe_cmpR op_isBl (pe_callG hgd F_is_trail.G (hr.mono (by decide)) (by rfl) F_is_trail.g F_is_trail.kp F_is_trail.bd pass0 (pa_cons (pv 3) (pa_cons (pv 9) pa_nil))) pe_bl (nomark _)))) pa_nil))))
        (pss_one (ps_ret pe_bl))
        pss_nil)
       (pss_one (ps_for PassesOwn.never rfl (pi_list (pe_op op_cat (pe_op op_cat (pv 4) (pv 5)) (pe_lst (pa_cons pe_non (pa_cons pe_bl (pa_cons pe_int (pa_cons pe_str (pa_cons pe_str (pa_cons (pe_lst pa_nil) (pa_cons pe_dnewK (pa_cons (pe_tup (pa_cons (pe_tup pa_nil) pa_nil)) (pa_cons (pe_tup (pa_cons pe_non pa_nil)) (pa_cons (pe_tup (pa_cons (pe_tup (pa_cons pe_int (pa_cons pe_int (pa_cons pe_int pa_nil)))) pa_nil)) (pa_cons (pe_tup (pa_cons (pe_tup (pa_cons pe_str (pa_cons pe_str (pa_cons pe_str pa_nil)))) pa_nil)) pa_nil)))))))))))))) (pg_name (i := 6) sc_law.nd rfl (.inl rfl))
        (pss_one (ps_if (pt_not (pt_val (pe_callG hgd F_right.G (hr.mono (by decide)) (by rfl) F_right.g F_right.kp F_right.bd pass0 (pa_cons (pv 3) (pa_cons (pv 6) pa_nil)))))
         (pss_one (ps_ret pe_bl))
         pss_nil))))))))))
      (pss_one (ps_ret pe_bl))), ?_⟩
    refine ⟨_, rfl, _, ns.length, rfl, .inl ⟨_, hs, (List.length_map ..).symm⟩, 3, (ns.length : Int), rfl, 1, _, rfl, ?_⟩
    obtain ⟨n, hn, hn1, hn2⟩ : ∃ n : Int, (if (if (ns.length : Int) < 3 then (ns.length : Int) else 3) > 1 then (if (ns.length : Int) < 3 then (ns.length : Int) else 3) else 1) = n ∧ 1 ≤ n ∧ n ≤ 3 := by
      refine ⟨_, rfl, ?_, ?_⟩ <;> (split <;> split <;> omega)
    rw [hn]
    refine ⟨n, rfl, by omega, by omega, for_it (walk_range (lo := 0) (n := n.toNat)) (fun j σ H' => ∃ v1 v2 v3 v4 v5 v6 : Option V, σ = [some (.ref a), v1, v2, v3, v4, v5, v6, none, none, none] ∧ Same H H') ⟨none, none, none, none, none, none, rfl, fun _ _ e => e⟩ (fun _ _ _ _ _ => trivial) (fun j v σ H2 H3 hj hP hY => ?_) (fun σ H2 hP => ?_)⟩
    rotate_left
    · obtain ⟨v1, v2, v3, v4, v5, v6, rfl, sj⟩ := hP
      exact q _
    obtain ⟨v1, v2, v3, v4, v5, v6, rfl, sj⟩ := hP
    obtain ⟨rfl, hv⟩ := hY
    refine ⟨_, rfl, _, rfl, a, ns, j, by rw [hv]; simp, sj.seq hs, hl, by omega, fun H4 p s4 np hp => ?_⟩
    have npH : H p = none := sj.free np
    refine ⟨_, rfl, p, 0, rfl, hp, by omega, fun H5 wp r g as rs gs b5 p5 hw W => ?_⟩
    have bt5 : But p H H5 := (But.of (sj.trans s4)).trans b5
    -- some
    refine ⟨_, rfl, p, _, 61, rfl, p5, by omega, by decide, by decide, fun H6 m b6 p6 m0 m1 => ⟨(by show 6 ≤ sizeLine; decide), fun T nT => ?_⟩⟩
    obtain ⟨m, rfl⟩ := Int.eq_ofNat_of_zero_le m0
    have zT := same_new nT (o := .tup [.int 0, .int 1, .int 2, .int 3, .int 5, .int (m : Int)])
    have hT : upd H6 T (.tup [.int 0, .int 1, .int 2, .int 3, .int 5, .int (m : Int)]) T = some (.tup [.int 0, .int 1, .int 2, .int 3, .int 5, .int (m : Int)]) := upd_same
    have p7 := p6.same zT
    have bt7 := bt5.trans (b6.trans (.of zT))
    have hw7 := (hw.but p5 b6).same zT
    generalize upd H6 T (.tup [.int 0, .int 1, .int 2, .int 3, .int 5, .int (m : Int)]) = H7 at hT p7 bt7 hw7 ⊢
    have Tp := p7.ne_tup hT
    clear zT nT b6 p6 hw p5 bt5 hp b5
    refine ⟨T, rfl, ⟨_, SqT.of hT⟩, fun D nD => lc_growN (K := K) (walk_tup (xs := [.int 0, .int 1, .int 2, .int 3, .int 5, .int (m : Int)])) (PT rs gs) 400 p7 nD (by show 6 ≤ 4000; decide) (fun H b => SqT.of (b _ _ Tp hT)) (fun j H v H' h => h.1) (fun i v H8 b8 k e hi bt8 pt8 hb8 lv8 hY hk => ?_) fun H8 xs b8 bt8 pt8 hb8 hD lx vx => ?_⟩
    · obtain ⟨c, rfl, hc⟩ : ∃ c : Nat, v = .int c ∧ c ≤ 60 := by
        have := List.mem_of_getElem? hY.2
        simp only [List.mem_cons, List.not_mem_nil, or_false] at this
        rcases this with rfl | rfl | rfl | rfl | rfl | rfl
        · exact ⟨0, rfl, by decide⟩
        · exact ⟨1, rfl, by decide⟩
        · exact ⟨2, rfl, by decide⟩
        · exact ⟨3, rfl, by decide⟩
        · exact ⟨5, rfl, by decide⟩
        · exact ⟨m, rfl, by omega⟩
      have h6 : ([.int 0, .int 1, .int 2, .int 3, .int 5, .int (m : Int)] : List V).length = 6 := rfl
      refine ⟨rfl, _, rfl, _, rfl, _, rfl, p, wp, r, g, as, rs, gs, b8, c, rfl, pt8, by omega, by omega, hw7.but p7 bt8, W, fun H9 t cs b9 bt9 pt9 hb9 tn nm l9 tr => ?_⟩
      exact hk H9 (.ref t) (trE cs) b9 bt9 pt9 hb9 (off_trail lv8 tn) (tr_pt nm l9 tr)
    have h6 : ([.int 0, .int 1, .int 2, .int 3, .int 5, .int (m : Int)] : List V).length = 6 := rfl
    rw [h6] at lx hb8
    have hw8 := hw7.but p7 bt8
    have bt8' := bt7.trans bt8
    have Dp' : D ≠ p := Ne.symm (p7.ne_new nD)
    clear bt7 p7 hw7 hT Tp nD bt8
    -- bent
    refine ⟨14, rfl, by decide, by decide, fun N nN => lc_growN (K := K) (walk_range (lo := 0) (n := 14)) Vl 16 pt8 nN (by decide) (fun _ _ => trivial) (fun j H v H' h => h.1) (fun i v H9 b9 k e hi bt9 pt9 hb9 lv9 hY hk => ?_) fun H9 ys b9 bt9 pt9 hb9 hN ly vy => ?_⟩
    · have hD9 := bt9 _ _ Dp' hD
      refine ⟨rfl, _, rfl, _, rfl, _, rfl, _, rfl, .inl ⟨p, D, b9, xs, rfl, pt9, by omega, Dp', .inl (SqL.of hD9), by omega, by omega, fun H10 x bt10 pt10 hx => ?_⟩⟩
      obtain ⟨d, od, pd⟩ := vx x hx
      have od2 := (off_plus od nN).but (plus_l (sole_at p)) (bt9.trans bt10)
      refine ⟨plus (sole p) N, p, wp, r, g, as, rs, gs, b9 + 1, x, d, rfl, plus_l (sole_at p), pot_live lv9 bt10 pt10, pt10, by omega, hw8.but pt8 (bt9.trans bt10), W, od2, pd.1.1, Nat.le_trans pd.1.2.1 (by decide), Nat.lt_of_le_of_lt pd.1.2.2 (by decide), fun H11 y e2 b11 bt11 pt11 hb11 oy ny => ?_⟩
      exact hk H11 y e2 b11 (bt10.trans bt11) pt11 (by omega) oy (pd.near ny)
    have hw9 := hw8.but pt8 bt9
    have bt9' := bt8'.trans bt9
    have vx9 := vx.but (sole_at p) bt9
    have hD9 := bt9 _ _ Dp' hD
    have Np : N ≠ p := Ne.symm (pt8.ne_new nN)
    clear bt8' pt8 hw8 hD nN bt9 vx
    -- all trails
    refine ⟨_, rfl, D, rfl, ⟨_, SqL.of hD9⟩, fun D2 nD2 => lc_bl (walk_list (xs := xs)) (xs.map fun _ => true) (by rw [List.length_map]) (by omega) nD2 (fun H s => SqL.of (s _ _ hD9)) (fun i v c H10 H11 k e hc s10 hY hk => ?_) fun H10 s10 hD2 => ?_⟩
    · obtain ⟨rfl, hv⟩ := hY
      rw [List.getElem?_map, hv] at hc
      cases hc
      obtain ⟨d, od, pd⟩ := vx9 v (List.mem_of_getElem? hv)
      refine ⟨rfl, _, rfl, _, rfl, wp, r, g, as, rs, gs, v, d, rfl, hw9.same s10, W.win, W.asc, W.nd, W.ok, (od.same s10).dt, Nat.le_trans pd.1.2.1 (by decide), fun H12 s12 => ?_⟩
      rw [pd.2]
      exact ⟨true, true, rfl, rfl, hk _ s12⟩
    have alt : (xs.map fun _ => true).all id = true := by simp
    refine ⟨D2, _, rfl, SqL.of hD2, _, rfl, ?_⟩
    rw [alt]
    refine ifF rfl ?_
    have hw10 := hw9.same s10
    have bt10 := bt9'.trans (.of s10)
    have vx10 := (vx9.same s10).imp fun _ h => PT.vl h
    have vy10 := vy.same s10
    have hD10 := s10 _ _ hD9
    have hN10 := s10 _ _ hN
    have p10 := pt9.same s10
    clear hw9 bt9' vx9 vy hD9 hN pt9 s10 hD2 nD2
    -- for value in some + bent + [..]
    refine ⟨_, rfl, _, rfl, D, N, xs, ys, rfl, rfl, hD10, hN10, Nat.le_trans (show xs.length + ys.length ≤ 100 by omega) (by decide), fun c nc => ?_⟩
    have zc := same_new nc (o := .lst (xs ++ ys))
    have hc : upd H10 c (.lst (xs ++ ys)) c = some (.lst (xs ++ ys)) := upd_same
    have hw11 := hw10.same zc
    have bt11 := bt10.trans (.of zc)
    have v11 := (vx10.app vy10).same zc
    have p11 := p10.same zc
    generalize upd H10 c (.lst (xs ++ ys)) = H11 at hc hw11 bt11 v11 p11 ⊢
    clear hw10 bt10 vx10 vy10 hD10 hN10 p10 zc nc
    have lv := sole_live p11
    refine lit_list (K := K) (S := sole p) (H0 := H11) (ds := [.none, .bool true, .int 7, .str "p", .str "", .list [], .dict [], .tuple [.tuple []], .tuple [.none], .tuple [.tuple [.int 1, .int 2, .int 3]], .tuple [.tuple [.str "a", .str "a", .str "a"]]]) (lit_cons lit_non (lit_cons (lit_bl _) (lit_cons (lit_int _) (lit_cons (lit_str _) (lit_cons (lit_str _) (lit_cons (lit_lst lv lit_nil) (lit_cons (lit_dnew lv) (lit_cons (lit_tup lv (lit_cons (lit_tup lv lit_nil) lit_nil) (by show 1 ≤ 4000; decide)) (lit_cons (lit_tup lv (lit_cons lit_non lit_nil) (by show 1 ≤ 4000; decide))
      (lit_cons (lit_tup lv (lit_cons (lit_tup lv (lit_cons (lit_int _) (lit_cons (lit_int _) (lit_cons (lit_int _) lit_nil))) (by show 3 ≤ 4000; decide)) lit_nil) (by show 1 ≤ 4000; decide)) (lit_cons (lit_tup lv (lit_cons (lit_tup lv (lit_cons (lit_str _) (lit_cons (lit_str _) (lit_cons (lit_str _) lit_nil))) (by show 3 ≤ 4000; decide)) lit_nil) (by show 1 ≤ 4000; decide)) lit_nil))))))))))) lv (fun _ _ e => e) (by show 11 ≤ 4000; decide) fun H12 L7 zs s12 nL7 hL7 nS7 hz => ?_
    have lz := DtAll.length hz
    have l11 : ([.none, .bool true, .int 7, .str "p", .str "", .list [], .dict [], .tuple [.tuple []], .tuple [.none], .tuple [.tuple [.int 1, .int 2, .int 3]], .tuple [.tuple [.str "a", .str "a", .str "a"]]] : List PyData).length = 11 := rfl
    have vz : Vp Vl K (sole p) H12 zs := fun x hx => by
      obtain ⟨i, hi⟩ := List.mem_iff_getElem?.mp hx
      obtain ⟨e, hei, od1⟩ := dt_at hz hi
      refine ⟨e, od1, ?_⟩
      have ap : Asc "p" := by unfold Asc; decide +kernel
      have aa : Asc "a" := by unfold Asc; decide +kernel
      have a0 : Asc "" := by unfold Asc; decide +kernel
      have := List.mem_of_getElem? hei
      simp only [List.mem_cons, List.not_mem_nil, or_false] at this
      rcases this with rfl | rfl | rfl | rfl | rfl | rfl | rfl | rfl | rfl | rfl | rfl
      · exact ⟨.non, by decide +kernel, by decide +kernel⟩
      · exact ⟨.bl _, by decide +kernel, by decide +kernel⟩
      · exact ⟨.int _ (by decide +kernel) (by decide +kernel), by decide +kernel, by decide +kernel⟩
      · exact ⟨.str _ ap, by decide +kernel, by decide +kernel⟩
      · exact ⟨.str _ a0, by decide +kernel, by decide +kernel⟩
      · exact ⟨.lst _ fun _ h => absurd h List.not_mem_nil, by decide +kernel, by decide +kernel⟩
      · exact ⟨.dic, by decide +kernel, by decide +kernel⟩
      · exact ⟨.tup _ fun x h => by rw [List.mem_singleton.mp h]; exact .tup _ fun _ h => absurd h List.not_mem_nil, by decide +kernel, by decide +kernel⟩
      · exact ⟨.tup _ fun x h => by rw [List.mem_singleton.mp h]; exact .non, by decide +kernel, by decide +kernel⟩
      · refine ⟨.tup _ fun x h => ?_, by decide +kernel, by decide +kernel⟩
        rw [List.mem_singleton.mp h]
        refine .tup _ fun y h => ?_
        simp only [List.mem_cons, List.not_mem_nil, or_false] at h
        rcases h with rfl | rfl | rfl <;> exact .int _ (by decide +kernel) (by decide +kernel)
      · refine ⟨.tup _ fun x h => ?_, by decide +kernel, by decide +kernel⟩
        rw [List.mem_singleton.mp h]
        refine .tup _ fun y h => ?_
        simp only [List.mem_cons, List.not_mem_nil, or_false] at h
        rcases h with rfl | rfl | rfl <;> exact .str _ aa
    have hc12 := s12 _ _ hc
    refine ⟨c, L7, _, zs, rfl, rfl, hc12, hL7, Nat.le_trans (show (xs ++ ys).length + zs.length ≤ 100 by rw [List.length_append]; omega) (by decide), fun R nR => ?_⟩
    have zR := same_new nR (o := .lst ((xs ++ ys) ++ zs))
    have hR : upd H12 R (.lst ((xs ++ ys) ++ zs)) R = some (.lst ((xs ++ ys) ++ zs)) := upd_same
    have vR := ((v11.same s12).app vz).same zR
    have hw13 := (hw11.same s12).same zR
    have bt13 := bt11.trans (.of (s12.trans zR))
    generalize upd H12 R (.lst ((xs ++ ys) ++ zs)) = H13 at hR vR hw13 bt13 ⊢
    refine ⟨R, rfl, ⟨_, SqL.of hR⟩, for_it (walk_list (xs := (xs ++ ys) ++ zs)) (fun i σ H' => ∃ v6 : Option V, σ = [some (.ref a), some v, some (.ref p), some (.ref wp), some (.ref D), some (.ref N), v6, none, none, none] ∧ Same H13 H') ⟨v6, rfl, fun _ _ e => e⟩ (fun i σ H' _ ⟨_, _, s'⟩ => SqL.of (s' _ _ hR)) (fun i y σ H14 H15 hi hP hY => ?_) (fun σ H14 hP => ?_)⟩
    · obtain ⟨w6, rfl, s14⟩ := hP
      obtain ⟨rfl, hy⟩ := hY
      obtain ⟨d, od, vd⟩ := vR y (List.mem_of_getElem? hy)
      refine ⟨_, rfl, _, rfl, wp, r, g, as, rs, gs, y, d, rfl, hw13.same s14, W, (od.same s14).dt, vd, fun H16 s16 => ⟨_, rfl, ifF rfl ?_⟩⟩
      exact ⟨_, rfl, s14.trans s16⟩
    · obtain ⟨w6, rfl, s14⟩ := hP
      refine ⟨_, _, _, _, _, _, rfl, fun c o ec => s14 _ _ (bt13 _ _ (ne_of_none ec npH) ec)⟩
end
end K35

set_option Elab.async false
set_option linter.all false
set_option maxRecDepth 100000
set_option maxHeartbeats 4000000
/-! The law's own call, from a promise that holds where no repr is under way. -/
namespace WT
open PySem PySem.Spec PyProof.Rows L2
section
variable {P : Program} {w : World} {K : PySem.W.Frag} {mg mb : Str → Option Value} {k : Nat} {fa a : Addr} {fd : FuncData} {x : Str} {sp : Sp} {s1 : Shared} {us : List Value} {ns : List Int}
/-- from an abstract heap that tracks the script alone, or nothing -/
theorem lawG_core {H : Hp} (kin : K.In s1.heap) (hg : s1.heap.Ns mainGlobals mg) (hb : s1.heap.Ns builtinsNs mb) (hbb : ∀ y : Str, y ≠ "__name__" → mb y = bootBuiltins y) (hlim : s1.heap.NoLimit) (hgn : s1.gens = #[])
    (ha : s1.heap.get? a = some { cls := .type "list", data := .seq us.toArray }) (hr : Room k callerA) (F : ∀ base : Heap, K.In base → base.Ns mainGlobals mg → FnG P w K mg base CX0 k fa fd [x] sp)
    (hbind : ∀ (s : Shared) (u : Value), BindsTo s fd ⟨[u], []⟩ [(x, u)]) (hO : Only H) (hok : HOk P w H s1.heap) (hA : ∀ b, H b ≠ none → b = a) (hK : H a ≠ none → K.lookup a = none)
    (hsp : sp [.ref a] H (fun v _ => v = .bl true) fun _ _ _ => False) :
    codeAny (model P w) callerA (.call (.ref fa) ⟨[.ref a], []⟩) (fun r s' => r = .ok (.ret (.bool true)) ∧ OldK s1.heap s'.heap ∧ s'.os = s1.os ∧ AllBare s'.gens) s1 := by
  have nodict : ∀ {b : Addr} {o : Obj} {es : Array DictEntry} {ep : Nat}, s1.heap.get? b = some o → o.data = .dict es ep → H b = none := by
    intro b o es ep e d
    cases q : H b with
    | none => rfl
    | some u =>
      obtain rfl := hA b (by rw [q]; exact fun z => nomatch z)
      rw [ha] at e
      cases e
      cases d
  have ns : ∀ {b : Addr} {m : Str → Option Value}, s1.heap.Ns b m → (hidT s1.heap H).Ns b m := by
    intro b m hn
    obtain ⟨o, es, ep, e, d, r⟩ := hn
    exact ⟨o, es, ep, hidT_get e (nodict e d), d, r⟩
  have kin' : K.In (hidT s1.heap H) := by
    intro b o e
    refine hidT_get (kin b o e) ?_
    cases q : H b with
    | none => rfl
    | some u =>
      have eb := hA b (by rw [q]; exact fun z => nomatch z)
      rw [eb] at e q
      rw [hK (by rw [q]; exact fun z => nomatch z)] at e
      cases e
  obtain ⟨mc, l1, l2⟩ := hlim
  have md : Mod K mg (hidT s1.heap H) := ⟨kin', ns hg, ⟨mb, ns hb, hbb⟩, ⟨mc, ns l1, l2⟩⟩
  have e0 : Env0 P w K mg (hidT s1.heap H) callerA [] s1 H :=
    { frames := rfl, mod := md, bs := fun b o e => of_hidT e, bsz := Nat.le_of_eq (hidT_size _ _), funs := trivial, frf := fun b z => absurd (show b ∈ ([] : List Addr) from z) (by simp), hok := hok, bare := .of_eq hgn }
  refine codeAny_mono ((F _ kin' (ns hg)).run callerA [] s1 H ⟨[.ref a], []⟩ [.ref a] [.ref a] _ _ rfl hr e0 (hbind s1 (.ref a)) (.cons rfl .nil) hsp) fun r s' h => ?_
  match r, h with
  | .error e, h => exact h.elim
  | .ok .next, h => exact h.elim
  | .ok .brk, h => exact h.elim
  | .ok .cont, h => exact h.elim
  | .ok (.ret u), h =>
    obtain ⟨v, H', os, bare, un, hok', rv, q⟩ := h
    have q' : v = .bl true := q
    subst q'
    obtain rfl : u = Value.bool true := rv
    refine ⟨rfl, OldK.of_keep fun b o e => ?_, os, bare⟩
    rcases hO b with z | ⟨ob, xs, z⟩
    · exact un.keep b o e z (fun y => absurd (show b ∈ ([] : List Addr) from y) (by simp)) (by simp)
    · have e1 := (hok b _ z).1
      have e2 := (hok' b _ (un.frzs b ob _ z)).1
      rw [e] at e1
      cases e1
      exact e2
theorem lawG_call (kin : K.In s1.heap) (hg : s1.heap.Ns mainGlobals mg) (hb : s1.heap.Ns builtinsNs mb) (hbb : ∀ y : Str, y ≠ "__name__" → mb y = bootBuiltins y) (hlim : s1.heap.NoLimit) (hgn : s1.gens = #[])
    (ha : s1.heap.get? a = some { cls := .type "list", data := .seq us.toArray }) (hi : IntsAre us ns) (hl : ns.length ≤ sizeLine) (hr : Room k callerA)
    (F : ∀ base : Heap, K.In base → base.Ns mainGlobals mg → FnG P w K mg base CX0 k fa fd [x] sp) (hbind : ∀ (s : Shared) (u : Value), BindsTo s fd ⟨[u], []⟩ [(x, u)])
    (hsp : ∀ H : Hp, Only H → SqL K H a (ns.map V.int) → sp [.ref a] H (fun v _ => v = .bl true) fun _ _ _ => False) :
    codeAny (model P w) callerA (.call (.ref fa) ⟨[.ref a], []⟩) (fun r s' => r = .ok (.ret (.bool true)) ∧ OldK s1.heap s'.heap ∧ s'.os = s1.os ∧ AllBare s'.gens) s1 := by
  have rv := vals_ints hi
  cases hk : K.lookup a with
  | some o =>
    have e := kin a o hk
    rw [ha] at e
    cases e
    have no : ∀ b : Addr, (fun _ : Addr => (none : Option HO)) b = none := fun _ => rfl
    refine lawG_core (H := fun _ => none) kin hg hb hbb hlim hgn ha hr F hbind (fun b => .inl rfl) (fun b u z => nomatch z) (fun b z => absurd (no b) z) (fun z => absurd (no a) z) (hsp _ (fun b => .inl rfl) ?_)
    exact .inr ⟨_, us.toArray, _, hk, rfl, rfl, rfl, by rw [List.size_toArray, hi.length]; exact hl, by simpa using rv⟩
  | none =>
    obtain ⟨H, hH⟩ : ∃ H : Hp, ∀ b, H b = if b = a then some (.frz { cls := .type "list", data := .seq us.toArray } (.lst (ns.map V.int))) else none := ⟨_, fun _ => rfl⟩
    have at_ : H a = some (.frz { cls := .type "list", data := .seq us.toArray } (.lst (ns.map V.int))) := by rw [hH a, if_pos rfl]
    have off : ∀ b, b ≠ a → H b = none := fun b z => by rw [hH b, if_neg z]
    have only : Only H := fun b => by
      by_cases z : b = a
      · rw [z]
        exact .inr ⟨_, _, at_⟩
      · exact .inl (off b z)
    refine lawG_core (H := H) kin hg hb hbb hlim hgn ha hr F hbind only (fun b u z => ?_) (fun b z => ?_) (fun _ => hk) (hsp H only (.inl (.inr ⟨_, at_⟩)))
    · by_cases e : b = a
      · subst e
        rw [at_] at z
        cases z
        exact ⟨ha, by rw [List.length_map]; exact hl, us, _, rv, ha⟩
      · rw [off b e] at z
        cases z
    · by_cases e : b = a
      · exact e
      · exact absurd (off b e) z
end
/-- the goal that the head leaves, from the law's promise -/
theorem walkG {l : PySem.W.OpenLaw} {n k : Nat} {q : Program} {loose : List Str} {XP : (Str → Option Value) → Heap → Prop} {YP : World → Heap → Prop} {d : DefRec} {K : Params → PySem.W.Frag} {sp : World → Sp} {x : Str}
    (hn : l.most = some n) (hn2 : n ≤ sizeLine) (hdf : d.params.defaults = []) (hr : Room k callerA) (hY : ∀ (w : World) (h : Heap), YP w h → (K w.params).In h)
    (F : ∀ (w : World) (mg : Str → Option Value) (fa : Addr) (h : Heap), (K w.params).In h → h.Ns mainGlobals mg → mg d.name = some (.ref fa) →
      ∃ fd : FuncData, (∀ (s : Shared) (u : Value), BindsTo s fd ⟨[u], []⟩ [(x, u)]) ∧ ∀ base : Heap, (K w.params).In base → base.Ns mainGlobals mg → FnG l.prog w (K w.params) mg base CX0 k fa fd [x] (sp w))
    (hsp : ∀ (w : World) (H : Hp) (a : Addr) (ns : List Int), ns.length ≤ n → Only H → SqL (K w.params) H a (ns.map V.int) → sp w [.ref a] H (fun v _ => v = .bl true) fun _ _ _ => False) :
    PySem.W.WalkO q loose XP YP l.row.toRowW d [] (fun f vs => PySem.call f vs) := by
  refine Att.attach_call hn hdf fun w s0 s1 mg mb fa o pm cd doc a vs ns G Y ho hd hcd hmg hobj hints hlen hgn => ?_
  have kin := hY w _ Y
  obtain ⟨fd, hb, hF⟩ := F w mg fa _ kin G.T.g hmg
  exact lawG_call kin G.T.g G.T.b G.T.builtins G.T.nolimit hgn hobj hints (Nat.le_trans hlen hn2) hr hF hb fun H hO hS => hsp w H a ns hlen hO hS
end WT

set_option Elab.async false
set_option linter.all false
set_option maxRecDepth 100000
set_option maxHeartbeats 4000000
namespace K35
open PySem PySem.Spec PyProof.Rows L2 WT
theorem all_mk {l : PySem.W.OpenLaw} {w : World} {K : PySem.W.Frag} {h : Heap} {mg : Str → Option Value} {fa : Addr} {f_wrapping_names f_members f_leads f_exits f_shortest_path f_connected f_zone_of f_zones f_is_crossing f_is_trail f_draws f_below f_choice f_labels f_mixed f_gateways f_world f_zone f_due f_trail f_odd f_bent f_right f_law : Addr} (X : K.In h) (G : h.Ns mainGlobals mg) (hfa : mg "law" = some (.ref fa))
    {od_wrapping_names an_wrapping_names : Option Addr} {sl_wrapping_names : Array (Option Value)} {oc_wrapping_names kV_wrapping_names dc_wrapping_names pm_wrapping_names cd_wrapping_names ct_wrapping_names : Value}
    {od_members an_members : Option Addr} {sl_members : Array (Option Value)} {oc_members kV_members dc_members pm_members cd_members ct_members : Value}
    {od_leads an_leads : Option Addr} {sl_leads : Array (Option Value)} {oc_leads kV_leads dc_leads pm_leads cd_leads ct_leads : Value}
    {od_exits an_exits : Option Addr} {sl_exits : Array (Option Value)} {oc_exits kV_exits dc_exits pm_exits cd_exits ct_exits : Value}
    {od_shortest_path an_shortest_path : Option Addr} {sl_shortest_path : Array (Option Value)} {oc_shortest_path kV_shortest_path dc_shortest_path pm_shortest_path cd_shortest_path ct_shortest_path : Value}
    {od_connected an_connected : Option Addr} {sl_connected : Array (Option Value)} {oc_connected dc_connected pm_connected cd_connected ct_connected : Value}
    {D_connected T_connected : Addr} {odt_connected : Option Addr} {slt_connected : Array (Option Value)} {nt_connected : Nat}
    {od_zone_of an_zone_of : Option Addr} {sl_zone_of : Array (Option Value)} {oc_zone_of kV_zone_of dc_zone_of pm_zone_of cd_zone_of ct_zone_of : Value}
    {od_zones an_zones : Option Addr} {sl_zones : Array (Option Value)} {oc_zones kV_zones dc_zones pm_zones cd_zones ct_zones : Value}
    {od_is_crossing an_is_crossing : Option Addr} {sl_is_crossing : Array (Option Value)} {oc_is_crossing kV_is_crossing dc_is_crossing pm_is_crossing cd_is_crossing ct_is_crossing : Value}
    {od_is_trail an_is_trail : Option Addr} {sl_is_trail : Array (Option Value)} {oc_is_trail kV_is_trail dc_is_trail pm_is_trail cd_is_trail ct_is_trail : Value}
    {od_draws an_draws : Option Addr} {sl_draws : Array (Option Value)} {oc_draws kV_draws dc_draws pm_draws cd_draws ct_draws : Value}
    {od_below an_below : Option Addr} {sl_below : Array (Option Value)} {oc_below kV_below dc_below pm_below cd_below ct_below : Value}
    {od_choice an_choice : Option Addr} {sl_choice : Array (Option Value)} {oc_choice kV_choice dc_choice pm_choice cd_choice ct_choice : Value}
    {od_labels an_labels : Option Addr} {sl_labels : Array (Option Value)} {oc_labels kV_labels dc_labels pm_labels cd_labels ct_labels : Value}
    {od_mixed an_mixed : Option Addr} {sl_mixed : Array (Option Value)} {oc_mixed kV_mixed dc_mixed pm_mixed cd_mixed ct_mixed : Value}
    {od_gateways an_gateways : Option Addr} {sl_gateways : Array (Option Value)} {oc_gateways kV_gateways dc_gateways pm_gateways cd_gateways ct_gateways : Value}
    {od_world an_world : Option Addr} {sl_world : Array (Option Value)} {oc_world kV_world dc_world pm_world cd_world ct_world : Value}
    {od_zone an_zone : Option Addr} {sl_zone : Array (Option Value)} {oc_zone kV_zone dc_zone pm_zone cd_zone ct_zone : Value}
    {od_due an_due : Option Addr} {sl_due : Array (Option Value)} {oc_due kV_due dc_due pm_due cd_due ct_due : Value}
    {od_trail an_trail : Option Addr} {sl_trail : Array (Option Value)} {oc_trail kV_trail dc_trail pm_trail cd_trail ct_trail : Value}
    {od_odd an_odd : Option Addr} {sl_odd : Array (Option Value)} {oc_odd kV_odd dc_odd pm_odd cd_odd ct_odd : Value}
    {od_bent an_bent : Option Addr} {sl_bent : Array (Option Value)} {oc_bent kV_bent dc_bent pm_bent cd_bent ct_bent : Value}
    {od_right an_right : Option Addr} {sl_right : Array (Option Value)} {oc_right kV_right dc_right pm_right cd_right ct_right : Value}
    {od_law an_law : Option Addr} {sl_law : Array (Option Value)} {oc_law kV_law dc_law pm_law cd_law ct_law : Value}
    (a_wrapping_names : PySem.W.nsIn K mainGlobals "wrapping_names" = some (some (.ref f_wrapping_names)))
    (l_wrapping_names : K.lookup f_wrapping_names = some ⟨oc_wrapping_names, od_wrapping_names, .func (PySem.W.fnOf "wrapping_names" "wrapping_names" (defArgs st_wrapping_names) (defBody st_wrapping_names) (defScope st_wrapping_names) .none kV_wrapping_names dc_wrapping_names pm_wrapping_names an_wrapping_names cd_wrapping_names ct_wrapping_names), sl_wrapping_names⟩)
    (c_wrapping_names : PySem.W.codeIn K cd_wrapping_names "wrapping_names" = true)
    (k_wrapping_names : PySem.W.keepIn K (.ref f_wrapping_names) = true)
    (a_members : PySem.W.nsIn K mainGlobals "members" = some (some (.ref f_members)))
    (l_members : K.lookup f_members = some ⟨oc_members, od_members, .func (PySem.W.fnOf "members" "members" (defArgs st_members) (defBody st_members) (defScope st_members) .none kV_members dc_members pm_members an_members cd_members ct_members), sl_members⟩)
    (c_members : PySem.W.codeIn K cd_members "members" = true)
    (k_members : PySem.W.keepIn K (.ref f_members) = true)
    (a_leads : PySem.W.nsIn K mainGlobals "leads" = some (some (.ref f_leads)))
    (l_leads : K.lookup f_leads = some ⟨oc_leads, od_leads, .func (PySem.W.fnOf "leads" "leads" (defArgs st_leads) (defBody st_leads) (defScope st_leads) .none kV_leads dc_leads pm_leads an_leads cd_leads ct_leads), sl_leads⟩)
    (c_leads : PySem.W.codeIn K cd_leads "leads" = true)
    (k_leads : PySem.W.keepIn K (.ref f_leads) = true)
    (a_exits : PySem.W.nsIn K mainGlobals "exits" = some (some (.ref f_exits)))
    (l_exits : K.lookup f_exits = some ⟨oc_exits, od_exits, .func (PySem.W.fnOf "exits" "exits" (defArgs st_exits) (defBody st_exits) (defScope st_exits) .none kV_exits dc_exits pm_exits an_exits cd_exits ct_exits), sl_exits⟩)
    (c_exits : PySem.W.codeIn K cd_exits "exits" = true)
    (k_exits : PySem.W.keepIn K (.ref f_exits) = true)
    (a_shortest_path : PySem.W.nsIn K mainGlobals "shortest_path" = some (some (.ref f_shortest_path)))
    (l_shortest_path : K.lookup f_shortest_path = some ⟨oc_shortest_path, od_shortest_path, .func (PySem.W.fnOf "shortest_path" "shortest_path" (defArgs st_shortest_path) (defBody st_shortest_path) (defScope st_shortest_path) .none kV_shortest_path dc_shortest_path pm_shortest_path an_shortest_path cd_shortest_path ct_shortest_path), sl_shortest_path⟩)
    (c_shortest_path : PySem.W.codeIn K cd_shortest_path "shortest_path" = true)
    (k_shortest_path : PySem.W.keepIn K (.ref f_shortest_path) = true)
    (a_connected : PySem.W.nsIn K mainGlobals "connected" = some (some (.ref f_connected)))
    (l_connected : K.lookup f_connected = some ⟨oc_connected, od_connected, .func (PySem.W.fnOf "connected" "connected" (defArgs st_connected) (defBody st_connected) (defScope st_connected) .none (.ref D_connected) dc_connected pm_connected an_connected cd_connected ct_connected), sl_connected⟩)
    (c_connected : PySem.W.codeIn K cd_connected "connected" = true)
    (k_connected : PySem.W.keepIn K (.ref f_connected) = true)
    (n_connected : PySem.W.nsIn K D_connected "without" = some (some (.ref T_connected)))
    (t_connected : K.lookup T_connected = some ⟨.type "tuple", odt_connected, .seq #[] nt_connected, slt_connected⟩)
    (a_zone_of : PySem.W.nsIn K mainGlobals "zone_of" = some (some (.ref f_zone_of)))
    (l_zone_of : K.lookup f_zone_of = some ⟨oc_zone_of, od_zone_of, .func (PySem.W.fnOf "zone_of" "zone_of" (defArgs st_zone_of) (defBody st_zone_of) (defScope st_zone_of) .none kV_zone_of dc_zone_of pm_zone_of an_zone_of cd_zone_of ct_zone_of), sl_zone_of⟩)
    (c_zone_of : PySem.W.codeIn K cd_zone_of "zone_of" = true)
    (k_zone_of : PySem.W.keepIn K (.ref f_zone_of) = true)
    (a_zones : PySem.W.nsIn K mainGlobals "zones" = some (some (.ref f_zones)))
    (l_zones : K.lookup f_zones = some ⟨oc_zones, od_zones, .func (PySem.W.fnOf "zones" "zones" (defArgs st_zones) (defBody st_zones) (defScope st_zones) .none kV_zones dc_zones pm_zones an_zones cd_zones ct_zones), sl_zones⟩)
    (c_zones : PySem.W.codeIn K cd_zones "zones" = true)
    (k_zones : PySem.W.keepIn K (.ref f_zones) = true)
    (a_is_crossing : PySem.W.nsIn K mainGlobals "is_crossing" = some (some (.ref f_is_crossing)))
    (l_is_crossing : K.lookup f_is_crossing = some ⟨oc_is_crossing, od_is_crossing, .func (PySem.W.fnOf "is_crossing" "is_crossing" (defArgs st_is_crossing) (defBody st_is_crossing) (defScope st_is_crossing) .none kV_is_crossing dc_is_crossing pm_is_crossing an_is_crossing cd_is_crossing ct_is_crossing), sl_is_crossing⟩)
    (c_is_crossing : PySem.W.codeIn K cd_is_crossing "is_crossing" = true)
    (k_is_crossing : PySem.W.keepIn K (.ref f_is_crossing) = true)
    (a_is_trail : PySem.W.nsIn K mainGlobals "is_trail" = some (some (.ref f_is_trail)))
    (l_is_trail : K.lookup f_is_trail = some ⟨oc_is_trail, od_is_trail, .func (PySem.W.fnOf "is_trail" "is_trail" (defArgs st_is_trail) (defBody st_is_trail) (defScope st_is_trail) .none kV_is_trail dc_is_trail pm_is_trail an_is_trail cd_is_trail ct_is_trail), sl_is_trail⟩)
    (c_is_trail : PySem.W.codeIn K cd_is_trail "is_trail" = true)
    (k_is_trail : PySem.W.keepIn K (.ref f_is_trail) = true)
    (a_draws : PySem.W.nsIn K mainGlobals "_law_draws" = some (some (.ref f_draws)))
    (l_draws : K.lookup f_draws = some ⟨oc_draws, od_draws, .func (PySem.W.fnOf "_law_draws" "_law_draws" (defArgs st_draws) (defBody st_draws) (defScope st_draws) .none kV_draws dc_draws pm_draws an_draws cd_draws ct_draws), sl_draws⟩)
    (c_draws : PySem.W.codeIn K cd_draws "_law_draws" = true)
    (k_draws : PySem.W.keepIn K (.ref f_draws) = true)
    (a_below : PySem.W.nsIn K mainGlobals "_law_below" = some (some (.ref f_below)))
    (l_below : K.lookup f_below = some ⟨oc_below, od_below, .func (PySem.W.fnOf "_law_below" "_law_below" (defArgs st_below) (defBody st_below) (defScope st_below) .none kV_below dc_below pm_below an_below cd_below ct_below), sl_below⟩)
    (c_below : PySem.W.codeIn K cd_below "_law_below" = true)
    (k_below : PySem.W.keepIn K (.ref f_below) = true)
    (a_choice : PySem.W.nsIn K mainGlobals "_law_choice" = some (some (.ref f_choice)))
    (l_choice : K.lookup f_choice = some ⟨oc_choice, od_choice, .func (PySem.W.fnOf "_law_choice" "_law_choice" (defArgs st_choice) (defBody st_choice) (defScope st_choice) .none kV_choice dc_choice pm_choice an_choice cd_choice ct_choice), sl_choice⟩)
    (c_choice : PySem.W.codeIn K cd_choice "_law_choice" = true)
    (k_choice : PySem.W.keepIn K (.ref f_choice) = true)
    (a_labels : PySem.W.nsIn K mainGlobals "_law_labels" = some (some (.ref f_labels)))
    (l_labels : K.lookup f_labels = some ⟨oc_labels, od_labels, .func (PySem.W.fnOf "_law_labels" "_law_labels" (defArgs st_labels) (defBody st_labels) (defScope st_labels) .none kV_labels dc_labels pm_labels an_labels cd_labels ct_labels), sl_labels⟩)
    (c_labels : PySem.W.codeIn K cd_labels "_law_labels" = true)
    (k_labels : PySem.W.keepIn K (.ref f_labels) = true)
    (a_mixed : PySem.W.nsIn K mainGlobals "_law_mixed" = some (some (.ref f_mixed)))
    (l_mixed : K.lookup f_mixed = some ⟨oc_mixed, od_mixed, .func (PySem.W.fnOf "_law_mixed" "_law_mixed" (defArgs st_mixed) (defBody st_mixed) (defScope st_mixed) .none kV_mixed dc_mixed pm_mixed an_mixed cd_mixed ct_mixed), sl_mixed⟩)
    (c_mixed : PySem.W.codeIn K cd_mixed "_law_mixed" = true)
    (k_mixed : PySem.W.keepIn K (.ref f_mixed) = true)
    (a_gateways : PySem.W.nsIn K mainGlobals "_law_gateways" = some (some (.ref f_gateways)))
    (l_gateways : K.lookup f_gateways = some ⟨oc_gateways, od_gateways, .func (PySem.W.fnOf "_law_gateways" "_law_gateways" (defArgs st_gateways) (defBody st_gateways) (defScope st_gateways) .none kV_gateways dc_gateways pm_gateways an_gateways cd_gateways ct_gateways), sl_gateways⟩)
    (c_gateways : PySem.W.codeIn K cd_gateways "_law_gateways" = true)
    (k_gateways : PySem.W.keepIn K (.ref f_gateways) = true)
    (a_world : PySem.W.nsIn K mainGlobals "_law_world" = some (some (.ref f_world)))
    (l_world : K.lookup f_world = some ⟨oc_world, od_world, .func (PySem.W.fnOf "_law_world" "_law_world" (defArgs st_world) (defBody st_world) (defScope st_world) .none kV_world dc_world pm_world an_world cd_world ct_world), sl_world⟩)
    (c_world : PySem.W.codeIn K cd_world "_law_world" = true)
    (k_world : PySem.W.keepIn K (.ref f_world) = true)
    (a_zone : PySem.W.nsIn K mainGlobals "_law_zone" = some (some (.ref f_zone)))
    (l_zone : K.lookup f_zone = some ⟨oc_zone, od_zone, .func (PySem.W.fnOf "_law_zone" "_law_zone" (defArgs st_zone) (defBody st_zone) (defScope st_zone) .none kV_zone dc_zone pm_zone an_zone cd_zone ct_zone), sl_zone⟩)
    (c_zone : PySem.W.codeIn K cd_zone "_law_zone" = true)
    (k_zone : PySem.W.keepIn K (.ref f_zone) = true)
    (a_due : PySem.W.nsIn K mainGlobals "_law_due" = some (some (.ref f_due)))
    (l_due : K.lookup f_due = some ⟨oc_due, od_due, .func (PySem.W.fnOf "_law_due" "_law_due" (defArgs st_due) (defBody st_due) (defScope st_due) .none kV_due dc_due pm_due an_due cd_due ct_due), sl_due⟩)
    (c_due : PySem.W.codeIn K cd_due "_law_due" = true)
    (k_due : PySem.W.keepIn K (.ref f_due) = true)
    (a_trail : PySem.W.nsIn K mainGlobals "_law_trail" = some (some (.ref f_trail)))
    (l_trail : K.lookup f_trail = some ⟨oc_trail, od_trail, .func (PySem.W.fnOf "_law_trail" "_law_trail" (defArgs st_trail) (defBody st_trail) (defScope st_trail) .none kV_trail dc_trail pm_trail an_trail cd_trail ct_trail), sl_trail⟩)
    (c_trail : PySem.W.codeIn K cd_trail "_law_trail" = true)
    (k_trail : PySem.W.keepIn K (.ref f_trail) = true)
    (a_odd : PySem.W.nsIn K mainGlobals "_law_odd" = some (some (.ref f_odd)))
    (l_odd : K.lookup f_odd = some ⟨oc_odd, od_odd, .func (PySem.W.fnOf "_law_odd" "_law_odd" (defArgs st_odd) (defBody st_odd) (defScope st_odd) .none kV_odd dc_odd pm_odd an_odd cd_odd ct_odd), sl_odd⟩)
    (c_odd : PySem.W.codeIn K cd_odd "_law_odd" = true)
    (k_odd : PySem.W.keepIn K (.ref f_odd) = true)
    (a_bent : PySem.W.nsIn K mainGlobals "_law_bent" = some (some (.ref f_bent)))
    (l_bent : K.lookup f_bent = some ⟨oc_bent, od_bent, .func (PySem.W.fnOf "_law_bent" "_law_bent" (defArgs st_bent) (defBody st_bent) (defScope st_bent) .none kV_bent dc_bent pm_bent an_bent cd_bent ct_bent), sl_bent⟩)
    (c_bent : PySem.W.codeIn K cd_bent "_law_bent" = true)
    (k_bent : PySem.W.keepIn K (.ref f_bent) = true)
    (a_right : PySem.W.nsIn K mainGlobals "_law_right" = some (some (.ref f_right)))
    (l_right : K.lookup f_right = some ⟨oc_right, od_right, .func (PySem.W.fnOf "_law_right" "_law_right" (defArgs st_right) (defBody st_right) (defScope st_right) .none kV_right dc_right pm_right an_right cd_right ct_right), sl_right⟩)
    (c_right : PySem.W.codeIn K cd_right "_law_right" = true)
    (k_right : PySem.W.keepIn K (.ref f_right) = true)
    (a_law : PySem.W.nsIn K mainGlobals "law" = some (some (.ref f_law)))
    (l_law : K.lookup f_law = some ⟨oc_law, od_law, .func (PySem.W.fnOf "law" "law" (defArgs st_law) (defBody st_law) (defScope st_law) .none kV_law dc_law pm_law an_law cd_law ct_law), sl_law⟩)
    (c_law : PySem.W.codeIn K cd_law "law" = true)
    (k_law : PySem.W.keepIn K (.ref f_law) = true)
    (z_len : PySem.W.nsIn K mainGlobals "len" = some none)
    (z_abs : PySem.W.nsIn K mainGlobals "abs" = some none)
    (z_int : PySem.W.nsIn K mainGlobals "int" = some none)
    (z_range : PySem.W.nsIn K mainGlobals "range" = some none)
    (z_list : PySem.W.nsIn K mainGlobals "list" = some none)
    (z_tuple : PySem.W.nsIn K mainGlobals "tuple" = some none)
    (z_sorted : PySem.W.nsIn K mainGlobals "sorted" = some none)
    (z_min : PySem.W.nsIn K mainGlobals "min" = some none)
    (z_max : PySem.W.nsIn K mainGlobals "max" = some none)
    (z_all : PySem.W.nsIn K mainGlobals "all" = some none)
    (z_repr : PySem.W.nsIn K mainGlobals "repr" = some none)
    (z_dict : PySem.W.nsIn K mainGlobals "dict" = some none)
    (z_enumerate : PySem.W.nsIn K mainGlobals "enumerate" = some none)
    (z_zip : PySem.W.nsIn K mainGlobals "zip" = some none)
    (z_isinstance : PySem.W.nsIn K mainGlobals "isinstance" = some none)
    (z_str : PySem.W.nsIn K mainGlobals "str" = some none)
    (z_any : PySem.W.nsIn K mainGlobals "any" = some none) :
    ∃ fd : FuncData, (∀ (s : Shared) (v : Value), BindsTo s fd ⟨[v], []⟩ [("_law_script", v)]) ∧ ∀ base : Heap, K.In base → base.Ns mainGlobals mg → FnG l.prog w K mg base CX0 8 fa fd ["_law_script"] (spLaw K) := by
  have e := hfa.symm.trans (PySem.W.mg_of X G a_law)
  cases e
  have Fwrapping_names := fun_mk (x := "wrapping_names") (st := st_wrapping_names) l_wrapping_names c_wrapping_names k_wrapping_names
  have bwrapping_names := Fwrapping_names.binds (ps := ["world"]) fun _ _ _ _ _ _ us hl => match us, hl with | [_], _ => rfl
  have Fmembers := fun_mk (x := "members") (st := st_members) l_members c_members k_members
  have bmembers := Fmembers.binds (ps := ["world", "name"]) fun _ _ _ _ _ _ us hl => match us, hl with | [_, _], _ => rfl
  have Fleads := fun_mk (x := "leads") (st := st_leads) l_leads c_leads k_leads
  have bleads := Fleads.binds (ps := ["world", "name", "start", "end"]) fun _ _ _ _ _ _ us hl => match us, hl with | [_, _, _, _], _ => rfl
  have Fexits := fun_mk (x := "exits") (st := st_exits) l_exits c_exits k_exits
  have bexits := Fexits.binds (ps := ["world", "region", "without"]) fun _ _ _ _ _ _ us hl => match us, hl with | [_, _, _], _ => rfl
  have Fshortest_path := fun_mk (x := "shortest_path") (st := st_shortest_path) l_shortest_path c_shortest_path k_shortest_path
  have bshortest_path := Fshortest_path.binds (ps := ["world", "one", "other", "without"]) fun _ _ _ _ _ _ us hl => match us, hl with | [_, _, _, _], _ => rfl
  have Fconnected := fun_mk (x := "connected") (st := st_connected) l_connected c_connected k_connected
  have Fzone_of := fun_mk (x := "zone_of") (st := st_zone_of) l_zone_of c_zone_of k_zone_of
  have bzone_of := Fzone_of.binds (ps := ["world", "region"]) fun _ _ _ _ _ _ us hl => match us, hl with | [_, _], _ => rfl
  have Fzones := fun_mk (x := "zones") (st := st_zones) l_zones c_zones k_zones
  have bzones := Fzones.binds (ps := ["world"]) fun _ _ _ _ _ _ us hl => match us, hl with | [_], _ => rfl
  have Fis_crossing := fun_mk (x := "is_crossing") (st := st_is_crossing) l_is_crossing c_is_crossing k_is_crossing
  have bis_crossing := Fis_crossing.binds (ps := ["world", "value"]) fun _ _ _ _ _ _ us hl => match us, hl with | [_, _], _ => rfl
  have Fis_trail := fun_mk (x := "is_trail") (st := st_is_trail) l_is_trail c_is_trail k_is_trail
  have bis_trail := Fis_trail.binds (ps := ["world", "value"]) fun _ _ _ _ _ _ us hl => match us, hl with | [_, _], _ => rfl
  have Fdraws := fun_mk (x := "_law_draws") (st := st_draws) l_draws c_draws k_draws
  have bdraws := Fdraws.binds (ps := ["_law_script", "_law_k"]) fun _ _ _ _ _ _ us hl => match us, hl with | [_, _], _ => rfl
  have Fbelow := fun_mk (x := "_law_below") (st := st_below) l_below c_below k_below
  have bbelow := Fbelow.binds (ps := ["_law_draws_here", "_law_many"]) fun _ _ _ _ _ _ us hl => match us, hl with | [_, _], _ => rfl
  have Fchoice := fun_mk (x := "_law_choice") (st := st_choice) l_choice c_choice k_choice
  have bchoice := Fchoice.binds (ps := ["_law_draws_here", "_law_some"]) fun _ _ _ _ _ _ us hl => match us, hl with | [_, _], _ => rfl
  have Flabels := fun_mk (x := "_law_labels") (st := st_labels) l_labels c_labels k_labels
  have blabels := Flabels.binds (ps := ["_law_draws_here", "_law_many"]) fun _ _ _ _ _ _ us hl => match us, hl with | [_, _], _ => rfl
  have Fmixed := fun_mk (x := "_law_mixed") (st := st_mixed) l_mixed c_mixed k_mixed
  have bmixed := Fmixed.binds (ps := ["_law_draws_here", "_law_some"]) fun _ _ _ _ _ _ us hl => match us, hl with | [_, _], _ => rfl
  have Fgateways := fun_mk (x := "_law_gateways") (st := st_gateways) l_gateways c_gateways k_gateways
  have bgateways := Fgateways.binds (ps := ["_law_draws_here", "_law_regions", "_law_names", "_law_way"]) fun _ _ _ _ _ _ us hl => match us, hl with | [_, _, _, _], _ => rfl
  have Fworld := fun_mk (x := "_law_world") (st := st_world) l_world c_world k_world
  have bworld := Fworld.binds (ps := ["_law_draws_here", "_law_most"]) fun _ _ _ _ _ _ us hl => match us, hl with | [_, _], _ => rfl
  have Fzone := fun_mk (x := "_law_zone") (st := st_zone) l_zone c_zone k_zone
  have bzone := Fzone.binds (ps := ["_law_world_here", "_law_region"]) fun _ _ _ _ _ _ us hl => match us, hl with | [_, _], _ => rfl
  have Fdue := fun_mk (x := "_law_due") (st := st_due) l_due c_due k_due
  have bdue := Fdue.binds (ps := ["_law_world_here", "_law_value"]) fun _ _ _ _ _ _ us hl => match us, hl with | [_, _], _ => rfl
  have Ftrail := fun_mk (x := "_law_trail") (st := st_trail) l_trail c_trail k_trail
  have btrail := Ftrail.binds (ps := ["_law_draws_here", "_law_world_here", "_law_count"]) fun _ _ _ _ _ _ us hl => match us, hl with | [_, _, _], _ => rfl
  have Fodd := fun_mk (x := "_law_odd") (st := st_odd) l_odd c_odd k_odd
  have bodd := Fodd.binds (ps := ["_law_draws_here", "_law_world_here", "_law_value"]) fun _ _ _ _ _ _ us hl => match us, hl with | [_, _, _], _ => rfl
  have Fbent := fun_mk (x := "_law_bent") (st := st_bent) l_bent c_bent k_bent
  have bbent := Fbent.binds (ps := ["_law_draws_here", "_law_world_here", "_law_value"]) fun _ _ _ _ _ _ us hl => match us, hl with | [_, _, _], _ => rfl
  have Fright := fun_mk (x := "_law_right") (st := st_right) l_right c_right k_right
  have bright := Fright.binds (ps := ["_law_world_here", "_law_value"]) fun _ _ _ _ _ _ us hl => match us, hl with | [_, _], _ => rfl
  have Flaw := fun_mk (x := "law") (st := st_law) l_law c_law k_law
  have blaw := Flaw.binds (ps := ["_law_script"]) fun _ _ _ _ _ _ us hl => match us, hl with | [_], _ => rfl
  have B : Blt mg := ⟨PySem.W.mg_none_of X G z_len, PySem.W.mg_none_of X G z_abs, PySem.W.mg_none_of X G z_int, PySem.W.mg_none_of X G z_range, PySem.W.mg_none_of X G z_list, PySem.W.mg_none_of X G z_tuple, PySem.W.mg_none_of X G z_sorted, PySem.W.mg_none_of X G z_min, PySem.W.mg_none_of X G z_max, PySem.W.mg_none_of X G z_all, PySem.W.mg_none_of X G z_repr, PySem.W.mg_none_of X G z_dict, PySem.W.mg_none_of X G z_enumerate⟩
  have hzip : mg "zip" = none := PySem.W.mg_none_of X G z_zip
  have hisinstance : mg "isinstance" = none := PySem.W.mg_none_of X G z_isinstance
  have hstr : mg "str" = none := PySem.W.mg_none_of X G z_str
  have hany : mg "any" = none := PySem.W.mg_none_of X G z_any
  have hint : mg "int" = none := PySem.W.mg_none_of X G z_int
  refine ⟨PySem.W.fnOf "law" "law" (defArgs st_law) (defBody st_law) (defScope st_law) .none kV_law dc_law pm_law an_law cd_law ct_law, fun s v => .of_eq rfl, fun base _ _ => ?_⟩
  · have Dexits : DfO l.prog w K mg base "exits" 1 f_exits _ _ _ := ⟨PySem.W.mg_of X G a_exits, k_exits, bexits, ok_exits Fexits⟩
    have Dshortest_path : DfO l.prog w K mg base "shortest_path" 2 f_shortest_path _ _ _ := ⟨PySem.W.mg_of X G a_shortest_path, k_shortest_path, bshortest_path, ok_shortest_path Fshortest_path Dexits⟩
    have Dconnected := dk_connected (T := T_connected) (mg := mg) (base := base) (P := l.prog) (w := w) rfl l_connected c_connected k_connected n_connected (PySem.W.mg_of X G a_connected) (ok_connected Fconnected Dshortest_path)
    have Dwrapping_names : DfO l.prog w K mg base "wrapping_names" 1 f_wrapping_names _ _ _ := ⟨PySem.W.mg_of X G a_wrapping_names, k_wrapping_names, bwrapping_names, ok_wrapping_names Fwrapping_names B⟩
    have Dzone_of : DfO l.prog w K mg base "zone_of" 4 f_zone_of _ _ _ := ⟨PySem.W.mg_of X G a_zone_of, k_zone_of, bzone_of, ok_zone_of Fzone_of B Dwrapping_names Dconnected⟩
    have Dzones : DfO l.prog w K mg base "zones" 5 f_zones _ _ _ := ⟨PySem.W.mg_of X G a_zones, k_zones, bzones, ok_zones Fzones B Dzone_of⟩
    have Dmembers : DfO l.prog w K mg base "members" 1 f_members _ _ _ := ⟨PySem.W.mg_of X G a_members, k_members, bmembers, ok_members Fmembers⟩
    have Dleads : DfO l.prog w K mg base "leads" 2 f_leads _ _ _ := ⟨PySem.W.mg_of X G a_leads, k_leads, bleads, ok_leads Fleads Dmembers⟩
    have Dis_crossing : DfO l.prog w K mg base "is_crossing" 3 f_is_crossing _ _ _ := ⟨PySem.W.mg_of X G a_is_crossing, k_is_crossing, bis_crossing, ok_is_crossing Fis_crossing B hisinstance Dwrapping_names Dleads⟩
    have Dis_trail : DfO l.prog w K mg base "is_trail" 6 f_is_trail _ _ _ := ⟨PySem.W.mg_of X G a_is_trail, k_is_trail, bis_trail, ok_is_trail Fis_trail B hisinstance hzip Dis_crossing Dzones⟩
    have Ddraws : Df l.prog w K mg base "_law_draws" 1 f_draws _ _ _ := ⟨PySem.W.mg_of X G a_draws, k_draws, bdraws, ok_draws Fdraws B⟩
    have Dbelow : Df l.prog w K mg base "_law_below" 1 f_below _ _ _ := ⟨PySem.W.mg_of X G a_below, k_below, bbelow, ok_below Fbelow⟩
    have Dchoice : Df l.prog w K mg base "_law_choice" 2 f_choice _ _ _ := ⟨PySem.W.mg_of X G a_choice, k_choice, bchoice, ok_choice Fchoice B Dbelow⟩
    have Dmixed : Df l.prog w K mg base "_law_mixed" 2 f_mixed _ _ _ := ⟨PySem.W.mg_of X G a_mixed, k_mixed, bmixed, ok_mixed Fmixed B Dbelow⟩
    have Dlabels : Df l.prog w K mg base "_law_labels" 3 f_labels _ _ _ := ⟨PySem.W.mg_of X G a_labels, k_labels, blabels, ok_labels Flabels B Dbelow Dchoice⟩
    have Dgateways : Df l.prog w K mg base "_law_gateways" 3 f_gateways _ _ _ := ⟨PySem.W.mg_of X G a_gateways, k_gateways, bgateways, ok_gateways Fgateways B Dbelow Dchoice Dmixed⟩
    have Dworld : Df l.prog w K mg base "_law_world" 4 f_world _ _ _ := ⟨PySem.W.mg_of X G a_world, k_world, bworld, ok_world Fworld B Dbelow Dlabels Dgateways⟩
    have Dzone : Df l.prog w K mg base "_law_zone" 1 f_zone _ _ _ := ⟨PySem.W.mg_of X G a_zone, k_zone, bzone, ok_zone Fzone B hany⟩
    have Ddue : Df l.prog w K mg base "_law_due" 2 f_due _ _ _ := ⟨PySem.W.mg_of X G a_due, k_due, bdue, ok_due Fdue B hisinstance hstr hzip Dzone⟩
    have Dtrail : Df l.prog w K mg base "_law_trail" 3 f_trail _ _ _ := ⟨PySem.W.mg_of X G a_trail, k_trail, btrail, ok_trail Ftrail B hany Dzone Dchoice⟩
    have Dodd : Df l.prog w K mg base "_law_odd" 3 f_odd _ _ _ := ⟨PySem.W.mg_of X G a_odd, k_odd, bodd, ok_odd Fodd B hisinstance Dchoice⟩
    have Dbent : Df l.prog w K mg base "_law_bent" 7 f_bent _ _ _ := ⟨PySem.W.mg_of X G a_bent, k_bent, bbent, ok_bent Fbent B hisinstance Dodd Dbelow (PySem.W.mg_of X G a_bent) k_bent bbent 3⟩
    have Dright : Df l.prog w K mg base "_law_right" 7 f_right _ _ _ := ⟨PySem.W.mg_of X G a_right, k_right, bright, ok_right Fright B Dis_trail.df Ddue⟩
    exact ok_law Flaw B Ddraws Dworld Dbelow Dtrail Dchoice Dbent Dis_trail.df Dright
end K35

set_option Elab.async false
set_option linter.all false
open PySem PySem.W PyProof.Rows
set_option maxRecDepth 100000 in
set_option maxHeartbeats 0 in
theorem PySem.Challenge.cw_wraptrails_k35_trails_or_not_holds : PySem.Challenge.rw_wraptrails_k35_trails_or_not.Holds := by
  w_on; o_law; k_head; (case hw => w_witness2)
  k_fill
  refine WT.walkG (l := PySem.Challenge.rw_wraptrails_k35_trails_or_not) (n := 63) (k := 8) (x := "_law_script") (sp := fun w => K35.spLaw _) rfl (by decide) rfl ⟨rfl, by decide, by decide⟩ (fun w h Y => PySem.W.kIn_of Y) ?F (fun _ _ a ns hl _ hS => ⟨a, ns, rfl, hS, hl, fun _ => rfl⟩)
  case F =>
    intro w mg fa h KX G hmg
    refine' K35.all_mk KX G hmg ?a_wrapping_names ?l_wrapping_names ?c_wrapping_names ?k_wrapping_names ?a_members ?l_members ?c_members ?k_members ?a_leads ?l_leads ?c_leads ?k_leads ?a_exits ?l_exits ?c_exits ?k_exits ?a_shortest_path ?l_shortest_path ?c_shortest_path ?k_shortest_path ?a_connected ?l_connected ?c_connected ?k_connected ?n_connected ?t_connected ?a_zone_of ?l_zone_of ?c_zone_of ?k_zone_of ?a_zones ?l_zones ?c_zones ?k_zones ?a_is_crossing ?l_is_crossing ?c_is_crossing ?k_is_crossing ?a_is_trail ?l_is_trail ?c_is_trail ?k_is_trail ?a_draws ?l_draws ?c_draws ?k_draws ?a_below ?l_below ?c_below ?k_below ?a_choice ?l_choice ?c_choice ?k_choice ?a_labels ?l_labels ?c_labels ?k_labels ?a_mixed ?l_mixed ?c_mixed ?k_mixed ?a_gateways ?l_gateways ?c_gateways ?k_gateways ?a_world ?l_world ?c_world ?k_world ?a_zone ?l_zone ?c_zone ?k_zone ?a_due ?l_due ?c_due ?k_due ?a_trail ?l_trail ?c_trail ?k_trail ?a_odd ?l_odd ?c_odd ?k_odd ?a_bent ?l_bent ?c_bent ?k_bent ?a_right ?l_right ?c_right ?k_right ?a_law ?l_law ?c_law ?k_law ?z_len ?z_abs ?z_int ?z_range ?z_list ?z_tuple ?z_sorted ?z_min ?z_max ?z_all ?z_repr ?z_dict ?z_enumerate ?z_zip ?z_isinstance ?z_str ?z_any
    (case a_wrapping_names => k_is)
    (case l_wrapping_names => k_is)
    (case c_wrapping_names => k_is)
    (case k_wrapping_names => k_is)
    (case a_members => k_is)
    (case l_members => k_is)
    (case c_members => k_is)
    (case k_members => k_is)
    (case a_leads => k_is)
    (case l_leads => k_is)
    (case c_leads => k_is)
    (case k_leads => k_is)
    (case a_exits => k_is)
    (case l_exits => k_is)
    (case c_exits => k_is)
    (case k_exits => k_is)
    (case a_shortest_path => k_is)
    (case l_shortest_path => k_is)
    (case c_shortest_path => k_is)
    (case k_shortest_path => k_is)
    (case a_connected => k_is)
    (case l_connected => k_is)
    (case c_connected => k_is)
    (case k_connected => k_is)
    (case n_connected => k_is)
    (case t_connected => k_is)
    (case a_zone_of => k_is)
    (case l_zone_of => k_is)
    (case c_zone_of => k_is)
    (case k_zone_of => k_is)
    (case a_zones => k_is)
    (case l_zones => k_is)
    (case c_zones => k_is)
    (case k_zones => k_is)
    (case a_is_crossing => k_is)
    (case l_is_crossing => k_is)
    (case c_is_crossing => k_is)
    (case k_is_crossing => k_is)
    (case a_is_trail => k_is)
    (case l_is_trail => k_is)
    (case c_is_trail => k_is)
    (case k_is_trail => k_is)
    (case a_draws => k_is)
    (case l_draws => k_is)
    (case c_draws => k_is)
    (case k_draws => k_is)
    (case a_below => k_is)
    (case l_below => k_is)
    (case c_below => k_is)
    (case k_below => k_is)
    (case a_choice => k_is)
    (case l_choice => k_is)
    (case c_choice => k_is)
    (case k_choice => k_is)
    (case a_labels => k_is)
    (case l_labels => k_is)
    (case c_labels => k_is)
    (case k_labels => k_is)
    (case a_mixed => k_is)
    (case l_mixed => k_is)
    (case c_mixed => k_is)
    (case k_mixed => k_is)
    (case a_gateways => k_is)
    (case l_gateways => k_is)
    (case c_gateways => k_is)
    (case k_gateways => k_is)
    (case a_world => k_is)
    (case l_world => k_is)
    (case c_world => k_is)
    (case k_world => k_is)
    (case a_zone => k_is)
    (case l_zone => k_is)
    (case c_zone => k_is)
    (case k_zone => k_is)
    (case a_due => k_is)
    (case l_due => k_is)
    (case c_due => k_is)
    (case k_due => k_is)
    (case a_trail => k_is)
    (case l_trail => k_is)
    (case c_trail => k_is)
    (case k_trail => k_is)
    (case a_odd => k_is)
    (case l_odd => k_is)
    (case c_odd => k_is)
    (case k_odd => k_is)
    (case a_bent => k_is)
    (case l_bent => k_is)
    (case c_bent => k_is)
    (case k_bent => k_is)
    (case a_right => k_is)
    (case l_right => k_is)
    (case c_right => k_is)
    (case k_right => k_is)
    (case a_law => k_is)
    (case l_law => k_is)
    (case c_law => k_is)
    (case k_law => k_is)
    (case z_len => k_is)
    (case z_abs => k_is)
    (case z_int => k_is)
    (case z_range => k_is)
    (case z_list => k_is)
    (case z_tuple => k_is)
    (case z_sorted => k_is)
    (case z_min => k_is)
    (case z_max => k_is)
    (case z_all => k_is)
    (case z_repr => k_is)
    (case z_dict => k_is)
    (case z_enumerate => k_is)
    (case z_zip => k_is)
    (case z_isinstance => k_is)
    (case z_str => k_is)
    (case z_any => k_is)
